/-
  The document's own Zero, Wipe and Set come to the same as the plain functions, for every sector and number.
-/
import Derived.Test.YtibneoajkbblaaaWRef2
import Derived.Test.YtibneoajkbblaaaWWipe
import Derived.Test.YtibneoajkbblaaaWCut
import Derived.Test.YtibneoajkbblaaaHeld
namespace Go.Proofs.Ytibneoajkbblaaa
open Go.RowKit

theorem zero_no (s : List Int) (j : Nat) (h : s.getD j 0 ≠ 0) : decide (s = Zs) = false := by
  rw [decide_eq_false_iff_not]
  rintro rfl
  exact h (zl_get 128 j)
theorem zero_yes (s : List Int) (hs : s.length = 128) (h : ∀ j, j < 128 → s.getD j 0 = 0) : decide (s = Zs) = true := by
  rw [decide_eq_true_iff]
  apply ext_getD (by rw [hs, Zs_len])
  intro i hi
  rw [h i (by omega)]
  exact (zl_get 128 i).symm

set_option maxRecDepth 100000 in
set_option maxHeartbeats 400000 in
theorem rzero_any (s : List Int) (hs : s.length = 128) (w : World) :
    Calls Try.prog 32 #[.agg (SA s)] w fun e w' => e = .returned (.bool (decide (s = Zs))) ∧ Below w.heap.size w w' := by
  have HO : Hid ((w.alloc (.cells (SA s) 26)).heap[w.heap.size]? = some (.cells (SA s) 26 (0, 0))) := heap_alloc_new w _
  have HY := hid (zero_yes s hs)
  have HN := hid (zero_no s)
  generalize decide (s = Zs) = q at *
  go_enter Try.func32, Try.ntmps32
  go_wp2
  go_loop [3] (fun i => ∃ k : Nat, k ≤ 128 ∧ i = .int .i64 k ∧ Hid (∀ j, j < k → s.getD j 0 = 0)) (fun i => 128 - (intOf i).toNat)
  case atStart => exact ⟨0, by omega, rfl, fun j hj => by omega⟩
  case round =>
    obtain ⟨k, hk, rfl, HZ⟩ := hrel
    by_cases hlt : k < 128
    · have hc := sec_cell HO.out k (by rw [hs]; exact hlt)
      by_cases z : s.getD k 0 = 0
      · rw [z] at hc
        have Z := hid z
        clear z
        go_wp2
        refine ⟨⟨k + 1, by omega, by go_num, fun j hj => ?_⟩, by simp [intOf]; omega⟩
        by_cases e : j = k
        · rw [e]; exact Z.out
        · exact HZ.out j (by omega)
      · have hq := HN.out k z
        subst hq
        have z' : (s.getD k 0 != 0) = true := by simpa using z
        generalize s.getD k 0 = b at *
        clear z
        go_wp2
        go_ret
        exact ⟨rfl, (Below.refl _ _).alloc (Nat.le_refl _) _⟩
    · have hq := HY.out fun j hj => HZ.out j (by omega)
      subst hq
      go_wp2
      go_ret
      exact ⟨rfl, (Below.refl _ _).alloc (Nat.le_refl _) _⟩

/-- Three blocks of a call's own: the box, the result, the copy. -/
theorem three_start (w : World) (s : List Int) : HB w [(w.heap.size + 1, .cells (SA Zs) 26 (0, 0)), (w.heap.size, .cells (SA s) 26 (0, 0))] ((w.alloc (.cells (SA s) 26)).alloc (.cells (SA Zs) 26)) := by
  have h0 : HB w [] w := ⟨by simp, by simp, Below.refl _ _⟩
  have h2 := (h0.alloc (.cells (SA s) 26)).alloc (.cells (SA Zs) 26)
  rw [show (w.alloc (.cells (SA s) 26)).heap.size = w.heap.size + 1 by simp] at h2
  exact h2

theorem heap3 (w : World) (a b c : Obj) : (((w.alloc a).alloc b).alloc c).heap[w.heap.size + 2]? = some c := by
  have h := heap_alloc_new ((w.alloc a).alloc b) c
  rw [show ((w.alloc a).alloc b).heap.size = w.heap.size + 2 by simp] at h
  exact h
theorem three_copy {w : World} {s c : List Int} {w2 : World} (h : HB w [(w.heap.size + 1, .cells (SA Zs) 26 (0, 0)), (w.heap.size, .cells (SA s) 26 (0, 0))] ((w.alloc (.cells (SA s) 26)).alloc (.cells (SA Zs) 26)))
    (hw : Wrote (((w.alloc (.cells (SA s) 26)).alloc (.cells (SA Zs) 26)).alloc (.cells (SA Zs) 26)) (w.heap.size + 2) c w2) :
    HB w [(w.heap.size + 2, .cells (SA c) 26 (0, 0)), (w.heap.size + 1, .cells (SA Zs) 26 (0, 0)), (w.heap.size, .cells (SA s) 26 (0, 0))] w2 := by
  have h3 := h.alloc (.cells (SA Zs) 26)
  rw [show ((w.alloc (.cells (SA s) 26)).alloc (.cells (SA Zs) 26)).heap.size = w.heap.size + 2 by simp] at h3
  exact h3.write hw (by omega) (by simp)

set_option maxRecDepth 100000 in
set_option maxHeartbeats 400000 in
theorem rwipe_any (s : List Int) (f : Int) (w : World) (hs : s.length = 128) :
    Calls Try.prog 31 #[.agg (SA s), .int .i64 f] w fun e w' => e = .returned (.agg (SA (wip s f))) ∧ Below w.heap.size w w' := by
  have hz := zero_sec
  have HB0 := hid (three_start w s)
  go_enter Try.func31, Try.ntmps31
  go_wp2_with (first | refine load_sec rfl _ rfl w.heap.size rfl s hs (HB0.out.get (by simp)) ?_ | (refine store_sec rfl _ _ rfl (w.heap.size + 2) rfl s rfl hs Zs Zs_len (by exact heap3 w _ _ _) ?_; intro w2 hw2))
  have HB2 : Hid (HB w [(w.heap.size + 2, .cells (SA s) 26 (0, 0)), (w.heap.size + 1, .cells (SA Zs) 26 (0, 0)), (w.heap.size, .cells (SA s) 26 (0, 0))] w2) := three_copy HB0.out hw2
  clear hw2 HB0
  go_loopw [6] (fun i wr => ∃ k : Nat, k ≤ 128 ∧ i = .int .i64 k ∧ Hid (HB w [(w.heap.size + 2, .cells (SA (wipK s f k)) 26 (0, 0)), (w.heap.size + 1, .cells (SA Zs) 26 (0, 0)), (w.heap.size, .cells (SA s) 26 (0, 0))] wr)) (fun i _ => 128 - (intOf i).toNat)
  case atStart => exact ⟨0, by omega, rfl, HB2⟩
  case round =>
    obtain ⟨k, hk, rfl, HR⟩ := hrel
    by_cases hlt : k < 128
    · by_cases c : f ≤ (k : Int)
      · have hc := sec_cell (HR.out.get (g := w.heap.size + 2) (o := .cells (SA (wipK s f k)) 26 (0, 0)) (by simp)) k (by rw [wipK_len]; omega)
        have hf := sec_free (HR.out.get (g := w.heap.size + 2) (o := .cells (SA (wipK s f k)) 26 (0, 0)) (by simp)) k
        have E : Hid ((wipK s f k).set k 0 = wipK s f (k + 1)) := by show _ = _; simp only [wipK]; rw [if_pos c]
        go_wp2
        have hw := sec_setCell (HR.out.get (g := w.heap.size + 2) (o := .cells (SA (wipK s f k)) 26 (0, 0)) (by simp)) k 0
        rw [E.out] at hw
        exact ⟨⟨k + 1, by omega, by go_num, HR.out.write hw (by omega) (by simp)⟩, by simp [intOf]; omega⟩
      · have E : Hid (wipK s f k = wipK s f (k + 1)) := by show _ = _; simp only [wipK]; rw [if_neg c]
        go_wp2
        exact ⟨⟨k + 1, by omega, by go_num, by rw [← E.out]; exact HR⟩, by simp [intOf]; omega⟩
    · have e : k = 128 := by omega
      subst e
      have hlen : (wipK s f 128).length = 128 := by rw [wipK_len, hs]
      go_wp2_with (first | refine load_sec rfl _ rfl (w.heap.size + 2) rfl (wipK s f 128) hlen (HR.out.get (by simp)) ?_ | (refine store_sec rfl _ _ rfl (w.heap.size + 1) rfl (wipK s f 128) rfl hlen Zs Zs_len (HR.out.get (by simp)) ?_; intro w3 hw3))
      exact bodyPost_ret (v := .agg (SA (wipK s f 128))) (results_sec1 Try.results31 _ _ (w.heap.size + 1) _ hlen rfl hw3.here) rfl ⟨rfl, hw3.below HR.out.old (by omega)⟩

end Go.Proofs.Ytibneoajkbblaaa
