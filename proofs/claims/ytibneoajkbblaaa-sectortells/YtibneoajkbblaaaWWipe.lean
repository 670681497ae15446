/-
  sector.Wipe returns, for every sector and place, the sector with zeros from there on.
-/
import Derived.Test.YtibneoajkbblaaaLaws
namespace Go.Proofs.Ytibneoajkbblaaa
open Go.RowKit

/-- The sector behind k rounds. -/
def wipK (s : List Int) (from_ : Int) : Nat → List Int
  | 0 => s
  | k + 1 => if from_ ≤ (k : Int) then (wipK s from_ k).set k 0 else wipK s from_ k
theorem wipK_len (s : List Int) (f : Int) : ∀ k, (wipK s f k).length = s.length
  | 0 => rfl
  | k + 1 => by
    simp only [wipK]
    split
    · rw [List.length_set, wipK_len s f k]
    · exact wipK_len s f k
def wip (s : List Int) (f : Int) : List Int := wipK s f 128
theorem wip_len (s : List Int) (f : Int) (h : s.length = 128) : (wip s f).length = 128 := by rw [wip, wipK_len, h]
theorem wipK_get (s : List Int) (f : Int) : ∀ k : Nat, k ≤ s.length → ∀ i : Nat, (wipK s f k).getD i 0 = if i < k ∧ f ≤ (i : Int) then 0 else s.getD i 0
  | 0, _, i => by rw [if_neg (by omega)]; rfl
  | k + 1, h, i => by
    have ih := wipK_get s f k (by omega) i
    simp only [wipK]
    split
    · rename_i hf
      have hk : k < (wipK s f k).length := by rw [wipK_len]; omega
      simp only [List.getD_eq_getElem?_getD, List.getElem?_set] at *
      by_cases e : k = i
      · subst e; rw [if_pos rfl, if_pos hk, if_pos ⟨by omega, hf⟩]; rfl
      · rw [if_neg e, ih]
        by_cases c : i < k ∧ f ≤ (i : Int)
        · rw [if_pos c, if_pos ⟨by omega, c.2⟩]
        · rw [if_neg c, if_neg (by omega)]
    · rename_i hf
      rw [ih]
      by_cases c : i < k ∧ f ≤ (i : Int)
      · rw [if_pos c, if_pos ⟨by omega, c.2⟩]
      · rw [if_neg c]
        by_cases c' : i < k + 1 ∧ f ≤ (i : Int)
        · have : i = k := by omega
          subst this
          exact absurd c'.2 hf
        · rw [if_neg c']
theorem wip_get (s : List Int) (f : Int) (h : s.length = 128) (i : Nat) : (wip s f).getD i 0 = if f ≤ (i : Int) then 0 else s.getD i 0 := by
  rw [wip, wipK_get s f 128 (by omega) i]
  by_cases hi : i < 128
  · by_cases c : f ≤ (i : Int)
    · rw [if_pos ⟨hi, c⟩, if_pos c]
    · rw [if_neg (fun k => c k.2), if_neg c]
  · have e : s.getD i 0 = 0 := by simp [List.getD_eq_getElem?_getD, List.getElem?_eq_none (by omega : s.length ≤ i)]
    rw [if_neg (by omega), e]
    split <;> rfl
theorem wip_sec {s : List Int} (hs : IsSec s) (f : Int) : IsSec (wip s f) := by
  refine ⟨wip_len s f hs.1, fun x hx => ?_⟩
  obtain ⟨i, hi, rfl⟩ := List.getElem_of_mem hx
  have e : (wip s f)[i] = (wip s f).getD i 0 := by simp [hi]
  rw [e, wip_get s f hs.1 i]
  split
  · omega
  · exact hs.at i

set_option maxRecDepth 100000 in
set_option maxHeartbeats 400000 in
theorem wipe_any (s : List Int) (f : Int) (w : World) (hs : s.length = 128) :
    Calls Try.prog 30 #[.agg (SA s), .int .i64 f] w fun e w' => e = .returned (.agg (SA (wip s f))) ∧ Below w.heap.size w w' := by
  have hz := zero_sec
  have HO : Hid (((w.alloc (.cells (SA s) 26)).alloc (.cells (SA Zs) 26)).heap[w.heap.size]? = some (.cells (SA s) 26 (0, 0))) := heap_alloc2_old w _ _
  have HN : Hid (((w.alloc (.cells (SA s) 26)).alloc (.cells (SA Zs) 26)).heap[w.heap.size + 1]? = some (.cells (SA Zs) 26 (0, 0))) := heap_alloc2_new w _ _
  have hb : Below w.heap.size w ((w.alloc (.cells (SA s) 26)).alloc (.cells (SA Zs) 26)) := ((Below.refl _ _).alloc (Nat.le_refl _) _).alloc (by simp) _
  go_enter Try.func30, Try.ntmps30
  go_wp2
  go_loopw [6] (fun i wr => ∃ k : Nat, k ≤ 128 ∧ i = .int .i64 k ∧ Hid (wr.heap[w.heap.size]? = some (.cells (SA (wipK s f k)) 26 (0, 0))) ∧ Hid (wr.heap[w.heap.size + 1]? = some (.cells (SA Zs) 26 (0, 0))) ∧ Below w.heap.size w wr) (fun i _ => 128 - (intOf i).toNat)
  case atStart => exact ⟨0, by omega, rfl, HO, HN, hb⟩
  case round =>
    obtain ⟨k, hk, rfl, H1, H2, h3⟩ := hrel
    by_cases hlt : k < 128
    · by_cases c : f ≤ (k : Int)
      · have hc := sec_cell H1.out k (by rw [wipK_len]; omega)
        have hf := sec_free H1.out k
        have E : Hid ((wipK s f k).set k 0 = wipK s f (k + 1)) := by show _ = _; simp only [wipK]; rw [if_pos c]
        go_wp2
        have hw := sec_setCell H1.out k 0
        rw [E.out] at hw
        exact ⟨⟨k + 1, by omega, by go_num, hw.here, by show _ = _; rw [hw.other _ (by omega)]; exact H2.out, hw.below h3 (by omega)⟩, by simp [intOf]; omega⟩
      · have E : Hid (wipK s f k = wipK s f (k + 1)) := by show _ = _; simp only [wipK]; rw [if_neg c]
        go_wp2
        exact ⟨⟨k + 1, by omega, by go_num, by rw [← E.out]; exact H1, H2, h3⟩, by simp [intOf]; omega⟩
    · have e : k = 128 := by omega
      subst e
      have hlen : (wipK s f 128).length = 128 := by rw [wipK_len, hs]
      go_wp2_with (first | refine load_sec rfl _ rfl w.heap.size rfl (wipK s f 128) hlen H1.out ?_ | (refine store_sec rfl _ _ rfl (w.heap.size + 1) rfl (wipK s f 128) rfl hlen Zs Zs_len H2.out ?_; intro w2 hw2))
      exact bodyPost_ret (v := .agg (SA (wipK s f 128))) (results_sec1 Try.results30 _ _ (w.heap.size + 1) _ hlen rfl hw2.here) rfl ⟨rfl, hw2.below h3 (by omega)⟩

end Go.Proofs.Ytibneoajkbblaaa
