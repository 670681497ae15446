/-
  The document's graph: New, Reaches, Free, Edges, Remove.
-/
import Derived.Test.YtfkommjpofpmbaaRef0
import Derived.Test.YtfkommjpofpmbaaLaw1
import Derived.Test.YtfkommjpofpmbaaLawSw
namespace Go.Proofs.Ytfkommjpofpmbaa
open Go.RowKit

variable {w : World} {r : Nat} {own : Nat → Prop} {E : Int → Int → Prop}

theorem dir_false {l : List (Int × Int)} (h : EList E l) : dirF l false = E := funext fun x => funext fun y => propext (by unfold dirF; simpa using h.2 (x, y))
theorem IsR.sec (h : IsR w r own E) : InSec E := let ⟨_, _, _, h⟩ := h; h.sec
theorem IsR.ring (h : IsR w r own E) : NoRing E := let ⟨_, _, _, h⟩ := h; h.ring
theorem IsR.lt (h : IsR w r own E) : r < w.heap.size := let ⟨_, _, _, h⟩ := h; slt h.me

theorem risSector_any (n : Int) (w : World) : Calls Try.prog 34 #[.int .i64 n] w fun e w' => e = .returned (.bool (isSec n)) ∧ w = w' := by
  by_cases h0 : 0 ≤ n
  · by_cases h1 : n < 4096
    · have HE : Hid (isSec n = true) := by show _ = _; simp [isSec, h0, h1]
      go_enter Try.func34, Try.ntmps34
      go_wp2
      go_ret
      exact ⟨ret_bool HE.out.symm, rfl⟩
    · have HE : Hid (isSec n = false) := by show _ = _; simp [isSec, h1]
      go_enter Try.func34, Try.ntmps34
      go_wp2
      go_ret
      exact ⟨ret_bool HE.out.symm, rfl⟩
  · have HE : Hid (isSec n = false) := by show _ = _; simp [isSec, h0]
    go_enter Try.func34, Try.ntmps34
    go_wp2
    go_ret
    exact ⟨ret_bool HE.out.symm, rfl⟩

theorem rnew_any (w : World) : Calls Try.prog 6 #[] w fun e w' => ∃ r own, e = .returned (.pointer (some ⟨r, 0, none⟩)) ∧ IsR w' r own (fun _ _ => False) ∧ (∀ k, own k → w.heap.size ≤ k ∧ k < w'.heap.size) ∧ Chg w w' No := by
  go_enter Try.func6, Try.ntmps6
  go_wp2
  go_ret
  refine ⟨w.heap.size, (· = w.heap.size), rfl, ⟨none, 0, [], by rw [heap_alloc_if, if_pos rfl]; rfl, .inl rfl, ⟨List.Pairwise.nil, fun x => by simp⟩, fun _ _ e => e.elim, fun a e => by obtain ⟨_, k⟩ := e.last; exact k, rfl, fun _ e => by cases e⟩, fun k e => ?_, Chg.alloc w _ No⟩
  subst e
  simp

set_option maxRecDepth 100000 in
set_option maxHeartbeats 1000000 in
theorem rreaches_any (x c : Int) (h : IsR w r own E) : Calls Try.prog 23 #[.pointer (some ⟨r, 0, none⟩), .int .i64 x, .int .i64 c] w fun e w' => ∃ b, e = .returned (.bool b) ∧ (b = true ↔ Reach E x c) ∧ Chg w w' No := by
  obtain ⟨a, ca, l, h⟩ := h
  have HC := reached_forth x h
  have hdir := hid (dir_false h.list)
  clear h
  go_enter Try.func23, Try.ntmps23
  go_wp2_with (first
    | (go_at_call 30; go_must (refine HC.mono ?_; rintro e w1 ⟨v, o, rfl, hv, hfirst, honce, hmem, hol, c1⟩; obtain ⟨go, co, rfl, hgo, hgo2, hcells⟩ := row_cells hv (by obtain ⟨t, e⟩ := hfirst; rw [e]; simp); clear HC))
    | go_in)
  have HX := hid (And.intro hcells (And.intro hmem c1))
  clear hv hfirst honce hmem c1 hcells
  generalize hO : o.length = O at *
  go_loopw [8] (fun i wr => ∃ (k : Nat), w1 = wr ∧ k ≤ O ∧ i = .int .i64 k ∧ ∀ j, j < k → o.getD j 0 ≠ c) (fun i _ => O - (intOf i).toNat)
  case atStart => exact ⟨0, rfl, by omega, rfl, fun j hj => by omega⟩
  case round =>
    obtain ⟨k, rfl, hk, rfl, hne⟩ := hrel
    have HN := hid hne
    clear hne
    by_cases hlt : k < O
    · have hxc := ints_cell HX.out.1 (k := k) (by omega)
      have hm : o.getD k 0 ∈ o := by rw [getI (by omega)]; exact List.getElem_mem _
      obtain ⟨y, hy⟩ : ∃ y, o.getD k 0 = y := ⟨_, rfl⟩
      rw [hy] at hxc hm
      have HY := hid hy
      clear hy
      have hi0 : (0 : Int) ≤ (k : Int) := by omega
      have hi1 : (k : Int) < (O : Int) := by omega
      by_cases hyc : y = c
      · subst hyc
        go_wp2_with fail
        go_ret
        exact ⟨_, rfl, by have := (HX.out.2.1 y).1 hm; rw [hdir.out] at this; simp [this], HX.out.2.2⟩
      · have hbe : (y == c) = false := by simp [hyc]
        have HYC := hid hyc
        clear hyc
        go_wp2_with fail
        go_roundw
        case rel => exact ⟨k + 1, by trivial, by omega, by go_num, fun j hj => by
          rcases Nat.lt_or_ge j k with q | q
          · exact HN.out j q
          · obtain rfl : j = k := by omega
            rw [HY.out]; exact HYC.out⟩
        case measure => simp [intOf]; omega
    · obtain rfl : k = O := by omega
      go_wp2_with fail
      go_ret
      refine ⟨_, rfl, ?_, HX.out.2.2⟩
      simp
      intro hr
      rw [← hdir.out, ← HX.out.2.1] at hr
      obtain ⟨j, hj, e⟩ := List.mem_iff_getElem.1 hr
      exact HN.out j (by omega) (by rw [getI hj]; exact e)

set_option maxRecDepth 100000 in
set_option maxHeartbeats 1000000 in
theorem rfree_any (n : Int) (h : IsR w r own E) : Calls Try.prog 24 #[.pointer (some ⟨r, 0, none⟩), .int .i64 n] w fun e w' => ∃ b, e = .returned (.bool b) ∧ (b = true ↔ ∀ x, ¬ E x n) ∧ w = w' := by
  obtain ⟨a, ca, l, h⟩ := h
  have hc0 := h.c0
  have hat := h.at_
  have hlen := elist_len h.list h.sec
  have HL := hid h.list
  clear h
  generalize hN : l.length = N at *
  go_enter Try.func24, Try.ntmps24
  go_wp2_with fail
  go_loopw [5] (fun i wr => ∃ (k : Nat), w = wr ∧ k ≤ N ∧ i = .int .i64 k ∧ ∀ j, j < k → (edK l j).2 ≠ n) (fun i _ => N - (intOf i).toNat)
  case atStart => exact ⟨0, rfl, by omega, rfl, fun j hj => by omega⟩
  case round =>
    obtain ⟨k, rfl, hk, rfl, hne⟩ := hrel
    have HN := hid hne
    clear hne
    by_cases hlt : k < N
    · rcases hat with h0 | ⟨g1, rfl, hg1, h1⟩
      · rw [h0] at hN; simp at hN; omega
      obtain ⟨p1, q1⟩ := EAt.cells h1 (k := k) (by omega)
      clear h1
      have hm : edK l k ∈ l := by
        have e : edK l k = l[k]'(by omega) := by simp [edK, show k < l.length by omega]
        rw [e]; exact List.getElem_mem _
      obtain ⟨y, hy⟩ : ∃ y, edK l k = y := ⟨_, rfl⟩
      rw [hy] at p1 q1 hm
      have HY := hid hy
      clear hy
      have hi0 : (0 : Int) ≤ (k : Int) := by omega
      have hi1 : (k : Int) < (N : Int) := by omega
      by_cases hyc : y.2 = n
      · subst hyc
        go_wp2_with fail
        go_ret
        exact ⟨_, rfl, by simp; exact ⟨y.1, (HL.out.2 y).1 hm⟩, rfl⟩
      · have hbe : (y.2 == n) = false := by simp [hyc]
        have HYC := hid hyc
        clear hyc
        go_wp2_with fail
        go_roundw
        case rel => exact ⟨k + 1, by trivial, by omega, by go_num, fun j hj => by
          rcases Nat.lt_or_ge j k with q | q
          · exact HN.out j q
          · obtain rfl : j = k := by omega
            rw [HY.out]; exact HYC.out⟩
        case measure => simp [intOf]; omega
    · obtain rfl : k = N := by omega
      clear hat
      go_wp2_with fail
      go_ret
      refine ⟨_, rfl, ?_, rfl⟩
      simp
      intro x hr
      have hr := (HL.out.2 (x, n)).2 hr
      obtain ⟨j, hj, e⟩ := List.mem_iff_getElem.1 hr
      exact HN.out j (by omega) (by simp [edK, hj, e])

set_option maxRecDepth 100000 in
set_option maxHeartbeats 1000000 in
theorem redges_any (h : IsR w r own E) : Calls Try.prog 13 #[.pointer (some ⟨r, 0, none⟩)] w fun e w' => ∃ v l, e = .returned v ∧ Edgs w' w.heap.size v l ∧ EList E l ∧ Chg w w' No := by
  obtain ⟨a, ca, l, h⟩ := h
  have hlen := elist_len h.list h.sec
  have h' := h.keep (Chg.alloc w (.cells #[] 48) No) (fun _ _ e => e)
  have hc0 := h'.c0
  have hat := h'.at_
  have HL := hid h.list
  have hE0 : Edgs (w.alloc (.cells #[] 48)) w.heap.size (.slice (some ⟨w.heap.size, 0, none⟩) 0 0) [] := ⟨rfl, .inr ⟨w.heap.size, 0, #[], rfl, Nat.le_refl _, heap_alloc_new _ _, Nat.le_refl _, by unfold maxLen; omega, rfl, rfl⟩⟩
  clear h h'
  go_enter Try.func13, Try.ntmps13
  go_wp2_with (first
    | (at_builtin; go_must (refine wp_copyE rfl _ _ rfl w.heap.size ca (.slice (some ⟨w.heap.size, 0, none⟩) 0 0) l a rfl rfl hE0 hat (by omega) (by simp) ?_; intro v5 w5 h51 h52))
    | go_in)
  go_ret
  exact ⟨_, l, rfl, h51, HL.out, (Chg.alloc w (.cells #[] 48) No).trans h52 (fun _ _ e => e) (fun j hj e => by have : w.heap.size = j := (by simpa [Value.ownBlock] using e); omega)⟩

end Go.Proofs.Ytfkommjpofpmbaa
