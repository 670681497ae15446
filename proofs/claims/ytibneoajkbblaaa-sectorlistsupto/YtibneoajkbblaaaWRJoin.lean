/-
  The document's Join, by definition: what it answers, for every input.
-/
import Derived.Test.YtibneoajkbblaaaWRCut
namespace Go.Proofs.Ytibneoajkbblaaa
open Go.RowKit

theorem take_next (fl : List Int) (c : Nat) (h : c < fl.length) : fl.take c ++ [fl.getD c 0] = fl.take (c + 1) := by
  rw [List.take_succ_eq_append_getElem h]
  simp [h]

set_option maxRecDepth 100000 in
set_option maxHeartbeats 1000000 in
theorem rjoin_any (n : Int) (fl : List Int) (M : Nat) (hl : Hid (fl.length = 128 * M)) (ad : Option Addr) (cap : Nat) (w : World) (hm : 128 * M ≤ 140737488355328) (HZ : Hid (BytesAt w ad fl)) :
    Calls Try.prog 18 #[.int .i64 n, .slice ad M cap] w fun e w' => ∃ v, e = .returned v ∧ Own w' w.heap.size 5 1 v (joinN n M) (fl.take (joinN n M)) ∧ Below w.heap.size w w' := by
  have hN1 : joinN n M ≤ 128 * M := by unfold joinN; omega
  have hN2 : (joinN n M : Int) < n → joinN n M = 128 * M := by unfold joinN; omega
  have hN3 : 0 < joinN n M → (joinN n M : Int) ≤ n := by unfold joinN; omega
  generalize joinN n M = N at *
  have HN2 := hid hN2
  have HN3 := hid hN3
  clear hN2 hN3
  go_enter Try.func18, Try.ntmps18
  go_wp2
  go_loopw [5, 6] (fun v i wr => ∃ k c : Nat, k ≤ M ∧ i = .int .i64 k ∧ c = min N (128 * k) ∧ Hid (Own wr w.heap.size 5 1 v c (fl.take c)) ∧ Hid (Below w.heap.size w wr)) (fun _ i _ => M - (intOf i).toNat)
  case atStart => exact ⟨0, 0, by omega, rfl, by omega, by rw [List.take_zero]; exact Own.nil _ _ _ _, Below.refl _ _⟩
  case round =>
    obtain ⟨k, c, hk, rfl, hc, HO, HBe⟩ := hrel
    by_cases hlt : k < M
    · have hs0 : ∃ b o, ad = some ⟨b, o, none⟩ ∧ b < w.heap.size ∧ ∀ j, j < fl.length → w.cell? ⟨b, o + j, none⟩ = some (.int .u8 (fl.getD j 0)) := by
        rcases HZ.out with h | h
        · have := hl.out; rw [h] at this; simp at this; omega
        · exact h
      obtain ⟨b, o, rfl, hb, hcell⟩ := hs0
      have HCE := hid hcell
      clear hcell
      go_wp2
      go_loopw [5, 7] (fun v i wr => ∃ q c : Nat, q ≤ 128 ∧ i = .int .i64 q ∧ c = min N (128 * k + q) ∧ Hid (Own wr w.heap.size 5 1 v c (fl.take c)) ∧ Hid (Below w.heap.size w wr)) (fun _ i _ => 128 - (intOf i).toNat)
      case atStart => exact ⟨0, c, by omega, rfl, by omega, HO, HBe⟩
      case round =>
        clear HO HBe hc c
        obtain ⟨q, c, hq, rfl, hc, HO, HBe⟩ := hrel
        obtain ⟨a1, c1, rfl, _, _⟩ := HO.out.at_
        by_cases hq2 : q < 128
        · by_cases hcn : (c : Int) < n
          · have hlN : 128 * k + q < N := by
              rcases Nat.lt_or_ge (128 * k + q) N with h | h
              · exact h
              · have e2 : c = N := by omega
                subst e2
                have := HN2.out hcn
                omega
            have ec : c = 128 * k + q := by omega
            have HC := hid (show c + 1 = min N (128 * k + (q + 1)) by omega)
            have hce := HCE.out c (by rw [hl.out]; omega)
            rw [← HBe.out.cell (p := ⟨b, o + c, none⟩) hb] at hce
            have HT := hid (take_next fl c (by rw [hl.out]; omega))
            generalize fl.getD c 0 = x at *
            rw [show o + c = o + k * 128 + q by omega] at hce
            have hsz := HBe.out.size
            have HOs := hid (HO.out.call ((Below.refl _ _).alloc (Nat.le_refl _) (.cells (SA [x]) 5)))
            have hrz : BytesAt (wr.alloc (.cells (SA [x]) 5)) (some ⟨wr.heap.size, 0, none⟩) [x] := row_bytes (heap_alloc_new _ _)
            have hsz1 : w.heap.size ≤ (wr.alloc (.cells (SA [x]) 5)).heap.size := by simp; omega
            have hcb : c + 1 ≤ 140737488355328 := by omega
            clear hc ec hlN
            go_wp2_with (at_builtin; refine append_bytes rfl _ _ rfl w.heap.size c 1 1 _ (fl.take c) [x] ⟨wr.heap.size, 0, none⟩ rfl rfl HOs.out rfl hrz hcb hsz1 ?_; intro v1 w1 HO1 hg1)
            rw [HT.out] at HO1
            have HBe1 := (HBe.out.alloc hsz (.cells (SA [x]) 5)).grown hg1 hsz1 HO.out.ge
            exact ⟨⟨q + 1, c + 1, by omega, by go_num, HC.out, HO1, HBe1⟩, by simp [intOf]; omega⟩
          · have hc1 : c = min N (128 * (k + 1)) := by
              rcases Nat.lt_or_ge (128 * k + q) N with h | h
              · have := HN3.out (by omega); omega
              · omega
            have HC := hid hc1
            clear hc hc1
            go_wp2
            exact ⟨⟨k + 1, c, by omega, by go_num, HC.out, HO, HBe⟩, by simp [intOf]; omega⟩
        · have hc1 : c = min N (128 * (k + 1)) := by omega
          have HC := hid hc1
          clear hc hc1
          go_wp2
          exact ⟨⟨k + 1, c, by omega, by go_num, HC.out, HO, HBe⟩, by simp [intOf]; omega⟩
    · have e : c = N := by omega
      subst e
      clear hc
      go_wp2
      go_ret
      exact ⟨_, rfl, HO.out, HBe.out⟩

end Go.Proofs.Ytibneoajkbblaaa
