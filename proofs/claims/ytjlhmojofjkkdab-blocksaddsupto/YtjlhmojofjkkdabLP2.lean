/-
  ReadPointers, the program's and the document's.
-/
import Derived.Test.YtjlhmojofjkkdabLP1
namespace Go.Proofs.Ytjlhmojofjkkdab
open Go.RowKit
-- may lack

def ptrsTo (s : List Int) (n : Nat) : List Int := (List.range 32).map fun i => if i < n then numAt s (4 * i) 4 else 0
theorem ptrsTo_len (s : List Int) (n : Nat) : (ptrsTo s n).length = 32 := by simp [ptrsTo]
theorem ptrsTo_zero (s : List Int) : ptrsTo s 0 = Zp := by
  unfold ptrsTo Zp
  simp
  decide
theorem ptrsTo_step (s : List Int) (n : Nat) (_h : n < 32) : (ptrsTo s n).set n (numAt s (4 * n) 4) = ptrsTo s (n + 1) := by
  apply List.ext_getElem (by simp [ptrsTo])
  intro i h1 h2
  simp [ptrsTo, List.getElem_set]
  by_cases e : n = i
  · subst e; simp
  · rw [if_neg e]
    by_cases k : i < n
    · rw [if_pos k, if_pos (by omega)]
    · rw [if_neg k, if_neg (by omega)]
theorem getV_small {s : List Int} (hs : IsSec s) {P L : Nat} (h : P + L ≤ 128) (h1 : 1 ≤ L) (h7 : L ≤ 7) : getV s P L = numAt s P L := by
  have hb := numAt_bd hs P L
  have hin : inB (P : Int) (L : Int) = true := inB_true (by omega)
  have hp : (256 : Int) ^ L ≤ 256 ^ 7 := by
    have := Nat.pow_le_pow_right (n := 256) (by decide) h7
    have e := Int.ofNat_le.2 this
    simpa [Int.natCast_pow] using e
  have e7 : (256 : Int) ^ 7 = 72057594037927936 := by decide
  have ht : numAt s P L ≤ top := by rw [top_eq]; omega
  unfold getV getE getN
  simp only [Int.toNat_natCast, hin, ht, if_true, and_self]
theorem sayV_small {s : List Int} {P L : Nat} (h7 : L ≤ 7) : sayV s P L = numAt s P L := by
  unfold sayV
  rw [if_neg (fun k => by have := k.1; omega)]
  simp

set_option maxRecDepth 100000 in
set_option maxHeartbeats 2000000 in
theorem readPointers_any (s : List Int) (hs : IsSec s) (w : World) :
    Calls Try.prog 23 #[.agg (SA s)] w fun e w' => e = .returned (.agg (NA (ptrsTo s 32))) ∧ Below w.heap.size w w' := by
  have hzp := zero_ptr
  have hl := hs.1
  obtain ⟨W, hW⟩ : ∃ y, y = ((w.alloc (.cells (SA s) 77)).alloc (.cells (NA Zp) 59)).alloc (.cells (NA Zp) 59) := ⟨_, rfl⟩
  have hb2 : Below w.heap.size w ((w.alloc (.cells (SA s) 77)).alloc (.cells (NA Zp) 59)) := ((Below.refl _ _).alloc (Nat.le_refl _) _).alloc (by simp) _
  have hz2 : ((w.alloc (.cells (SA s) 77)).alloc (.cells (NA Zp) 59)).heap.size = w.heap.size + 2 := by simp
  have X0 : W.heap[w.heap.size]? = some (.cells (SA s) 77 (0, 0)) := by rw [hW, Below.heap_alloc _ _ _ (by omega)]; exact heap_alloc2_old w _ _
  have Y0 : W.heap[w.heap.size + 1]? = some (.cells (NA Zp) 59 (0, 0)) := by rw [hW, Below.heap_alloc _ _ _ (by omega)]; exact heap_alloc2_new w _ _
  have Z0 : W.heap[w.heap.size + 2]? = some (.cells (NA (ptrsTo s 0)) 59 (0, 0)) := by rw [hW, ← hz2, ptrsTo_zero]; exact heap_alloc_new _ _
  have B0 : Below w.heap.size w W := by rw [hW]; exact hb2.alloc (by omega) _
  go_enter Try.func23, Try.ntmps23
  go_upto_region 2 with fail
  rw [← hW]
  clear hW hb2 hz2
  go_upto_region 3 with fail
  go_loopw [5] (fun i wr => ∃ n : Nat, n ≤ 32 ∧ i = .int .i64 n ∧ wr.heap[w.heap.size]? = some (.cells (SA s) 77 (0, 0)) ∧ wr.heap[w.heap.size + 1]? = some (.cells (NA Zp) 59 (0, 0)) ∧ wr.heap[w.heap.size + 2]? = some (.cells (NA (ptrsTo s n)) 59 (0, 0)) ∧ Below w.heap.size w wr) (fun i _ => 32 - (intOf i).toNat)
  case atStart => exact ⟨0, by omega, rfl, X0, Y0, Z0, B0⟩
  case round =>
    obtain ⟨n, hn, rfl, h1, h2, h3, h4⟩ := hrel
    clear X0 Y0 Z0 B0
    have H1 := hid h1
    have H2 := hid h2
    have H3 := hid h3
    by_cases hlt : n < 32
    · have hlt' : (n : Int) < 32 := by omega
      have hg := fun w' => get1_any s ((n : Int) * 4) 4 w' hs
      rw [show getV s ((n : Int) * 4) 4 = numAt s (4 * n) 4 from by have := getV_small (s := s) (P := 4 * n) (L := 4) hs (by omega) (by decide) (by decide); rw [show ((n : Int) * 4) = ((4 * n : Nat) : Int) by omega]; exact this] at hg
      have hst := ptrsTo_step s n hlt
      generalize numAt s (4 * n) 4 = X at *
      have hln : (ptrsTo s n).length = 32 := ptrsTo_len s n
      clear h1 h2 h3
      go_wp2_with (first | refine load_sec rfl (.tmp 1) rfl w.heap.size rfl s hl H1.out ?_ | (go_at_call 29; refine (hg _).mono ?_; rintro e w2 ⟨rfl, hb2⟩; have k3 : w2.heap[w.heap.size + 2]? = some (.cells (NA (ptrsTo s n)) 59 (0, 0)) := by { rw [hb2.block _ (slt H3.out)]; exact H3.out }; have hc := row_cell k3 n (by omega); have hf := row_free k3 n; have K3 := hid k3; clear k3))
      have hp := row_setCell K3.out n X
      rw [hst] at hp
      exact ⟨⟨n + 1, by omega, by go_num, by rw [hp.other _ (by omega), hb2.block _ (slt H1.out)]; exact H1.out, by rw [hp.other _ (by omega), hb2.block _ (slt H2.out)]; exact H2.out, hp.here, hp.below (btr h4 hb2 h4.size) (by omega)⟩, by simp [intOf]; omega⟩
    · have e : n = 32 := by omega
      subst e
      have hln : (ptrsTo s 32).length = 32 := ptrsTo_len s 32
      clear h1 h2 h3
      generalize hPP : ptrsTo s 32 = PP at *
      go_wp2_with (first | refine load_R rfl 59 (.tmp 3) rfl (w.heap.size + 2) rfl 59 _ _ H3.out Try.underlying59 rfl (by rw [szP, NA_size, hln]) ?_ | (refine store_R rfl 59 (.tmp 2) _ rfl (w.heap.size + 1) _ rfl rfl 59 _ H2.out (by rw [szP, NA_size, hln]) (by rw [NA_size, NA_size, hln]; rfl) (NA_one _) ?_; intro w4 hw4))
      exact bodyPost_ret (v := .agg (NA PP)) (results_R1 Try.results23 _ _ (w.heap.size + 1) _ 59 _ Try.underlying59 rfl (by rw [szP, NA_size, hln]) rfl hw4.here) rfl ⟨by rw [hPP], hw4.below h4 (by omega)⟩

end Go.Proofs.Ytjlhmojofjkkdab
