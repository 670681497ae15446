/-
  The statements' own helpers super and awake.
-/
import Derived.Test.YtdddcllakjeplaaS7
namespace Go.Proofs.Ytdddcllakjeplaa
open Go.RowKit

theorem pickNat {c : Int} {m : Int} (hm : 1 ≤ m) : ∃ N : Nat, pickN c m = (N : Int) ∧ (N : Int) < m := by
  have h := pickN_bd c hm
  obtain ⟨N, hN⟩ := Int.eq_ofNat_of_zero_le h.1
  exact ⟨N, hN, by omega⟩
theorem szSu : (Try.prog.info? 23).map (·.size) = some 2 := by kernel_rfl

set_option maxRecDepth 100000 in
set_option maxHeartbeats 400000 in
theorem super_at (sc ic : Int) (A B : Nat) (M : Int) (hA2 : (A : Int) < 4089) (hM : (if 8 + (A : Int) - 2 < 512 then 8 + (A : Int) - 2 else 512) = M) (hM1 : 1 ≤ M) (hM2 : M ≤ 512) (hB2 : (B : Int) < M) (hA : pickN sc 4089 = (A : Int)) (hB : pickN ic M = (B : Int)) (hs : I64 sc) (hi : I64 ic) (w : World) : Calls Try.prog 17 #[.int .i64 sc, .int .i64 ic] w fun e w' => e = .returned (.agg #[.int .i64 ((8 + A : Nat) : Int), .int .i64 ((1 + B : Nat) : Int)]) ∧ Below w.heap.size w w' := by
  have HA := hid fun w => pick_any sc 4089 w hs (by decide) (by decide)
  have HB := hid fun w => pick_any ic M w hi hM1 (by omega)
  rw [hA] at HA
  rw [hB] at HB
  have HC : Hid (((8 + A : Nat) : Int) = 8 + (A : Int) ∧ ((1 + B : Nat) : Int) = 1 + (B : Int)) := ⟨by omega, by omega⟩
  clear hA hB
  have hz := heap_alloc_new w (.cells #[.int .i64 0, .int .i64 0] 23)
  replace hz := hid hz
  have HW := hid (below_box w (.cells #[.int .i64 0, .int .i64 0] 23))
  go_enter Try.func17, Try.ntmps17
  go_wp2_with (first | (go_at_call 18; refine (HA.out _).mono ?_; rintro e w1 ⟨rfl, rfl⟩; clear HA) | (go_at_call 18; refine (HB.out _).mono ?_; rintro e w1 ⟨rfl, rfl⟩) | (refine store_R rfl 23 (.tmp 4) _ rfl w.heap.size #[.int .i64 (8 + (A : Int)), .int .i64 (1 + (B : Int))] rfl rfl 23 _ hz.out (by rw [szSu]; rfl) rfl (by simp [Value.oneCell']) ?_; intro w4 h4; have H4 := hid h4; clear h4))
  dsimp only [Act.put]
  rw [HC.out.1, HC.out.2]
  exact bodyPost_ret (v := .agg #[.int .i64 (8 + (A : Int)), .int .i64 (1 + (B : Int))]) (results_R1 Try.results17 _ _ w.heap.size _ 23 _ Try.underlying23 rfl (by rw [szSu]; rfl) rfl H4.out.here) rfl ⟨rfl, H4.out.below HW.out (Nat.le_refl _)⟩
theorem super_ex (sc ic : Int) (hs : I64 sc) (hi : I64 ic) : ∃ a b : Nat, (8 ≤ a ∧ a ≤ 4096 ∧ 1 ≤ b ∧ b ≤ 512 ∧ b + 2 ≤ a) ∧ ∀ w, Calls Try.prog 17 #[.int .i64 sc, .int .i64 ic] w fun e w' => e = .returned (.agg #[.int .i64 (a : Int), .int .i64 (b : Int)]) ∧ Below w.heap.size w w' := by
  obtain ⟨A, hA, hA2⟩ := pickNat (c := sc) (show (1 : Int) ≤ 4089 by decide)
  obtain ⟨M, hM⟩ : ∃ M : Int, (if 8 + (A : Int) - 2 < 512 then 8 + (A : Int) - 2 else 512) = M := ⟨_, rfl⟩
  have hMb : 1 ≤ M ∧ M ≤ 512 ∧ M ≤ 8 + (A : Int) - 2 := by
    rw [← hM]
    split <;> omega
  obtain ⟨B, hB, hB2⟩ := pickNat (c := ic) hMb.1
  exact ⟨8 + A, 1 + B, ⟨by omega, by omega, by omega, by omega, by omega⟩, fun w => super_at sc ic A B M hA2 hM hMb.1 hMb.2.1 hB2 hA hB hs hi w⟩
theorem mayB_of {a b : Nat} (h : 8 ≤ a ∧ a ≤ 4096 ∧ 1 ≤ b ∧ b ≤ 512 ∧ b + 2 ≤ a) : mayB a b = true := decide_eq_true ⟨by omega, by omega⟩

def sAw : SS := ⟨12, 3, [false, true, false, false], [0, 0, 0, 0, 1, 0, 1, 0, 0, 0, 0, 0]⟩
theorem sAw_new : newS 12 3 [1] [4, 6] = some sAw := by kernel_rfl
theorem sAw_b : FirstIs (bt sAw.T) ((sAw.ni : Int) + 1) 5 true := ⟨fun _ => ⟨by decide, by decide, by decide, by decide, fun j h1 h2 h3 => by
  have h1 : (4 : Int) ≤ j := h1
  have e : j = 4 := by omega
  subst e
  decide⟩, fun e => Bool.noConfusion e⟩
theorem sAw_i : FirstIs sAw.I 1 2 true := ⟨fun _ => ⟨by decide, by decide, by decide, by decide, fun j h1 h2 h3 => by
  have e : j = 1 := by omega
  subst e
  decide⟩, fun e => Bool.noConfusion e⟩
theorem sAw_room : roomV sAw = #[.int .i64 6, .int .i64 0, .int .i64 2] := rfl

theorem ints_row {w : World} {g : Nat} {xs : List Int} {t : TypeId} (h : w.heap[g]? = some (.cells (xs.map (Value.int .i64)).toArray t (0, 0))) : IntsAt w (some ⟨g, 0, none⟩) xs :=
  .inr ⟨g, 0, rfl, slt h, fun j hj => by rw [cell_of_row _ _ _ _ _ _ h]; simp [hj]⟩

set_option maxRecDepth 100000 in
set_option maxHeartbeats 1000000 in
theorem awake_any (w : World) : Calls Try.prog 5 #[] w fun e w' => e = .returned (.bool true) ∧ Below w.heap.size w w' := by
  have hb1 := below_box w (.cells #[.int .i64 1] 3)
  have hb2 := below_box (w.alloc (.cells #[.int .i64 1] 3)) (.cells #[.int .i64 4, .int .i64 6] 3)
  have BW := hid (hb1.trans (hb2.mono hb1.size))
  have I1 : Hid (IntsAt ((w.alloc (.cells #[.int .i64 1] 3)).alloc (.cells #[.int .i64 4, .int .i64 6] 3)) (some ⟨w.heap.size, 0, none⟩) [1]) := ints_row (t := 3) ((Chg.of_below hb2 No).keep (heap_alloc_new w _) (fun e => e))
  have I2 : Hid (IntsAt ((w.alloc (.cells #[.int .i64 1] 3)).alloc (.cells #[.int .i64 4, .int .i64 6] 3)) (some ⟨w.heap.size + 1, 0, none⟩) [4, 6]) := ints_row (t := 3) (by have := heap_alloc_new (w.alloc (.cells #[.int .i64 1] 3)) (.cells #[.int .i64 4, .int .i64 6] 3); rw [World.size_alloc] at this; exact this)
  have HN := hid (sNew_any 12 3 [1] [4, 6] (some ⟨w.heap.size, 0, none⟩) (some ⟨w.heap.size + 1, 0, none⟩) 1 1 2 2 ((w.alloc (.cells #[.int .i64 1] 3)).alloc (.cells #[.int .i64 4, .int .i64 6] 3)) rfl (by decide) I1 rfl (by decide) I2 12 3 rfl rfl rfl)
  rw [sAw_new] at HN
  clear hb1 hb2
  go_enter Try.func5, Try.ntmps5
  go_upto_region 2 with (go_at_call 7; refine HN.out.mono ?_; rintro e w1 ⟨p, rfl, h1, b1⟩; have H1 := hid h1; have B1 := hid b1; clear h1 b1)
  have BW1 := hid (BW.out.trans (B1.out.mono BW.out.size))
  generalize hlo : ((w.alloc (.cells #[.int .i64 1] 3)).alloc (.cells #[.int .i64 4, .int .i64 6] 3)).heap.size = lo at *
  have hLo : w.heap.size ≤ lo := by rw [← hlo, World.size_alloc, World.size_alloc]; omega
  have HLo := hid hLo
  clear hLo
  clear hlo I1 I2 HN BW B1
  generalize w1.heap.size = hi at H1
  go_upto_region 5 with (go_at_call 13; refine (room_any _ H1.out).mono ?_; rintro e w2 ⟨rfl, b2⟩; rw [sAw_room]; have B2 := hid b2; have H2 := hid (H1.out.call b2); clear b2)
  have hb3 := below_box w2 (.cells #[.int .i64 6, .int .i64 0, .int .i64 2] 40)
  have H3 := hid (H2.out.call hb3)
  have BW3 := hid ((BW1.out.trans (B2.out.mono BW1.out.size)).trans (hb3.mono (Nat.le_trans BW1.out.size B2.out.size)))
  have HR3 : Hid ((w2.alloc (.cells #[.int .i64 6, .int .i64 0, .int .i64 2] 40)).heap[w2.heap.size]? = some (.cells #[.int .i64 6, .int .i64 0, .int .i64 2] 40 (0, 0))) := heap_alloc_new _ _
  have HQ : Hid (hi ≤ w2.heap.size) := H2.out.top
  clear hb3 H2 H1 B2 BW1
  generalize w2.alloc (.cells #[.int .i64 6, .int .i64 0, .int .i64 2] 40) = w3 at *
  generalize w2.heap.size = q at *
  go_upto_region 7 with (first | (go_at_call 15; refine (takeBlock_any 5 true _ H3.out sAw_b).mono ?_; rintro e w4 ⟨rfl, h4, c4⟩; have H4 := hid h4; have C4 := hid c4; clear h4 c4; rw [show errN true 80 = 0 from rfl]) | (go_at_call 19; refine (takeInode_any 2 true _ H4.out sAw_i).mono ?_; rintro e w5 ⟨rfl, h5, c5⟩; have C5 := hid c5; clear h5 c5; rw [show errN true 81 = 0 from rfl]))
  have CC := hid (C4.out.trans C5.out (fun _ _ e => e) (fun _ _ e => e))
  have HR5 := CC.out.keep HR3.out (fun e => by have := e.2; have := HQ.out; omega)
  have c0 : w5.cell? ⟨q, 0, none⟩ = some (.int .i64 6) := (cell_of_row _ _ _ _ _ _ HR5).trans rfl
  have c1 : w5.cell? ⟨q, 1, none⟩ = some (.int .i64 0) := (cell_of_row _ _ _ _ _ _ HR5).trans rfl
  have c2 : w5.cell? ⟨q, 2, none⟩ = some (.int .i64 2) := (cell_of_row _ _ _ _ _ _ HR5).trans rfl
  have BW5 := hid (CC.out.to BW3.out BW3.out.size (fun k e => Nat.le_trans HLo.out e.1))
  clear HR5
  go_wp2
  go_ret
  exact ⟨rfl, BW5.out⟩

end Go.Proofs.Ytdddcllakjeplaa
