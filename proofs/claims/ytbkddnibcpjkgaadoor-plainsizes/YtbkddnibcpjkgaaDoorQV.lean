/-
  The statements' example: known returns true.
-/
import Derived.Test.YtbkddnibcpjkgaaDoorQU
namespace Go.Proofs.YtbkddnibcpjkgaaDoor
open Go.RowKit

section
variable {ops : Array Oper} {rest : List Oper} {o : Oper} {a : Act} {w : World} {Q : Exit → Act → World → Prop}
theorem conv_G (hw : Region.wanted o (yielded ops a.tmps) = true) (t1 t2 : TypeId) (x : Operand) (ho : o.op = .convert t1 t2 x) (v v' : Value) (w' : World) (hx : a.eval x = v)
    (hr : (convert t1 t2 v).run Tryd.prog w = .ok v' w') (h : wpList Tryd.prog ops Q rest (a.put o.dst v') w') : wpList Tryd.prog ops Q (o :: rest) a w :=
  wpList_want hw fun _ hK => by
    unfold Oper.wp execOp
    simp only [ho, hx, Sem.run_bind, hr, Result.andThen_ok, Sem.run_pure]
    exact hK _ _ h
theorem load_part (hgd : o.guard = none) (t : TypeId) (x : Operand) (ho : o.op = .load t x) (g off : Nat) (hx : a.eval x = .pointer (some ⟨g, off, none⟩)) (tb : TypeId) (c xs : Array Value) (d : TypeDesc) (hg : w.heap[g]? = some (.cells c tb (0, 0))) (hxs : ∀ (j : Nat) v, xs[j]? = some v → c[off + j]? = some v)
    (hu : Tryd.prog.underlying t = some d) (hd : d.isRow = true) (hi : (Tryd.prog.info? t).map (·.size) = some xs.size)
    (h : wpList Tryd.prog ops Q rest (a.put o.dst (.agg xs)) w) : wpList Tryd.prog ops Q (o :: rest) a w :=
  wpList_plain hgd fun _ hK => by
    have hp : (loadVar t ⟨g, off, none⟩).run Tryd.prog w = .ok (.agg xs) w := by
      have h := run_loadVar_mid (P := Tryd.prog) w g off t xs.toList d (fun j v hv => by rw [cell_of_row _ _ _ _ tb (0, 0) hg]; exact hxs j v (by simpa using hv)) hu hd (by simpa using hi)
      simpa using h
    unfold Oper.wp execOp
    simp only [ho, hx, Instr.loadAt, Instr.sureAddr, Sem.run_bind, Sem.run_pure, Result.andThen_ok, hp]
    exact hK _ _ h
end
theorem conv_read (w : World) (g : Nat) (h : w.heap[g]? = some (.cells (SA [0, 0, 120, 121, 122]) 5 (0, 0))) : (convert 34 9 (.slice (some ⟨g, 0, none⟩) 5 5)).run Tryd.prog w = .ok (.string ⟨#[0, 0, 120, 121, 122]⟩) w := by
  rw [run_convert_bytes_string w 34 9 5 _ _ _ Tryd.underlying34 Tryd.underlying5 Tryd.underlying9]
  have hl := run_loadCells_list (P := Tryd.prog) w ⟨g, 0, none⟩ (([0, 0, 120, 121, 122] : List Int).map (Value.int .u8)) (fun j v hj => by
    rw [addr_add, cell_of_row _ _ _ _ _ _ h]
    show (SA [0, 0, 120, 121, 122])[0 + j]? = some v
    rw [Nat.zero_add]
    simpa [SA] using hj)
  exact run_bytesToString w _ 5 5 [0, 0, 120, 121, 122] hl
theorem conv_same (w : World) (C : Array Value) (n c : Nat) : (convert 34 34 (.slice (some ⟨w.heap.size, 0, none⟩) n c)).run Tryd.prog (w.alloc (.cells C 5)) = .ok (.slice (some ⟨w.heap.size, 0, none⟩) n c) (w.alloc (.cells C 5 (C.size, C.size + 1))) :=
  Lib.run_convert_bytes_const w 34 5 C n c Tryd.underlying34 Tryd.underlying5
/-- An answer laid into memory, beside what was there. -/
theorem laid_answer {w0 w1 w2 : World} {q : PC} {s : PSt} {A Z : Array Value} (h : IsPl w1 q s) (hc : Chg w0 w1 No) (hp : PutR (w1.alloc (.cells Z 37)) w1.heap.size A 37 w2) : IsPl w2 q s ∧ Chg w0 w2 No ∧ Chg w1 w2 No := by
  have ha : Chg w1 (w1.alloc (.cells Z 37)) No := Chg.alloc _ _ No
  have h12 : Chg w1 w2 No := ha.trans (kt_new hp) (fun _ _ e => e) (fun j hj e => by omega)
  exact ⟨h.call h12, hc.tr h12, h12⟩

theorem part_ok (j : Nat) (v : Value) (hj : (#[.int .i64 2, .int .i64 1, .int .i64 1, .int .i64 0, .int .i64 5, .int .i64 0] : Array Value)[j]? = some v) :
    (#[.int .i64 0, .int .i64 2, .int .i64 1, .int .i64 1, .int .i64 0, .int .i64 5, .int .i64 0, .slice none 0 0, .slice none 0 0, .bool false] : Array Value)[1 + j]? = some v := by
  match j, hj with
  | 0, h => exact h
  | 1, h => exact h
  | 2, h => exact h
  | 3, h => exact h
  | 4, h => exact h
  | 5, h => exact h
  | n + 6, h => simp at h
theorem IsPl.notAns {w : World} {q : PC} {s : PSt} {g : Nat} {A : Array Value} {c : NC} {i : Int} (h : IsPl w q s) (hg : w.heap[g]? = some (.cells A 37 (0, 0))) (hq : q.nc i = some c) (hb : BlkN c g) : False := by
  obtain ⟨x, _, hN⟩ := h.nd i c hq
  rcases hb with e | e | e | e
  · rw [e, hN.me] at hg; cases hg
  · obtain ⟨_, _, m⟩ := hN.bl.isMap; rw [e, m] at hg; cases hg
  · obtain ⟨_, _, m⟩ := hN.nm.isMap; rw [e, m] at hg; cases hg
  · obtain ⟨_, B, hB⟩ := hN.sl.blk e; rw [hB] at hg; cases hg

set_option maxHeartbeats 4000000 in
set_option maxRecDepth 100000 in
theorem known_any (w : World) (hu : UB w) (hm : ML w) : Calls Tryd.prog 5 #[] w fun e w' => e = .returned (.bool true) ∧ Chg w w' No := by
  have hNew := new_good 40 8 w ⟨by decide, by decide, by decide, by decide, by decide⟩
  have HU := hid hu
  have HM := hid hm
  have hb1 : ∀ W, (Instr.build 40 #[(0, .int .i64 1), (1, .string ⟨#[47, 97]⟩), (6, .int .i64 5)]).run Tryd.prog W = .ok (.agg #[.int .i64 1, .string ⟨#[47, 97]⟩, .string ⟨#[]⟩, .int .i64 0, .int .i64 0, .slice none 0 0, .int .i64 5, .int .i64 0]) W := fun W => by kernel_rfl
  have hb2 : ∀ W g, (Instr.build 40 #[(0, .int .i64 7), (1, .string ⟨#[47, 97]⟩), (3, .int .i64 130), (5, .slice (some ⟨g, 0, none⟩) 3 3)]).run Tryd.prog W = .ok (.agg #[.int .i64 7, .string ⟨#[47, 97]⟩, .string ⟨#[]⟩, .int .i64 130, .int .i64 0, .slice (some ⟨g, 0, none⟩) 3 3, .int .i64 0, .int .i64 0]) W := fun W g => by kernel_rfl
  have hb3 : ∀ W, (Instr.build 40 #[(0, .int .i64 9), (1, .string ⟨#[47, 97]⟩), (3, .int .i64 128), (4, .int .i64 99)]).run Tryd.prog W = .ok (.agg #[.int .i64 9, .string ⟨#[47, 97]⟩, .string ⟨#[]⟩, .int .i64 128, .int .i64 99, .slice none 0 0, .int .i64 0, .int .i64 0]) W := fun W => by kernel_rfl
  have hb4 : ∀ W, (Instr.build 40 #[(0, .int .i64 2), (1, .string ⟨#[47, 97, 47, 98]⟩)]).run Tryd.prog W = .ok (.agg #[.int .i64 2, .string ⟨#[47, 97, 47, 98]⟩, .string ⟨#[]⟩, .int .i64 0, .int .i64 0, .slice none 0 0, .int .i64 0, .int .i64 0]) W := fun W => by kernel_rfl
  have hb5 : ∀ W, (Instr.build 33 #[(0, .int .i64 2), (1, .int .i64 1), (2, .int .i64 1), (4, .int .i64 5)]).run Tryd.prog W = .ok (.agg #[.int .i64 2, .int .i64 1, .int .i64 1, .int .i64 0, .int .i64 5, .int .i64 0]) W := fun W => by kernel_rfl
  have hb6 : ∀ W, (Instr.build 42 #[(0, .int .i64 29), (2, .int .i64 6)]).run Tryd.prog W = .ok (.agg #[.int .i64 29, .int .i64 0, .int .i64 6]) W := fun W => by kernel_rfl
  clear hu hm
  go_enter Tryd.func5, Tryd.ntmps5
  go_upto_region 4 with (first
    | (go_at_call 6; go_must (refine hNew.mono ?_; rintro e w1 ⟨q, rfl, hP1, hc1, _, hmb, hbl⟩; have HK1 : Hid (KQ w w1 q K0) := hid ⟨hP1, hc1, hmb, hbl 1⟩; clear hP1 hc1 hmb hbl))
    | fail)
  have hCr := k_create HK1.out HU.out HM.out
  rw [ans_K0] at hCr
  unfold opA pA sZ at hCr
  clear hNew
  go_upto_region 5 with (first
    | (go_at_call 8; go_must (refine hCr.mono ?_; rintro e w2 ⟨rfl, q2, hq2, hP2, hB2, hc2⟩; have HP2 := hid hP2; have HB2 := hid hB2; have HC2 := hid hc2; have HQ2 := hid hq2; clear hP2 hB2 hc2 hq2))
    | (refine store_R rfl 37 _ _ rfl w2.heap.size #[.int .i64 0, .int .i64 2, .int .i64 1, .int .i64 1, .int .i64 0, .int .i64 5, .int .i64 0, .slice none 0 0, .slice none 0 0, .bool false] rfl rfl 37 _ (heap_alloc_new _ _) (by rw [szAn]; rfl) rfl (by simp [Value.oneCell']) ?_; intro w3 hw3)
    | fail)
  obtain ⟨hP3, hC3, h23⟩ := laid_answer HP2.out HC2.out hw3
  have HA3 := hid hw3.here
  obtain ⟨g3, hg3⟩ : ∃ y, y = w2.heap.size := ⟨_, rfl⟩
  rw [← hg3] at HA3 ⊢
  have HP3 := hid hP3
  have HC3 := hid hC3
  clear hP3 hC3 h23 hw3 hCr HK1 hg3
  obtain ⟨wx, hwx⟩ : ∃ y, y = w3.alloc (.cells #[.int .u8 120, .int .u8 121, .int .u8 122] 5 (3, 4)) := ⟨_, rfl⟩
  have hcx : Chg w3 wx No := by rw [hwx]; exact Chg.alloc _ _ No
  have hbx : wx.heap[w3.heap.size]? = some (.cells (SA dX) 5 (3, 4)) := by rw [hwx]; exact heap_alloc_new w3 _
  have hWr := k_write (w0 := w) w3.heap.size (HP3.out.call hcx) HB2.out (HC3.out.tr hcx) HU.out HM.out 5 (3, 4) hbx
  rw [HQ2.out] at hWr
  have HPx := hid (HP3.out.call hcx)
  have HAx := hid (hcx.keep HA3.out (fun e => e))
  have HXc : Hid (∀ n c : Nat, (convert 34 34 (.slice (some ⟨w3.heap.size, 0, none⟩) n c)).run Tryd.prog (w3.alloc (.cells #[.int .u8 120, .int .u8 121, .int .u8 122] 5)) = .ok (.slice (some ⟨w3.heap.size, 0, none⟩) n c) wx) := hid (fun n c => by rw [hwx]; exact conv_same w3 _ n c)
  unfold opA pA sZ ansE at hWr
  clear hcx hbx hwx HA3
  go_upto_region 6 with (first
    | (refine conv_G (by rfl) 34 34 _ rfl (.slice (some ⟨w3.heap.size, 0, none⟩) 3 3) _ _ rfl (HXc.out 3 3) ?_)
    | (go_at_call 8; go_must (refine hWr.mono ?_; rintro e w4 ⟨rfl, q4, hq4, hP4, hc4, hk4⟩; have HP4 := hid hP4; have HC4 := hid hc4; have HQ4 := hid hq4; have HK4 := hid hk4; clear hP4 hc4 hk4 hq4))
    | (refine store_R rfl 37 _ _ rfl w4.heap.size #[.int .i64 0, .int .i64 0, .int .i64 0, .int .i64 0, .int .i64 0, .int .i64 0, .int .i64 0, .slice none 0 0, .slice none 0 0, .bool false] rfl rfl 37 _ (heap_alloc_new _ _) (by rw [szAn]; rfl) rfl (by simp [Value.oneCell']) ?_; intro w5 hw5)
    | fail)
  obtain ⟨hP5, hC5, h45⟩ := laid_answer HP4.out HC4.out hw5
  have HB5 := hid hw5.here
  obtain ⟨g5, hg5⟩ : ∃ y, y = w4.heap.size := ⟨_, rfl⟩
  rw [← hg5] at HB5 ⊢
  have HA5 := hid (h45.keep (HK4.out.keep HAx.out (fun ⟨c, e1, e2⟩ => HPx.out.notAns HAx.out e1 e2)) (fun e => e))
  have HP5 := hid hP5
  have HC5 := hid hC5
  have hRd := k_read HP5.out HC5.out HU.out HM.out
  rw [HQ4.out] at hRd
  unfold opA pA sZ ansD at hRd
  clear hP5 hC5 h45 hw5 hg5 hWr HXc HAx HPx HK4 HP4 HC4 HP3 HC3 HP2 HC2 HB2 HQ2
  go_upto_region 7 with (first
    | (go_at_call 8; go_must (refine hRd.mono ?_; rintro e w6 ⟨g, rfl, hG6, hc6⟩; have HG6 := hid hG6; have HC6 := hid hc6; clear hG6 hc6))
    | (refine store_R rfl 37 _ _ rfl w6.heap.size #[.int .i64 0, .int .i64 0, .int .i64 0, .int .i64 0, .int .i64 0, .int .i64 0, .int .i64 0, .slice (some ⟨g, 0, none⟩) 5 5, .slice none 0 0, .bool false] rfl rfl 37 _ (heap_alloc_new _ _) (by rw [szAn]; rfl) rfl (by simp [Value.oneCell']) ?_; intro w7 hw7)
    | fail)
  obtain ⟨hP7, hC7, h67⟩ := laid_answer (HP5.out.call HC6.out) (HC5.out.tr HC6.out) hw7
  have HD7 := hid hw7.here
  obtain ⟨g7, hg7⟩ : ∃ y, y = w6.heap.size := ⟨_, rfl⟩
  rw [← hg7] at HD7 ⊢
  have HA7 := hid ((HC6.out.tr h67).keep HA5.out (fun e => e))
  have HB7 := hid ((HC6.out.tr h67).keep HB5.out (fun e => e))
  have HG7 := hid (h67.keep HG6.out (fun e => e))
  have HP7 := hid hP7
  have HC7 := hid hC7
  have hMk := k_mkdir HP7.out HC7.out HU.out HM.out
  rw [HQ4.out] at hMk
  unfold opA pAB sZ ansE at hMk
  clear hP7 hC7 h67 hw7 hg7 hRd HA5 HB5 HP5 HC5 HG6 HC6
  go_upto_region 8 with (first
    | (go_at_call 8; go_must (refine hMk.mono ?_; rintro e w8 ⟨rfl, hc8⟩; have HC8 := hid hc8; clear hc8))
    | (refine store_R rfl 37 _ _ rfl w8.heap.size #[.int .i64 113, .int .i64 0, .int .i64 0, .int .i64 0, .int .i64 0, .int .i64 0, .int .i64 0, .slice none 0 0, .slice none 0 0, .bool false] rfl rfl 37 _ (heap_alloc_new _ _) (by rw [szAn]; rfl) rfl (by simp [Value.oneCell']) ?_; intro w9 hw9)
    | fail)
  obtain ⟨hP9, hC9, h89⟩ := laid_answer (HP7.out.call HC8.out) (HC7.out.tr HC8.out) hw9
  have HE9 := hid hw9.here
  obtain ⟨g9, hg9⟩ : ∃ y, y = w8.heap.size := ⟨_, rfl⟩
  rw [← hg9] at HE9 ⊢
  have HA9 := hid ((HC8.out.tr h89).keep HA7.out (fun e => e))
  have HB9 := hid ((HC8.out.tr h89).keep HB7.out (fun e => e))
  have HD9 := hid ((HC8.out.tr h89).keep HD7.out (fun e => e))
  have HG9 := hid ((HC8.out.tr h89).keep HG7.out (fun e => e))
  have HC9 := hid hC9
  have hRm := k_room hP9
  rw [HQ4.out] at hRm
  have q5 : w9.cell? ⟨g5, 0, none⟩ = some (.int .i64 0) := (cell_of_row _ _ _ _ _ _ HB9.out).trans rfl
  have q7 : w9.cell? ⟨g7, 7, none⟩ = some (.slice (some ⟨g, 0, none⟩) 5 5) := (cell_of_row _ _ _ _ _ _ HD9.out).trans rfl
  have q9 : w9.cell? ⟨g9, 0, none⟩ = some (.int .i64 113) := (cell_of_row _ _ _ _ _ _ HE9.out).trans rfl
  clear hP9 hC9 h89 hw9 hg9 hMk HA7 HB7 HD7 HG7 HP7 HC7 HC8 HB9 HD9 HE9
  go_wp2_with (first
    | (refine load_part rfl 33 _ rfl g3 1 rfl 37 _ #[.int .i64 2, .int .i64 1, .int .i64 1, .int .i64 0, .int .i64 5, .int .i64 0] _ HA9.out part_ok Tryd.underlying33 rfl (by rw [szSt]; rfl) ?_)
    | (refine conv_G (by rfl) 34 9 _ rfl _ _ _ rfl (conv_read _ _ HG9.out) ?_)
    | (refine eql_R (by rfl) 33 _ _ rfl _ _ true rfl rfl (fun w => by kernel_rfl) (by kernel_rfl) ?_)
    | (go_at_call 9; go_must (refine hRm.mono ?_; rintro e w10 ⟨rfl, hc10⟩; have HC10 := hid hc10; clear hc10))
    | (refine eql_R (by rfl) 42 _ _ rfl _ _ true rfl rfl (fun w => by kernel_rfl) (by kernel_rfl) ?_)
    | fail)
  go_ret
  exact ⟨rfl, HC9.out.tr HC10.out⟩
end Go.Proofs.YtbkddnibcpjkgaaDoor
