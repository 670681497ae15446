/-
 package plain: entries are appended to a list of them.
-/
import Derived.Test.YtmgfilacepnjlaaGreatDoorQU
import Derived.Test.YtmgfilacepnjlaaGreatDoorShelfK
import Derived.Shelf.AbstractIn
import Derived.Shelf.Slices.In.SortNone
import Derived.Test.YtmgfilacepnjlaaGreatDoorRV
import Derived.Maps.AppendAt
namespace Go.Proofs.YtmgfilacepnjlaaGreatDoor
open Go.RowKit

section
variable {ops : Array Oper} {rest : List Oper} {o : Oper} {a : Act} {w : World} {Q : Exit → Act → World → Prop}
theorem conv_G (hw : Region.wanted o (yielded ops a.tmps) = true) (t1 t2 : TypeId) (x : Operand) (ho : o.op = .convert t1 t2 x) (v v' : Value) (w' : World) (hx : a.eval x = v)
  (hr : (convert t1 t2 v).run Tryz.prog w = .ok v' w') (h : wpList Tryz.prog ops Q rest (a.put o.dst v') w') : wpList Tryz.prog ops Q (o :: rest) a w :=
 wpList_want hw fun _ hK => by
  unfold Oper.wp execOp
  simp only [ho, hx, Sem.run_bind, hr, Result.andThen_ok, Sem.run_pure]
  exact hK _ _ h
theorem load_part (hgd : o.guard = none) (t : TypeId) (x : Operand) (ho : o.op = .load t x) (g off : Nat) (hx : a.eval x = .pointer (some ⟨g, off, none⟩)) (tb : TypeId) (c xs : Array Value) (d : TypeDesc) (hg : w.heap[g]? = some (.cells c tb (0, 0))) (hxs : ∀ (j : Nat) v, xs[j]? = some v → c[off + j]? = some v)
  (hu : Tryz.prog.underlying t = some d) (hd : d.isRow = true) (hi : (Tryz.prog.info? t).map (·.size) = some xs.size)
  (h : wpList Tryz.prog ops Q rest (a.put o.dst (.agg xs)) w) : wpList Tryz.prog ops Q (o :: rest) a w :=
 wpList_plain hgd fun _ hK => by
  have hp : (loadVar t ⟨g, off, none⟩).run Tryz.prog w = .ok (.agg xs) w := by
   have h := run_loadVar_mid (P := Tryz.prog) w g off t xs.toList d (fun j v hv => by rw [cell_of_row _ _ _ _ tb (0, 0) hg]; exact hxs j v (by simpa using hv)) hu hd (by simpa using hi)
   simpa using h
  unfold Oper.wp execOp
  simp only [ho, hx, Instr.loadAt, Instr.sureAddr, Sem.run_bind, Sem.run_pure, Result.andThen_ok, hp]
  exact hK _ _ h
end
theorem conv_read (w : World) (g : Nat) (h : w.heap[g]? = some (.cells (SA [0, 0, 120, 121, 122]) 5 (0, 0))) : (convert 32 9 (.slice (some ⟨g, 0, none⟩) 5 5)).run Tryz.prog w = .ok (.string ⟨#[0, 0, 120, 121, 122]⟩) w := by
 rw [run_convert_bytes_string w 32 9 5 _ _ _ Tryz.underlying32 Tryz.underlying5 Tryz.underlying9]
 have hl := run_loadCells_list (P := Tryz.prog) w ⟨g, 0, none⟩ (([0, 0, 120, 121, 122] : List Int).map (Value.int .u8)) (fun j v hj => by
  rw [addr_add, cell_of_row _ _ _ _ _ _ h]
  show (SA [0, 0, 120, 121, 122])[0 + j]? = some v
  rw [Nat.zero_add]
  simpa [SA] using hj)
 exact run_bytesToString w _ 5 5 [0, 0, 120, 121, 122] hl
theorem conv_same (w : World) (C : Array Value) (n c : Nat) : (convert 32 32 (.slice (some ⟨w.heap.size, 0, none⟩) n c)).run Tryz.prog (w.alloc (.cells C 5)) = .ok (.slice (some ⟨w.heap.size, 0, none⟩) n c) (w.alloc (.cells C 5 (C.size, C.size + 1))) :=
 Lib.run_convert_bytes_const w 32 5 C n c Tryz.underlying32 Tryz.underlying5
theorem laid_answer {w0 w1 w2 : World} {q : PC} {s : PSt} {A Z : Array Value} (h : IsPl w1 q s) (hc : Chg w0 w1 No) (hp : PutR (w1.alloc (.cells Z 43)) w1.heap.size A 43 w2) : IsPl w2 q s ∧ Chg w0 w2 No ∧ Chg w1 w2 No := by
 have ha : Chg w1 (w1.alloc (.cells Z 43)) No := Chg.alloc _ _ No
 have h12 : Chg w1 w2 No := ha.trans (kt_new hp) (fun _ _ e => e) (fun j hj e => by omega)
 exact ⟨h.call h12, hc.tr h12, h12⟩

theorem part_ok (j : Nat) (v : Value) (hj : (#[.int .i64 2, .int .i64 1, .int .i64 1, .int .i64 0, .int .i64 5, .int .i64 0] : Array Value)[j]? = some v) :
  (#[.int .i64 0, .int .i64 2, .int .i64 1, .int .i64 1, .int .i64 0, .int .i64 5, .int .i64 0, .slice none 0 0, .slice none 0 0, .bool false] : Array Value)[1 + j]? = some v := by
 match j, hj with
 | 0, h => exact h
 | 1, h => exact h
 | 2, h => exact h
 | 3, h => exact h
 | 4, h => exact h
 | 5, h => exact h
 | n + 6, h => simp at h
theorem IsPl.notAns {w : World} {q : PC} {s : PSt} {g : Nat} {A : Array Value} {c : NC} {i : Int} (h : IsPl w q s) (hg : w.heap[g]? = some (.cells A 43 (0, 0))) (hq : q.nc i = some c) (hb : BlkN c g) : False := by
 obtain ⟨x, _, hN⟩ := h.nd i c hq
 rcases hb with e | e | e | e
 ·rw [e, hN.me] at hg; cases hg
 ·obtain ⟨_, _, m⟩ := hN.bl.isMap; rw [e, m] at hg; cases hg
 ·obtain ⟨_, _, m⟩ := hN.nm.isMap; rw [e, m] at hg; cases hg
 ·obtain ⟨_, B, hB⟩ := hN.sl.blk e; rw [hB] at hg; cases hg

set_option maxHeartbeats 4000000 in
set_option maxRecDepth 100000 in
theorem known_any (w : World) (hu : UB w) (hm : ML w) : Calls Tryz.prog 7 #[] w fun e w' => e = .returned (.bool true) ∧ Chg w w' No := by
 have hNew := new_good 40 8 w ⟨by decide, by decide, by decide, by decide, by decide⟩
 have HU := hid hu
 have HM := hid hm
 have hb1 : ∀ W, (Instr.build 34 #[(0, .int .i64 1), (1, .string ⟨#[47, 97]⟩), (6, .int .i64 5)]).run Tryz.prog W = .ok (.agg #[.int .i64 1, .string ⟨#[47, 97]⟩, .string ⟨#[]⟩, .int .i64 0, .int .i64 0, .slice none 0 0, .int .i64 5, .int .i64 0]) W := fun W => by kernel_rfl
 have hb2 : ∀ W g, (Instr.build 34 #[(0, .int .i64 7), (1, .string ⟨#[47, 97]⟩), (3, .int .i64 130), (5, .slice (some ⟨g, 0, none⟩) 3 3)]).run Tryz.prog W = .ok (.agg #[.int .i64 7, .string ⟨#[47, 97]⟩, .string ⟨#[]⟩, .int .i64 130, .int .i64 0, .slice (some ⟨g, 0, none⟩) 3 3, .int .i64 0, .int .i64 0]) W := fun W g => by kernel_rfl
 have hb3 : ∀ W, (Instr.build 34 #[(0, .int .i64 9), (1, .string ⟨#[47, 97]⟩), (3, .int .i64 128), (4, .int .i64 99)]).run Tryz.prog W = .ok (.agg #[.int .i64 9, .string ⟨#[47, 97]⟩, .string ⟨#[]⟩, .int .i64 128, .int .i64 99, .slice none 0 0, .int .i64 0, .int .i64 0]) W := fun W => by kernel_rfl
 have hb4 : ∀ W, (Instr.build 34 #[(0, .int .i64 2), (1, .string ⟨#[47, 97, 47, 98]⟩)]).run Tryz.prog W = .ok (.agg #[.int .i64 2, .string ⟨#[47, 97, 47, 98]⟩, .string ⟨#[]⟩, .int .i64 0, .int .i64 0, .slice none 0 0, .int .i64 0, .int .i64 0]) W := fun W => by kernel_rfl
 have hb5 : ∀ W, (Instr.build 40 #[(0, .int .i64 2), (1, .int .i64 1), (2, .int .i64 1), (4, .int .i64 5)]).run Tryz.prog W = .ok (.agg #[.int .i64 2, .int .i64 1, .int .i64 1, .int .i64 0, .int .i64 5, .int .i64 0]) W := fun W => by kernel_rfl
 have hb6 : ∀ W, (Instr.build 50 #[(0, .int .i64 29), (2, .int .i64 6)]).run Tryz.prog W = .ok (.agg #[.int .i64 29, .int .i64 0, .int .i64 6]) W := fun W => by kernel_rfl
 clear hu hm
 go_enter Tryz.func7, Tryz.ntmps7
 go_upto_region 4 with (first
  | (go_at_call 18; go_must (refine hNew.mono ?_; rintro e w1 ⟨q, rfl, hP1, hc1, _, hmb, hbl⟩; have HK1 : Hid (KQ w w1 q K0) := hid ⟨hP1, hc1, hmb, hbl 1⟩; clear hP1 hc1 hmb hbl))
  | fail)
 have hCr := k_create HK1.out HU.out HM.out
 rw [ans_K0] at hCr
 unfold opA pA sZ at hCr
 clear hNew
 go_upto_region 5 with (first
  | (go_at_call 9; go_must (refine hCr.mono ?_; rintro e w2 ⟨rfl, q2, hq2, hP2, hB2, hc2⟩; have HP2 := hid hP2; have HB2 := hid hB2; have HC2 := hid hc2; have HQ2 := hid hq2; clear hP2 hB2 hc2 hq2))
  | (refine store_R rfl 43 _ _ rfl w2.heap.size #[.int .i64 0, .int .i64 2, .int .i64 1, .int .i64 1, .int .i64 0, .int .i64 5, .int .i64 0, .slice none 0 0, .slice none 0 0, .bool false] rfl rfl 43 _ (heap_alloc_new _ _) (by rw [szAn]; rfl) rfl (by simp [Value.oneCell']) ?_; intro w3 hw3)
  | fail)
 obtain ⟨hP3, hC3, h23⟩ := laid_answer HP2.out HC2.out hw3
 have HA3 := hid hw3.here
 obtain ⟨g3, hg3⟩ : ∃ y, y = w2.heap.size := ⟨_, rfl⟩
 rw [← hg3] at HA3 ⊢
 have HP3 := hid hP3
 have HC3 := hid hC3
 clear hP3 hC3 h23 hw3 hCr HK1 hg3
 obtain ⟨wx, hwx⟩ : ∃ y, y = w3.alloc (.cells #[.int .u8 120, .int .u8 121, .int .u8 122] 5 (3, 4)) := ⟨_, rfl⟩
 have hcx : Chg w3 wx No := by rw [hwx]; exact Chg.alloc _ _ No
 have hbx : wx.heap[w3.heap.size]? = some (.cells (SA dX) 5 (3, 4)) := by rw [hwx]; exact heap_alloc_new w3 _
 have hWr := k_write (w0 := w) w3.heap.size (HP3.out.call hcx) HB2.out (HC3.out.tr hcx) HU.out HM.out 5 (3, 4) hbx
 rw [HQ2.out] at hWr
 have HPx := hid (HP3.out.call hcx)
 have HAx := hid (hcx.keep HA3.out (fun e => e))
 have HXc : Hid (∀ n c : Nat, (convert 32 32 (.slice (some ⟨w3.heap.size, 0, none⟩) n c)).run Tryz.prog (w3.alloc (.cells #[.int .u8 120, .int .u8 121, .int .u8 122] 5)) = .ok (.slice (some ⟨w3.heap.size, 0, none⟩) n c) wx) := hid (fun n c => by rw [hwx]; exact conv_same w3 _ n c)
 unfold opA pA sZ ansE at hWr
 clear hcx hbx hwx HA3
 go_upto_region 6 with (first
  | (refine conv_G (by rfl) 32 32 _ rfl (.slice (some ⟨w3.heap.size, 0, none⟩) 3 3) _ _ rfl (HXc.out 3 3) ?_)
  | (go_at_call 9; go_must (refine hWr.mono ?_; rintro e w4 ⟨rfl, q4, hq4, hP4, hc4, hk4⟩; have HP4 := hid hP4; have HC4 := hid hc4; have HQ4 := hid hq4; have HK4 := hid hk4; clear hP4 hc4 hk4 hq4))
  | (refine store_R rfl 43 _ _ rfl w4.heap.size #[.int .i64 0, .int .i64 0, .int .i64 0, .int .i64 0, .int .i64 0, .int .i64 0, .int .i64 0, .slice none 0 0, .slice none 0 0, .bool false] rfl rfl 43 _ (heap_alloc_new _ _) (by rw [szAn]; rfl) rfl (by simp [Value.oneCell']) ?_; intro w5 hw5)
  | fail)
 obtain ⟨hP5, hC5, h45⟩ := laid_answer HP4.out HC4.out hw5
 have HB5 := hid hw5.here
 obtain ⟨g5, hg5⟩ : ∃ y, y = w4.heap.size := ⟨_, rfl⟩
 rw [← hg5] at HB5 ⊢
 have HA5 := hid (h45.keep (HK4.out.keep HAx.out (fun ⟨c, e1, e2⟩ => HPx.out.notAns HAx.out e1 e2)) (fun e => e))
 have HP5 := hid hP5
 have HC5 := hid hC5
 have hRd := k_read HP5.out HC5.out HU.out HM.out
 rw [HQ4.out] at hRd
 unfold opA pA sZ ansD at hRd
 clear hP5 hC5 h45 hw5 hg5 hWr HXc HAx HPx HK4 HP4 HC4 HP3 HC3 HP2 HC2 HB2 HQ2
 go_upto_region 7 with (first
  | (go_at_call 9; go_must (refine hRd.mono ?_; rintro e w6 ⟨g, rfl, hG6, hc6⟩; have HG6 := hid hG6; have HC6 := hid hc6; clear hG6 hc6))
  | (refine store_R rfl 43 _ _ rfl w6.heap.size #[.int .i64 0, .int .i64 0, .int .i64 0, .int .i64 0, .int .i64 0, .int .i64 0, .int .i64 0, .slice (some ⟨g, 0, none⟩) 5 5, .slice none 0 0, .bool false] rfl rfl 43 _ (heap_alloc_new _ _) (by rw [szAn]; rfl) rfl (by simp [Value.oneCell']) ?_; intro w7 hw7)
  | fail)
 obtain ⟨hP7, hC7, h67⟩ := laid_answer (HP5.out.call HC6.out) (HC5.out.tr HC6.out) hw7
 have HD7 := hid hw7.here
 obtain ⟨g7, hg7⟩ : ∃ y, y = w6.heap.size := ⟨_, rfl⟩
 rw [← hg7] at HD7 ⊢
 have HA7 := hid ((HC6.out.tr h67).keep HA5.out (fun e => e))
 have HB7 := hid ((HC6.out.tr h67).keep HB5.out (fun e => e))
 have HG7 := hid (h67.keep HG6.out (fun e => e))
 have HP7 := hid hP7
 have HC7 := hid hC7
 have hMk := k_mkdir HP7.out HC7.out HU.out HM.out
 rw [HQ4.out] at hMk
 unfold opA pAB sZ ansE at hMk
 clear hP7 hC7 h67 hw7 hg7 hRd HA5 HB5 HP5 HC5 HG6 HC6
 go_upto_region 8 with (first
  | (go_at_call 9; go_must (refine hMk.mono ?_; rintro e w8 ⟨rfl, hc8⟩; have HC8 := hid hc8; clear hc8))
  | (refine store_R rfl 43 _ _ rfl w8.heap.size #[.int .i64 113, .int .i64 0, .int .i64 0, .int .i64 0, .int .i64 0, .int .i64 0, .int .i64 0, .slice none 0 0, .slice none 0 0, .bool false] rfl rfl 43 _ (heap_alloc_new _ _) (by rw [szAn]; rfl) rfl (by simp [Value.oneCell']) ?_; intro w9 hw9)
  | fail)
 obtain ⟨hP9, hC9, h89⟩ := laid_answer (HP7.out.call HC8.out) (HC7.out.tr HC8.out) hw9
 have HE9 := hid hw9.here
 obtain ⟨g9, hg9⟩ : ∃ y, y = w8.heap.size := ⟨_, rfl⟩
 rw [← hg9] at HE9 ⊢
 have HA9 := hid ((HC8.out.tr h89).keep HA7.out (fun e => e))
 have HB9 := hid ((HC8.out.tr h89).keep HB7.out (fun e => e))
 have HD9 := hid ((HC8.out.tr h89).keep HD7.out (fun e => e))
 have HG9 := hid ((HC8.out.tr h89).keep HG7.out (fun e => e))
 have HC9 := hid hC9
 have hRm := k_room hP9
 rw [HQ4.out] at hRm
 have q5 : w9.cell? ⟨g5, 0, none⟩ = some (.int .i64 0) := (cell_of_row _ _ _ _ _ _ HB9.out).trans rfl
 have q7 : w9.cell? ⟨g7, 7, none⟩ = some (.slice (some ⟨g, 0, none⟩) 5 5) := (cell_of_row _ _ _ _ _ _ HD9.out).trans rfl
 have q9 : w9.cell? ⟨g9, 0, none⟩ = some (.int .i64 113) := (cell_of_row _ _ _ _ _ _ HE9.out).trans rfl
 clear hP9 hC9 h89 hw9 hg9 hMk HA7 HB7 HD7 HG7 HP7 HC7 HC8 HB9 HD9 HE9
 go_wp2_with (first
  | (refine load_part rfl 40 _ rfl g3 1 rfl 43 _ #[.int .i64 2, .int .i64 1, .int .i64 1, .int .i64 0, .int .i64 5, .int .i64 0] _ HA9.out part_ok Tryz.underlying40 rfl (by rw [szSt]; rfl) ?_)
  | (refine conv_G (by rfl) 32 9 _ rfl _ _ _ rfl (conv_read _ _ HG9.out) ?_)
  | (refine eql_R (by rfl) 40 _ _ rfl _ _ true rfl rfl (fun w => by kernel_rfl) (by kernel_rfl) ?_)
  | (go_at_call 13; go_must (refine hRm.mono ?_; rintro e w10 ⟨rfl, hc10⟩; have HC10 := hid hc10; clear hc10))
  | (refine eql_R (by rfl) 50 _ _ rfl _ _ true rfl rfl (fun w => by kernel_rfl) (by kernel_rfl) ?_)
  | fail)
 go_ret
 exact ⟨rfl, HC9.out.tr HC10.out⟩
end Go.Proofs.YtmgfilacepnjlaaGreatDoor

namespace Go.Proofs.YtmgfilacepnjlaaGreatDoor
open Go.RowKit

set_option maxHeartbeats 2000000 in
set_option maxRecDepth 100000 in
theorem doAt_stat {q : PC} {s : PSt} {c : NC} {x : Nd} (i : Int) (path tto : ByteArray) (off len : Int) (da : Option Addr) (dl dc : Nat) (made pick : Int) (w : World) (h : IsPl w q s) (hqc : q.nc i = some c) (hsx : s.nd i = some x) :
  Calls Tryz.prog 27 #[.pointer (some ⟨q.p, 0, none⟩), .int .i64 i, .agg (opA 10 path tto off len da dl dc made pick)] w fun e w' => e = .returned (.agg (ansS i x)) ∧ Chg w w' No := by
 obtain ⟨w1, hw1⟩ : ∃ y, y = (w.alloc (.cells (opA 10 path tto off len da dl dc made pick) 34)).alloc (.cells (ansE 0) 43) := ⟨_, rfl⟩
 have hcA : Chg w (w.alloc (.cells (opA 10 path tto off len da dl dc made pick) 34)) No := Chg.alloc w _ No
 have hc1 : Chg w w1 No := by rw [hw1]; exact hcA.tr (Chg.alloc _ _ No)
 have hO : w1.heap[w.heap.size]? = some (.cells #[.int .i64 10, .string path, .string tto, .int .i64 off, .int .i64 len, .slice da dl dc, .int .i64 made, .int .i64 pick] 34 (0, 0)) := by rw [hw1]; exact (Chg.alloc _ _ No).keep (heap_alloc_new w _) (fun e => e)
 have hA1 : w1.heap[w.heap.size + 1]? = some (.cells (ansE 0) 43 (0, 0)) := by
  have := heap_alloc_new (w.alloc (.cells (opA 10 path tto off len da dl dc made pick) 34)) (.cells (ansE 0) 43)
  rw [show (w.alloc (.cells (opA 10 path tto off len da dl dc made pick) 34)).heap.size = w.heap.size + 1 by simp] at this
  rw [hw1]
  exact this
 have HA : Hid (∀ W, Chg w1 W No → W.heap[w.heap.size + 1]? = some (.cells (ansE 0) 43 (0, 0))) := hid (fun W hW => hW.keep hA1 (fun e => e))
 have hN : IsN w c x := by
  obtain ⟨x', h1, h2⟩ := h.nd i c hqc
  rw [hsx] at h1
  cases h1
  exact h2
 have hrg := h.rng i (by rw [hqc]; intro e; cases e)
 have hI : I64 i := ⟨by omega, by omega⟩
 have c2 := (h.call hc1).c2
 obtain ⟨fm, hfm⟩ : ∃ y, y = (fun i => (q.nc i).map ptrN) := ⟨_, rfl⟩
 have HM : Hid (MapV w1 q.mb fm) := hid (by rw [hfm]; exact (h.call hc1).mp)
 have HFi : Hid ((match fm i with | some v => v | none => Value.pointer none) = .pointer (some ⟨c.p, 0, none⟩)) := hid (by rw [hfm]; simp only [hqc, Option.map_some]; rfl)
 have q0 : w1.cell? ⟨w.heap.size, 0, none⟩ = some (.int .i64 10) := (cell_of_row _ _ _ _ _ _ hO).trans rfl
 have hSt := stat_any i w1 (h.call hc1) hqc hsx
 unfold statA at hSt
 obtain ⟨AN, hAN⟩ : ∃ y, y = ansS i x := ⟨_, rfl⟩
 rw [← hAN]
 obtain ⟨z1, hz1⟩ : ∃ y, y = x.kind := ⟨_, rfl⟩
 obtain ⟨z2, hz2⟩ : ∃ y, y = x.links := ⟨_, rfl⟩
 obtain ⟨z3, hz3⟩ : ∃ y, y = lenN x := ⟨_, rfl⟩
 obtain ⟨z4, hz4⟩ : ∃ y, y = x.made := ⟨_, rfl⟩
 obtain ⟨z5, hz5⟩ : ∃ y, y = cardN x := ⟨_, rfl⟩
 rw [← hz1, ← hz2, ← hz3, ← hz4, ← hz5] at hSt
 have HRow : Hid (#[.int .i64 0, .int .i64 i, .int .i64 z1, .int .i64 z2, .int .i64 z3, .int .i64 z4, .int .i64 (z5 : Nat), .slice none 0 0, .slice none 0 0, .bool false] = AN) := hid (by rw [hAN, hz1, hz2, hz3, hz4, hz5]; rfl)
 have hb : ∀ W, (Instr.build 43 #[(1, .agg #[.int .i64 i, .int .i64 z1, .int .i64 z2, .int .i64 z3, .int .i64 z4, .int .i64 (z5 : Nat)])]).run Tryz.prog W = .ok (.agg #[.int .i64 0, .int .i64 i, .int .i64 z1, .int .i64 z2, .int .i64 z3, .int .i64 z4, .int .i64 (z5 : Nat), .slice none 0 0, .slice none 0 0, .bool false]) W := fun W => by kernel_rfl
 have HC1 := hid hc1
 unfold opA at hw1 ⊢
 unfold ansE at hw1
 have e1 := hw1
 clear hcA hc1 hO hA1 h hqc hsx hfm hrg hN hw1 hAN hz1 hz2 hz3 hz4 hz5
 go_enter Tryz.func27, Tryz.ntmps27
 go_upto_region 1 with fail
 rw [← e1]
 clear e1
 go_wp2_with (first
  | (at_lookup; go_must (refine wp_lookVN rfl _ _ rfl q.mb fm i _ HFi.out rfl rfl HM.out hI ?_))
  | (go_at_call 47; go_must (refine hSt.mono ?_; rintro e w4 ⟨rfl, hc4⟩; have HC4 := hid hc4; have HA4 := hid (HA.out w4 hc4); clear hc4))
  | (refine store_R rfl 43 _ _ rfl (w.heap.size + 1) #[.int .i64 0, .int .i64 i, .int .i64 z1, .int .i64 z2, .int .i64 z3, .int .i64 z4, .int .i64 (z5 : Nat), .slice none 0 0, .slice none 0 0, .bool false] rfl rfl 43 _ HA4.out (by rw [szAn]; rfl) rfl (by simp [Value.oneCell']) ?_; intro w5 hw5)
  | fail)
 exact bodyPost_ret (v := .agg #[.int .i64 0, .int .i64 i, .int .i64 z1, .int .i64 z2, .int .i64 z3, .int .i64 z4, .int .i64 (z5 : Nat), .slice none 0 0, .slice none 0 0, .bool false]) (results_R1 Tryz.results27 _ _ (w.heap.size + 1) _ 43 _ Tryz.underlying43 rfl (by rw [szAn]; rfl) rfl hw5.here) rfl ⟨by rw [HRow.out], (HC1.out.tr HC4.out).trans (kt_new hw5) (fun _ _ e => e) (fun j hj e => by omega)⟩

set_option maxHeartbeats 2000000 in
set_option maxRecDepth 100000 in
theorem doAt_list {q : PC} {s : PSt} {c : NC} {x : Nd} (i : Int) (path tto : ByteArray) (off len : Int) (da : Option Addr) (dl dc : Nat) (made pick : Int) (w : World) (h : IsPl w q s) (hqc : q.nc i = some c) (hsx : s.nd i = some x)
  (hk : x.kind = 2) (hL : ∀ W, Chg w W No → Calls Tryz.prog 55 #[.pointer (some ⟨q.p, 0, none⟩), .pointer (some ⟨c.p, 0, none⟩)] W fun e w' => e = .returned (.slice none 0 0) ∧ Chg W w' No) :
  Calls Tryz.prog 27 #[.pointer (some ⟨q.p, 0, none⟩), .int .i64 i, .agg (opA 11 path tto off len da dl dc made pick)] w fun e w' => e = .returned (.agg (ansE 0)) ∧ Chg w w' No := by
 obtain ⟨w1, hw1⟩ : ∃ y, y = (w.alloc (.cells (opA 11 path tto off len da dl dc made pick) 34)).alloc (.cells (ansE 0) 43) := ⟨_, rfl⟩
 have hcA : Chg w (w.alloc (.cells (opA 11 path tto off len da dl dc made pick) 34)) No := Chg.alloc w _ No
 have hc1 : Chg w w1 No := by rw [hw1]; exact hcA.tr (Chg.alloc _ _ No)
 have hO : w1.heap[w.heap.size]? = some (.cells #[.int .i64 11, .string path, .string tto, .int .i64 off, .int .i64 len, .slice da dl dc, .int .i64 made, .int .i64 pick] 34 (0, 0)) := by rw [hw1]; exact (Chg.alloc _ _ No).keep (heap_alloc_new w _) (fun e => e)
 have hA1 : w1.heap[w.heap.size + 1]? = some (.cells (ansE 0) 43 (0, 0)) := by
  have := heap_alloc_new (w.alloc (.cells (opA 11 path tto off len da dl dc made pick) 34)) (.cells (ansE 0) 43)
  rw [show (w.alloc (.cells (opA 11 path tto off len da dl dc made pick) 34)).heap.size = w.heap.size + 1 by simp] at this
  rw [hw1]
  exact this
 have HA : Hid (∀ W, Chg w1 W No → W.heap[w.heap.size + 1]? = some (.cells (ansE 0) 43 (0, 0))) := hid (fun W hW => hW.keep hA1 (fun e => e))
 have hN : IsN w c x := by
  obtain ⟨x', h1, h2⟩ := h.nd i c hqc
  rw [hsx] at h1
  cases h1
  exact h2
 have hrg := h.rng i (by rw [hqc]; intro e; cases e)
 have hI : I64 i := ⟨by omega, by omega⟩
 have c2 := (h.call hc1).c2
 obtain ⟨fm, hfm⟩ : ∃ y, y = (fun i => (q.nc i).map ptrN) := ⟨_, rfl⟩
 have HM : Hid (MapV w1 q.mb fm) := hid (by rw [hfm]; exact (h.call hc1).mp)
 have HFi : Hid ((match fm i with | some v => v | none => Value.pointer none) = .pointer (some ⟨c.p, 0, none⟩)) := hid (by rw [hfm]; simp only [hqc, Option.map_some]; rfl)
 have q0 : w1.cell? ⟨w.heap.size, 0, none⟩ = some (.int .i64 11) := (cell_of_row _ _ _ _ _ _ hO).trans rfl
 have hDr := isDirectory_any w1 (hN.call hc1)
 rw [decide_eq_true hk] at hDr
 have hCl := hL w1 hc1
 have hb : ∀ W, (Instr.build 43 #[(3, .slice none 0 0)]).run Tryz.prog W = .ok (.agg #[.int .i64 0, .int .i64 0, .int .i64 0, .int .i64 0, .int .i64 0, .int .i64 0, .int .i64 0, .slice none 0 0, .slice none 0 0, .bool false]) W := fun W => by kernel_rfl
 have HC1 := hid hc1
 unfold opA at hw1 ⊢
 unfold ansE at hw1 ⊢
 have e1 := hw1
 clear hcA hc1 hO hA1 h hqc hsx hfm hrg hN hw1 hk hL
 go_enter Tryz.func27, Tryz.ntmps27
 go_upto_region 1 with fail
 rw [← e1]
 clear e1
 go_wp2_with (first
  | (at_lookup; go_must (refine wp_lookVN rfl _ _ rfl q.mb fm i _ HFi.out rfl rfl HM.out hI ?_))
  | (go_at_call 48; go_must (refine hDr.mono ?_; rintro e w2 ⟨rfl, rfl⟩))
  | (go_at_call 55; go_must (refine hCl.mono ?_; rintro e w4 ⟨rfl, hc4⟩; have HC4 := hid hc4; have HA4 := hid (HA.out w4 hc4); clear hc4))
  | (refine store_R rfl 43 _ _ rfl (w.heap.size + 1) #[.int .i64 0, .int .i64 0, .int .i64 0, .int .i64 0, .int .i64 0, .int .i64 0, .int .i64 0, .slice none 0 0, .slice none 0 0, .bool false] rfl rfl 43 _ HA4.out (by rw [szAn]; rfl) rfl (by simp [Value.oneCell']) ?_; intro w5 hw5)
  | fail)
 exact bodyPost_ret (v := .agg #[.int .i64 0, .int .i64 0, .int .i64 0, .int .i64 0, .int .i64 0, .int .i64 0, .int .i64 0, .slice none 0 0, .slice none 0 0, .bool false]) (results_R1 Tryz.results27 _ _ (w.heap.size + 1) _ 43 _ Tryz.underlying43 rfl (by rw [szAn]; rfl) rfl hw5.here) rfl ⟨rfl, (HC1.out.tr HC4.out).trans (kt_new hw5) (fun _ _ e => e) (fun j hj e => by omega)⟩
end Go.Proofs.YtmgfilacepnjlaaGreatDoor

namespace Go.Proofs.YtmgfilacepnjlaaGreatDoor
open Go.RowKit Go.Sort Go.Lib Go.Maps Go.Shelf

theorem sortsS (m : Nat) : AnyZ.SortsIn Tryz.prog laySortedS_ren Fence.wide m :=
 ⟨fun blk off cap ss W hH hblk hsz => callsIn_wide.2 (Any.slices_Sort_string laySortS blk off cap ss W hH hblk hsz),
  fun p cap W => callsIn_wide.2 (Any.slices_Sort_string_none laySortS p cap W)⟩
theorem keys_call (mb : Nat) (W : World) : Calls Tryz.prog 70 #[.map (some mb)] W fun e w' => e = .returned (.func (.func 80) #[] #[.pointer (some ⟨W.heap.size, 0, none⟩)]) ∧ w' = W.alloc (.cells #[.map (some mb)] 104) :=
 (callsIn_wide (n := 5)).1 (AnyZ.keys_in layKeysS Fence.wide 5 trivial rfl (some mb) W)
theorem sorted_call {w : World} {b : Nat} {f : ByteArray → Option Int} (h : MapT w b f 0) :
  Calls Tryz.prog 69 #[.func (.func 80) #[] #[.pointer (some ⟨w.heap.size, 0, none⟩)]] (w.alloc (.cells #[.map (some b)] 104)) fun e w' => e = .returned (.slice none 0 0) ∧ Chg w w' No := by
 obtain ⟨D0, hown, hsz, _⟩ := h
 have hbl := hown.lt
 have hk : strKeys D0 = [] := by
  cases D0 with
  | map es =>
   have : es = [] := List.length_eq_zero_iff.1 (Nat.le_zero.1 hsz)
   rw [this]
   rfl
  | _ => rfl
 have hsz1 : Maps.size D0 ≤ maxLen := by unfold maxLen; omega
 have hseq : SeqGives Fence.wide 2 Tryz.prog 80 #[.pointer (some ⟨w.heap.size, 0, none⟩)] encStr (fun ss => ss.Perm (strKeys D0)) (Maps.size D0) (w.alloc (.cells #[.map (some b)] 104)) :=
  AnyZ.keys_gives (ρ := layKeysS_ren) { layKeysS with } Fence.wide _ trivial rfl (by omega) w.heap.size b _ D0 _ (by simp) (by simp) (by
   obtain ⟨es, clock, hb, Ft, hs, hD⟩ := hown
   exact ⟨es, clock, (Below.heap_alloc _ _ b hbl).trans hb, Ft, hs, hD⟩)
 have cS := AnyZ.sorted_in laySortedS Fence.wide 5 trivial trivial trivial trivial rfl (by omega) (sortsS _) (enters_of Tryz.func79 (by kernel_rfl) rfl) 80 #[.pointer (some ⟨w.heap.size, 0, none⟩)] trivial (enters_of Tryz.func80 (by kernel_rfl) rfl) _ _ hsz1 (by omega) _ hseq
 change CallsIn _ _ Tryz.prog 69 _ _ _ at cS
 refine ((callsIn_wide (n := 5)).1 cS).mono ?_
 rintro e w' ⟨v, ss, rfl, hS, hrow, hnil, hb⟩
 rw [hk] at hS
 have hss : ss = [] := List.Perm.eq_nil hS
 rw [hnil.2 hss]
 exact ⟨rfl, (Chg.alloc w _ No).tr (Chg.of_below hb No)⟩

set_option maxHeartbeats 2000000 in
set_option maxRecDepth 100000 in
theorem list_none {q : PC} {c : NC} {x : Nd} (w : World) (h : IsN w c x) (hx : x.cnt = 0) :
  Calls Tryz.prog 55 #[.pointer (some ⟨q.p, 0, none⟩), .pointer (some ⟨c.p, 0, none⟩)] w fun e w' => e = .returned (.slice none 0 0) ∧ Chg w w' No := by
 have c6 := h.c6
 have hm := h.nm
 rw [hx] at hm
 have hK := keys_call c.nb w
 have hS := sorted_call hm
 clear hm hx h
 go_enter Tryz.func55, Tryz.ntmps55
 go_wp2_with (first
  | (go_at_call 70; go_must (refine hK.mono ?_; rintro e w1 ⟨rfl, rfl⟩))
  | (go_at_call 69; go_must (refine hS.mono ?_; rintro e w2 ⟨rfl, hc2⟩; have HC2 := hid hc2; clear hc2))
  | fail)
 go_loopw [5, 16] (fun x5 x16 wr => x5 = .slice none 0 0 ∧ x16 = .int .i64 0 ∧ wr = w2) (fun _ _ _ => 0)
 case atStart => exact ⟨rfl, rfl, rfl⟩
 case round =>
  obtain ⟨rfl, rfl, rfl⟩ := hrel
  go_wp2_with fail
  go_ret
  exact ⟨rfl, HC2.out⟩
end Go.Proofs.YtmgfilacepnjlaaGreatDoor

namespace Go.Proofs.YtmgfilacepnjlaaGreatDoor
open Go.RowKit Go.Sort Go.Lib Go.Maps Go.Shelf

theorem sorted_any {w : World} {b n : Nat} {f : ByteArray → Option Int} (h : MapT w b f n) (hn : n ≤ 5000) :
  Calls Tryz.prog 69 #[.func (.func 80) #[] #[.pointer (some ⟨w.heap.size, 0, none⟩)]] (w.alloc (.cells #[.map (some b)] 104)) fun e w' => ∃ (v : Value) (ss : List (List UInt8)) (D0 : DataW Value), e = .returned v ∧ ss.Perm (strKeys D0) ∧ (∀ x : ByteArray, Maps.has D0 (.string x.data.toList) = (f x).isSome) ∧ w'.ownsRow w.heap.size.succ 9 1 v ss.length ((ss.mergeSort (fun x y => decide (x ≤ y))).map encStr) ∧ (v = .slice none 0 0 ↔ ss = []) ∧ Chg w w' No := by
 obtain ⟨D0, hown, hsz, hhas, _⟩ := h
 have hbl := hown.lt
 have hsz1 : Maps.size D0 ≤ maxLen := by unfold maxLen; omega
 have hseq : SeqGives Fence.wide 2 Tryz.prog 80 #[.pointer (some ⟨w.heap.size, 0, none⟩)] encStr (fun ss => ss.Perm (strKeys D0)) (Maps.size D0) (w.alloc (.cells #[.map (some b)] 104)) :=
  AnyZ.keys_gives (ρ := layKeysS_ren) { layKeysS with } Fence.wide _ trivial rfl (by omega) w.heap.size b _ D0 _ (by simp) (by simp) (by
   obtain ⟨es, clock, hb, Ft, hs, hD⟩ := hown
   exact ⟨es, clock, (Below.heap_alloc _ _ b hbl).trans hb, Ft, hs, hD⟩)
 have cS := AnyZ.sorted_in laySortedS Fence.wide 5 trivial trivial trivial trivial rfl (by omega) (sortsS _) (enters_of Tryz.func79 (by kernel_rfl) rfl) 80 #[.pointer (some ⟨w.heap.size, 0, none⟩)] trivial (enters_of Tryz.func80 (by kernel_rfl) rfl) _ _ hsz1 (by omega) _ hseq
 change CallsIn _ _ Tryz.prog 69 _ _ _ at cS
 refine ((callsIn_wide (n := 5)).1 cS).mono ?_
 rintro e w' ⟨v, ss, rfl, hS, hrow, hnil, hb⟩
 have e1 : (w.alloc (.cells #[.map (some b)] 104)).heap.size = w.heap.size.succ := by simp
 rw [e1] at hrow
 exact ⟨v, ss, D0, rfl, hS, hhas, hrow, hnil, (Chg.alloc w _ No).tr (Chg.of_below hb No)⟩
end Go.Proofs.YtmgfilacepnjlaaGreatDoor

namespace Go.Proofs.YtmgfilacepnjlaaGreatDoor
open Go.RowKit

def entC (e : ByteArray × Int × Int) : List Value := [.string e.1, .int .i64 e.2.1, .int .i64 e.2.2]
theorem infoEn : ∃ i, Tryz.prog.info? 86 = some i ∧ i.zero = some (.agg #[.string ⟨#[]⟩, .int .i64 0, .int .i64 0]) ∧ i.size = 3 ∧ i.bytes = 32 := by
 have h : (Tryz.prog.info? 86).map (fun i => (i.zero, i.size, i.bytes)) = some (some (.agg #[.string ⟨#[]⟩, .int .i64 0, .int .i64 0]), 3, 32) := by kernel_rfl
 cases hq : Tryz.prog.info? 86 with
 | none => rw [hq] at h; cases h
 | some i =>
  rw [hq] at h
  have h := Option.some.inj h
  simp only [Prod.mk.injEq] at h
  exact ⟨i, rfl, h.1, h.2.1, h.2.2⟩
def EOw (w : World) (B : Nat) (v : Value) (es : List (ByteArray × Int × Int)) : Prop := w.ownsRow B 86 3 v es.length (es.flatMap entC)
section
variable {ops : Array Oper} {rest : List Oper} {o : Oper} {a : Act} {Q : Exit → Act → World → Prop} {w : World}
theorem wp_appE (hg : o.guard = none) (s x : Operand) (hop : o.op = .call { callee := .builtin .append, args := #[s, x], argTypes := #[41, 41] }) (B g c : Nat) (v : Value) (es : List (ByteArray × Int × Int)) (e : ByteArray × Int × Int) (hs : a.eval s = v) (hx : a.eval x = .slice (some ⟨g, 0, none⟩) 1 c)
  (hown : EOw w B v es) (hat : w.heap[g]? = some (.cells (entC e).toArray 86 (0, 0))) (hl : es.length ≤ 1000000) (hB : B ≤ w.heap.size)
  (hK : ∀ v' w', EOw w' B v' (es ++ [e]) → Chg w w' (fun k => v.ownBlock = some k) → wpList Tryz.prog ops Q rest (a.put o.dst v') w') : wpList Tryz.prog ops Q (o :: rest) a w := by
 obtain ⟨i, hi, hz, hsz, hby⟩ := infoEn
 refine wpList_append_own_at w hg s x 41 hop B 86 i _ 3 32 Tryz.underlying41 hi hz hsz hby rfl (by decide) v es.length (es.flatMap entC) hs hown ⟨g, 0, none⟩ 1 c (entC e) hx rfl (fun j u hj => ?_) (fun u hu => ?_) (by unfold maxLen; omega) (by omega) hB ?_
 ·rw [addr_add, Nat.zero_add, cell_of_row _ _ _ _ _ _ hat]
  simpa using hj
 ·simp only [entC, List.mem_cons, List.not_mem_nil, or_false] at hu
  rcases hu with rfl | rfl | rfl <;> rfl
 ·intro v' w' h1 h2 _ _
  refine hK v' w' ?_ ((Chg.grown h2).mono fun j _ e => e.symm)
  unfold EOw
  rw [List.length_append, List.flatMap_append]
  simpa using h1
end
end Go.Proofs.YtmgfilacepnjlaaGreatDoor
