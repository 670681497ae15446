/-
 Proved: PlainBack returns true for every number, every list of deeds and every deed (what is made and taken away, linked and unlinked, renamed there and back is as if it had not been), with no condition.
-/
import Derived.Test.YtmgfilacepnjlaaGreatDoorXA
import Derived.Test.YtmgfilacepnjlaaGreatDoorXN
import Derived.Deep.CutRange
import Derived.Deep.DeepCutAuto
import Derived.Test.YtmgfilacepnjlaaGreatDoorOpenD
import Derived.Test.YtmgfilacepnjlaaGreatDoorCards
import Derived.Test.YtmgfilacepnjlaaGreatDoorTie
import Derived.Lay
import Derived.Deep.DeepHandedRow
import Derived.SevenTiedAt
namespace Go.Proofs.YtmgfilacepnjlaaGreatDoor
open Go.RowKit

theorem NowS.listed {w W : World} {p : Nat} {s : PSt} (h : NowS w W p s) (hu : UB w) (hm : ML w) :
  Calls Tryz.prog 16 #[.pointer (some ⟨p, 0, none⟩)] W fun e w' => e = .returned (.string (listedS s)) ∧ Chg W w' No := by
 obtain ⟨q, rfl, h1, h2, h3, h4⟩ := h
 exact listed_any W h1 h2.inv (hu.keep h4 (fun e => e)) (hm.call h4)
theorem build_p (k : Int) (t : ByteArray) (W : World) : (Instr.build 34 #[(0, .int .i64 k), (1, .string t)]).run Tryz.prog W = .ok (.agg #[.int .i64 k, .string t, .string ⟨#[]⟩, .int .i64 0, .int .i64 0, .slice none 0 0, .int .i64 0, .int .i64 0]) W := by kernel_rfl
theorem build_t (k : Int) (t u : ByteArray) (W : World) : (Instr.build 34 #[(0, .int .i64 k), (1, .string t), (2, .string u)]).run Tryz.prog W = .ok (.agg #[.int .i64 k, .string t, .string u, .int .i64 0, .int .i64 0, .slice none 0 0, .int .i64 0, .int .i64 0]) W := by kernel_rfl
theorem kt_ans {wa wb : World} {A : Array Value} {g : Nat} (hs : PutR (wa.alloc (.cells (ansE 0) 43)) g A 43 wb) (hg : g = wa.heap.size) : Chg wa wb No := 
 (Chg.alloc wa _ No).trans (kt_new hs) (fun _ _ e => e) (fun j hj e => by omega)
def Bk (w wd wc : World) (p : Nat) (S : PSt) : Prop := ∃ U, NowS w wc p U ∧ Like S U ∧ Chg wd wc No
set_option maxHeartbeats 8000000 in
set_option maxRecDepth 100000 in
theorem back_walk (n : Int) (L : List Dd) (a : Option Addr) (ca : Nat) (x : Dd) (w : World) (hu : UB w) (hm : ML w) (hn : I64 n) (hL : DdAt w a L) (hLo : ∀ x ∈ L, x.Ok) (hl : L.length ≤ 1000000000000000) (hx : x.Ok) :
  Calls Tryz.prog 5 #[.int .i64 n, .slice a L.length ca, .agg x.A] w fun e w' => e = .returned (.bool true) ∧ Chg w w' No := by
 obtain ⟨w1, hw1⟩ : ∃ y, y = w.alloc (.cells x.A 36) := ⟨_, rfl⟩
 have hc1 : Chg w w1 No := by rw [hw1]; exact Chg.alloc w _ No
 have hX1 : ∀ W, Chg w1 W No → W.heap[w.heap.size]? = some (.cells x.A 36 (0, 0)) := fun W hW => hW.keep (by rw [hw1]; exact heap_alloc_new w _) (fun e => e)
 have HX0 : Hid (∀ W, Chg w1 W No → W.cell? ⟨w.heap.size, 0, none⟩ = some (.int .i64 x.kd)) := hid (fun W hW => (cell_of_row _ _ _ _ _ _ (hX1 W hW)).trans rfl)
 have HXa : Hid (∀ W, Chg w1 W No → W.cell? ⟨w.heap.size, 1, none⟩ = some (.int .i64 x.a)) := hid (fun W hW => (cell_of_row _ _ _ _ _ _ (hX1 W hW)).trans rfl)
 have HXb : Hid (∀ W, Chg w1 W No → W.cell? ⟨w.heap.size, 2, none⟩ = some (.int .i64 x.b)) := hid (fun W hW => (cell_of_row _ _ _ _ _ _ (hX1 W hW)).trans rfl)
 have hS : ∀ W, Calls Tryz.prog 6 #[.int .i64 n] W _ := fun W => small2_any n W hn
 have HKn : Hid (∀ W, Chg w W No → Calls Tryz.prog 7 #[] W fun e w' => e = .returned (.bool true) ∧ Chg W w' No) := hid (fun W hW => known_any W (hu.keep hW (fun e => e)) (hm.call hW))
 have HPk : Hid (∀ W, Calls Tryz.prog 17 #[.int .i64 x.kd, .int .i64 2] W fun e w' => e = .returned (.int .i64 (pickN x.kd 2)) ∧ W = w') := hid (fun W => pick_any x.kd 2 W hx.i1 (by omega) (by omega))
 have HTa : Hid (∀ W, Calls Tryz.prog 15 #[.int .i64 x.a] W fun e w' => e = .returned (.string (textN x.a)) ∧ Chg W w' No) := hid (fun W => text_any x.a W hx.i2)
 have HTb : Hid (∀ W, Calls Tryz.prog 15 #[.int .i64 x.b] W fun e w' => e = .returned (.string (textN x.b)) ∧ Chg W w' No) := hid (fun W => text_any x.b W hx.i3)
 have hpk := pickN_bd x.kd (n := 2) (by omega)
 have hu1 : UB w1 := hu.keep hc1 (fun e => e)
 have hm1 : ML w1 := hm.call hc1
 have hL1 : DdAt w1 a L := hL.call hc1
 obtain ⟨g0, hg0⟩ : ∃ y, y = w.heap.size := ⟨_, rfl⟩
 obtain ⟨kd, hkd⟩ : ∃ y, y = x.kd := ⟨_, rfl⟩
 obtain ⟨xa, hxa⟩ : ∃ y, y = x.a := ⟨_, rfl⟩
 obtain ⟨xb, hxb⟩ : ∃ y, y = x.b := ⟨_, rfl⟩
 obtain ⟨pk, hpkk⟩ : ∃ y, y = pickN kd 2 := ⟨_, rfl⟩
 obtain ⟨ta, hta⟩ : ∃ y, y = textN xa := ⟨_, rfl⟩
 obtain ⟨tb, htb⟩ : ∃ y, y = textN xb := ⟨_, rfl⟩
 rw [← hg0] at HX0 HXa HXb
 rw [← hkd] at HX0 HPk hpk
 rw [← hxa] at HXa HTa
 rw [← hxb] at HXb HTb
 rw [← hpkk] at HPk hpk
 rw [← hta] at HTa
 rw [← htb] at HTb
 have HG0 := hid hg0
 have HU := hid hu1
 have HM := hid hm1
 have HL := hid hL1
 have HLo := hid hLo
 have HC1 := hid hc1
 obtain ⟨nl, hnl⟩ : ∃ y, y = L.length := ⟨_, rfl⟩
 rw [← hnl] at hl ⊢
 have HNl := hid hnl
 have i1 : (nl : Int) ≤ 1000000000000000 := by omega
 obtain ⟨hpk0, hpk1⟩ := hpk
 have HPb : Hid (pk = 0 ∨ pk = 1) := hid (by omega)
 have HW1 : Hid (IntKind.i64.wrap (1 + pk) = 1 + pk ∧ IntKind.i64.wrap (4 + pk) = 4 + pk) := hid ⟨by rw [IntKind.wrap_i64]; omega, by rw [IntKind.wrap_i64]; omega⟩
 have e1 := hw1
 clear hu hm hn hL hLo hnl hl hx hw1 hc1 hX1 hpk0 hpk1 hu1 hm1 hL1 hkd hxa hxb hpkk hta htb
 go_enter Tryz.func5, Tryz.ntmps5
 go_upto_region 1 with fail
 rw [← hg0]
 rw [← e1]
 clear e1 hg0
 have hS1 := hS w1
 go_upto_region 2 with (go_at_call 6; go_must (refine hS1.mono ?_; rintro e w2 ⟨p, rfl, hN2⟩; have HN2 := hid hN2; clear hN2))
 clear hS hS1
 have hK := HKn.out w2 (HC1.out.tr HN2.out.chg)
 go_upto_region 5 with (first
  | (go_at_call 7; go_must (refine hK.mono ?_; rintro e w3 ⟨rfl, hc3⟩; have HC3 := hid hc3; clear hc3))
  | fail)
 have H0 : Hid (∃ s, NowS w1 w3 p s) := hid ⟨_, HN2.out.call HC3.out⟩
 clear hK HN2 HC3 HKn
 go_loopw [10] (fun x10 wr => ∃ i : Nat, x10 = .int .i64 (i : Int) ∧ i ≤ nl ∧ Hid (∃ s, NowS w1 wr p s)) (fun x10 _ => nl - (intOf x10).toNat)
 case atStart => exact ⟨0, rfl, Nat.zero_le _, H0⟩
 case round =>
  obtain ⟨i, rfl, hi, HN⟩ := hrel
  clear H0
  by_cases hlt : i < nl
  ·have j0 : (0 : Int) ≤ (i : Int) := by omega
   have j1 : (i : Int) < (nl : Int) := by omega
   have hiL : i < L.length := by rw [← HNl.out]; exact hlt
   obtain ⟨bb, oo, hab, hld⟩ := DdAt.load HL.out hiL
   subst hab
   obtain ⟨s, e1⟩ := HN.out
   have hr := hld wr e1.chg
   have hmem : L.getD i Dd.z ∈ L := by rw [List.getD_eq_getElem?_getD, List.getElem?_eq_getElem hiL]; exact List.getElem_mem hiL
   have hxo := HLo.out _ hmem
   have hby := HL.out.data i hiL
   obtain ⟨y, hy⟩ : ∃ y, y = L.getD i Dd.z := ⟨_, rfl⟩
   rw [← hy] at hr hxo hby
   have hOp : Calls Tryz.prog 8 #[.agg y.A] wr fun e w' => ∃ A, e = .returned (.agg A) ∧ OpOf y.da y.data.length y.dc A ∧ Chg wr w' No := op_any y.kd y.a y.b y.off y.n y.da y.data.length y.dc wr hxo.i1 hxo.i2 hxo.i3 hxo.i4 hxo.i5 hxo.len hxo.cap hxo.nil
   have HY := hid (And.intro hxo hby)
   have HE := hid e1
   obtain ⟨YA, hYA⟩ : ∃ z, z = y.A := ⟨_, rfl⟩
   rw [← hYA] at hr hOp
   clear hld e1 hmem hxo hby hy hiL hYA HN
   go_wp2_with (first
    | (refine load_of rfl 36 _ rfl ⟨bb, oo + i * 6, none⟩ rfl _ hr ?_)
    | (go_at_call 8; go_must (refine hOp.mono ?_; rintro e w4 ⟨A, rfl, hA, hc4⟩; obtain ⟨o, hO⟩ := deed_op HY.out.1 hA; have hDo := (HE.out.call hc4).doO hO HY.out.1 HY.out.2 HU.out HM.out; clear hA hc4 hO))
    | (go_at_call 9; go_must (refine hDo.mono ?_; rintro e w5 ⟨B, rfl, hB, hN5, _⟩; have HN5 := hid hN5; clear hN5 hB))
    | fail)
   exact ⟨⟨i + 1, by go_num, by omega, hid ⟨_, HN5.out⟩⟩, by simp [intOf]; omega⟩
  ·have j1 : ¬ (i : Int) < (nl : Int) := by omega
   obtain ⟨s0, hs0⟩ := HN.out
   have HN0 := hid hs0
   have qa := HXa.out wr hs0.chg
   have hT1 := HTa.out wr
   clear hs0 HN HL HLo HNl
   go_upto_region 9 with (first
    | (go_at_call 15; go_must (refine hT1.mono ?_; rintro e w4 ⟨rfl, hc4⟩; have HN4 := hid (HN0.out.call hc4); clear hc4))
    | fail)
   have qb := HXb.out w4 HN4.out.chg
   have hT2 := HTb.out w4
   clear qa hT1 HN0
   go_upto_region 10 with (first
    | (go_at_call 15; go_must (refine hT2.mono ?_; rintro e w5 ⟨rfl, hc5⟩; have HN5 := hid (HN4.out.call hc5); clear hc5))
    | fail)
   have b1 := build_p 2 ⟨#[47, 122]⟩
   have hD := HN5.out.doP 2 ⟨#[47, 122]⟩ HU.out HM.out
   clear qb hT2 HN4
   go_upto_region 11 with (first
    | (go_at_call 9; go_must (refine hD.mono ?_; rintro e w6 ⟨A6, rfl, hA6, hN6, _⟩; have HN6 := hid hN6; clear hA6 hN6))
    | fail)
   have b2 := build_p 5 ⟨#[47, 122]⟩
   have hD2 := HN6.out.doP 5 ⟨#[47, 122]⟩ HU.out HM.out
   clear b1 hD HN5
   go_upto_region 12 with (first
    | (go_at_call 9; go_must (refine hD2.mono ?_; rintro e w7 ⟨A7, rfl, hA7, hN7, _⟩; have HN7 := hid hN7; clear hA7 hN7))
    | fail)
   clear b2 hD2 HN6
   obtain ⟨S, hSs⟩ : ∃ y, y = (doS (doS s0 (opP 2 ⟨#[47, 122]⟩)).1 (opP 5 ⟨#[47, 122]⟩)).1 := ⟨_, rfl⟩
   rw [← hSs] at HN7
   have hRm := HN7.out.room
   have hnum := InvD.num HN7.out.i2.inv
   have htk : takenN S ≤ 1102 * 513 := sumN_le S _ 513
   have hfw := Inv.few HN7.out.i2.inv
   obtain ⟨r3, hr3⟩ : ∃ y, y = S.ino - ((nodesN S : Nat) : Int) := ⟨_, rfl⟩
   obtain ⟨r1, hr1⟩ : ∃ y, y = S.data - ((takenN S : Nat) : Int) := ⟨_, rfl⟩
   have HR3 := hid hr3
   have r30 : 0 ≤ r3 := by omega
   have r31 : r3 ≤ 1000000 := by omega
   rw [← hr3, ← hr1] at hRm
   clear hSs hnum htk hfw hr3 hr1
   go_upto_region 13 with (first
    | (go_at_call 13; go_must (refine hRm.mono ?_; rintro e w8 ⟨rfl, hc8⟩; have HN8 := hid (HN7.out.call hc8); clear hc8))
    | (refine wp_fieldV (by first | rfl | go_simp) 50 2 _ rfl _ _ rfl (fun W => (room_f _ _ _ W).2.1) ?_)
    | fail)
   have hLs := HN8.out.listed HU.out HM.out
   clear hRm HN7
   obtain ⟨L0, hL0⟩ : ∃ y, y = listedS S := ⟨_, rfl⟩
   rw [← hL0] at hLs
   have HL0 := hid hL0
   clear hL0
   go_upto_region 14 with (first
    | (go_at_call 16; go_must (refine hLs.mono ?_; rintro e w9 ⟨rfl, hc9⟩; have HN9 := hid (HN8.out.call hc9); clear hc9))
    | fail)
   have HN8S := hid HN8.out.i2
   clear hLs HN8
   have qk := HX0.out w9 HN9.out.chg
   have hPk := HPk.out w9
   have wv1 := HW1.out.1
   have b3 := build_p (1 + pk) ta
   have hD3 := HN9.out.doP (1 + pk) ta HU.out HM.out
   go_upto_region 15 with (first
    | (go_at_call 17; go_must (refine hPk.mono ?_; rintro e w10 ⟨rfl, rfl⟩))
    | (go_at_call 9; go_must (refine hD3.mono ?_; rintro e wa ⟨A, rfl, hA, hNa, _⟩; have HA := hid hA; have HO := hid hA.one; have HNa := hid hNa; clear hA hNa))
    | (refine store_R rfl 43 _ _ rfl wa.heap.size A rfl rfl 43 _ (heap_alloc_new _ _) (by rw [szAn, HO.out.1]) (by rw [HO.out.1]; rfl) HO.out.2 ?_; intro wb hsb; have HSb := hid hsb; clear hsb)
    | fail)
   clear qk hPk wv1 b3 hD3 HN9
   obtain ⟨g15, hg15⟩ : ∃ y, y = wa.heap.size := ⟨_, rfl⟩
   have HCb : Hid (Chg wa wb No) := hid ((Chg.alloc wa _ No).trans (kt_new HSb.out) (fun _ _ e => e) (fun j hj e => by omega))
   rw [← hg15] at HSb ⊢
   clear hg15
   have HNb := hid (HNa.out.call HCb.out)
   have q15 : wb.cell? ⟨g15, 0, none⟩ = some (.int .i64 (codeA (doS S (opP (1 + pk) ta)).2)) := by rw [cell_of_row _ _ _ _ _ _ HSb.out.here]; exact HA.out.code.1
   clear HSb HO HA HNa HCb
   have HBk : Hid (codeA (doS S (opP (1 + pk) ta)).2 = 0 → nodesN (doS S (opP (1 + pk) ta)).1 = nodesN S + 1 ∧ codeA (doS (doS S (opP (1 + pk) ta)).1 (opP (4 + pk) ta)).2 = 0 ∧ Like S (doS (doS S (opP (1 + pk) ta)).1 (opP (4 + pk) ta)).1) := hid (fun e => by
    have h := back_make HN8S.out (1 + pk) ta (by have := HPb.out; omega) e
    rw [show 1 + pk + 3 = 4 + pk by omega] at h
    exact h)
   have HQt : Hid (codeA (doS S (opP (1 + pk) ta)).2 ≠ 0 → Like S (doS S (opP (1 + pk) ta)).1) := hid (fun e => quiet_like (.inl e))
   have HNm := hid (doS_num S (opP (1 + pk) ta))
   have HNm2 := hid (doS_num (doS S (opP (1 + pk) ta)).1 (opP (4 + pk) ta))
   obtain ⟨c1, hc1⟩ : ∃ y, y = codeA (doS S (opP (1 + pk) ta)).2 := ⟨_, rfl⟩
   obtain ⟨S1, hS1⟩ : ∃ y, y = (doS S (opP (1 + pk) ta)).1 := ⟨_, rfl⟩
   rw [← hc1] at q15 HBk HQt
   rw [← hS1] at HNb HBk HQt HNm HNm2
   clear hc1 hS1
   go_upto_if 71 with fail
   go_cut [71] (fun _ wc => Hid (∃ U, NowS w1 wc p U ∧ Like S U))
   case first =>
    by_cases hz : c1 = 0
    ·obtain ⟨k1, k2, k3⟩ := HBk.out hz
     subst hz
     have hRa := HNb.out.room
     have e3 : S1.ino - ((nodesN S1 : Nat) : Int) = r3 - 1 := by rw [k1, HNm.out.2]; have := HR3.out; omega
     rw [e3] at hRa
     have wv2 : IntKind.i64.wrap (r3 - 1) = r3 - 1 := by rw [IntKind.wrap_i64]; omega
     have wv3 := HW1.out.2
     have b4 := build_p (4 + pk) ta
     have HK1 := hid k1
     have HK2 := hid k2
     have HK3 := hid k3
     clear e3 k1 k2 k3
     go_wp2_with (first
      | (go_at_call 13; go_must (first
       | (refine hRa.mono ?_; rintro e wc ⟨rfl, hcc⟩; have HNc := hid (HNb.out.call hcc); have qk := HX0.out wc HNc.out.chg; have hPk := HPk.out wc; have hD4 := HNc.out.doP (4 + pk) ta HU.out HM.out; clear hcc hRa)
       | (refine hRb.mono ?_; rintro e we ⟨rfl, hce⟩; have HNe := hid (HNe0.out.call hce); clear hce hRb)))
      | (go_at_call 17; go_must (refine hPk.mono ?_; rintro e wd ⟨rfl, rfl⟩))
      | (go_at_call 9; go_must (refine hD4.mono ?_; rintro e wd ⟨B, rfl, hB, hNd, _⟩; have HB0 : Hid (B[0]? = some (.int .i64 0)) := hid (by have h := hB.code.1; rw [HK2.out] at h; exact h); have HNd := hid hNd; have hLd := hNd.listed HU.out HM.out; rw [HK3.out.listed, ← HL0.out] at hLd; clear hB hNd hD4))
      | (refine wp_fieldV (by first | rfl | go_simp) 50 2 _ rfl _ _ rfl (fun W => (room_f _ _ _ W).2.1) ?_)
      | (refine wp_fieldA (by first | rfl | go_simp) _ rfl _ _ rfl HB0.out ?_)
      | (go_at_call 16; go_must (refine hLd.mono ?_; rintro e wf ⟨rfl, hcf⟩; have HNe0 := hid (HNd.out.call hcf); have hRb := HNe0.out.room; rw [show (doS S1 (opP (4 + pk) ta)).1.ino - ((nodesN (doS S1 (opP (4 + pk) ta)).1 : Nat) : Int) = r3 by rw [HK3.out.nodes, HNm2.out.2, HNm.out.2]; exact HR3.out.symm] at hRb; clear hcf hLd))
      | fail)
     go_meet
     exact hid ⟨_, HNe.out, HK3.out⟩
    ·have z1 : (c1 == 0) = false := beq_eq_false_iff_ne.2 hz
     have z2 : decide (c1 = 0) = false := decide_eq_false hz
     have HZ := hid hz
     clear hz
     go_wp2_with fail
     go_meet
     exact hid ⟨S1, HNb.out, HQt.out HZ.out⟩
   case rest =>
    obtain ⟨U, hU1, hU2⟩ := hcut.out
    have HN0 := hid hU1
    have HLk := hid hU2
    clear hcut hU1 hU2 HNb HBk HQt HNm HNm2 HN8S
    have b5 := build_t 3 ta tb
    have hD5 := HN0.out.doT 3 ta tb HU.out HM.out
    go_upto_region 19 with (first
     | (go_at_call 9; go_must (refine hD5.mono ?_; rintro e wd ⟨A, rfl, hA, hNd, _⟩; have HA := hid hA; have HO := hid hA.one; have HNd := hid hNd; clear hA hNd))
     | (refine store_R rfl 43 _ _ rfl wd.heap.size A rfl rfl 43 _ (heap_alloc_new _ _) (by rw [szAn, HO.out.1]) (by rw [HO.out.1]; rfl) HO.out.2 ?_; intro we hse; have HSe := hid hse; clear hse)
     | fail)
    clear b5 hD5
    obtain ⟨g16, hg16⟩ : ∃ y, y = wd.heap.size := ⟨_, rfl⟩
    have HCe : Hid (Chg wd we No) := hid ((Chg.alloc wd _ No).trans (kt_new HSe.out) (fun _ _ e => e) (fun j hj e => by omega))
    rw [← hg16] at HSe ⊢
    clear hg16
    have HNe := hid (HNd.out.call HCe.out)
    have q16 : we.cell? ⟨g16, 0, none⟩ = some (.int .i64 (codeA (doS U (opT 3 ta tb)).2)) := by rw [cell_of_row _ _ _ _ _ _ HSe.out.here]; exact HA.out.code.1
    have HB2 : Hid (codeA (doS U (opT 3 ta tb)).2 = 0 → codeA (doS (doS U (opT 3 ta tb)).1 (opP 4 tb)).2 = 0 ∧ Like U (doS (doS U (opT 3 ta tb)).1 (opP 4 tb)).1) := hid (fun e => back_link HN0.out.i2 ta tb e)
    have HQ2 : Hid (codeA (doS U (opT 3 ta tb)).2 ≠ 0 → Like U (doS U (opT 3 ta tb)).1) := hid (fun e => quiet_like (.inl e))
    clear HSe HO HA HNd HCe
    obtain ⟨c2, hc2⟩ : ∃ y, y = codeA (doS U (opT 3 ta tb)).2 := ⟨_, rfl⟩
    obtain ⟨U1, hU1⟩ : ∃ y, y = (doS U (opT 3 ta tb)).1 := ⟨_, rfl⟩
    rw [← hc2] at q16 HB2 HQ2
    rw [← hU1] at HNe HB2 HQ2
    clear hc2 hU1 HN0
    obtain ⟨wq, hwq⟩ : ∃ y, y = wc := ⟨_, rfl⟩
    subst hwq
    simp only [Act.put]
    go_cut [124] (fun x wc => x = .bool false ∧ Hid (∃ U, NowS w1 wc p U ∧ Like S U))
    case first =>
     by_cases hz : c2 = 0
     ·obtain ⟨k2, k3⟩ := HB2.out hz
      subst hz
      have b6 := build_p 4 tb
      have hD6 := HNe.out.doP 4 tb HU.out HM.out
      have HK2 := hid k2
      have HK3 := hid (HLk.out.trans k3)
      clear k2 k3
      go_wp2_with (first
       | (go_at_call 9; go_must (refine hD6.mono ?_; rintro e wf ⟨B, rfl, hB, hNf, _⟩; have HB0 : Hid (B[0]? = some (.int .i64 0)) := hid (by have h := hB.code.1; rw [HK2.out] at h; exact h); have HNf := hid hNf; have hLf := hNf.listed HU.out HM.out; rw [HK3.out.listed, ← HL0.out] at hLf; clear hB hNf hD6))
       | (refine wp_fieldA (by first | rfl | go_simp) _ rfl _ _ rfl HB0.out ?_)
       | (go_at_call 16; go_must (refine hLf.mono ?_; rintro e wg ⟨rfl, hcg⟩; have HNg := hid (HNf.out.call hcg); clear hcg hLf))
       | fail)
      go_meet
      exact ⟨rfl, hid ⟨_, HNg.out, HK3.out⟩⟩
     ·have z1 : (c2 == 0) = false := beq_eq_false_iff_ne.2 hz
      have z2 : decide (c2 = 0) = false := decide_eq_false hz
      have HZ := hid hz
      clear hz
      go_wp2_with fail
      go_meet
      exact ⟨rfl, hid ⟨U1, HNe.out, HLk.out.trans (HQ2.out HZ.out)⟩⟩
    case rest =>
     obtain ⟨rfl, hcut⟩ := hcut
     obtain ⟨V, hV1, hV2⟩ := hcut.out
     have HN0 := hid hV1
     have HLv := hid hV2
     clear hcut hV1 hV2 HNe HB2 HQ2 HLk q16
     have b7 := build_p 10 tb
     have hD7 := HN0.out.ask 10 0 tb (.inl ⟨rfl, rfl⟩) HU.out HM.out
     go_upto_region 22 with (first
      | (go_at_call 9; go_must (refine hD7.mono ?_; rintro e wh ⟨A, rfl, hA, hch⟩; have HA := hid hA; have HO := hid hA.one; have HNh := hid (HN0.out.call hch); clear hA hch))
      | (refine store_R rfl 43 _ _ rfl wh.heap.size A rfl rfl 43 _ (heap_alloc_new _ _) (by rw [szAn, HO.out.1]) (by rw [HO.out.1]; rfl) HO.out.2 ?_; intro wi hsi; have HSi := hid hsi; clear hsi)
      | fail)
     clear b7 hD7
     obtain ⟨g17, hg17⟩ : ∃ y, y = wh.heap.size := ⟨_, rfl⟩
     have HCi : Hid (Chg wh wi No) := hid ((Chg.alloc wh _ No).trans (kt_new HSi.out) (fun _ _ e => e) (fun j hj e => by omega))
     rw [← hg17] at HSi ⊢
     clear hg17
     have HNi := hid (HNh.out.call HCi.out)
     have HQ17 : Hid (∃ A, wi.heap[g17]? = some (.cells A 43 (0, 0)) ∧ A[0]? = some (.int .i64 (codeA (askS V 10 tb 0)))) := hid ⟨_, HSi.out.here, HA.out.code.1⟩
     clear HSi HO HA HNh HCi HN0
     have b8 := build_t 6 ta tb
     have hD8 := HNi.out.doT 6 ta tb HU.out HM.out
     go_upto_region 23 with (first
      | (go_at_call 9; go_must (refine hD8.mono ?_; rintro e wj ⟨A, rfl, hA, hNj, hkj⟩; have HA := hid hA; have HO := hid hA.one; have HNj := hid hNj; have HQ17j : Hid (∃ A, wj.heap[g17]? = some (.cells A 43 (0, 0)) ∧ A[0]? = some (.int .i64 (codeA (askS V 10 tb 0)))) := hid (by obtain ⟨A', h1, h2⟩ := HQ17.out; exact ⟨A', hkj.ans _ _ h1, h2⟩); clear hA hNj hkj))
      | (refine store_R rfl 43 _ _ rfl wj.heap.size A rfl rfl 43 _ (heap_alloc_new _ _) (by rw [szAn, HO.out.1]) (by rw [HO.out.1]; rfl) HO.out.2 ?_; intro wk hsk; have HSk := hid hsk; clear hsk)
      | fail)
     clear b8 hD8
     obtain ⟨g18, hg18⟩ : ∃ y, y = wj.heap.size := ⟨_, rfl⟩
     have HCk : Hid (Chg wj wk No) := hid ((Chg.alloc wj _ No).trans (kt_new HSk.out) (fun _ _ e => e) (fun j hj e => by omega))
     rw [← hg18] at HSk ⊢
     clear hg18
     have HNk := hid (HNj.out.call HCk.out)
     have q18 : wk.cell? ⟨g18, 0, none⟩ = some (.int .i64 (codeA (doS V (opT 6 ta tb)).2)) := by rw [cell_of_row _ _ _ _ _ _ HSk.out.here]; exact HA.out.code.1
     have HB3 : Hid (codeA (doS V (opT 6 ta tb)).2 = 0 → codeA (askS V 10 tb 0) = 110 → codeA (doS (doS V (opT 6 ta tb)).1 (opT 6 tb ta)).2 = 0 ∧ Like V (doS (doS V (opT 6 ta tb)).1 (opT 6 tb ta)).1) := hid (fun e1 e2 => back_rename HNi.out.i2 ta tb e1 e2)
     have HQ3 : Hid (codeA (doS V (opT 6 ta tb)).2 ≠ 0 → Like V (doS V (opT 6 ta tb)).1) := hid (fun e => quiet_like (.inl e))
     have HQk : Hid (∀ W, Chg wk W No → W.cell? ⟨g17, 0, none⟩ = some (.int .i64 (codeA (askS V 10 tb 0)))) := hid (fun W hW => by
      obtain ⟨A', h1, h2⟩ := HQ17j.out
      rw [cell_of_row _ _ _ _ _ _ ((HCk.out.tr hW).keep h1 (fun e => e))]
      exact h2)
     have q17 := HQk.out wk (Chg.refl _ _)
     have HQa : Hid (∃ A, wk.heap[g17]? = some (Obj.cells A 43 (0, 0)) ∧ A[0]? = some (.int .i64 (codeA (askS V 10 tb 0)))) := hid (by obtain ⟨A', h1, h2⟩ := HQ17j.out; exact ⟨A', HCk.out.keep h1 (fun e => e), h2⟩)
     clear HSk HO HA HNj HCk HNi HQ17 HQ17j
     obtain ⟨c3, hc3⟩ : ∃ y, y = codeA (doS V (opT 6 ta tb)).2 := ⟨_, rfl⟩
     obtain ⟨ct, hct⟩ : ∃ y, y = codeA (askS V 10 tb 0) := ⟨_, rfl⟩
     obtain ⟨V1, hV1⟩ : ∃ y, y = (doS V (opT 6 ta tb)).1 := ⟨_, rfl⟩
     rw [← hc3] at q18 HB3 HQ3
     rw [← hct] at q17 HQk HB3 HQa
     rw [← hV1] at HNk HB3 HQ3
     clear hc3 hct hV1
     obtain ⟨wr2, hwr2⟩ : ∃ y, y = wc := ⟨_, rfl⟩
     subst hwr2
     simp only [Act.put]
     go_cut [156] (fun x wc => x = .bool false ∧ Hid (∃ U, NowS w1 wc p U ∧ (ct = 110 → Like S U) ∧ wc.cell? ⟨g17, 0, none⟩ = some (.int .i64 ct)))
     case first =>
      by_cases hz : c3 = 0
      ·by_cases ht : ct = 110
       ·obtain ⟨k2, k3⟩ := HB3.out hz ht
        subst hz ht
        have b9 := build_t 6 tb ta
        have hD9 := HNk.out.doT 6 tb ta HU.out HM.out
        have HK2 := hid k2
        have HK3 := hid (HLv.out.trans k3)
        have HW9 : Hid (∃ A, wk.heap[g17]? = some (Obj.cells A 43 (0, 0)) ∧ A[0]? = some (.int .i64 110)) := HQa
        clear k2 k3
        go_wp2_with (first
         | (go_at_call 9; go_must (refine hD9.mono ?_; rintro e wm ⟨B, rfl, hB, hNm, hkm⟩; have HB0 : Hid (B[0]? = some (.int .i64 0)) := hid (by have h := hB.code.1; rw [HK2.out] at h; exact h); have HNm := hid hNm; have hLm := hNm.listed HU.out HM.out; rw [HK3.out.listed, ← HL0.out] at hLm; have HQm : Hid (∀ W, Chg wm W No → W.cell? ⟨g17, 0, none⟩ = some (.int .i64 110)) := hid (fun W hW => by (obtain ⟨A', h1, h2⟩ := HW9.out; rw [cell_of_row _ _ _ _ _ _ (hW.keep (hkm.ans _ _ h1) (fun e => e))]; exact h2)); clear hB hNm hD9 hkm))
         | (refine wp_fieldA (by first | rfl | go_simp) _ rfl _ _ rfl HB0.out ?_)
         | (go_at_call 16; go_must (refine hLm.mono ?_; rintro e wn ⟨rfl, hcn⟩; have HNn := hid (HNm.out.call hcn); have HQn := hid (HQm.out wn hcn); clear hcn hLm))
         | fail)
        go_meet
        exact ⟨rfl, hid ⟨_, HNn.out, fun _ => HK3.out, HQn.out⟩⟩
       ·have z1 : (ct == 110) = false := beq_eq_false_iff_ne.2 ht
        have z2 : decide (ct = 110) = false := decide_eq_false ht
        have HT := hid ht
        have HQe := hid q17
        subst hz
        clear ht
        go_wp2_with fail
        go_meet
        exact ⟨rfl, hid ⟨V1, HNk.out, fun e => absurd e HT.out, HQe.out⟩⟩
      ·have z1 : (c3 == 0) = false := beq_eq_false_iff_ne.2 hz
       have z2 : decide (c3 = 0) = false := decide_eq_false hz
       have HZ := hid hz
       have HQe := hid q17
       clear hz
       go_wp2_with fail
       go_meet
       exact ⟨rfl, hid ⟨V1, HNk.out, fun _ => HLv.out.trans (HQ3.out HZ.out), HQe.out⟩⟩
     case rest =>
      obtain ⟨rfl, hcut⟩ := hcut
      obtain ⟨V2, hV1, hV2, hq⟩ := hcut.out
      have HN0 := hid hV1
      have HLz := hid hV2
      clear hcut hV1 hV2 q17 q18 HQk HB3 HQ3 HNk HLv
      by_cases ht : ct = 110
      ·have hLz := HN0.out.listed HU.out HM.out
       rw [(HLz.out ht).listed, ← HL0.out] at hLz
       subst ht
       go_wp2_with (first
        | (go_at_call 16; go_must (refine hLz.mono ?_; rintro e wn ⟨rfl, hcn⟩; have HNn := hid (HN0.out.call hcn); clear hcn hLz))
        | fail)
       go_ret
       exact ⟨rfl, HC1.out.tr HNn.out.chg⟩
      ·have z1 : (ct != 110) = true := bne_iff_ne.2 ht
       have z2 : decide (ct = 110) = false := decide_eq_false ht
       have z3 : (ct == 110) = false := beq_eq_false_iff_ne.2 ht
       clear ht
       go_wp2_with fail
       go_ret
       exact ⟨rfl, HC1.out.tr HN0.out.chg⟩
end Go.Proofs.YtmgfilacepnjlaaGreatDoor

namespace Go.Proofs.YtmgfilacepnjlaaGreatDoor
open Go.RowKit
theorem back_below (n : Int) (L : List Dd) (a : Option Addr) (ca : Nat) (x : Dd) (w : World) (hu : UB w) (hm : ML w) (hn : I64 n) (hL : DdAt w a L) (hLo : ∀ i, i < L.length → (L.getD i Dd.z).Ok) (hl : L.length ≤ 140737488355328) (hx : x.Ok) :
  Calls Tryz.prog 5 #[.int .i64 n, .slice a L.length ca, .agg x.A] w fun e w' => e = .returned (.bool true) ∧ Below w.heap.size w w' :=
 (back_walk n L a ca x w hu hm hn hL (all_deeds hLo) (by omega) hx).mono fun e w' ⟨h1, h2⟩ => ⟨h1, h2.below⟩
end Go.Proofs.YtmgfilacepnjlaaGreatDoor

namespace Go.Proofs.YtmgfilacepnjlaaGreatDoor
open Go.ChangeShapes Go.WideShapes Go.ChangeAt Go.RowKit Go.Joins Go.ChangeMaps

set_option linter.unusedVariables false
set_option maxRecDepth 100000 in
theorem plainBack_lifted (os : Os) (started : os.Started) (H : Type) (enc : TypeId × Value → H) (F : Stop.Interp) :
  ReturnsInHanded {} Tryz.checked os 5 .any ((OpenSpec.ofChange Rows.plainBackSpec).preRow enc Tryz.prog Tryz.f5 Rows.plainBackRow.domain false Rows.plainBackRow.laid) (((OpenSpec.ofChange Rows.plainBackSpec).at F).post enc Tryz.prog Tryz.f5 false true false false) := by
 refine returnsInHanded_of_row (C := Tryz.checked) (s := OpenSpec.ofChange Rows.plainBackSpec) own started (by kernel_rfl) Tryz.func5
  (ChangeSpec.witness_shaped (enc := enc) (C := Tryz.checked) (os := os) (X := fun w _ => laidMetH Tryz.prog Rows.plainBackRow.laid w) false (World.laidAll Tryz.prog os Rows.plainBackRow.laid) #[.int .i64 0, .slice none 0 0, .agg #[.int .i64 0, .int .i64 0, .int .i64 0, .int .i64 0, .int .i64 0, .slice none 0 0]] 8 (World.laidAll_os _ _ _)
   (World.shaped_of_ZipB (by kernel_rfl) (by kernel_rfl)) (by kernel_rfl) (by kernel_rfl) (by kernel_rfl)
   (by rw [MakeChecks.laidMetH_plain _ _ _ (by kernel_rfl)]; exact laidMet_laidAll _ (by kernel_rfl) (by kernel_rfl))) ?_
 intro W base args ds gs before hval0 hW hcnd _ hsz0 hL hsh _
 have hUB : UB W := ub_of_laid hL
 have hML : ML W := laySplit.s1_3 W hsh
 have hval : ∀ (j : Nat) t v, Tryz.f5.params[j]? = some t → args[j]? = some v → Value.okWide Tryz.prog W .any base t v := hval0
 have hW' := hW
 obtain ⟨p, q, hA0, hV, rfl, hfz, hnd⟩ := hW
 have hA : DataW.TrodAll enc Tryz.prog W 0 (fun _ => true) true Tryz.f5.params.toList args.toList ds p := hA0
 have hsz : (DataW.weightsEach Tryz.prog (Tryz.f5.params.toList ++ (OpenSpec.ofChange Rows.plainBackSpec).bare.plain.varTypes Tryz.prog) (ds ++ gs)).all (· ≤ reachBytes) = true := hsz0
 rw [Tryz.params5] at hA hval hsz
 obtain ⟨v0, vs0, d0, ds0, p0, q0, hargs, rfl, rfl, h0, r0⟩ := trodAll_cons hA
 obtain ⟨v1, vs1, d1, ds1, p1, q1, rfl, rfl, rfl, h1, r1⟩ := trodAll_cons r0
 obtain ⟨v2, vs2, d2, ds2, p2, q2, rfl, rfl, rfl, h2, r2⟩ := trodAll_cons r1
 obtain ⟨rfl, rfl, rfl⟩ := trodAll_nil r2
 obtain rfl : args = #[v0, v1, v2] := by cases args; simp_all
 obtain ⟨rfl, rfl⟩ := trodVars_none hV
 have k0 := h0
 have lt0 : ∀ x ∈ p0, x.block < W.heap.size := by obtain ⟨m, hm⟩ := k0; exact DataW.trod_lt m _ _ _ hm
 have k1 := h1
 have lt1 : ∀ x ∈ p1, x.block < W.heap.size := by obtain ⟨m, hm⟩ := k1; exact DataW.trod_lt m _ _ _ hm
 have k2 := h2
 have lt2 : ∀ x ∈ p2, x.block < W.heap.size := by obtain ⟨m, hm⟩ := k2; exact DataW.trod_lt m _ _ _ hm
 obtain ⟨x0, rfl, rfl, rfl, wx0⟩ := open_int Tryz.underlying3 (hval 0 3 v0 rfl rfl) h0
 have hwt1 : ∀ n ∈ d1.weights Tryz.prog 22, n ≤ reachBytes := by
  intro n hn
  have := List.all_eq_true.1 hsz n (DataW.weights_mem_each (j := 1) (t := 22) (d := d1) rfl rfl n hn)
  simpa using this
 obtain ⟨l1, ad1, cap1, rfl, hl1, hc1, hn1, ho1⟩ := open_deeds (hval 1 22 v1 rfl rfl) h1 hwt1
 have hwt2 : ∀ n ∈ d2.weights Tryz.prog 36, n ≤ reachBytes := by
  intro n hn
  have := List.all_eq_true.1 hsz n (DataW.weights_mem_each (j := 2) (t := 36) (d := d2) rfl rfl n hn)
  simpa using this
 obtain ⟨l2, rfl, ho2, hb2⟩ := open_deed (hval 2 36 v2 rfl rfl) h2 hwt2
 clear hA0 hval0
 refine (back_below x0 l1 ad1 cap1 l2 W hUB hML (bounds_i64 wx0) hn1 ho1 hl1 ho2).mono fun e W' ⟨he, bel⟩ => ?_
 subst he
 exact ⟨_, rfl, _, _, _, [], _, [], hW', trodAll_mk1 (shut_bool Tryz.underlying4 _), (trodAll_cons_mk (Below.trod laidOut (by kernel_rfl) (of_decide_eq_true (by kernel_rfl)) k0 bel lt0) (trodAll_cons_mk (Below.trod laidOut (by kernel_rfl) (of_decide_eq_true (by kernel_rfl)) k1 bel lt1) (trodAll_cons_mk (Below.trod laidOut (by kernel_rfl) (of_decide_eq_true (by kernel_rfl)) k2 bel lt2) trodAll_mk0))), rfl, bel.frame _, fun h => by cases h⟩

theorem plainBack_row : Rows.PlainBackSaid :=
 OpenClaim.holds_of_cond 5 Tryz.f5 rfl rfl rfl rfl rfl rfl rfl ⟨rfl, rfl, rfl, rfl, rfl⟩ rfl rfl rfl rfl rfl (by kernel_rfl) Tryz.func5 (by kernel_rfl)
  (of_decide_eq_true (by kernel_rfl)) (by unfold Func.isWrapper; first | (rw [if_pos (by decide +kernel)]; kernel_rfl) | (rw [if_neg (by decide +kernel)]; exact ⟨rfl, rfl⟩))
  (fun os started H enc _ F => by rw [OpenClaim.pre_eq_preRow]; exact plainBack_lifted os started H enc F)

theorem plainBack_holds : Rows.PlainBackCardSaid :=
 Claim7.holds_tied_plain_at .later [] [.data, .data, .pinned] true (true, "8f99cae553d0c9e95a58adcea1dee91e7bb7461ba97e404f137715e3fbab67a2") false plainBack_row (fun _ h => by cases h) (by kernel_rfl) (fun _ h => by cases h) plainBack_row_tie rfl ⟨rfl, rfl⟩ (by kernel_rfl) rfl
  (fun f fn hf hfn => by
   obtain rfl : f = 5 := Option.some.inj ((show Tryz.prog.funcNamed "breakwater/breakwaterlaw16.PlainBack" = some 5 by kernel_rfl).symm.trans hf) |>.symm
   obtain rfl : fn = Tryz.f5 := (Option.some.inj (Tryz.func5.symm.trans hfn)).symm
   exact ⟨by kernel_rfl, fun j t ht => by
    rw [Tryz.params5] at ht
    have hm : t ∈ [3, 22, 36] := by simpa using Array.mem_of_getElem? ht
    have hall : ([3, 22, 36].all fun u => !Tryz.prog.wantsStandIn u) = true := by kernel_rfl
    exact (show Tryz.prog.wantsStandIn t = false by simpa using List.all_eq_true.1 hall t hm)⟩)
  (by kernel_rfl)

end Go.Proofs.YtmgfilacepnjlaaGreatDoor
