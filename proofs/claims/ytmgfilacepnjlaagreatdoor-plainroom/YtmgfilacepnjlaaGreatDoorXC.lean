/-
 sums tells how many sectors and inodes are in use.
-/
import Derived.Test.YtmgfilacepnjlaaGreatDoorXA
import Derived.Test.YtmgfilacepnjlaaGreatDoorWA12
namespace Go.Proofs.YtmgfilacepnjlaaGreatDoor
open Go.RowKit

theorem IOwn.call2 {w w' : World} {B : Nat} {v : Value} {l : List Int} (h : IOwn w B v l) (hc : Chg w w' No) : IOwn w' B v l := h.keep hc (fun _ _ e => e)
theorem sumC_le (s : PSt) : ∀ l : List Int, sumC s l ≤ 1102 * l.length
 | [] => Nat.le_refl _
 | j :: l => by
  have := sumC_le s l
  show sumC s l + (match s.nd j with | some x => cardN x | none => 0) ≤ _
  rw [List.length_cons]
  cases s.nd j with
  | none => simp only; omega
  | some x => have h : cardN x ≤ 1102 := card_le _; simp only; omega
theorem own_cellS {w : World} {B n c : Nat} {a : Option Addr} {l : List Int} (h : IOwn w B (.slice a n c) l) {j : Nat} (hj : j < l.length) : ∃ g, a = some ⟨g, 0, none⟩ ∧ g < w.heap.size ∧ ∀ w', Chg w w' No → w'.cell? ⟨g, j, none⟩ = some (.int .i64 (l.getD j 0)) := by
 have h0 : w.ownsRow B 3 1 (.slice a n c) l.length (l.map fun z => Value.int .i64 z) := h
 rcases h0.2 with ⟨e, e2⟩ | ⟨g, cap, cur, e, hb, hg, r⟩
 ·rw [e2] at hj; exact absurd hj (Nat.not_lt_zero _)
 ·injection e with e1 e3 e4
  have hlt : g < w.heap.size := (Array.getElem?_eq_some_iff.1 hg).1
  refine ⟨g, e1, hlt, fun w' hc => ?_⟩
  subst e1 e3 e4
  have hx : (l.map fun z => Value.int .i64 z)[j]? = some (.int .i64 (l.getD j 0)) := by
   rw [List.getElem?_map, List.getD_eq_getElem?_getD, List.getElem?_eq_getElem hj]
   rfl
  have := World.ownsRow.cells h0 (g := g) rfl j _ hx
  rw [addr_add, Nat.zero_add] at this
  unfold World.cell? at this ⊢
  rw [hc.block _ hlt (fun e => e)]
  exact this
set_option maxHeartbeats 8000000 in
set_option maxRecDepth 100000 in
theorem sums_any {p : Nat} {s : PSt} (w0 w : World) (h : NowS w0 w p s) (ha : AllL s) (hi : s.ino ≤ 11) (hu : UB w0) (hm : ML w0) : Calls Tryz.prog 14 #[.pointer (some ⟨p, 0, none⟩)] w fun e w' => e = .returned (.tuple #[.int .i64 (takenN s : Nat), .int .i64 (nodesN s : Nat), .bool true]) ∧ Chg w w' No := by
 have HAsk : Hid (∀ (k : Int) (t : ByteArray), (k = 10 ∨ k = 11) → ∀ W, Chg w W No → Calls Tryz.prog 9 #[.pointer (some ⟨p, 0, none⟩), .agg #[.int .i64 k, .string t, .string ⟨#[]⟩, .int .i64 0, .int .i64 0, .slice none 0 0, .int .i64 0, .int .i64 0]] W fun e w' => ∃ A, e = .returned (.agg A) ∧ AnsIs w' W.heap.size A (askS s k t 0) ∧ Chg W w' No) := hid (fun k t hk W hW => (h.call hW).ask k 0 t (by omega) hu hm)
 have HI2 := hid h.i2
 have HAl := hid ha
 have HIo := hid hi
 obtain ⟨tk, htk⟩ : ∃ y : Int, y = ((takenN s : Nat) : Int) := ⟨_, rfl⟩
 obtain ⟨nn, hnn⟩ : ∃ y : Int, y = ((nodesN s : Nat) : Int) := ⟨_, rfl⟩
 rw [← htk, ← hnn]
 have HTk := hid htk
 have HNn := hid hnn
 have HT4 : Hid (tk ≤ 4096) := hid (by have h1 := h.i2.tak; have h2 := h.i2.inv.num; omega)
 clear h ha hi hu hm htk hnn
 go_enter Tryz.func14, Tryz.ntmps14
 go_upto_region 5 with fail
 have HT0 : Hid (TOw (w.alloc (.cells #[.string ⟨#[47]⟩] 9)) w.heap.size (.slice (some ⟨w.heap.size, 0, none⟩) 1 1) [⟨#[47]⟩]) := hid ⟨rfl, .inr ⟨w.heap.size, 1, #[.string ⟨#[47]⟩], rfl, Nat.le_refl _, heap_alloc_new _ _, Nat.le_refl _, by decide, rfl, rfl⟩⟩
 go_loopw [5, 6, 7, 8] (fun x5 x6 x7 x8 wr => ∃ (sv vv : Value) (b i : Nat), sv = x5 ∧ x6 = .int .i64 (b : Int) ∧ vv = x7 ∧ x8 = .int .i64 (i : Int) ∧ i ≤ 100 ∧ Hid (∃ (ps : List (List ByteArray)) (sn : List Int), TOw wr w.heap.size vv (ps.map TP) ∧ IOwn wr w.heap.size sv sn ∧ Chg w wr No ∧ BF s ps sn i ∧ i ≤ ps.length ∧ b = sumC s sn)) (fun _ _ _ x8 _ => 100 - (intOf x8).toNat)
 case atStart => exact ⟨_, _, 0, 0, rfl, rfl, rfl, rfl, by omega, hid ⟨[[]], [], HT0.out, IOwn.none _ _, Chg.alloc w _ No, BF.begin s, Nat.zero_le _, rfl⟩⟩
 case round =>
  obtain ⟨sv, vv, b, i, rfl, rfl, rfl, rfl, hi1, HX⟩ := hrel
  clear HT0
  obtain ⟨ps, sn, x1, x2, x3, x4, x5, x6⟩ := HX.out
  obtain ⟨a, cp, hv⟩ := row_shape x1
  subst hv
  obtain ⟨sa, sc, hsv⟩ := x2.shape
  subst hsv
  obtain ⟨xl1, xl2⟩ := x4.len HI2.out.inv HIo.out
  obtain ⟨n, hn⟩ : ∃ y, y = (ps.map TP).length := ⟨_, rfl⟩
  obtain ⟨m, hm⟩ : ∃ y, y = sn.length := ⟨_, rfl⟩
  have hnp : n = ps.length := by rw [hn, List.length_map]
  rw [← hn]
  rw [← hm]
  rw [← hn] at x1
  rw [← hm] at x2
  have n78 : n ≤ 78 := by omega
  have m11 : m ≤ 11 := by omega
  have HX1 := hid x1
  have HX2 := hid x2
  have HX3 := hid x3
  have HX4 := hid x4
  have HX6 := hid x6
  have HNp := hid hnp
  have HM := hid hm
  have i0 : (i : Int) ≤ 100 := by omega
  have i1 : (n : Int) ≤ 78 := by omega
  have hin : i ≤ n := by omega
  have m1 : (m : Int) ≤ 11 := by omega
  clear x1 x2 x3 x4 x5 x6 hn hnp hm xl1 xl2 HX
  by_cases hlt : i < n
  ·have j1 : (i : Int) < (n : Int) := by omega
   have j2 : (i : Int) < 2000 := by omega
   have j0 : (0 : Int) ≤ (i : Int) := by omega
   have i99 : i + 1 ≤ 100 := by omega
   obtain ⟨ls, hp⟩ : ∃ ls, ps[i]? = some ls := ⟨_, List.getElem?_eq_getElem (by rw [← HNp.out]; exact hlt)⟩
   obtain ⟨j, hj⟩ := HX4.out.ok ls (List.mem_of_getElem? hp)
   obtain ⟨x, hx, hst, hen, hsz⟩ := BF.ask HI2.out HAl.out HIo.out hj
   obtain ⟨t, ht⟩ : ∃ t, t = TP ls := ⟨_, rfl⟩
   obtain ⟨g, hga, hgl, hcell⟩ := TOw.cell HX1.out (j := i) (t := t) (by rw [List.getElem?_map, hp, ht]; rfl)
   subst hga
   rw [← ht] at hst hen hsz
   have HCell := hid hcell
   have HGl := hid hgl
   have HP := hid hp
   have HJ := hid hj
   have HXx := hid hx
   have HEn := hid hen
   have HSz := hid hsz
   have HTt := hid ht
   have jr := (InvD.rng HI2.out.inv j x hx)
   have jn := (InvD.num HI2.out.inv)
   have HJb : Hid (1 ≤ j ∧ j ≤ 512) := hid (by omega)
   have b10 := build_ask 10 t
   have b11 := build_ask 11 t
   have hD1 := HAsk.out 10 t (.inl rfl) wr HX3.out
   rw [hst] at hD1
   have HCc : Hid (cardN x ≤ 1102) := hid (card_le _)
   obtain ⟨cx, hcx⟩ : ∃ y, y = cardN x := ⟨_, rfl⟩
   have HCx := hid hcx
   have qc1 := HCell.out wr (Chg.refl _ _)
   clear hcell hgl hp hj hx hst hen hsz ht jr jn hcx
   go_upto_region 8 with (first
    | (go_at_call 9; go_must (refine hD1.mono ?_; rintro e wa ⟨A1, rfl, hA1, hc1⟩; have hA1' : A1 = ansS j x := hA1; subst hA1'; have Hc1 := hid hc1; clear hA1 hc1))
    | (refine store_R rfl 43 _ _ rfl wa.heap.size (ansS j x) rfl rfl 43 _ (heap_alloc_new _ _) (by rw [szAn, (ansS_one j x).1]) (by rw [(ansS_one j x).1]; rfl) (ansS_one j x).2 ?_; intro wb hs1; have HS1 := hid hs1; clear hs1)
    | fail)
   clear hD1 qc1
   obtain ⟨g1, hg1⟩ : ∃ y, y = wa.heap.size := ⟨_, rfl⟩
   have HE1 : Hid (Chg wa wb No) := hid ((Chg.alloc wa _ No).trans (kt_new HS1.out) (fun _ _ e => e) (fun j hj e => by omega))
   rw [← hg1] at HS1 ⊢
   clear hg1
   have HG1 : Hid (Chg wr wb No) := hid (Hc1.out.tr HE1.out)
   have HQ1 : Hid (∀ W, Chg wb W No → W.heap[g1]? = some (.cells (ansS j x) 43 (0, 0))) := hid (fun W hW => hW.keep HS1.out.here (fun e => e))
   clear HS1 HE1 Hc1
   have q0 : wb.cell? ⟨g1, 0, none⟩ = some (.int .i64 0) := (cell_of_row _ _ _ _ _ _ (HQ1.out wb (Chg.refl _ _))).trans rfl
   go_upto_region 11 with fail
   clear q0
   go_upto_region 12 with fail
   go_loopw [10, 11] (fun x10 x11 w2 => ∃ (kb : Bool) (k : Nat), x10 = .bool kb ∧ x11 = .int .i64 (k : Int) ∧ k ≤ m ∧ Hid (Chg wb w2 No ∧ kb = decide (j ∈ sn.take k))) (fun _ x11 _ => m - (intOf x11).toNat)
   case atStart => exact ⟨false, 0, rfl, rfl, Nat.zero_le _, hid ⟨Chg.refl _ _, by simp⟩⟩
   case round =>
    obtain ⟨kb, k, rfl, rfl, hk, HK⟩ := hrel
    have k0 : (0 : Int) ≤ (k : Int) := by omega
    by_cases hkm : k < m
    ·have k1 : (k : Int) < (m : Int) := by omega
     have hks : k < sn.length := by rw [← HM.out]; exact hkm
     obtain ⟨gs, hsa, hgs, hcs⟩ := own_cellS HX2.out hks
     subst hsa
     have qs := hcs wr (HG1.out.tr HK.out.1)
     have qj : wr.cell? ⟨g1, 1, none⟩ = some (.int .i64 j) := (cell_of_row _ _ _ _ _ _ (HQ1.out wr HK.out.1)).trans rfl
     obtain ⟨y, hy⟩ : ∃ y, y = sn.getD k 0 := ⟨_, rfl⟩
     rw [← hy] at qs
     have HNx : Hid (∀ kb', (kb' = (kb || decide (y = j))) → kb' = decide (j ∈ sn.take (k + 1))) := hid (fun kb' e => by
      rw [e, HK.out.2, List.take_add_one, List.getElem?_eq_getElem hks]
      have e2 : sn[k] = y := by rw [hy, List.getD_eq_getElem?_getD, List.getElem?_eq_getElem hks]; rfl
      rw [e2]
      simp [eq_comm])
     have HK1 := hid HK.out.1
     clear hcs hgs hks hy HK
     cases kb with
     | true =>
      go_wp2_with fail
      go_quiet (fail)
      go_wp2_with fail
      exact ⟨⟨true, k + 1, rfl, by go_num, by omega, hid ⟨HK1.out.tr (chg_drewN _ _), HNx.out true (by simp)⟩⟩, by simp [intOf]; omega⟩
     | false =>
      by_cases hyj : y = j
      ·have z1 : (y == j) = true := by simp [hyj]
       have z2 : decide (y = j) = true := decide_eq_true hyj
       have HZ := hid hyj
       clear hyj
       go_wp2_with fail
       go_quiet (fail)
       go_wp2_with fail
       exact ⟨⟨true, k + 1, rfl, by go_num, by omega, hid ⟨HK1.out.tr (chg_drewN _ _), HNx.out true (by simp [HZ.out])⟩⟩, by simp [intOf]; omega⟩
      ·have z1 : (y == j) = false := beq_eq_false_iff_ne.2 hyj
       have z2 : decide (y = j) = false := decide_eq_false hyj
       have HZ := hid hyj
       clear hyj
       go_wp2_with fail
       go_quiet (fail)
       go_wp2_with fail
       exact ⟨⟨false, k + 1, rfl, by go_num, by omega, hid ⟨HK1.out.tr (chg_drewN _ _), HNx.out false (by simp [HZ.out])⟩⟩, by simp [intOf]; omega⟩
    ·have k1 : ¬ (k : Int) < (m : Int) := by omega
     have hkm2 : k = m := by omega
     have HKf : Hid (kb = decide (j ∈ sn)) := hid (by have e := HK.out.2; rw [hkm2, HM.out, List.take_length] at e; exact e)
     have HK1 := hid HK.out.1
     clear HK hkm2
     cases kb with
     | true =>
      have HIn : Hid (j ∈ sn) := hid (of_decide_eq_true HKf.out.symm)
      go_wp2_with fail
      exact ⟨⟨_, _, b, i + 1, rfl, rfl, rfl, by go_num, by omega, hid ⟨ps, sn, by have h := HX1.out.call (HG1.out.tr HK1.out); exact h, HX2.out.call2 (HG1.out.tr HK1.out), HX3.out.tr (HG1.out.tr HK1.out), HX4.out.known HP.out HJ.out HIn.out, by have := HNp.out; omega, HX6.out⟩⟩, by simp [intOf]; omega⟩
     | false =>
      have HIn : Hid (j ∉ sn) := hid (of_decide_eq_false HKf.out.symm)
      have HXr1 := hid (HX1.out.call (HG1.out.tr HK1.out))
      have HXr2 := hid (HX2.out.call2 (HG1.out.tr HK1.out))
      have HXr3 := hid (HX3.out.tr (HG1.out.tr HK1.out))
      have HQr1 : Hid (wr.heap[g1]? = some (.cells (ansS j x) 43 (0, 0))) := hid (HQ1.out wr HK1.out)
      have e2 : (wr.alloc (.cells #[.int .i64 j] 3)).cell? ⟨wr.heap.size, 0, none⟩ = some (.int .i64 j) := (cell_of_row _ _ _ _ _ _ (heap_alloc_new wr (.cells #[.int .i64 j] 3))).trans rfl
      have hRo : IOwn (wr.alloc (.cells #[.int .i64 j] 3)) w.heap.size (.slice sa m sc) sn := HXr2.out.call2 (Chg.alloc wr _ No)
      have HLn : Hid (sn.length ≤ 1000000000000) := hid (by rw [← HM.out]; omega)
      have HBs : Hid (w.heap.size ≤ (wr.alloc (.cells #[.int .i64 j] 3)).heap.size) := hid (by have h1 := HXr3.out.size; have h2 := (Chg.alloc wr (.cells #[.int .i64 j] 3) No).size; omega)
      have q1 : wr.cell? ⟨g1, 1, none⟩ = some (.int .i64 j) := (cell_of_row _ _ _ _ _ _ HQr1.out).trans rfl
      go_upto_region 17 with (first
       | (at_builtin; go_must (refine wp_appI2 rfl _ _ rfl w.heap.size wr.heap.size 1 _ sn j rfl rfl hRo e2 HLn.out HBs.out ?_; intro v' wc hIc hcc hnc; have HIc := hid hIc; have Hcc := hid hcc; obtain ⟨sa2, sc2, hsv2⟩ := hIc.shape; obtain ⟨ml, hml⟩ : ∃ y : Nat, y = (sn ++ [j]).length := ⟨_, rfl⟩; rw [← hml] at hsv2; subst hsv2; have HMl := hid hml; clear hIc hcc hnc e2 hRo q1 hml))
       | fail)
      have HTb : Hid (∃ A, wr.heap[g]? = some (.cells A 9 (0, 0))) := hid (HXr1.out.blk rfl).2
      have HCa : Hid (Chg wr (wr.alloc (.cells #[.int .i64 j] 3)) No) := hid (Chg.alloc wr _ No)
      have HSb : Hid (∀ k, (Value.slice sa m sc).ownBlock = some k → w.heap.size ≤ k ∧ ∃ A, wr.heap[k]? = some (.cells A 3 (0, 0))) := hid (fun k e => HXr2.out.blk e)
      have HC3 : Hid (Chg wr wc (fun k => (Value.slice sa m sc).ownBlock = some k)) := hid (HCa.out.trans Hcc.out (fun _ _ e => e.elim) (fun _ _ e => e))
      have HXc1 : Hid (TOw wc w.heap.size (.slice (some ⟨g, 0, none⟩) n cp) (ps.map TP)) := hid (HXr1.out.keep HC3.out (fun k e1 e2 => by
       obtain ⟨A, hA⟩ := (HXr1.out.blk e1).2
       obtain ⟨A', hA'⟩ := (HSb.out k e2).2
       rw [hA] at hA'
       cases hA'))
      have HQc1 : Hid (wc.heap[g1]? = some (.cells (ansS j x) 43 (0, 0))) := hid (HC3.out.keep HQr1.out (fun e2 => by
       obtain ⟨A', hA'⟩ := (HSb.out g1 e2).2
       rw [HQr1.out] at hA'
       cases hA'))
      have HXc3 : Hid (Chg w wc No) := hid (HXr3.out.trans HC3.out (fun _ _ e => e) (fun k hk e => by have := (HSb.out k e).1; omega))
      have HBF := hid (HX4.out.more HI2.out.inv HAl.out HP.out HJ.out HIn.out HXx.out)
      have HSm : Hid (b + cx = sumC s (sn ++ [j])) := hid (by rw [sumC_snoc HXx.out, HX6.out, HCx.out])
      obtain ⟨xm1, xm2⟩ := HBF.out.len HI2.out.inv HIo.out
      have HLb : Hid ((ps ++ (nmF x).map fun n => ls ++ [n]).length ≤ 78) := hid xm2
      have HSl : Hid ((sn ++ [j]).length ≤ 11) := hid xm1
      have HBb : Hid (b ≤ 600000) := hid (by
       have h1 : b ≤ 1102 * sn.length := by
        rw [HX6.out]
        exact sumC_le s sn
       have h2 := HM.out
       omega)
      clear HXr1 HXr2 HXr3 HQr1 HLn HBs Hcc HTb HCa HSb HC3 xm1 xm2 HX1 HX2 HX3 HG1 HQ1 HK1 HKf HX6 HIn
      have q6 : wc.cell? ⟨g1, 6, none⟩ = some (.int .i64 (cx : Int)) := by rw [HCx.out]; exact (cell_of_row _ _ _ _ _ _ HQc1.out).trans rfl
      have wv : IntKind.i64.wrap ((b : Int) + (cx : Int)) = (b : Int) + (cx : Int) := by
       have h1 := HBb.out
       have h2 := HCc.out
       have h3 := HCx.out
       rw [IntKind.wrap_i64]
       omega
      go_upto_region 18 with fail
      clear q6 wv HQc1
      have qg := (by
       obtain ⟨g', e1, _, h3⟩ := TOw.cell HXc1.out (j := i) (t := t) (by rw [List.getElem?_map, HP.out, HTt.out]; rfl)
       have e1 : g = g' := by simpa using e1
       rw [← e1] at h3
       exact h3 wc (Chg.refl _ _) : wc.cell? ⟨g, i, none⟩ = some (.string t))
      have hD2 := HAsk.out 11 t (.inr rfl) wc HXc3.out
      have HE := hid (ask_list HI2.out.inv t)
      obtain ⟨E, hE⟩ : ∃ y, y = entA (askS s 11 t 0) := ⟨_, rfl⟩
      rw [← hE] at HE HEn
      have HEe := hid hE
      clear hE
      go_upto_region 19 with (first
       | (go_at_call 9; go_must (refine hD2.mono ?_; rintro e wd ⟨A2, rfl, hA2, hc2⟩; have HA2 := hid hA2; have HO2 := hid hA2.one; have Hc2 := hid hc2; clear hA2 hc2))
       | (refine store_R rfl 43 _ _ rfl wd.heap.size A2 rfl rfl 43 _ (heap_alloc_new _ _) (by rw [szAn, HO2.out.1]) (by rw [HO2.out.1]; rfl) HO2.out.2 ?_; intro we hs2; have HS2 := hid hs2; clear hs2)
       | fail)
      clear hD2 qg
      obtain ⟨g2, hg2⟩ : ∃ y, y = wd.heap.size := ⟨_, rfl⟩
      have HE2 : Hid (Chg wd we No) := hid ((Chg.alloc wd _ No).trans (kt_new HS2.out) (fun _ _ e => e) (fun j hj e => by omega))
      rw [← hg2] at HS2 ⊢
      clear hg2
      obtain ⟨v8, hv8, hE8⟩ := HA2.out.ent
      obtain ⟨a8, c8, hs8⟩ := row_shape hE8
      subst hs8
      rw [← HEe.out] at hE8 hv8
      have HV8 := hid hv8
      have HE8 : Hid (EOw we wc.heap.size (.slice a8 E.length c8) E) := hid (hE8.keep HE2.out (fun _ _ e => e))
      have HQ2 : Hid (we.heap[g2]? = some (.cells A2 43 (0, 0))) := hid HS2.out.here
      have HXe1 : Hid (TOw we w.heap.size (.slice (some ⟨g, 0, none⟩) n cp) (ps.map TP)) := hid (HXc1.out.call (Hc2.out.tr HE2.out))
      have HIe : Hid (IOwn we w.heap.size (.slice sa2 ml sc2) (sn ++ [j])) := hid (HIc.out.call2 (Hc2.out.tr HE2.out))
      have HXe3 : Hid (Chg w we No) := hid (HXc3.out.tr (Hc2.out.tr HE2.out))
      clear hv8 hE8 HXc1 HXc3 HIc HS2 HE2 HA2 HO2 Hc2
      obtain ⟨me, hme⟩ : ∃ y, y = E.length := ⟨_, rfl⟩
      rw [← hme] at HE8 HV8
      have HMe := hid hme
      have i8 : (me : Int) ≤ 1068 := by have := HE.out.1; omega
      have HBel : Hid (∀ (k : Nat) e, E[k]? = some e → ∀ W, Calls Tryz.prog 37 #[.string t, .string e.1] W fun e' w' => e' = .returned (.string (belN t e.1)) ∧ w' = W) := hid (fun k e hek W => below_any t e.1 W (by have := HSz.out; omega) (by have := HE.out.2 e (List.mem_of_getElem? hek); omega))
      have H0 : Hid (TOw we w.heap.size (.slice (some ⟨g, 0, none⟩) n cp) (ps.map TP ++ ((E.take 0).map fun e => belN t e.1)) ∧ Chg w we No ∧ we.heap[g2]? = some (.cells A2 43 (0, 0)) ∧ EOw we wc.heap.size (.slice a8 me c8) E ∧ IOwn we w.heap.size (.slice sa2 ml sc2) (sn ++ [j])) := hid ⟨by simpa using HXe1.out, HXe3.out, HQ2.out, HE8.out, HIe.out⟩
      have HGs : Hid (∃ A, we.heap[g]? = some (.cells A 9 (0, 0))) := hid (HXe1.out.blk rfl).2
      clear hme HE8 HQ2 HXe1 HXe3 HIe
      go_upto_region 20 with fail
      go_loopw [7, 13] (fun x7 x13 w2 => ∃ (v2 : Value) (k : Nat), v2 = x7 ∧ x13 = .int .i64 (k : Int) ∧ k ≤ me ∧ Hid (TOw w2 w.heap.size v2 (ps.map TP ++ ((E.take k).map fun e => belN t e.1)) ∧ Chg w w2 No ∧ w2.heap[g2]? = some (.cells A2 43 (0, 0)) ∧ EOw w2 wc.heap.size (.slice a8 me c8) E ∧ IOwn w2 w.heap.size (.slice sa2 ml sc2) (sn ++ [j]))) (fun _ x13 _ => me - (intOf x13).toNat)
      case atStart => exact ⟨_, 0, rfl, rfl, Nat.zero_le _, H0⟩
      case round =>
       obtain ⟨v2, k, rfl, rfl, hk, HY⟩ := hrel
       clear H0 HGs
       have q8 : wr.cell? ⟨g2, 8, none⟩ = some (.slice a8 me c8) := by rw [cell_of_row _ _ _ _ _ _ HY.out.2.2.1]; exact HV8.out
       by_cases hkm : k < me
       ·have k1 : (k : Int) < (me : Int) := by omega
        have k0 : (0 : Int) ≤ (k : Int) := by omega
        obtain ⟨e, hek⟩ : ∃ e, E[k]? = some e := ⟨_, List.getElem?_eq_getElem (by rw [← HMe.out]; exact hkm)⟩
        obtain ⟨y1, y2, y3, y4, y5⟩ := HY.out
        obtain ⟨a2, cp2, hv2⟩ := row_shape y1
        subst hv2
        obtain ⟨L2, hL2⟩ : ∃ y, y = ps.map TP ++ ((E.take k).map fun e => belN t e.1) := ⟨_, rfl⟩
        have hp2 : L2[i]? = some t := by rw [hL2, List.getElem?_append_left (by rw [List.length_map, ← HNp.out]; exact hlt), List.getElem?_map, HP.out, HTt.out]; rfl
        have hL2n : L2.length ≤ 1000000 := by
         have h2 := HNp.out
         have h3 := HMe.out
         rw [hL2, List.length_append, List.length_map, List.length_map, List.length_take]
         omega
        rw [← hL2] at y1
        rw [← hL2]
        obtain ⟨gl, ha2, hgl2, hcl⟩ := TOw.cell y1 hp2
        obtain ⟨ge, ha8, hge, hce⟩ := EOw.cell y4 hek
        subst ha2 ha8
        have q95 := hcl wr (Chg.refl _ _)
        have q101 : wr.cell? ⟨ge, k * 3, none⟩ = some (.string e.1) := by rw [Nat.mul_comm]; exact hce wr (Chg.refl _ _)
        have hil : i < L2.length := (List.getElem?_eq_some_iff.1 hp2).1
        obtain ⟨n2, hn2⟩ : ∃ y, y = L2.length := ⟨_, rfl⟩
        rw [← hn2] at y1 hil hL2n ⊢
        have i2 : (i : Int) < (n2 : Int) := by omega
        have i3 : (n2 : Int) ≤ 1000000 := by omega
        have HBl : Hid (w.heap.size ≤ gl ∧ ∃ A, wr.heap[gl]? = some (.cells A 9 (0, 0))) := hid (y1.blk rfl)
        have HNg : Hid (gl ≠ g2 ∧ gl ≠ ge) := hid ⟨(fun e1 => by
          obtain ⟨A, hA⟩ := HBl.out.2
          rw [e1, y3] at hA
          cases hA), (fun e1 => by
          obtain ⟨A, hA⟩ := HBl.out.2
          rcases y4.2 with ⟨e2, _⟩ | ⟨gg, c1, c2, e2, _, hgg, _⟩
          ·cases e2
          ·cases e2
           rw [e1, hgg] at hA
           cases hA)⟩
        have HNi : Hid (∀ k', (Value.slice sa2 ml sc2).ownBlock = some k' → gl ≠ k') := hid (fun k' e1 e3 => by
          obtain ⟨A, hA⟩ := HBl.out.2
          obtain ⟨A', hA'⟩ := (y5.blk e1).2
          rw [e3, hA'] at hA
          cases hA)
        have HY1 := hid y1
        have HY3 := hid y3
        have HY2 := hid y2
        have HY4 := hid y4
        have HY5 := hid y5
        have HGl2 := hid hgl2
        have HGe := hid hge
        have HB := hid (HBel.out k e hek)
        have HK := hid hek
        have HLL := hid hL2
        have HN2 := hid hn2
        clear y1 y2 y3 y4 y5 hcl hce hgl2 hge hek hL2 hn2 hp2 hil hL2n HY
        go_upto_region 22 with fail
        refine wp_region_noPanic ?_
        refine wp_region_held_drew (S := fun w' => Chg wr w' (· = gl) ∧ w'.cell? ⟨gl, i, none⟩ = some (.string t)) (by kernel_rfl) ⟨(Chg.refl wr _).drew, q95⟩ (fun hH => ?_)
        have HC8 : Hid (∀ W', Chg wr W' (· = gl) → W'.cell? ⟨g2, 8, none⟩ = some (.slice (some ⟨ge, 0, none⟩) me c8)) := hid (fun W' hw' => by rw [cell_of_row _ _ _ _ _ _ (hw'.keep HY3.out (fun e => HNg.out.1 e.symm))]; exact HV8.out)
        have HC1 : Hid (∀ W', Chg wr W' (· = gl) → W'.cell? ⟨ge, k * 3, none⟩ = some (.string e.1)) := hid (fun W' hw' => by
         have := q101
         unfold World.cell? at this ⊢
         rw [hw'.block _ HGe.out (fun e => HNg.out.2 e.symm)]
         exact this)
        clear q8 q95 q101
        refine tV 0 78 (.slice (some ⟨gl, 0, none⟩) n2 cp2) rfl (by kernel_rfl) rfl (by rfl) hH (fun W' hw' => rfl) ?_
        simp only [sS]
        refine tV 1 79 (.slice (some ⟨gl, 0, none⟩) n2 cp2) rfl (by kernel_rfl) rfl (by rfl) hH (fun W' hw' => rfl) ?_
        simp only [sS]
        refine tV 2 80 (.int .i64 (i : Int)) rfl (by kernel_rfl) rfl (by rfl) hH (fun W' hw' => rfl) ?_
        simp only [sS]
        refine tV 3 81 (.pointer (some ⟨gl, i, none⟩)) rfl (by kernel_rfl) rfl (by rfl) hH (fun W' hw' => by go_simp) ?_
        simp only [sS]
        refine tV 4 82 (.string t) rfl (by kernel_rfl) rfl (by rfl) hH (fun W' hw' => by have hc := hw'.2; go_simp) ?_
        simp only [sS]
        refine tV 5 83 (.pointer (some ⟨g2, 8, none⟩)) rfl (by kernel_rfl) rfl (by rfl) hH (fun W' hw' => by go_simp) ?_
        simp only [sS]
        refine tV 6 84 (.slice (some ⟨ge, 0, none⟩) me c8) rfl (by kernel_rfl) rfl (by rfl) hH (fun W' hw' => by have hc := HC8.out W' hw'.1; go_simp) ?_
        simp only [sS]
        refine tV 7 85 (.int .i64 (k : Int)) rfl (by kernel_rfl) rfl (by rfl) hH (fun W' hw' => rfl) ?_
        simp only [sS]
        refine tV 8 86 (.pointer (some ⟨ge, k * 3, none⟩)) rfl (by kernel_rfl) rfl (by rfl) hH (fun W' hw' => by go_simp) ?_
        simp only [sS]
        refine tV 9 87 (.pointer (some ⟨ge, k * 3, none⟩)) rfl (by kernel_rfl) rfl (by rfl) hH (fun W' hw' => by go_simp) ?_
        simp only [sS]
        refine tV 10 88 (.string e.1) rfl (by kernel_rfl) rfl (by rfl) hH (fun W' hw' => by have hc := HC1.out W' hw'.1; go_simp) ?_
        simp only [sS]
        refine step1 11 (by kernel_rfl) ?_
        refine stCall 11 89 37 #[.string t, .string e.1] _ rfl rfl (by rfl) (by go_simp) (HB.out _) ?_
        rintro e2 wg ⟨rfl, rfl⟩
        refine ⟨_, rfl, hH, ?_⟩
        simp only [sS]
        refine step1 12 (by kernel_rfl) ?_
        have hca : Chg wr (wr.drew.alloc (.cells #[.string (belN t e.1)] 9)) (· = gl) := hH.1.trans (Chg.alloc wr.drew _ No) (fun _ _ e => e) (fun _ _ e => e.elim)
        have hgn := heap_alloc_new wr.drew (.cells #[.string (belN t e.1)] 9)
        have hka : (wr.drew.alloc (.cells #[.string (belN t e.1)] 9)).cell? ⟨gl, i, none⟩ = some (.string t) := by
         have := hH.2
         unfold World.cell? at this ⊢
         rw [(Chg.alloc wr.drew (.cells #[.string (belN t e.1)] 9) No).block _ HGl2.out (fun e => e)]
         exact this
        refine stNew 12 90 (.slice (some ⟨wr.drew.heap.size, 0, none⟩) 1 1) (.cells #[.string (belN t e.1)] 9) rfl rfl (by rfl) (by go_simp) ⟨⟨hca, hka⟩, ?_⟩
        simp only [sS]
        refine step1 13 (by kernel_rfl) ?_
        have hTa : TOw (wr.drew.alloc (.cells #[.string (belN t e.1)] 9)) w.heap.size (.slice (some ⟨gl, 0, none⟩) n2 cp2) L2 := TOw.call (w := wr.drew) HY1.out (Chg.alloc wr.drew _ No)
        refine stAppK 13 91 rfl rfl (by rfl) (.tmp 78) (.tmp 90) rfl w.heap.size wr.drew.heap.size 1 (.slice (some ⟨gl, 0, none⟩) n2 cp2) L2 (belN t e.1) rfl rfl hTa hgn (by have := HN2.out; omega) (by have := HY2.out.size; have e9 : wr.drew.heap.size = wr.heap.size := rfl; simp; omega) ?_
        intro v3 wg hT3 hc3 hk3
        have hS3 : Chg wr wg (· = gl) ∧ wg.cell? ⟨gl, i, none⟩ = some (.string t) := ⟨hca.trans hc3 (fun _ _ e => e) (fun j _ e => (by simpa [Value.ownBlock] using e : gl = j).symm), hk3 gl _ _ rfl i t (by rw [HLL.out, List.getElem?_append_left (by rw [List.length_map, ← HNp.out]; exact hlt), List.getElem?_map, HP.out, HTt.out]; rfl)⟩
        refine ⟨hS3, ?_⟩
        simp only [sS]
        refine tV 14 7 v3 rfl (by kernel_rfl) rfl (by rfl) hS3 (fun W' hw' => rfl) ?_
        simp only [sS]
        refine wpAnyH_done (by kernel_rfl) ?_ _
        refine NoPanic.normal ?_
        have HNew : Hid (TOw wg w.heap.size v3 (ps.map TP ++ ((E.take (k + 1)).map fun e => belN t e.1)) ∧ Chg w wg No ∧ wg.heap[g2]? = some (.cells A2 43 (0, 0)) ∧ EOw wg wc.heap.size (.slice (some ⟨ge, 0, none⟩) me c8) E ∧ IOwn wg w.heap.size (.slice sa2 ml sc2) (sn ++ [j])) := hid ⟨(by
         rw [List.take_add_one, HK.out, List.map_append, ← List.append_assoc, ← HLL.out]
         exact hT3), HY2.out.trans hS3.1 (fun _ _ e => e) (fun j hj e => by have := HBl.out.1; omega), hS3.1.keep HY3.out (fun e => HNg.out.1 e.symm), HY4.out.keep hS3.1 (fun k2 e1 e2 => HNg.out.2 (by
          have : ge = k2 := by simpa [Value.ownBlock] using e1
          omega)), HY5.out.keep hS3.1 (fun k2 e1 e2 => HNi.out k2 e1 e2.symm)⟩
        clear hH hca hgn hka hTa hT3 hc3 hk3 hS3 HC8 HC1
        go_wp2_with fail
        exact ⟨⟨v3, k + 1, rfl, by go_num, by omega, HNew⟩, by simp [intOf]; omega⟩
       ·have k1 : ¬ (k : Int) < (me : Int) := by omega
        have hkm2 : k = me := by omega
        have HFin : Hid (TOw wr w.heap.size v2 ((ps ++ (nmF x).map fun n => ls ++ [n]).map TP) ∧ Chg w wr No ∧ IOwn wr w.heap.size (.slice sa2 ml sc2) (sn ++ [j])) := hid (by
         have hY := HY.out
         rw [hkm2, HMe.out, List.take_length, HEn.out, ← List.map_append] at hY
         exact ⟨hY.1, hY.2.1, hY.2.2.2.2⟩)
        clear HY hkm2
        go_wp2_with fail
        exact ⟨⟨_, _, b + cx, i + 1, rfl, by go_num, rfl, by go_num, by omega, hid ⟨_, _, HFin.out.1, HFin.out.2.2, HFin.out.2.1, HBF.out, by have := HNp.out; rw [List.length_append]; omega, HSm.out⟩⟩, by simp [intOf]; omega⟩
  ·have j1 : ¬ (i : Int) < (n : Int) := by omega
   have HSu : Hid (b = takenN s ∧ m = nodesN s) := hid (by
    have e : i = ps.length := by have := HNp.out; omega
    have h4 := HX4.out
    rw [e] at h4
    have := h4.sums HI2.out.inv HI2.out.rank
    rw [HX6.out, HM.out]
    exact this)
   go_wp2_with fail
   go_ret3
   exact ⟨by rw [HTk.out, HNn.out, HSu.out.1, HSu.out.2]; rfl, HX3.out⟩
end Go.Proofs.YtmgfilacepnjlaaGreatDoor
