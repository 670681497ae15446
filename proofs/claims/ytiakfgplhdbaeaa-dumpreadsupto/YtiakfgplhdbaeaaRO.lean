/-
  package dump: the next node.
-/
import Derived.Test.YtiakfgplhdbaeaaRE
import Derived.Test.YtiakfgplhdbaeaaLE
namespace Go.Proofs.Ytiakfgplhdbaeaa
open Go.RowKit

theorem p1 : (256 : Int) ^ 1 = 256 := by decide
theorem p8 : (256 : Int) ^ 8 = 18446744073709551616 := by decide
theorem szIn : (Try.prog.info? 3).map (·.size) = some 1 := by kernel_rfl
theorem szSr : (Try.prog.info? 9).map (·.size) = some 1 := by kernel_rfl
theorem szBy : (Try.prog.info? 29).map (·.size) = some 1 := by kernel_rfl
theorem Rd.keep {w w' : World} {gr b o cap : Nat} {zs : List Int} {s : Bool} {ks : Nat → Prop} (h : Rd w gr b o zs cap s) (hc : Chg w w' ks) (h1 : ¬ ks gr) (h2 : ¬ ks b) : Rd w' gr b o zs cap s := ⟨hc.keep h.me h1, h.at_.keep hc h2, h.cp, h.ne⟩
theorem BOw.oneC {w : World} {B : Nat} {v : Value} {l : List Int} (h : BOw w B v l) : v.oneCell' = true := by
  obtain ⟨a, c, rfl, _⟩ := h.one
  rfl

set_option maxHeartbeats 8000000 in
set_option maxRecDepth 100000 in
theorem node_good {gr b o cap : Nat} {rest : List Int} {s : Bool} (n : Nod) (w : World) (h : Rd w gr b o (nodeB n ++ rest) cap s) (hf : fitsB n = true) :
    Calls Try.prog 24 #[.pointer (some ⟨gr, 0, none⟩)] w fun e w' => (∃ da dc, e = .returned (.agg (nodA { n with da := da, dc := dc })) ∧ BOw w' w.heap.size (.slice da n.data.length dc) n.data) ∧ (∃ o' cap', Rd w' gr b o' rest cap' s) ∧ Chg w w' (· = gr) := by
  obtain ⟨w0, hw0⟩ : ∃ y, y = (w.alloc (.cells zN.toArray 47)).alloc (.cells zN.toArray 47) := ⟨_, rfl⟩
  have hc0 : Chg w w0 No := by rw [hw0]; exact (Chg.alloc _ _ No).tr (Chg.alloc _ _ No)
  have hR : w0.heap[w.heap.size]? = some (.cells zN.toArray 47 (0, 0)) := by rw [hw0]; exact (Chg.alloc _ _ No).keep (heap_alloc_new w _) (fun e => e)
  have hG : w0.heap[w.heap.size + 1]? = some (.cells zN.toArray 47 (0, 0)) := by
    have := heap_alloc_new (w.alloc (.cells zN.toArray 47)) (.cells zN.toArray 47)
    rw [show (w.alloc (.cells zN.toArray 47)).heap.size = w.heap.size + 1 by simp] at this
    rw [hw0]
    exact this
  have hft := fit_len hf
  have hf2 : (n.kind = 1 ∨ n.kind = 2) ∧ 0 ≤ n.made ∧ n.made ≤ 1099511627776 := by
    unfold fitsB inB at hf
    simp only [Bool.and_eq_true, decide_eq_true_eq] at hf
    exact ⟨hf.1.1.1, hf.1.1.2.1, hf.1.1.2.2.1⟩
  have e0 : nodeB n ++ rest = numB n.kind 1 ++ (numB n.made 8 ++ (numB ((bytesI n.path).length : Nat) 4 ++ (bytesI n.path ++ (numB ((bytesI n.same).length : Nat) 4 ++ (bytesI n.same ++ (numB (n.data.length : Nat) 4 ++ (n.data ++ rest))))))) := by simp [nodeB, bytesI_len]
  rw [e0] at h
  have hgl : gr < w.heap.size := slt h.me
  have hbl : b < w.heap.size := h.at_.1
  obtain ⟨r5, hr5⟩ : ∃ y, y = numB (n.data.length : Nat) 4 ++ (n.data ++ rest) := ⟨_, rfl⟩
  obtain ⟨r4, hr4⟩ : ∃ y, y = numB ((bytesI n.same).length : Nat) 4 ++ (bytesI n.same ++ r5) := ⟨_, rfl⟩
  obtain ⟨r3, hr3⟩ : ∃ y, y = numB ((bytesI n.path).length : Nat) 4 ++ (bytesI n.path ++ r4) := ⟨_, rfl⟩
  obtain ⟨r2, hr2⟩ : ∃ y, y = numB n.made 8 ++ r3 := ⟨_, rfl⟩
  rw [← hr5, ← hr4, ← hr3, ← hr2] at h
  have hN1 := number_num n.kind w0 (h.call hc0) (by decide) (by omega) (by rw [p1]; omega) (by omega)
  have HN2 : Hid (∀ W o' cap', Rd W gr b o' r2 cap' s → Calls Try.prog 29 #[.pointer (some ⟨gr, 0, none⟩), .int .i64 8] W fun e w' => e = .returned (.int .i64 n.made) ∧ (∃ o' cap', Rd w' gr b o' r3 cap' s) ∧ Chg W w' (· = gr)) := hid (fun W o' cap' hW => by rw [hr2] at hW; exact number_num n.made W hW (by decide) (by omega) (by rw [p8]; omega) (by omega))
  have HL3 : Hid (∀ W o' cap', Rd W gr b o' r3 cap' s → Calls Try.prog 30 #[.pointer (some ⟨gr, 0, none⟩)] W fun e w' => (∃ o' cap', e = .returned (.slice (some ⟨b, o', none⟩) (bytesI n.path).length cap') ∧ At8 w' b o' (bytesI n.path)) ∧ (∃ o' cap', Rd w' gr b o' r4 cap' s) ∧ Chg W w' (· = gr)) := hid (fun W o' cap' hW => by rw [hr3] at hW; exact list_good W hW (by rw [bytesI_len]; omega))
  have HL4 : Hid (∀ W o' cap', Rd W gr b o' r4 cap' s → Calls Try.prog 30 #[.pointer (some ⟨gr, 0, none⟩)] W fun e w' => (∃ o' cap', e = .returned (.slice (some ⟨b, o', none⟩) (bytesI n.same).length cap') ∧ At8 w' b o' (bytesI n.same)) ∧ (∃ o' cap', Rd w' gr b o' r5 cap' s) ∧ Chg W w' (· = gr)) := hid (fun W o' cap' hW => by rw [hr4] at hW; exact list_good W hW (by rw [bytesI_len]; omega))
  have HL5 : Hid (∀ W o' cap', Rd W gr b o' r5 cap' s → Calls Try.prog 30 #[.pointer (some ⟨gr, 0, none⟩)] W fun e w' => (∃ o' cap', e = .returned (.slice (some ⟨b, o', none⟩) n.data.length cap') ∧ At8 w' b o' n.data) ∧ (∃ o' cap', Rd w' gr b o' rest cap' s) ∧ Chg W w' (· = gr)) := hid (fun W o' cap' hW => by rw [hr5] at hW; exact list_good W hW (by omega))
  have HDl : Hid (n.data.length ≤ 4000000) := hid (by omega)
  have HC0 := hid hc0
  have HR0 := hid hR
  obtain ⟨g3, hg3⟩ : ∃ y, y = w.heap.size + 1 := ⟨_, rfl⟩
  rw [← hg3] at hG
  have HG0 := hid hG
  have HB := hid (show gr < w.heap.size ∧ b < w.heap.size ∧ g3 = w.heap.size + 1 from ⟨hgl, hbl, hg3⟩)
  have HRd0 := hid (h.call hc0)
  obtain ⟨pa, hpa⟩ : ∃ y, y = n.path := ⟨_, rfl⟩
  obtain ⟨sa, hsa⟩ : ∃ y, y = n.same := ⟨_, rfl⟩
  obtain ⟨kd, hkd⟩ : ∃ y, y = n.kind := ⟨_, rfl⟩
  obtain ⟨md, hmd⟩ : ∃ y, y = n.made := ⟨_, rfl⟩
  obtain ⟨ds, hds⟩ : ∃ y, y = n.data := ⟨_, rfl⟩
  rw [← hpa] at HL3
  rw [← hsa] at HL4
  rw [← hkd] at hN1
  rw [← hmd] at HN2
  rw [← hds] at HL5 HDl ⊢
  have HE : Hid (∀ da dc, nodA { n with da := da, data := ds, dc := dc } = #[.string pa, .int .i64 kd, .int .i64 md, .string sa, .slice da ds.length dc]) := hid (fun da dc => by rw [hpa, hsa, hkd, hmd]; rfl)
  have e1 : w0 = (w.alloc (.cells #[.string ⟨#[]⟩, .int .i64 0, .int .i64 0, .string ⟨#[]⟩, .slice none 0 0] 47)).alloc (.cells #[.string ⟨#[]⟩, .int .i64 0, .int .i64 0, .string ⟨#[]⟩, .slice none 0 0] 47) := hw0
  have HG0 : Hid (w0.heap[g3]? = some (.cells #[.string ⟨#[]⟩, .int .i64 0, .int .i64 0, .string ⟨#[]⟩, .slice none 0 0] 47 (0, 0))) := hid HG0.out
  clear h hf hc0 hR hG hft hf2 e0 hgl hbl hg3 hr2 hr3 hr4 hr5 hw0 hpa hsa hkd hmd hds
  go_enter Try.func24, Try.ntmps24
  go_upto_region 2 with fail
  rw [← e1, ← HB.out.2.2]
  clear e1
  have hK1 := hN1
  go_upto_region 3 with (first
    | (go_at_call 29; go_must (refine hK1.mono ?_; rintro e x1 ⟨rfl, ⟨o1, cp1, hr1⟩, hc1⟩; have HRdx1 := hid hr1; clear hr1; have HGx1 := hid (hc1.keep HG0.out (fun e => by have := HB.out; omega)); have HCx1 := hid (HC0.out.trans hc1 (fun _ _ e => e.elim) (fun _ _ e => e)); have HRx1 := hid (hc1.keep HR0.out (fun e => by have := HB.out; omega)); clear hc1))
    | (refine store_one rfl 3 _ _ rfl g3 1 rfl (.int .i64 kd) rfl rfl szIn 47 _ HGx1.out (by simp) ?_)
    | fail)
  obtain ⟨w1, hw1⟩ : ∃ y, y = x1.setCell ⟨g3, 1, none⟩ (.int .i64 kd) := ⟨_, rfl⟩
  rw [← hw1]
  have hc1 : Chg x1 w1 (· = g3) := by rw [hw1]; exact Chg.setCell
  have HG1 : Hid (w1.heap[g3]? = some (.cells #[.string ⟨#[]⟩, .int .i64 kd, .int .i64 0, .string ⟨#[]⟩, .slice none 0 0] 47 (0, 0))) := hid (by rw [hw1, heap_setCell_same x1 g3 1 _ _ _ HGx1.out]; rfl)
  have HC1 : Hid (Chg w w1 (· = gr)) := hid (HCx1.out.trans hc1 (fun _ _ e => e) (fun j hj e => by have := HB.out; omega))
  have HR1 := hid (hc1.keep HRx1.out (fun e => by have := HB.out; omega))
  have HRd1 := hid (HRdx1.out.keep hc1 (fun e => by have := HB.out; omega) (fun e => by have := HB.out; omega))
  clear hw1 hc1
  have hK2 := HN2.out w1 o1 cp1 HRd1.out
  go_upto_region 4 with (first
    | (go_at_call 29; go_must (refine hK2.mono ?_; rintro e x2 ⟨rfl, ⟨o2, cp2, hr2⟩, hc2⟩; have HRdx2 := hid hr2; clear hr2; have HGx2 := hid (hc2.keep HG1.out (fun e => by have := HB.out; omega)); have HCx2 := hid (HC1.out.trans hc2 (fun _ _ e => e) (fun _ _ e => e)); have HRx2 := hid (hc2.keep HR1.out (fun e => by have := HB.out; omega)); clear hc2))
    | (refine store_one rfl 3 _ _ rfl g3 2 rfl (.int .i64 md) rfl rfl szIn 47 _ HGx2.out (by simp) ?_)
    | fail)
  obtain ⟨w2, hw2⟩ : ∃ y, y = x2.setCell ⟨g3, 2, none⟩ (.int .i64 md) := ⟨_, rfl⟩
  rw [← hw2]
  have hc2 : Chg x2 w2 (· = g3) := by rw [hw2]; exact Chg.setCell
  have HG2 : Hid (w2.heap[g3]? = some (.cells #[.string ⟨#[]⟩, .int .i64 kd, .int .i64 md, .string ⟨#[]⟩, .slice none 0 0] 47 (0, 0))) := hid (by rw [hw2, heap_setCell_same x2 g3 2 _ _ _ HGx2.out]; rfl)
  have HC2 : Hid (Chg w w2 (· = gr)) := hid (HCx2.out.trans hc2 (fun _ _ e => e) (fun j hj e => by have := HB.out; omega))
  have HR2 := hid (hc2.keep HRx2.out (fun e => by have := HB.out; omega))
  have HRd2 := hid (HRdx2.out.keep hc2 (fun e => by have := HB.out; omega) (fun e => by have := HB.out; omega))
  clear hw2 hc2
  have hK3 := HL3.out w2 o2 cp2 HRd2.out
  go_upto_region 5 with (first
    | (go_at_call 30; go_must (refine hK3.mono ?_; rintro e x3 ⟨⟨oq3, cq3, rfl, ha3⟩, ⟨o3, cp3, hr3⟩, hc3⟩; have HA3 := hid ha3; have HRdx3 := hid hr3; clear hr3 ha3; have HGx3 := hid (hc3.keep HG2.out (fun e => by have := HB.out; omega)); have HCx3 := hid (HC2.out.trans hc3 (fun _ _ e => e) (fun _ _ e => e)); have HRx3 := hid (hc3.keep HR2.out (fun e => by have := HB.out; omega)); clear hc3))
    | (refine conv_G (by rfl) 29 9 _ rfl _ (.string pa) _ rfl (by have := conv_at HA3.out.bytes cq3; rw [strOf_bytesI] at this; exact this) ?_)
    | (refine store_one rfl 9 _ _ rfl g3 0 rfl (.string pa) rfl rfl szSr 47 _ HGx3.out (by simp) ?_)
    | fail)
  obtain ⟨w3, hw3⟩ : ∃ y, y = x3.setCell ⟨g3, 0, none⟩ (.string pa) := ⟨_, rfl⟩
  rw [← hw3]
  have hc3 : Chg x3 w3 (· = g3) := by rw [hw3]; exact Chg.setCell
  have HG3 : Hid (w3.heap[g3]? = some (.cells #[.string pa, .int .i64 kd, .int .i64 md, .string ⟨#[]⟩, .slice none 0 0] 47 (0, 0))) := hid (by rw [hw3, heap_setCell_same x3 g3 0 _ _ _ HGx3.out]; rfl)
  have HC3 : Hid (Chg w w3 (· = gr)) := hid (HCx3.out.trans hc3 (fun _ _ e => e) (fun j hj e => by have := HB.out; omega))
  have HR3 := hid (hc3.keep HRx3.out (fun e => by have := HB.out; omega))
  have HRd3 := hid (HRdx3.out.keep hc3 (fun e => by have := HB.out; omega) (fun e => by have := HB.out; omega))
  clear hw3 hc3
  have hK4 := HL4.out w3 o3 cp3 HRd3.out
  go_upto_region 6 with (first
    | (go_at_call 30; go_must (refine hK4.mono ?_; rintro e x4 ⟨⟨oq4, cq4, rfl, ha4⟩, ⟨o4, cp4, hr4⟩, hc4⟩; have HA4 := hid ha4; have HRdx4 := hid hr4; clear hr4 ha4; have HGx4 := hid (hc4.keep HG3.out (fun e => by have := HB.out; omega)); have HCx4 := hid (HC3.out.trans hc4 (fun _ _ e => e) (fun _ _ e => e)); have HRx4 := hid (hc4.keep HR3.out (fun e => by have := HB.out; omega)); clear hc4))
    | (refine conv_G (by rfl) 29 9 _ rfl _ (.string sa) _ rfl (by have := conv_at HA4.out.bytes cq4; rw [strOf_bytesI] at this; exact this) ?_)
    | (refine store_one rfl 9 _ _ rfl g3 3 rfl (.string sa) rfl rfl szSr 47 _ HGx4.out (by simp) ?_)
    | fail)
  obtain ⟨w4, hw4⟩ : ∃ y, y = x4.setCell ⟨g3, 3, none⟩ (.string sa) := ⟨_, rfl⟩
  rw [← hw4]
  have hc4 : Chg x4 w4 (· = g3) := by rw [hw4]; exact Chg.setCell
  have HG4 : Hid (w4.heap[g3]? = some (.cells #[.string pa, .int .i64 kd, .int .i64 md, .string sa, .slice none 0 0] 47 (0, 0))) := hid (by rw [hw4, heap_setCell_same x4 g3 3 _ _ _ HGx4.out]; rfl)
  have HC4 : Hid (Chg w w4 (· = gr)) := hid (HCx4.out.trans hc4 (fun _ _ e => e) (fun j hj e => by have := HB.out; omega))
  have HR4 := hid (hc4.keep HRx4.out (fun e => by have := HB.out; omega))
  have HRd4 := hid (HRdx4.out.keep hc4 (fun e => by have := HB.out; omega) (fun e => by have := HB.out; omega))
  clear hw4 hc4
  have hK5 := HL5.out w4 o4 cp4 HRd4.out
  have HCl : Hid (∀ W o' cap', At8 W b o' ds → Calls Try.prog 31 #[.slice (some ⟨b, o', none⟩) ds.length cap'] W fun e w' => (∃ v, e = .returned v ∧ BOw w' W.heap.size v ds) ∧ Chg W w' No) := hid (fun W o' cap' hW => clone_good W hW HDl.out)
  go_upto_region 7 with (first
    | (go_at_call 30; go_must (refine hK5.mono ?_; rintro e x5 ⟨⟨oq5, cq5, rfl, ha5⟩, ⟨o5, cp5, hr5⟩, hc5⟩; have HRdx5 := hid hr5; have hQ5 := HCl.out x5 oq5 cq5 ha5; have HGx5 := hid (hc5.keep HG4.out (fun e => by have := HB.out; omega)); have HCx5 := hid (HC4.out.trans hc5 (fun _ _ e => e) (fun _ _ e => e)); have HRx5 := hid (hc5.keep HR4.out (fun e => by have := HB.out; omega)); clear hr5 hc5 ha5))
    | (go_at_call 31; go_must (refine hQ5.mono ?_; rintro e y5 ⟨⟨v5, rfl, hb5⟩, hc5⟩; have HBy := hid hb5; have HSz := hid (HCx5.out.size); have HRdy5 := hid (HRdx5.out.call hc5); have HGy5 := hid (hc5.keep HGx5.out (fun e => e)); have HCy5 := hid (HCx5.out.trans hc5 (fun _ _ e => e) (fun _ _ e => e.elim)); have HRy5 := hid (hc5.keep HRx5.out (fun e => e)); obtain ⟨a5, c5, rfl, _⟩ := hb5.one; clear hb5 hc5))
    | (refine store_one rfl 29 _ _ rfl g3 4 rfl (.slice a5 ds.length c5) rfl rfl szBy 47 _ HGy5.out (by simp) ?_)
    | fail)
  obtain ⟨w5, hw5⟩ : ∃ y, y = y5.setCell ⟨g3, 4, none⟩ (.slice a5 ds.length c5) := ⟨_, rfl⟩
  rw [← hw5]
  have hc5 : Chg y5 w5 (· = g3) := by rw [hw5]; exact Chg.setCell
  have HG5 : Hid (w5.heap[g3]? = some (.cells #[.string pa, .int .i64 kd, .int .i64 md, .string sa, .slice a5 ds.length c5] 47 (0, 0))) := hid (by rw [hw5, heap_setCell_same y5 g3 4 _ _ _ HGy5.out]; rfl)
  have HC5 : Hid (Chg w w5 (· = gr)) := hid (HCy5.out.trans hc5 (fun _ _ e => e) (fun j hj e => by have := HB.out; omega))
  have HR5 := hid (hc5.keep HRy5.out (fun e => by have := HB.out; omega))
  have HRd5 := hid (HRdy5.out.keep hc5 (fun e => by have := HB.out; omega) (fun e => by have := HB.out; omega))
  have HBv : Hid (BOw w5 w.heap.size (.slice a5 ds.length c5) ds ∧ ∀ k, (Value.slice a5 ds.length c5).ownBlock = some k → w.heap.size < k) := hid ⟨(HBy.out.keep hc5 (fun k e f => by obtain ⟨_, A, hA⟩ := HBy.out.blk e; rw [f, HGy5.out] at hA; cases hA)).lower HSz.out, fun k e => by have h1 := (HBy.out.blk e).1; have h2 := slt HRx5.out; omega⟩
  clear hw5 hc5
  have HBw : Hid (BOw w5 w.heap.size (.slice a5 ds.length c5) ds ∧ ∀ k, (Value.slice a5 ds.length c5).ownBlock = some k → w.heap.size < k) := HBv
  have sz := nodA_sz ⟨pa, kd, md, sa, a5, ds, c5⟩
  go_wp2_with (first
    | (refine load_R rfl 47 _ rfl g3 rfl 47 #[.string pa, .int .i64 kd, .int .i64 md, .string sa, .slice a5 ds.length c5] _ HG5.out Try.underlying47 rfl sz ?_)
    | (refine store_R rfl 47 _ _ rfl w.heap.size #[.string pa, .int .i64 kd, .int .i64 md, .string sa, .slice a5 ds.length c5] rfl rfl 47 _ HR5.out sz rfl (nodA_one ⟨pa, kd, md, sa, a5, ds, c5⟩) ?_; intro w6 hw6)
    | fail)
  have hk6 := kt_new hw6
  exact bodyPost_ret (v := .agg #[.string pa, .int .i64 kd, .int .i64 md, .string sa, .slice a5 ds.length c5]) (results_R1 Try.results24 _ _ w.heap.size _ 47 _ Try.underlying47 rfl sz rfl hw6.here) rfl ⟨⟨a5, c5, by rw [HE.out], HBw.out.1.keep hk6 (fun k e f => by have := HBw.out.2 k e; omega)⟩, ⟨_, _, HRd5.out.keep hk6 (fun e => by have := HB.out; omega) (fun e => by have := HB.out; omega)⟩, HC5.out.trans hk6 (fun _ _ e => e) (fun j hj e => by omega)⟩
end Go.Proofs.Ytiakfgplhdbaeaa
