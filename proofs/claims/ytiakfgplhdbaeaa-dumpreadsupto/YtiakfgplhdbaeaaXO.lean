/-
  package dump: the next node, on any bytes.
-/
import Derived.Test.YtiakfgplhdbaeaaXT
import Derived.Test.YtiakfgplhdbaeaaRO
namespace Go.Proofs.Ytiakfgplhdbaeaa
open Go.RowKit

theorem num_ok {k : Nat} {zs : List Int} {s : Bool} (h : okB zs) : okB (numZ k zs s).2.1 ∧ (numZ k zs s).2.1.length ≤ zs.length := by
  unfold numZ
  split
  · exact ⟨h, Nat.le_refl _⟩
  · exact ⟨h.drop k, by rw [List.length_drop]; omega⟩
theorem lis_ok {zs : List Int} {s : Bool} (h : okB zs) : okB (lisZ zs s).2.1 ∧ (lisZ zs s).2.1.length ≤ zs.length ∧ (lisZ zs s).1.length ≤ zs.length := by
  unfold lisZ takZ
  have h1 := num_ok (k := 4) (s := s) h
  split
  · exact ⟨h1.1, h1.2, Nat.zero_le _⟩
  · exact ⟨h1.1.drop _, by rw [List.length_drop]; omega, by rw [List.length_take]; omega⟩
theorem num4_pos {zs : List Int} {s : Bool} (h : okB zs) : 0 ≤ (numZ 4 zs s).1 := by
  unfold numZ
  split
  · exact Int.le_refl _
  · rename_i hl
    have := val4 h (by omega)
    show 0 ≤ wrap64 (valB (zs.take 4))
    rw [w64s _ this.1 this.2]
    exact this.1
set_option maxHeartbeats 1000000 in
set_option maxRecDepth 100000 in
theorem list_any {gr b o cap : Nat} {zs : List Int} {s : Bool} (w : World) (h : Rd w gr b o zs cap s) (hr : okB zs) :
    Calls Try.prog 30 #[.pointer (some ⟨gr, 0, none⟩)] w fun e w' => (∃ a c, e = .returned (.slice a (lisZ zs s).1.length c) ∧ Pc w' a c (lisZ zs s).1) ∧ (∃ o' cap', Rd w' gr b o' (lisZ zs s).2.1 cap' (lisZ zs s).2.2) ∧ Chg w w' (· = gr) := by
  have hN := number_any 4 w h (by decide) hr
  have hp := num4_pos (s := s) hr
  have HT : Hid (∀ W o' cap', Rd W gr b o' (numZ 4 zs s).2.1 cap' (numZ 4 zs s).2.2 → Calls Try.prog 39 #[.pointer (some ⟨gr, 0, none⟩), .int .i64 (numZ 4 zs s).1] W fun e w' => (∃ a c, e = .returned (.slice a (lisZ zs s).1.length c) ∧ Pc w' a c (lisZ zs s).1) ∧ (∃ o' cap', Rd w' gr b o' (lisZ zs s).2.1 cap' (lisZ zs s).2.2) ∧ Chg W w' (· = gr)) := hid (fun W o' cap' hW => take_any _ W hW hp)
  obtain ⟨X, hX⟩ : ∃ y, y = numZ 4 zs s := ⟨_, rfl⟩
  obtain ⟨Y, hY⟩ : ∃ y, y = lisZ zs s := ⟨_, rfl⟩
  rw [← hX, ← hY] at HT
  rw [← hX] at hN
  rw [← hY]
  obtain ⟨n, z1, s1⟩ := X
  obtain ⟨ds, z2, s2⟩ := Y
  clear h hr hp hX hY
  simp only at hN HT ⊢
  obtain ⟨q, hq⟩ : ∃ y, y = ds.length := ⟨_, rfl⟩
  rw [← hq] at HT ⊢
  clear hq
  go_enter Try.func30, Try.ntmps30
  go_wp2_with (first
    | (go_at_call 29; go_must (refine hN.mono ?_; rintro e w1 ⟨rfl, ⟨o1, cap1, hr1⟩, hc1⟩; have HC1 := hid hc1; have hT := HT.out w1 o1 cap1 hr1; clear hr1 hc1))
    | (go_at_call 39; go_must (refine hT.mono ?_; rintro e w2 ⟨⟨a2, c2, rfl, ha2⟩, ⟨o2, cap2, hr2⟩, hc2⟩; have HR2 := hid hr2; have HA2 := hid ha2; have HC2 := hid (HC1.out.trans hc2 (fun _ _ e => e) (fun _ _ e => e)); clear hr2 ha2 hc2))
    | fail)
  go_ret
  exact ⟨⟨a2, c2, rfl, HA2.out⟩, ⟨o2, _, HR2.out⟩, HC2.out⟩
set_option maxHeartbeats 1000000 in
set_option maxRecDepth 100000 in
theorem clone_nil (w : World) : Calls Try.prog 31 #[.slice none 0 0] w fun e w' => e = .returned (.slice none 0 0) ∧ Chg w w' No := by
  have heq : ∀ (W : World), (binOp .eql 29 (.slice none 0 0) (.slice none 0 0)).run Try.prog W = .ok (.bool true) W := fun W => by kernel_rfl
  go_enter Try.func31, Try.ntmps31
  go_wp2_with fail
  go_ret
  exact ⟨rfl, Chg.refl _ _⟩
theorem clone_any {a : Option Addr} {ds : List Int} {cap : Nat} (w : World) (h : Pc w a cap ds) (hd : ds.length ≤ 4000000) :
    Calls Try.prog 31 #[.slice a ds.length cap] w fun e w' => (∃ v, e = .returned v ∧ BOw w' w.heap.size v ds) ∧ Chg w w' No := by
  rcases h with ⟨rfl, rfl, rfl⟩ | ⟨b, o, rfl, h⟩
  · refine (clone_nil w).mono ?_
    rintro e w' ⟨rfl, h1⟩
    exact ⟨⟨_, rfl, BOw.nil _ _⟩, h1⟩
  · exact clone_good w h hd
set_option maxHeartbeats 8000000 in
set_option maxRecDepth 100000 in
theorem node_any {gr b o cap : Nat} {zs : List Int} (w : World) (h : Rd w gr b o zs cap false) (hr : okB zs) (hlen : zs.length ≤ 4000000) :
    Calls Try.prog 24 #[.pointer (some ⟨gr, 0, none⟩)] w fun e w' => (∃ da dc, e = .returned (.agg (nodA { (nodZ zs).1 with da := da, dc := dc })) ∧ BOw w' w.heap.size (.slice da (nodZ zs).1.data.length dc) (nodZ zs).1.data) ∧ (∃ o' cap', Rd w' gr b o' (nodZ zs).2.1 cap' (nodZ zs).2.2) ∧ Chg w w' (· = gr) := by
  obtain ⟨w0, hw0⟩ : ∃ y, y = (w.alloc (.cells zN.toArray 47)).alloc (.cells zN.toArray 47) := ⟨_, rfl⟩
  have hc0 : Chg w w0 No := by rw [hw0]; exact (Chg.alloc _ _ No).tr (Chg.alloc _ _ No)
  have hR : w0.heap[w.heap.size]? = some (.cells zN.toArray 47 (0, 0)) := by rw [hw0]; exact (Chg.alloc _ _ No).keep (heap_alloc_new w _) (fun e => e)
  have hG : w0.heap[w.heap.size + 1]? = some (.cells zN.toArray 47 (0, 0)) := by
    have := heap_alloc_new (w.alloc (.cells zN.toArray 47)) (.cells zN.toArray 47)
    rw [show (w.alloc (.cells zN.toArray 47)).heap.size = w.heap.size + 1 by simp] at this
    rw [hw0]
    exact this
  have hgl : gr < w.heap.size := slt h.me
  have hbl : b < w.heap.size := h.at_.1
  have hN1 := number_any 1 w0 (h.call hc0) (by decide) hr
  have k1 := num_ok (k := 1) (s := false) hr
  obtain ⟨X1, hX1⟩ : ∃ y, y = numZ 1 zs false := ⟨_, rfl⟩
  rw [← hX1] at hN1 k1
  have HN2 : Hid (∀ W o' cap', Rd W gr b o' X1.2.1 cap' X1.2.2 → Calls Try.prog 29 #[.pointer (some ⟨gr, 0, none⟩), .int .i64 8] W fun e w' => e = .returned (.int .i64 (numZ 8 X1.2.1 X1.2.2).1) ∧ (∃ o' cap', Rd w' gr b o' (numZ 8 X1.2.1 X1.2.2).2.1 cap' (numZ 8 X1.2.1 X1.2.2).2.2) ∧ Chg W w' (· = gr)) := hid (fun W o' cap' hW => number_any 8 W hW (by decide) k1.1)
  have k2 := num_ok (k := 8) (s := X1.2.2) k1.1
  obtain ⟨X2, hX2⟩ : ∃ y, y = numZ 8 X1.2.1 X1.2.2 := ⟨_, rfl⟩
  rw [← hX2] at HN2 k2
  have HL3 : Hid (∀ W o' cap', Rd W gr b o' X2.2.1 cap' X2.2.2 → Calls Try.prog 30 #[.pointer (some ⟨gr, 0, none⟩)] W fun e w' => (∃ a c, e = .returned (.slice a (lisZ X2.2.1 X2.2.2).1.length c) ∧ Pc w' a c (lisZ X2.2.1 X2.2.2).1) ∧ (∃ o' cap', Rd w' gr b o' (lisZ X2.2.1 X2.2.2).2.1 cap' (lisZ X2.2.1 X2.2.2).2.2) ∧ Chg W w' (· = gr)) := hid (fun W o' cap' hW => list_any W hW k2.1)
  have k3 := lis_ok (s := X2.2.2) k2.1
  obtain ⟨X3, hX3⟩ : ∃ y, y = lisZ X2.2.1 X2.2.2 := ⟨_, rfl⟩
  rw [← hX3] at HL3 k3
  have HL4 : Hid (∀ W o' cap', Rd W gr b o' X3.2.1 cap' X3.2.2 → Calls Try.prog 30 #[.pointer (some ⟨gr, 0, none⟩)] W fun e w' => (∃ a c, e = .returned (.slice a (lisZ X3.2.1 X3.2.2).1.length c) ∧ Pc w' a c (lisZ X3.2.1 X3.2.2).1) ∧ (∃ o' cap', Rd w' gr b o' (lisZ X3.2.1 X3.2.2).2.1 cap' (lisZ X3.2.1 X3.2.2).2.2) ∧ Chg W w' (· = gr)) := hid (fun W o' cap' hW => list_any W hW k3.1)
  have k4 := lis_ok (s := X3.2.2) k3.1
  obtain ⟨X4, hX4⟩ : ∃ y, y = lisZ X3.2.1 X3.2.2 := ⟨_, rfl⟩
  rw [← hX4] at HL4 k4
  have HL5 : Hid (∀ W o' cap', Rd W gr b o' X4.2.1 cap' X4.2.2 → Calls Try.prog 30 #[.pointer (some ⟨gr, 0, none⟩)] W fun e w' => (∃ a c, e = .returned (.slice a (lisZ X4.2.1 X4.2.2).1.length c) ∧ Pc w' a c (lisZ X4.2.1 X4.2.2).1) ∧ (∃ o' cap', Rd w' gr b o' (lisZ X4.2.1 X4.2.2).2.1 cap' (lisZ X4.2.1 X4.2.2).2.2) ∧ Chg W w' (· = gr)) := hid (fun W o' cap' hW => list_any W hW k4.1)
  have k5 := lis_ok (s := X4.2.2) k4.1
  obtain ⟨X5, hX5⟩ : ∃ y, y = lisZ X4.2.1 X4.2.2 := ⟨_, rfl⟩
  rw [← hX5] at HL5 k5
  have hZ : nodZ zs = (⟨strOf X3.1, X1.1, X2.1, strOf X4.1, none, X5.1, 0⟩, X5.2.1, X5.2.2) := by
    unfold nodZ
    simp only [← hX1, ← hX2, ← hX3, ← hX4, ← hX5]
  rw [hZ]
  clear hZ hX1 hX2 hX3 hX4 hX5
  obtain ⟨kd, r1, s1⟩ := X1
  obtain ⟨md, r2, s2⟩ := X2
  obtain ⟨ps, r3, s3⟩ := X3
  obtain ⟨qs, r4, s4⟩ := X4
  obtain ⟨ds, r5, s5⟩ := X5
  simp only at hN1 HN2 HL3 HL4 HL5 k1 k2 k3 k4 k5 ⊢
  have HDl : Hid (ds.length ≤ 4000000) := hid (by omega)
  have HC0 := hid hc0
  have HR0 := hid hR
  obtain ⟨g3, hg3⟩ : ∃ y, y = w.heap.size + 1 := ⟨_, rfl⟩
  rw [← hg3] at hG
  have HG0 := hid hG
  have HB := hid (show gr < w.heap.size ∧ b < w.heap.size ∧ g3 = w.heap.size + 1 from ⟨hgl, hbl, hg3⟩)
  obtain ⟨pa, hpa⟩ : ∃ y, y = strOf ps := ⟨_, rfl⟩
  obtain ⟨sa, hsa⟩ : ∃ y, y = strOf qs := ⟨_, rfl⟩
  have HPa := hid hpa
  have HSa := hid hsa
  rw [← hpa, ← hsa]
  have HE : Hid (∀ da dc, nodA ⟨pa, kd, md, sa, da, ds, dc⟩ = #[.string pa, .int .i64 kd, .int .i64 md, .string sa, .slice da ds.length dc]) := hid (fun da dc => rfl)
  obtain ⟨lp, hlp⟩ : ∃ y, y = ps.length := ⟨_, rfl⟩
  obtain ⟨lq, hlq⟩ : ∃ y, y = qs.length := ⟨_, rfl⟩
  have HLp := hid hlp
  have HLq := hid hlq
  rw [← hlp] at HL3
  rw [← hlq] at HL4
  have e1 : w0 = (w.alloc (.cells #[.string ⟨#[]⟩, .int .i64 0, .int .i64 0, .string ⟨#[]⟩, .slice none 0 0] 47)).alloc (.cells #[.string ⟨#[]⟩, .int .i64 0, .int .i64 0, .string ⟨#[]⟩, .slice none 0 0] 47) := hw0
  have HG0 : Hid (w0.heap[g3]? = some (.cells #[.string ⟨#[]⟩, .int .i64 0, .int .i64 0, .string ⟨#[]⟩, .slice none 0 0] 47 (0, 0))) := hid HG0.out
  clear h hr hlen hc0 hR hG hgl hbl hg3 hw0 hpa hsa k1 k2 k3 k4 k5 hlp hlq
  go_enter Try.func24, Try.ntmps24
  go_upto_region 2 with fail
  rw [← e1, ← HB.out.2.2]
  clear e1
  have hK1 := hN1
  go_upto_region 3 with (first
    | (go_at_call 29; go_must (refine hK1.mono ?_; rintro e x1 ⟨rfl, ⟨o1, cp1, hr1⟩, hc1⟩; have HRdx1 := hid hr1; clear hr1; have HGx1 := hid (hc1.keep HG0.out (fun e => by have := HB.out; omega)); have HCx1 := hid (HC0.out.trans hc1 (fun _ _ e => e.elim) (fun _ _ e => e)); have HRx1 := hid (hc1.keep HR0.out (fun e => by have := HB.out; omega)); clear hc1))
    | (refine store_one rfl 3 _ _ rfl g3 1 rfl (.int .i64 kd) rfl rfl szIn 47 _ HGx1.out (by simp) ?_)
    | fail)
  obtain ⟨w1, hw1⟩ : ∃ y, y = x1.setCell ⟨g3, 1, none⟩ (.int .i64 kd) := ⟨_, rfl⟩
  rw [← hw1]
  have hc1 : Chg x1 w1 (· = g3) := by rw [hw1]; exact Chg.setCell
  have HG1 : Hid (w1.heap[g3]? = some (.cells #[.string ⟨#[]⟩, .int .i64 kd, .int .i64 0, .string ⟨#[]⟩, .slice none 0 0] 47 (0, 0))) := hid (by rw [hw1, heap_setCell_same x1 g3 1 _ _ _ HGx1.out]; rfl)
  have HC1 : Hid (Chg w w1 (· = gr)) := hid (HCx1.out.trans hc1 (fun _ _ e => e) (fun j hj e => by have := HB.out; omega))
  have HR1 := hid (hc1.keep HRx1.out (fun e => by have := HB.out; omega))
  have HRd1 := hid (HRdx1.out.keep hc1 (fun e => by have := HB.out; omega) (fun e => by have := HB.out; omega))
  clear hw1 hc1
  have hK2 := HN2.out w1 o1 cp1 HRd1.out
  go_upto_region 4 with (first
    | (go_at_call 29; go_must (refine hK2.mono ?_; rintro e x2 ⟨rfl, ⟨o2, cp2, hr2⟩, hc2⟩; have HRdx2 := hid hr2; clear hr2; have HGx2 := hid (hc2.keep HG1.out (fun e => by have := HB.out; omega)); have HCx2 := hid (HC1.out.trans hc2 (fun _ _ e => e) (fun _ _ e => e)); have HRx2 := hid (hc2.keep HR1.out (fun e => by have := HB.out; omega)); clear hc2))
    | (refine store_one rfl 3 _ _ rfl g3 2 rfl (.int .i64 md) rfl rfl szIn 47 _ HGx2.out (by simp) ?_)
    | fail)
  obtain ⟨w2, hw2⟩ : ∃ y, y = x2.setCell ⟨g3, 2, none⟩ (.int .i64 md) := ⟨_, rfl⟩
  rw [← hw2]
  have hc2 : Chg x2 w2 (· = g3) := by rw [hw2]; exact Chg.setCell
  have HG2 : Hid (w2.heap[g3]? = some (.cells #[.string ⟨#[]⟩, .int .i64 kd, .int .i64 md, .string ⟨#[]⟩, .slice none 0 0] 47 (0, 0))) := hid (by rw [hw2, heap_setCell_same x2 g3 2 _ _ _ HGx2.out]; rfl)
  have HC2 : Hid (Chg w w2 (· = gr)) := hid (HCx2.out.trans hc2 (fun _ _ e => e) (fun j hj e => by have := HB.out; omega))
  have HR2 := hid (hc2.keep HRx2.out (fun e => by have := HB.out; omega))
  have HRd2 := hid (HRdx2.out.keep hc2 (fun e => by have := HB.out; omega) (fun e => by have := HB.out; omega))
  clear hw2 hc2
  have hK3 := HL3.out w2 o2 cp2 HRd2.out
  go_upto_region 5 with (first
    | (go_at_call 30; go_must (refine hK3.mono ?_; rintro e x3 ⟨⟨oq3, cq3, rfl, ha3⟩, ⟨o3, cp3, hr3⟩, hc3⟩; have HA3 := hid ha3; have HRdx3 := hid hr3; clear hr3 ha3; have HGx3 := hid (hc3.keep HG2.out (fun e => by have := HB.out; omega)); have HCx3 := hid (HC2.out.trans hc3 (fun _ _ e => e) (fun _ _ e => e)); have HRx3 := hid (hc3.keep HR2.out (fun e => by have := HB.out; omega)); clear hc3))
    | (refine conv_G (by rfl) 29 9 _ rfl _ (.string pa) _ rfl (by have := conv_at HA3.out.bytes cq3; rw [← HPa.out, ← HLp.out] at this; exact this) ?_)
    | (refine store_one rfl 9 _ _ rfl g3 0 rfl (.string pa) rfl rfl szSr 47 _ HGx3.out (by simp) ?_)
    | fail)
  obtain ⟨w3, hw3⟩ : ∃ y, y = x3.setCell ⟨g3, 0, none⟩ (.string pa) := ⟨_, rfl⟩
  rw [← hw3]
  have hc3 : Chg x3 w3 (· = g3) := by rw [hw3]; exact Chg.setCell
  have HG3 : Hid (w3.heap[g3]? = some (.cells #[.string pa, .int .i64 kd, .int .i64 md, .string ⟨#[]⟩, .slice none 0 0] 47 (0, 0))) := hid (by rw [hw3, heap_setCell_same x3 g3 0 _ _ _ HGx3.out]; rfl)
  have HC3 : Hid (Chg w w3 (· = gr)) := hid (HCx3.out.trans hc3 (fun _ _ e => e) (fun j hj e => by have := HB.out; omega))
  have HR3 := hid (hc3.keep HRx3.out (fun e => by have := HB.out; omega))
  have HRd3 := hid (HRdx3.out.keep hc3 (fun e => by have := HB.out; omega) (fun e => by have := HB.out; omega))
  clear hw3 hc3
  have hK4 := HL4.out w3 o3 cp3 HRd3.out
  go_upto_region 6 with (first
    | (go_at_call 30; go_must (refine hK4.mono ?_; rintro e x4 ⟨⟨oq4, cq4, rfl, ha4⟩, ⟨o4, cp4, hr4⟩, hc4⟩; have HA4 := hid ha4; have HRdx4 := hid hr4; clear hr4 ha4; have HGx4 := hid (hc4.keep HG3.out (fun e => by have := HB.out; omega)); have HCx4 := hid (HC3.out.trans hc4 (fun _ _ e => e) (fun _ _ e => e)); have HRx4 := hid (hc4.keep HR3.out (fun e => by have := HB.out; omega)); clear hc4))
    | (refine conv_G (by rfl) 29 9 _ rfl _ (.string sa) _ rfl (by have := conv_at HA4.out.bytes cq4; rw [← HSa.out, ← HLq.out] at this; exact this) ?_)
    | (refine store_one rfl 9 _ _ rfl g3 3 rfl (.string sa) rfl rfl szSr 47 _ HGx4.out (by simp) ?_)
    | fail)
  obtain ⟨w4, hw4⟩ : ∃ y, y = x4.setCell ⟨g3, 3, none⟩ (.string sa) := ⟨_, rfl⟩
  rw [← hw4]
  have hc4 : Chg x4 w4 (· = g3) := by rw [hw4]; exact Chg.setCell
  have HG4 : Hid (w4.heap[g3]? = some (.cells #[.string pa, .int .i64 kd, .int .i64 md, .string sa, .slice none 0 0] 47 (0, 0))) := hid (by rw [hw4, heap_setCell_same x4 g3 3 _ _ _ HGx4.out]; rfl)
  have HC4 : Hid (Chg w w4 (· = gr)) := hid (HCx4.out.trans hc4 (fun _ _ e => e) (fun j hj e => by have := HB.out; omega))
  have HR4 := hid (hc4.keep HRx4.out (fun e => by have := HB.out; omega))
  have HRd4 := hid (HRdx4.out.keep hc4 (fun e => by have := HB.out; omega) (fun e => by have := HB.out; omega))
  clear hw4 hc4
  have hK5 := HL5.out w4 o4 cp4 HRd4.out
  have HCl : Hid (∀ W a' cap', Pc W a' cap' ds → Calls Try.prog 31 #[.slice a' ds.length cap'] W fun e w' => (∃ v, e = .returned v ∧ BOw w' W.heap.size v ds) ∧ Chg W w' No) := hid (fun W a' cap' hW => clone_any W hW HDl.out)
  go_upto_region 7 with (first
    | (go_at_call 30; go_must (refine hK5.mono ?_; rintro e x5 ⟨⟨oq5, cq5, rfl, ha5⟩, ⟨o5, cp5, hr5⟩, hc5⟩; have HRdx5 := hid hr5; have hQ5 := HCl.out x5 oq5 cq5 ha5; have HGx5 := hid (hc5.keep HG4.out (fun e => by have := HB.out; omega)); have HCx5 := hid (HC4.out.trans hc5 (fun _ _ e => e) (fun _ _ e => e)); have HRx5 := hid (hc5.keep HR4.out (fun e => by have := HB.out; omega)); clear hr5 hc5 ha5))
    | (go_at_call 31; go_must (refine hQ5.mono ?_; rintro e y5 ⟨⟨v5, rfl, hb5⟩, hc5⟩; have HBy := hid hb5; have HSz := hid (HCx5.out.size); have HRdy5 := hid (HRdx5.out.call hc5); have HGy5 := hid (hc5.keep HGx5.out (fun e => e)); have HCy5 := hid (HCx5.out.trans hc5 (fun _ _ e => e) (fun _ _ e => e.elim)); have HRy5 := hid (hc5.keep HRx5.out (fun e => e)); obtain ⟨a5, c5, rfl, _⟩ := hb5.one; clear hb5 hc5))
    | (refine store_one rfl 29 _ _ rfl g3 4 rfl (.slice a5 ds.length c5) rfl rfl szBy 47 _ HGy5.out (by simp) ?_)
    | fail)
  obtain ⟨w5, hw5⟩ : ∃ y, y = y5.setCell ⟨g3, 4, none⟩ (.slice a5 ds.length c5) := ⟨_, rfl⟩
  rw [← hw5]
  have hc5 : Chg y5 w5 (· = g3) := by rw [hw5]; exact Chg.setCell
  have HG5 : Hid (w5.heap[g3]? = some (.cells #[.string pa, .int .i64 kd, .int .i64 md, .string sa, .slice a5 ds.length c5] 47 (0, 0))) := hid (by rw [hw5, heap_setCell_same y5 g3 4 _ _ _ HGy5.out]; rfl)
  have HC5 : Hid (Chg w w5 (· = gr)) := hid (HCy5.out.trans hc5 (fun _ _ e => e) (fun j hj e => by have := HB.out; omega))
  have HR5 := hid (hc5.keep HRy5.out (fun e => by have := HB.out; omega))
  have HRd5 := hid (HRdy5.out.keep hc5 (fun e => by have := HB.out; omega) (fun e => by have := HB.out; omega))
  have HBv : Hid (BOw w5 w.heap.size (.slice a5 ds.length c5) ds ∧ ∀ k, (Value.slice a5 ds.length c5).ownBlock = some k → w.heap.size < k) := hid ⟨(HBy.out.keep hc5 (fun k e f => by obtain ⟨_, A, hA⟩ := HBy.out.blk e; rw [f, HGy5.out] at hA; cases hA)).lower HSz.out, fun k e => by have h1 := (HBy.out.blk e).1; have h2 := slt HRx5.out; omega⟩
  clear hw5 hc5
  have HBw : Hid (BOw w5 w.heap.size (.slice a5 ds.length c5) ds ∧ ∀ k, (Value.slice a5 ds.length c5).ownBlock = some k → w.heap.size < k) := HBv
  have sz := nodA_sz ⟨pa, kd, md, sa, a5, ds, c5⟩
  go_wp2_with (first
    | (refine load_R rfl 47 _ rfl g3 rfl 47 #[.string pa, .int .i64 kd, .int .i64 md, .string sa, .slice a5 ds.length c5] _ HG5.out Try.underlying47 rfl sz ?_)
    | (refine store_R rfl 47 _ _ rfl w.heap.size #[.string pa, .int .i64 kd, .int .i64 md, .string sa, .slice a5 ds.length c5] rfl rfl 47 _ HR5.out sz rfl (nodA_one ⟨pa, kd, md, sa, a5, ds, c5⟩) ?_; intro w6 hw6)
    | fail)
  have hk6 := kt_new hw6
  exact bodyPost_ret (v := .agg #[.string pa, .int .i64 kd, .int .i64 md, .string sa, .slice a5 ds.length c5]) (results_R1 Try.results24 _ _ w.heap.size _ 47 _ Try.underlying47 rfl sz rfl hw6.here) rfl ⟨⟨a5, c5, by rw [HE.out], HBw.out.1.keep hk6 (fun k e f => by have := HBw.out.2 k e; omega)⟩, ⟨_, _, HRd5.out.keep hk6 (fun e => by have := HB.out; omega) (fun e => by have := HB.out; omega)⟩, HC5.out.trans hk6 (fun _ _ e => e) (fun j hj e => by omega)⟩
end Go.Proofs.Ytiakfgplhdbaeaa
