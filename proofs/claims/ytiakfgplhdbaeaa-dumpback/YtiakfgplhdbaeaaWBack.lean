/-
  The walk of DumpBack.
-/
import Derived.Test.YtiakfgplhdbaeaaRQ
namespace Go.Proofs.Ytiakfgplhdbaeaa
open Go.RowKit

theorem flat_nil {L : List Nod} (h : flatB L = []) : L = [] := by
  cases L with
  | nil => rfl
  | cons n L =>
    have h1 := congrArg List.length h
    unfold flatB at h1
    rw [List.flatMap_cons, List.length_append, nodeB_len] at h1
    simp at h1
theorem read_bow {L : List Nod} {w : World} {B : Nat} {v : Value} (h : BOw w B v (flatB L)) (hf : L.all fitsB = true) (hl : L.length ≤ 100000) :
    Calls Try.prog 14 #[v] w fun e w' => ∃ u M, e = .returned (.tuple #[u, .int .i64 0]) ∧ NOw w' w.heap.size u M ∧ M.length = L.length ∧ (∀ i, i < L.length → alikeN (L.getD i Nod.z) (M.getD i Nod.z)) ∧ Chg w w' No := by
  have hcap : ∀ a n c, v = .slice a n c → (flatB L).length ≤ c := fun a n c e => by subst e; exact h.cap
  rcases h.2 with ⟨rfl, h0⟩ | ⟨g, cap, cur, rfl, hg, hb, hc, hm, hs, ht⟩
  · have e : L = [] := flat_nil (List.length_eq_zero_iff.1 h0)
    subst e
    refine (read_nil w).mono ?_
    rintro e w' ⟨rfl, hc⟩
    exact ⟨_, [], rfl, NOw.nil _ _, rfl, fun i hi => absurd hi (Nat.not_lt_zero _), hc⟩
  · refine read_good L w ⟨slt hb, fun j hj => ?_⟩ (hcap _ _ _ rfl) hf hl
    rw [Nat.zero_add, cell_of_row _ _ _ _ _ _ hb]
    have h1 : (cur.toList.take ((flatB L).length * 1))[j]? = some (.int .u8 ((flatB L).getD j 0)) := by rw [ht]; simp [hj]
    rw [List.getElem?_take, if_pos (by omega)] at h1
    rw [← Array.getElem?_toList]; exact h1

set_option maxHeartbeats 8000000 in
set_option maxRecDepth 100000 in
theorem back_walk (L K : List Nod) (a b : Option Addr) (ca cb : Nat) (w : World) (h1 : NAt w a L) (h2 : NAt w b K) (hz1 : NSz L) (hz2 : NSz K) (hI1 : ∀ i, i < L.length → I64 (L.getD i Nod.z).kind ∧ I64 (L.getD i Nod.z).made) (hI2 : ∀ i, i < K.length → I64 (K.getD i Nod.z).kind ∧ I64 (K.getD i Nod.z).made) :
    Calls Try.prog 5 #[.slice a L.length ca, .slice b K.length cb] w fun e w' => e = .returned (.bool true) ∧ Below w.heap.size w w' := by
  have hAw := awake_any w
  have HF1 : Hid (∀ W, Chg w W No → Calls Try.prog 8 #[.slice a L.length ca] W fun e w' => e = .returned (.bool (fewB L)) ∧ Chg W w' No) := hid (fun W hW => few_any L a ca W (h1.call hW) hz1)
  have HF2 : Hid (∀ W, Chg w W No → Calls Try.prog 8 #[.slice b K.length cb] W fun e w' => e = .returned (.bool (fewB K)) ∧ Chg W w' No) := hid (fun W hW => few_any K b cb W (h2.call hW) hz2)
  have HN1 := hid h1
  have HN2 := hid h2
  have HI1 := hid hI1
  have HI2 := hid hI2
  clear h1 h2 hz1 hz2 hI1 hI2
  obtain ⟨m, hm⟩ : ∃ y, y = L.length := ⟨_, rfl⟩
  obtain ⟨k, hk⟩ : ∃ y, y = K.length := ⟨_, rfl⟩
  rw [← hm] at HF1 ⊢
  rw [← hk] at HF2 ⊢
  have HM := hid hm
  have HK := hid hk
  clear hm hk
  obtain ⟨b1, hb1⟩ : ∃ y, y = fewB L := ⟨_, rfl⟩
  obtain ⟨b2, hb2⟩ : ∃ y, y = fewB K := ⟨_, rfl⟩
  rw [← hb1] at HF1
  rw [← hb2] at HF2
  have HB1 := hid hb1
  have HB2 := hid hb2
  clear hb1 hb2
  by_cases hbb : b1 = true ∧ b2 = true
  · obtain ⟨rfl, rfl⟩ := hbb
    have hm5 : m ≤ 5000 := by rw [HM.out]; exact (few_sum HB1.out.symm).1
    have hk5 : k ≤ 5000 := by rw [HK.out]; exact (few_sum HB2.out.symm).1
    have HO1 : Hid (∀ W, Chg w W No → Calls Try.prog 18 #[.slice a m ca] W fun e w' => ∃ gN hs vb, e = .returned (.slice (some ⟨gN, 0, none⟩) (m + 3) (m + 3)) ∧ Lent W w' gN L hs vb) := hid (fun W hW => by have := own_any L a ca W (HN1.out.call hW) HB1.out.symm; rw [← HM.out] at this; exact this)
    have HO2 : Hid (∀ W, Chg w W No → Calls Try.prog 18 #[.slice b k cb] W fun e w' => ∃ gN hs vb, e = .returned (.slice (some ⟨gN, 0, none⟩) (k + 3) (k + 3)) ∧ Lent W w' gN K hs vb) := hid (fun W hW => by have := own_any K b cb W (HN2.out.call hW) HB2.out.symm; rw [← HK.out] at this; exact this)
    have HY1 : Hid (∀ W gN hs W0, LR W0 W gN L hs → Calls Try.prog 10 #[.slice (some ⟨gN, 0, none⟩) m (m + 3)] W fun e w' => ∃ v, e = .returned (.tuple #[v, .int .i64 (bytesE L)]) ∧ BOw w' W.heap.size v (bytesL L) ∧ Chg W w' No) := hid (fun W gN hs W0 hW => by
      have hl := lentL_len hW.bb.len
      have := bytes_r (List.zipWith lentN L hs) (some ⟨gN, 0, none⟩) (m + 3) W hW.nat (lent_i64 hW.bb.len HI1.out) (by rw [hl, ← HM.out]; omega)
      rw [hl, ← HM.out, bytesE_lent hW.bb.len, bytesL_lent hW.bb.len] at this
      exact this)
    have HY2 : Hid (∀ W gN hs W0, LR W0 W gN K hs → Calls Try.prog 10 #[.slice (some ⟨gN, 0, none⟩) k (k + 3)] W fun e w' => ∃ v, e = .returned (.tuple #[v, .int .i64 (bytesE K)]) ∧ BOw w' W.heap.size v (bytesL K) ∧ Chg W w' No) := hid (fun W gN hs W0 hW => by
      have hl := lentL_len hW.bb.len
      have := bytes_r (List.zipWith lentN K hs) (some ⟨gN, 0, none⟩) (k + 3) W hW.nat (lent_i64 hW.bb.len HI2.out) (by rw [hl, ← HK.out]; omega)
      rw [hl, ← HK.out, bytesE_lent hW.bb.len, bytesL_lent hW.bb.len] at this
      exact this)
    cases hfl : L.all fitsB with
    | true =>
      have HFL := hid hfl
      clear hfl
      cases hfk : K.all fitsB with
      | true =>
        as_aux_lemma =>
          have HFK := hid hfk
          clear hfk
          have y1 : bytesE L = 0 := by unfold bytesE; rw [HFL.out]; rfl
          have y2 : bytesE K = 0 := by unfold bytesE; rw [HFK.out]; rfl
          have z1 : bytesL L = flatB L := by unfold bytesL; rw [HFL.out]; rfl
          have z2 : bytesL K = flatB K := by unfold bytesL; rw [HFK.out]; rfl
          rw [y1, z1] at HY1
          rw [y2, z2] at HY2
          clear y1 y2 z1 z2
          have f1 : (m : Int) ≤ (m : Int) + 3 := by omega
          have f2 : (k : Int) ≤ (k : Int) + 3 := by omega
          go_enter Try.func5, Try.ntmps5
          go_upto_region 2 with (first
            | (go_at_call 7; go_must (refine hAw.mono ?_; rintro e w1 ⟨rfl, hc1⟩; have HC1 := hid hc1; clear hc1))
            | fail)
          have hF1 := HF1.out w1 HC1.out
          go_upto_region 3 with (first
            | (go_at_call 8; go_must (refine hF1.mono ?_; rintro e w2 ⟨rfl, hc2⟩; have HC2 := hid (HC1.out.tr hc2); clear hc2))
            | fail)
          have hF2 := HF2.out w2 HC2.out
          go_upto_region 6 with (first
            | (go_at_call 8; go_must (refine hF2.mono ?_; rintro e w3 ⟨rfl, hc3⟩; have HC3 := hid (HC2.out.tr hc3); clear hc3))
            | fail)
          have hO1 := HO1.out w3 HC3.out
          clear hAw hF1 hF2 HF1 HF2 HC1 HC2
          go_upto_region 7 with (first
            | (go_at_call 18; go_must (refine hO1.mono ?_; rintro e w4 ⟨g1, hs1, vb1, rfl, hl4⟩; have HC4 := hid (HC3.out.tr hl4.ch); have hY := HY1.out w4 g1 hs1 w3 hl4.lr; clear hl4))
            | (go_at_call 10; go_must (refine hY.mono ?_; rintro e w5 ⟨v8, rfl, hb5, hc5⟩; have HV8 := hid (hb5.lower HC4.out.size); have HC5 := hid (HC4.out.tr hc5); clear hb5 hc5))
            | fail)
          have hO2 := HO2.out w5 HC5.out
          clear hO1 hY HC3 HC4
          go_upto_region 8 with (first
            | (go_at_call 18; go_must (refine hO2.mono ?_; rintro e w6 ⟨g2, hs2, vb2, rfl, hl6⟩; have HV8b := hid (HV8.out.call hl6.ch); have HC6 := hid (HC5.out.tr hl6.ch); have HS6 := hid hl6.ch.size; have hY := HY2.out w6 g2 hs2 w5 hl6.lr; clear hl6))
            | (go_at_call 10; go_must (refine hY.mono ?_; rintro e w7 ⟨v10, rfl, hb7, hc7⟩; have HV10 := hid hb7; have HV8c := hid (HV8b.out.call hc7); have HC7 := hid (HC6.out.tr hc7); clear hb7 hc7))
            | fail)
          have HSw7 : Hid (w.heap.size ≤ w7.heap.size) := hid HC7.out.size
          have hO3 := HO1.out w7 HC7.out
          have HV8lt : Hid (∀ j, v8.ownBlock = some j → j < w7.heap.size) := hid (fun j e => by obtain ⟨_, A, hA⟩ := HV8c.out.blk e; exact slt hA)
          clear hO2 hY HC5 HC6 HV8 HV8b
          go_upto_region 9 with fail
          go_upto_region 10 with (first
            | (go_at_call 18; go_must (refine hO3.mono ?_; rintro e w8 ⟨g3, hs3, vb3, rfl, hl8⟩; have HL8 := hid hl8; have HK1 : Hid ((List.zipWith lentN L hs3).length = m) := hid (by rw [lentL_len hl8.bb.len, HM.out]); clear hl8))
            | (refine wp_appNs rfl _ _ rfl w7.heap.size g3 (m + 3) (.slice none 0 0) [] (List.zipWith lentN L hs3) rfl (by rw [HK1.out]; rfl) (NOw.nil _ _) HL8.out.lr.nat (by rw [HK1.out]; simp; omega) HL8.out.ch.size HL8.out.lr.low ?_; intro v9 w9 h1 h2; have HN9 := hid h1; have HC89 : Hid (Chg w8 w9 No) := hid (h2.mono fun _ _ e => by simp [Value.ownBlock] at e); clear h1 h2)
            | fail)
          have HC9 := hid ((HC7.out.tr HL8.out.ch).tr HC89.out)
          have HS9 : Hid (w7.heap.size ≤ w9.heap.size) := hid ((HL8.out.ch.tr HC89.out).size)
          have HV8d := hid ((HV8c.out.call HL8.out.ch).call HC89.out)
          have HV10d := hid ((HV10.out.call HL8.out.ch).call HC89.out)
          have HLh1 := hid HL8.out.bb.len
          have HNw1 := hid HL8.out.bb.new
          have hO4 := HO2.out w9 HC9.out
          rw [List.nil_append] at HN9
          clear hO3 HC89 HL8 HC7 HV8c HV10 HO1 HY1 HY2
          go_upto_region 11 with (first
            | (go_at_call 18; go_must (refine hO4.mono ?_; rintro e w10 ⟨g4, hs4, vb4, rfl, hl10⟩; have HL10 := hid hl10; have HN10 := hid (HN9.out.keep hl10.ch (fun _ _ e => e) (fun _ _ _ e => e)); have HK2 : Hid ((List.zipWith lentN K hs4).length = k) := hid (by rw [lentL_len hl10.bb.len, HK.out]); have HS10 := hid (Nat.le_trans HS9.out hl10.ch.size); clear hl10))
            | (refine wp_appNs rfl _ _ rfl w7.heap.size g4 (k + 3) v9 (List.zipWith lentN L hs3) (List.zipWith lentN K hs4) rfl (by rw [HK2.out]; rfl) HN10.out HL10.out.lr.nat (by rw [HK1.out, HK2.out]; omega) HS10.out HL10.out.lr.low ?_; intro v11 w11 h1 h2; have HN11 := hid h1; have HC11 := hid h2; clear h1 h2)
            | fail)
          have own9 : ∀ j, v9.ownBlock = some j → w7.heap.size ≤ j ∧ ∃ A, w10.heap[j]? = some (.cells A 47 (0, 0)) := fun j e => HN10.out.blk e
          have HCw11 : Hid (Chg w w11 No) := hid ((HC9.out.tr HL10.out.ch).trans HC11.out (fun _ _ e => e) (fun j hj e => by have h1 := (own9 j e).1; have h2 := HSw7.out; omega))
          have HV8e := hid ((HV8d.out.call HL10.out.ch).keep HC11.out (fun j e f => by obtain ⟨_, A, hA⟩ := own9 j f; obtain ⟨_, C, hC⟩ := (HV8d.out.call HL10.out.ch).blk e; rw [hA] at hC; cases hC))
          have HV10e := hid ((HV10d.out.call HL10.out.ch).keep HC11.out (fun j e f => by obtain ⟨_, A, hA⟩ := own9 j f; obtain ⟨_, C, hC⟩ := (HV10d.out.call HL10.out.ch).blk e; rw [hA] at hC; cases hC))
          have HLh2 := hid HL10.out.bb.len
          have HNw2 := hid HL10.out.bb.new
          have HAb : Hid (∀ j, v11.ownBlock = some j → w7.heap.size ≤ j) := hid (fun j e => (HN11.out.blk e).1)
          obtain ⟨aA, cA, eA, hnA⟩ := HN11.out.nat
          subst eA
          obtain ⟨P, hP⟩ : ∃ y, y = List.zipWith lentN L hs3 ++ List.zipWith lentN K hs4 := ⟨_, rfl⟩
          rw [← hP] at hnA HN11
          rw [← hP]
          have HPl : Hid (P.length = m + k) := hid (by rw [hP, List.length_append, HK1.out, HK2.out])
          have HPf : Hid (P.all fitsB = (L.all fitsB && K.all fitsB)) := hid (by rw [hP, List.all_append, lent_fits HLh1.out, lent_fits HLh2.out])
          have HPb : Hid (flatB P = flatB L ++ flatB K) := hid (by rw [hP, flat_app, lent_flat HLh1.out, lent_flat HLh2.out])
          have HPI : Hid (∀ i, i < P.length → I64 (P.getD i Nod.z).kind ∧ I64 (P.getD i Nod.z).made) := hid (fun i hi => by
            rw [HPl.out] at hi
            rw [hP]
            rcases getD_app (List.zipWith lentN L hs3) (List.zipWith lentN K hs4) i with ⟨e1, e2⟩ | ⟨e1, e2⟩
            · rw [e2]; exact lent_i64 HLh1.out HI1.out i e1
            · rw [e2]; exact lent_i64 HLh2.out HI2.out _ (by rw [HK1.out] at e1 ⊢; rw [HK2.out]; omega))
          have HPa : Hid (∀ i, i < P.length → alikeN ((L ++ K).getD i Nod.z) (P.getD i Nod.z)) := hid (fun i hi => by
            rw [HPl.out] at hi
            rw [hP]
            rcases getD_app (List.zipWith lentN L hs3) (List.zipWith lentN K hs4) i with ⟨e1, e2⟩ | ⟨e1, e2⟩
            · rw [HK1.out] at e1
              rw [e2, lentL_get HLh1.out (by rw [← HM.out]; exact e1), getD_left (by rw [← HM.out]; exact e1)]
              exact ⟨rfl, rfl, rfl, rfl, rfl⟩
            · rw [HK1.out] at e1 e2
              rcases getD_app L K i with ⟨f1, f2⟩ | ⟨f1, f2⟩
              · rw [← HM.out] at f1; omega
              · rw [e2, f2, ← HM.out, lentL_get HLh2.out (by rw [← HK.out]; omega)]
                exact ⟨rfl, rfl, rfl, rfl, rfl⟩)
          have HPd : Hid (∀ i, i < P.length → ∀ g o, (P.getD i Nod.z).da = some ⟨g, o, none⟩ → w7.heap.size ≤ g) := hid (fun i hi g o e => by
            rw [HPl.out] at hi
            rw [hP] at e
            rcases getD_app (List.zipWith lentN L hs3) (List.zipWith lentN K hs4) i with ⟨e1, e2⟩ | ⟨e1, e2⟩
            · rw [HK1.out] at e1
              rw [e2, lentL_get HLh1.out (by rw [← HM.out]; exact e1)] at e
              have e : some (⟨hs3.getD i 0, 0, none⟩ : Addr) = some ⟨g, o, none⟩ := e
              cases e
              exact HNw1.out i (by rw [← HM.out]; exact e1)
            · rw [HK1.out] at e1 e2
              rw [e2, lentL_get HLh2.out (by rw [← HK.out]; omega)] at e
              have e : some (⟨hs4.getD (i - m) 0, 0, none⟩ : Addr) = some ⟨g, o, none⟩ := e
              cases e
              exact Nat.le_trans HS9.out (HNw2.out (i - m) (by rw [← HK.out]; omega)))
          have hBy := bytes_r P aA cA w11 hnA HPI.out (by rw [HPl.out]; omega)
          have HNA := hid hnA
          clear hO4 HN10 HN9 HL10 HC11 own9 HV8d HV10d HC9 hnA hP HO2
          go_upto_region 12 with (first
            | (go_at_call 10; go_must (refine hBy.mono ?_; rintro e w12 ⟨v13, rfl, hb12, hc12⟩; have HV13 := hid hb12; have HC12 := hid hc12; clear hb12 hc12))
            | fail)
          clear hBy
          have e13 : bytesE P = 0 := by unfold bytesE; rw [HPf.out]; simp [HFL.out, HFK.out]
          have l13 : bytesL P = flatB L ++ flatB K := by unfold bytesL; rw [HPf.out, HPb.out]; simp [HFL.out, HFK.out]
          have hv13 := HV13.out
          rw [l13] at hv13
          obtain ⟨a13, c13, ev, _⟩ := hv13.one
          subst ev
          rw [e13]
          have hv8 := HV8e.out.call HC12.out
          have hv10 := HV10e.out.call HC12.out
          obtain ⟨a8, c8, ev8, _⟩ := hv8.one
          obtain ⟨a10, c10, ev10, hb10⟩ := hv10.one
          subst ev8 ev10
          have HW8 := hid hv8
          have HB10 := hid hb10
          have HCf := hid (HCw11.out.tr HC12.out)
          have HNA2 := hid (HNA.out.call HC12.out)
          have HFA : Hid ((L ++ K).all fitsB = true) := hid (by rw [List.all_append, HFL.out, HFK.out]; rfl)
          have HLl : Hid ((flatB L).length ≤ 700000000) := hid (by have := flat_len L HFL.out; rw [← HM.out] at this; omega)
          have HKl : Hid ((flatB K).length ≤ 700000000) := hid (by have := flat_len K HFK.out; rw [← HK.out] at this; omega)
          clear hv13 e13 l13 hv8 hv10 hb10 HV13 HV8e HV10e HC12
          obtain ⟨nL, hnL⟩ : ∃ y, y = (flatB L).length := ⟨_, rfl⟩
          obtain ⟨nK, hnK⟩ : ∃ y, y = (flatB K).length := ⟨_, rfl⟩
          have hnn : (flatB L ++ flatB K).length = nL + nK := by rw [List.length_append, hnL, hnK]
          rw [← hnL, ← hnK, hnn]
          have HnL := hid hnL
          have HnK := hid hnK
          have bL : nL ≤ 700000000 := by rw [hnL]; exact HLl.out
          have bK : nK ≤ 700000000 := by rw [hnK]; exact HKl.out
          clear hnL hnK hnn
          go_upto_region 14 with fail
          go_upto_region 15 with (first
            | (refine wp_appB rfl _ _ rfl w.heap.size (.slice a8 nL c8) (flatB L) (flatB K) a10 c10 rfl (by rw [← HnK.out]; rfl) (by have := HW8.out; rw [← HnL.out] at this; exact this) HB10.out (by have := HLl.out; have := HKl.out; omega) HCf.out.size ?_; intro v14 w13 h1 h2; have HV14 := hid h1; have HC13 := hid h2; have hRd := read_bow (L := L ++ K) (by rw [flat_app]; exact h1) HFA.out (by rw [List.length_append, ← HM.out, ← HK.out]; omega); clear h1 h2)
            | (go_at_call 14; go_must (refine hRd.mono ?_; rintro e w14 ⟨v15, M, rfl, hn14, hm14, ha14, hc14⟩; have HN14 := hid hn14; have HM14 := hid hm14; have HA14 := hid ha14; have HC14 := hid hc14; clear hn14 hm14 ha14 hc14))
            | fail)
          have hown : ∀ j, (Value.slice a8 nL c8).ownBlock = some j → j < w7.heap.size := fun j e => HV8lt.out j (by rw [← HnL.out]; exact e)
          have HNA3 := hid ((HNA2.out.keep HC13.out (fun j hj e => by
            have h1 := hown j e
            rcases hj with ⟨o', e'⟩ | ⟨i, hi, o', e'⟩
            · have := HAb.out j (by rw [e']; rfl)
              omega
            · have := HPd.out i hi j o' e'
              omega)).call HC14.out)
          obtain ⟨aM, cM, eM, hnM⟩ := HN14.out.nat
          subst eM
          have hMl : M.length = P.length := by rw [HM14.out, HPl.out, List.length_append, HM.out, HK.out]
          have hSm := same_any M P aM aA cM cA w14 hnM HNA3.out hMl.symm (by rw [hMl, HPl.out]; omega) (fun i hi => by
            rw [hMl] at hi
            have x1 := HA14.out i (by rw [← HM14.out, hMl]; exact hi)
            have x2 := HPa.out i hi
            exact ⟨x2.1.trans x1.1.symm, x2.2.1.trans x1.2.1.symm, x2.2.2.1.trans x1.2.2.1.symm, x2.2.2.2.1.trans x1.2.2.2.1.symm, x2.2.2.2.2.trans x1.2.2.2.2.symm⟩)
          have HCg : Hid (Chg w w14 No) := hid ((HCf.out.trans HC13.out (fun _ _ e => e) (fun j hj e => by have hw := HW8.out; rw [← HnL.out] at hw; have := (hw.blk e).1; omega)).tr HC14.out)
          clear hown hnM hMl HN14 HNA3
          go_wp2_with (first
            | (go_at_call 16; go_must (refine hSm.mono ?_; rintro e w15 ⟨rfl, hc15⟩; have HC15 := hid hc15; clear hc15))
            | fail)
          go_ret
          exact ⟨by first | rfl | (simp; omega), (HCg.out.tr HC15.out).below⟩
      | false =>
        as_aux_lemma =>
          have HFK := hid hfk
          clear hfk
          have y1 : bytesE L = 0 := by unfold bytesE; rw [HFL.out]; rfl
          have y2 : bytesE K = 170 := by unfold bytesE; rw [HFK.out]; rfl
          have z1 : bytesL L = flatB L := by unfold bytesL; rw [HFL.out]; rfl
          have z2 : bytesL K = [] := by unfold bytesL; rw [HFK.out]; rfl
          rw [y1, z1] at HY1
          rw [y2, z2] at HY2
          clear y1 y2 z1 z2
          have f1 : (m : Int) ≤ (m : Int) + 3 := by omega
          have f2 : (k : Int) ≤ (k : Int) + 3 := by omega
          go_enter Try.func5, Try.ntmps5
          go_upto_region 2 with (first
            | (go_at_call 7; go_must (refine hAw.mono ?_; rintro e w1 ⟨rfl, hc1⟩; have HC1 := hid hc1; clear hc1))
            | fail)
          have hF1 := HF1.out w1 HC1.out
          go_upto_region 3 with (first
            | (go_at_call 8; go_must (refine hF1.mono ?_; rintro e w2 ⟨rfl, hc2⟩; have HC2 := hid (HC1.out.tr hc2); clear hc2))
            | fail)
          have hF2 := HF2.out w2 HC2.out
          go_upto_region 6 with (first
            | (go_at_call 8; go_must (refine hF2.mono ?_; rintro e w3 ⟨rfl, hc3⟩; have HC3 := hid (HC2.out.tr hc3); clear hc3))
            | fail)
          have hO1 := HO1.out w3 HC3.out
          clear hAw hF1 hF2 HF1 HF2 HC1 HC2
          go_upto_region 7 with (first
            | (go_at_call 18; go_must (refine hO1.mono ?_; rintro e w4 ⟨g1, hs1, vb1, rfl, hl4⟩; have HC4 := hid (HC3.out.tr hl4.ch); have hY := HY1.out w4 g1 hs1 w3 hl4.lr; clear hl4))
            | (go_at_call 10; go_must (refine hY.mono ?_; rintro e w5 ⟨v8, rfl, hb5, hc5⟩; have HV8 := hid (hb5.lower HC4.out.size); have HC5 := hid (HC4.out.tr hc5); clear hb5 hc5))
            | fail)
          have hO2 := HO2.out w5 HC5.out
          clear hO1 hY HC3 HC4
          go_upto_region 8 with (first
            | (go_at_call 18; go_must (refine hO2.mono ?_; rintro e w6 ⟨g2, hs2, vb2, rfl, hl6⟩; have HV8b := hid (HV8.out.call hl6.ch); have HC6 := hid (HC5.out.tr hl6.ch); have HS6 := hid hl6.ch.size; have hY := HY2.out w6 g2 hs2 w5 hl6.lr; clear hl6))
            | (go_at_call 10; go_must (refine hY.mono ?_; rintro e w7 ⟨v10, rfl, hb7, hc7⟩; have HV10 := hid hb7; have HV8c := hid (HV8b.out.call hc7); have HC7 := hid (HC6.out.tr hc7); clear hb7 hc7))
            | fail)
          have HSw7 : Hid (w.heap.size ≤ w7.heap.size) := hid HC7.out.size
          have hO3 := HO1.out w7 HC7.out
          have HV8lt : Hid (∀ j, v8.ownBlock = some j → j < w7.heap.size) := hid (fun j e => by obtain ⟨_, A, hA⟩ := HV8c.out.blk e; exact slt hA)
          clear hO2 hY HC5 HC6 HV8 HV8b
          go_upto_region 9 with fail
          go_upto_region 10 with (first
            | (go_at_call 18; go_must (refine hO3.mono ?_; rintro e w8 ⟨g3, hs3, vb3, rfl, hl8⟩; have HL8 := hid hl8; have HK1 : Hid ((List.zipWith lentN L hs3).length = m) := hid (by rw [lentL_len hl8.bb.len, HM.out]); clear hl8))
            | (refine wp_appNs rfl _ _ rfl w7.heap.size g3 (m + 3) (.slice none 0 0) [] (List.zipWith lentN L hs3) rfl (by rw [HK1.out]; rfl) (NOw.nil _ _) HL8.out.lr.nat (by rw [HK1.out]; simp; omega) HL8.out.ch.size HL8.out.lr.low ?_; intro v9 w9 h1 h2; have HN9 := hid h1; have HC89 : Hid (Chg w8 w9 No) := hid (h2.mono fun _ _ e => by simp [Value.ownBlock] at e); clear h1 h2)
            | fail)
          have HC9 := hid ((HC7.out.tr HL8.out.ch).tr HC89.out)
          have HS9 : Hid (w7.heap.size ≤ w9.heap.size) := hid ((HL8.out.ch.tr HC89.out).size)
          have HV8d := hid ((HV8c.out.call HL8.out.ch).call HC89.out)
          have HV10d := hid ((HV10.out.call HL8.out.ch).call HC89.out)
          have HLh1 := hid HL8.out.bb.len
          have HNw1 := hid HL8.out.bb.new
          have hO4 := HO2.out w9 HC9.out
          rw [List.nil_append] at HN9
          clear hO3 HC89 HL8 HC7 HV8c HV10 HO1 HY1 HY2
          go_upto_region 11 with (first
            | (go_at_call 18; go_must (refine hO4.mono ?_; rintro e w10 ⟨g4, hs4, vb4, rfl, hl10⟩; have HL10 := hid hl10; have HN10 := hid (HN9.out.keep hl10.ch (fun _ _ e => e) (fun _ _ _ e => e)); have HK2 : Hid ((List.zipWith lentN K hs4).length = k) := hid (by rw [lentL_len hl10.bb.len, HK.out]); have HS10 := hid (Nat.le_trans HS9.out hl10.ch.size); clear hl10))
            | (refine wp_appNs rfl _ _ rfl w7.heap.size g4 (k + 3) v9 (List.zipWith lentN L hs3) (List.zipWith lentN K hs4) rfl (by rw [HK2.out]; rfl) HN10.out HL10.out.lr.nat (by rw [HK1.out, HK2.out]; omega) HS10.out HL10.out.lr.low ?_; intro v11 w11 h1 h2; have HN11 := hid h1; have HC11 := hid h2; clear h1 h2)
            | fail)
          have own9 : ∀ j, v9.ownBlock = some j → w7.heap.size ≤ j ∧ ∃ A, w10.heap[j]? = some (.cells A 47 (0, 0)) := fun j e => HN10.out.blk e
          have HCw11 : Hid (Chg w w11 No) := hid ((HC9.out.tr HL10.out.ch).trans HC11.out (fun _ _ e => e) (fun j hj e => by have h1 := (own9 j e).1; have h2 := HSw7.out; omega))
          have HV8e := hid ((HV8d.out.call HL10.out.ch).keep HC11.out (fun j e f => by obtain ⟨_, A, hA⟩ := own9 j f; obtain ⟨_, C, hC⟩ := (HV8d.out.call HL10.out.ch).blk e; rw [hA] at hC; cases hC))
          have HV10e := hid ((HV10d.out.call HL10.out.ch).keep HC11.out (fun j e f => by obtain ⟨_, A, hA⟩ := own9 j f; obtain ⟨_, C, hC⟩ := (HV10d.out.call HL10.out.ch).blk e; rw [hA] at hC; cases hC))
          have HLh2 := hid HL10.out.bb.len
          have HNw2 := hid HL10.out.bb.new
          have HAb : Hid (∀ j, v11.ownBlock = some j → w7.heap.size ≤ j) := hid (fun j e => (HN11.out.blk e).1)
          obtain ⟨aA, cA, eA, hnA⟩ := HN11.out.nat
          subst eA
          obtain ⟨P, hP⟩ : ∃ y, y = List.zipWith lentN L hs3 ++ List.zipWith lentN K hs4 := ⟨_, rfl⟩
          rw [← hP] at hnA HN11
          rw [← hP]
          have HPl : Hid (P.length = m + k) := hid (by rw [hP, List.length_append, HK1.out, HK2.out])
          have HPf : Hid (P.all fitsB = (L.all fitsB && K.all fitsB)) := hid (by rw [hP, List.all_append, lent_fits HLh1.out, lent_fits HLh2.out])
          have HPb : Hid (flatB P = flatB L ++ flatB K) := hid (by rw [hP, flat_app, lent_flat HLh1.out, lent_flat HLh2.out])
          have HPI : Hid (∀ i, i < P.length → I64 (P.getD i Nod.z).kind ∧ I64 (P.getD i Nod.z).made) := hid (fun i hi => by
            rw [HPl.out] at hi
            rw [hP]
            rcases getD_app (List.zipWith lentN L hs3) (List.zipWith lentN K hs4) i with ⟨e1, e2⟩ | ⟨e1, e2⟩
            · rw [e2]; exact lent_i64 HLh1.out HI1.out i e1
            · rw [e2]; exact lent_i64 HLh2.out HI2.out _ (by rw [HK1.out] at e1 ⊢; rw [HK2.out]; omega))
          have HPa : Hid (∀ i, i < P.length → alikeN ((L ++ K).getD i Nod.z) (P.getD i Nod.z)) := hid (fun i hi => by
            rw [HPl.out] at hi
            rw [hP]
            rcases getD_app (List.zipWith lentN L hs3) (List.zipWith lentN K hs4) i with ⟨e1, e2⟩ | ⟨e1, e2⟩
            · rw [HK1.out] at e1
              rw [e2, lentL_get HLh1.out (by rw [← HM.out]; exact e1), getD_left (by rw [← HM.out]; exact e1)]
              exact ⟨rfl, rfl, rfl, rfl, rfl⟩
            · rw [HK1.out] at e1 e2
              rcases getD_app L K i with ⟨f1, f2⟩ | ⟨f1, f2⟩
              · rw [← HM.out] at f1; omega
              · rw [e2, f2, ← HM.out, lentL_get HLh2.out (by rw [← HK.out]; omega)]
                exact ⟨rfl, rfl, rfl, rfl, rfl⟩)
          have HPd : Hid (∀ i, i < P.length → ∀ g o, (P.getD i Nod.z).da = some ⟨g, o, none⟩ → w7.heap.size ≤ g) := hid (fun i hi g o e => by
            rw [HPl.out] at hi
            rw [hP] at e
            rcases getD_app (List.zipWith lentN L hs3) (List.zipWith lentN K hs4) i with ⟨e1, e2⟩ | ⟨e1, e2⟩
            · rw [HK1.out] at e1
              rw [e2, lentL_get HLh1.out (by rw [← HM.out]; exact e1)] at e
              have e : some (⟨hs3.getD i 0, 0, none⟩ : Addr) = some ⟨g, o, none⟩ := e
              cases e
              exact HNw1.out i (by rw [← HM.out]; exact e1)
            · rw [HK1.out] at e1 e2
              rw [e2, lentL_get HLh2.out (by rw [← HK.out]; omega)] at e
              have e : some (⟨hs4.getD (i - m) 0, 0, none⟩ : Addr) = some ⟨g, o, none⟩ := e
              cases e
              exact Nat.le_trans HS9.out (HNw2.out (i - m) (by rw [← HK.out]; omega)))
          have hBy := bytes_r P aA cA w11 hnA HPI.out (by rw [HPl.out]; omega)
          have HNA := hid hnA
          clear hO4 HN10 HN9 HL10 HC11 own9 HV8d HV10d HC9 hnA hP HO2
          go_upto_region 12 with (first
            | (go_at_call 10; go_must (refine hBy.mono ?_; rintro e w12 ⟨v13, rfl, hb12, hc12⟩; have HV13 := hid hb12; have HC12 := hid hc12; clear hb12 hc12))
            | fail)
          clear hBy
          have e13 : bytesE P = 170 := by unfold bytesE; rw [HPf.out]; simp [HFL.out, HFK.out]
          have l13 : bytesL P = [] := by unfold bytesL; rw [HPf.out]; simp [HFL.out, HFK.out]
          have hv13 := HV13.out
          rw [l13] at hv13
          obtain ⟨a13, c13, ev, _⟩ := hv13.one
          subst ev
          rw [e13]
          have HCf := hid (HCw11.out.tr HC12.out)
          clear hv13 e13 l13
          go_wp2_with fail
          go_ret
          exact ⟨rfl, HCf.out.below⟩
    | false =>
      have HFL := hid hfl
      clear hfl
      cases hfk : K.all fitsB with
      | true =>
        as_aux_lemma =>
          have HFK := hid hfk
          clear hfk
          have y1 : bytesE L = 170 := by unfold bytesE; rw [HFL.out]; rfl
          have y2 : bytesE K = 0 := by unfold bytesE; rw [HFK.out]; rfl
          have z1 : bytesL L = [] := by unfold bytesL; rw [HFL.out]; rfl
          have z2 : bytesL K = flatB K := by unfold bytesL; rw [HFK.out]; rfl
          rw [y1, z1] at HY1
          rw [y2, z2] at HY2
          clear y1 y2 z1 z2
          have f1 : (m : Int) ≤ (m : Int) + 3 := by omega
          have f2 : (k : Int) ≤ (k : Int) + 3 := by omega
          go_enter Try.func5, Try.ntmps5
          go_upto_region 2 with (first
            | (go_at_call 7; go_must (refine hAw.mono ?_; rintro e w1 ⟨rfl, hc1⟩; have HC1 := hid hc1; clear hc1))
            | fail)
          have hF1 := HF1.out w1 HC1.out
          go_upto_region 3 with (first
            | (go_at_call 8; go_must (refine hF1.mono ?_; rintro e w2 ⟨rfl, hc2⟩; have HC2 := hid (HC1.out.tr hc2); clear hc2))
            | fail)
          have hF2 := HF2.out w2 HC2.out
          go_upto_region 6 with (first
            | (go_at_call 8; go_must (refine hF2.mono ?_; rintro e w3 ⟨rfl, hc3⟩; have HC3 := hid (HC2.out.tr hc3); clear hc3))
            | fail)
          have hO1 := HO1.out w3 HC3.out
          clear hAw hF1 hF2 HF1 HF2 HC1 HC2
          go_upto_region 7 with (first
            | (go_at_call 18; go_must (refine hO1.mono ?_; rintro e w4 ⟨g1, hs1, vb1, rfl, hl4⟩; have HC4 := hid (HC3.out.tr hl4.ch); have hY := HY1.out w4 g1 hs1 w3 hl4.lr; clear hl4))
            | (go_at_call 10; go_must (refine hY.mono ?_; rintro e w5 ⟨v8, rfl, hb5, hc5⟩; have HV8 := hid (hb5.lower HC4.out.size); have HC5 := hid (HC4.out.tr hc5); clear hb5 hc5))
            | fail)
          have hO2 := HO2.out w5 HC5.out
          clear hO1 hY HC3 HC4
          go_upto_region 8 with (first
            | (go_at_call 18; go_must (refine hO2.mono ?_; rintro e w6 ⟨g2, hs2, vb2, rfl, hl6⟩; have HV8b := hid (HV8.out.call hl6.ch); have HC6 := hid (HC5.out.tr hl6.ch); have HS6 := hid hl6.ch.size; have hY := HY2.out w6 g2 hs2 w5 hl6.lr; clear hl6))
            | (go_at_call 10; go_must (refine hY.mono ?_; rintro e w7 ⟨v10, rfl, hb7, hc7⟩; have HV10 := hid hb7; have HV8c := hid (HV8b.out.call hc7); have HC7 := hid (HC6.out.tr hc7); clear hb7 hc7))
            | fail)
          have HSw7 : Hid (w.heap.size ≤ w7.heap.size) := hid HC7.out.size
          have hO3 := HO1.out w7 HC7.out
          have HV8lt : Hid (∀ j, v8.ownBlock = some j → j < w7.heap.size) := hid (fun j e => by obtain ⟨_, A, hA⟩ := HV8c.out.blk e; exact slt hA)
          clear hO2 hY HC5 HC6 HV8 HV8b
          go_upto_region 9 with fail
          go_upto_region 10 with (first
            | (go_at_call 18; go_must (refine hO3.mono ?_; rintro e w8 ⟨g3, hs3, vb3, rfl, hl8⟩; have HL8 := hid hl8; have HK1 : Hid ((List.zipWith lentN L hs3).length = m) := hid (by rw [lentL_len hl8.bb.len, HM.out]); clear hl8))
            | (refine wp_appNs rfl _ _ rfl w7.heap.size g3 (m + 3) (.slice none 0 0) [] (List.zipWith lentN L hs3) rfl (by rw [HK1.out]; rfl) (NOw.nil _ _) HL8.out.lr.nat (by rw [HK1.out]; simp; omega) HL8.out.ch.size HL8.out.lr.low ?_; intro v9 w9 h1 h2; have HN9 := hid h1; have HC89 : Hid (Chg w8 w9 No) := hid (h2.mono fun _ _ e => by simp [Value.ownBlock] at e); clear h1 h2)
            | fail)
          have HC9 := hid ((HC7.out.tr HL8.out.ch).tr HC89.out)
          have HS9 : Hid (w7.heap.size ≤ w9.heap.size) := hid ((HL8.out.ch.tr HC89.out).size)
          have HV8d := hid ((HV8c.out.call HL8.out.ch).call HC89.out)
          have HV10d := hid ((HV10.out.call HL8.out.ch).call HC89.out)
          have HLh1 := hid HL8.out.bb.len
          have HNw1 := hid HL8.out.bb.new
          have hO4 := HO2.out w9 HC9.out
          rw [List.nil_append] at HN9
          clear hO3 HC89 HL8 HC7 HV8c HV10 HO1 HY1 HY2
          go_upto_region 11 with (first
            | (go_at_call 18; go_must (refine hO4.mono ?_; rintro e w10 ⟨g4, hs4, vb4, rfl, hl10⟩; have HL10 := hid hl10; have HN10 := hid (HN9.out.keep hl10.ch (fun _ _ e => e) (fun _ _ _ e => e)); have HK2 : Hid ((List.zipWith lentN K hs4).length = k) := hid (by rw [lentL_len hl10.bb.len, HK.out]); have HS10 := hid (Nat.le_trans HS9.out hl10.ch.size); clear hl10))
            | (refine wp_appNs rfl _ _ rfl w7.heap.size g4 (k + 3) v9 (List.zipWith lentN L hs3) (List.zipWith lentN K hs4) rfl (by rw [HK2.out]; rfl) HN10.out HL10.out.lr.nat (by rw [HK1.out, HK2.out]; omega) HS10.out HL10.out.lr.low ?_; intro v11 w11 h1 h2; have HN11 := hid h1; have HC11 := hid h2; clear h1 h2)
            | fail)
          have own9 : ∀ j, v9.ownBlock = some j → w7.heap.size ≤ j ∧ ∃ A, w10.heap[j]? = some (.cells A 47 (0, 0)) := fun j e => HN10.out.blk e
          have HCw11 : Hid (Chg w w11 No) := hid ((HC9.out.tr HL10.out.ch).trans HC11.out (fun _ _ e => e) (fun j hj e => by have h1 := (own9 j e).1; have h2 := HSw7.out; omega))
          have HV8e := hid ((HV8d.out.call HL10.out.ch).keep HC11.out (fun j e f => by obtain ⟨_, A, hA⟩ := own9 j f; obtain ⟨_, C, hC⟩ := (HV8d.out.call HL10.out.ch).blk e; rw [hA] at hC; cases hC))
          have HV10e := hid ((HV10d.out.call HL10.out.ch).keep HC11.out (fun j e f => by obtain ⟨_, A, hA⟩ := own9 j f; obtain ⟨_, C, hC⟩ := (HV10d.out.call HL10.out.ch).blk e; rw [hA] at hC; cases hC))
          have HLh2 := hid HL10.out.bb.len
          have HNw2 := hid HL10.out.bb.new
          have HAb : Hid (∀ j, v11.ownBlock = some j → w7.heap.size ≤ j) := hid (fun j e => (HN11.out.blk e).1)
          obtain ⟨aA, cA, eA, hnA⟩ := HN11.out.nat
          subst eA
          obtain ⟨P, hP⟩ : ∃ y, y = List.zipWith lentN L hs3 ++ List.zipWith lentN K hs4 := ⟨_, rfl⟩
          rw [← hP] at hnA HN11
          rw [← hP]
          have HPl : Hid (P.length = m + k) := hid (by rw [hP, List.length_append, HK1.out, HK2.out])
          have HPf : Hid (P.all fitsB = (L.all fitsB && K.all fitsB)) := hid (by rw [hP, List.all_append, lent_fits HLh1.out, lent_fits HLh2.out])
          have HPb : Hid (flatB P = flatB L ++ flatB K) := hid (by rw [hP, flat_app, lent_flat HLh1.out, lent_flat HLh2.out])
          have HPI : Hid (∀ i, i < P.length → I64 (P.getD i Nod.z).kind ∧ I64 (P.getD i Nod.z).made) := hid (fun i hi => by
            rw [HPl.out] at hi
            rw [hP]
            rcases getD_app (List.zipWith lentN L hs3) (List.zipWith lentN K hs4) i with ⟨e1, e2⟩ | ⟨e1, e2⟩
            · rw [e2]; exact lent_i64 HLh1.out HI1.out i e1
            · rw [e2]; exact lent_i64 HLh2.out HI2.out _ (by rw [HK1.out] at e1 ⊢; rw [HK2.out]; omega))
          have HPa : Hid (∀ i, i < P.length → alikeN ((L ++ K).getD i Nod.z) (P.getD i Nod.z)) := hid (fun i hi => by
            rw [HPl.out] at hi
            rw [hP]
            rcases getD_app (List.zipWith lentN L hs3) (List.zipWith lentN K hs4) i with ⟨e1, e2⟩ | ⟨e1, e2⟩
            · rw [HK1.out] at e1
              rw [e2, lentL_get HLh1.out (by rw [← HM.out]; exact e1), getD_left (by rw [← HM.out]; exact e1)]
              exact ⟨rfl, rfl, rfl, rfl, rfl⟩
            · rw [HK1.out] at e1 e2
              rcases getD_app L K i with ⟨f1, f2⟩ | ⟨f1, f2⟩
              · rw [← HM.out] at f1; omega
              · rw [e2, f2, ← HM.out, lentL_get HLh2.out (by rw [← HK.out]; omega)]
                exact ⟨rfl, rfl, rfl, rfl, rfl⟩)
          have HPd : Hid (∀ i, i < P.length → ∀ g o, (P.getD i Nod.z).da = some ⟨g, o, none⟩ → w7.heap.size ≤ g) := hid (fun i hi g o e => by
            rw [HPl.out] at hi
            rw [hP] at e
            rcases getD_app (List.zipWith lentN L hs3) (List.zipWith lentN K hs4) i with ⟨e1, e2⟩ | ⟨e1, e2⟩
            · rw [HK1.out] at e1
              rw [e2, lentL_get HLh1.out (by rw [← HM.out]; exact e1)] at e
              have e : some (⟨hs3.getD i 0, 0, none⟩ : Addr) = some ⟨g, o, none⟩ := e
              cases e
              exact HNw1.out i (by rw [← HM.out]; exact e1)
            · rw [HK1.out] at e1 e2
              rw [e2, lentL_get HLh2.out (by rw [← HK.out]; omega)] at e
              have e : some (⟨hs4.getD (i - m) 0, 0, none⟩ : Addr) = some ⟨g, o, none⟩ := e
              cases e
              exact Nat.le_trans HS9.out (HNw2.out (i - m) (by rw [← HK.out]; omega)))
          have hBy := bytes_r P aA cA w11 hnA HPI.out (by rw [HPl.out]; omega)
          have HNA := hid hnA
          clear hO4 HN10 HN9 HL10 HC11 own9 HV8d HV10d HC9 hnA hP HO2
          go_upto_region 12 with (first
            | (go_at_call 10; go_must (refine hBy.mono ?_; rintro e w12 ⟨v13, rfl, hb12, hc12⟩; have HV13 := hid hb12; have HC12 := hid hc12; clear hb12 hc12))
            | fail)
          clear hBy
          have e13 : bytesE P = 170 := by unfold bytesE; rw [HPf.out]; simp [HFL.out, HFK.out]
          have l13 : bytesL P = [] := by unfold bytesL; rw [HPf.out]; simp [HFL.out, HFK.out]
          have hv13 := HV13.out
          rw [l13] at hv13
          obtain ⟨a13, c13, ev, _⟩ := hv13.one
          subst ev
          rw [e13]
          have HCf := hid (HCw11.out.tr HC12.out)
          clear hv13 e13 l13
          go_wp2_with fail
          go_ret
          exact ⟨rfl, HCf.out.below⟩
      | false =>
        as_aux_lemma =>
          have HFK := hid hfk
          clear hfk
          have y1 : bytesE L = 170 := by unfold bytesE; rw [HFL.out]; rfl
          have y2 : bytesE K = 170 := by unfold bytesE; rw [HFK.out]; rfl
          have z1 : bytesL L = [] := by unfold bytesL; rw [HFL.out]; rfl
          have z2 : bytesL K = [] := by unfold bytesL; rw [HFK.out]; rfl
          rw [y1, z1] at HY1
          rw [y2, z2] at HY2
          clear y1 y2 z1 z2
          have f1 : (m : Int) ≤ (m : Int) + 3 := by omega
          have f2 : (k : Int) ≤ (k : Int) + 3 := by omega
          go_enter Try.func5, Try.ntmps5
          go_upto_region 2 with (first
            | (go_at_call 7; go_must (refine hAw.mono ?_; rintro e w1 ⟨rfl, hc1⟩; have HC1 := hid hc1; clear hc1))
            | fail)
          have hF1 := HF1.out w1 HC1.out
          go_upto_region 3 with (first
            | (go_at_call 8; go_must (refine hF1.mono ?_; rintro e w2 ⟨rfl, hc2⟩; have HC2 := hid (HC1.out.tr hc2); clear hc2))
            | fail)
          have hF2 := HF2.out w2 HC2.out
          go_upto_region 6 with (first
            | (go_at_call 8; go_must (refine hF2.mono ?_; rintro e w3 ⟨rfl, hc3⟩; have HC3 := hid (HC2.out.tr hc3); clear hc3))
            | fail)
          have hO1 := HO1.out w3 HC3.out
          clear hAw hF1 hF2 HF1 HF2 HC1 HC2
          go_upto_region 7 with (first
            | (go_at_call 18; go_must (refine hO1.mono ?_; rintro e w4 ⟨g1, hs1, vb1, rfl, hl4⟩; have HC4 := hid (HC3.out.tr hl4.ch); have hY := HY1.out w4 g1 hs1 w3 hl4.lr; clear hl4))
            | (go_at_call 10; go_must (refine hY.mono ?_; rintro e w5 ⟨v8, rfl, hb5, hc5⟩; have HV8 := hid (hb5.lower HC4.out.size); have HC5 := hid (HC4.out.tr hc5); clear hb5 hc5))
            | fail)
          have hO2 := HO2.out w5 HC5.out
          clear hO1 hY HC3 HC4
          go_upto_region 8 with (first
            | (go_at_call 18; go_must (refine hO2.mono ?_; rintro e w6 ⟨g2, hs2, vb2, rfl, hl6⟩; have HV8b := hid (HV8.out.call hl6.ch); have HC6 := hid (HC5.out.tr hl6.ch); have HS6 := hid hl6.ch.size; have hY := HY2.out w6 g2 hs2 w5 hl6.lr; clear hl6))
            | (go_at_call 10; go_must (refine hY.mono ?_; rintro e w7 ⟨v10, rfl, hb7, hc7⟩; have HV10 := hid hb7; have HV8c := hid (HV8b.out.call hc7); have HC7 := hid (HC6.out.tr hc7); clear hb7 hc7))
            | fail)
          have HSw7 : Hid (w.heap.size ≤ w7.heap.size) := hid HC7.out.size
          have hO3 := HO1.out w7 HC7.out
          have HV8lt : Hid (∀ j, v8.ownBlock = some j → j < w7.heap.size) := hid (fun j e => by obtain ⟨_, A, hA⟩ := HV8c.out.blk e; exact slt hA)
          clear hO2 hY HC5 HC6 HV8 HV8b
          go_upto_region 9 with fail
          go_upto_region 10 with (first
            | (go_at_call 18; go_must (refine hO3.mono ?_; rintro e w8 ⟨g3, hs3, vb3, rfl, hl8⟩; have HL8 := hid hl8; have HK1 : Hid ((List.zipWith lentN L hs3).length = m) := hid (by rw [lentL_len hl8.bb.len, HM.out]); clear hl8))
            | (refine wp_appNs rfl _ _ rfl w7.heap.size g3 (m + 3) (.slice none 0 0) [] (List.zipWith lentN L hs3) rfl (by rw [HK1.out]; rfl) (NOw.nil _ _) HL8.out.lr.nat (by rw [HK1.out]; simp; omega) HL8.out.ch.size HL8.out.lr.low ?_; intro v9 w9 h1 h2; have HN9 := hid h1; have HC89 : Hid (Chg w8 w9 No) := hid (h2.mono fun _ _ e => by simp [Value.ownBlock] at e); clear h1 h2)
            | fail)
          have HC9 := hid ((HC7.out.tr HL8.out.ch).tr HC89.out)
          have HS9 : Hid (w7.heap.size ≤ w9.heap.size) := hid ((HL8.out.ch.tr HC89.out).size)
          have HV8d := hid ((HV8c.out.call HL8.out.ch).call HC89.out)
          have HV10d := hid ((HV10.out.call HL8.out.ch).call HC89.out)
          have HLh1 := hid HL8.out.bb.len
          have HNw1 := hid HL8.out.bb.new
          have hO4 := HO2.out w9 HC9.out
          rw [List.nil_append] at HN9
          clear hO3 HC89 HL8 HC7 HV8c HV10 HO1 HY1 HY2
          go_upto_region 11 with (first
            | (go_at_call 18; go_must (refine hO4.mono ?_; rintro e w10 ⟨g4, hs4, vb4, rfl, hl10⟩; have HL10 := hid hl10; have HN10 := hid (HN9.out.keep hl10.ch (fun _ _ e => e) (fun _ _ _ e => e)); have HK2 : Hid ((List.zipWith lentN K hs4).length = k) := hid (by rw [lentL_len hl10.bb.len, HK.out]); have HS10 := hid (Nat.le_trans HS9.out hl10.ch.size); clear hl10))
            | (refine wp_appNs rfl _ _ rfl w7.heap.size g4 (k + 3) v9 (List.zipWith lentN L hs3) (List.zipWith lentN K hs4) rfl (by rw [HK2.out]; rfl) HN10.out HL10.out.lr.nat (by rw [HK1.out, HK2.out]; omega) HS10.out HL10.out.lr.low ?_; intro v11 w11 h1 h2; have HN11 := hid h1; have HC11 := hid h2; clear h1 h2)
            | fail)
          have own9 : ∀ j, v9.ownBlock = some j → w7.heap.size ≤ j ∧ ∃ A, w10.heap[j]? = some (.cells A 47 (0, 0)) := fun j e => HN10.out.blk e
          have HCw11 : Hid (Chg w w11 No) := hid ((HC9.out.tr HL10.out.ch).trans HC11.out (fun _ _ e => e) (fun j hj e => by have h1 := (own9 j e).1; have h2 := HSw7.out; omega))
          have HV8e := hid ((HV8d.out.call HL10.out.ch).keep HC11.out (fun j e f => by obtain ⟨_, A, hA⟩ := own9 j f; obtain ⟨_, C, hC⟩ := (HV8d.out.call HL10.out.ch).blk e; rw [hA] at hC; cases hC))
          have HV10e := hid ((HV10d.out.call HL10.out.ch).keep HC11.out (fun j e f => by obtain ⟨_, A, hA⟩ := own9 j f; obtain ⟨_, C, hC⟩ := (HV10d.out.call HL10.out.ch).blk e; rw [hA] at hC; cases hC))
          have HLh2 := hid HL10.out.bb.len
          have HNw2 := hid HL10.out.bb.new
          have HAb : Hid (∀ j, v11.ownBlock = some j → w7.heap.size ≤ j) := hid (fun j e => (HN11.out.blk e).1)
          obtain ⟨aA, cA, eA, hnA⟩ := HN11.out.nat
          subst eA
          obtain ⟨P, hP⟩ : ∃ y, y = List.zipWith lentN L hs3 ++ List.zipWith lentN K hs4 := ⟨_, rfl⟩
          rw [← hP] at hnA HN11
          rw [← hP]
          have HPl : Hid (P.length = m + k) := hid (by rw [hP, List.length_append, HK1.out, HK2.out])
          have HPf : Hid (P.all fitsB = (L.all fitsB && K.all fitsB)) := hid (by rw [hP, List.all_append, lent_fits HLh1.out, lent_fits HLh2.out])
          have HPb : Hid (flatB P = flatB L ++ flatB K) := hid (by rw [hP, flat_app, lent_flat HLh1.out, lent_flat HLh2.out])
          have HPI : Hid (∀ i, i < P.length → I64 (P.getD i Nod.z).kind ∧ I64 (P.getD i Nod.z).made) := hid (fun i hi => by
            rw [HPl.out] at hi
            rw [hP]
            rcases getD_app (List.zipWith lentN L hs3) (List.zipWith lentN K hs4) i with ⟨e1, e2⟩ | ⟨e1, e2⟩
            · rw [e2]; exact lent_i64 HLh1.out HI1.out i e1
            · rw [e2]; exact lent_i64 HLh2.out HI2.out _ (by rw [HK1.out] at e1 ⊢; rw [HK2.out]; omega))
          have HPa : Hid (∀ i, i < P.length → alikeN ((L ++ K).getD i Nod.z) (P.getD i Nod.z)) := hid (fun i hi => by
            rw [HPl.out] at hi
            rw [hP]
            rcases getD_app (List.zipWith lentN L hs3) (List.zipWith lentN K hs4) i with ⟨e1, e2⟩ | ⟨e1, e2⟩
            · rw [HK1.out] at e1
              rw [e2, lentL_get HLh1.out (by rw [← HM.out]; exact e1), getD_left (by rw [← HM.out]; exact e1)]
              exact ⟨rfl, rfl, rfl, rfl, rfl⟩
            · rw [HK1.out] at e1 e2
              rcases getD_app L K i with ⟨f1, f2⟩ | ⟨f1, f2⟩
              · rw [← HM.out] at f1; omega
              · rw [e2, f2, ← HM.out, lentL_get HLh2.out (by rw [← HK.out]; omega)]
                exact ⟨rfl, rfl, rfl, rfl, rfl⟩)
          have HPd : Hid (∀ i, i < P.length → ∀ g o, (P.getD i Nod.z).da = some ⟨g, o, none⟩ → w7.heap.size ≤ g) := hid (fun i hi g o e => by
            rw [HPl.out] at hi
            rw [hP] at e
            rcases getD_app (List.zipWith lentN L hs3) (List.zipWith lentN K hs4) i with ⟨e1, e2⟩ | ⟨e1, e2⟩
            · rw [HK1.out] at e1
              rw [e2, lentL_get HLh1.out (by rw [← HM.out]; exact e1)] at e
              have e : some (⟨hs3.getD i 0, 0, none⟩ : Addr) = some ⟨g, o, none⟩ := e
              cases e
              exact HNw1.out i (by rw [← HM.out]; exact e1)
            · rw [HK1.out] at e1 e2
              rw [e2, lentL_get HLh2.out (by rw [← HK.out]; omega)] at e
              have e : some (⟨hs4.getD (i - m) 0, 0, none⟩ : Addr) = some ⟨g, o, none⟩ := e
              cases e
              exact Nat.le_trans HS9.out (HNw2.out (i - m) (by rw [← HK.out]; omega)))
          have hBy := bytes_r P aA cA w11 hnA HPI.out (by rw [HPl.out]; omega)
          have HNA := hid hnA
          clear hO4 HN10 HN9 HL10 HC11 own9 HV8d HV10d HC9 hnA hP HO2
          go_upto_region 12 with (first
            | (go_at_call 10; go_must (refine hBy.mono ?_; rintro e w12 ⟨v13, rfl, hb12, hc12⟩; have HV13 := hid hb12; have HC12 := hid hc12; clear hb12 hc12))
            | fail)
          clear hBy
          have e13 : bytesE P = 170 := by unfold bytesE; rw [HPf.out]; simp [HFL.out, HFK.out]
          have l13 : bytesL P = [] := by unfold bytesL; rw [HPf.out]; simp [HFL.out, HFK.out]
          have hv13 := HV13.out
          rw [l13] at hv13
          obtain ⟨a13, c13, ev, _⟩ := hv13.one
          subst ev
          rw [e13]
          have HCf := hid (HCw11.out.tr HC12.out)
          clear hv13 e13 l13
          go_wp2_with fail
          go_ret
          exact ⟨rfl, HCf.out.below⟩
  · have hbf : b1 = false ∨ (b1 = true ∧ b2 = false) := by
      cases b1
      · exact .inl rfl
      · cases b2
        · exact .inr ⟨rfl, rfl⟩
        · exact absurd ⟨rfl, rfl⟩ hbb
    clear hbb HB1 HB2
    rcases hbf with rfl | ⟨rfl, rfl⟩
    · go_enter Try.func5, Try.ntmps5
      go_upto_region 2 with (first
        | (go_at_call 7; go_must (refine hAw.mono ?_; rintro e w1 ⟨rfl, hc1⟩; have HC1 := hid hc1; clear hc1))
        | fail)
      have hF1 := HF1.out w1 HC1.out
      go_upto_region 3 with (first
        | (go_at_call 8; go_must (refine hF1.mono ?_; rintro e w2 ⟨rfl, hc2⟩; have HC2 := hid (HC1.out.tr hc2); clear hc2))
        | fail)
      have hF2 := HF2.out w2 HC2.out
      go_wp2_with (first
        | (go_at_call 8; go_must (refine hF2.mono ?_; rintro e w3 ⟨rfl, hc3⟩; have HC3 := hid (HC2.out.tr hc3); clear hc3))
        | fail)
      go_ret
      exact ⟨rfl, HC3.out.below⟩
    · go_enter Try.func5, Try.ntmps5
      go_upto_region 2 with (first
        | (go_at_call 7; go_must (refine hAw.mono ?_; rintro e w1 ⟨rfl, hc1⟩; have HC1 := hid hc1; clear hc1))
        | fail)
      have hF1 := HF1.out w1 HC1.out
      go_upto_region 3 with (first
        | (go_at_call 8; go_must (refine hF1.mono ?_; rintro e w2 ⟨rfl, hc2⟩; have HC2 := hid (HC1.out.tr hc2); clear hc2))
        | fail)
      have hF2 := HF2.out w2 HC2.out
      go_wp2_with (first
        | (go_at_call 8; go_must (refine hF2.mono ?_; rintro e w3 ⟨rfl, hc3⟩; have HC3 := hid (HC2.out.tr hc3); clear hc3))
        | fail)
      go_ret
      exact ⟨rfl, HC3.out.below⟩
end Go.Proofs.Ytiakfgplhdbaeaa
