/-
  The walk of DumpWrites.
-/
import Derived.Test.YtiakfgplhdbaeaaF4
import Derived.OpenShut
namespace Go.Proofs.Ytiakfgplhdbaeaa
open Go.RowKit

theorem turn_i64 {n : Nod} (h : I64 n.kind) : I64 (turnN n).kind ∧ I64 (turnN n).made := by
  refine ⟨h, ?_⟩
  have h1 : (Lit.int .i64 (bits .xor .i64 n.made 1)).wf = true := wf_bits _ _ _ _
  have h2 : IntKind.i64.min ≤ (bits .xor .i64 n.made 1) ∧ (bits .xor .i64 n.made 1) ≤ 9223372036854775807 := by simpa [Lit.wf] using h1
  exact ⟨h2.1, h2.2⟩
theorem lent_i64 {L : List Nod} {hs : List Nat} (h : hs.length = L.length) (hI : ∀ i, i < L.length → I64 (L.getD i Nod.z).kind ∧ I64 (L.getD i Nod.z).made) : ∀ i, i < (List.zipWith lentN L hs).length → I64 ((List.zipWith lentN L hs).getD i Nod.z).kind ∧ I64 ((List.zipWith lentN L hs).getD i Nod.z).made := fun i hi => by
  rw [lentL_len h] at hi
  rw [lentL_get h hi]
  exact hI i hi
theorem map_getD {L : List Nod} {i : Nat} (hi : i < L.length) : (L.map turnN).getD i Nod.z = turnN (L.getD i Nod.z) := by
  rw [List.getD_eq_getElem?_getD, List.getElem?_map, List.getD_eq_getElem?_getD, List.getElem?_eq_getElem hi]
  rfl
theorem blk_low {w0 w : World} {gN : Nat} {L : List Nod} {hs : List Nat} (h : LR w0 w gN L hs) {k : Nat} (hk : LBlk gN hs k) : w0.heap.size ≤ k ∧ k < w.heap.size := by
  rcases hk with rfl | hk
  · exact ⟨h.nN, h.nr.lt⟩
  · obtain ⟨i, hi, rfl⟩ := List.mem_iff_getElem.1 hk
    have e : hs.getD i 0 = hs[i] := by rw [List.getD_eq_getElem?_getD, List.getElem?_eq_getElem hi]; rfl
    have hl : i < L.length := by rw [← h.bb.len]; exact hi
    rw [← e]
    exact ⟨h.bb.new i hl, slt (h.bb.at_ i hl)⟩

set_option maxHeartbeats 8000000 in
set_option maxRecDepth 100000 in
theorem writes_walk (L : List Nod) (a : Option Addr) (cap : Nat) (w : World) (h : NAt w a L) (hz : NSz L) (hI : ∀ i, i < L.length → I64 (L.getD i Nod.z).kind ∧ I64 (L.getD i Nod.z).made) : Calls Try.prog 3 #[.slice a L.length cap] w fun e w' => e = .returned (.bool true) ∧ Below w.heap.size w w' := by
  have hAw := awake_any w
  have HF : Hid (∀ W, Chg w W No → Calls Try.prog 8 #[.slice a L.length cap] W fun e w' => e = .returned (.bool (fewB L)) ∧ Chg W w' No) := hid (fun W hW => few_any L a cap W (h.call hW) hz)
  have HN := hid h
  have HI := hid hI
  clear h hz hI
  obtain ⟨m, hm⟩ : ∃ y, y = L.length := ⟨_, rfl⟩
  rw [← hm] at HF ⊢
  have HM := hid hm
  clear hm
  cases hfw : fewB L with
  | false =>
    rw [hfw] at HF
    go_enter Try.func3, Try.ntmps3
    go_upto_region 2 with (first
      | (go_at_call 7; go_must (refine hAw.mono ?_; rintro e w1 ⟨rfl, hc1⟩; have HC1 := hid hc1; clear hc1))
      | fail)
    have hF := HF.out w1 HC1.out
    clear hAw
    go_wp2_with (first
      | (go_at_call 8; go_must (refine hF.mono ?_; rintro e w2 ⟨rfl, hc2⟩; have HC2 := hid (HC1.out.tr hc2); clear hc2))
      | fail)
    go_ret
    exact ⟨rfl, HC2.out.below⟩
  | true =>
    rw [hfw] at HF
    have HFw := hid hfw
    have hm5 : m ≤ 5000 := by rw [HM.out]; exact (few_sum hfw).1
    clear hfw
    go_enter Try.func3, Try.ntmps3
    go_upto_region 2 with (first
      | (go_at_call 7; go_must (refine hAw.mono ?_; rintro e w1 ⟨rfl, hc1⟩; have HC1 := hid hc1; clear hc1))
      | fail)
    have hF := HF.out w1 HC1.out
    clear hAw
    go_upto_region 5 with (first
      | (go_at_call 8; go_must (refine hF.mono ?_; rintro e w2 ⟨rfl, hc2⟩; have HC2 := hid (HC1.out.tr hc2); clear hc2))
      | fail)
    have hLe := lend_any L a cap w2 (HN.out.call HC2.out) (few_sum HFw.out).1 (few_data HFw.out)
    rw [← HM.out] at hLe
    clear hF HC1 HF
    go_upto_region 6 with (first
      | (go_at_call 9; go_must (refine hLe.mono ?_; rintro e w3 ⟨gN, hs, vb, rfl, hl3⟩; have HL3 := hid hl3; have HOne : Hid ((#[.slice (some ⟨gN, 0, none⟩) (m + 3) (m + 3), vb] : Array Value).all (·.oneCell') = true) := hid (lent_one hl3.vb); clear hl3))
      | (refine store_R rfl 27 _ _ rfl w3.heap.size #[.slice (some ⟨gN, 0, none⟩) (m + 3) (m + 3), vb] rfl rfl 27 _ (heap_alloc_new _ _) (by rw [szLe]; rfl) rfl HOne.out ?_; intro w4 hw4)
      | fail)
    have h34 : Chg w3 w4 No := (Chg.alloc w3 _ No).trans (kt_new hw4) (fun _ _ e => e) (fun k hk e => by omega)
    obtain ⟨g5, hg5⟩ : ∃ y, y = w3.heap.size := ⟨_, rfl⟩
    have HG4 : Hid (w4.heap[g5]? = some (.cells #[.slice (some ⟨gN, 0, none⟩) (m + 3) (m + 3), vb] 27 (0, 0))) := hid (by rw [hg5]; exact hw4.here)
    rw [← hg5]
    have HL4 := hid (HL3.out.call h34)
    have HC4 := hid ((HC2.out.tr HL3.out.ch).tr h34)
    have HLh := hid HL3.out.bb.len
    have HLn : Hid ((List.zipWith lentN L hs).length = m) := hid (by rw [lentL_len HLh.out, HM.out])
    have q0 : w4.cell? ⟨g5, 0, none⟩ = some (.slice (some ⟨gN, 0, none⟩) (m + 3) (m + 3)) := (cell_of_row _ _ _ _ _ _ HG4.out).trans rfl
    have HBy : Hid (∀ W, Chg w4 W No → Calls Try.prog 10 #[.slice (some ⟨gN, 0, none⟩) m (m + 3)] W fun e w' => ∃ v, e = .returned (.tuple #[v, .int .i64 (bytesE L)]) ∧ BOw w' W.heap.size v (bytesL L) ∧ Chg W w' No) := hid (fun W hW => by
      have := bytes_r (List.zipWith lentN L hs) (some ⟨gN, 0, none⟩) (m + 3) W (HL4.out.lr.call hW).nat (lent_i64 HLh.out HI.out) (by rw [HLn.out]; omega)
      rw [HLn.out, bytesE_lent HLh.out, bytesL_lent HLh.out] at this
      exact this)
    have HKp : Hid (∀ W, Chg w4 W No → Calls Try.prog 11 #[.agg #[.slice (some ⟨gN, 0, none⟩) (m + 3) (m + 3), vb], .slice a m cap] W fun e w' => e = .returned (.bool true) ∧ Chg W w' No) := hid (fun W hW => by
      have := kept_any L a cap gN hs vb w2 W (HL4.out.call hW) (HN.out.call (HC4.out.tr hW)) (few_data HFw.out) (few_sum HFw.out).1
      rw [← HM.out] at this
      exact this)
    have HRb : Hid (∀ W, Chg w W No → Calls Try.prog 12 #[.slice a m cap] W fun e w' => ∃ v, e = .returned (.tuple #[v, .int .i64 (bytesE L)]) ∧ BOw w' W.heap.size v (bytesL L) ∧ Chg W w' No) := hid (fun W hW => by
      have := rbytes_r L a cap W (HN.out.call hW) (by rw [← HM.out]; omega)
      rw [← HM.out] at this
      exact this)
    obtain ⟨E, hE⟩ : ∃ y, y = bytesE L := ⟨_, rfl⟩
    obtain ⟨l, hl⟩ : ∃ y, y = bytesL L := ⟨_, rfl⟩
    have HLl : Hid (l.length ≤ 700000000) := hid (by rw [hl]; exact bytesL_len (by rw [← HM.out]; exact hm5))
    rw [← hE, ← hl] at HBy HRb
    have f1 : (m : Int) ≤ (m : Int) + 3 := by omega
    have hB1 := HBy.out w4 (Chg.refl _ _)
    have HS2 := hid HC2.out.size
    clear hLe hw4 h34 hg5 HL3 HOne HC2 hE hl
    go_upto_region 8 with (first
      | (go_at_call 10; go_must (refine hB1.mono ?_; rintro e w5 ⟨v7, rfl, hb5, hc5⟩; have HB7 := hid hb5; have HC5 := hid hc5; clear hb5 hc5))
      | fail)
    have HG5 := hid (HC5.out.keep HG4.out (fun e => e))
    have hK := HKp.out w5 HC5.out
    clear hB1 q0
    go_upto_region 9 with (first
      | (refine load_R rfl 27 _ rfl g5 rfl 27 _ _ HG5.out Try.underlying27 rfl (by rw [szLe]; rfl) ?_)
      | (go_at_call 11; go_must (refine hK.mono ?_; rintro e w6 ⟨rfl, hc6⟩; have HC6 := hid hc6; clear hc6))
      | fail)
    have hB2 := HBy.out w6 (HC5.out.tr HC6.out)
    clear hK HKp HG5
    go_upto_region 10 with (first
      | (go_at_call 10; go_must (refine hB2.mono ?_; rintro e w7 ⟨v10, rfl, hb7, hc7⟩; have HB10 := hid hb7; have HC7 := hid hc7; clear hb7 hc7))
      | fail)
    have hR1 := HRb.out w7 (HC4.out.tr ((HC5.out.tr HC6.out).tr HC7.out))
    clear hB2 HBy
    go_upto_region 11 with (first
      | (go_at_call 12; go_must (refine hR1.mono ?_; rintro e w8 ⟨v12, rfl, hb8, hc8⟩; have HB12 := hid hb8; have HC8 := hid hc8; clear hb8 hc8))
      | fail)
    clear hR1 HRb
    -- what is known in w8
    have s45 := HC5.out.size
    have s56 := HC6.out.size
    have s67 := HC7.out.size
    have s78 := HC8.out.size
    have HA7 := hid (((HB7.out.call HC6.out).call HC7.out).call HC8.out)
    have HA10 := hid (HB10.out.call HC8.out)
    have Hab : Hid (Ap v7 v10) := hid (HB7.out.ap s56 HB10.out)
    have HC48 := hid (((HC5.out.tr HC6.out).tr HC7.out).tr HC8.out)
    obtain ⟨a7, c7, e7, hv7⟩ := HA7.out.one
    obtain ⟨a10, c10, e10, hv10⟩ := HA10.out.one
    obtain ⟨a12, c12, e12, hv12⟩ := HB12.out.one
    have HV7 := hid (conv_at hv7 c7)
    have HV10 := hid (conv_at hv10 c10)
    have HV12 := hid (conv_at hv12 c12)
    obtain ⟨st, hst⟩ : ∃ y, y = strOf l := ⟨_, rfl⟩
    obtain ⟨nl, hnl⟩ : ∃ y, y = l.length := ⟨_, rfl⟩
    rw [← hst, ← hnl] at HV7 HV10 HV12
    rw [← hnl] at e7 e10 e12
    subst e7 e10 e12
    have HSt := hid hst
    have HNl := hid hnl
    clear hv7 hv10 hv12 hst hnl HC5 HC6 HC7 HC8
    go_upto_region 13 with (first
      | (refine conv_G (by rfl) 29 9 _ rfl _ _ _ rfl HV7.out ?_)
      | (refine conv_G (by rfl) 29 9 _ rfl _ _ _ rfl HV10.out ?_)
      | (refine conv_G (by rfl) 29 9 _ rfl _ _ _ rfl HV12.out ?_)
      | fail)
    as_aux_lemma =>
      have hTu := turn_any L gN (m + 3) hs w2 w8 (HL4.out.lr.call HC48.out) (few_sum HFw.out).1 (few_data HFw.out)
      rw [← HM.out] at hTu
      go_upto_region 14 with (first
        | (go_at_call 13; go_must (refine hTu.mono ?_; rintro e w9 ⟨rfl, hl9, hc9⟩; have HL9 := hid hl9; have HC9 := hid hc9; clear hl9 hc9))
        | fail)
      have hlow : ∀ k, LBlk gN hs k → w2.heap.size ≤ k ∧ k < w4.heap.size := fun k hk => blk_low HL4.out.lr hk
      have HA7b := hid (HA7.out.keep HC9.out (fun k e hk => by have := (HA7.out.blk e).1; have := (hlow k hk).2; omega))
      have HA10b := hid (HA10.out.keep HC9.out (fun k e hk => by have := (HA10.out.blk e).1; have := (hlow k hk).2; omega))
      have HA12b := hid (HB12.out.keep HC9.out (fun k e hk => by have := (HB12.out.blk e).1; have := (hlow k hk).2; omega))
      have HCw9 : Hid (Chg w w9 No) := hid ((HC4.out.tr HC48.out).trans HC9.out (fun _ _ e => e) (fun k hk e => by have := (hlow k e).1; have := HS2.out; omega))
      have s89 := HC9.out.size
      have HLm : Hid ((L.map turnN).length = m) := hid (by rw [List.length_map, HM.out])
      have HLh2 : Hid (hs.length = (L.map turnN).length) := hid (by rw [List.length_map]; exact HLh.out)
      have HLn2 : Hid ((List.zipWith lentN (L.map turnN) hs).length = m) := hid (by rw [lentL_len HLh2.out, HLm.out])
      have HBt : Hid (∀ W, Chg w9 W No → Calls Try.prog 10 #[.slice (some ⟨gN, 0, none⟩) m (m + 3)] W fun e w' => ∃ v, e = .returned (.tuple #[v, .int .i64 (bytesE (L.map turnN))]) ∧ BOw w' W.heap.size v (bytesL (L.map turnN)) ∧ Chg W w' No) := hid (fun W hW => by
        have := bytes_r (List.zipWith lentN (L.map turnN) hs) (some ⟨gN, 0, none⟩) (m + 3) W (HL9.out.call hW).nat (lent_i64 HLh2.out (fun i hi => by
          rw [List.length_map] at hi
          rw [map_getD hi]
          exact turn_i64 (HI.out i hi).1)) (by rw [HLn2.out]; omega)
        rw [HLn2.out, bytesE_lent HLh2.out, bytesL_lent HLh2.out] at this
        exact this)
      have HRt : Hid (∀ W, Chg w9 W No → Calls Try.prog 12 #[.slice (some ⟨gN, 0, none⟩) m (m + 3)] W fun e w' => ∃ v, e = .returned (.tuple #[v, .int .i64 (bytesE (L.map turnN))]) ∧ BOw w' W.heap.size v (bytesL (L.map turnN)) ∧ Chg W w' No) := hid (fun W hW => by
        have := rbytes_r (List.zipWith lentN (L.map turnN) hs) (some ⟨gN, 0, none⟩) (m + 3) W (HL9.out.call hW).nat (by rw [HLn2.out]; omega)
        rw [HLn2.out, bytesE_lent HLh2.out, bytesL_lent HLh2.out] at this
        exact this)
      obtain ⟨E2, hE2⟩ : ∃ y, y = bytesE (L.map turnN) := ⟨_, rfl⟩
      obtain ⟨l2, hl2⟩ : ∃ y, y = bytesL (L.map turnN) := ⟨_, rfl⟩
      rw [← hE2, ← hl2] at HBt HRt
      have hB3 := HBt.out w9 (Chg.refl _ _)
      clear hTu HL4 HV7 HV10 HV12 hlow HC9 HC48 hE2 hl2
      go_upto_region 15 with (first
        | (go_at_call 10; go_must (refine hB3.mono ?_; rintro e w10 ⟨v14, rfl, hb10, hc10⟩; have HB14 := hid hb10; have HC10 := hid hc10; clear hb10 hc10))
        | fail)
      have hR2 := HRt.out w10 HC10.out
      clear hB3 HBt
      go_upto_region 16 with (first
        | (go_at_call 12; go_must (refine hR2.mono ?_; rintro e w11 ⟨v16, rfl, hb11, hc11⟩; have HB16 := hid hb11; have HC11 := hid hc11; clear hb11 hc11))
        | fail)
      clear hR2 HRt
      have s910 := HC10.out.size
      have s1011 := HC11.out.size
      have HC911 := hid (HC10.out.tr HC11.out)
      have HF4 : Hid (F4 w4.heap.size w11 (.slice a7 nl c7) (.slice a10 nl c10) v14 v16 l l l2) := hid ⟨HA7b.out.call HC911.out, (HA10b.out.call HC911.out).lower (by omega), (HB14.out.call HC11.out).lower (by omega), HB16.out.lower (by omega), Hab.out, HA7.out.ap (by omega) HB14.out, HA7.out.ap (by omega) HB16.out, HA10.out.ap (by omega) HB14.out, HA10.out.ap (by omega) HB16.out⟩
      have HW7 : Hid ((convert 29 9 (.slice a7 nl c7)).run Try.prog w11 = .ok (.string st) w11) := hid (by
        obtain ⟨a', c', e', hv'⟩ := HF4.out.a.one
        rw [← HNl.out] at e'
        cases e'
        have := conv_at hv' c7
        rw [← HNl.out, ← HSt.out] at this
        exact this)
      have HW10 : Hid ((convert 29 9 (.slice a10 nl c10)).run Try.prog w11 = .ok (.string st) w11) := hid (by
        obtain ⟨a', c', e', hv'⟩ := HF4.out.b.one
        rw [← HNl.out] at e'
        cases e'
        have := conv_at hv' c10
        rw [← HNl.out, ← HSt.out] at this
        exact this)
      have HW12 : Hid ((convert 29 9 (.slice a12 nl c12)).run Try.prog w11 = .ok (.string st) w11) := hid (by
        obtain ⟨a', c', e', hv'⟩ := (HA12b.out.call HC911.out).one
        rw [← HNl.out] at e'
        cases e'
        have := conv_at hv' c12
        rw [← HNl.out, ← HSt.out] at this
        exact this)
      obtain ⟨a14, c14, e14, hv14⟩ := HF4.out.c.one
      obtain ⟨a16, c16, e16, hv16⟩ := HF4.out.d.one
      have HW14 := hid (conv_at hv14 c14)
      have HW16 := hid (conv_at hv16 c16)
      obtain ⟨st2, hst2⟩ : ∃ y, y = strOf l2 := ⟨_, rfl⟩
      obtain ⟨nl2, hnl2⟩ : ∃ y, y = l2.length := ⟨_, rfl⟩
      rw [← hst2, ← hnl2] at HW14 HW16
      rw [← hnl2] at e14 e16
      subst e14 e16
      have HSt2 := hid hst2
      have HNl2 := hid hnl2
      have HCw : Hid (Chg w w11 No) := hid (HCw9.out.tr HC911.out)
      have HSz : Hid (w4.heap.size ≤ w11.heap.size) := hid (by omega)
      have HSw : Hid (w.heap.size ≤ w4.heap.size) := hid HC4.out.size
      have hnb : nl ≤ 700000000 := by rw [HNl.out]; exact HLl.out
      clear hv14 hv16 hst2 hnl2 HA7b HA10b HA12b HB14 HB16 HC10 HC11 HC911 HCw9 HL9 HA7 HA10 HB12 HB7 HB10 HG4 s45 s56 s67 s78 s89 s910 s1011 HC4
      go_upto_region 18 with (first
        | (refine conv_G (by rfl) 29 9 _ rfl _ _ _ rfl HW7.out ?_)
        | (refine conv_G (by rfl) 29 9 _ rfl _ _ _ rfl HW10.out ?_)
        | (refine conv_G (by rfl) 29 9 _ rfl _ _ _ rfl HW12.out ?_)
        | (refine conv_G (by rfl) 29 9 _ rfl _ _ _ rfl HW14.out ?_)
        | (refine conv_G (by rfl) 29 9 _ rfl _ _ _ rfl HW16.out ?_)
        | fail)
      clear HW7 HW10 HW12 HW14 HW16
      as_aux_lemma =>
        go_wp2_with fail
        go_loopw [18] (fun x wr => ∃ i : Nat, x = .int .i64 (i : Int) ∧ i ≤ nl ∧ Hid (F4 w4.heap.size wr (.slice a7 nl c7) (.slice a10 nl c10) (.slice a14 nl2 c14) (.slice a16 nl2 c16) (ones 1 l i) l l2) ∧ Hid (Chg w wr No) ∧ Hid (w4.heap.size ≤ wr.heap.size)) (fun x _ => nl - (intOf x).toNat)
        case atStart => exact ⟨0, rfl, Nat.zero_le _, hid (by unfold ones; simpa using HF4.out), HCw, HSz⟩
        case round =>
          as_aux_lemma =>
            obtain ⟨i, rfl, hi, HQ, HCq, HSq⟩ := hrel
            clear HF4 HCw HSz
            by_cases e : i = nl
            · have HQ2 : Hid (F4 w4.heap.size wr (.slice a7 nl c7) (.slice a10 nl c10) (.slice a14 nl2 c14) (.slice a16 nl2 c16) (List.replicate nl 1) l l2) := hid (by have := HQ.out; rw [e, HNl.out, ones_all, ← HNl.out] at this; exact this)
              have e := e.symm
              subst e
              clear HQ
              obtain ⟨wb, hwb⟩ : ∃ y, y = wr := ⟨_, rfl⟩
              rw [← hwb] at HQ2 HCq HSq ⊢
              clear hwb hi
              go_wp2_with fail
              have HF4 := HQ2
              have HCw := HCq
              have HSz := HSq
              clear HQ2 HCq HSq
              go_loopw [19] (fun x wr => ∃ i : Nat, x = .int .i64 (i : Int) ∧ i ≤ nl ∧ Hid (F4 w4.heap.size wr (.slice a7 nl c7) (.slice a10 nl c10) (.slice a14 nl2 c14) (.slice a16 nl2 c16) (List.replicate nl 1) (ones 2 l i) l2) ∧ Hid (Chg w wr No) ∧ Hid (w4.heap.size ≤ wr.heap.size)) (fun x _ => nl - (intOf x).toNat)
              case atStart => exact ⟨0, rfl, Nat.zero_le _, hid (by unfold ones; simpa using HF4.out), HCw, HSz⟩
              case round =>
                as_aux_lemma =>
                  obtain ⟨i, rfl, hi, HQ, HCq, HSq⟩ := hrel
                  clear HF4 HCw HSz
                  by_cases e : i = nl
                  · have HQ2 : Hid (F4 w4.heap.size wr (.slice a7 nl c7) (.slice a10 nl c10) (.slice a14 nl2 c14) (.slice a16 nl2 c16) (List.replicate nl 1) (List.replicate nl 2) l2) := hid (by have := HQ.out; rw [e, HNl.out, ones_all, ← HNl.out] at this; exact this)
                    have e := e.symm
                    subst e
                    clear HQ
                    obtain ⟨wb, hwb⟩ : ∃ y, y = wr := ⟨_, rfl⟩
                    rw [← hwb] at HQ2 HCq HSq ⊢
                    clear hwb hi
                    go_wp2_with fail
                    have HF4 := HQ2
                    have HCw := HCq
                    have HSz := HSq
                    clear HQ2 HCq HSq
                    go_loopw [7, 20] (fun xv x wr => ∃ j : Nat, x = .int .i64 (j : Int) ∧ j ≤ 40 ∧ Hid (F4 w4.heap.size wr xv (.slice a10 nl c10) (.slice a14 nl2 c14) (.slice a16 nl2 c16) (List.replicate (nl + j) 1) (List.replicate nl 2) l2) ∧ Hid (Chg w wr No) ∧ Hid (w4.heap.size ≤ wr.heap.size)) (fun _ x _ => 40 - (intOf x).toNat)
                    case atStart => exact ⟨0, rfl, Nat.zero_le _, HF4, HCw, HSz⟩
                    case round =>
                      as_aux_lemma =>
                        obtain ⟨j, rfl, hj, HQ, HCq, HSq⟩ := hrel
                        clear HF4 HCw HSz
                        by_cases e : j = 40
                        · subst e
                          obtain ⟨wb, hwb⟩ : ∃ y, y = wr := ⟨_, rfl⟩
                          rw [← hwb] at HQ HCq HSq ⊢
                          clear hwb hj
                          go_wp2_with fail
                          have HF4 := HQ
                          have HCw := HCq
                          have HSz := HSq
                          clear HQ HCq HSq
                          go_loopw [10, 21] (fun xv x wr => ∃ j : Nat, x = .int .i64 (j : Int) ∧ j ≤ 40 ∧ Hid (F4 w4.heap.size wr u7 xv (.slice a14 nl2 c14) (.slice a16 nl2 c16) (List.replicate (nl + 40) 1) (List.replicate (nl + j) 2) l2) ∧ Hid (Chg w wr No) ∧ Hid (w4.heap.size ≤ wr.heap.size)) (fun _ x _ => 40 - (intOf x).toNat)
                          case atStart => exact ⟨0, rfl, Nat.zero_le _, HF4, HCw, HSz⟩
                          case round =>
                            as_aux_lemma =>
                              obtain ⟨j, rfl, hj, HQ, HCq, HSq⟩ := hrel
                              clear HF4 HCw HSz
                              by_cases e : j = 40
                              · subst e
                                obtain ⟨wb, hwb⟩ : ∃ y, y = wr := ⟨_, rfl⟩
                                rw [← hwb] at HQ HCq HSq ⊢
                                clear hwb hj
                                go_wp2_with fail
                                have HF4 := HQ
                                have HCw := HCq
                                have HSz := HSq
                                clear HQ HCq HSq
                                obtain ⟨ga, cA, ea, hca, _⟩ := HF4.out.a.some (by rw [List.length_replicate]; omega)
                                obtain ⟨gb, cB, eb, hcb, _⟩ := HF4.out.b.some (by rw [List.length_replicate]; omega)
                                rw [List.length_replicate] at ea eb
                                subst ea eb
                                have HCa : Hid (∀ k, k < nl + 40 → wb.cell? ⟨ga, k, none⟩ = some (.int .u8 1)) := hid (fun k hk => by
                                  rw [hca k (by rw [List.length_replicate]; exact hk)]
                                  simp [hk])
                                have HCb : Hid (∀ k, k < nl + 40 → wb.cell? ⟨gb, k, none⟩ = some (.int .u8 2)) := hid (fun k hk => by
                                  rw [hcb k (by rw [List.length_replicate]; exact hk)]
                                  simp [hk])
                                have HW14 : Hid ((convert 29 9 (.slice a14 nl2 c14)).run Try.prog wb = .ok (.string st2) wb) := hid (by
                                  obtain ⟨a', c', e', hv'⟩ := HF4.out.c.one
                                  rw [← HNl2.out] at e'
                                  cases e'
                                  have := conv_at hv' c14
                                  rw [← HNl2.out, ← HSt2.out] at this
                                  exact this)
                                have HW16 : Hid ((convert 29 9 (.slice a16 nl2 c16)).run Try.prog wb = .ok (.string st2) wb) := hid (by
                                  obtain ⟨a', c', e', hv'⟩ := HF4.out.d.one
                                  rw [← HNl2.out] at e'
                                  cases e'
                                  have := conv_at hv' c16
                                  rw [← HNl2.out, ← HSt2.out] at this
                                  exact this)
                                clear hca hcb HF4
                                go_loopw [22] (fun x wr => ∃ i : Nat, x = .int .i64 (i : Int) ∧ i ≤ nl + 40 ∧ wr = wb) (fun x _ => (nl + 40) - (intOf x).toNat)
                                case atStart => exact ⟨0, rfl, Nat.zero_le _, rfl⟩
                                case round =>
                                  as_aux_lemma =>
                                    obtain ⟨i, rfl, hi, hwr⟩ := hrel
                                    have hwr := hwr.symm
                                    subst hwr
                                    by_cases e : i = nl + 40
                                    · subst e
                                      go_wp2_with (first
                                        | (refine conv_G (by rfl) 29 9 _ rfl _ _ _ rfl HW14.out ?_)
                                        | (refine conv_G (by rfl) 29 9 _ rfl _ _ _ rfl HW16.out ?_)
                                        | fail)
                                      go_ret
                                      exact ⟨rfl, HCw.out.below⟩
                                    · have f2 : (i : Int) < (nl : Int) + 40 := by omega
                                      have ca := HCa.out i (by omega)
                                      have cb := HCb.out i (by omega)
                                      go_wp2_with fail
                                      exact ⟨⟨i + 1, by go_num, by omega, trivial⟩, by simp [intOf]; omega⟩
                              · have f2 : (j : Int) < 40 := by omega
                                have HQa : Hid (∀ X, F4 w4.heap.size (wr.alloc (.cells X 5)) u7 u10 (.slice a14 nl2 c14) (.slice a16 nl2 c16) (List.replicate (nl + 40) 1) (List.replicate (nl + j) 2) l2) := hid (fun X => HQ.out.call (Chg.alloc _ _ No))
                                go_wp2_with (first
                                  | (refine wp_app8 rfl _ _ rfl w4.heap.size wr.heap.size 1 u10 (List.replicate (nl + j) 2) 2 rfl rfl (HQa.out _).swap.a ((cell_of_row _ _ _ _ _ _ (heap_alloc_new _ _)).trans rfl) (by rw [List.length_replicate]; omega) (by have := HSq.out; simp; omega) ?_; intro v' w' h1 h2 h3; rw [rep_more] at h1; have H1 := hid ((HQa.out _).swap.appA h1 h2 h3); have H2 := hid h2; clear h1 h2 h3)
                                  | fail)
                                have hrelF := hid H1.out.swap
                                have hrelC : Hid (Chg w w' No) := hid ((HCq.out.tr (Chg.alloc _ _ No)).trans H2.out (fun _ _ e => e) (fun k hk e => by have := (HQ.out.swap.a.blk e).1; have := HSw.out; omega))
                                have hrelS : Hid (w4.heap.size ≤ w'.heap.size) := hid (by have h1 := HSq.out; have h2 := H2.out.size; simp at h2; omega)
                                first
                                  | exact ⟨⟨j + 1, by go_num, by omega, hrelF, hrelC, hrelS⟩, by simp [intOf]; omega⟩
                                  | exact ⟨⟨_, j + 1, by go_num, by omega, hrelF, hrelC, hrelS⟩, by simp [intOf]; omega⟩
                                  | exact ⟨⟨_, _, ⟨j + 1, by go_num, by omega, hrelF, hrelC, hrelS⟩, rfl⟩, by simp [intOf]; omega⟩
                                  | exact ⟨⟨_, ⟨j + 1, by go_num, by omega, hrelF, hrelC, hrelS⟩, rfl⟩, by simp [intOf]; omega⟩
                                  | exact ⟨⟨_, _, _, _, _, _, _, _, _, ⟨j + 1, by go_num, by omega, hrelF, hrelC, hrelS⟩, rfl⟩, by simp [intOf]; omega⟩
                                  | (go_roundw; (case rel => exact ⟨j + 1, by go_num, by omega, hrelF, hrelC, hrelS⟩); (case measure => simp [intOf]; omega))
                                  | (trace_state; sorry)
                        · have f2 : (j : Int) < 40 := by omega
                          have HQa : Hid (∀ X, F4 w4.heap.size (wr.alloc (.cells X 5)) u7 (.slice a10 nl c10) (.slice a14 nl2 c14) (.slice a16 nl2 c16) (List.replicate (nl + j) 1) (List.replicate nl 2) l2) := hid (fun X => HQ.out.call (Chg.alloc _ _ No))
                          go_wp2_with (first
                            | (refine wp_app8 rfl _ _ rfl w4.heap.size wr.heap.size 1 u7 (List.replicate (nl + j) 1) 1 rfl rfl (HQa.out _).a ((cell_of_row _ _ _ _ _ _ (heap_alloc_new _ _)).trans rfl) (by rw [List.length_replicate]; omega) (by have := HSq.out; simp; omega) ?_; intro v' w' h1 h2 h3; rw [rep_more] at h1; have H1 := hid ((HQa.out _).appA h1 h2 h3); have H2 := hid h2; clear h1 h2 h3)
                            | fail)
                          have hrelF := hid H1.out
                          have hrelC : Hid (Chg w w' No) := hid ((HCq.out.tr (Chg.alloc _ _ No)).trans H2.out (fun _ _ e => e) (fun k hk e => by have := (HQ.out.a.blk e).1; have := HSw.out; omega))
                          have hrelS : Hid (w4.heap.size ≤ w'.heap.size) := hid (by have h1 := HSq.out; have h2 := H2.out.size; simp at h2; omega)
                          first
                            | exact ⟨⟨j + 1, by go_num, by omega, hrelF, hrelC, hrelS⟩, by simp [intOf]; omega⟩
                            | exact ⟨⟨_, j + 1, by go_num, by omega, hrelF, hrelC, hrelS⟩, by simp [intOf]; omega⟩
                            | exact ⟨⟨_, _, ⟨j + 1, by go_num, by omega, hrelF, hrelC, hrelS⟩, rfl⟩, by simp [intOf]; omega⟩
                            | exact ⟨⟨_, ⟨j + 1, by go_num, by omega, hrelF, hrelC, hrelS⟩, rfl⟩, by simp [intOf]; omega⟩
                            | exact ⟨⟨_, _, _, _, _, _, _, _, _, ⟨j + 1, by go_num, by omega, hrelF, hrelC, hrelS⟩, rfl⟩, by simp [intOf]; omega⟩
                            | (go_roundw; (case rel => exact ⟨j + 1, by go_num, by omega, hrelF, hrelC, hrelS⟩); (case measure => simp [intOf]; omega))
                            | (trace_state; sorry)
                  · have f2 : (i : Int) < (nl : Int) := by omega
                    have hol : (ones 2 l i).length = nl := by rw [ones_len _ _ (by rw [← HNl.out]; exact hi), ← HNl.out]
                    have hQs := HQ.out.swap
                    obtain ⟨g, cp, eg, hcell, hfz⟩ := hQs.a.some (by rw [hol]; omega)
                    rw [hol] at eg
                    cases eg
                    have cc := hcell i (by rw [hol]; omega)
                    have ff := hfz i
                    have HSt1 := hid (hQs.setA i 2)
                    have HSg : Hid (w4.heap.size ≤ g) := hid (hQs.a.blk rfl).1
                    rw [ones_set _ _ (by rw [← HNl.out]; omega)] at HSt1
                    clear hcell hfz HQ hQs hol
                    go_wp2_with fail
                    exact ⟨⟨i + 1, by go_num, by omega, hid HSt1.out.swap, hid (HCq.out.trans Chg.setCell (fun _ _ e => e) (fun k hk e => by have := HSg.out; have := HSw.out; omega)), hid (by have := HSq.out; simpa [World.setCell] using this)⟩, by simp [intOf]; omega⟩
            · have f2 : (i : Int) < (nl : Int) := by omega
              have hol : (ones 1 l i).length = nl := by rw [ones_len _ _ (by rw [← HNl.out]; exact hi), ← HNl.out]
              have hQs := HQ.out
              obtain ⟨g, cp, eg, hcell, hfz⟩ := hQs.a.some (by rw [hol]; omega)
              rw [hol] at eg
              cases eg
              have cc := hcell i (by rw [hol]; omega)
              have ff := hfz i
              have HSt1 := hid (hQs.setA i 1)
              have HSg : Hid (w4.heap.size ≤ g) := hid (hQs.a.blk rfl).1
              rw [ones_set _ _ (by rw [← HNl.out]; omega)] at HSt1
              clear hcell hfz HQ hQs hol
              go_wp2_with fail
              exact ⟨⟨i + 1, by go_num, by omega, hid HSt1.out, hid (HCq.out.trans Chg.setCell (fun _ _ e => e) (fun k hk e => by have := HSg.out; have := HSw.out; omega)), hid (by have := HSq.out; simpa [World.setCell] using this)⟩, by simp [intOf]; omega⟩
end Go.Proofs.Ytiakfgplhdbaeaa
