/-
  DiskFroms returns true: the walk.
-/
import Derived.Test.YtcgchdcbbiahnaaLawRep
namespace Go.Proofs.Ytcgchdcbbiahnaa
open Go.RowKit

set_option maxRecDepth 100000 in
set_option maxHeartbeats 4000000 in
theorem froms_long (m : Nat) (a : Option Addr) (cap : Nat) (w : World) (h : ¬ m ≤ 5000) : Calls Try.prog 4 #[.slice a m cap] w fun e w' => e = .returned (.bool true) ∧ Below w.heap.size w w' := by
  have HF := hid fun w => fits_any m cap a w
  rw [decide_eq_false h] at HF
  clear h
  go_enter Try.func4, Try.ntmps4
  go_wp2_with (first | (go_at_call 9; refine (awake_any _).mono ?_; rintro e w1 ⟨rfl, hb1⟩; have HB1 := hid hb1; clear hb1) | (go_at_call 18; refine (HF.out _).mono ?_; rintro e w2 ⟨rfl, rfl⟩))
  go_ret
  exact ⟨rfl, HB1.out⟩

set_option maxRecDepth 100000 in
set_option maxHeartbeats 4000000 in
theorem froms_bad (im : List (List Int)) (m : Nat) (hm : Hid (im.length = m)) (a : Option Addr) (cap : Nat) (w : World) (h5 : m ≤ 5000) (hbad : ¬ (1 ≤ (m : Int) ∧ (m : Int) ≤ 4096)) (HI : Hid (ImgAt w a im)) : Calls Try.prog 4 #[.slice a m cap] w fun e w' => e = .returned (.bool true) ∧ Below w.heap.size w w' := by
  have HF := hid fun w => fits_any m cap a w
  rw [decide_eq_true (show m ≤ 5000 by omega)] at HF
  have HLD := hid fun w h => llaid_any im m hm (by omega) a cap w h
  have HSP := hid (laid_split im)
  have HSL := hid (flat_len (secs_all im))
  rw [secs_len, hm.out] at HSL
  have HML := hid (flat_len marks_all)
  rw [show marks.length = 3 from rfl] at HML
  rw [HSP.out] at HLD
  generalize flat (secs im) = F at *
  generalize flat marks = MM at *
  have HFM : Hid ((F ++ MM).length = 128 * (m + 3)) := by show _ = _; rw [List.length_append, HSL.out, HML.out]; omega
  have HBD3 : Hid (128 * (m + 3) ≤ 140737488355328) := by show _ ≤ _; omega
  have hm3 : (m : Int) ≤ (m : Int) + 3 := by omega
  have HFb := hid fun cp ad w => from_bad m cp ad w hbad
  have HRb := hid fun cp ad w => rfrom_bad m cp ad w hbad
  clear hbad
  go_enter Try.func4, Try.ntmps4
  go_wp2_with (first | (go_at_call 9; refine (awake_any _).mono ?_; rintro e w1 ⟨rfl, hb1⟩; have HB1 := hid hb1; clear hb1) | (go_at_call 18; refine (HF.out _).mono ?_; rintro e w2 ⟨rfl, rfl⟩) | (go_at_call 19; refine (HLD.out _ (HI.out.below HB2.out)).mono ?_; rintro e w3 ⟨g2, rfl, hg2, hr2, hb3⟩; have HB3 := hid (HB2.out.trans (hb3.mono HB2.out.size)); have HR3 := hid ((hb3.block g1 (slt HR2.out)).trans HR2.out); have HS3 := hid hr2; have HO2 := hid (Nat.lt_of_lt_of_le (slt HR2.out) hg2); clear hg2 hr2 hb3) | (go_at_call 19; refine (HLD.out _ (HI.out.below HB1.out)).mono ?_; rintro e w2 ⟨g1, rfl, hg1, hr1, hb2⟩; have HB2 := hid (HB1.out.trans (hb2.mono HB1.out.size)); have HR2 := hid hr1; have HO1 := hid (Nat.le_trans HB1.out.size hg1); clear hg1 hr1 hb2) | (go_at_call 20; refine (HFb.out _ _ _).mono ?_; rintro e w4 ⟨rfl, rfl⟩) | (go_at_call 21; refine (HRb.out _ _ _).mono ?_; rintro e w4 ⟨rfl, rfl⟩) | (go_at_call 13; refine (same_any (F ++ MM) (m + 3) _ _ _ _ _ HFM.out HBD3.out (row_bytes HR3.out) (row_bytes HS3.out)).mono ?_; rintro e w4 ⟨rfl, j4, rfl⟩; have HB4 := hid (HB3.out.trans (below_drewN _ _ j4))))
  go_ret
  exact ⟨rfl, HB4.out⟩

set_option maxRecDepth 100000 in
set_option maxHeartbeats 8000000 in
theorem froms_some (im : List (List Int)) (m : Nat) (hm : Hid (im.length = m)) (a : Option Addr) (cap : Nat) (w : World) (h0 : 1 ≤ m) (h1 : m ≤ 4096) (HI : Hid (ImgAt w a im)) : Calls Try.prog 4 #[.slice a m cap] w fun e w' => e = .returned (.bool true) ∧ Below w.heap.size w w' := by
  have hgd := guard_sec
  have hcv := conv_same
  have HF := hid fun w => fits_any m cap a w
  rw [decide_eq_true (show m ≤ 5000 by omega)] at HF
  have HLD := hid fun w h => llaid_any im m hm (by omega) a cap w h
  have HSP := hid (laid_split im)
  have HSL := hid (flat_len (secs_all im))
  rw [secs_len, hm.out] at HSL
  have HML := hid (flat_len marks_all)
  rw [show marks.length = 3 from rfl] at HML
  rw [HSP.out] at HLD
  generalize flat (secs im) = F at *
  generalize flat marks = MM at *
  have HFM : Hid ((F ++ MM).length = 128 * (m + 3)) := by show _ = _; rw [List.length_append, HSL.out, HML.out]; omega
  have HBD3 : Hid (128 * (m + 3) ≤ 140737488355328) := by show _ ≤ _; omega
  have hm3 : (m : Int) ≤ (m : Int) + 3 := by omega
  have HBD : Hid (128 * m ≤ 140737488355328) := by show _ ≤ _; omega
  have HOO := hid fun g w h => of_any [111, 116, 104, 101, 114] 5 rfl (some ⟨g, 0, none⟩) 5 w h
  have hOl := ofS_len [111, 116, 104, 101, 114]
  generalize ofS [111, 116, 104, 101, 114] = OO at *
  have HO1f := hid fun g w h => of_any [111, 110, 101] 3 rfl (some ⟨g, 0, none⟩) 3 w h
  have hAl := ofS_len [111, 110, 101]
  generalize ofS [111, 110, 101] = A1 at *
  have HO2f := hid fun g w h => of_any [116, 119, 111] 3 rfl (some ⟨g, 0, none⟩) 3 w h
  have hBl := ofS_len [116, 119, 111]
  generalize ofS [116, 119, 111] = A2 at *
  go_enter Try.func4, Try.ntmps4
  go_wp2_with (first | (go_at_call 9; refine (awake_any _).mono ?_; rintro e w1 ⟨rfl, hb1⟩; have HB1 := hid hb1; clear hb1) | (go_at_call 18; refine (HF.out _).mono ?_; rintro e w2 ⟨rfl, rfl⟩) | (go_at_call 13; refine (same_any (F ++ MM) (m + 3) _ _ _ _ _ HFM.out HBD3.out (row_bytes HR5.out) (row_bytes (t := 41) (HH5.out.get (g := g2) (by simp)))).mono ?_; rintro e w6 ⟨rfl, j6, rfl⟩; have HH6 : Hid (HB w [(g1, Obj.cells (SA (F ++ MM)) 41 (0, 0)), (p, Obj.cells (DC g m 0 false false 0) 72 (0, 0)), (g, Obj.cells (SA F) 41 (0, 0)), (g2, Obj.cells (SA (F ++ MM)) 41 (0, 0))] (w5.drewN j6)) := hid (HB.more (HH5.out.drewN (n := j6)) HR5.out)) | (go_at_call 21; refine (rfrom_ok m _ _ _ F _ h0 h1 HSL (row_pre (t := 41) (c := MM) (HH4.out.get (g := g2) (by simp)))).mono ?_; rintro e w5 ⟨r, k, rfl, _, _, _, hb5⟩; have HH5 := hid (HH4.out.call hb5); have HR5 := hid ((hb5.block g1 (slt HR4.out)).trans HR4.out); clear hb5) | (go_at_call 20; refine (from_ok m _ _ F _ h0 h1 HSL (row_pre HR3.out)).mono ?_; rintro e w4 ⟨p, g, rfl, hp0, hg0, hd4, hb4⟩; have HH4 : Hid (HB w [(p, Obj.cells (DC g m 0 false false 0) 72 (0, 0)), (g, Obj.cells (SA F) 41 (0, 0)), (g2, Obj.cells (SA (F ++ MM)) 41 (0, 0))] w4) := hid ⟨by simpa using ⟨hd4.me, hd4.row, (hb4.block g2 (slt HS3.out)).trans HS3.out⟩, by simpa using ⟨slt hd4.me, slt hd4.row, Nat.lt_of_lt_of_le (slt HS3.out) hb4.size⟩, HB3.out.trans (hb4.mono HB3.out.size)⟩; have HR4 := hid ((hb4.block g1 (slt HR3.out)).trans HR3.out); have HO4 : Hid (g1 < p ∧ g1 < g ∧ g2 < p ∧ g2 < g) := hid ⟨Nat.lt_of_lt_of_le (slt HR3.out) hp0, Nat.lt_of_lt_of_le (slt HR3.out) hg0, Nat.lt_of_lt_of_le (slt HS3.out) hp0, Nat.lt_of_lt_of_le (slt HS3.out) hg0⟩; clear hp0 hg0 hd4 hb4) | (go_at_call 19; refine (HLD.out _ (HI.out.below HB2.out)).mono ?_; rintro e w3 ⟨g2, rfl, hg2, hr2, hb3⟩; have HB3 := hid (HB2.out.trans (hb3.mono HB2.out.size)); have HR3 := hid ((hb3.block g1 (slt HR2.out)).trans HR2.out); have HS3 := hid hr2; have HO2 := hid (Nat.lt_of_lt_of_le (slt HR2.out) hg2); clear hg2 hr2 hb3) | (go_at_call 19; refine (HLD.out _ (HI.out.below HB1.out)).mono ?_; rintro e w2 ⟨g1, rfl, hg1, hr1, hb2⟩; have HB2 := hid (HB1.out.trans (hb2.mono HB1.out.size)); have HR2 := hid hr1; have HO1 := hid (Nat.le_trans HB1.out.size hg1); clear hg1 hr1 hb2))
  generalize w5.drewN j6 = w6 at *
  have HNg1 : Hid (∀ x, x ∈ [(p, Obj.cells (DC g m 0 false false 0) 72 (0, 0)), (g, Obj.cells (SA F) 41 (0, 0)), (g2, Obj.cells (SA (F ++ MM)) 41 (0, 0))] → x.1 ≠ g1) := by
    show ∀ x, x ∈ [(p, Obj.cells (DC g m 0 false false 0) 72 (0, 0)), (g, Obj.cells (SA F) 41 (0, 0)), (g2, Obj.cells (SA (F ++ MM)) 41 (0, 0))] → x.1 ≠ g1
    have := HO4.out
    have := HO2.out
    intro x hx
    simp only [List.mem_cons, List.not_mem_nil, or_false] at hx
    rcases hx with rfl | rfl | rfl <;> simp only <;> omega
  clear HB1 HB2 HB3 HR2 HR3 HS3 HH4 HR4 HH5 HR5
  go_loopw [12] (fun i wr => ∃ (j : Nat) (X : List Int), j ≤ m + 3 ∧ i = .int .i64 j ∧ Hid (X.length = 128 * (m + 3)) ∧ Hid (HB w [(g1, Obj.cells (SA X) 41 (0, 0)), (p, Obj.cells (DC g m 0 false false 0) 72 (0, 0)), (g, Obj.cells (SA F) 41 (0, 0)), (g2, Obj.cells (SA (F ++ MM)) 41 (0, 0))] wr)) (fun i _ => m + 3 - (intOf i).toNat)
  case atStart => exact ⟨0, _, by omega, rfl, HFM, HH6⟩
  case round =>
    clear HH6
    obtain ⟨j, X, hj, rfl, HX, HH⟩ := hrel
    by_cases hlt : j < m + 3
    · have hjl : (j : Int) < (m : Int) + 3 := by omega
      clear hlt
      go_wp2_with (first | (go_at_call 22; refine (HOO.out _ _ (row_bytesF (heap_alloc_new _ _))).mono ?_; rintro e w7 ⟨rfl, hb7⟩; have HH7 := hid (HH.out.call ((Below.refl_call wr _).trans (hb7.mono (by simp)))); clear hb7) | (refine store_mid rfl _ _ rfl g1 (j * 128) rfl OO rfl hOl 41 X (HH7.out.get (by simp)) (by rw [HX.out]; omega) ?_; intro w8 hw8; have HH8 := hid (HH7.out.wroteH hw8 HO1.out HNg1.out); clear hw8))
      exact ⟨⟨j + 1, _, by omega, by go_num, hid (by rw [over_len]; exact HX.out), HH8⟩, by simp [intOf]; omega⟩
    · clear hj
      have HHo := hid HH.out.tail
      clear HH HX
      go_wp2_with (first | (go_at_call 13; refine (same_any F m _ _ _ _ _ HSL.out HBD.out (row_bytes (t := 41) (HH8.out.get (g := qa) (by simp))) (row_pre (t := 41) (c := MM) (HH8.out.get (g := g2) (by simp)))).mono ?_; rintro e w9 ⟨rfl, j9, rfl⟩; have HH9 := hid (HH8.out.drewN (n := j9))) | (go_at_call 12; refine (image_any _ (isD_of (p := p) (g := g) HH7.out (by simp [DB]) HSL.out h0 h1)).mono ?_; rintro e w8 ⟨qb, rfl, hq0, hq1, hq2⟩; have HH8 := hid ((HH7.out.call hq2).more (show _ = some (Obj.cells (SA F) 41 (0, 0)) from hq1)); have HO6 := hid (Nat.lt_of_lt_of_le (HH7.out.low _ List.mem_cons_self) hq0); have HNqb : Hid (∀ x, x ∈ [(qa, Obj.cells (SA F) 41 (0, 0)), (p, Obj.cells (DC g m 0 false false 0) 72 (0, 0)), (g, Obj.cells (SA F) 41 (0, 0)), (g2, Obj.cells (SA (F ++ MM)) 41 (0, 0))] → x.1 < qb) := hid (fun x hx => Nat.lt_of_lt_of_le (HH7.out.low x hx) hq0); have HQB0 := hid (Nat.le_trans HH7.out.old.size hq0); clear hq0 hq1 hq2) | (go_at_call 12; refine (image_any _ (isD_of (p := p) (g := g) HHo.out (by simp [DB]) HSL.out h0 h1)).mono ?_; rintro e w7 ⟨qa, rfl, hq0, hq1, hq2⟩; have HH7 := hid ((HHo.out.call hq2).more (show _ = some (Obj.cells (SA F) 41 (0, 0)) from hq1)); have HNqa : Hid (∀ x, x ∈ [(p, Obj.cells (DC g m 0 false false 0) 72 (0, 0)), (g, Obj.cells (SA F) 41 (0, 0)), (g2, Obj.cells (SA (F ++ MM)) 41 (0, 0))] → x.1 < qa) := hid (fun x hx => Nat.lt_of_lt_of_le (HHo.out.low x hx) hq0); have HQA0 := hid (Nat.le_trans HHo.out.old.size hq0); clear hq0 hq1 hq2))
      generalize w8.drewN j9 = w9 at *
      clear HHo HH7 HH8
      have HH9b : Hid (HB w [(qa, Obj.cells (SA (mkS A1 F 0)) 41 (0, 0)), (qb, Obj.cells (SA F) 41 (0, 0)), (p, Obj.cells (DC g m 0 false false 0) 72 (0, 0)), (g, Obj.cells (SA F) 41 (0, 0)), (g2, Obj.cells (SA (F ++ MM)) 41 (0, 0))] w9) := by
        show HB w _ w9
        rw [mkS_zero]
        refine HH9.out.sub fun x hx => ?_
        simp only [List.mem_cons, List.not_mem_nil, or_false] at hx ⊢
        rcases hx with h | h | h | h | h <;> simp [h]
      have HNa : Hid (∀ x, x ∈ [(qb, Obj.cells (SA F) 41 (0, 0)), (p, Obj.cells (DC g m 0 false false 0) 72 (0, 0)), (g, Obj.cells (SA F) 41 (0, 0)), (g2, Obj.cells (SA (F ++ MM)) 41 (0, 0))] → x.1 ≠ qa) := by
        show ∀ x, x ∈ [(qb, Obj.cells (SA F) 41 (0, 0)), (p, Obj.cells (DC g m 0 false false 0) 72 (0, 0)), (g, Obj.cells (SA F) 41 (0, 0)), (g2, Obj.cells (SA (F ++ MM)) 41 (0, 0))] → x.1 ≠ qa
        intro x hx
        rcases List.mem_cons.1 hx with e | e
        · rw [e]; exact Nat.ne_of_gt HO6.out
        · exact Nat.ne_of_lt (HNqa.out x e)
      clear HH9
      go_loopw [16] (fun i wr => ∃ (j : Nat), j ≤ m ∧ i = .int .i64 j ∧ Hid (HB w [(qa, Obj.cells (SA (mkS A1 F j)) 41 (0, 0)), (qb, Obj.cells (SA F) 41 (0, 0)), (p, Obj.cells (DC g m 0 false false 0) 72 (0, 0)), (g, Obj.cells (SA F) 41 (0, 0)), (g2, Obj.cells (SA (F ++ MM)) 41 (0, 0))] wr)) (fun i _ => m - (intOf i).toNat)
      case atStart => exact ⟨0, by omega, rfl, HH9b⟩
      case round =>
        clear HH9b
        clear hlt
        obtain ⟨j, hj, rfl, HH⟩ := hrel
        by_cases hlt : j < m
        · have hjl : (j : Int) < (m : Int) := by omega
          have HST := hid (mkS_step hAl HSL.out hlt)
          have HLn := hid (mkS_len hAl HSL.out (Nat.le_of_lt hlt))
          clear hlt
          go_wp2_with (first | (go_at_call 22; refine (HO1f.out _ _ (row_bytesF (heap_alloc_new _ _))).mono ?_; rintro e w7 ⟨rfl, hb7⟩; have HH7 := hid (HH.out.call ((Below.refl_call wr _).trans (hb7.mono (by simp)))); clear hb7) | (refine store_mid rfl _ _ rfl qa (j * 128) rfl A1 rfl hAl 41 (mkS A1 F j) (HH7.out.get (by simp)) (by rw [HLn.out]; omega) ?_; intro w8 hw8; have HH8 := hid (HH7.out.wroteH hw8 HQA0.out HNa.out); clear hw8))
          rw [HST.out] at HH8
          exact ⟨⟨j + 1, by omega, by go_num, HH8⟩, by simp [intOf]; omega⟩
        · have e : j = m := by omega
          subst e
          clear hj
          rw [mkS_end HSL.out] at HH
          go_wp2_with (go_at_call 13; refine (same_any F j _ _ _ _ _ HSL.out HBD.out (row_bytes (t := 41) (HH.out.get (g := qb) (by simp))) (row_pre (t := 41) (c := MM) (HH.out.get (g := g2) (by simp)))).mono ?_; rintro e w9 ⟨rfl, j9, rfl⟩; have HH9 := hid (HH.out.drewN (n := j9)))
          generalize wr.drewN j9 = w9 at *
          clear HH HNa
          have HH9b : Hid (HB w [(qb, Obj.cells (SA (mkS A2 F 0)) 41 (0, 0)), (qa, Obj.cells (SA (repS j A1)) 41 (0, 0)), (p, Obj.cells (DC g j 0 false false 0) 72 (0, 0)), (g, Obj.cells (SA F) 41 (0, 0)), (g2, Obj.cells (SA (F ++ MM)) 41 (0, 0))] w9) := by
            show HB w _ w9
            rw [mkS_zero]
            refine HH9.out.sub fun x hx => ?_
            simp only [List.mem_cons, List.not_mem_nil, or_false] at hx ⊢
            rcases hx with h | h | h | h | h <;> simp [h]
          have HNb : Hid (∀ x, x ∈ [(qa, Obj.cells (SA (repS j A1)) 41 (0, 0)), (p, Obj.cells (DC g j 0 false false 0) 72 (0, 0)), (g, Obj.cells (SA F) 41 (0, 0)), (g2, Obj.cells (SA (F ++ MM)) 41 (0, 0))] → x.1 ≠ qb) := by
            show ∀ x, x ∈ [(qa, Obj.cells (SA (repS j A1)) 41 (0, 0)), (p, Obj.cells (DC g j 0 false false 0) 72 (0, 0)), (g, Obj.cells (SA F) 41 (0, 0)), (g2, Obj.cells (SA (F ++ MM)) 41 (0, 0))] → x.1 ≠ qb
            intro x hx
            rcases List.mem_cons.1 hx with e | e
            · rw [e]; exact Nat.ne_of_lt HO6.out
            · exact Nat.ne_of_lt (HNqb.out x (List.mem_cons_of_mem _ e))
          clear HH9
          go_loopw [18] (fun i wr => ∃ (t : Nat), t ≤ j ∧ i = .int .i64 t ∧ Hid (HB w [(qb, Obj.cells (SA (mkS A2 F t)) 41 (0, 0)), (qa, Obj.cells (SA (repS j A1)) 41 (0, 0)), (p, Obj.cells (DC g j 0 false false 0) 72 (0, 0)), (g, Obj.cells (SA F) 41 (0, 0)), (g2, Obj.cells (SA (F ++ MM)) 41 (0, 0))] wr)) (fun i _ => j - (intOf i).toNat)
          case atStart => exact ⟨0, by omega, rfl, HH9b⟩
          case round =>
            clear HH9b hlt
            obtain ⟨t, ht, rfl, HH⟩ := hrel
            by_cases hlt : t < j
            · have hjl : (t : Int) < (j : Int) := by omega
              have HST := hid (mkS_step hBl HSL.out hlt)
              have HLn := hid (mkS_len hBl HSL.out (Nat.le_of_lt hlt))
              clear hlt
              go_wp2_with (first | (go_at_call 22; refine (HO2f.out _ _ (row_bytesF (heap_alloc_new _ _))).mono ?_; rintro e w7 ⟨rfl, hb7⟩; have HH7 := hid (HH.out.call ((Below.refl_call wr _).trans (hb7.mono (by simp)))); clear hb7) | (refine store_mid rfl _ _ rfl qb (t * 128) rfl A2 rfl hBl 41 (mkS A2 F t) (HH7.out.get (by simp)) (by rw [HLn.out]; omega) ?_; intro w8 hw8; have HH8 := hid (HH7.out.wroteH hw8 HQB0.out HNb.out); clear hw8))
              rw [HST.out] at HH8
              exact ⟨⟨t + 1, by omega, by go_num, HH8⟩, by simp [intOf]; omega⟩
            · have e : t = j := by omega
              subst e
              clear ht
              rw [mkS_end HSL.out] at HH
              go_wp2_with fail
              have HOs : Hid (Own wr w.heap.size 41 128 (.slice (some ⟨qa, 0, none⟩) t t) (t + 0) (repS (t + 0) A1)) := own_row (HH.out.get (by simp)) HQA0.out (by rw [repS_len hAl]; omega) (by unfold maxLen; omega)
              have HHs : Hid (HB w [(qb, Obj.cells (SA (repS t A2)) 41 (0, 0)), (p, Obj.cells (DC g t 0 false false 0) 72 (0, 0)), (g, Obj.cells (SA F) 41 (0, 0)), (g2, Obj.cells (SA (F ++ MM)) 41 (0, 0))] wr) := by
                show HB w _ wr
                refine HH.out.sub fun x hx => ?_
                simp only [List.mem_cons, List.not_mem_nil, or_false] at hx ⊢
                rcases hx with h | h | h | h <;> simp [h]
              have HAs : Hid (Apart w [(qb, Obj.cells (SA (repS t A2)) 41 (0, 0)), (p, Obj.cells (DC g t 0 false false 0) 72 (0, 0)), (g, Obj.cells (SA F) 41 (0, 0)), (g2, Obj.cells (SA (F ++ MM)) 41 (0, 0))] (.slice (some ⟨qa, 0, none⟩) t t)) := by
                refine apart_row HQA0.out fun x hx => ?_
                rcases List.mem_cons.1 hx with e | e
                · rw [e]; exact Nat.ne_of_gt HO6.out
                · exact Nat.ne_of_lt (HNqa.out x e)
              clear HH HNb hlt
              go_loopw [13, 19] (fun v i wr => ∃ (n : Nat), n ≤ 8 ∧ i = .int .i64 n ∧ Hid (Own wr w.heap.size 41 128 v (t + n) (repS (t + n) A1)) ∧ Hid (Apart w [(qb, Obj.cells (SA (repS t A2)) 41 (0, 0)), (p, Obj.cells (DC g t 0 false false 0) 72 (0, 0)), (g, Obj.cells (SA F) 41 (0, 0)), (g2, Obj.cells (SA (F ++ MM)) 41 (0, 0))] v) ∧ Hid (HB w [(qb, Obj.cells (SA (repS t A2)) 41 (0, 0)), (p, Obj.cells (DC g t 0 false false 0) 72 (0, 0)), (g, Obj.cells (SA F) 41 (0, 0)), (g2, Obj.cells (SA (F ++ MM)) 41 (0, 0))] wr)) (fun _ i _ => 8 - (intOf i).toNat)
              case atStart => exact ⟨0, by omega, rfl, HOs, HAs, HHs⟩
              case round =>
                clear HOs HAs HHs
                obtain ⟨n, hn, rfl, HOn, HAp, HH⟩ := hrel
                by_cases hn8 : n < 8
                · have hnl : (n : Int) < 8 := by omega
                  have hbnd : (t + n + 1) * 128 ≤ 140737488355328 := by omega
                  clear hn8
                  go_wp2_with (first | (go_at_call 22; refine (HO1f.out _ _ (row_bytesF (heap_alloc_new _ _))).mono ?_; rintro e w7 ⟨rfl, hb7⟩; have hq7 := (Below.refl_call wr _).trans (hb7.mono (by simp)); have HO8 := hid ((HOn.out.call hq7).call (Below.refl_call w7 (.cells (SA A1) 41))); have HH8 := hid ((HH.out.call hq7).call (Below.refl_call w7 (.cells (SA A1) 41))); have hsz := HH8.out.old.size; clear hb7 hq7) | (refine slice_one rfl _ rfl A1 hAl rfl ?_) | (at_builtin; refine append_secs2 rfl _ _ rfl w.heap.size (t + n) 1 1 _ (repS (t + n) A1) A1 (some ⟨w7.heap.size, 0, none⟩) rfl rfl HO8.out hAl (row_bytes (heap_alloc_new _ _)) hbnd hsz ?_; intro v9 w9 hO9 hg9 hat9; rw [repS_succ] at hO9; have HO9 := hid hO9; have HH9 := hid (HH8.out.app hg9 HAp.out); have HA9 := hid (HAp.out.next HH8.out hat9); clear hO9 hg9 hat9))
                  exact ⟨⟨n + 1, by omega, by go_num, HO9, HA9, HH9⟩, by simp [intOf]; omega⟩
                · have e : n = 8 := by omega
                  subst e
                  clear hn
                  rw [show ((8 : Nat) : Int) = 8 from rfl]
                  obtain ⟨ga, ca, cura, rfl, hca, hga, hcea, HBYa⟩ := HOn.out.blk1 (show 0 < t + 8 by omega)
                  have HNga : Hid (∀ x, x ∈ [(qb, Obj.cells (SA (repS t A2)) 41 (0, 0)), (p, Obj.cells (DC g t 0 false false 0) 72 (0, 0)), (g, Obj.cells (SA F) 41 (0, 0)), (g2, Obj.cells (SA (F ++ MM)) 41 (0, 0))] → x.1 ≠ ga) := hid (HAp.out ga rfl).2
                  have HOs : Hid (Own wr w.heap.size 41 128 (.slice (some ⟨qb, 0, none⟩) t t) (t + 0) (repS (t + 0) A2)) := own_row (HH.out.get (by simp)) HQB0.out (by rw [repS_len hBl]; omega) (by unfold maxLen; omega)
                  have HHs : Hid (HB w [(ga, Obj.cells cura 41 (0, 0)), (p, Obj.cells (DC g t 0 false false 0) 72 (0, 0)), (g, Obj.cells (SA F) 41 (0, 0)), (g2, Obj.cells (SA (F ++ MM)) 41 (0, 0))] wr) := hid (HB.more HH.out.tail hcea)
                  have HAs : Hid (Apart w [(ga, Obj.cells cura 41 (0, 0)), (p, Obj.cells (DC g t 0 false false 0) 72 (0, 0)), (g, Obj.cells (SA F) 41 (0, 0)), (g2, Obj.cells (SA (F ++ MM)) 41 (0, 0))] (.slice (some ⟨qb, 0, none⟩) t t)) := by
                    refine apart_row HQB0.out fun x hx => ?_
                    rcases List.mem_cons.1 hx with e | e
                    · rw [e]; exact fun e => HNga.out (qb, Obj.cells (SA (repS t A2)) 41 (0, 0)) (by simp) e.symm
                    · exact Nat.ne_of_lt (HNqb.out x (List.mem_cons_of_mem _ e))
                  clear HOn HAp HH hcea hga hn8 HNga
                  go_wp2_with fail
                  go_loopw [14, 20] (fun v i wr => ∃ (n : Nat), n ≤ 8 ∧ i = .int .i64 n ∧ Hid (Own wr w.heap.size 41 128 v (t + n) (repS (t + n) A2)) ∧ Hid (Apart w [(ga, Obj.cells cura 41 (0, 0)), (p, Obj.cells (DC g t 0 false false 0) 72 (0, 0)), (g, Obj.cells (SA F) 41 (0, 0)), (g2, Obj.cells (SA (F ++ MM)) 41 (0, 0))] v) ∧ Hid (HB w [(ga, Obj.cells cura 41 (0, 0)), (p, Obj.cells (DC g t 0 false false 0) 72 (0, 0)), (g, Obj.cells (SA F) 41 (0, 0)), (g2, Obj.cells (SA (F ++ MM)) 41 (0, 0))] wr)) (fun _ i _ => 8 - (intOf i).toNat)
                  case atStart => exact ⟨0, by omega, rfl, HOs, HAs, HHs⟩
                  case round =>
                    clear HOs HAs HHs
                    obtain ⟨n, hn, rfl, HOn, HAp, HH⟩ := hrel
                    by_cases hn8 : n < 8
                    · have hnl : (n : Int) < 8 := by omega
                      have hbnd : (t + n + 1) * 128 ≤ 140737488355328 := by omega
                      clear hn8
                      go_wp2_with (first | (go_at_call 22; refine (HO2f.out _ _ (row_bytesF (heap_alloc_new _ _))).mono ?_; rintro e w7 ⟨rfl, hb7⟩; have hq7 := (Below.refl_call wr _).trans (hb7.mono (by simp)); have HO8 := hid ((HOn.out.call hq7).call (Below.refl_call w7 (.cells (SA A2) 41))); have HH8 := hid ((HH.out.call hq7).call (Below.refl_call w7 (.cells (SA A2) 41))); have hsz := HH8.out.old.size; clear hb7 hq7) | (refine slice_one rfl _ rfl A2 hBl rfl ?_) | (at_builtin; refine append_secs2 rfl _ _ rfl w.heap.size (t + n) 1 1 _ (repS (t + n) A2) A2 (some ⟨w7.heap.size, 0, none⟩) rfl rfl HO8.out hBl (row_bytes (heap_alloc_new _ _)) hbnd hsz ?_; intro v9 w9 hO9 hg9 hat9; rw [repS_succ] at hO9; have HO9 := hid hO9; have HH9 := hid (HH8.out.app hg9 HAp.out); have HA9 := hid (HAp.out.next HH8.out hat9); clear hO9 hg9 hat9))
                      exact ⟨⟨n + 1, by omega, by go_num, HO9, HA9, HH9⟩, by simp [intOf]; omega⟩
                    · have e : n = 8 := by omega
                      subst e
                      clear hn
                      rw [show ((8 : Nat) : Int) = 8 from rfl]
                      obtain ⟨gb, cb, curb, rfl, hcb, hgb, hceb, HBYb⟩ := HOn.out.blk1 (show 0 < t + 8 by omega)
                      have HHs : Hid (HB w [(gb, Obj.cells curb 41 (0, 0)), (ga, Obj.cells cura 41 (0, 0)), (p, Obj.cells (DC g t 0 false false 0) 72 (0, 0)), (g, Obj.cells (SA F) 41 (0, 0)), (g2, Obj.cells (SA (F ++ MM)) 41 (0, 0))] wr) := hid (HB.more HH.out hceb)
                      clear HOn HAp HH hceb hgb hn8
                      go_wp2_with fail
                      go_loopw [21] (fun i wr => ∃ (n : Nat), n ≤ t + 8 ∧ i = .int .i64 n ∧ Hid (HB w [(gb, Obj.cells curb 41 (0, 0)), (ga, Obj.cells cura 41 (0, 0)), (p, Obj.cells (DC g t 0 false false 0) 72 (0, 0)), (g, Obj.cells (SA F) 41 (0, 0)), (g2, Obj.cells (SA (F ++ MM)) 41 (0, 0))] wr)) (fun i _ => t + 8 - (intOf i).toNat)
                      case atStart => exact ⟨0, by omega, rfl, HHs⟩
                      case round =>
                        clear HHs
                        obtain ⟨n, hn, rfl, HH⟩ := hrel
                        by_cases hn8 : n < t + 8
                        · have hnl : (n : Int) < (t : Int) + 8 := by omega
                          have HMA := hid fun (w' : World) (h : w'.heap[ga]? = some (.cells cura 41 (0, 0))) => rep_range hAl hn8 (HBYa.out w' h)
                          have HMB := hid fun (w' : World) (h : w'.heap[gb]? = some (.cells curb 41 (0, 0))) => rep_range hBl hn8 (HBYb.out w' h)
                          clear hn8
                          go_wp2_with fail
                          refine wp_region_noPanic ?_
                          refine wp_region_held_drew (S := HB w [(gb, Obj.cells curb 41 (0, 0)), (ga, Obj.cells cura 41 (0, 0)), (p, Obj.cells (DC g t 0 false false 0) 72 (0, 0)), (g, Obj.cells (SA F) 41 (0, 0)), (g2, Obj.cells (SA (F ++ MM)) 41 (0, 0))]) (by kernel_rfl) HH.out.drew (fun hHeld => ?_)
                          clear hcv
                          generalize wr.drew = wd at *
                          refine takeVal 0 148 (.slice (some ⟨ga, 0, none⟩) (t + 8) ca) rfl (by kernel_rfl) (by kernel_rfl) (by kernel_rfl) rfl (by rfl) (fun _ _ _ h => h) hHeld (fun _ hw' => rfl) ?_
                          simp only [List.setIfInBounds_toArray, List.set_cons_zero, List.set_cons_succ]
                          refine takeVal 1 149 (.int .i64 (n : Int)) rfl (by kernel_rfl) (by kernel_rfl) (by kernel_rfl) rfl (by rfl) (fun _ _ _ h => h) hHeld (fun _ hw' => rfl) ?_
                          simp only [List.setIfInBounds_toArray, List.set_cons_zero, List.set_cons_succ]
                          refine takeVal 2 150 (.pointer (some ⟨ga, n * 128, none⟩)) rfl (by kernel_rfl) (by kernel_rfl) (by kernel_rfl) rfl (by rfl) (fun _ _ _ h => h) hHeld (fun _ hw' => by go_simp) ?_
                          simp only [List.setIfInBounds_toArray, List.set_cons_zero, List.set_cons_succ]
                          refine takeMidS 3 151 (.tmp 150) (ga) (n * 128) (A1) (hAl) rfl (by kernel_rfl) (by kernel_rfl) (by kernel_rfl) rfl rfl rfl (by rfl) (fun _ _ _ h => h) hHeld (fun _ hw' => HMA.out _ (hw'.get (by simp))) ?_
                          simp only [List.setIfInBounds_toArray, List.set_cons_zero, List.set_cons_succ]
                          refine step1 4 (by kernel_rfl) ?_
                          refine stNew 4 152 (.slice (some ⟨wd.heap.size, 0, none⟩) 3 3) (.cells (SA [111, 110, 101]) 5) rfl rfl (by rfl) (by go_simp; rfl) ⟨(hHeld.alloc _).tail, ?_⟩
                          have hHeld0 := hHeld
                          have hHeld := (hHeld0.alloc (.cells (SA [111, 110, 101]) 5)).tail
                          simp only [List.setIfInBounds_toArray, List.set_cons_zero, List.set_cons_succ]
                          refine step1 5 (by kernel_rfl) ?_
                          refine stTo 5 153 (.slice (some ⟨wd.heap.size, 0, none⟩) 3 3) (wd.alloc (.cells (SA [111, 110, 101]) 5 (3, 4))) rfl rfl (by rfl) (by have hc := conv_same (wd) (SA [111, 110, 101]) 3 3; go_simp; rfl) ⟨(hHeld0.alloc _).tail, ?_⟩
                          clear hHeld
                          have hHeld := (hHeld0.alloc (.cells (SA [111, 110, 101]) 5 (3, 4))).tail
                          clear hHeld0
                          simp only [List.setIfInBounds_toArray, List.set_cons_zero, List.set_cons_succ]
                          refine step1 6 (by kernel_rfl) ?_
                          refine stCall 6 154 22 #[.slice (some ⟨wd.heap.size, 0, none⟩) 3 3] _ rfl rfl (by rfl) (by go_simp) (HO1f.out _ _ (row_bytesF (heap_alloc_new _ _))) ?_
                          rintro e we ⟨rfl, hbx⟩
                          refine ⟨_, rfl, hHeld.call hbx, ?_⟩
                          have hHeld1 := hHeld.call hbx
                          clear hHeld hbx
                          have hHeld := hHeld1
                          clear hHeld1
                          simp only [List.setIfInBounds_toArray, List.set_cons_zero, List.set_cons_succ]
                          refine takeVal 7 155 (.bool false) rfl (by kernel_rfl) (by kernel_rfl) (by kernel_rfl) rfl (by rfl) (fun _ _ _ h => h) hHeld (fun _ hw' => by have hq := eq_sec A1 A1 hAl hAl; rw [decide_eq_true rfl] at hq; go_simp) ?_
                          simp only [List.setIfInBounds_toArray, List.set_cons_zero, List.set_cons_succ]
                          refine takeVal 8 156 (.bool false) rfl (by kernel_rfl) (by kernel_rfl) (by kernel_rfl) rfl (by rfl) (fun _ _ _ h => h) hHeld (fun _ hw' => rfl) ?_
                          simp only [List.setIfInBounds_toArray, List.set_cons_zero, List.set_cons_succ]
                          refine takeVal 9 157 (.slice (some ⟨gb, 0, none⟩) (t + 8) cb) rfl (by kernel_rfl) (by kernel_rfl) (by kernel_rfl) rfl (by rfl) (fun _ _ _ h => h) hHeld (fun _ hw' => rfl) ?_
                          simp only [List.setIfInBounds_toArray, List.set_cons_zero, List.set_cons_succ]
                          refine takeVal 10 158 (.int .i64 (n : Int)) rfl (by kernel_rfl) (by kernel_rfl) (by kernel_rfl) rfl (by rfl) (fun _ _ _ h => h) hHeld (fun _ hw' => rfl) ?_
                          simp only [List.setIfInBounds_toArray, List.set_cons_zero, List.set_cons_succ]
                          refine takeVal 11 159 (.pointer (some ⟨gb, n * 128, none⟩)) rfl (by kernel_rfl) (by kernel_rfl) (by kernel_rfl) rfl (by rfl) (fun _ _ _ h => h) hHeld (fun _ hw' => by go_simp) ?_
                          simp only [List.setIfInBounds_toArray, List.set_cons_zero, List.set_cons_succ]
                          refine takeMidS 12 160 (.tmp 159) (gb) (n * 128) (A2) (hBl) rfl (by kernel_rfl) (by kernel_rfl) (by kernel_rfl) rfl rfl rfl (by rfl) (fun _ _ _ h => h) hHeld (fun _ hw' => HMB.out _ (hw'.get (by simp))) ?_
                          simp only [List.setIfInBounds_toArray, List.set_cons_zero, List.set_cons_succ]
                          refine step1 13 (by kernel_rfl) ?_
                          refine stNew 13 161 (.slice (some ⟨we.heap.size, 0, none⟩) 3 3) (.cells (SA [116, 119, 111]) 5) rfl rfl (by rfl) (by go_simp; rfl) ⟨(hHeld.alloc _).tail, ?_⟩
                          have hHeld0 := hHeld
                          have hHeld := (hHeld0.alloc (.cells (SA [116, 119, 111]) 5)).tail
                          simp only [List.setIfInBounds_toArray, List.set_cons_zero, List.set_cons_succ]
                          refine step1 14 (by kernel_rfl) ?_
                          refine stTo 14 162 (.slice (some ⟨we.heap.size, 0, none⟩) 3 3) (we.alloc (.cells (SA [116, 119, 111]) 5 (3, 4))) rfl rfl (by rfl) (by have hc := conv_same (we) (SA [116, 119, 111]) 3 3; go_simp; rfl) ⟨(hHeld0.alloc _).tail, ?_⟩
                          clear hHeld
                          have hHeld := (hHeld0.alloc (.cells (SA [116, 119, 111]) 5 (3, 4))).tail
                          clear hHeld0
                          simp only [List.setIfInBounds_toArray, List.set_cons_zero, List.set_cons_succ]
                          refine step1 15 (by kernel_rfl) ?_
                          refine stCall 15 163 22 #[.slice (some ⟨we.heap.size, 0, none⟩) 3 3] _ rfl rfl (by rfl) (by go_simp) (HO2f.out _ _ (row_bytesF (heap_alloc_new _ _))) ?_
                          rintro e wf ⟨rfl, hbx⟩
                          refine ⟨_, rfl, hHeld.call hbx, ?_⟩
                          have hHeld1 := hHeld.call hbx
                          clear hHeld hbx
                          have hHeld := hHeld1
                          clear hHeld1
                          simp only [List.setIfInBounds_toArray, List.set_cons_zero, List.set_cons_succ]
                          refine takeVal 16 164 (.bool false) rfl (by kernel_rfl) (by kernel_rfl) (by kernel_rfl) rfl (by rfl) (fun _ _ _ h => h) hHeld (fun _ hw' => by have hq := eq_sec A2 A2 hBl hBl; rw [decide_eq_true rfl] at hq; go_simp) ?_
                          simp only [List.setIfInBounds_toArray, List.set_cons_zero, List.set_cons_succ]
                          refine takeVal 17 165 (.bool false) rfl (by kernel_rfl) (by kernel_rfl) (by kernel_rfl) rfl (by rfl) (fun _ _ _ h => h) hHeld (fun _ hw' => rfl) ?_
                          simp only [List.setIfInBounds_toArray, List.set_cons_zero, List.set_cons_succ]
                          refine wpAnyH_done (by kernel_rfl) ?_ _
                          refine NoPanic.normal ?_
                          have HHe := hid hHeld
                          clear hHeld
                          go_wp2_with fail
                          exact ⟨⟨n + 1, by omega, by go_num, HHe⟩, by simp [intOf]; omega⟩
                        · clear hn
                          go_wp2_with (first | (go_at_call 13; refine (same_any F t _ _ _ _ _ HSL.out HBD.out (row_bytes (t := 41) (HH7.out.get (g := qc) (by simp))) (row_pre (t := 41) (c := MM) (HH7.out.get (g := g2) (by simp)))).mono ?_; rintro e w9 ⟨rfl, j9, rfl⟩; have HH9 := hid (HH7.out.drewN (n := j9))) | (go_at_call 12; refine (image_any _ (isD_of (p := p) (g := g) HH.out (by simp [DB]) HSL.out h0 h1)).mono ?_; rintro e w7 ⟨qc, rfl, hq0, hq1, hq2⟩; have HH7 := hid ((HH.out.call hq2).more (show _ = some (Obj.cells (SA F) 41 (0, 0)) from hq1)); clear hq0 hq1 hq2) | (go_at_call 15; refine (len_any _ (isD_of (p := p) (g := g) HH9.out (by simp [DB]) HSL.out h0 h1)).mono ?_; rintro e w9 ⟨rfl, rfl⟩))
                          go_ret
                          exact ⟨rfl, HH9.out.old⟩




theorem froms_walk (im : List (List Int)) (a : Option Addr) (cap : Nat) (w : World) (HI : ImgAt w a im) : Calls Try.prog 4 #[.slice a im.length cap] w fun e w' => e = .returned (.bool true) ∧ Below w.heap.size w w' := by
  by_cases h5 : im.length ≤ 5000
  · by_cases h : 1 ≤ (im.length : Int) ∧ (im.length : Int) ≤ 4096
    · exact froms_some im _ rfl a cap w (by omega) (by omega) HI
    · exact froms_bad im _ rfl a cap w h5 h HI
  · exact froms_long _ a cap w h5
end Go.Proofs.Ytcgchdcbbiahnaa
