/-
  BlocksOwns: what Spots and Tables answer is the caller's own.
-/
import Derived.Test.YtjlhmojofjkkdaaJ3
namespace Go.Proofs.Ytjlhmojofjkkdaa
open Go.RowKit Go.Shelf

set_option maxRecDepth 100000 in
set_option maxHeartbeats 20000000 in
theorem owns_walk (z : List Int) (a : Option Addr) (c : Nat) (s : Src) (z' : List Int) (a' : Option Addr) (c' : Nat) (s' : Src) (w : World) (hz : z.length = 18) (hz' : z'.length = 18) (hi : ImgAt w a s.im) (hi' : ImgAt w a' s'.im) :
    Calls Try.prog 7 #[.agg (fileV z a c s), .agg (fileV z' a' c' s')] w fun e w' => e = .returned (.bool true) ∧ Below w.heap.size w w' := by
  have HFL := hid (four_at (c := c) (c' := c') hz hz' hi hi')
  have hsrc := hid (fun w => source_any z a c s w hz)
  have hF21 := fileV_size hz a c s
  have hG21 := fileV_size hz' a' c' s'
  have hF1 : (fileV z a c s).all (·.oneCell') = true := by unfold fileV srcV; rw [Array.all_append, NA_one]; simp [Value.oneCell']
  have hG1 : (fileV z' a' c' s').all (·.oneCell') = true := by unfold fileV srcV; rw [Array.all_append, NA_one]; simp [Value.oneCell']
  have HZ := hid hz
  have HI := hid hi
  have HINO := hid (file_ino z a c s)
  obtain ⟨fl, hfl⟩ : ∃ y, y = flF z z' s s' := ⟨_, rfl⟩
  obtain ⟨SV, hSV⟩ : ∃ y, y = srcV a c s := ⟨_, rfl⟩
  rw [← hfl] at HFL
  rw [← hSV] at hsrc
  have HSV := hid hSV
  obtain ⟨FV, hFV⟩ : ∃ y, y = fileV z a c s := ⟨_, rfl⟩
  obtain ⟨GV, hGV⟩ : ∃ y, y = fileV z' a' c' s' := ⟨_, rfl⟩
  rw [← hFV, ← hGV] at HFL
  rw [← hFV] at hsrc hF21 hF1 HINO
  rw [← hGV] at hG21 hG1
  rw [← hFV, ← hGV]
  clear hFV hGV hSV hz hz' hi hi' hfl
  obtain ⟨W, hW⟩ : ∃ y, y = (w.alloc (.cells FV 32)).alloc (.cells GV 32) := ⟨_, rfl⟩
  have HB : Hid (Below w.heap.size w W) := by rw [hW]; exact ((Below.refl _ _).alloc (Nat.le_refl _) _).alloc (by simp) _
  have H0 : Hid (W.heap[w.heap.size]? = some (.cells FV 32 (0, 0))) := by rw [hW]; exact heap_alloc2_old w _ _
  have H1 : Hid (W.heap[w.heap.size + 1]? = some (.cells GV 32 (0, 0))) := by rw [hW]; exact heap_alloc2_new w _ _
  have HL := hid (fun (X : World) (hX : Below W.heap.size W X) => (hX.block _ (slt H0.out)).trans H0.out)
  have HG := hid (fun (X : World) (hX : Below W.heap.size W X) => (hX.block _ (slt H1.out)).trans H1.out)
  go_enter Try.func7, Try.ntmps7
  go_upto_region 1 with fail
  rw [← hW]
  clear hW
  go_upto_region 6 with (first
    | (go_at_call 9; go_must (refine (known_any W).mono ?_; rintro e x1 ⟨rfl, hb⟩; have X1 := hid hb; clear hb)))
  obtain ⟨U, hU⟩ : ∃ y, y = x1.alloc (.cells (fourV FV GV) 32) := ⟨_, rfl⟩
  have UB : Hid (Below W.heap.size W U) := by rw [hU]; exact hid (X1.out.alloc X1.out.size _)
  have UF : Hid (U.heap[x1.heap.size]? = some (.cells (fourV FV GV) 32 (0, 0))) := by rw [hU]; exact heap_alloc_new _ _
  go_upto_region 7 with (first
    | (refine load_R rfl 32 (.tmp 2) rfl w.heap.size rfl 32 FV _ (HL.out _ X1.out) Try.underlying32 rfl (by rw [szFile, hF21]) ?_)
    | (refine load_R rfl 32 (.tmp 3) rfl (w.heap.size + 1) rfl 32 GV _ (HG.out _ X1.out) Try.underlying32 rfl (by rw [szFile, hG21]) ?_)
    | (refine wp_four rfl _ _ _ _ rfl FV GV hF21 hG21 rfl rfl rfl rfl ?_))
  rw [← hU]
  obtain ⟨bF, hbF⟩ : ∃ y, y = x1.heap.size := ⟨_, rfl⟩
  rw [← hbF] at UF
  rw [← hbF]
  clear hU hbF X1
  clear HG H1 hG21 hG1
  have HUF := hid (fun (X : World) (hX : Below U.heap.size U X) => (hX.block _ (slt UF.out)).trans UF.out)
  have HUw : Hid (∀ X, Below U.heap.size U X → Below w.heap.size w X) := hid (fun X hX => btr HB.out (btr UB.out hX UB.out.size) HB.out.size)
  go_upto_region 8 with fail
  go_loopw [6, 7, 9] (fun l t i wr => ∃ (k : Nat) (V T : List Lst), k ≤ 4 ∧ i = .int .i64 k ∧ V.length = k ∧ T.length = k ∧ Hid (LotS U.heap.size l V wr) ∧ Hid (LotI U.heap.size t T wr) ∧ Hid (SpIs fl V) ∧ Hid (TbIs fl T) ∧ Hid (Below U.heap.size U wr)) (fun _ _ i _ => 4 - (intOf i).toNat)
  case atStart => exact ⟨0, [], [], by omega, rfl, rfl, rfl, hid (Lot.nil _ _ _ _ _), hid (Lot.nil _ _ _ _ _), hid (fun j x h => by simp at h), hid (fun j x h => by simp at h), hid (Below.refl _ _)⟩
  case round =>
    obtain ⟨k, V, T, hk, rfl, hVk, hTk, HV, HT, HSp, HTb, HBr⟩ := hrel
    by_cases hlt : k < 4
    · as_aux_lemma =>
        obtain ⟨z1, a1, c1, s1, hfk, hz1, hi1, hpart⟩ := HFL.out k hlt
        have hF1 := fileV_size hz1 a1 c1 s1
        have HP := hid hpart
        have HP2 : Hid (∀ (j : Nat) v, (NA z1)[j]? = some v → (fourV FV GV)[k * 21 + j]? = some v) := hid (fun j v h => hpart j v (by have := file_ino z1 a1 c1 s1 j v h; rwa [Nat.zero_add] at this))
        have hso := hid (fun w => source_any z1 a1 c1 s1 w hz1)
        obtain ⟨F1, hF⟩ : ∃ y, y = fileV z1 a1 c1 s1 := ⟨_, rfl⟩
        rw [← hF] at HP hso hF1
        obtain ⟨S1, hS⟩ : ∃ y, y = srcV a1 c1 s1 := ⟨_, rfl⟩
        rw [← hS] at hso
        have HS := hid hS
        have hS13 : S1.size = 3 := by rw [hS]; rfl
        have HF1 := hid hF1
        have HFK := hid hfk
        have HZ1 := hid hz1
        have HI1 := hid hi1
        have j0 : (0 : Int) ≤ (k : Int) := by omega
        have j1 : (k : Int) < 4 := by omega
        clear hF hS hpart hF1 hfk hz1 hi1
        go_upto_region 11 with (first
          | (refine load_part rfl 32 (.tmp 56) rfl bF (k * 21) rfl 32 (fourV FV GV) F1 _ (HUF.out _ HBr.out) HP.out Try.underlying32 rfl (by rw [szFile, HF1.out]) ?_)
          | (go_at_call 12; go_must (refine (hso.out wr).mono ?_; rintro e x3 ⟨rfl, hb⟩; have X3 := hid hb; clear hb)))
        obtain ⟨V2, hV2⟩ : ∃ y, y = x3.alloc (.cells S1 39) := ⟨_, rfl⟩
        have hfold : Array.foldl (fun (cs : Array Value) (x : Value × Nat) => cs.setIfInBounds x.snd x.fst) #[Value.slice none 0 0, Value.int .i64 0, Value.int .i64 0] S1.zipIdx 0 3 = S1 := by rw [HS.out]; rfl
        rw [hfold, ← hV2]
        have VW : Hid (Below wr.heap.size wr V2) := by rw [hV2]; exact hid (X3.out.alloc X3.out.size _)
        have VB : Hid (Below U.heap.size U V2) := hid (btr HBr.out VW.out HBr.out.size)
        have VR : Hid (Rd V2 x3.heap.size s1) := hid ⟨a1, c1, by rw [hV2, ← HS.out]; exact heap_alloc_new _ _, HI1.out.below (HUw.out _ VB.out)⟩
        obtain ⟨pm, hpm⟩ : ∃ y, y = x3.heap.size := ⟨_, rfl⟩
        rw [← hpm] at VR
        rw [← hpm]
        clear hV2 hfold hpm X3 hS13
        have hP := hid (Spots_any pm s1 z1 V2 HZ1.out VR.out)
        have hT := hid (fun (X : World) (hX : Below V2.heap.size V2 X) => Tables_any pm s1 z1 X HZ1.out (VR.out.below hX))
        go_upto_region 12 with (first
          | (refine load_part rfl 29 (.tmp 67) rfl bF (k * 21) rfl 32 (fourV FV GV) (NA z1) _ (HUF.out _ VB.out) HP2.out Try.underlying29 rfl (by rw [szI, NA_size, HZ1.out]) ?_)
          | (go_at_call 15; go_must (refine Calls.mono hP.out ?_; rintro e y1 ⟨v1, l1, e1, rfl, ha1, ho1, hb1⟩; have hR1 := hid (ans_of ha1); have Y1 := hid hb1; have O1 := hid ho1; clear ha1 hb1 ho1)))
        obtain ⟨av, cv, hv1, _, _⟩ := row_shape9 O1.out
        subst hv1
        clear hP
        have Y1B : Hid (Below U.heap.size U y1) := hid (btr VB.out Y1.out VB.out.size)
        go_upto_region 13 with (first
          | (refine load_part rfl 29 (.tmp 78) rfl bF (k * 21) rfl 32 (fourV FV GV) (NA z1) _ (HUF.out _ Y1B.out) HP2.out Try.underlying29 rfl (by rw [szI, NA_size, HZ1.out]) ?_)
          | (go_at_call 17; go_must (refine Calls.mono (hT.out y1 Y1.out) ?_; rintro e y2 ⟨v2, rfl, ho2, hb2⟩; have Y2 := hid hb2; have O2 := hid ho2; clear hb2 ho2)))
        obtain ⟨aw, cw, hv2, _, _⟩ := row_shape9 O2.out
        subst hv2
        clear hT
        have K2 : Hid (Below wr.heap.size wr y2) := hid (btr (btr VW.out Y1.out VW.out.size) Y2.out (btr VW.out Y1.out VW.out.size).size)
        have Y2B : Hid (Below U.heap.size U y2) := hid (btr HBr.out K2.out HBr.out.size)
        have P1 : Hid (y2.ownsRow wr.heap.size 61 2 (.slice av l1.length cv) l1.length (flatS l1)) := hid (ownr_below (ownr_mono O1.out VW.out.size) Y2.out)
        have P2 : Hid (y2.ownsRow wr.heap.size 3 1 (.slice aw (tblR s1 z1).1.length cw) (tblR s1 z1).1.length ((tblR s1 z1).1.map (Value.int .i64))) := hid (ownr_mono O2.out (btr VW.out Y1.out VW.out.size).size)
        have A1 := hid (lot_new HV.out P1.out)
        have A2 := hid (lot_new HT.out P2.out)
        have R1 : Hid (l1 = (rowsAns (rowsL s1 z1)).1) := hid (by rw [← hR1.out])
        clear hR1 O1 O2 Y1 Y2 Y1B VB VW VR
        have HV2 := hid (HV.out.below K2.out)
        have HT2 := hid (HT.out.below K2.out)
        clear HV HT
        generalize hTT : (tblR s1 z1).1 = TT at *
        have HTT := hid hTT
        clear hTT
        obtain ⟨N1, hN1⟩ : ∃ y, y = l1.length := ⟨_, rfl⟩
        obtain ⟨N2, hN2⟩ : ∃ y, y = TT.length := ⟨_, rfl⟩
        rw [← hN1] at P1 A1
        rw [← hN2] at P2 A2
        simp only [← hN1, ← hN2]
        have HN1 := hid hN1
        have HN2 := hid hN2
        clear hN1 hN2
        have Q1 := hid (ownr_mono P1.out HBr.out.size)
        have Q2 := hid (ownr_mono P2.out HBr.out.size)
        go_upto_region 14 with (first
          | (at_builtin; go_must (refine wp_more rfl _ _ 57 44 rfl Try.underlying57 infoLs U.heap.size 61 2 y2.heap.size 1 _ V ⟨.slice av N1 cv, N1, flatS l1⟩ (by decide) rfl rfl (HV2.out.below (below_alloc _ _)) (by go_simp) (ownr_below Q1.out (below_alloc _ _)) A1.out (by omega) (by have := Y2B.out.size; simp; omega) ?_; intro v3 y3 hl3 hg3)))
        have G3 := hid hg3
        have L3 := hid hl3
        clear hl3 hg3
        have HT3 := hid ((HT2.out.below (below_alloc y2 (.cells #[.slice av N1 cv] 44))).grow G3.out (by decide) (by decide))
        have Q23 := hid (ownr_grow (ownr_below Q2.out (below_alloc y2 (.cells #[.slice av N1 cv] 44))) G3.out (by decide))
        have B3 : Hid (Below U.heap.size U y3) := hid ((Y2B.out.alloc Y2B.out.size _).trans G3.out.low)
        clear HV2 HT2 Q1 Q2 P1 P2 K2 Y2B G3
        go_upto_region 9 with (first
          | (at_builtin; go_must (refine wp_more rfl _ _ 58 33 rfl Try.underlying58 infoLi U.heap.size 3 1 y3.heap.size 1 _ T ⟨.slice aw N2 cw, N2, TT.map (Value.int .i64)⟩ (by decide) rfl rfl (HT3.out.below (below_alloc _ _)) (by go_simp) (ownr_below Q23.out (below_alloc _ _)) A2.out (by omega) (by have := B3.out.size; simp; omega) ?_; intro v4 y4 hl4 hg4)))
        have L4 := hid hl4
        have L34 := hid ((L3.out.below (below_alloc y3 (.cells #[.slice aw N2 cw] 33))).grow hg4 (by decide) (by decide))
        have B4 : Hid (Below U.heap.size U y4) := hid ((B3.out.alloc B3.out.size _).trans hg4.low)
        clear hl4 hg4 HT3 Q23 L3 B3
        go_wp2_with fail
        exact ⟨⟨k + 1, V ++ [⟨.slice av N1 cv, N1, flatS l1⟩], T ++ [⟨.slice aw N2 cw, N2, TT.map (Value.int .i64)⟩], by omega, by go_num, by simp [hVk], by simp [hTk], L34, L4, hid (HSp.out.more ⟨by rw [hVk, HFK.out, HN1.out, R1.out], by rw [hVk, HFK.out, R1.out]⟩), hid (HTb.out.more ⟨by rw [hTk, HFK.out, HN2.out, HTT.out], by rw [hTk, HFK.out, HTT.out]⟩), B4⟩, by simp [intOf]; omega⟩
    · have hk4 : k = 4 := by omega
      subst hk4
      have hge : ¬ (((4 : Nat) : Int) < 4) := by decide
      go_upto_region 16 with fail
      obtain ⟨gl, cl, hgl⟩ := HV.out.form (by omega)
      obtain ⟨gt, ct, hgt⟩ := HT.out.form (by omega)
      rw [hVk] at hgl
      rw [hTk] at hgt
      subst hgl hgt
      clear hge hlt hk
      obtain ⟨w2, hw2⟩ : ∃ y, y = wr := ⟨_, rfl⟩
      subst hw2
      have hz2 : ∀ w, (zeroValue 35).run Try.prog w = .ok (.agg ZR) w := fun w => by kernel_rfl
      go_loopw [15] (fun i wq => ∃ (k : Nat), k ≤ 4 ∧ i = .int .i64 k ∧ Hid (Below w2.heap.size w2 wq)) (fun i _ => 4 - (intOf i).toNat)
      case atStart => exact ⟨0, by omega, rfl, hid (Below.refl _ _)⟩
      case round =>
        obtain ⟨k, hk, rfl, HBq⟩ := hrel
        by_cases hlt : k < 4
        · as_aux_lemma =>
            obtain ⟨z1, a1, c1, s1, hfk, hz1, hi1, hpart⟩ := HFL.out k hlt
            have hF1 := fileV_size hz1 a1 c1 s1
            have HP := hid hpart
            have HP2 : Hid (∀ (j : Nat) v, (NA z1)[j]? = some v → (fourV FV GV)[k * 21 + j]? = some v) := hid (fun j v h => hpart j v (by have := file_ino z1 a1 c1 s1 j v h; rwa [Nat.zero_add] at this))
            have hso := hid (fun w => source_any z1 a1 c1 s1 w hz1)
            obtain ⟨F1, hF⟩ : ∃ y, y = fileV z1 a1 c1 s1 := ⟨_, rfl⟩
            rw [← hF] at HP hso hF1
            have BU : Hid (∀ X, Below w2.heap.size w2 X → Below U.heap.size U X) := hid (fun X hX => btr HBr.out hX HBr.out.size)
            have hQ := hid (fun (X : World) (hX : Below w2.heap.size w2 X) => rSpots_any a1 c1 s1 z1 X hz1 (hi1.below (HUw.out _ (BU.out _ hX))))
            have hU2 := hid (fun (X : World) (hX : Below w2.heap.size w2 X) => rTables_any a1 c1 s1 z1 X hz1 (hi1.below (HUw.out _ (BU.out _ hX))))
            obtain ⟨S1, hS⟩ : ∃ y, y = srcV a1 c1 s1 := ⟨_, rfl⟩
            rw [← hS] at hso
            rw [← hS, rows_same] at hQ
            rw [← hS] at hU2
            have hS13 : S1.size = 3 := by rw [hS]; rfl
            have hS11 : S1.all (·.oneCell') = true := by rw [hS]; simp [srcV, Value.oneCell']
            obtain ⟨x, hx⟩ : ∃ x, V[k]? = some x := ⟨_, List.getElem?_eq_getElem (by omega)⟩
            obtain ⟨y, hy⟩ : ∃ x, T[k]? = some x := ⟨_, List.getElem?_eq_getElem (by omega)⟩
            have hx1 := HV.out.own k x hx
            have hy1 := HT.out.own k y hy
            have hx2 := HSp.out k x hx
            have hy2 := HTb.out k y hy
            rw [hfk] at hx2 hy2
            rw [hx2.1, hx2.2] at hx1
            rw [hy2.1, hy2.2] at hy1
            have hLA := ansL_le s1 z1
            have hLT := tblR_le s1 z1
            generalize rowsAns (rowsL s1 z1) = R at *
            generalize tblR s1 z1 = D at *
            obtain ⟨ax, cx, hxv, px⟩ := SOwn.pi hx1
            obtain ⟨ay, cy, hyv, py⟩ := IOwn.li hy1
            have hcx := HV.out.at hx
            have hcy := HT.out.at hy
            rw [hxv] at hcx
            rw [hyv] at hcy
            have PX := hid px
            have PY := hid py
            have HCX := hid hcx
            have HCY := hid hcy
            have HF1 := hid hF1
            have HZ1 := hid hz1
            have j0 : (0 : Int) ≤ (k : Int) := by omega
            have j1 : (k : Int) < 4 := by omega
            clear hF hS hpart hF1 hfk hz1 hi1 hx hy hx1 hy1 hx2 hy2 px py hcx hcy hxv hyv
            have HUq := hid (HUF.out _ (BU.out _ HBq.out))
            go_upto_region 19 with (first
              | (refine load_part rfl 32 (.tmp 99) rfl bF (k * 21) rfl 32 (fourV FV GV) F1 _ HUq.out HP.out Try.underlying32 rfl (by rw [szFile, HF1.out]) ?_)
              | (go_at_call 12; go_must (refine (hso.out wr).mono ?_; rintro e x3 ⟨rfl, hb⟩; have X3 := hid (btr HBq.out hb HBq.out.size); clear hb))
              | (refine store_R rfl 35 (.tmp 16) (.tmp 101) rfl x3.heap.size S1 rfl rfl 35 ZR (heap_alloc_new _ _) (by rw [szSrc, hS13]) (by rw [hS13]; rfl) hS11 ?_; go_must (intro x4 p4; have H4 := hid p4.here; have X4 : Hid (Below w2.heap.size w2 x4) := hid (p4.below (X3.out.alloc X3.out.size _) X3.out.size); clear p4)))
            obtain ⟨bS, hbS⟩ : ∃ y, y = x3.heap.size := ⟨_, rfl⟩
            rw [← hbS] at H4
            rw [← hbS]
            clear hbS X3 HUq HBq
            simp only [Act.put]
            refine wp_region_noPanic ?_
            refine wp_region_held_drew (S := fun w' => w'.heap[bS]? = some (.cells S1 35 (0, 0)) ∧ w'.heap[bF]? = some (.cells (fourV FV GV) 32 (0, 0)) ∧ Below w2.heap.size w2 w') (by kernel_rfl) ⟨H4.out, HUF.out _ (BU.out _ (below_drew X4.out)), below_drew X4.out⟩ (fun hHeld => ?_)
            refine takeR 0 103 35 (.tmp 16) bS 35 S1 _ rfl (by kernel_rfl) (by kernel_rfl) (by kernel_rfl) rfl rfl rfl Try.underlying35 rfl (by rw [szSrc, hS13]) (by rfl) (fun _ _ _ h => h) hHeld (fun W' hw' => hw'.1) ?_
            simp only [List.setIfInBounds_toArray, List.set_cons_zero, List.set_cons_succ]
            refine takeVal 1 104 (.slice (some ⟨bF, 0, none⟩) 4 4) rfl (by kernel_rfl) (by kernel_rfl) (by kernel_rfl) rfl (by rfl) (fun _ _ _ h => h) hHeld (fun W' hw' => rfl) ?_
            simp only [List.setIfInBounds_toArray, List.set_cons_zero, List.set_cons_succ]
            refine takeVal 2 105 (.int .i64 (k : Int)) rfl (by kernel_rfl) (by kernel_rfl) (by kernel_rfl) rfl (by rfl) (fun _ _ _ h => h) hHeld (fun W' hw' => rfl) ?_
            simp only [List.setIfInBounds_toArray, List.set_cons_zero, List.set_cons_succ]
            refine takeVal 3 106 (.pointer (some ⟨bF, k * 21, none⟩)) rfl (by kernel_rfl) (by kernel_rfl) (by kernel_rfl) rfl (by rfl) (fun _ _ _ h => h) hHeld (fun W' hw' => by go_simp) ?_
            simp only [List.setIfInBounds_toArray, List.set_cons_zero, List.set_cons_succ]
            refine takeVal 4 107 (.pointer (some ⟨bF, k * 21, none⟩)) rfl (by kernel_rfl) (by kernel_rfl) (by kernel_rfl) rfl (by rfl) (fun _ _ _ h => h) hHeld (fun W' hw' => by go_simp) ?_
            simp only [List.setIfInBounds_toArray, List.set_cons_zero, List.set_cons_succ]
            refine takeP 5 108 29 (.tmp 107) bF (k * 21) 32 (fourV FV GV) (NA z1) _ rfl (by kernel_rfl) (by kernel_rfl) (by kernel_rfl) rfl rfl rfl Try.underlying29 rfl (by rw [szI, NA_size, HZ1.out]) (by rfl) (fun _ _ _ h => h) hHeld HP2.out (fun W' hw' => hw'.2.1) ?_
            simp only [List.setIfInBounds_toArray, List.set_cons_zero, List.set_cons_succ]
            refine step1 6 (by kernel_rfl) ?_
            refine stCall 6 109 16 #[.agg S1, .agg (NA z1)] _ rfl rfl (by rfl) (by go_simp) (hQ.out _ hHeld.2.2) ?_
            rintro e y5 ⟨v5, rfl, ho5, hb5⟩
            have h5 : y5.heap[bS]? = some (.cells S1 35 (0, 0)) ∧ y5.heap[bF]? = some (.cells (fourV FV GV) 32 (0, 0)) ∧ Below w2.heap.size w2 y5 := ⟨by rw [hb5.block _ (slt hHeld.1)]; exact hHeld.1, by rw [hb5.block _ (slt hHeld.2.1)]; exact hHeld.2.1, btr hHeld.2.2 hb5 hHeld.2.2.size⟩
            refine ⟨_, rfl, h5, ?_⟩
            simp only [List.setIfInBounds_toArray, List.set_cons_zero, List.set_cons_succ]
            refine takeVal 7 102 (.tuple #[v5, .int .i64 R.2]) rfl (by kernel_rfl) (by kernel_rfl) (by kernel_rfl) rfl (by rfl) (fun _ _ _ h => h) h5 (fun W' hw' => rfl) ?_
            simp only [List.setIfInBounds_toArray, List.set_cons_zero, List.set_cons_succ]
            refine takeVal 8 110 (v5) rfl (by kernel_rfl) (by kernel_rfl) (by kernel_rfl) rfl (by rfl) (fun _ _ _ h => h) h5 (fun W' hw' => rfl) ?_
            simp only [List.setIfInBounds_toArray, List.set_cons_zero, List.set_cons_succ]
            refine takeVal 9 111 (.int .i64 R.2) rfl (by kernel_rfl) (by kernel_rfl) (by kernel_rfl) rfl (by rfl) (fun _ _ _ h => h) h5 (fun W' hw' => rfl) ?_
            simp only [List.setIfInBounds_toArray, List.set_cons_zero, List.set_cons_succ]
            refine takeVal 10 17 (v5) rfl (by kernel_rfl) (by kernel_rfl) (by kernel_rfl) rfl (by rfl) (fun _ _ _ h => h) h5 (fun W' hw' => rfl) ?_
            simp only [List.setIfInBounds_toArray, List.set_cons_zero, List.set_cons_succ]
            refine takeVal 11 18 (.int .i64 R.2) rfl (by kernel_rfl) (by kernel_rfl) (by kernel_rfl) rfl (by rfl) (fun _ _ _ h => h) h5 (fun W' hw' => rfl) ?_
            simp only [List.setIfInBounds_toArray, List.set_cons_zero, List.set_cons_succ]
            refine wpAnyH_done (by kernel_rfl) ?_ _
            refine NoPanic.normal ?_
            have H5 := hid h5
            obtain ⟨a5, k5, hv5, p5⟩ := SOwn.pi ho5
            subst hv5
            have P5 := hid p5
            clear h5 hb5 hHeld ho5 p5 H4 X4
            go_upto_region 20 with fail
            refine wp_region_noPanic ?_
            refine wp_region_held_drew (S := fun w' => w'.heap[bS]? = some (.cells S1 35 (0, 0)) ∧ w'.heap[bF]? = some (.cells (fourV FV GV) 32 (0, 0)) ∧ Below w2.heap.size w2 w' ∧ Below y5.heap.size y5 w') (by kernel_rfl) ⟨H5.out.1, H5.out.2.1, below_drew H5.out.2.2, below_drew (Below.refl _ _)⟩ (fun hHeld => ?_)
            refine takeR 0 113 35 (.tmp 16) bS 35 S1 _ rfl (by kernel_rfl) (by kernel_rfl) (by kernel_rfl) rfl rfl rfl Try.underlying35 rfl (by rw [szSrc, hS13]) (by rfl) (fun _ _ _ h => h) hHeld (fun W' hw' => hw'.1) ?_
            simp only [List.setIfInBounds_toArray, List.set_cons_zero, List.set_cons_succ]
            refine takeVal 1 114 (.slice (some ⟨bF, 0, none⟩) 4 4) rfl (by kernel_rfl) (by kernel_rfl) (by kernel_rfl) rfl (by rfl) (fun _ _ _ h => h) hHeld (fun W' hw' => rfl) ?_
            simp only [List.setIfInBounds_toArray, List.set_cons_zero, List.set_cons_succ]
            refine takeVal 2 115 (.int .i64 (k : Int)) rfl (by kernel_rfl) (by kernel_rfl) (by kernel_rfl) rfl (by rfl) (fun _ _ _ h => h) hHeld (fun W' hw' => rfl) ?_
            simp only [List.setIfInBounds_toArray, List.set_cons_zero, List.set_cons_succ]
            refine takeVal 3 116 (.pointer (some ⟨bF, k * 21, none⟩)) rfl (by kernel_rfl) (by kernel_rfl) (by kernel_rfl) rfl (by rfl) (fun _ _ _ h => h) hHeld (fun W' hw' => by go_simp) ?_
            simp only [List.setIfInBounds_toArray, List.set_cons_zero, List.set_cons_succ]
            refine takeVal 4 117 (.pointer (some ⟨bF, k * 21, none⟩)) rfl (by kernel_rfl) (by kernel_rfl) (by kernel_rfl) rfl (by rfl) (fun _ _ _ h => h) hHeld (fun W' hw' => by go_simp) ?_
            simp only [List.setIfInBounds_toArray, List.set_cons_zero, List.set_cons_succ]
            refine takeP 5 118 29 (.tmp 117) bF (k * 21) 32 (fourV FV GV) (NA z1) _ rfl (by kernel_rfl) (by kernel_rfl) (by kernel_rfl) rfl rfl rfl Try.underlying29 rfl (by rw [szI, NA_size, HZ1.out]) (by rfl) (fun _ _ _ h => h) hHeld HP2.out (fun W' hw' => hw'.2.1) ?_
            simp only [List.setIfInBounds_toArray, List.set_cons_zero, List.set_cons_succ]
            refine step1 6 (by kernel_rfl) ?_
            refine stCall 6 119 18 #[.agg S1, .agg (NA z1)] _ rfl rfl (by rfl) (by go_simp) (hU2.out _ hHeld.2.2.1) ?_
            rintro e y6 ⟨v6, rfl, ho6, hb5⟩
            have h5 : y6.heap[bS]? = some (.cells S1 35 (0, 0)) ∧ y6.heap[bF]? = some (.cells (fourV FV GV) 32 (0, 0)) ∧ Below w2.heap.size w2 y6 ∧ Below y5.heap.size y5 y6 := ⟨by rw [hb5.block _ (slt hHeld.1)]; exact hHeld.1, by rw [hb5.block _ (slt hHeld.2.1)]; exact hHeld.2.1, btr hHeld.2.2.1 hb5 hHeld.2.2.1.size, btr hHeld.2.2.2 hb5 hHeld.2.2.2.size⟩
            refine ⟨_, rfl, h5, ?_⟩
            simp only [List.setIfInBounds_toArray, List.set_cons_zero, List.set_cons_succ]
            refine takeVal 7 112 (.tuple #[v6, .int .i64 D.2]) rfl (by kernel_rfl) (by kernel_rfl) (by kernel_rfl) rfl (by rfl) (fun _ _ _ h => h) h5 (fun W' hw' => rfl) ?_
            simp only [List.setIfInBounds_toArray, List.set_cons_zero, List.set_cons_succ]
            refine takeVal 8 120 (v6) rfl (by kernel_rfl) (by kernel_rfl) (by kernel_rfl) rfl (by rfl) (fun _ _ _ h => h) h5 (fun W' hw' => rfl) ?_
            simp only [List.setIfInBounds_toArray, List.set_cons_zero, List.set_cons_succ]
            refine takeVal 9 121 (.int .i64 D.2) rfl (by kernel_rfl) (by kernel_rfl) (by kernel_rfl) rfl (by rfl) (fun _ _ _ h => h) h5 (fun W' hw' => rfl) ?_
            simp only [List.setIfInBounds_toArray, List.set_cons_zero, List.set_cons_succ]
            refine takeVal 10 19 (v6) rfl (by kernel_rfl) (by kernel_rfl) (by kernel_rfl) rfl (by rfl) (fun _ _ _ h => h) h5 (fun W' hw' => rfl) ?_
            simp only [List.setIfInBounds_toArray, List.set_cons_zero, List.set_cons_succ]
            refine takeVal 11 20 (.int .i64 D.2) rfl (by kernel_rfl) (by kernel_rfl) (by kernel_rfl) rfl (by rfl) (fun _ _ _ h => h) h5 (fun W' hw' => rfl) ?_
            simp only [List.setIfInBounds_toArray, List.set_cons_zero, List.set_cons_succ]
            refine wpAnyH_done (by kernel_rfl) ?_ _
            refine NoPanic.normal ?_
            obtain ⟨a6, k6, hv6, p6⟩ := IOwn.li ho6
            subst hv6
            have P6 := hid p6
            have P56 := hid (P5.out.below h5.2.2.2)
            have X6 := hid h5.2.2.1
            have PX6 := hid (PX.out.below h5.2.2.1)
            clear h5 hb5 hHeld ho6 p6 H5 P5
            have hc1 : y6.cell? ⟨gl, k, none⟩ = some (.slice ax R.1.length cx) := by rw [X6.out.cell (p := ⟨gl, k, none⟩) (World.block_lt_of_cell? _ _ HCX.out)]; exact HCX.out
            go_wp2_with (first
              | (go_at_call 19; go_must (refine (spotsEq_any _ _ _ _ R.1 y6 PX6.out P56.out hLA).mono ?_; rintro e y7 ⟨rfl, hb⟩; have X7 := hid (btr X6.out hb X6.out.size); have P67 := hid (P6.out.below hb); have hc2 : y7.cell? ⟨gt, k, none⟩ = some (.slice ay D.1.length cy) := (by rw [X7.out.cell (p := ⟨gt, k, none⟩) (World.block_lt_of_cell? _ _ HCY.out)]; exact HCY.out); clear hb))
              | (go_at_call 20; go_must (refine (intsEq_any _ _ _ _ D.1 y7 (PY.out.below X7.out) P67.out hLT).mono ?_; rintro e y8 ⟨rfl, hb⟩; have X8 := hid (btr X7.out hb X7.out.size); clear hb)))
            exact ⟨⟨k + 1, by omega, by go_num, X8⟩, by simp [intOf]; omega⟩
        · have hk4 : k = 4 := by omega
          subst hk4
          have hge : ¬ (((4 : Nat) : Int) < 4) := by decide
          go_upto_region 24 with fail
          obtain ⟨w3, hw3⟩ : ∃ y, y = wr := ⟨_, rfl⟩
          subst hw3
          have HV3 := hid (HV.out.below HBq.out)
          have HT3 := hid (HT.out.below HBq.out)
          have B3 : Hid (Below U.heap.size U w3) := hid (btr HBr.out HBq.out HBr.out.size)
          have SM0 := hid HSp.out.sm
          have IM0 := hid HTb.out.im
          clear HV HT HBq HBr HSp HTb hge hlt hk hz2
          go_loopw [21] (fun i wq => ∃ (k : Nat) (V T : List Lst), k ≤ 4 ∧ i = .int .i64 k ∧ V.length = 4 ∧ T.length = 4 ∧ Hid (LotS U.heap.size (.slice (some ⟨gl, 0, none⟩) 4 cl) V wq) ∧ Hid (LotI U.heap.size (.slice (some ⟨gt, 0, none⟩) 4 ct) T wq) ∧ Hid (SM k V) ∧ Hid (IM k T) ∧ Hid (Below U.heap.size U wq)) (fun i _ => 4 - (intOf i).toNat)
          case atStart => exact ⟨0, V, T, by omega, rfl, hVk, hTk, HV3, HT3, SM0, IM0, B3⟩
          case round =>
            clear HV3 HT3 B3 SM0 IM0 hVk hTk
            clear V T
            obtain ⟨k, V, T, hk, rfl, hVk, hTk, HV, HT, HS, HM, HB4⟩ := hrel
            by_cases hlt : k < 4
            · obtain ⟨x, hx⟩ : ∃ x, V[k]? = some x := ⟨_, List.getElem?_eq_getElem (by omega)⟩
              obtain ⟨ax, cx, hxv, hxc, hxd⟩ := row_shape9 (HV.out.own k x hx)
              clear hxc hxd
              have hN : x.n ≤ 2000 := (HS.out k x hx).1
              obtain ⟨xv, N, xs⟩ := x
              simp only at hxv hN
              subst hxv
              have HX := hid hx
              have j0 : (0 : Int) ≤ (k : Int) := by omega
              have j1 : (k : Int) < 4 := by omega
              clear hx
              go_upto_region 27 with fail
              obtain ⟨wo, hwo⟩ : ∃ y, y = wr := ⟨_, rfl⟩
              subst hwo
              go_loopw [22] (fun i wq => ∃ (q : Nat) (V : List Lst) (xs : List Value), q ≤ N ∧ i = .int .i64 q ∧ V.length = 4 ∧ Hid (V[k]? = some ⟨.slice ax N cx, N, xs⟩) ∧ Hid (LotS U.heap.size (.slice (some ⟨gl, 0, none⟩) 4 cl) V wq) ∧ Hid (LotI U.heap.size (.slice (some ⟨gt, 0, none⟩) 4 ct) T wq) ∧ Hid (SM k V) ∧ Hid (∀ p, p < q → xs[p * 2]? = some (.int .i64 (-(k : Int) - 1))) ∧ Hid (Below U.heap.size U wq)) (fun i _ => N - (intOf i).toNat)
              case atStart => exact ⟨0, V, xs, by omega, rfl, hVk, HX, HV, HT, HS, hid (fun p hp => absurd hp (Nat.not_lt_zero _)), HB4⟩
              case round =>
                clear HX HV HT HS HB4 hVk
                clear V xs
                obtain ⟨q, V, xs, hq, rfl, hVk, HX, HV, HT, HS, HQ, HB4⟩ := hrel
                have hc : wr.cell? ⟨gl, k, none⟩ = some (.slice ax N cx) := HV.out.at HX.out
                by_cases hlq : q < N
                · as_aux_lemma =>
                    have hxo := HV.out.own k _ HX.out
                    obtain ⟨gx, cx', hxv, hBx, _⟩ := hxo.form (by show 0 < N; omega)
                    injection hxv with e1 e2 e3
                    subst e1 e3
                    obtain ⟨_, cur, hcur⟩ := own_block hxo (show Value.ownBlock (.slice (some ⟨gx, 0, none⟩) N cx) = some gx from rfl)
                    have hxl : xs.length = N * 2 := hxo.1
                    have HC := hid hcur
                    have q0 : (0 : Int) ≤ (q : Int) := by omega
                    have q1 : (q : Int) < (N : Int) := by omega
                    clear hxo hcur
                    go_upto_region 28 with (first
                      | (refine wp_putS rfl (.tmp 162) (.tmp 161) rfl U.heap.size gx cx k q _ V ⟨.slice (some ⟨gx, 0, none⟩) N cx, N, xs⟩ (-(k : Int) - 1) 0 rfl rfl HV.out HX.out rfl hlq ?_; intro w5 hl5 hg5))
                    have L5 := hid hl5
                    have T5 := hid (HT.out.other hg5 HC.out (by decide) (by decide))
                    have B5 := hid (below_put HB4.out (Nat.le_refl _) hg5 hBx)
                    clear hl5 hg5 hc
                    go_wp2_with fail
                    exact ⟨⟨q + 1, _, _, by omega, by go_num, by simp [hVk], hid (set_at HX.out), L5, T5, hid (HS.out.put HX.out), hid (mark_put HQ.out (by show q * 2 + 1 < xs.length; omega)), B5⟩, by simp [intOf]; omega⟩
                · have hqN : q = N := by omega
                  subst hqN
                  have hge : ¬ ((q : Int) < (q : Int)) := by omega
                  have HS2 := hid (HS.out.next HX.out HQ.out)
                  clear HS HQ HX
                  go_upto_region 31 with fail
                  obtain ⟨y, hy⟩ : ∃ y, T[k]? = some y := ⟨_, List.getElem?_eq_getElem (by omega)⟩
                  obtain ⟨ay, cy, hyv, hyc, hyd⟩ := row_shape9 (HT.out.own k y hy)
                  clear hyc hyd
                  have hM : y.n ≤ 2000 := (HM.out k y hy).1
                  obtain ⟨yv, M, ys⟩ := y
                  simp only at hyv hM
                  subst hyv
                  have HY := hid hy
                  clear hy hc hge
                  obtain ⟨wo2, hwo2⟩ : ∃ y, y = wr := ⟨_, rfl⟩
                  subst hwo2
                  go_loopw [23] (fun i wq => ∃ (r : Nat) (T : List Lst) (ys : List Value), r ≤ M ∧ i = .int .i64 r ∧ T.length = 4 ∧ Hid (T[k]? = some ⟨.slice ay M cy, M, ys⟩) ∧ Hid (LotS U.heap.size (.slice (some ⟨gl, 0, none⟩) 4 cl) V wq) ∧ Hid (LotI U.heap.size (.slice (some ⟨gt, 0, none⟩) 4 ct) T wq) ∧ Hid (IM k T) ∧ Hid (∀ p, p < r → ys[p]? = some (.int .i64 (-(k : Int) - 1))) ∧ Hid (Below U.heap.size U wq)) (fun i _ => M - (intOf i).toNat)
                  case atStart => exact ⟨0, T, ys, by omega, rfl, hTk, HY, HV, HT, HM, hid (fun p hp => absurd hp (Nat.not_lt_zero _)), HB4⟩
                  case round =>
                    clear HY HV HT HM HB4 hTk
                    obtain ⟨r, T, ys, hr, rfl, hTk, HY, HV, HT, HM, HR, HB4⟩ := hrel
                    have hc : wr.cell? ⟨gt, k, none⟩ = some (.slice ay M cy) := HT.out.at HY.out
                    by_cases hlr : r < M
                    · as_aux_lemma =>
                        have hyo := HT.out.own k _ HY.out
                        obtain ⟨gy, cy', hyv, hBy, _⟩ := hyo.form (by show 0 < M; omega)
                        injection hyv with e1 e2 e3
                        subst e1 e3
                        obtain ⟨_, cur, hcur⟩ := own_block hyo (show Value.ownBlock (.slice (some ⟨gy, 0, none⟩) M cy) = some gy from rfl)
                        have hyl : ys.length = M * 1 := hyo.1
                        have HC := hid hcur
                        obtain ⟨u, hu⟩ : ∃ u, ys[r]? = some u := ⟨_, List.getElem?_eq_getElem (by omega)⟩
                        have hcr : wr.cell? ⟨gy, r, none⟩ = some u := (World.ownsRow.cellAt hyo r (by omega)).trans hu
                        have hfr : wr.frozen? ⟨gy, r, none⟩ = false := World.ownsRow.frozenAt hyo r
                        have st := World.ownsRow.stored hyo r (.int .i64 (-(k : Int) - 1))
                        obtain ⟨w5, hw5⟩ : ∃ y, y = wr.setCell ⟨gy, r, none⟩ (.int .i64 (-(k : Int) - 1)) := ⟨_, rfl⟩
                        rw [← hw5] at st
                        have T5 := hid (HT.out.put (by decide) HY.out rfl st.2 st.1)
                        have L5 := hid (HV.out.other st.2 HC.out (by decide) (by decide))
                        have B5 := hid (below_put HB4.out (Nat.le_refl _) st.2 hBy)
                        have r0 : (0 : Int) ≤ (r : Int) := by omega
                        have r1 : (r : Int) < (M : Int) := by omega
                        clear hyo hcur st hu
                        go_upto_region 32 with fail
                        rw [← hw5]
                        clear hw5 hc hcr hfr
                        go_wp2_with fail
                        exact ⟨⟨r + 1, _, _, by omega, by go_num, by simp [hTk], hid (set_at HY.out), L5, T5, hid (HM.out.put HY.out), hid (mark_put1 HR.out (by show r < ys.length; omega)), B5⟩, by simp [intOf]; omega⟩
                    · have hrM : r = M := by omega
                      subst hrM
                      have hge : ¬ ((r : Int) < (r : Int)) := by omega
                      have HM2 := hid (HM.out.next HY.out HR.out)
                      clear HM HR HY
                      go_wp2_with fail
                      exact ⟨⟨k + 1, V, T, by omega, by go_num, hVk, hTk, HV, HT, HS2, HM2, HB4⟩, by simp [intOf]; omega⟩
            · have hk4 : k = 4 := by omega
              subst hk4
              have hge : ¬ (((4 : Nat) : Int) < 4) := by decide
              go_upto_region 37 with fail
              obtain ⟨w5, hw5⟩ : ∃ y, y = wr := ⟨_, rfl⟩
              subst hw5
              have D0 := hid (Duo.start HV.out)
              have E0 := hid (Duo.start HT.out)
              clear HV HT hge hlt hk
              go_loopw [24, 25, 26] (fun m n i wq => ∃ (k : Nat) (M R : List Lst) (mv nv : Value), mv = m ∧ nv = n ∧ k ≤ 4 ∧ i = .int .i64 k ∧ M.length = k ∧ R.length = k ∧ Hid (Duo U.heap.size 44 61 2 (.slice (some ⟨gl, 0, none⟩) 4 cl) m V M wq) ∧ Hid (Duo U.heap.size 33 3 1 (.slice (some ⟨gt, 0, none⟩) 4 ct) n T R wq) ∧ Hid (GM 2 V M) ∧ Hid (GM 1 T R) ∧ Hid (Below U.heap.size U wq)) (fun _ _ i _ => 4 - (intOf i).toNat)
              case atStart => exact ⟨0, [], [], _, _, rfl, rfl, by omega, rfl, rfl, rfl, D0, E0, hid (GM.nil _ _), hid (GM.nil _ _), HB4⟩
              case round =>
                clear D0 E0 HB4
                obtain ⟨k, M, R, mv, nv, rfl, rfl, hk, rfl, hMk, hRk, HD, HE, HGM, HGR, HB4⟩ := hrel
                by_cases hlt : k < 4
                · as_aux_lemma =>
                    obtain ⟨x, hx⟩ : ∃ x, V[k]? = some x := ⟨_, List.getElem?_eq_getElem (by omega)⟩
                    obtain ⟨y, hy⟩ : ∃ x, T[k]? = some x := ⟨_, List.getElem?_eq_getElem (by omega)⟩
                    have hN : x.n ≤ 2000 := (HS.out k x hx).1
                    have hK : y.n ≤ 2000 := (HM.out k y hy).1
                    have G0 := hid (HS.out.gc hx hlt (HD.out.l.own k x hx).1)
                    have G1 := hid (HM.out.gc hy hlt (HE.out.l.own k y hy).1)
                    have C0 := hid (HD.out.cur hx)
                    have C1 := hid (HE.out.cur hy)
                    have hcx : wr.cell? ⟨gl, k, none⟩ = some x.v := HD.out.l.at hx
                    have hcy : wr.cell? ⟨gt, k, none⟩ = some y.v := HE.out.l.at hy
                    obtain ⟨ax, cx, hxv, hxc, hxd⟩ := row_shape9 (HD.out.l.own k x hx)
                    obtain ⟨ay, cy, hyv, hyc, hyd⟩ := row_shape9 (HE.out.l.own k y hy)
                    clear hxc hxd hyc hyd
                    have HXV := hid hxv
                    have HYV := hid hyv
                    rw [hxv] at hcx
                    rw [hyv] at hcy
                    have HX := hid (show V[M.length]? = some x by rw [hMk]; exact hx)
                    have HY := hid (show T[R.length]? = some y by rw [hRk]; exact hy)
                    have j0 : (0 : Int) ≤ (k : Int) := by omega
                    have j1 : (k : Int) < 4 := by omega
                    clear hx hy hxv hyv
                    obtain ⟨N, hNn⟩ : ∃ N, N = x.n := ⟨_, rfl⟩
                    obtain ⟨K, hKn⟩ : ∃ K, K = y.n := ⟨_, rfl⟩
                    rw [← hNn] at hcx hN
                    rw [← hKn] at hcy hK
                    have HNn := hid hNn
                    have HKn := hid hKn
                    clear hNn hKn
                    go_upto_region 42 with fail
                    clear hcx hcy
                    obtain ⟨wo, hwo⟩ : ∃ y, y = wr := ⟨_, rfl⟩
                    subst hwo
                    go_loopw [27, 28, 29] (fun a b i wq => ∃ (r : Nat) (A C : Lst), r ≤ 20 ∧ i = .int .i64 r ∧ a = A.v ∧ b = C.v ∧ A.n = N + r ∧ C.n = K + r ∧ Hid (Duo U.heap.size 44 61 2 (.slice (some ⟨gl, 0, none⟩) 4 cl) mv V M wq) ∧ Hid (Duo U.heap.size 33 3 1 (.slice (some ⟨gt, 0, none⟩) 4 ct) nv T R wq) ∧ Hid (Cur U.heap.size 61 2 V M x A wq) ∧ Hid (Cur U.heap.size 3 1 T R y C wq) ∧ Hid (GC 2 N k A) ∧ Hid (GC 1 K k C) ∧ Hid (Below U.heap.size U wq)) (fun _ _ i _ => 20 - (intOf i).toNat)
                    case atStart => exact ⟨0, x, y, by omega, rfl, by rw [HXV.out, HNn.out], by rw [HYV.out, HKn.out], by rw [HNn.out]; rfl, by rw [HKn.out]; rfl, HD, HE, C0, C1, by rw [HNn.out]; exact G0, by rw [HKn.out]; exact G1, HB4⟩
                    case round =>
                      clear HD HE C0 C1 G0 G1 HB4
                      obtain ⟨r, A, C, hr, rfl, rfl, rfl, hAn, hCn, HD, HE, C0, C1, G0, G1, HB4⟩ := hrel
                      by_cases hlr : r < 20
                      · as_aux_lemma =>
                          have q0 : (0 : Int) ≤ (r : Int) := by omega
                          have q1 : (r : Int) < 20 := by omega
                          have HAn := hid hAn
                          have HCn := hid hCn
                          clear hAn hCn
                          go_upto_region 45 with (first
                            | (at_builtin; go_must (refine wp_growS rfl _ _ rfl U.heap.size wr.heap.size 1 _ _ V M x A ((k : Int) + 1) 0 rfl rfl (HD.out.below (below_alloc _ _)) (heap_alloc_new _ _) HX.out (C0.out.below (below_alloc _ _)) (by have := HAn.out; omega) (by have := HB4.out.size; simp; omega) ?_; intro g7 c7 w7 hd7 hc7 hg7)))
                          have D7 := hid hd7
                          have C7 := hid hc7
                          have E7 := hid ((HE.out.below (below_alloc wr (.cells #[.int .i64 ((k : Int) + 1), .int .i64 0] 61))).grow hg7 (by decide) (by decide))
                          have F7 := hid ((C1.out.below (below_alloc wr (.cells #[.int .i64 ((k : Int) + 1), .int .i64 0] 61))).grow hg7 (by decide))
                          have B7 : Hid (Below U.heap.size U w7) := hid ((HB4.out.alloc HB4.out.size _).trans hg7.low)
                          clear hd7 hc7 hg7 HD HE C0 C1 HB4
                          go_upto_region 43 with (first
                            | (at_builtin; go_must (refine wp_growI rfl _ _ rfl U.heap.size w7.heap.size 1 _ _ T R y C ((k : Int) + 1) rfl rfl (E7.out.below (below_alloc _ _)) (heap_alloc_new _ _) HY.out (F7.out.below (below_alloc _ _)) (by have := HCn.out; omega) (by have := B7.out.size; simp; omega) ?_; intro g8 c8 w8 hd8 hc8 hg8)))
                          have E8 := hid hd8
                          have F8 := hid hc8
                          have D8 := hid ((D7.out.below (below_alloc w7 (.cells #[.int .i64 ((k : Int) + 1)] 3))).grow hg8 (by decide) (by decide))
                          have C8 := hid ((C7.out.below (below_alloc w7 (.cells #[.int .i64 ((k : Int) + 1)] 3))).grow hg8 (by decide))
                          have B8 : Hid (Below U.heap.size U w8) := hid ((B7.out.alloc B7.out.size _).trans hg8.low)
                          clear hd8 hc8 hg8 D7 E7 C7 F7 B7
                          go_wp2_with fail
                          exact ⟨⟨r + 1, _, _, by omega, by go_num, rfl, rfl, by show A.n + 1 = _; rw [HAn.out]; omega, by show C.n + 1 = _; rw [HCn.out]; omega, D8, E8, C8, F8, hid (G0.out.grow2 (by rw [HAn.out]; omega) _), hid (G1.out.grow1 (by rw [HCn.out]; omega) _), B8⟩, by simp [intOf]; omega⟩
                      · as_aux_lemma =>
                          have hr20 : r = 20 := by omega
                          subst hr20
                          have hge : ¬ (((20 : Nat) : Int) < 20) := by decide
                          have HAn := hid hAn
                          have HCn := hid hCn
                          clear hAn hCn
                          obtain ⟨aA, cA, hAv, ha1, ha2⟩ := row_shape9 C0.out.own
                          obtain ⟨aC, cC, hCv, hc1, hc2⟩ := row_shape9 C1.out.own
                          have HAv := hid hAv
                          have HCv := hid hCv
                          rw [hAv, hCv]
                          clear ha1 ha2 hAv hc1 hc2 hCv
                          go_upto_region 47 with (first
                            | (at_builtin; go_must (refine wp_push rfl _ _ 57 44 rfl Try.underlying57 infoLs U.heap.size 61 2 wr.heap.size 1 _ _ V M x A (by decide) rfl rfl (HD.out.below (below_alloc _ _)) (by rw [HAv.out]; go_simp) HX.out (C0.out.below (below_alloc _ _)) (by omega) (by have := HB4.out.size; simp; omega) ?_; intro m7 w7 hd7 hg7)))
                          have D7 := hid hd7
                          have E7 := hid ((HE.out.below (below_alloc wr (.cells #[.slice aA A.n cA] 44))).grow hg7 (by decide) (by decide))
                          have F7 := hid ((C1.out.below (below_alloc wr (.cells #[.slice aA A.n cA] 44))).grow hg7 (by decide))
                          have B7 : Hid (Below U.heap.size U w7) := hid ((HB4.out.alloc HB4.out.size _).trans hg7.low)
                          clear hd7 hg7 HD HE C0 C1 HB4
                          go_upto_region 38 with (first
                            | (at_builtin; go_must (refine wp_push rfl _ _ 58 33 rfl Try.underlying58 infoLi U.heap.size 3 1 w7.heap.size 1 _ _ T R y C (by decide) rfl rfl (E7.out.below (below_alloc _ _)) (by rw [HCv.out]; go_simp) HY.out (F7.out.below (below_alloc _ _)) (by omega) (by have := B7.out.size; simp; omega) ?_; intro m8 w8 hd8 hg8)))
                          have E8 := hid hd8
                          have D8 := hid ((D7.out.below (below_alloc w7 (.cells #[.slice aC C.n cC] 33))).grow hg8 (by decide) (by decide))
                          have B8 : Hid (Below U.heap.size U w8) := hid ((B7.out.alloc B7.out.size _).trans hg8.low)
                          clear hd8 hg8 D7 E7 F7 B7
                          have HX' := HX.out
                          have HY' := HY.out
                          rw [hMk] at HX'
                          rw [hRk] at HY'
                          have M8 := hid (HGM.out.more hMk HX' (by rw [HAn.out, HNn.out]) (by rw [← HNn.out]; exact G0.out))
                          have R8 := hid (HGR.out.more hRk HY' (by rw [HCn.out, HKn.out]) (by rw [← HKn.out]; exact G1.out))
                          clear HX' HY'
                          go_wp2_with fail
                          exact ⟨⟨k + 1, _, _, _, _, rfl, rfl, by omega, by go_num, by simp [hMk], by simp [hRk], D8, E8, M8, R8, B8⟩, by simp [intOf]; omega⟩
                · have hk4 : k = 4 := by omega
                  subst hk4
                  have hge : ¬ (((4 : Nat) : Int) < 4) := by decide
                  go_upto_region 49 with fail
                  obtain ⟨gm, cm, hgm⟩ := HD.out.r.form (by omega)
                  obtain ⟨gn, cn, hgn⟩ := HE.out.r.form (by omega)
                  rw [hMk] at hgm
                  rw [hRk] at hgn
                  subst hgm hgn
                  clear hge hlt hk
                  obtain ⟨w6, hw6⟩ : ∃ y, y = wr := ⟨_, rfl⟩
                  subst hw6
                  go_loopw [30] (fun i wq => ∃ (k : Nat), k ≤ 4 ∧ i = .int .i64 k ∧ wq = w6) (fun i _ => 4 - (intOf i).toNat)
                  case atStart => exact ⟨0, by omega, rfl, rfl⟩
                  case round =>
                    obtain ⟨k, hk, rfl, hwq⟩ := hrel
                    subst hwq
                    by_cases hlt : k < 4
                    · as_aux_lemma =>
                        obtain ⟨ax, cx, N, gA, cA, NA, hN, hNA, hcx, hcA, t1, t2, t3⟩ := HD.out.reads HGM.out (fun x hx => ⟨(HS.out k x hx).1, HS.out.gc hx hlt (HD.out.l.own k x hx).1⟩) hVk hMk hlt
                        obtain ⟨ay, cy, K, gC, cC, KC, hK, hKC, hcy, hcC, t4, t5, t6⟩ := HE.out.reads HGR.out (fun x hx => ⟨(HM.out k x hx).1, HM.out.gc hx hlt (HE.out.l.own k x hx).1⟩) hTk hRk hlt
                        have T1 := hid t1
                        have T2 := hid t2
                        have T3 := hid t3
                        have T4 := hid t4
                        have T5 := hid t5
                        have T6 := hid t6
                        have HNA := hid hNA
                        have HKC := hid hKC
                        clear t1 t2 t3 t4 t5 t6 hNA hKC
                        have j0 : (0 : Int) ≤ (k : Int) := by omega
                        have j1 : (k : Int) < 4 := by omega
                        have hNAb : NA ≤ 2020 := by have := HNA.out; omega
                        have hKCb : KC ≤ 2020 := by have := HKC.out; omega
                        go_upto_region 52 with fail
                        obtain ⟨w7, hw7⟩ : ∃ y, y = wr := ⟨_, rfl⟩
                        subst hw7
                        go_loopw [31] (fun i wq => ∃ (q : Nat), q ≤ NA ∧ i = .int .i64 q ∧ wq = w7) (fun i _ => NA - (intOf i).toNat)
                        case atStart => exact ⟨0, by omega, rfl, rfl⟩
                        case round =>
                          obtain ⟨q, hq, rfl, hwq⟩ := hrel
                          subst hwq
                          by_cases hlq : q < NA
                          · have q0 : (0 : Int) ≤ (q : Int) := by omega
                            have q1 : (q : Int) < (NA : Int) := by omega
                            by_cases hqn : q < N
                            · have q2 : (q : Int) < (N : Int) := by omega
                              have hc := T1.out q hqn
                              skip
                              go_wp2_with fail
                              exact ⟨⟨q + 1, by omega, by go_num, by first | rfl | trivial⟩, by simp [intOf]; omega⟩
                            · have q2 : ¬ ((q : Int) < (N : Int)) := by omega
                              have q3 : (N : Int) ≤ (q : Int) := by omega
                              have hc := T2.out q (by omega) hlq
                              skip
                              go_wp2_with fail
                              exact ⟨⟨q + 1, by omega, by go_num, by first | rfl | trivial⟩, by simp [intOf]; omega⟩
                          · have hqN : q = NA := by omega
                            subst hqN
                            have hge : ¬ ((q : Int) < (q : Int)) := by omega
                            go_upto_region 57 with fail
                            clear hge
                            obtain ⟨w8, hw8⟩ : ∃ y, y = wr := ⟨_, rfl⟩
                            subst hw8
                            go_loopw [32] (fun i wq => ∃ (q : Nat), q ≤ KC ∧ i = .int .i64 q ∧ wq = w8) (fun i _ => KC - (intOf i).toNat)
                            case atStart => exact ⟨0, by omega, rfl, rfl⟩
                            case round =>
                              obtain ⟨q, hq, rfl, hwq⟩ := hrel
                              subst hwq
                              by_cases hlq : q < KC
                              · have q0 : (0 : Int) ≤ (q : Int) := by omega
                                have q1 : (q : Int) < (KC : Int) := by omega
                                by_cases hqn : q < K
                                · have q2 : (q : Int) < (K : Int) := by omega
                                  have hc := T4.out q hqn
                                  rw [Nat.mul_one] at hc
                                  go_wp2_with fail
                                  exact ⟨⟨q + 1, by omega, by go_num, by first | rfl | trivial⟩, by simp [intOf]; omega⟩
                                · have q2 : ¬ ((q : Int) < (K : Int)) := by omega
                                  have q3 : (K : Int) ≤ (q : Int) := by omega
                                  have hc := T5.out q (by omega) hlq
                                  rw [Nat.mul_one] at hc
                                  go_wp2_with fail
                                  exact ⟨⟨q + 1, by omega, by go_num, by first | rfl | trivial⟩, by simp [intOf]; omega⟩
                              · have hqN : q = KC := by omega
                                subst hqN
                                have hge : ¬ ((q : Int) < (q : Int)) := by omega
                                go_upto_region 62 with fail
                                clear hge
                                obtain ⟨w9, hw9⟩ : ∃ y, y = wr := ⟨_, rfl⟩
                                subst hw9
                                go_loopw [33] (fun i wq => ∃ (q : Nat), q ≤ N ∧ i = .int .i64 q ∧ wq = w9) (fun i _ => N - (intOf i).toNat)
                                case atStart => exact ⟨0, by omega, rfl, rfl⟩
                                case round =>
                                  obtain ⟨q, hq, rfl, hwq⟩ := hrel
                                  subst hwq
                                  by_cases hlq : q < N
                                  · have q0 : (0 : Int) ≤ (q : Int) := by omega
                                    have q1 : (q : Int) < (N : Int) := by omega
                                    obtain ⟨gx, hgx, hc⟩ := T3.out q hlq
                                    subst hgx
                                    skip
                                    go_wp2_with fail
                                    exact ⟨⟨q + 1, by omega, by go_num, by first | rfl | trivial⟩, by simp [intOf]; omega⟩
                                  · have hqN : q = N := by omega
                                    subst hqN
                                    have hge : ¬ ((q : Int) < (q : Int)) := by omega
                                    go_upto_region 67 with fail
                                    clear hge
                                    obtain ⟨wa, hwa⟩ : ∃ y, y = wr := ⟨_, rfl⟩
                                    subst hwa
                                    go_loopw [34] (fun i wq => ∃ (q : Nat), q ≤ K ∧ i = .int .i64 q ∧ wq = wa) (fun i _ => K - (intOf i).toNat)
                                    case atStart => exact ⟨0, by omega, rfl, rfl⟩
                                    case round =>
                                      obtain ⟨q, hq, rfl, hwq⟩ := hrel
                                      subst hwq
                                      by_cases hlq : q < K
                                      · have q0 : (0 : Int) ≤ (q : Int) := by omega
                                        have q1 : (q : Int) < (K : Int) := by omega
                                        obtain ⟨gx, hgx, hc⟩ := T6.out q hlq
                                        subst hgx
                                        rw [Nat.mul_one] at hc
                                        go_wp2_with fail
                                        exact ⟨⟨q + 1, by omega, by go_num, by first | rfl | trivial⟩, by simp [intOf]; omega⟩
                                      · have hqN : q = K := by omega
                                        subst hqN
                                        have hge : ¬ ((q : Int) < (q : Int)) := by omega
                                        go_wp2_with fail
                                        exact ⟨⟨k + 1, by omega, by go_num, by first | rfl | trivial⟩, by simp [intOf]; omega⟩
                    · as_aux_lemma =>
                        have hk4 : k = 4 := by omega
                        subst hk4
                        have hge : ¬ (((4 : Nat) : Int) < 4) := by decide
                        go_upto_region 71 with fail
                        have BW : Hid (Below W.heap.size W wr) := hid (btr UB.out HB4.out UB.out.size)
                        have hz := HZ.out
                        have hLA := ansL_le s z
                        have hS3 : SV.size = 3 := by rw [HSV.out]; rfl
                        have HLW := hid (fun (X : World) (hX : Below wr.heap.size wr X) => HL.out X (btr BW.out hX BW.out.size))
                        have HUX := hid (fun (X : World) (hX : Below wr.heap.size wr X) => HUw.out _ (btr HB4.out hX HB4.out.size))
                        have hQ := hid (fun (X : World) (hX : Below wr.heap.size wr X) => rSpots_any a c s z X hz (HI.out.below (HUX.out _ hX)))
                        rw [← HSV.out, rows_same] at hQ
                        have hAns := hid (fun (l : List Spt) (e : Int) (h : SpotsAns (spotsOf (rowsL s z)) l e) => ans_of h)
                        clear hge HD HE HGM HGR HS HM HB4 BW
                        go_upto_region 72 with (first
                          | (refine load_R rfl 32 (.tmp 2) rfl w.heap.size rfl 32 FV _ (HLW.out _ (Below.refl _ _)) Try.underlying32 rfl (by rw [szFile, hF21]) ?_)
                          | (go_at_call 12; go_must (refine (hsrc.out wr).mono ?_; rintro e x3 ⟨rfl, hb⟩; have X3 := hid hb; clear hb)))
                        obtain ⟨V2, hV2⟩ : ∃ y, y = x3.alloc (.cells SV 39) := ⟨_, rfl⟩
                        have hfold : Array.foldl (fun (cs : Array Value) (x : Value × Nat) => cs.setIfInBounds x.snd x.fst) #[Value.slice none 0 0, Value.int .i64 0, Value.int .i64 0] SV.zipIdx 0 3 = SV := by rw [HSV.out]; rfl
                        rw [hfold, ← hV2]
                        have VW : Hid (Below wr.heap.size wr V2) := by rw [hV2]; exact hid (X3.out.alloc X3.out.size _)
                        have VR : Hid (Rd V2 x3.heap.size s) := hid ⟨a, c, by rw [hV2, ← HSV.out]; exact heap_alloc_new _ _, HI.out.below (HUX.out _ VW.out)⟩
                        obtain ⟨pm, hpm⟩ : ∃ y, y = x3.heap.size := ⟨_, rfl⟩
                        rw [← hpm] at VR
                        rw [← hpm]
                        clear hV2 hfold hpm X3
                        have hP := Spots_any pm s z V2 hz VR.out
                        generalize rowsAns (rowsL s z) = R at *
                        go_upto_region 73 with (first
                          | (refine load_part rfl 29 (.tmp 374) rfl w.heap.size 0 rfl 32 FV (NA z) _ (HLW.out _ VW.out) HINO.out Try.underlying29 rfl (by rw [szI, NA_size, hz]) ?_)
                          | (go_at_call 15; go_must (refine Calls.mono hP ?_; rintro e y1 ⟨v1, l1, c1, rfl, ha1, ho1, hb1⟩; have hR1 := hAns.out _ _ ha1; have Y1 := hid (btr VW.out hb1 VW.out.size); have O1 := hid ho1; clear ha1 hb1 ho1)))
                        have hR1l : l1 = R.1 := by rw [← hR1]
                        have hR1e : c1 = R.2 := by rw [← hR1]
                        subst hR1l hR1e
                        obtain ⟨a1, k1, hv1, p1⟩ := SOwn.pi O1.out
                        subst hv1
                        have P1 := hid p1
                        clear hR1 p1 O1 hP hAns VR
                        refine wp_region_noPanic ?_
                        refine wp_region_held_drew (S := fun w' => w'.heap[w.heap.size]? = some (.cells FV 32 (0, 0)) ∧ Below wr.heap.size wr w' ∧ Below y1.heap.size y1 w') (by kernel_rfl) ⟨HLW.out _ (below_drew Y1.out), below_drew Y1.out, below_drew (Below.refl _ _)⟩ (fun hHeld => ?_)
                        refine takeR 0 380 32 (.tmp 2) w.heap.size 32 FV _ rfl (by kernel_rfl) (by kernel_rfl) (by kernel_rfl) rfl rfl rfl Try.underlying32 rfl (by rw [szFile, hF21]) (by rfl) (fun _ _ _ h => h) hHeld (fun W' hw' => hw'.1) ?_
                        simp only [List.setIfInBounds_toArray, List.set_cons_zero, List.set_cons_succ]
                        refine takeVal 2 382 (.pointer (some ⟨w.heap.size, 0, none⟩)) rfl (by kernel_rfl) (by kernel_rfl) (by kernel_rfl) rfl (by rfl) (fun _ _ _ h => h) hHeld (fun W' hw' => by go_simp) ?_
                        simp only [List.setIfInBounds_toArray, List.set_cons_zero, List.set_cons_succ]
                        refine takeP 3 383 29 (.tmp 382) w.heap.size 0 32 FV (NA z) _ rfl (by kernel_rfl) (by kernel_rfl) (by kernel_rfl) rfl rfl rfl Try.underlying29 rfl (by rw [szI, NA_size, hz]) (by rfl) (fun _ _ _ h => h) hHeld HINO.out (fun W' hw' => hw'.1) ?_
                        simp only [List.setIfInBounds_toArray, List.set_cons_zero, List.set_cons_succ]
                        refine step1 1 (by kernel_rfl) ?_
                        refine stCall 1 381 12 #[.agg FV] _ rfl rfl (by rfl) (by go_simp) (hsrc.out _) ?_
                        rintro e y2 ⟨rfl, hb2⟩
                        have h2 : y2.heap[w.heap.size]? = some (.cells FV 32 (0, 0)) ∧ Below wr.heap.size wr y2 ∧ Below y1.heap.size y1 y2 := ⟨by rw [hb2.block _ (slt hHeld.1)]; exact hHeld.1, btr hHeld.2.1 hb2 hHeld.2.1.size, btr hHeld.2.2 hb2 hHeld.2.2.size⟩
                        refine ⟨_, rfl, h2, ?_⟩
                        simp only [List.setIfInBounds_toArray, List.set_cons_zero, List.set_cons_succ]
                        refine step1 4 (by kernel_rfl) ?_
                        refine stCall 4 384 16 #[.agg SV, .agg (NA z)] _ rfl rfl (by rfl) (by go_simp) (hQ.out _ h2.2.1) ?_
                        rintro e y3 ⟨v3, rfl, ho3, hb3⟩
                        have h3 : y3.heap[w.heap.size]? = some (.cells FV 32 (0, 0)) ∧ Below wr.heap.size wr y3 ∧ Below y1.heap.size y1 y3 := ⟨by rw [hb3.block _ (slt h2.1)]; exact h2.1, btr h2.2.1 hb3 h2.2.1.size, btr h2.2.2 hb3 h2.2.2.size⟩
                        refine ⟨_, rfl, h3, ?_⟩
                        simp only [List.setIfInBounds_toArray, List.set_cons_zero, List.set_cons_succ]
                        refine takeVal 5 379 (.tuple #[v3, .int .i64 R.2]) rfl (by kernel_rfl) (by kernel_rfl) (by kernel_rfl) rfl (by rfl) (fun _ _ _ h => h) h3 (fun W' hw' => rfl) ?_
                        simp only [List.setIfInBounds_toArray, List.set_cons_zero, List.set_cons_succ]
                        refine takeVal 6 385 (v3) rfl (by kernel_rfl) (by kernel_rfl) (by kernel_rfl) rfl (by rfl) (fun _ _ _ h => h) h3 (fun W' hw' => rfl) ?_
                        simp only [List.setIfInBounds_toArray, List.set_cons_zero, List.set_cons_succ]
                        refine takeVal 7 386 (.int .i64 R.2) rfl (by kernel_rfl) (by kernel_rfl) (by kernel_rfl) rfl (by rfl) (fun _ _ _ h => h) h3 (fun W' hw' => rfl) ?_
                        simp only [List.setIfInBounds_toArray, List.set_cons_zero, List.set_cons_succ]
                        refine takeVal 8 38 (v3) rfl (by kernel_rfl) (by kernel_rfl) (by kernel_rfl) rfl (by rfl) (fun _ _ _ h => h) h3 (fun W' hw' => rfl) ?_
                        simp only [List.setIfInBounds_toArray, List.set_cons_zero, List.set_cons_succ]
                        refine takeVal 9 39 (.int .i64 R.2) rfl (by kernel_rfl) (by kernel_rfl) (by kernel_rfl) rfl (by rfl) (fun _ _ _ h => h) h3 (fun W' hw' => rfl) ?_
                        simp only [List.setIfInBounds_toArray, List.set_cons_zero, List.set_cons_succ]
                        refine wpAnyH_done (by kernel_rfl) ?_ _
                        refine NoPanic.normal ?_
                        obtain ⟨a3, k3, hv3, p3⟩ := SOwn.pi ho3
                        subst hv3
                        have P3 := hid p3
                        have P13 := hid (P1.out.below h3.2.2)
                        have Y3 := hid h3.2.1
                        clear h3 hb3 ho3 p3 P1 h2 hb2 hHeld Y1
                        go_wp2_with (first
                          | (go_at_call 19; go_must (refine (spotsEq_any a1 a3 k1 k3 R.1 y3 P13.out P3.out hLA).mono ?_; rintro e y5 ⟨rfl, hb5⟩; have Y5 := hid (btr Y3.out hb5 Y3.out.size); clear hb5)))
                        go_ret
                        exact ⟨rfl, HUX.out _ Y5.out⟩

end Go.Proofs.Ytjlhmojofjkkdaa
