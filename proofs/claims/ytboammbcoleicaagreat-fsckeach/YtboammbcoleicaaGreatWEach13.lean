/-
  FsckEach: the power goes at each of the first twenty writes, one by one; the writes come in the order of the report.
-/
import Derived.Test.YtboammbcoleicaaGreatWCut13
namespace Go.Proofs.YtboammbcoleicaaGreat
open Go.RowKit Go.Shelf

theorem Chg.aside {w w1 w2 : World} {ks : Nat → Prop} (h : Chg w w1 No) (k : Chg w1 w2 ks) (hg : ∀ j, ks j → w.heap.size ≤ j) : Chg w w2 No := h.trans k (fun _ _ e => e) (fun j hj e => by have := hg j e; omega)
/-- A Run at whose k-th write the power goes. -/
theorem run_k {w : World} {p g : Nat} {im : Img} {M k : Nat} (hii : II im M) (h : DK w p g im 0 false true k) (hk : k < kW M im) :
    Calls Tryz.prog 10 #[.pointer (some ⟨p, 0, none⟩)] w fun e w' => e = .returned (.tuple #[.agg nil4, .int .i64 22]) ∧ DK w' p g (cutI M im k) (k : Nat) true true 0 ∧ Chg w w' (fun j => j = p ∨ j = g) := by
  have hkb := kW_le M im
  have := hii.n2
  refine (run_any h (by omega) (by omega)).mono ?_
  rintro e w' (⟨hn, _⟩ | ⟨M', hii', _, rfl, hd, hc⟩ | ⟨M', gw, wc, s1, s2, s3, a1, a2, a3, hnc, _, _, hX, _⟩)
  · exact absurd hii (hn M)
  · obtain rfl : M' = M := hii.one hii'
    rw [Int.toNat_natCast, Int.zero_add] at hd
    exact ⟨rfl, hd, hc⟩
  · obtain rfl : M' = M := hii.one hX.ii
    exact absurd ⟨rfl, by omega⟩ hnc

set_option maxHeartbeats 4000000 in
set_option maxRecDepth 100000 in
theorem each_walk (s : Int) (a : Option Addr) (l : List Spt) (c : Nat) (w : World) (hs : I64 s) (hl : SptsAt w a l) (hok : ∀ x ∈ l, OkSpt x) (hll : l.length ≤ 9223372036854775807) :
    Calls Tryz.prog 7 #[.agg #[.int .i64 s, .slice a l.length c]] w fun e w' => e = .returned (.bool true) ∧ Below w.heap.size w w' := by
  have hzr := zero_rep
  have HIm : Hid (∀ W, Chg w W No → Calls Tryz.prog 11 #[.agg #[.int .i64 s, .slice a l.length c]] W fun e w' => ∃ g im, e = .returned (.slice (some ⟨g, 0, none⟩) im.length im.length) ∧ 1 ≤ im.length ∧ im.length ≤ 200 ∧ WtAt w' g im ∧ Chg W w' No) := hid (fun W hW => by
    refine (image_any s a l c W hs (hl.keep hW (fun _ _ e => e)) hok hll).mono ?_
    rintro e w' ⟨g, rfl, _, h3, h4⟩
    have hn := nP_bd s
    rw [← picI_len s l] at hn ⊢
    exact ⟨g, picI s l, rfl, hn.1, hn.2, h3, h4⟩)
  have hA := Chg.alloc w (.cells #[.int .i64 s, .slice a l.length c] 25) No
  have hA2 := heap_alloc_new w (.cells #[.int .i64 s, .slice a l.length c] 25)
  have hIm := HIm.out _ hA
  generalize l.length = m at *
  have HA := hid hA
  have HA2 := hid hA2
  have HK := hid known_any
  clear hs hl hok hll hA hA2
  go_enter Tryz.func7, Tryz.ntmps7
  go_upto_region 2 with (first
    | (refine load_R rfl 25 _ rfl w.heap.size rfl 25 _ _ HA2.out Tryz.underlying25 rfl (by kernel_rfl) ?_)
    | (go_at_call 11; go_must (refine hIm.mono ?_; rintro e w3 ⟨q, im, rfl, hn1, hn2, hwq, hc3⟩))
    | fail)
  have HC3 := hid (HA.out.tr hc3)
  have HWq := hid hwq
  have HFr : Hid (∀ W, Chg w3 W No → Calls Tryz.prog 12 #[.slice (some ⟨q, 0, none⟩) im.length im.length] W fun e w' => ∃ p g, e = .returned (.tuple #[.pointer (some ⟨p, 0, none⟩), .int .i64 0]) ∧ W.heap.size ≤ p ∧ W.heap.size ≤ g ∧ DK w' p g im 0 false false 0 ∧ Chg W w' No) := hid (fun W hW => dk_from (ic := im.length) (ImgAt.of_wt (HWq.out.keep hW (fun e => e))) hn1 (by omega))
  obtain ⟨n, hn⟩ : ∃ y, y = im.length := ⟨_, rfl⟩
  rw [← hn] at HFr hn1 hn2 ⊢
  have HN := hid hn
  have hF3 := HFr.out w3 (Chg.refl _ _)
  clear hn hwq hc3 hIm HIm
  go_upto_region 3 with (first
    | (go_at_call 12; go_must (refine hF3.mono ?_; rintro e w4 ⟨p, g, rfl, hp4, hg4, hd4, hc4⟩))
    | fail)
  have HC34 := hid hc4
  have HD4 := hid hd4
  have HPG : Hid (w3.heap.size ≤ p ∧ w3.heap.size ≤ g ∧ w.heap.size ≤ p ∧ w.heap.size ≤ g) := hid (by have := HC3.out.size; omega)
  have hK4 := HK.out w4
  clear hF3 hd4 hc4 hp4 hg4
  go_upto_region 5 with (first
    | (go_at_call 9; go_must (refine hK4.mono ?_; rintro e w6 ⟨rfl, hc6⟩))
    | fail)
  have HC36 : Hid (Chg w3 w6 No) := hid (HC34.out.tr hc6)
  have HDd : Hid (DK w6 p g im ((0 : Nat) : Int) false false 0) := hid (HD4.out.call hc6)
  have hR := run_g (cut_first im) HDd.out (by rw [← HN.out]; omega)
  have HLt := hid HDd.out.lt
  clear hc6 hK4
  obtain ⟨gE, hgE⟩ : ∃ y, y = lookE im := ⟨_, rfl⟩
  have HGE := hid hgE
  rw [← hgE] at hR
  clear hgE
  go_upto_region 6 with (first
    | (go_at_call 10; go_must (refine hR.mono ?_; rintro e w7 ⟨v0, v1, v2, v3, Jd, kd, rfl, hone, hd7, hf7, hl7, hc7⟩))
    | (refine store_R rfl 29 _ _ rfl w7.heap.size #[v0, v1, v2, v3] rfl rfl 29 _ (heap_alloc_new _ _) szRep rfl hone ?_; intro w8 hw8)
    | fail)
  have h78 : Chg w7 w8 No := (Chg.alloc w7 _ No).trans (kt_new hw8) (fun _ _ e => e) (fun j hj e => by omega)
  have HC38 : Hid (Chg w3 w8 No) := hid ((HC36.out.aside hc7 (fun j e => by have := HPG.out; omega)).tr h78)
  have HC8 : Hid (Chg w w8 No) := hid (HC3.out.tr HC38.out)
  have HDd8 := hid (hd7.call h78)
  have HWq8 := hid (HWq.out.keep HC38.out (fun e => e))
  have HG8 := hid hw8.here
  obtain ⟨b8, hb8⟩ : ∃ y, y = w7.heap.size := ⟨_, rfl⟩
  rw [← hb8] at HG8 ⊢
  have HImg : Hid (∀ (W : World) (pp gg : Nat) (J : Img) (nw : Int) (dn ar : Bool) (lf : Int), J.length = n → DK W pp gg J nw dn ar lf → Calls Tryz.prog 18 #[.pointer (some ⟨pp, 0, none⟩)] W fun e w' => ∃ q, e = .returned (.slice (some ⟨q, 0, none⟩) n n) ∧ WtAt w' q J ∧ Chg W w' No) := hid (fun W pp gg J nw dn ar lf hJ h => by
    have := dk_image h
    rw [hJ] at this
    refine this.mono ?_
    rintro e w' ⟨q, h1, _, h3, h4⟩
    exact ⟨q, h1, h3, h4⟩)
  have HSm : Hid (∀ (W : World) (J : Img) (x y xc yc : Nat), J.length = n → WtAt W x J → WtAt W y J → Calls Tryz.prog 17 #[.slice (some ⟨x, 0, none⟩) n xc, .slice (some ⟨y, 0, none⟩) n yc] W fun e w' => e = .returned (.bool true) ∧ Chg W w' No) := hid (fun W J x y xc yc hJ h1 h2 => by
    have := secs_same J (some ⟨x, 0, none⟩) (some ⟨y, 0, none⟩) xc yc W (by rw [hJ]; omega) (ImgAt.of_wt h1) (ImgAt.of_wt h2)
    rw [hJ] at this
    exact this)
  rcases hf7 with ⟨_, hg0, hnil, rfl, rfl⟩ | ⟨M, hii, hJd, hkd, hrep⟩
  · have hgb : (gE == 0) = false := beq_false_of_ne hg0
    rw [hnil] at HG8
    have c1 : w8.cell? ⟨b8, 1, none⟩ = some (.slice none 0 0) := (cell_of_row _ _ _ _ _ _ HG8.out).trans rfl
    have hWs := dk_writes HDd8.out
    have hI8 := HImg.out w8 p g Jd 0 false false 0 HN.out.symm HDd8.out
    clear hR hd7 hl7 hc7 hw8 hb8 h78 hone hg0 hnil
    go_wp2_with (first
      | (go_at_call 15; go_must (refine hWs.mono ?_; rintro e w9 ⟨rfl, hw9⟩; obtain rfl : w8 = w9 := hw9.symm))
      | (go_at_call 18; go_must (refine hI8.mono ?_; rintro e w10 ⟨q2, rfl, hq2, hc10⟩; have hS10 := HSm.out w10 Jd q2 q n n HN.out.symm hq2 (HWq8.out.keep hc10 (fun e => e))))
      | (go_at_call 17; go_must (refine hS10.mono ?_; rintro e w11 ⟨rfl, hc11⟩))
      | fail)
    go_ret
    exact ⟨rfl, ((HC8.out.tr hc10).tr hc11).below⟩
  · obtain rfl : gE = 0 := by rw [HGE.out]; exact ii_zero hii
    have HII := hid hii
    have hrep8 := hrep.call h78
    obtain ⟨gw, wc, s1, s2, s3, a1, a2, a3, er, hgw, hwt, hl1, _, _, hcap⟩ := hrep8
    rw [List.drop_zero] at hl1
    rw [Nat.sub_zero] at er hcap
    obtain ⟨T, hT⟩ : ∃ y, y = (lookL M im).wt := ⟨_, rfl⟩
    obtain ⟨Wl, hWl⟩ : ∃ y, y = writeI M im (lookL M im) := ⟨_, rfl⟩
    obtain ⟨wl, hwl⟩ : ∃ y, y = kW M im := ⟨_, rfl⟩
    have HT := hid hT
    have HWl := hid hWl
    have HwK := hid hwl
    have HwL : Hid (wl = Wl.length) := hid (by rw [hwl, hWl]; rfl)
    rw [← hT] at hwt hJd
    rw [← hWl] at hl1
    rw [← hwl] at er hcap hkd
    subst hJd hkd
    have HTl : Hid (Jd.length = n) := hid (by rw [HN.out]; exact hl7)
    have hwb : wl ≤ 600 := by have := kW_le M im; rw [← HN.out, ← hwl] at this; omega
    rw [er, ← HN.out] at HG8
    generalize (inodesI M (lookL M im)).length = il at *
    generalize (blocksI im (lookL M im)).length = bl at *
    have HWt := hid hwt
    have HL1 := hid hl1
    have HCap := hid hcap
    have HQ : Hid (∀ (W' : World) (_hW : Chg w8 W' No), W'.cell? ⟨b8, 0, none⟩ = some (.slice (some ⟨gw, 0, none⟩) n wc) ∧ W'.cell? ⟨b8, 1, none⟩ = some (.slice a1 wl s1)) := hid (fun W' hW => by
      have h0 := hW.keep HG8.out (fun e => e)
      exact ⟨(cell_of_row _ _ _ _ _ _ h0).trans rfl, (cell_of_row _ _ _ _ _ _ h0).trans rfl⟩)
    have HMl : Hid (∀ k, k < wl → ∃ m : Nat, Wl.getD k 0 = (m : Int) ∧ m < n) := hid (fun k hk => by
      have hm : Wl.getD k 0 ∈ Wl := by
        rw [HwL.out] at hk
        rw [List.getD_eq_getElem?_getD, List.getElem?_eq_getElem hk]
        exact List.getElem_mem hk
      rw [HWl.out] at hm
      obtain ⟨h0, h1, _⟩ := write_in.1 hm
      rw [← HWl.out, ← HN.out] at h1
      rw [← HWl.out] at h0
      exact ⟨(Wl.getD k 0).toNat, by omega, by omega⟩)
    clear hR hd7 hl7 hc7 hw8 hb8 h78 hone hrep er hgw hwt hl1 hcap hT hWl hwl hii
    have q1 := (HQ.out w8 (Chg.refl _ _)).2
    go_wp2_with fail
    clear q1
    go_loopw [8] (fun x wr => ∃ k : Nat, x = .int .i64 k ∧ k ≤ wl ∧ Hid (Chg w8 wr No)) (fun x _ => wl - (intOf x).toNat)
    case atStart => exact ⟨0, rfl, by omega, hid (Chg.refl _ _)⟩
    case round =>
      obtain ⟨k, rfl, hk, HCk⟩ := hrel
      obtain ⟨_, q1⟩ := HQ.out wr HCk.out
      by_cases hlt : k < wl ∧ k < 20
      · obtain ⟨hl1, hl2⟩ := hlt
        have k1 : (k : Int) < (wl : Int) := by omega
        have k2 : (k : Int) < 20 := by omega
        have k0 : (0 : Int) ≤ (k : Int) := by omega
        have hF := HFr.out wr (HC38.out.tr HCk.out)
        go_upto_region 14 with (first
          | (go_at_call 12; go_must (refine hF.mono ?_; rintro e w9 ⟨p2, g2, rfl, hp9, hg9, hd9, hc9⟩))
          | fail)
        have HC9 := hid (HCk.out.tr hc9)
        have HPG2 : Hid (w8.heap.size ≤ p2 ∧ w8.heap.size ≤ g2) := hid (by have := HCk.out.size; omega)
        have hAr := dk_arm hd9 k
        clear hF hc9 hd9 hp9 hg9 q1
        go_upto_region 15 with (first
          | (go_at_call 13; go_must (refine hAr.mono ?_; rintro e w10 ⟨rfl, hd10, hc10⟩))
          | fail)
        have HC10 : Hid (Chg w8 w10 No) := hid (HC9.out.aside hc10 (fun j e => by have := HPG2.out; omega))
        have hRk := run_k HII.out hd10 (by rw [← HwK.out]; exact hl1)
        clear hAr hd10 hc10
        go_upto_region 16 with (first
          | (go_at_call 10; go_must (refine hRk.mono ?_; rintro e w11 ⟨rfl, hd11, hc11⟩))
          | (refine store_R rfl 29 _ _ rfl w11.heap.size nil4 rfl rfl 29 _ (heap_alloc_new _ _) szRep rfl nil4_one ?_; intro w12 hw12)
          | fail)
        have h1112 : Chg w11 w12 No := (Chg.alloc w11 _ No).trans (kt_new hw12) (fun _ _ e => e) (fun j hj e => by omega)
        have HC12 : Hid (Chg w8 w12 No) := hid ((HC10.out.aside hc11 (fun j e => by have := HPG2.out; omega)).tr h1112)
        have HD12 := hid (hd11.call h1112)
        have HP12 := hid HD12.out.lt
        have HWq12 := hid (HWq8.out.keep HC12.out (fun e => e))
        clear hRk hd11 hc11 hw12 h1112
        go_upto_region 17 with (first
          | (refine wp_appImg rfl _ _ rfl w12.heap.size w12.heap.size q 0 n im rfl (by rw [← HN.out]; rfl) (heap_alloc_new _ _) (Nat.le_refl _) (ImgAt.of_wt (HWq12.out.keep (Chg.alloc w12 _ No) (fun e => e))) (by rw [← HN.out]; omega) (by rw [← HN.out]; omega) ?_; intro gN cN w13 hgN hwN hcN)
          | fail)
        rw [← HN.out]
        have HC1213 : Hid (Chg w12 w13 No) := hid ((Chg.alloc w12 _ No).aside hcN (fun j e => by omega))
        have HC13 := hid (HC12.out.tr HC1213.out)
        have HgN : Hid (w12.heap.size ≤ gN) := hid hgN
        have HN13 : Hid (WtAt w13 gN (wroteI Jd (Wl.take 0) im)) := hid hwN
        have HQ13 : Hid (∀ (W' : World) (_hW : Chg w13 W' (fun j => j = gN)), Chg w8 W' No) := hid (fun W' hW => HC13.out.aside hW (fun j e => by have := HgN.out; have := HC12.out.size; omega))
        clear hwN hcN hgN
        go_wp2_with fail
        go_loopw [14] (fun x wr => ∃ i : Nat, x = .int .i64 i ∧ i ≤ k ∧ Hid (WtAt wr gN (wroteI Jd (Wl.take i) im)) ∧ Hid (Chg w13 wr (fun j => j = gN))) (fun x _ => k - (intOf x).toNat)
        case atStart => exact ⟨0, rfl, by omega, HN13, hid (Chg.refl _ _)⟩
        case round =>
          clear HN13
          obtain ⟨i, rfl, hi, HNi, HCi⟩ := hrel
          have h8r := HQ13.out wr HCi.out
          by_cases hik : i < k
          · have hki : (i : Int) < (k : Int) := by omega
            have hi0 : (0 : Int) ≤ (i : Int) := by omega
            have hiw : (i : Int) < (wl : Int) := by omega
            have hQA := fun W' (hW : Chg wr W' (fun j => j = gN)) => HQ.out W' (HQ13.out W' (HCi.out.trans hW (fun _ _ e => e) (fun _ _ e => e)))
            have hQ0 := fun W' (hW : Chg wr W' (fun j => j = gN)) => (hQA W' hW).1
            have hQ1 := fun W' (hW : Chg wr W' (fun j => j = gN)) => (hQA W' hW).2
            obtain ⟨ga, ha1, hA1⟩ : ∃ ga, a1 = some ⟨ga, 0, none⟩ ∧ ∀ (W' : World) (_hW : Chg wr W' (fun j => j = gN)), W'.cell? ⟨ga, i, none⟩ = some (.int .i64 (Wl.getD i 0)) := by
              have hiL : i < Wl.length := by rw [← HwL.out]; omega
              rcases HL1.out with e | ⟨ga, e, ⟨A, hA⟩, hc⟩
              · rw [e] at hiL; simp at hiL
              · exact ⟨ga, e, fun W' hW => cell_keep (hc i hiL) (HQ13.out W' (HCi.out.trans hW (fun _ _ e => e) (fun _ _ e => e))) (slt hA) (fun e => e)⟩
            subst ha1
            obtain ⟨m, hm, hmn⟩ := HMl.out i (by omega)
            rw [hm] at hA1
            have m2 : (0 : Int) ≤ (m : Int) := by omega
            have m3 : (m : Int) < (n : Int) := by omega
            obtain ⟨tk, htk⟩ : ∃ y, y = secI Jd (m : Int) := ⟨_, rfl⟩
            have hR2 := fun W' (hW : Chg wr W' (fun j => j = gN)) => (HWt.out.keep (HQ13.out W' (HCi.out.trans hW (fun _ _ e => e) (fun _ _ e => e))) (fun e => e)).range (k := m) (by rw [HTl.out]; exact hmn)
            rw [← htk] at hR2
            have HTS : Hid (IsSec tk) := hid (by rw [htk]; exact HWt.out.sec _)
            have HNx : Hid ((wroteI Jd (Wl.take i) im).set m tk = wroteI Jd (Wl.take (i + 1)) im) := hid (by
              rw [take_one (by rw [← HwL.out]; omega), wroteI_append, hm, htk]
              rfl)
            clear htk hm hik h8r hQA
            go_upto_region 20 with fail
            refine wp_region_noPanic ?_
            refine wp_region_held_drew (S := fun w' => Chg wr w' (fun j => j = gN)) (by kernel_rfl) (Chg.refl _ _).drew (fun hHeld => ?_)
            refine takeVal 0 94 (.slice (some ⟨gN, 0, none⟩) n cN) rfl (by kernel_rfl) (by kernel_rfl) (by kernel_rfl) rfl (by rfl) (fun _ _ _ h => h) hHeld (fun _ hw' => rfl) ?_
            simp only [List.setIfInBounds_toArray, List.set_cons_zero, List.set_cons_succ]
            refine takeVal 1 95 (.pointer (some ⟨b8, 1, none⟩)) rfl (by kernel_rfl) (by kernel_rfl) (by kernel_rfl) rfl (by rfl) (fun _ _ _ h => h) hHeld (fun _ hw' => by clear hR2 hQ0 hQ1 hA1; go_simp) ?_
            simp only [List.setIfInBounds_toArray, List.set_cons_zero, List.set_cons_succ]
            refine takeVal 2 96 (.slice (some ⟨ga, 0, none⟩) wl s1) rfl (by kernel_rfl) (by kernel_rfl) (by kernel_rfl) rfl (by rfl) (fun _ _ _ h => h) hHeld (fun _ hw' => by have hc := hQ1 _ hw'; clear hR2 hQ0 hQ1 hA1; go_simp) ?_
            simp only [List.setIfInBounds_toArray, List.set_cons_zero, List.set_cons_succ]
            refine takeVal 3 97 (.int .i64 (i : Int)) rfl (by kernel_rfl) (by kernel_rfl) (by kernel_rfl) rfl (by rfl) (fun _ _ _ h => h) hHeld (fun _ hw' => rfl) ?_
            simp only [List.setIfInBounds_toArray, List.set_cons_zero, List.set_cons_succ]
            refine takeVal 4 98 (.pointer (some ⟨ga, i, none⟩)) rfl (by kernel_rfl) (by kernel_rfl) (by kernel_rfl) rfl (by rfl) (fun _ _ _ h => h) hHeld (fun _ hw' => by clear hR2 hQ0 hQ1 hA1; go_simp) ?_
            simp only [List.setIfInBounds_toArray, List.set_cons_zero, List.set_cons_succ]
            refine takeVal 5 99 (.int .i64 (m : Int)) rfl (by kernel_rfl) (by kernel_rfl) (by kernel_rfl) rfl (by rfl) (fun _ _ _ h => h) hHeld (fun _ hw' => by have hc := hA1 _ hw'; clear hR2 hQ0 hQ1 hA1; go_simp) ?_
            simp only [List.setIfInBounds_toArray, List.set_cons_zero, List.set_cons_succ]
            refine takeVal 6 100 (.pointer (some ⟨b8, 0, none⟩)) rfl (by kernel_rfl) (by kernel_rfl) (by kernel_rfl) rfl (by rfl) (fun _ _ _ h => h) hHeld (fun _ hw' => by clear hR2 hQ0 hQ1 hA1; go_simp) ?_
            simp only [List.setIfInBounds_toArray, List.set_cons_zero, List.set_cons_succ]
            refine takeVal 7 101 (.slice (some ⟨gw, 0, none⟩) n wc) rfl (by kernel_rfl) (by kernel_rfl) (by kernel_rfl) rfl (by rfl) (fun _ _ _ h => h) hHeld (fun _ hw' => by have hc := hQ0 _ hw'; clear hR2 hQ0 hQ1 hA1; go_simp) ?_
            simp only [List.setIfInBounds_toArray, List.set_cons_zero, List.set_cons_succ]
            refine takeVal 8 102 (.pointer (some ⟨b8, 1, none⟩)) rfl (by kernel_rfl) (by kernel_rfl) (by kernel_rfl) rfl (by rfl) (fun _ _ _ h => h) hHeld (fun _ hw' => by clear hR2 hQ0 hQ1 hA1; go_simp) ?_
            simp only [List.setIfInBounds_toArray, List.set_cons_zero, List.set_cons_succ]
            refine takeVal 9 103 (.slice (some ⟨ga, 0, none⟩) wl s1) rfl (by kernel_rfl) (by kernel_rfl) (by kernel_rfl) rfl (by rfl) (fun _ _ _ h => h) hHeld (fun _ hw' => by have hc := hQ1 _ hw'; clear hR2 hQ0 hQ1 hA1; go_simp) ?_
            simp only [List.setIfInBounds_toArray, List.set_cons_zero, List.set_cons_succ]
            refine takeVal 10 104 (.int .i64 (i : Int)) rfl (by kernel_rfl) (by kernel_rfl) (by kernel_rfl) rfl (by rfl) (fun _ _ _ h => h) hHeld (fun _ hw' => rfl) ?_
            simp only [List.setIfInBounds_toArray, List.set_cons_zero, List.set_cons_succ]
            refine takeVal 11 105 (.pointer (some ⟨ga, i, none⟩)) rfl (by kernel_rfl) (by kernel_rfl) (by kernel_rfl) rfl (by rfl) (fun _ _ _ h => h) hHeld (fun _ hw' => by clear hR2 hQ0 hQ1 hA1; go_simp) ?_
            simp only [List.setIfInBounds_toArray, List.set_cons_zero, List.set_cons_succ]
            refine takeVal 12 106 (.int .i64 (m : Int)) rfl (by kernel_rfl) (by kernel_rfl) (by kernel_rfl) rfl (by rfl) (fun _ _ _ h => h) hHeld (fun _ hw' => by have hc := hA1 _ hw'; clear hR2 hQ0 hQ1 hA1; go_simp) ?_
            simp only [List.setIfInBounds_toArray, List.set_cons_zero, List.set_cons_succ]
            refine takeVal 13 107 (.pointer (some ⟨gw, m * 128, none⟩)) rfl (by kernel_rfl) (by kernel_rfl) (by kernel_rfl) rfl (by rfl) (fun _ _ _ h => h) hHeld (fun _ hw' => by clear hR2 hQ0 hQ1 hA1; go_simp) ?_
            simp only [List.setIfInBounds_toArray, List.set_cons_zero, List.set_cons_succ]
            refine takeMid 14 108 (.tmp 107) gw (m * 128) tk HTS.out.1 rfl (by kernel_rfl) (by kernel_rfl) (by kernel_rfl) rfl rfl rfl (by rfl) (fun _ _ _ h => h) hHeld (fun _ hw' => hR2 _ hw') ?_
            simp only [List.setIfInBounds_toArray, List.set_cons_zero, List.set_cons_succ]
            refine takeVal 15 109 (.pointer (some ⟨gN, m * 128, none⟩)) rfl (by kernel_rfl) (by kernel_rfl) (by kernel_rfl) rfl (by rfl) (fun _ _ _ h => h) hHeld (fun _ hw' => by clear hR2 hQ0 hQ1 hA1; go_simp) ?_
            simp only [List.setIfInBounds_toArray, List.set_cons_zero, List.set_cons_succ]
            refine step1 16 (by kernel_rfl) ?_
            refine stStoreW 16 (.tmp 109) (.tmp 108) gN m tk (wroteI Jd (Wl.take i) im) rfl rfl (by rfl) rfl rfl rfl HTS.out (HNi.out.keep (Chg.refl wr No).drew (fun e => e)) (by rw [wroteI_len, ← HN.out]; exact hmn) ?_
            intro w7a hw7 hc7 hz7
            have hS7 := hHeld.trans hc7 (c := fun j => j = gN) (fun _ _ e => e) (fun _ _ e => e)
            refine ⟨hS7, ?_⟩
            refine wpAnyH_done (by kernel_rfl) ?_ _
            refine NoPanic.normal ?_
            have HC6 : Hid (Chg w13 w7a (fun j => j = gN)) := hid (HCi.out.trans hS7 (fun _ _ e => e) (fun _ _ e => e))
            have HN6 : Hid (WtAt w7a gN (wroteI Jd (Wl.take (i + 1)) im)) := hid (by rw [← HNx.out]; exact hw7)
            clear hS7 hw7 hz7 hR2 hQ0 hQ1 hA1
            go_wp2_with fail
            exact ⟨⟨i + 1, by go_num, by omega, HN6, HC6⟩, by simp [intOf]; omega⟩
          · have hki : ¬ (i : Int) < (k : Int) := by omega
            obtain rfl : i = k := by omega
            have HCu : Hid (CutI im (cutI M im i) i) := hid (.inr ⟨M, HII.out, by rw [← HwK.out]; omega, rfl⟩)
            have HCl : Hid ((cutI M im i).length = n) := hid (by rw [cutI_len, HN.out])
            have HWn : Hid (WtAt wr gN (cutI M im i)) := hid (by
              have := HNi.out
              rw [HT.out, HWl.out] at this
              exact this)
            have HDr : Hid (DK wr p2 g2 (cutI M im i) (i : Nat) true true 0) := hid ((HD12.out.call HC1213.out).keep HCi.out (by have := HgN.out; have := HP12.out; omega) (by have := HgN.out; have := HP12.out; omega))
            have hI1 := HImg.out wr p2 g2 _ _ _ _ _ HCl.out HDr.out
            have H8r := hid h8r
            obtain ⟨J2, hJ2⟩ : ∃ y, y = cutI M im i := ⟨_, rfl⟩
            have HJ2 := hid hJ2
            rw [← hJ2] at hI1 HWn HDr HCl HCu
            clear hi h8r HNi hJ2
            go_upto_region 23 with (first
              | (go_at_call 18; go_must (refine hI1.mono ?_; rintro e w15 ⟨q3, rfl, hq3, hc15⟩; have hS15 := HSm.out w15 J2 q3 gN n cN HCl.out hq3 (HWn.out.keep hc15 (fun e => e))))
              | (go_at_call 17; go_must (refine hS15.mono ?_; rintro e w16 ⟨rfl, hc16⟩))
              | fail)
            have HC16 := hid ((H8r.out.tr hc15).tr hc16)
            have hRs := dk_restart (HDr.out.call (hc15.tr hc16))
            clear hI1 hS15 hq3 hc15 hc16
            go_upto_region 24 with (first
              | (go_at_call 16; go_must (refine hRs.mono ?_; rintro e w17 ⟨rfl, hd17, hc17⟩))
              | fail)
            have HC17 : Hid (Chg w8 w17 No) := hid (HC16.out.aside hc17 (fun j e => by have := HPG2.out; omega))
            have hRg := run_g HCu.out hd17 (by rw [← HN.out]; omega)
            rw [← HGE.out] at hRg
            clear hRs hd17 hc17
            go_upto_region 25 with (first
              | (go_at_call 10; go_must (refine hRg.mono ?_; rintro e w18 ⟨y0, y1, y2, y3, Jc, kc, rfl, hone2, hd18, hf18, hl18, hc18⟩))
              | (refine store_R rfl 29 _ _ rfl w18.heap.size #[y0, y1, y2, y3] rfl rfl 29 _ (heap_alloc_new _ _) szRep rfl hone2 ?_; intro w19 hw19)
              | fail)
            have h1819 : Chg w18 w19 No := (Chg.alloc w18 _ No).trans (kt_new hw19) (fun _ _ e => e) (fun j hj e => by omega)
            have HC19 : Hid (Chg w8 w19 No) := hid ((HC17.out.aside hc18 (fun j e => by have := HPG2.out; omega)).tr h1819)
            obtain ⟨hJc, hrepc⟩ : Jc = Jd ∧ RepC w17 w18 im M i #[y0, y1, y2, y3] := by
              rcases hf18 with ⟨k1, _⟩ | ⟨M', k1, k2, _, k4⟩
              · exact absurd HII.out (k1 M)
              · obtain rfl : M' = M := HII.out.one k1
                exact ⟨by rw [k2, HT.out], k4⟩
            subst hJc
            obtain ⟨gx, xc, t1, t2, t3, c1, c2, c3, ey, _, _, hm1, _, _, _⟩ := hrepc.call h1819
            rw [← HWl.out] at hm1
            rw [← HwK.out, ← HN.out] at ey
            have HM1 := hid hm1
            have HD19 := hid (hd18.call h1819)
            have HG19 := hid hw19.here
            obtain ⟨b19, hb19⟩ : ∃ y, y = w18.heap.size := ⟨_, rfl⟩
            rw [← hb19, ey] at HG19
            rw [← hb19]
            generalize (inodesI M (lookL M im)).length = il2 at *
            generalize (blocksI im (lookL M im)).length = bl2 at *
            have hQ0 := fun W' (hW : Chg w19 W' No) => (HQ.out W' (HC19.out.tr hW)).1
            have hQ1 := fun W' (hW : Chg w19 W' No) => (HQ.out W' (HC19.out.tr hW)).2
            have hP1 : ∀ (W' : World) (_hW : Chg w19 W' No), W'.cell? ⟨b19, 1, none⟩ = some (.slice c1 (wl - i) t1) := fun W' hW => (cell_of_row _ _ _ _ _ _ (hW.keep HG19.out (fun e => e))).trans rfl
            have hl4 := rest_at (c := s1) HL1.out (by rw [← HwL.out]; exact HCap.out) i (by rw [← HwL.out]; omega)
            obtain ⟨a4, ha4⟩ : ∃ y, y = (if s1 = i then a1 else Option.map (fun x => x.add i) a1) := ⟨_, rfl⟩
            rw [← ha4] at hl4
            have HA4 := hid ha4
            have HL4 := hid hl4
            have hp4 : (i : Int) ≤ (wl : Int) := by omega
            have HDl : Hid ((Wl.drop i).length = wl - i) := hid (by rw [List.length_drop, HwL.out])
            have HS1 : Hid (∀ (W' : World) (_hW : Chg w19 W' No), Calls Tryz.prog 28 #[.slice c1 (wl - i) t1, .slice a4 (wl - i) (s1 - i)] W' fun e w' => e = .returned (.bool true) ∧ Chg W' w' No) := hid (fun W' hW => by
              have hq := ints_like (Wl.drop i) c1 a4 t1 (s1 - i) W' (by rw [HDl.out]; omega) ((LatO.of HM1.out).call hW) (HL4.out.call (HC19.out.tr hW))
              rw [HDl.out] at hq
              exact hq)
            clear hb19 ey hm1 hl4 ha4 hrepc hf18 hl18 hd18 hc18 h1819 hw19 hone2 hRg
            refine wp_region_noPanic ?_
            refine wp_region_held_drew (S := fun w' => Chg w19 w' No) (by kernel_rfl) (Chg.refl _ _).drew (fun hHeld => ?_)
            refine takeVal 0 126 (.int .i64 0) rfl (by kernel_rfl) (by kernel_rfl) (by kernel_rfl) rfl (by rfl) (fun _ _ _ h => h) hHeld (fun _ hw' => rfl) ?_
            simp only [List.setIfInBounds_toArray, List.set_cons_zero, List.set_cons_succ]
            refine takeVal 1 127 (.bool false) rfl (by kernel_rfl) (by kernel_rfl) (by kernel_rfl) rfl (by rfl) (fun _ _ _ h => h) hHeld (fun _ hw' => by clear hQ0 hQ1 hP1; go_simp) ?_
            simp only [List.setIfInBounds_toArray, List.set_cons_zero, List.set_cons_succ]
            refine takeVal 2 128 (.bool false) rfl (by kernel_rfl) (by kernel_rfl) (by kernel_rfl) rfl (by rfl) (fun _ _ _ h => h) hHeld (fun _ hw' => rfl) ?_
            simp only [List.setIfInBounds_toArray, List.set_cons_zero, List.set_cons_succ]
            refine takeVal 3 129 (.pointer (some ⟨b19, 1, none⟩)) rfl (by kernel_rfl) (by kernel_rfl) (by kernel_rfl) rfl (by rfl) (fun _ _ _ h => h) hHeld (fun _ hw' => by clear hQ0 hQ1 hP1; go_simp) ?_
            simp only [List.setIfInBounds_toArray, List.set_cons_zero, List.set_cons_succ]
            refine takeVal 4 130 (.slice c1 (wl - i) t1) rfl (by kernel_rfl) (by kernel_rfl) (by kernel_rfl) rfl (by rfl) (fun _ _ _ h => h) hHeld (fun _ hw' => by have hc := hP1 _ hw'; clear hQ0 hQ1 hP1; go_simp) ?_
            simp only [List.setIfInBounds_toArray, List.set_cons_zero, List.set_cons_succ]
            refine takeVal 5 131 (.pointer (some ⟨b8, 1, none⟩)) rfl (by kernel_rfl) (by kernel_rfl) (by kernel_rfl) rfl (by rfl) (fun _ _ _ h => h) hHeld (fun _ hw' => by clear hQ0 hQ1 hP1; go_simp) ?_
            simp only [List.setIfInBounds_toArray, List.set_cons_zero, List.set_cons_succ]
            refine takeVal 6 132 (.slice a1 wl s1) rfl (by kernel_rfl) (by kernel_rfl) (by kernel_rfl) rfl (by rfl) (fun _ _ _ h => h) hHeld (fun _ hw' => by have hc := hQ1 _ hw'; clear hQ0 hQ1 hP1; go_simp) ?_
            simp only [List.setIfInBounds_toArray, List.set_cons_zero, List.set_cons_succ]
            refine takeVal 7 133 (.int .i64 (i : Int)) rfl (by kernel_rfl) (by kernel_rfl) (by kernel_rfl) rfl (by rfl) (fun _ _ _ h => h) hHeld (fun _ hw' => rfl) ?_
            simp only [List.setIfInBounds_toArray, List.set_cons_zero, List.set_cons_succ]
            refine takeVal 8 134 (.slice a4 (wl - i) (s1 - i)) rfl (by kernel_rfl) (by kernel_rfl) (by kernel_rfl) rfl (by rfl) (fun _ _ _ h => h) hHeld (fun _ hw' => by have h4 := HA4.out; clear hQ0 hQ1 hP1; subst h4; go_simp) ?_
            simp only [List.setIfInBounds_toArray, List.set_cons_zero, List.set_cons_succ]
            refine step1 9 (by kernel_rfl) ?_
            refine stCall 9 135 28 #[.slice c1 (wl - i) t1, .slice a4 (wl - i) (s1 - i)] _ rfl rfl (by rfl) (by clear hQ0 hQ1 hP1; go_simp) (HS1.out _ hHeld) ?_
            rintro e w20 ⟨rfl, hcc⟩
            refine ⟨_, rfl, hHeld.tr hcc, ?_⟩
            replace hHeld := hHeld.tr hcc
            simp only [List.setIfInBounds_toArray, List.set_cons_zero, List.set_cons_succ]
            refine takeVal 10 136 (.bool false) rfl (by kernel_rfl) (by kernel_rfl) (by kernel_rfl) rfl (by rfl) (fun _ _ _ h => h) hHeld (fun _ hw' => by clear hQ0 hQ1 hP1; go_simp) ?_
            simp only [List.setIfInBounds_toArray, List.set_cons_zero, List.set_cons_succ]
            refine takeVal 11 137 (.bool false) rfl (by kernel_rfl) (by kernel_rfl) (by kernel_rfl) rfl (by rfl) (fun _ _ _ h => h) hHeld (fun _ hw' => rfl) ?_
            simp only [List.setIfInBounds_toArray, List.set_cons_zero, List.set_cons_succ]
            refine takeVal 12 138 (.bool false) rfl (by kernel_rfl) (by kernel_rfl) (by kernel_rfl) rfl (by rfl) (fun _ _ _ h => h) hHeld (fun _ hw' => rfl) ?_
            simp only [List.setIfInBounds_toArray, List.set_cons_zero, List.set_cons_succ]
            refine takeVal 13 139 (.pointer (some ⟨p2, 0, none⟩)) rfl (by kernel_rfl) (by kernel_rfl) (by kernel_rfl) rfl (by rfl) (fun _ _ _ h => h) hHeld (fun _ hw' => rfl) ?_
            simp only [List.setIfInBounds_toArray, List.set_cons_zero, List.set_cons_succ]
            refine takeVal 15 141 (.pointer (some ⟨b8, 0, none⟩)) rfl (by kernel_rfl) (by kernel_rfl) (by kernel_rfl) rfl (by rfl) (fun _ _ _ h => h) hHeld (fun _ hw' => by clear hQ0 hQ1 hP1; go_simp) ?_
            simp only [List.setIfInBounds_toArray, List.set_cons_zero, List.set_cons_succ]
            refine takeVal 16 142 (.slice (some ⟨gw, 0, none⟩) n wc) rfl (by kernel_rfl) (by kernel_rfl) (by kernel_rfl) rfl (by rfl) (fun _ _ _ h => h) hHeld (fun _ hw' => by have hc := hQ0 _ hw'; clear hQ0 hQ1 hP1; go_simp) ?_
            simp only [List.setIfInBounds_toArray, List.set_cons_zero, List.set_cons_succ]
            refine step1 14 (by kernel_rfl) ?_
            refine stCall 14 140 18 #[.pointer (some ⟨p2, 0, none⟩)] _ rfl rfl (by rfl) (by clear hQ0 hQ1 hP1; go_simp) (HImg.out _ p2 g2 _ _ _ _ _ HTl.out (HD19.out.call hHeld)) ?_
            rintro e w21 ⟨q9, rfl, hq9, hcc⟩
            refine ⟨_, rfl, hHeld.tr hcc, ?_⟩
            replace hHeld := hHeld.tr hcc
            simp only [List.setIfInBounds_toArray, List.set_cons_zero, List.set_cons_succ]
            refine step1 17 (by kernel_rfl) ?_
            refine stCall 17 143 17 #[.slice (some ⟨q9, 0, none⟩) n n, .slice (some ⟨gw, 0, none⟩) n wc] _ rfl rfl (by rfl) (by clear hQ0 hQ1 hP1; go_simp) (HSm.out _ Jc q9 gw n wc HTl.out hq9 (HWt.out.keep (HC19.out.tr hHeld) (fun e => e))) ?_
            rintro e w22 ⟨rfl, hcc⟩
            refine ⟨_, rfl, hHeld.tr hcc, ?_⟩
            replace hHeld := hHeld.tr hcc
            simp only [List.setIfInBounds_toArray, List.set_cons_zero, List.set_cons_succ]
            refine takeVal 18 144 (.bool false) rfl (by kernel_rfl) (by kernel_rfl) (by kernel_rfl) rfl (by rfl) (fun _ _ _ h => h) hHeld (fun _ hw' => by clear hQ0 hQ1 hP1; go_simp) ?_
            simp only [List.setIfInBounds_toArray, List.set_cons_zero, List.set_cons_succ]
            refine takeVal 19 145 (.bool false) rfl (by kernel_rfl) (by kernel_rfl) (by kernel_rfl) rfl (by rfl) (fun _ _ _ h => h) hHeld (fun _ hw' => rfl) ?_
            simp only [List.setIfInBounds_toArray, List.set_cons_zero, List.set_cons_succ]
            refine wpAnyH_done (by kernel_rfl) ?_ _
            refine NoPanic.normal ?_
            have HCf : Hid (Chg w8 w22 No) := hid (HC19.out.tr hHeld)
            clear hHeld hQ0 hQ1 hP1
            go_wp2_with fail
            exact ⟨⟨i + 1, by go_num, by omega, HCf⟩, by simp [intOf]; omega⟩
      · have hst2 : ¬ ((k : Int) < (wl : Int)) ∨ ((k : Int) < (wl : Int) ∧ ¬ (k : Int) < 20) := by
          by_cases e : k < wl
          · exact .inr ⟨by omega, fun e2 => hlt ⟨e, by omega⟩⟩
          · exact .inl (by omega)
        have hQ1 := fun W' (hW : Chg wr W' No) => (HQ.out W' (HCk.out.tr hW)).2
        have HDr := hid (HDd8.out.call HCk.out)
        have HCw := hid (HC8.out.tr HCk.out)
        clear hlt hk
        rcases hst2 with e1 | ⟨e1, e2⟩
        · go_upto_region 27 with fail
          refine wp_region_noPanic ?_
          refine wp_region_held_drew (S := fun w' => Chg wr w' No) (by kernel_rfl) (Chg.refl _ _).drew (fun hHeld => ?_)
          refine takeVal 0 146 (.pointer (some ⟨b8, 1, none⟩)) rfl (by kernel_rfl) (by kernel_rfl) (by kernel_rfl) rfl (by rfl) (fun _ _ _ h => h) hHeld (fun _ hw' => by clear hQ1; go_simp) ?_
          simp only [List.setIfInBounds_toArray, List.set_cons_zero, List.set_cons_succ]
          refine takeVal 1 147 (.slice a1 wl s1) rfl (by kernel_rfl) (by kernel_rfl) (by kernel_rfl) rfl (by rfl) (fun _ _ _ h => h) hHeld (fun _ hw' => by have hc := hQ1 _ hw'; clear hQ1; go_simp) ?_
          simp only [List.setIfInBounds_toArray, List.set_cons_zero, List.set_cons_succ]
          refine takeVal 2 148 (.int .i64 (wl : Int)) rfl (by kernel_rfl) (by kernel_rfl) (by kernel_rfl) rfl (by rfl) (fun _ _ _ h => h) hHeld (fun _ hw' => by clear hQ1; go_simp) ?_
          simp only [List.setIfInBounds_toArray, List.set_cons_zero, List.set_cons_succ]
          refine takeVal 3 149 (.pointer (some ⟨p, 0, none⟩)) rfl (by kernel_rfl) (by kernel_rfl) (by kernel_rfl) rfl (by rfl) (fun _ _ _ h => h) hHeld (fun _ hw' => rfl) ?_
          simp only [List.setIfInBounds_toArray, List.set_cons_zero, List.set_cons_succ]
          refine step1 4 (by kernel_rfl) ?_
          refine stCall 4 150 15 #[.pointer (some ⟨p, 0, none⟩)] _ rfl rfl (by rfl) (by clear hQ1; go_simp) (dk_writes (HDr.out.call hHeld)) ?_
          rintro e w20 ⟨rfl, hw20⟩
          subst hw20
          refine ⟨_, rfl, hHeld, ?_⟩
          simp only [List.setIfInBounds_toArray, List.set_cons_zero, List.set_cons_succ]
          refine takeVal 5 151 (.bool true) rfl (by kernel_rfl) (by kernel_rfl) (by kernel_rfl) rfl (by rfl) (fun _ _ _ h => h) hHeld (fun _ hw' => by clear hQ1; go_simp) ?_
          simp only [List.setIfInBounds_toArray, List.set_cons_zero, List.set_cons_succ]
          refine takeVal 6 2 (.bool true) rfl (by kernel_rfl) (by kernel_rfl) (by kernel_rfl) rfl (by rfl) (fun _ _ _ h => h) hHeld (fun _ hw' => rfl) ?_
          simp only [List.setIfInBounds_toArray, List.set_cons_zero, List.set_cons_succ]
          refine wpAnyH_done (by kernel_rfl) ?_ _
          refine NoPanic.normal ?_
          have HCf := hid (HCw.out.tr hHeld)
          clear hHeld hQ1
          go_wp2_with fail
          go_ret
          exact ⟨rfl, HCf.out.below⟩
        · go_upto_region 27 with fail
          refine wp_region_noPanic ?_
          refine wp_region_held_drew (S := fun w' => Chg wr w' No) (by kernel_rfl) (Chg.refl _ _).drew (fun hHeld => ?_)
          refine takeVal 0 146 (.pointer (some ⟨b8, 1, none⟩)) rfl (by kernel_rfl) (by kernel_rfl) (by kernel_rfl) rfl (by rfl) (fun _ _ _ h => h) hHeld (fun _ hw' => by clear hQ1; go_simp) ?_
          simp only [List.setIfInBounds_toArray, List.set_cons_zero, List.set_cons_succ]
          refine takeVal 1 147 (.slice a1 wl s1) rfl (by kernel_rfl) (by kernel_rfl) (by kernel_rfl) rfl (by rfl) (fun _ _ _ h => h) hHeld (fun _ hw' => by have hc := hQ1 _ hw'; clear hQ1; go_simp) ?_
          simp only [List.setIfInBounds_toArray, List.set_cons_zero, List.set_cons_succ]
          refine takeVal 2 148 (.int .i64 (wl : Int)) rfl (by kernel_rfl) (by kernel_rfl) (by kernel_rfl) rfl (by rfl) (fun _ _ _ h => h) hHeld (fun _ hw' => by clear hQ1; go_simp) ?_
          simp only [List.setIfInBounds_toArray, List.set_cons_zero, List.set_cons_succ]
          refine takeVal 3 149 (.pointer (some ⟨p, 0, none⟩)) rfl (by kernel_rfl) (by kernel_rfl) (by kernel_rfl) rfl (by rfl) (fun _ _ _ h => h) hHeld (fun _ hw' => rfl) ?_
          simp only [List.setIfInBounds_toArray, List.set_cons_zero, List.set_cons_succ]
          refine step1 4 (by kernel_rfl) ?_
          refine stCall 4 150 15 #[.pointer (some ⟨p, 0, none⟩)] _ rfl rfl (by rfl) (by clear hQ1; go_simp) (dk_writes (HDr.out.call hHeld)) ?_
          rintro e w20 ⟨rfl, hw20⟩
          subst hw20
          refine ⟨_, rfl, hHeld, ?_⟩
          simp only [List.setIfInBounds_toArray, List.set_cons_zero, List.set_cons_succ]
          refine takeVal 5 151 (.bool true) rfl (by kernel_rfl) (by kernel_rfl) (by kernel_rfl) rfl (by rfl) (fun _ _ _ h => h) hHeld (fun _ hw' => by clear hQ1; go_simp) ?_
          simp only [List.setIfInBounds_toArray, List.set_cons_zero, List.set_cons_succ]
          refine takeVal 6 2 (.bool true) rfl (by kernel_rfl) (by kernel_rfl) (by kernel_rfl) rfl (by rfl) (fun _ _ _ h => h) hHeld (fun _ hw' => rfl) ?_
          simp only [List.setIfInBounds_toArray, List.set_cons_zero, List.set_cons_succ]
          refine wpAnyH_done (by kernel_rfl) ?_ _
          refine NoPanic.normal ?_
          have HCf := hid (HCw.out.tr hHeld)
          clear hHeld hQ1
          go_wp2_with fail
          go_ret
          exact ⟨rfl, HCf.out.below⟩
end Go.Proofs.YtboammbcoleicaaGreat
