/-
  LookRefuses: refused are just the images that have no first sector of their size, and those whose root is no directory.
-/
import Derived.Test.YtpmignilhoihnabGreatRI3
import Derived.Test.YtpmignilhoihnabGreatLN2
import Derived.Test.YtpmignilhoihnabGreatY3
import Derived.Test.YtpmignilhoihnabGreatLF3
namespace Go.Proofs.YtpmignilhoihnabGreat
open Go.RowKit

theorem say_small {s : List Int} {P L : Nat} (h7 : L ≤ 7) : sayV s P L = numAt s P L := by
  unfold sayV
  rw [if_neg (fun k => by have := k.1; omega)]
  simp
theorem pls_small : ∀ m, m < 18 → m ≠ 3 → ∃ P L : Nat, pls.getD m (0, 0) = ((P : Int), (L : Int)) ∧ P + L ≤ 128 ∧ 1 ≤ L ∧ L ≤ 7 := by
  intro m hm h3
  refine ⟨(pls.getD m (0, 0)).1.toNat, (pls.getD m (0, 0)).2.toNat, ?_⟩
  revert m
  decide
theorem same_at {s : List Int} (hs : IsSec s) {m : Nat} (hm : m < 18) (h3 : m ≠ 3) : gv s m = pv s m := by
  obtain ⟨P, L, e, h1, h2, h4⟩ := pls_small m hm h3
  unfold gv pv
  rw [e]
  show getV s (P : Int) (L : Int) = sayV s (P : Int) (L : Int)
  rw [getV_small hs h1 h2 h4, say_small h4]
theorem same_3 {s : List Int} (hs : IsSec s) : gv s 3 = pv s 3 ∨ (¬ (0 ≤ gv s 3 ∧ gv s 3 ≤ 1099511627776) ∧ ¬ (0 ≤ pv s 3 ∧ pv s 3 ≤ 1099511627776)) := by
  have eg : gv s 3 = if numAt s 8 8 ≤ top then numAt s 8 8 else -1 := by
    show getV s 8 8 = _
    unfold getV getE getN
    rw [if_pos (show inB 8 8 = true by decide)]
    by_cases h : numAt s 8 8 ≤ top
    · have h' : numAt s (8 : Int).toNat (8 : Int).toNat ≤ top := h
      rw [if_pos h', if_pos rfl, if_pos ⟨by decide, h'⟩, if_pos h]
      rfl
    · have h' : ¬ numAt s (8 : Int).toNat (8 : Int).toNat ≤ top := h
      rw [if_neg h', if_neg (by decide), if_neg h]
  have ep : pv s 3 = if s.getD 15 0 ≠ 0 then -1 else numAt s 8 8 := by
    show sayV s 8 8 = _
    unfold sayV
    by_cases h : s.getD 15 0 ≠ 0
    · rw [if_pos h, if_pos ⟨rfl, h⟩]
    · rw [if_neg h, if_neg (fun k => h k.2)]
      rfl
  have hb7 := numAt_bd hs 8 7
  have e8 : numAt s 8 8 = numAt s 8 7 + s.getD 15 0 * 256 ^ 7 := rfl
  have e7 : (256 : Int) ^ 7 = 72057594037927936 := by decide
  have h15 := hs.at 15
  rw [e7] at e8 hb7
  by_cases h : s.getD 15 0 = 0
  · left
    have ht : numAt s 8 8 ≤ top := by rw [top_eq, e8, h]; omega
    rw [eg, ep, if_pos ht, if_neg (show ¬ s.getD 15 0 ≠ 0 from fun k => k h)]
  · right
    refine ⟨?_, ?_⟩
    · rw [eg]
      split
      · omega
      · omega
    · rw [ep, if_pos h]
      omega
theorem get_map18 (f : Nat → Int) {m : Nat} (hm : m < 18) : ((List.range 18).map f).getD m 0 = f m := by
  rw [List.getD_eq_getElem?_getD, List.getElem?_map, List.getElem?_range hm]
  rfl
theorem zTo_at (s : List Int) {m : Nat} (hm : m < 18) : (zTo s 18).getD m 0 = gv s m := by
  unfold zTo
  rw [get_map18 _ hm, if_pos hm]
theorem yA_at (s : List Int) {m : Nat} (hm : m < 18) : (yA s).getD m 0 = pv s m := by
  unfold yA yTo
  rw [get_map18 _ hm, if_pos (by omega)]
theorem yA_len (s : List Int) : (yA s).length = 18 := yTo_len s 12
theorem inoB_far {z : List Int} (h : ¬ (0 ≤ z.getD 3 0 ∧ z.getD 3 0 ≤ 1099511627776)) : inoB z = false := by
  unfold inoB
  split
  · apply decide_eq_false
    intro e
    rw [e] at h
    exact h (by decide)
  · rw [allB_false (m := 3) (by decide) h]
    rfl
theorem rd_same {s : List Int} (hs : IsSec s) : rdIno (yA s) s = rdIno (zTo s 18) s := by
  rcases same_3 hs with h | ⟨h1, h2⟩
  · have e : yA s = zTo s 18 := by
      apply List.ext_getElem (by rw [yA_len, zTo_len])
      intro i k1 k2
      rw [yA_len] at k1
      have a1 := yA_at s k1
      have a2 := zTo_at s k1
      rw [List.getD_eq_getElem?_getD, List.getElem?_eq_getElem (by rw [yA_len]; exact k1)] at a1
      rw [List.getD_eq_getElem?_getD, List.getElem?_eq_getElem k2] at a2
      have a3 : gv s i = pv s i := by
        by_cases c : i = 3
        · rw [c]; exact h
        · exact same_at hs k1 c
      simp only [Option.getD_some] at a1 a2
      rw [a1, a2, a3]
    rw [e]
  · have f1 : inoB (zTo s 18) = false := inoB_far (by rw [zTo_at s (by decide)]; exact h1)
    have f2 : inoB (yA s) = false := inoB_far (by rw [yA_at s (by decide)]; exact h2)
    unfold rdIno
    rw [f1, f2]
    simp

end Go.Proofs.YtpmignilhoihnabGreat

namespace Go.Proofs.YtpmignilhoihnabGreat
open Go.RowKit Go.Shelf

theorem read_same {s : List Int} (hs : IsSec s) : rdSup (sayV s 4 4) (sayV s 8 4) s = rdSup (getV s 4 4) (getV s 8 4) s := by
  have e1 : sayV s 4 4 = numAt s 4 4 := sayV_small (P := 4) (L := 4) (by decide)
  have e2 : sayV s 8 4 = numAt s 8 4 := sayV_small (P := 8) (L := 4) (by decide)
  have e3 : getV s 4 4 = numAt s 4 4 := getV_small (P := 4) (L := 4) hs (by decide) (by decide) (by decide)
  have e4 : getV s 8 4 = numAt s 8 4 := getV_small (P := 8) (L := 4) hs (by decide) (by decide) (by decide)
  rw [e1, e2, e3, e4]

/-- look.Look, of any image: what it answers. -/
theorem look_all (ia : Option Addr) (ic : Nat) (im : Img) (w : World) (h : ImgAt w ia im) :
    Calls Tryz.prog 7 #[.slice ia im.length ic] w fun e w' => ∃ r, e = .returned (.tuple #[.agg r, .int .i64 (lookE im)]) ∧ Chg w w' No ∧ r.size = 4 ∧ r.all (·.oneCell') = true := by
  by_cases he : (supOf im).2.2 = 0
  · refine (look_good ia ic im (supOf im).2.1.toNat w h he rfl).mono ?_
    rintro e w' ⟨r, rfl, hc, h1, h2⟩
    refine ⟨r, ?_, hc, ?_⟩
    · have hE : lookE im = if rootB (supOf im).2.1.toNat im = true then 0 else 121 := by
        unfold lookE
        exact if_neg (by rw [he]; decide)
      rw [hE]
    · cases hb : rootB (supOf im).2.1.toNat im with
      | false => rw [h1 hb]; exact ⟨rfl, nil4_one⟩
      | true =>
        obtain ⟨g, wc, v1, v2, v3, rfl, _, _, hR⟩ := h2 hb
        exact ⟨rfl, rep_one _ _ _ hR.o1.one hR.o2.one hR.o3.one⟩
  · refine (look_bad ia ic im w h he).mono ?_
    rintro e w' ⟨rfl, hc⟩
    exact ⟨nil4, by unfold lookE; rw [if_pos he], hc, rfl, nil4_one⟩
theorem lookE_far {im : Img} (h : ¬ (8 ≤ im.length ∧ im.length ≤ 4096)) : lookE im = 120 := by
  unfold lookE supOf
  rw [if_neg h, if_pos (by decide)]
theorem lookE_sup {im : Img} (h : 8 ≤ im.length ∧ im.length ≤ 4096) (hr : ¬ ((rdSup (getV (secI im 0) 4 4) (getV (secI im 0) 8 4) (secI im 0)).2.2 = 0 ∧ (rdSup (getV (secI im 0) 4 4) (getV (secI im 0) 8 4) (secI im 0)).1 = im.length)) : lookE im = 120 := by
  unfold lookE supOf
  rw [if_pos h]
  simp only
  rw [if_neg hr, if_pos (by decide)]
theorem lookE_root {im : Img} (h : 8 ≤ im.length ∧ im.length ≤ 4096) (hr : (rdSup (getV (secI im 0) 4 4) (getV (secI im 0) 8 4) (secI im 0)).2.2 = 0 ∧ (rdSup (getV (secI im 0) 4 4) (getV (secI im 0) 8 4) (secI im 0)).1 = im.length) :
    lookE im = if (rdIno (zTo (secI im 1) 18) (secI im 1)).2 = 0 ∧ (rdIno (zTo (secI im 1) 18) (secI im 1)).1.getD 0 0 = 2 then 0 else 121 := by
  have e : supOf im = rdSup (getV (secI im 0) 4 4) (getV (secI im 0) 8 4) (secI im 0) := by
    unfold supOf
    rw [if_pos h]
    simp only
    rw [if_pos hr]
  obtain ⟨_, _, _, h4, _⟩ := supOf_ok (im := im) (by rw [e]; exact hr.1)
  unfold lookE
  rw [if_neg (by rw [e, hr.1]; decide)]
  congr 1
  rw [rootB_parts]
  unfold soundZ
  rw [if_pos ⟨by decide, by omega⟩]
  simp only [Bool.and_eq_true, decide_eq_true_eq, eq_iff_iff]
  constructor
  · rintro ⟨⟨h1, _⟩, h2⟩
    exact ⟨h1, h2⟩
  · rintro ⟨h1, h2⟩
    exact ⟨⟨h1, by rw [h2]; decide⟩, h2⟩

set_option maxHeartbeats 2000000 in
set_option maxRecDepth 100000 in
theorem refuses_walk (ia : Option Addr) (ic : Nat) (im : Img) (W : World) (h : ImgAt W ia im) (hn : im.length ≤ 9223372036854775807) :
    Calls Tryz.prog 5 #[.slice ia im.length ic] W fun e w' => e = .returned (.bool true) ∧ Below W.heap.size W w' := by
  have hzr := zero_rep
  have hzi := zero_inode
  have hzs : ∀ w', (zeroValue 32).run Tryz.prog w' = .ok (.agg #[.int .i64 0, .int .i64 0]) w' := fun w' => by kernel_rfl
  have hK := known_any W
  have HI := hid h
  have HLk : Hid (∀ W', ImgAt W' ia im → Calls Tryz.prog 7 #[.slice ia im.length ic] W' fun e w' => ∃ r, e = .returned (.tuple #[.agg r, .int .i64 (lookE im)]) ∧ Chg W' w' No ∧ r.size = 4 ∧ r.all (·.oneCell') = true) := hid (fun W' hW => look_all ia ic im W' hW)
  have HF := hid (lookE_far (im := im))
  have HS := hid (lookE_sup (im := im))
  have HR := hid (lookE_root (im := im))
  have HD : Hid (∀ j, j < im.length → im[j]? = some (secI im (j : Int))) := hid (fun j hj => getD_at hj)
  have HSec : Hid (∀ j, IsSec (secI im j)) := hid h.secI
  have HNil : Hid (im = [] → im.length = 0) := hid (fun e => by rw [e]; rfl)
  obtain ⟨E, hE⟩ : ∃ y, y = lookE im := ⟨_, rfl⟩
  rw [← hE] at HLk HF HS HR
  obtain ⟨n, hnn⟩ : ∃ y, y = im.length := ⟨_, rfl⟩
  rw [← hnn] at HLk HF HS HR HD HNil hn ⊢
  clear h hE hnn
  go_enter Tryz.func5, Tryz.ntmps5
  go_upto_region 6 with (first
    | (go_at_call 6; go_must (refine hK.mono ?_; rintro e w1 ⟨rfl, hc1⟩; have hLk := HLk.out w1 (HI.out.keep hc1 (fun _ _ e => e))))
    | (go_at_call 7; go_must (refine hLk.mono ?_; rintro e w2 ⟨r, rfl, hc2, hr4, hr1⟩))
    | (refine store_R rfl 26 _ _ rfl w2.heap.size r rfl rfl 26 _ (heap_alloc_new _ _) (by rw [szRep, hr4]) (by rw [hr4]; rfl) hr1 ?_; intro w3 hw3)
    | fail)
  have h03 : Chg W w3 No := ((hc1.tr hc2).tr (Chg.alloc w2 _ No)).trans (kt_new hw3) (fun _ _ e => e) (fun j hj e => by have := (hc1.tr hc2).size; omega)
  have HC3 := hid h03
  have HI3 := hid (HI.out.keep h03 (fun _ _ e => e))
  clear hw3 hc1 hc2 hLk hr4 hr1 h03 hK
  by_cases hr : 8 ≤ n ∧ n ≤ 4096
  · obtain ⟨b, o, hia, hb, hrg⟩ : ∃ b o, ia = some ⟨b, o, none⟩ ∧ b < w3.heap.size ∧ ∀ (j : Nat) s, im[j]? = some s → w3.rangeAt b (o + j * 128) (s.map (Value.int .u8)) := by
      rcases HI3.out.2 with e | e
      · have := HNil.out e; omega
      · exact e
    subst hia
    have i1 : ¬ ((n : Int) < 8) := by omega
    have i2 : ¬ ((n : Int) > 4096) := by omega
    have i3 : (0 : Int) < (n : Int) := by omega
    have i4 : (1 : Int) < (n : Int) := by omega
    have HR0 : Hid (w3.rangeAt b (o + 0 * 128) ((secI im 0).map (Value.int .u8))) := hid (hrg 0 _ (HD.out 0 (by omega)))
    have HR1 : Hid (w3.rangeAt b (o + 1 * 128) ((secI im 1).map (Value.int .u8))) := hid (hrg 1 _ (HD.out 1 (by omega)))
    have HBl := hid hb
    have s0 := HSec.out 0
    have s1 := HSec.out 1
    have hRS := fun w => rreadSuper_any (secI im 0) s0 w
    have hRI := fun w => rreadInode_any (secI im 1) s1 w
    rw [read_same s0] at hRS
    rw [rd_same s1] at hRI
    have HS1 := hid (HS.out hr)
    have HR2 := hid (HR.out hr)
    have HZl : Hid ((rdIno (zTo (secI im 1) 18) (secI im 1)).1.length = 18) := hid (rdIno_len (zTo_len _ _))
    generalize rdSup (getV (secI im 0) 4 4) (getV (secI im 0) 8 4) (secI im 0) = R at *
    generalize rdIno (zTo (secI im 1) 18) (secI im 1) = Z at *
    have HL0 := hid s0.1
    have HL1 := hid s1.1
    generalize secI im 0 = k0 at *
    generalize secI im 1 = k1 at *
    clear s0 s1 hrg hb HS HR HF HSec HD HLk HI HNil
    obtain ⟨ra, rb, rc⟩ := R
    obtain ⟨z, zc⟩ := Z
    simp only at *
    go_upto_region 10 with (first
      | (refine load_mid 36 _ rfl b (o + 0 * 128) rfl _ _ HR0.out Tryz.underlying36 rfl (by rw [sz26, List.length_map, HL0.out]) (by rfl) ?_)
      | (go_at_call 9; go_must (refine (hRS _).mono ?_; rintro e w4 ⟨rfl, hb4⟩))
      | (refine store_R rfl 32 _ _ rfl w4.heap.size (SUA ra rb) rfl rfl 32 _ (heap_alloc_new _ _) szSU rfl (SUA_one _ _) ?_; intro w5 hw5; have h35 : Chg w3 w5 No := (((Chg.of_below hb4 No)).tr (Chg.alloc w4 _ No)).trans (kt_new hw5) (fun _ _ e => e) (fun j hj e => by have := hb4.size; omega); have HR15 : Hid (w5.rangeAt b (o + 1 * 128) (k1.map (Value.int .u8))) := hid (fun i x hx => cell_keep (HR1.out i x hx) h35 HBl.out (fun e => e)))
      | (refine load_mid 36 _ rfl b (o + 1 * 128) rfl _ _ HR15.out Tryz.underlying36 rfl (by rw [sz26, List.length_map, HL1.out]) (by rfl) ?_)
      | (go_at_call 10; go_must (refine (hRI _).mono ?_; rintro e w6 ⟨rfl, hb6⟩))
      | (refine store_R rfl 39 _ _ rfl w6.heap.size (NA z) rfl rfl 39 _ (heap_alloc_new _ _) (by rw [szI, NA_size, HZl.out]) (by rw [NA_size, NA_size, Zi_len, HZl.out]) (NA_one _) ?_; intro w7 hw7)
      | fail)
    have h57 : Chg w5 w7 No := (((Chg.of_below hb6 No)).tr (Chg.alloc w6 _ No)).trans (kt_new hw7) (fun _ _ e => e) (fun j hj e => by have := hb6.size; omega)
    have HC7 : Hid (Chg W w7 No) := hid ((HC3.out.tr h35).tr h57)
    have q0 : w7.cell? ⟨w4.heap.size, 0, none⟩ = some (.int .i64 ra) := cell_keep ((cell_of_row _ _ _ _ _ _ hw5.here).trans rfl) h57 (slt hw5.here) (fun e => e)
    have q1 := row_cell hw7.here 0 (by rw [HZl.out]; decide)
    obtain ⟨K, hKz⟩ : ∃ y, y = z.getD 0 0 := ⟨_, rfl⟩
    rw [← hKz] at q1 HR2
    clear hw5 hw7 h35 h57 hb4 hb6 hRS hRI hKz
    by_cases hs : rc = 0 ∧ ra = (n : Int)
    · obtain ⟨rfl, rfl⟩ := hs
      have hE := HR2.out ⟨rfl, rfl⟩
      by_cases hz : zc = 0 ∧ K = 2
      · rw [if_pos hz] at hE
        obtain ⟨rfl, rfl⟩ := hz
        subst hE
        clear HR2 HS1
        go_wp2_with fail
        go_ret
        exact ⟨rfl, HC7.out.below⟩
      · rw [if_neg hz] at hE
        subst hE
        clear HR2 HS1
        by_cases hz0 : zc = 0
        · subst hz0
          have hK2 : ¬ K = 2 := fun e => hz ⟨rfl, e⟩
          have hKb : (K == 2) = false := by simpa using hK2
          clear hz
          go_wp2_with fail
          go_ret
          exact ⟨rfl, HC7.out.below⟩
        · have hzb : (zc == 0) = false := by simpa using hz0
          clear hz
          go_wp2_with fail
          go_ret
          exact ⟨rfl, HC7.out.below⟩
    · have hE := HS1.out hs
      subst hE
      clear HR2 HS1
      by_cases hc0 : rc = 0
      · subst hc0
        have hra : ¬ ra = (n : Int) := fun e => hs ⟨rfl, e⟩
        have hrb : (ra == (n : Int)) = false := by simpa using hra
        clear hs
        go_wp2_with fail
        go_ret
        exact ⟨rfl, HC7.out.below⟩
      · have hcb : (rc == 0) = false := by simpa using hc0
        clear hs
        go_wp2_with fail
        go_ret
        exact ⟨rfl, HC7.out.below⟩
  · have hE := HF.out hr
    subst hE
    clear HS HR HF HSec HD HLk HI HNil
    by_cases h8 : (n : Int) < 8
    · go_wp2_with fail
      go_ret
      exact ⟨rfl, HC3.out.below⟩
    · have h9 : (n : Int) > 4096 := by omega
      go_wp2_with fail
      go_ret
      exact ⟨rfl, HC3.out.below⟩

end Go.Proofs.YtpmignilhoihnabGreat
