/-
  The document's Find.
-/
import Derived.Test.YtjlhmojofjkkdaaE0
-- may lack
namespace Go.Proofs.Ytjlhmojofjkkdaa
open Go.RowKit Go.Shelf

/-- What the document's Find answers. -/
def findQ (s : Src) (z : List Int) (k : Int) : Int × Int :=
  if k < 0 ∨ 1068 ≤ k then (0, 90) else if k < 12 then (z.getD (4 + k.toNat) 0, 0) else if k < 44 then ((rtabS s (z.getD 16 0)).1.getD (k - 12).toNat 0, (rtabS s (z.getD 16 0)).2)
  else if (rtabS s (z.getD 17 0)).2 = 0 then ((rtabS s ((rtabS s (z.getD 17 0)).1.getD ((k - 44).tdiv 32).toNat 0)).1.getD ((k - 44) % 32).toNat 0, (rtabS s ((rtabS s (z.getD 17 0)).1.getD ((k - 44).tdiv 32).toNat 0)).2)
  else (0, (rtabS s (z.getD 17 0)).2)
theorem Zp_get (j : Nat) : Zp.getD j 0 = 0 := by
  unfold Zp
  rw [List.getD_eq_getElem?_getD, List.getElem?_replicate]
  split <;> rfl
theorem fol1 (s : Src) (n p : Int) (g : Nat) : (folW s n [p] g).1 = (rtabS s n).1.getD p.toNat 0 ∧ (folW s n [p] g).2.2 = (rtabS s n).2 := by
  unfold folW rtabS
  by_cases h : n = 0
  · rw [if_pos h, if_pos h]; exact ⟨(Zp_get _).symm, rfl⟩
  · rw [if_neg h, if_neg h]
    by_cases h2 : (tabS s n).2 = 0
    · rw [if_pos h2]; exact ⟨rfl, h2.symm⟩
    · rw [if_neg h2]
      refine ⟨?_, rfl⟩
      have : (tabS s n).1 = Zp := by
        unfold tabS at h2 ⊢
        split
        · rename_i h3; rw [if_pos h3] at h2; exact absurd rfl h2
        · rfl
      rw [this]; exact (Zp_get _).symm
theorem fol2 (s : Src) (n p q : Int) : (folW s n [p, q] 0).1 = (if (rtabS s n).2 = 0 then (rtabS s ((rtabS s n).1.getD p.toNat 0)).1.getD q.toNat 0 else 0) ∧ (folW s n [p, q] 0).2.2 = (if (rtabS s n).2 = 0 then (rtabS s ((rtabS s n).1.getD p.toNat 0)).2 else (rtabS s n).2) := by
  have h0 : rtabS s 0 = (Zp, 0) := if_pos rfl
  unfold folW
  by_cases h : n = 0
  · rw [if_pos h, h, h0]
    simp only [if_true, Zp_get, h0]
    exact ⟨trivial, trivial⟩
  · have hr : rtabS s n = tabS s n := if_neg h
    rw [if_neg h, hr]
    by_cases h2 : (tabS s n).2 = 0
    · simp only [h2, if_true]
      exact fol1 s _ q 1
    · simp only [h2, if_false]
      exact ⟨trivial, trivial⟩
theorem find_same (s : Src) (z : List Int) (k : Int) : findQ s z k = findR s z k := by
  unfold findQ findR
  by_cases h0 : k < 0 ∨ 1068 ≤ k
  · rw [if_pos h0, if_pos h0]
  · rw [if_neg h0, if_neg h0]
    by_cases h1 : k < 12
    · rw [if_pos h1]
      unfold bgW plW
      rw [if_pos h1, if_pos h1]
      rfl
    · rw [if_neg h1]
      by_cases h2 : k < 44
      · rw [if_pos h2]
        unfold bgW plW
        rw [if_neg h1, if_neg h1, if_pos h2, if_pos h2]
        obtain ⟨e1, e2⟩ := fol1 s (z.getD 16 0) (k - 12) 0
        rw [e1, e2]
      · rw [if_neg h2]
        unfold bgW plW
        rw [if_neg h1, if_neg h1, if_neg h2, if_neg h2]
        obtain ⟨e1, e2⟩ := fol2 s (z.getD 17 0) ((k - 44).tdiv 32) ((k - 44) % 32)
        rw [e1, e2]
        split <;> rfl

set_option maxRecDepth 100000 in
set_option maxHeartbeats 2000000 in
theorem rFind_any (a : Option Addr) (c : Nat) (s : Src) (z : List Int) (k : Int) (w : World) (hz : z.length = 18) (hi : ImgAt w a s.im) :
    Calls Try.prog 14 #[.agg (srcV a c s), .agg (NA z), .int .i64 k] w fun e w' => e = .returned (.tuple #[.int .i64 (findQ s z k).1, .int .i64 (findQ s z k).2]) ∧ Below w.heap.size w w' := by
  have hzp := zero_ptr
  obtain ⟨SV, hSV⟩ : ∃ y, y = srcV a c s := ⟨_, rfl⟩
  have HSV := hid hSV
  have hS3 : SV.size = 3 := by rw [hSV]; rfl
  rw [← hSV]
  clear hSV
  obtain ⟨W, hW⟩ : ∃ y, y = (w.alloc (.cells SV 35)).alloc (.cells (NA z) 29) := ⟨_, rfl⟩
  have H0 : Hid (W.heap[w.heap.size]? = some (.cells SV 35 (0, 0))) := by rw [hW]; exact heap_alloc2_old w _ _
  have H1 : W.heap[w.heap.size + 1]? = some (.cells (NA z) 29 (0, 0)) := by rw [hW]; exact heap_alloc2_new w _ _
  have HB : Hid (Below w.heap.size w W) := by rw [hW]; exact ((Below.refl _ _).alloc (Nat.le_refl _) _).alloc (by simp) _
  have hT : ∀ (n : Int) (X : World), Below w.heap.size w X → Calls Try.prog 26 #[.agg SV, .int .i64 n] X fun e w' => e = .returned (.tuple #[.agg (NA (rtabS s n).1), .int .i64 (rtabS s n).2]) ∧ Below X.heap.size X w' := fun n X hX => by
    have := rtable_any a c s n X (hi.below hX)
    rw [← HSV.out] at this
    exact this
  have HT := hid hT
  have hW0 := fun w' => rway_any k w'
  clear hT
  go_enter Try.func14, Try.ntmps14
  go_upto_region 1 with fail
  rw [← hW]
  clear hW
  by_cases h0 : k < 0 ∨ 1068 ≤ k
  · have hwr : wayR k = (0, 0, 0, 90) := if_pos h0
    have HE : Hid (findQ s z k = (0, 90)) := if_pos h0
    simp only [hwr, wayV] at hW0
    clear hwr h0
    go_wp2_with (first
      | (go_at_call 11; go_must (refine (hW0 _).mono ?_; rintro e w2 ⟨rfl, hw2⟩; have hw3 := hw2.symm; clear hw2; subst hw3)))
    exact bodyPost_ret (results_2t Try.results14 _ _) rfl ⟨by rw [HE.out]; rfl, HB.out⟩
  by_cases h1 : k < 12
  · have hwr : wayR k = (0, k, 0, 0) := by unfold wayR; rw [if_neg h0, if_pos h1]
    obtain ⟨K, hK⟩ : ∃ K : Nat, k = (K : Int) := ⟨k.toNat, by omega⟩
    have HE : Hid (findQ s z k = (z.getD (4 + K) 0, 0)) := by unfold findQ; rw [if_neg h0, if_pos h1, hK]; exact hid rfl
    simp only [hwr, wayV] at hW0
    have hc := row_cell H1 (4 + K) (by omega)
    generalize z.getD (4 + K) 0 = G at *
    subst hK
    have k0 : (0 : Int) ≤ (K : Int) := by omega
    clear hwr h0
    go_wp2_with (first
      | (go_at_call 11; go_must (refine (hW0 _).mono ?_; rintro e w2 ⟨rfl, hw2⟩; have hw3 := hw2.symm; clear hw2; subst hw3)))
    exact bodyPost_ret (results_2t Try.results14 _ _) rfl ⟨by rw [HE.out]; rfl, HB.out⟩
  by_cases h2 : k < 44
  · have hwr : wayR k = (1, k - 12, 0, 0) := by unfold wayR; rw [if_neg h0, if_neg h1, if_pos h2]
    have HE : Hid (findQ s z k = ((rtabS s (z.getD 16 0)).1.getD (k - 12).toNat 0, (rtabS s (z.getD 16 0)).2)) := by unfold findQ; rw [if_neg h0, if_neg h1, if_pos h2]; exact hid rfl
    simp only [hwr, wayV] at hW0
    have hc := row_cell H1 16 (by omega)
    generalize z.getD 16 0 = G at *
    have hTl := rtabS_len s G
    have hTG := fun X hX => HT.out G X hX
    generalize rtabS s G = T at *
    obtain ⟨K, hK⟩ : ∃ K : Nat, k - 12 = (K : Int) := ⟨(k - 12).toNat, by omega⟩
    rw [hK] at hW0
    obtain ⟨V, hV⟩ : ∃ y, y = T.1.getD K 0 := ⟨_, rfl⟩
    have HE2 : Hid (findQ s z k = (V, T.2)) := by rw [HE.out, hK, hV]; exact hid rfl
    have HV := hid hV
    clear hV
    have k0 : (0 : Int) ≤ (K : Int) := by omega
    have k1 : (K : Int) < 32 := by omega
    have kn : K < 32 := by omega
    have HTG := hid hTG
    clear hwr h0 HE hK hTG H1
    go_wp2_with (first
      | (go_at_call 11; go_must (refine (hW0 _).mono ?_; rintro e w2 ⟨rfl, hw2⟩; have hw3 := hw2.symm; clear hw2; subst hw3))
      | (refine load_R rfl 35 (.tmp 3) rfl w.heap.size rfl 35 SV _ H0.out Try.underlying35 rfl (by rw [szSrc, hS3]) ?_)
      | (go_at_call 26; go_must (refine (HTG.out _ HB.out).mono ?_; rintro e w5 ⟨rfl, hb5⟩; have HB5 := hid (btr HB.out hb5 HB.out.size); clear hb5))
      | (refine store_R rfl 76 (.tmp 12) (.tmp 39) rfl w5.heap.size (NA T.1) rfl rfl 76 (NA Zp) (heap_alloc_new _ _) (by rw [szP, NA_size, hTl]) (by rw [NA_size, NA_size, Zp_len, hTl]) (NA_one _) ?_; go_must (intro w6 p6; have c6 := row_cell p6.here K (by omega); rw [← HV.out] at c6)))
    exact bodyPost_ret (results_2t Try.results14 _ _) rfl ⟨by rw [HE2.out]; rfl, p6.below (HB5.out.alloc HB5.out.size _) HB5.out.size⟩
  have hwr : wayR k = (2, (k - 44).tdiv 32, (k - 44) % 32, 0) := by unfold wayR; rw [if_neg h0, if_neg h1, if_neg h2]
  have hb := tdiv_small (k := k - 44) (by omega) (by omega)
  obtain ⟨I, hI⟩ : ∃ I : Nat, (k - 44).tdiv 32 = (I : Int) := ⟨((k - 44).tdiv 32).toNat, by omega⟩
  obtain ⟨J, hJ⟩ : ∃ J : Nat, (k - 44) % 32 = (J : Int) := ⟨((k - 44) % 32).toNat, by omega⟩
  have HE : Hid (findQ s z k = if (rtabS s (z.getD 17 0)).2 = 0 then ((rtabS s ((rtabS s (z.getD 17 0)).1.getD I 0)).1.getD J 0, (rtabS s ((rtabS s (z.getD 17 0)).1.getD I 0)).2) else (0, (rtabS s (z.getD 17 0)).2)) := by unfold findQ; rw [if_neg h0, if_neg h1, if_neg h2, hI, hJ]; exact hid rfl
  rw [hI, hJ] at hwr hb
  simp only [hwr, wayV] at hW0
  have hc := row_cell H1 17 (by omega)
  generalize z.getD 17 0 = G at *
  have hTl := rtabS_len s G
  have hTG := fun X hX => HT.out G X hX
  generalize rtabS s G = T at *
  have k0 : (0 : Int) ≤ (I : Int) := by omega
  have k1 : (I : Int) < 32 := by omega
  have kn : I < 32 := by omega
  have m0 : (0 : Int) ≤ (J : Int) := by omega
  have m1 : (J : Int) < 32 := by omega
  have mn : J < 32 := by omega
  have HTG := hid hTG
  clear hwr h0 hI hJ hTG H1 hb
  go_upto_region 10 with (first
    | (go_at_call 11; go_must (refine (hW0 _).mono ?_; rintro e w2 ⟨rfl, hw2⟩; have hw3 := hw2.symm; clear hw2; subst hw3))
    | (refine load_R rfl 35 (.tmp 3) rfl w.heap.size rfl 35 SV _ H0.out Try.underlying35 rfl (by rw [szSrc, hS3]) ?_)
    | (go_at_call 26; go_must (refine (HTG.out _ HB.out).mono ?_; rintro e w5 ⟨rfl, hb5⟩; have H5 : Hid (w5.heap[w.heap.size]? = some (.cells SV 35 (0, 0))) := (by rw [hb5.block _ (slt H0.out)]; exact H0); have HB5 := hid (btr HB.out hb5 HB.out.size); clear hb5))
    | (refine store_R rfl 76 (.tmp 14) (.tmp 50) rfl w5.heap.size (NA T.1) rfl rfl 76 (NA Zp) (heap_alloc_new _ _) (by rw [szP, NA_size, hTl]) (by rw [NA_size, NA_size, Zp_len, hTl]) (NA_one _) ?_; go_must (intro w6 p6; have H6 : Hid (w6.heap[w.heap.size]? = some (.cells SV 35 (0, 0))) := (by have := slt H5.out; rw [p6.other _ (by have := HB5.out.size; omega), Below.heap_alloc _ _ _ this]; exact H5); have P6 := hid p6.here; have HB6 : Hid (Below w.heap.size w w6) := hid (p6.below (HB5.out.alloc HB5.out.size _) HB5.out.size))))
  clear p6
  by_cases he : ¬ T.2 = 0
  · have HE2 : Hid (findQ s z k = (0, T.2)) := by rw [HE.out, if_neg he]; exact hid rfl
    go_wp2_with fail
    exact bodyPost_ret (results_2t Try.results14 _ _) rfl ⟨by rw [HE2.out]; rfl, HB6.out⟩
  have he2 : T.2 = 0 := Decidable.not_not.1 he
  obtain ⟨P, hP⟩ : ∃ y, y = T.1.getD I 0 := ⟨_, rfl⟩
  have HE2 : Hid (findQ s z k = ((rtabS s P).1.getD J 0, (rtabS s P).2)) := by rw [HE.out, if_pos he2, hP]; exact hid rfl
  have HPc : Hid (∀ X : World, X.heap[w5.heap.size]? = some (.cells (NA T.1) 76 (0, 0)) → X.cell? ⟨w5.heap.size, I, none⟩ = some (.int .i64 P)) := hid (fun X hX => by rw [hP]; exact row_cell hX I (by omega))
  have hUl := rtabS_len s P
  obtain ⟨V, hV⟩ : ∃ y, y = (rtabS s P).1.getD J 0 := ⟨_, rfl⟩
  rw [← hV] at HE2
  have HV := hid hV
  clear hV
  have HTP := hid (fun X hX => HT.out P X hX)
  generalize rtabS s P = U at *
  clear hP he HE
  go_upto_region 12 with fail
  refine wp_region_noPanic ?_
  refine wp_region_held_drew (S := fun w' => w'.heap[w.heap.size]? = some (.cells SV 35 (0, 0)) ∧ w'.heap[w5.heap.size]? = some (.cells (NA T.1) 76 (0, 0)) ∧ Below w.heap.size w w') (by kernel_rfl) ⟨H6.out, P6.out, below_drew HB6.out⟩ (fun hHeld => ?_)
  refine takeR 0 56 35 (.tmp 3) w.heap.size 35 SV _ rfl (by kernel_rfl) (by kernel_rfl) (by kernel_rfl) rfl rfl rfl Try.underlying35 rfl (by rw [szSrc, hS3]) (by rfl) (fun _ _ _ h => h) hHeld (fun W' hw' => hw'.1) ?_
  simp only [List.setIfInBounds_toArray, List.set_cons_zero, List.set_cons_succ]
  refine takeVal 1 57 (.int .i64 (I : Int)) rfl (by kernel_rfl) (by kernel_rfl) (by kernel_rfl) rfl (by rfl) (fun _ _ _ h => h) hHeld (fun W' hw' => rfl) ?_
  simp only [List.setIfInBounds_toArray, List.set_cons_zero, List.set_cons_succ]
  refine takeVal 2 58 (.pointer (some ⟨w5.heap.size, I, none⟩)) rfl (by kernel_rfl) (by kernel_rfl) (by kernel_rfl) rfl (by rfl) (fun _ _ _ h => h) hHeld (fun W' hw' => by go_simp) ?_
  simp only [List.setIfInBounds_toArray, List.set_cons_zero, List.set_cons_succ]
  refine takeVal 3 59 (.int .i64 P) rfl (by kernel_rfl) (by kernel_rfl) (by kernel_rfl) rfl (by rfl) (fun _ _ _ h => h) hHeld (fun W' hw' => by have hq := HPc.out W' hw'.2.1; go_simp) ?_
  simp only [List.setIfInBounds_toArray, List.set_cons_zero, List.set_cons_succ]
  refine step2 4 8 (by kernel_rfl) ?_ ?_
  · refine stCall 4 60 26 #[.agg SV, .int .i64 P] _ rfl rfl (by rfl) (by go_simp) (HTP.out _ hHeld.2.2) ?_
    rintro e x1 ⟨rfl, hb1⟩
    have h1S : x1.heap[w.heap.size]? = some (.cells SV 35 (0, 0)) ∧ x1.heap[w5.heap.size]? = some (.cells (NA T.1) 76 (0, 0)) ∧ Below w.heap.size w x1 := ⟨by rw [hb1.block _ (slt hHeld.1)]; exact hHeld.1, by rw [hb1.block _ (slt hHeld.2.1)]; exact hHeld.2.1, btr hHeld.2.2 hb1 hHeld.2.2.size⟩
    refine ⟨_, rfl, h1S, ?_⟩
    simp only [List.setIfInBounds_toArray, List.set_cons_zero, List.set_cons_succ]
    refine takeVal 5 55 (.tuple #[.agg (NA U.1), .int .i64 U.2]) rfl (by kernel_rfl) (by kernel_rfl) (by kernel_rfl) rfl (by rfl) (fun _ _ _ h => h) h1S (fun W' hw' => rfl) ?_
    simp only [List.setIfInBounds_toArray, List.set_cons_zero, List.set_cons_succ]
    refine takeVal 6 61 (.agg (NA U.1)) rfl (by kernel_rfl) (by kernel_rfl) (by kernel_rfl) rfl (by rfl) (fun _ _ _ h => h) h1S (fun W' hw' => rfl) ?_
    simp only [List.setIfInBounds_toArray, List.set_cons_zero, List.set_cons_succ]
    refine takeVal 7 62 (.int .i64 U.2) rfl (by kernel_rfl) (by kernel_rfl) (by kernel_rfl) rfl (by rfl) (fun _ _ _ h => h) h1S (fun W' hw' => rfl) ?_
    simp only [List.setIfInBounds_toArray, List.set_cons_zero, List.set_cons_succ]
    refine step1 8 (by kernel_rfl) ?_
    have h2S : (x1.alloc (.cells (NA Zp) 76)).heap[w.heap.size]? = some (.cells SV 35 (0, 0)) ∧ (x1.alloc (.cells (NA Zp) 76)).heap[w5.heap.size]? = some (.cells (NA T.1) 76 (0, 0)) ∧ Below w.heap.size w (x1.alloc (.cells (NA Zp) 76)) := ⟨by rw [Below.heap_alloc _ _ _ (slt h1S.1)]; exact h1S.1, by rw [Below.heap_alloc _ _ _ (slt h1S.2.1)]; exact h1S.2.1, h1S.2.2.alloc h1S.2.2.size _⟩
    refine stNew 8 15 (.pointer (some ⟨x1.heap.size, 0, none⟩)) (.cells (NA Zp) 76) rfl rfl (by rfl) (by go_simp) ⟨h2S, ?_⟩
    simp only [List.setIfInBounds_toArray, List.set_cons_zero, List.set_cons_succ]
    refine step1 9 (by kernel_rfl) ?_
    refine stStoreR 9 76 (.tmp 15) (.tmp 61) x1.heap.size (NA U.1) 76 (NA Zp) rfl rfl (by rfl) rfl rfl rfl (heap_alloc_new _ _) (by rw [szP, NA_size, hUl]) (by rw [NA_size, NA_size, Zp_len, hUl]) (NA_one _) ?_
    intro x3 p3
    have hn1 := slt h1S.1
    have hn2 := slt h1S.2.1
    have h3S : x3.heap[w.heap.size]? = some (.cells SV 35 (0, 0)) ∧ x3.heap[w5.heap.size]? = some (.cells (NA T.1) 76 (0, 0)) ∧ Below w.heap.size w x3 := ⟨by rw [p3.other _ (by omega)]; exact h2S.1, by rw [p3.other _ (by omega)]; exact h2S.2.1, p3.below h2S.2.2 h1S.2.2.size⟩
    refine ⟨h3S, ?_⟩
    refine takeVal 10 11 (.int .i64 U.2) rfl (by kernel_rfl) (by kernel_rfl) (by kernel_rfl) rfl (by rfl) (fun _ _ _ h => h) h3S (fun W' hw' => rfl) ?_
    simp only [List.setIfInBounds_toArray, List.set_cons_zero, List.set_cons_succ]
    refine wpAnyH_done (by kernel_rfl) ?_ _
    refine NoPanic.normal ?_
    have c3 := row_cell p3.here J (by omega)
    rw [← HV.out] at c3
    have HX3 := hid h3S.2.2
    clear h3S h2S h1S hHeld p3
    go_wp2_with fail
    exact bodyPost_ret (results_2t Try.results14 _ _) rfl ⟨by rw [HE2.out]; rfl, HX3.out⟩
  · have h1S : ∀ X : World, X.heap[w.heap.size]? = some (.cells SV 35 (0, 0)) ∧ X.heap[w5.heap.size]? = some (.cells (NA T.1) 76 (0, 0)) ∧ Below w.heap.size w X → (X.alloc (.cells (NA Zp) 76)).heap[w.heap.size]? = some (.cells SV 35 (0, 0)) ∧ (X.alloc (.cells (NA Zp) 76)).heap[w5.heap.size]? = some (.cells (NA T.1) 76 (0, 0)) ∧ Below w.heap.size w (X.alloc (.cells (NA Zp) 76)) := fun X h => ⟨by rw [Below.heap_alloc _ _ _ (slt h.1)]; exact h.1, by rw [Below.heap_alloc _ _ _ (slt h.2.1)]; exact h.2.1, h.2.2.alloc h.2.2.size _⟩
    refine stNew 8 15 (.pointer (some ⟨w6.heap.size, 0, none⟩)) (.cells (NA Zp) 76) rfl rfl (by rfl) (by go_simp) ⟨h1S _ hHeld, ?_⟩
    simp only [List.setIfInBounds_toArray, List.set_cons_zero, List.set_cons_succ]
    obtain ⟨x1, hx1⟩ : ∃ y, y = w6.drew.alloc (.cells (NA Zp) 76) := ⟨_, rfl⟩
    have h2S := h1S _ hHeld
    have hnew : x1.heap[w6.heap.size]? = some (.cells (NA Zp) 76 (0, 0)) := by rw [hx1]; exact heap_alloc_new w6.drew _
    rw [← hx1] at h2S
    rw [← hx1]
    clear hx1
    refine step1 4 (by kernel_rfl) ?_
    refine stCall 4 60 26 #[.agg SV, .int .i64 P] _ rfl rfl (by rfl) (by go_simp) (HTP.out _ h2S.2.2) ?_
    rintro e x2 ⟨rfl, hb2⟩
    have h3S' : x2.heap[w.heap.size]? = some (.cells SV 35 (0, 0)) ∧ x2.heap[w5.heap.size]? = some (.cells (NA T.1) 76 (0, 0)) ∧ Below w.heap.size w x2 := ⟨by rw [hb2.block _ (slt h2S.1)]; exact h2S.1, by rw [hb2.block _ (slt h2S.2.1)]; exact h2S.2.1, btr h2S.2.2 hb2 h2S.2.2.size⟩
    have hnew2 : x2.heap[w6.heap.size]? = some (.cells (NA Zp) 76 (0, 0)) := by rw [hb2.block _ (slt hnew)]; exact hnew
    refine ⟨_, rfl, h3S', ?_⟩
    simp only [List.setIfInBounds_toArray, List.set_cons_zero, List.set_cons_succ]
    refine takeVal 5 55 (.tuple #[.agg (NA U.1), .int .i64 U.2]) rfl (by kernel_rfl) (by kernel_rfl) (by kernel_rfl) rfl (by rfl) (fun _ _ _ h => h) h3S' (fun W' hw' => rfl) ?_
    simp only [List.setIfInBounds_toArray, List.set_cons_zero, List.set_cons_succ]
    refine takeVal 6 61 (.agg (NA U.1)) rfl (by kernel_rfl) (by kernel_rfl) (by kernel_rfl) rfl (by rfl) (fun _ _ _ h => h) h3S' (fun W' hw' => rfl) ?_
    simp only [List.setIfInBounds_toArray, List.set_cons_zero, List.set_cons_succ]
    refine takeVal 7 62 (.int .i64 U.2) rfl (by kernel_rfl) (by kernel_rfl) (by kernel_rfl) rfl (by rfl) (fun _ _ _ h => h) h3S' (fun W' hw' => rfl) ?_
    simp only [List.setIfInBounds_toArray, List.set_cons_zero, List.set_cons_succ]
    have hn1 := slt H6.out
    have hn2 := slt P6.out
    refine step1 9 (by kernel_rfl) ?_
    refine stStoreR 9 76 (.tmp 15) (.tmp 61) w6.heap.size (NA U.1) 76 (NA Zp) rfl rfl (by rfl) rfl rfl rfl hnew2 (by rw [szP, NA_size, hUl]) (by rw [NA_size, NA_size, Zp_len, hUl]) (NA_one _) ?_
    intro x3 p3
    have h3S : x3.heap[w.heap.size]? = some (.cells SV 35 (0, 0)) ∧ x3.heap[w5.heap.size]? = some (.cells (NA T.1) 76 (0, 0)) ∧ Below w.heap.size w x3 := ⟨by rw [p3.other _ (by omega)]; exact h3S'.1, by rw [p3.other _ (by omega)]; exact h3S'.2.1, p3.below h3S'.2.2 HB6.out.size⟩
    refine ⟨h3S, ?_⟩
    refine takeVal 10 11 (.int .i64 U.2) rfl (by kernel_rfl) (by kernel_rfl) (by kernel_rfl) rfl (by rfl) (fun _ _ _ h => h) h3S (fun W' hw' => rfl) ?_
    simp only [List.setIfInBounds_toArray, List.set_cons_zero, List.set_cons_succ]
    refine wpAnyH_done (by kernel_rfl) ?_ _
    refine NoPanic.normal ?_
    have c3 := row_cell p3.here J (by omega)
    rw [← HV.out] at c3
    have HX3 := hid h3S.2.2
    clear h3S h2S h1S hHeld p3
    go_wp2_with fail
    exact bodyPost_ret (results_2t Try.results14 _ _) rfl ⟨by rw [HE2.out]; rfl, HX3.out⟩

end Go.Proofs.Ytjlhmojofjkkdaa
