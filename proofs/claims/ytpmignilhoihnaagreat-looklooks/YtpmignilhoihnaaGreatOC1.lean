/-
 The document's look: its row grows; a byte is written; where it reads from.
-/
import Derived.Test.YtpmignilhoihnaaGreatN1
import Derived.Test.YtpmignilhoihnaaGreatOB
namespace Go.Proofs.YtpmignilhoihnaaGreat
open Go.RowKit Go.Shelf

def findQ (s : Src9) (z : List Int) (k : Int) : Int × Int :=
 if k < 0 ∨ 1068 ≤ k then (0, 90) else if k < 12 then (z.getD (4 + k.toNat) 0, 0) else if k < 44 then ((rtab9 s (z.getD 16 0)).1.getD (k - 12).toNat 0, (rtab9 s (z.getD 16 0)).2)
 else if (rtab9 s (z.getD 17 0)).2 = 0 then ((rtab9 s ((rtab9 s (z.getD 17 0)).1.getD ((k - 44).tdiv 32).toNat 0)).1.getD ((k - 44) % 32).toNat 0, (rtab9 s ((rtab9 s (z.getD 17 0)).1.getD ((k - 44).tdiv 32).toNat 0)).2)
 else (0, (rtab9 s (z.getD 17 0)).2)
set_option maxRecDepth 100000 in
set_option maxHeartbeats 2000000 in
theorem rFind_any (a : Option Addr) (c : Nat) (s : Src9) (z : List Int) (k : Int) (w : World) (hz : z.length = 18) (hi : ImgAt w a s.im) :
  Calls Tryz.prog 57 #[.agg (srcV a c s), .agg (NA z), .int .i64 k] w fun e w' => e = .returned (.tuple #[.int .i64 (findQ s z k).1, .int .i64 (findQ s z k).2]) ∧ Below w.heap.size w w' := by
 have hzp := zero_ptr;obtain ⟨SV, hSV⟩ : ∃ y, y = srcV a c s := ⟨_, rfl⟩;have HSV := hid hSV
 have hS3 : SV.size = 3 := by rw [hSV]; rfl
 rw [← hSV];clear hSV;obtain ⟨W, hW⟩ : ∃ y, y = (w.alloc (.cells SV 109)).alloc (.cells (NA z) 51) := ⟨_, rfl⟩
 have H0 : Hid (W.heap[w.heap.size]? = some (.cells SV 109 (0, 0))) := by rw [hW]; exact heap_alloc2_old w _ _
 have H1 : W.heap[w.heap.size + 1]? = some (.cells (NA z) 51 (0, 0)) := by rw [hW]; exact heap_alloc2_new w _ _
 have HB : Hid (Below w.heap.size w W) := by rw [hW]; exact ((Below.refl _ _).alloc (Nat.le_refl _) _).alloc (by simp) _
 have hT : ∀ (n : Int) (X : World), Below w.heap.size w X → Calls Tryz.prog 97 #[.agg SV, .int .i64 n] X fun e w' => e = .returned (.tuple #[.agg (NA (rtab9 s n).1), .int .i64 (rtab9 s n).2]) ∧ Below X.heap.size X w' := fun n X hX => by
  have := rtable_any a c s n X (hi.below hX);rw [← HSV.out] at this
  exact this
 have HT := hid hT
 have hW0 := fun w' => rway_any k w'
 clear hT
 go_enter Tryz.func57, Tryz.ntmps57
 go_upto_region 1 with fail
 rw [← hW];clear hW
 by_cases h0 : k < 0 ∨ 1068 ≤ k
 ·have hwr : wayR k = (0, 0, 0, 90) := if_pos h0
  have HE : Hid (findQ s z k = (0, 90)) := if_pos h0
  simp only [hwr, wayV] at hW0
  clear hwr h0
  go_wp2_with (first
   | (go_at_call 96; go_must (refine (hW0 _).mono ?_; rintro e w2 ⟨rfl, hw2⟩; have hw3 := hw2.symm; clear hw2; subst hw3)))
  exact bodyPost_ret (results_2t Tryz.results57 _ _) rfl ⟨by rw [HE.out]; rfl, HB.out⟩
 by_cases h1 : k < 12
 ·have hwr : wayR k = (0, k, 0, 0) := by unfold wayR; rw [if_neg h0, if_pos h1]
  obtain ⟨K, hK⟩ : ∃ K : Nat, k = (K : Int) := ⟨k.toNat, by omega⟩
  have HE : Hid (findQ s z k = (z.getD (4 + K) 0, 0)) := by unfold findQ; rw [if_neg h0, if_pos h1, hK]; exact hid rfl
  simp only [hwr, wayV] at hW0
  have hc := row_cell H1 (4 + K) (by omega)
  generalize z.getD (4 + K) 0 = G at *
  subst hK
  have k0 : (0 : Int) ≤ (K : Int) := by omega
  clear hwr h0
  go_wp2_with (first
   | (go_at_call 96; go_must (refine (hW0 _).mono ?_; rintro e w2 ⟨rfl, hw2⟩; have hw3 := hw2.symm; clear hw2; subst hw3)))
  exact bodyPost_ret (results_2t Tryz.results57 _ _) rfl ⟨by rw [HE.out]; rfl, HB.out⟩
 by_cases h2 : k < 44
 ·have hwr : wayR k = (1, k - 12, 0, 0) := by unfold wayR; rw [if_neg h0, if_neg h1, if_pos h2]
  have HE : Hid (findQ s z k = ((rtab9 s (z.getD 16 0)).1.getD (k - 12).toNat 0, (rtab9 s (z.getD 16 0)).2)) := by unfold findQ; rw [if_neg h0, if_neg h1, if_pos h2]; exact hid rfl
  simp only [hwr, wayV] at hW0
  have hc := row_cell H1 16 (by omega)
  generalize z.getD 16 0 = G at *
  have hTl := rtab9_len s G
  have hTG := fun X hX => HT.out G X hX
  generalize rtab9 s G = T at *
  obtain ⟨K, hK⟩ : ∃ K : Nat, k - 12 = (K : Int) := ⟨(k - 12).toNat, by omega⟩;rw [hK] at hW0;obtain ⟨V, hV⟩ : ∃ y, y = T.1.getD K 0 := ⟨_, rfl⟩
  have HE2 : Hid (findQ s z k = (V, T.2)) := by rw [HE.out, hK, hV]; exact hid rfl
  have HV := hid hV;clear hV
  have k0 : (0 : Int) ≤ (K : Int) := by omega
  have k1 : (K : Int) < 32 := by omega
  have kn : K < 32 := by omega
  have HTG := hid hTG;clear hwr h0 HE hK hTG H1
  go_wp2_with (first
   | (go_at_call 96; go_must (refine (hW0 _).mono ?_; rintro e w2 ⟨rfl, hw2⟩; have hw3 := hw2.symm; clear hw2; subst hw3))
   | (refine load_R rfl 109 (.tmp 3) rfl w.heap.size rfl 109 SV _ H0.out Tryz.underlying109 rfl (by rw [szSrc, hS3]) ?_)
   | (go_at_call 97; go_must (refine (HTG.out _ HB.out).mono ?_; rintro e w5 ⟨rfl, hb5⟩; have HB5 := hid (btr HB.out hb5 HB.out.size); clear hb5))
   | (refine store_R rfl 103 (.tmp 12) (.tmp 39) rfl w5.heap.size (NA T.1) rfl rfl 103 (NA Zp) (heap_alloc_new _ _) (by rw [szP, NA_size, hTl]) (by rw [NA_size, NA_size, Zp_len, hTl]) (NA_one _) ?_; go_must (intro w6 p6; have c6 := row_cell p6.here K (by omega); rw [← HV.out] at c6)))
  exact bodyPost_ret (results_2t Tryz.results57 _ _) rfl ⟨by rw [HE2.out]; rfl, p6.below (HB5.out.alloc HB5.out.size _) HB5.out.size⟩
 have hwr : wayR k = (2, (k - 44).tdiv 32, (k - 44) % 32, 0) := by unfold wayR; rw [if_neg h0, if_neg h1, if_neg h2]
 have hb := tdiv_small (k := k - 44) (by omega) (by omega);obtain ⟨I, hI⟩ : ∃ I : Nat, (k - 44).tdiv 32 = (I : Int) := ⟨((k - 44).tdiv 32).toNat, by omega⟩;obtain ⟨J, hJ⟩ : ∃ J : Nat, (k - 44) % 32 = (J : Int) := ⟨((k - 44) % 32).toNat, by omega⟩
 have HE : Hid (findQ s z k = if (rtab9 s (z.getD 17 0)).2 = 0 then ((rtab9 s ((rtab9 s (z.getD 17 0)).1.getD I 0)).1.getD J 0, (rtab9 s ((rtab9 s (z.getD 17 0)).1.getD I 0)).2) else (0, (rtab9 s (z.getD 17 0)).2)) := by unfold findQ; rw [if_neg h0, if_neg h1, if_neg h2, hI, hJ]; exact hid rfl
 rw [hI, hJ] at hwr hb
 simp only [hwr, wayV] at hW0
 have hc := row_cell H1 17 (by omega)
 generalize z.getD 17 0 = G at *
 have hTl := rtab9_len s G
 have hTG := fun X hX => HT.out G X hX
 generalize rtab9 s G = T at *
 have k0 : (0 : Int) ≤ (I : Int) := by omega
 have k1 : (I : Int) < 32 := by omega
 have kn : I < 32 := by omega
 have m0 : (0 : Int) ≤ (J : Int) := by omega
 have m1 : (J : Int) < 32 := by omega
 have mn : J < 32 := by omega
 have HTG := hid hTG;clear hwr h0 hI hJ hTG H1 hb
 go_upto_region 10 with (first
  | (go_at_call 96; go_must (refine (hW0 _).mono ?_; rintro e w2 ⟨rfl, hw2⟩; have hw3 := hw2.symm; clear hw2; subst hw3))
  | (refine load_R rfl 109 (.tmp 3) rfl w.heap.size rfl 109 SV _ H0.out Tryz.underlying109 rfl (by rw [szSrc, hS3]) ?_)
  | (go_at_call 97; go_must (refine (HTG.out _ HB.out).mono ?_; rintro e w5 ⟨rfl, hb5⟩; have H5 : Hid (w5.heap[w.heap.size]? = some (.cells SV 109 (0, 0))) := (by rw [hb5.block _ (slt H0.out)]; exact H0); have HB5 := hid (btr HB.out hb5 HB.out.size); clear hb5))
  | (refine store_R rfl 103 (.tmp 14) (.tmp 50) rfl w5.heap.size (NA T.1) rfl rfl 103 (NA Zp) (heap_alloc_new _ _) (by rw [szP, NA_size, hTl]) (by rw [NA_size, NA_size, Zp_len, hTl]) (NA_one _) ?_; go_must (intro w6 p6; have H6 : Hid (w6.heap[w.heap.size]? = some (.cells SV 109 (0, 0))) := (by have := slt H5.out; rw [p6.other _ (by have := HB5.out.size; omega), Below.heap_alloc _ _ _ this]; exact H5); have P6 := hid p6.here; have HB6 : Hid (Below w.heap.size w w6) := hid (p6.below (HB5.out.alloc HB5.out.size _) HB5.out.size))))
 clear p6
 by_cases he : ¬ T.2 = 0
 ·have HE2 : Hid (findQ s z k = (0, T.2)) := by rw [HE.out, if_neg he]; exact hid rfl
  go_wp2_with fail
  exact bodyPost_ret (results_2t Tryz.results57 _ _) rfl ⟨by rw [HE2.out]; rfl, HB6.out⟩
 have he2 : T.2 = 0 := Decidable.not_not.1 he;obtain ⟨P, hP⟩ : ∃ y, y = T.1.getD I 0 := ⟨_, rfl⟩
 have HE2 : Hid (findQ s z k = ((rtab9 s P).1.getD J 0, (rtab9 s P).2)) := by rw [HE.out, if_pos he2, hP]; exact hid rfl
 have HPc : Hid (∀ X : World, X.heap[w5.heap.size]? = some (.cells (NA T.1) 103 (0, 0)) → X.cell? ⟨w5.heap.size, I, none⟩ = some (.int .i64 P)) := hid (fun X hX => by rw [hP]; exact row_cell hX I (by omega));have hUl := rtab9_len s P;obtain ⟨V, hV⟩ : ∃ y, y = (rtab9 s P).1.getD J 0 := ⟨_, rfl⟩;rw [← hV] at HE2;have HV := hid hV;clear hV;have HTP := hid (fun X hX => HT.out P X hX)
 generalize rtab9 s P = U at *
 clear hP he HE
 go_upto_region 12 with fail
 refine wp_region_noPanic ?_;refine wp_region_held_drew (S := fun w' => w'.heap[w.heap.size]? = some (.cells SV 109 (0, 0)) ∧ w'.heap[w5.heap.size]? = some (.cells (NA T.1) 103 (0, 0)) ∧ Below w.heap.size w w') (by kernel_rfl) ⟨H6.out, P6.out, below_drew HB6.out⟩ (fun hH => ?_);refine takeR 0 56 109 (.tmp 3) w.heap.size 109 SV _ rfl (by kernel_rfl) (by kernel_rfl) (by kernel_rfl) rfl rfl rfl Tryz.underlying109 rfl (by rw [szSrc, hS3]) (by rfl) (fun _ _ _ h => h) hH (fun W' hw' => hw'.1) ?_;simp only [sS];refine tV 1 57 (.int .i64 (I : Int)) rfl (by kernel_rfl) rfl (by rfl) hH (fun W' hw' => rfl) ?_;simp only [sS];refine tV 2 58 (.pointer (some ⟨w5.heap.size, I, none⟩)) rfl (by kernel_rfl) rfl (by rfl) hH (fun W' hw' => by go_simp) ?_;simp only [sS];refine tV 3 59 (.int .i64 P) rfl (by kernel_rfl) rfl (by rfl) hH (fun W' hw' => by have hq := HPc.out W' hw'.2.1; go_simp) ?_;simp only [sS];refine step2 4 8 (by kernel_rfl) ?_ ?_
 ·refine stCall 4 60 97 #[.agg SV, .int .i64 P] _ rfl rfl (by rfl) (by go_simp) (HTP.out _ hH.2.2) ?_
  rintro e x1 ⟨rfl, hb1⟩
  have h1S : x1.heap[w.heap.size]? = some (.cells SV 109 (0, 0)) ∧ x1.heap[w5.heap.size]? = some (.cells (NA T.1) 103 (0, 0)) ∧ Below w.heap.size w x1 := ⟨by rw [hb1.block _ (slt hH.1)]; exact hH.1, by rw [hb1.block _ (slt hH.2.1)]; exact hH.2.1, btr hH.2.2 hb1 hH.2.2.size⟩;refine ⟨_, rfl, h1S, ?_⟩;simp only [sS];refine tV 5 55 (.tuple #[.agg (NA U.1), .int .i64 U.2]) rfl (by kernel_rfl) rfl (by rfl) h1S (fun W' hw' => rfl) ?_;simp only [sS];refine tV 6 61 (.agg (NA U.1)) rfl (by kernel_rfl) rfl (by rfl) h1S (fun W' hw' => rfl) ?_;simp only [sS];refine tV 7 62 (.int .i64 U.2) rfl (by kernel_rfl) rfl (by rfl) h1S (fun W' hw' => rfl) ?_;simp only [sS];refine step1 8 (by kernel_rfl) ?_;have h2S : (x1.alloc (.cells (NA Zp) 103)).heap[w.heap.size]? = some (.cells SV 109 (0, 0)) ∧ (x1.alloc (.cells (NA Zp) 103)).heap[w5.heap.size]? = some (.cells (NA T.1) 103 (0, 0)) ∧ Below w.heap.size w (x1.alloc (.cells (NA Zp) 103)) := ⟨by rw [Below.heap_alloc _ _ _ (slt h1S.1)]; exact h1S.1, by rw [Below.heap_alloc _ _ _ (slt h1S.2.1)]; exact h1S.2.1, h1S.2.2.alloc h1S.2.2.size _⟩;refine stNew 8 15 (.pointer (some ⟨x1.heap.size, 0, none⟩)) (.cells (NA Zp) 103) rfl rfl (by rfl) (by go_simp) ⟨h2S, ?_⟩;simp only [sS];refine step1 9 (by kernel_rfl) ?_;refine stStoreR 9 103 (.tmp 15) (.tmp 61) x1.heap.size (NA U.1) 103 (NA Zp) rfl rfl (by rfl) rfl rfl rfl (heap_alloc_new _ _) (by rw [szP, NA_size, hUl]) (by rw [NA_size, NA_size, Zp_len, hUl]) (NA_one _) ?_
  intro x3 p3
  have hn1 := slt h1S.1;have hn2 := slt h1S.2.1;have h3S : x3.heap[w.heap.size]? = some (.cells SV 109 (0, 0)) ∧ x3.heap[w5.heap.size]? = some (.cells (NA T.1) 103 (0, 0)) ∧ Below w.heap.size w x3 := ⟨by rw [p3.other _ (by omega)]; exact h2S.1, by rw [p3.other _ (by omega)]; exact h2S.2.1, p3.below h2S.2.2 h1S.2.2.size⟩;refine ⟨h3S, ?_⟩;refine tV 10 11 (.int .i64 U.2) rfl (by kernel_rfl) rfl (by rfl) h3S (fun W' hw' => rfl) ?_;simp only [sS];refine wpAnyH_done (by kernel_rfl) ?_ _;refine NoPanic.normal ?_;have c3 := row_cell p3.here J (by omega);rw [← HV.out] at c3;have HX3 := hid h3S.2.2;clear h3S h2S h1S hH p3
  go_wp2_with fail
  exact bodyPost_ret (results_2t Tryz.results57 _ _) rfl ⟨by rw [HE2.out]; rfl, HX3.out⟩
 ·have h1S : ∀ X : World, X.heap[w.heap.size]? = some (.cells SV 109 (0, 0)) ∧ X.heap[w5.heap.size]? = some (.cells (NA T.1) 103 (0, 0)) ∧ Below w.heap.size w X → (X.alloc (.cells (NA Zp) 103)).heap[w.heap.size]? = some (.cells SV 109 (0, 0)) ∧ (X.alloc (.cells (NA Zp) 103)).heap[w5.heap.size]? = some (.cells (NA T.1) 103 (0, 0)) ∧ Below w.heap.size w (X.alloc (.cells (NA Zp) 103)) := fun X h => ⟨by rw [Below.heap_alloc _ _ _ (slt h.1)]; exact h.1, by rw [Below.heap_alloc _ _ _ (slt h.2.1)]; exact h.2.1, h.2.2.alloc h.2.2.size _⟩
  refine stNew 8 15 (.pointer (some ⟨w6.heap.size, 0, none⟩)) (.cells (NA Zp) 103) rfl rfl (by rfl) (by go_simp) ⟨h1S _ hH, ?_⟩;simp only [sS];obtain ⟨x1, hx1⟩ : ∃ y, y = w6.drew.alloc (.cells (NA Zp) 103) := ⟨_, rfl⟩;have h2S := h1S _ hH
  have hnew : x1.heap[w6.heap.size]? = some (.cells (NA Zp) 103 (0, 0)) := by rw [hx1]; exact heap_alloc_new w6.drew _
  rw [← hx1] at h2S;rw [← hx1];clear hx1;refine step1 4 (by kernel_rfl) ?_;refine stCall 4 60 97 #[.agg SV, .int .i64 P] _ rfl rfl (by rfl) (by go_simp) (HTP.out _ h2S.2.2) ?_
  rintro e x2 ⟨rfl, hb2⟩
  have h3S' : x2.heap[w.heap.size]? = some (.cells SV 109 (0, 0)) ∧ x2.heap[w5.heap.size]? = some (.cells (NA T.1) 103 (0, 0)) ∧ Below w.heap.size w x2 := ⟨by rw [hb2.block _ (slt h2S.1)]; exact h2S.1, by rw [hb2.block _ (slt h2S.2.1)]; exact h2S.2.1, btr h2S.2.2 hb2 h2S.2.2.size⟩
  have hnew2 : x2.heap[w6.heap.size]? = some (.cells (NA Zp) 103 (0, 0)) := by rw [hb2.block _ (slt hnew)]; exact hnew
  refine ⟨_, rfl, h3S', ?_⟩;simp only [sS];refine tV 5 55 (.tuple #[.agg (NA U.1), .int .i64 U.2]) rfl (by kernel_rfl) rfl (by rfl) h3S' (fun W' hw' => rfl) ?_;simp only [sS];refine tV 6 61 (.agg (NA U.1)) rfl (by kernel_rfl) rfl (by rfl) h3S' (fun W' hw' => rfl) ?_;simp only [sS];refine tV 7 62 (.int .i64 U.2) rfl (by kernel_rfl) rfl (by rfl) h3S' (fun W' hw' => rfl) ?_;simp only [sS];have hn1 := slt H6.out;have hn2 := slt P6.out;refine step1 9 (by kernel_rfl) ?_;refine stStoreR 9 103 (.tmp 15) (.tmp 61) w6.heap.size (NA U.1) 103 (NA Zp) rfl rfl (by rfl) rfl rfl rfl hnew2 (by rw [szP, NA_size, hUl]) (by rw [NA_size, NA_size, Zp_len, hUl]) (NA_one _) ?_
  intro x3 p3
  have h3S : x3.heap[w.heap.size]? = some (.cells SV 109 (0, 0)) ∧ x3.heap[w5.heap.size]? = some (.cells (NA T.1) 103 (0, 0)) ∧ Below w.heap.size w x3 := ⟨by rw [p3.other _ (by omega)]; exact h3S'.1, by rw [p3.other _ (by omega)]; exact h3S'.2.1, p3.below h3S'.2.2 HB6.out.size⟩;refine ⟨h3S, ?_⟩;refine tV 10 11 (.int .i64 U.2) rfl (by kernel_rfl) rfl (by rfl) h3S (fun W' hw' => rfl) ?_;simp only [sS];refine wpAnyH_done (by kernel_rfl) ?_ _;refine NoPanic.normal ?_;have c3 := row_cell p3.here J (by omega);rw [← HV.out] at c3;have HX3 := hid h3S.2.2;clear h3S h2S h1S hH p3
  go_wp2_with fail
  exact bodyPost_ret (results_2t Tryz.results57 _ _) rfl ⟨by rw [HE2.out]; rfl, HX3.out⟩

end Go.Proofs.YtpmignilhoihnaaGreat

namespace Go.Proofs.YtpmignilhoihnaaGreat
open Go.RowKit Go.Shelf

theorem inner_id (keep : KeepF) : innerF 1 0 keep = keep := by
 funext s k p
 unfold innerF;rw [Int.one_mul, Int.zero_add]
def zD (z r : List Int) : List Int := z.take 4 ++ r ++ z.drop 16
section
variable {z r : List Int} (hz : z.length = 18) (hr : r.length = 12)
include hz hr
theorem zD_len : (zD z r).length = 18 := by
 unfold zD;rw [List.length_append, List.length_append, List.length_take, List.length_drop, hr, hz]
 rfl
theorem zD_lo {j : Nat} (hj : j < 4) : (zD z r).getD j 0 = z.getD j 0 := by
 have _ := hr;unfold zD;rw [List.getD_eq_getElem?_getD, List.append_assoc, List.getElem?_append_left (by rw [List.length_take]; omega), List.getElem?_take, if_pos hj, ← List.getD_eq_getElem?_getD]
theorem zD_mid {j : Nat} (hj : j < 12) : (zD z r).getD (4 + j) 0 = r.getD j 0 := by
 unfold zD;rw [List.getD_eq_getElem?_getD, List.append_assoc, List.getElem?_append_right (by rw [List.length_take]; omega), List.length_take, show 4 + j - min 4 z.length = j by omega, List.getElem?_append_left (by omega), ← List.getD_eq_getElem?_getD]
theorem zD_hi {j : Nat} (hj : 16 ≤ j) : (zD z r).getD j 0 = z.getD j 0 := by
 unfold zD;rw [List.getD_eq_getElem?_getD, List.getElem?_append_right (by rw [List.length_append, List.length_take, hr]; omega), List.length_append, List.length_take, hr, List.getElem?_drop, show 16 + (j - (min 4 z.length + 12)) = j by omega, ← List.getD_eq_getElem?_getD]
theorem zD_set {k : Nat} (hk : k < 12) (x : Int) : (zD z r).set (4 + k) x = zD z (r.set k x) := by
 unfold zD;rw [List.append_assoc, List.append_assoc, List.set_append_right _ _ (by rw [List.length_take]; omega), List.length_take, show 4 + k - min 4 z.length = k by omega, List.set_append_left _ _ (by omega)]
end
theorem zD_self {z : List Int} (hz : z.length = 18) : zD z ((z.drop 4).take 12) = z := by
 have hr : ((z.drop 4).take 12).length = 12 := by rw [List.length_take, List.length_drop]; omega
 refine ext_getZ (by rw [zD_len hz hr, hz]) fun j hj => ?_
 rw [zD_len hz hr] at hj
 by_cases h1 : j < 4
 ·exact zD_lo hz hr h1
 ·by_cases h2 : j < 16
  ·obtain ⟨i, rfl⟩ : ∃ i, j = 4 + i := ⟨j - 4, by omega⟩
   rw [zD_mid hz hr (by omega), part_get hz (by omega)]
  ·exact zD_hi hz hr (by omega)
theorem ino_zD {N M : Int} {z : List Int} (hz : z.length = 18) (wt : Img) (cl : Int → Bool) : ((zD z (dirT N M z wt cl).1).set 16 (leftF (sinT N M z wt cl).1 (z.getD 16 0))).set 17 (leftF (dblT N M z wt cl).1 (z.getD 17 0)) = (inoT N M z wt cl).set 1 (z.getD 1 0) := by
 have hd : (dirT N M z wt cl).1.length = 12 := by unfold dirT; rw [goK_len, List.length_take, List.length_drop]; omega
 have hl := zD_len hz hd
 refine ext_getZ (by rw [List.length_set, List.length_set, hl, List.length_set, inoT_len' hz]) fun j hj => ?_
 rw [List.length_set, List.length_set, hl] at hj
 have e16 : (inoT N M z wt cl).getD 16 0 = leftF (sinT N M z wt cl).1 (z.getD 16 0) := by
  unfold inoT;rw [List.getD_eq_getElem?_getD, List.getElem?_append_right (by simp [hd])]
  simp [hd]
 have e17 : (inoT N M z wt cl).getD 17 0 = leftF (dblT N M z wt cl).1 (z.getD 17 0) := by
  unfold inoT;rw [List.getD_eq_getElem?_getD, List.getElem?_append_right (by simp [hd])]
  simp [hd]
 obtain ⟨e0, e1, e2, e3⟩ := inoT_0 N M z wt cl
 by_cases h17 : j = 17
 ·subst h17
  rw [getD_set_eq (by rw [List.length_set, hl]; omega), getD_set_ne (by omega), e17]
 ·rw [getD_set_ne (fun e => h17 e.symm)]
  by_cases h16 : j = 16
  ·subst h16
   rw [getD_set_eq (by rw [hl]; omega), getD_set_ne (by omega), e16]
  ·rw [getD_set_ne (fun e => h16 e.symm)]
   by_cases h4 : j < 4
   ·rw [zD_lo hz hd h4]
    by_cases h1 : j = 1
    ·subst h1
     rw [getD_set_eq (by rw [inoT_len' hz]; omega)]
    ·rw [getD_set_ne (fun e => h1 e.symm)]
     match j, h4 with
     | 0, _ => exact e0.symm
     | 1, _ => exact absurd rfl h1
     | 2, _ => exact e2.symm
     | 3, _ => exact e3.symm
   ·obtain ⟨i, rfl⟩ : ∃ i, j = 4 + i := ⟨j - 4, by omega⟩
    rw [zD_mid hz hd (by omega), getD_set_ne (by omega)];unfold inoT;rw [List.append_assoc, List.getD_eq_getElem?_getD, List.getD_eq_getElem?_getD, List.getElem?_append_right (by simp), List.getElem?_append_left (by simp [hd]; omega)]
    simp
theorem IsK.away {w w' w0 : World} {c : KC} {s s0 : KT} (h : IsK w c s) (h0 : IsK w0 c s0) (hv : s.v = s0.v) {gx : Nat} (hg : w0.heap.size ≤ gx) (hc : Chg w w' (· = gx)) : IsK w' c s := by
 have a0 := slt h0.me;have a1 := h0.wt.lt;obtain ⟨A2, e2, _⟩ := h0.cl;obtain ⟨A3, e3, _⟩ := h0.tk;have a4 := h0.inn.lt;obtain ⟨A5, e5, _⟩ := h0.en;have a2 := slt e2;have a3 := slt e3;have a5 := slt e5
 exact ⟨hc.keep h.me (by omega), h.ci.keep hc (fun k hk e => by
  rcases blk_lt h0.ci hk with h2 | h2
  ·omega
  ·have h3 := h0.il; have h4 := h0.n1; rw [h2] at h3; simp at h3; omega), h.il, h.n1, h.n2, h.m1, h.m2, h.wt.keep hc (by omega), h.wl, h.cl.keep hc (by omega), h.tk.keep hc (by omega), h.inn.keep hc (by omega), h.i18, h.en.keep hc (by omega), h.row.keep hc (fun k e e6 => by
  rw [hv] at e;have := h0.row.below e
  omega), h.d1, h.d2, h.d3⟩
structure GI (w0 w : World) (c : KC) (s : KT) (gx : Nat) (zz : List Int) (x : TS) : Prop where
 k : IsK w c (goneS s x)
 x : w.heap[gx]? = some (.cells (NA zz) 51 (0, 0))
 ch : Chg w0 w (fun k => k = c.g ∨ k = c.cb)
 l : zz.length = 18
section
variable {w0 w w' : World} {c : KC} {s : KT} {gx : Nat} {zz : List Int} {x : TS}
theorem GI.ne (h0 : IsK w0 c s) (hg : w0.heap.size ≤ gx) : ¬ (gx = c.g ∨ gx = c.cb) := by
 have a1 := h0.wt.lt;obtain ⟨A2, e2, _⟩ := h0.cl;have a2 := slt e2
 omega
theorem GI.set (h : GI w0 w c s gx zz x) (h0 : IsK w0 c s) (hg : w0.heap.size ≤ gx) (j : Nat) (y : Int) : GI w0 (w.setCell ⟨gx, j, none⟩ (.int .i64 y)) c s gx (zz.set j y) x :=
 ⟨h.k.away h0 rfl hg Chg.setCell, row_set h.x, h.ch.trans Chg.setCell (fun _ _ e => e) (fun k hk e => by omega), by rw [List.length_set]; exact h.l⟩
theorem GI.step (h : GI w0 w c s gx zz x) (h0 : IsK w0 c s) (hg : w0.heap.size ≤ gx) {x' : TS} (hk : IsK w' c (goneS s x')) (hc : Chg w w' (fun k => k = c.g ∨ k = c.cb)) : GI w0 w' c s gx zz x' :=
 ⟨hk, hc.keep h.x (GI.ne h0 hg), h.ch.trans hc (fun _ _ e => e) (fun _ _ e => e), h.l⟩
theorem GI.cell (h : GI w0 w c s gx zz x) {j : Nat} (hj : j < 18) : w.cell? ⟨gx, j, none⟩ = some (.int .i64 (zz.getD j 0)) ∧ w.frozen? ⟨gx, j, none⟩ = false :=
 ⟨row_cell h.x j (by rw [h.l]; exact hj), frozen_of_row w gx j _ 51 h.x⟩
end
theorem good_run {c : KC} {s : KT} {x : TS} (y : Int) (w : World) (h : IsK w c (goneS s x)) : Calls Tryz.prog 53 #[.pointer (some ⟨c.p, 0, none⟩), .int .i64 y] w fun e w' => e = .returned (.bool (claimB c.N c.M x.cl y)) ∧ IsK w' c (goneS s ⟨x.wt, if claimB c.N c.M x.cl y = true then putC x.cl y else x.cl, x.sp⟩) ∧ Chg w w' (fun k => k = c.g ∨ k = c.cb) := by
 refine (good_any y w h).mono ?_
 rintro e w' ⟨rfl, h2, h3⟩
 refine ⟨rfl, ?_, h3.mono fun _ _ e => .inr e⟩;have hcl : claimB c.N c.M (goneS s x).cl y = claimB c.N c.M x.cl y := rfl;rw [hcl] at h2
 cases hb : claimB c.N c.M x.cl y with
 | true => rw [hb] at h2; exact h2
 | false => rw [hb] at h2; exact h2
theorem gone_run {c : KC} {s : KT} {x : TS} (at_ : Nat) (f n : Int) (w : World) (h : IsK w c (goneS s x)) (ha : at_ < c.N) (hf : 0 ≤ f ∧ f ≤ 100000) : Calls Tryz.prog 54 #[.pointer (some ⟨c.p, 0, none⟩), .int .i64 (at_ : Int), .int .i64 f, .int .i64 n] w fun e w' => e = .returned (.bool (goF (innerF 1 f (blockF c.N c.M n)) (at_ : Int) x).1) ∧ IsK w' c (goneS s (goF (innerF 1 f (blockF c.N c.M n)) (at_ : Int) x).2) ∧ Chg w w' (fun k => k = c.g ∨ k = c.cb) := by
 have hq := gone_any at_ f n x.sp w h ha hf;have e1 : (⟨(goneS s x).wt, (goneS s x).cl, x.sp⟩ : TS) = x := rfl;rw [e1] at hq;obtain ⟨y, hy⟩ : ∃ y, y = goF (innerF 1 f (blockF c.N c.M n)) (at_ : Int) x := ⟨_, rfl⟩;rw [← hy] at hq ⊢
 exact hq
theorem tableF_off {N M cnt each : Int} {keep : KeepF} {S : TS} {f p : Int} (h : (decide (f < cnt) && claimB N M S.cl p) = false) : tableF N M cnt each keep S f p = (false, S) :=
 if_neg (by rw [h]; exact Bool.false_ne_true)
theorem tableF_on {N M cnt each : Int} {keep : KeepF} {S : TS} {f p : Int} (h : (decide (f < cnt) && claimB N M S.cl p) = true) : tableF N M cnt each keep S f p = goF (innerF each f keep) p ⟨S.wt, putC S.cl p, S.sp⟩ :=
 if_pos h
end Go.Proofs.YtpmignilhoihnaaGreat

namespace Go.Proofs.YtpmignilhoihnaaGreat
open Go.RowKit Go.Shelf

theorem WtAt.byteK {w : World} {g : Nat} {im : Img} (h : WtAt w g im) {j i : Nat} {x : Int} (hj : j < im.length) (hi : i < 128) (hx : 0 ≤ x ∧ x ≤ 255) : WtAt (w.setCell ⟨g, j * 128 + i, none⟩ (.int .u8 x)) g (im.set j ((secI im (j : Int)).set i x)) := by
 obtain ⟨h0, A, h1, h2⟩ := id h;have hs := h.sec (j : Int);refine ⟨fun s hm => ?_, _, heap_setCell_same w g (j * 128 + i) A _ _ h1, fun j' s hj' i' y hy => ?_⟩
 ·rcases List.mem_or_eq_of_mem_set hm with e | e
  ·exact h0 s e
  ·subst e
   refine ⟨by rw [List.length_set]; exact hs.1, fun y hy => ?_⟩
   rcases List.mem_or_eq_of_mem_set hy with e | e
   ·exact hs.2 y e
   ·rw [e]; exact hx
 ·have hA : ∀ (j' : Nat) s, im[j']? = some s → s.length = 128 := fun j' s hq => (h0 s (List.mem_of_getElem? hq)).1
  rw [Array.getElem?_setIfInBounds]
  by_cases e : j = j'
  ·subst e
   rw [List.getElem?_set_self hj] at hj';have e1 := Option.some.inj hj';subst e1
   have hi' : i' < 128 := by
    have := (List.getElem?_eq_some_iff.1 hy).1;rw [List.length_set, hs.1] at this
    exact this
   have hold : ∀ k, k < 128 → ∃ z, (secI im (j : Int))[k]? = some z := fun k hk => ⟨_, List.getElem?_eq_getElem (by rw [hs.1]; exact hk)⟩
   by_cases e2 : i = i'
   ·subst e2
    obtain ⟨z, hz⟩ := hold i hi;have hin : j * 128 + i < A.size := (Array.getElem?_eq_some_iff.1 (h2 j _ (getD_at hj) i z hz)).1;rw [List.getElem?_set_self (by rw [hs.1]; exact hi)] at hy;rw [if_pos rfl, if_pos hin, ← Option.some.inj hy]
   ·rw [List.getElem?_set_ne e2] at hy
    rw [if_neg (by omega)]
    exact h2 j _ (getD_at hj) i' y hy
  ·rw [List.getElem?_set_ne e] at hj'
   have hi' : i' < 128 := by
    have := (List.getElem?_eq_some_iff.1 hy).1;rw [hA j' s hj'] at this
    exact this
   rw [if_neg (by omega)]
   exact h2 j' s hj' i' y hy
section
variable {ops : Array Oper} {Q : Exit → Act → World → Prop} {S : World → Prop} {fuel : Nat} {listed : Array Bool} {a : Act} {w : World}
theorem stStoreNK (i : Nat) (x y : Operand) (b k n : Nat) (z : List Int) (f : Nat → List Int) {o : Oper} (hop : ops[i]? = some o) (hd : o.dst = none) (hw : Region.wanted o (yielded ops a.tmps) = true) (ho : o.op = .store 51 x y)
  (hx : a.eval x = .pointer (some ⟨b, k * 18, none⟩)) (hy : a.eval y = .agg (NA z)) (hz : z.length = 18) (h : InAt w b n f) (hk : k < n)
  (hK : ∀ w', InAt w' b n (putF18 f k z) → Chg w w' (· = b) → S w' ∧ wpAnyH Tryz.prog .any ops Q S fuel (listed.setIfInBounds i true) a w') : St ops Q S fuel listed a w i := by
 refine wpOp_step hop (fun K hKK => ?_);rw [if_pos hw];obtain ⟨A, hA, hA2⟩ := id h;refine wp_store_mid 51 x y ho b (k * 18) (NA z) hx hy (fun j hj => ?_) (by rw [szI, NA_size, hz]) (NA_one z) ?_
 ·rw [NA_size, hz] at hj
  rw [h.cell hk hj]
  exact ⟨rfl, frozen_of_row w b _ A 51 hA⟩
 ·obtain ⟨h1, h2⟩ := h.set hk hz
  have := hK _ h1 h2;unfold Act.put;rw [hd]
  have e : (NA z).toList = z.map (Value.int .i64) := by simp [NA]
  rw [e]
  exact hKK _ _ this
end
theorem IsK.setV {w w' : World} {c : KC} {s : KT} {v' : Value} {l' : List Int} (h : IsK w c s) (hi : IOwn w' c.B v' l') (hc : Chg w w' (fun k => s.v.ownBlock = some k)) (hn : v'.ownBlock = s.v.ownBlock ∨ v'.ownBlock = some w.heap.size) : IsK (w'.setCell ⟨c.p, 8, none⟩ v') c { s with v := v', row := l' } ∧ Chg w (w'.setCell ⟨c.p, 8, none⟩ v') (fun k => s.v.ownBlock = some k ∨ k = c.p) := by
 obtain ⟨n1, n2, n3, n4, n5, n6, n7, n8, n9, n10, n11, n12, n13, n14⟩ := h.ne
 have hp : ¬ s.v.ownBlock = some c.p := fun e => (h.rowNe e).1 rfl
 have hg : ¬ s.v.ownBlock = some c.g := fun e => (h.rowNe e).2.1 rfl
 have hcb : ¬ s.v.ownBlock = some c.cb := fun e => (h.rowNe e).2.2.1 rfl
 have htb : ¬ s.v.ownBlock = some c.tb := fun e => (h.rowNe e).2.2.2.1 rfl
 have hib : ¬ s.v.ownBlock = some c.ib := fun e => (h.rowNe e).2.2.2.2.1 rfl
 have heb : ¬ s.v.ownBlock = some c.eb := fun e => (h.rowNe e).2.2.2.2.2 rfl
 have h2 : Chg w' (w'.setCell ⟨c.p, 8, none⟩ v') (· = c.p) := Chg.setCell;have h3 : Chg w (w'.setCell ⟨c.p, 8, none⟩ v') (fun k => s.v.ownBlock = some k ∨ k = c.p) := hc.trans h2 (fun _ _ e => .inl e) (fun _ _ e => .inr e);refine ⟨⟨?_, h.ci.keep h3 (fun k hk e => ?_), h.il, h.n1, h.n2, h.m1, h.m2, h.wt.keep h3 (by rintro (e | e); exact hg e; exact n1 e.symm), h.wl, h.cl.keep h3 (by rintro (e | e); exact hcb e; exact n2 e.symm), h.tk.keep h3 (by rintro (e | e); exact htb e; exact n3 e.symm), h.inn.keep h3 (by rintro (e | e); exact hib e; exact n4 e.symm), h.i18, h.en.keep h3 (by rintro (e | e); exact heb e; exact n5 e.symm), hi.keep h2 (fun k e e2 => ?_), h.d1, h.d2, h.d3⟩, h3⟩
 ·exact heap_setCell_same w' c.p 8 _ _ _ (hc.keep h.me hp)
 ·rcases e with e | e
  ·have := (h.row.blk e).1
   have := (h.d3 k hk).2.2.2.2.2.2
   omega
  ·exact (h.d3 k hk).1 e
 ·subst e2
  have hl := slt h.me
  rcases hn with e3 | e3
  ·rw [e3] at e; exact hp e
  ·rw [e3] at e
   have := Option.some.inj e
   omega
theorem wipK_low (s : List Int) {f : Int} : ∀ k : Nat, (k : Int) ≤ f → wipK s f k = s
 | 0, _ => rfl
 | k + 1, h => by
  show (if f ≤ (k : Int) then _ else wipK s f k) = s
  rw [if_neg (by omega)]
  exact wipK_low s k (by omega)
theorem wipK_up (s : List Int) {f : Int} {k : Nat} (h : f ≤ (k : Int)) : wipK s f (k + 1) = (wipK s f k).set k 0 := by
 show (if f ≤ (k : Int) then _ else wipK s f k) = _
 rw [if_pos h]
theorem wip_up (im : Img) {n k : Nat} {s : List Int} {f : Int} (hn : n < im.length) (h : f ≤ (k : Int)) : (im.set n (wipK s f k)).set n ((secI (im.set n (wipK s f k)) (n : Int)).set k 0) = im.set n (wipK s f (k + 1)) := by
 rw [List.set_set, wipK_up s h]
 congr 1
 congr 1
 unfold secI;rw [Int.toNat_natCast, List.getD_eq_getElem?_getD, List.getElem?_set_self hn]
 rfl

set_option maxHeartbeats 1000000 in
set_option maxRecDepth 100000 in
theorem source_any {c : KC} {s : KT} (w : World) (h : IsK w c s) :
  Calls Tryz.prog 58 #[.pointer (some ⟨c.p, 0, none⟩)] w fun e w' => e = .returned (.agg (srcV (some ⟨c.g, 0, none⟩) c.wc ⟨s.wt, -1, 0⟩)) ∧ Chg w w' No := by
 obtain ⟨SV, hSV⟩ : ∃ y, y = srcV (some ⟨c.g, 0, none⟩) c.wc ⟨s.wt, -1, 0⟩ := ⟨_, rfl⟩;have HSV : Hid (SV = #[.slice (some ⟨c.g, 0, none⟩) c.N c.wc, .int .i64 (-1), .int .i64 0]) := hid (by rw [hSV]; unfold srcV; rw [h.wl]);have HS3 : Hid (SV.size = 3) := hid (by rw [hSV]; rfl);have HS1 : Hid (SV.all (·.oneCell') = true) := hid (by rw [HSV.out]; simp [Value.oneCell'])
 have hb : ∀ W, (Instr.build 109 #[(0, .slice (some ⟨c.g, 0, none⟩) c.N c.wc), (1, .int .i64 (-1))]).run Tryz.prog W = .ok (.agg SV) W := fun W => by rw [HSV.out]; kernel_rfl
 have c3 := (h.call (Chg.alloc w (.cells #[.slice none 0 0, .int .i64 0, .int .i64 0] 109) No)).cW
 have hzs : ∀ W, (zeroValue 109).run Tryz.prog W = .ok (.agg #[.slice none 0 0, .int .i64 0, .int .i64 0]) W := fun W => by kernel_rfl
 rw [← hSV];clear hSV h
 go_enter Tryz.func58, Tryz.ntmps58
 go_wp2_with fail
 exact bodyPost_ret (results_R1 Tryz.results58 _ _ w.heap.size _ 109 _ Tryz.underlying109 rfl (by rw [szSrc]; rfl) rfl (heap_alloc_new _ _)) rfl ⟨by rw [HSV.out], Chg.alloc _ _ No⟩
end Go.Proofs.YtpmignilhoihnaaGreat
