/-
 The document's Spots.
-/
import Derived.Test.YtpmignilhoihnaaGreatN4
namespace Go.Proofs.YtpmignilhoihnaaGreat
open Go.RowKit Go.Shelf

def rowQ (s : Src9) (T : List Int) (i : Nat) : Row9 := ⟨44 + 32 * (i : Int), (rtab9 s (T.getD i 0)).1, (rtab9 s (T.getD i 0)).2⟩
def rowsQ (s : Src9) (z : List Int) : List Row9 :=
 [⟨0, (z.drop 4).take 12, 0⟩] ++ ([⟨12, (rtab9 s (z.getD 16 0)).1, (rtab9 s (z.getD 16 0)).2⟩] ++ (if (rtab9 s (z.getD 17 0)).2 = 0 then (List.range 32).map (rowQ s (rtab9 s (z.getD 17 0)).1) else [⟨0, [], (rtab9 s (z.getD 17 0)).2⟩]))
theorem sown_own {A B : World} {row : Option Nat} {n : Nat} {v : Value} {l : List Sp9} (h : SOwn A n v l) (hg : A.grownBy B row) (hq : ∀ r, row = some r → ∀ cs f, A.heap[r]? ≠ some (.cells cs 116 f)) : SOwn B n v l := by
 refine World.ownsRow.kept h hg ?_
 rcases h.2 with ⟨rfl, _⟩ | ⟨g, cap, cur, rfl, _, hgb, _⟩
 ·exact .inl rfl
 ·exact .inr (fun e => hq g e.symm _ _ hgb)
theorem sown_below {A B : World} {n : Nat} {v : Value} {l : List Sp9} (h : SOwn A n v l) (hb : Below A.heap.size A B) : SOwn B n v l :=
 sown_own (row := none) h ⟨hb.os, hb.tape, hb.output, hb.size, fun i hi _ => hb.block i hi⟩ (fun r e => by cases e)
theorem sown_put {A B : World} {g n : Nat} {c old : Array Value} {t : TypeId} {v : Value} {l : List Sp9} (h : SOwn A n v l) (hp : PutR A g c t B) (hold : A.heap[g]? = some (.cells old t (0, 0))) (ht : t ≠ 116) : SOwn B n v l :=
 sown_own (row := some g) h ⟨hp.os, hp.tape, hp.output, Nat.le_of_eq hp.size.symm, fun i hi hne => hp.other i (fun e => hne (by rw [e]))⟩ (fun r e cs f h2 => by cases e; rw [hold] at h2; cases h2; exact ht rfl)
def farK (s : Src9) (T : List Int) (k : Nat) : List Sp9 := ((List.range k).map (rowQ s T)).flatMap spotRow
theorem farK_succ (s : Src9) (T : List Int) (k : Nat) : farK s T (k + 1) = farK s T k ++ spotRow ⟨44 + 32 * (k : Int), (rtab9 s (T.getD k 0)).1, 0⟩ := by
 unfold farK;rw [List.range_succ, List.map_append, List.flatMap_append]
 simp [rowQ, spotRow]
theorem spotRow_le (x : Row9) : (spotRow x).length ≤ x.ps.length := by unfold spotRow; rw [List.length_map]; exact there_le _
theorem farK_le (s : Src9) (T : List Int) : ∀ k, (farK s T k).length ≤ 32 * k
 | 0 => by simp [farK]
 | k + 1 => by
  rw [farK_succ, List.length_append];have := farK_le s T k;have h2 := spotRow_le ⟨44 + 32 * (k : Int), (rtab9 s (T.getD k 0)).1, 0⟩
  simp only [rtab9_len] at h2
  omega
theorem ansQ_1 {s : Src9} {z : List Int} (h : (rtab9 s (z.getD 16 0)).2 ≠ 0) : rowsAns (rowsQ s z) = ([], (rtab9 s (z.getD 16 0)).2) := by
 refine ans_bad _ 1 ⟨12, (rtab9 s (z.getD 16 0)).1, (rtab9 s (z.getD 16 0)).2⟩ rfl (fun j y hj hy => ?_) h
 obtain rfl : j = 0 := by omega
 cases hy; rfl
theorem ansQ_2 {s : Src9} {z : List Int} (h1 : (rtab9 s (z.getD 16 0)).2 = 0) (h : (rtab9 s (z.getD 17 0)).2 ≠ 0) : rowsAns (rowsQ s z) = ([], (rtab9 s (z.getD 17 0)).2) := by
 refine ans_bad _ 2 ⟨0, [], (rtab9 s (z.getD 17 0)).2⟩ ?_ (fun j y hj hy => ?_) h
 ·unfold rowsQ; rw [if_neg h]; rfl
 ·match j, hj with
  | 0, _ => cases hy; rfl
  | 1, _ => cases hy; exact h1
theorem ansQ_far {s : Src9} {z : List Int} (h1 : (rtab9 s (z.getD 16 0)).2 = 0) (h2 : (rtab9 s (z.getD 17 0)).2 = 0) (k : Nat) (hk : k < 32) (ho : ∀ i, i < k → (rtab9 s ((rtab9 s (z.getD 17 0)).1.getD i 0)).2 = 0) (h : (rtab9 s ((rtab9 s (z.getD 17 0)).1.getD k 0)).2 ≠ 0) : rowsAns (rowsQ s z) = ([], (rtab9 s ((rtab9 s (z.getD 17 0)).1.getD k 0)).2) := by
 have hget : ∀ i, i < 32 → (rowsQ s z)[i + 2]? = some (rowQ s (rtab9 s (z.getD 17 0)).1 i) := by
  intro i hi
  unfold rowsQ;rw [if_pos h2]
  simp [hi]
 refine ans_bad _ (k + 2) _ (hget k hk) (fun j y hj hy => ?_) h
 match j, hj with
 | 0, _ => cases hy; rfl
 | 1, _ => cases hy; exact h1
 | j + 2, hj =>
  rw [hget j (by omega)] at hy
  cases hy
  exact ho j (by omega)
theorem ansQ_ok {s : Src9} {z : List Int} (h1 : (rtab9 s (z.getD 16 0)).2 = 0) (h2 : (rtab9 s (z.getD 17 0)).2 = 0) (ho : ∀ i, i < 32 → (rtab9 s ((rtab9 s (z.getD 17 0)).1.getD i 0)).2 = 0) : rowsAns (rowsQ s z) = (spotRow ⟨0, (z.drop 4).take 12, 0⟩ ++ spotRow ⟨12, (rtab9 s (z.getD 16 0)).1, 0⟩ ++ farK s (rtab9 s (z.getD 17 0)).1 32, 0) := by
 have hall : ∀ x ∈ rowsQ s z, x.err = 0 := by
  intro x hx
  unfold rowsQ at hx;rw [if_pos h2] at hx
  rcases List.mem_append.1 hx with hx | hx
  ·simp at hx; subst hx; rfl
  ·rcases List.mem_append.1 hx with hx | hx
   ·simp at hx; subst hx; exact h1
   ·obtain ⟨i, hi, rfl⟩ := List.mem_map.1 hx
    exact ho i (by simpa using hi)
 rw [ans_ok _ hall];unfold rowsQ;rw [if_pos h2]
 simp [farK, spotRow]
set_option maxRecDepth 100000 in
set_option maxHeartbeats 4000000 in
theorem rSpots_any (a : Option Addr) (c : Nat) (s : Src9) (z : List Int) (w : World) (hz : z.length = 18) (hi : ImgAt w a s.im) :
  Calls Tryz.prog 59 #[.agg (srcV a c s), .agg (NA z)] w fun e w' => ∃ v, e = .returned (.tuple #[v, .int .i64 (rowsAns (rowsQ s z)).2]) ∧ SOwn w' w.heap.size v (rowsAns (rowsQ s z)).1 ∧ Below w.heap.size w w' := by
 have hzp := zero_ptr;obtain ⟨SV, hSV⟩ : ∃ y, y = srcV a c s := ⟨_, rfl⟩;have HSV := hid hSV
 have hS3 : SV.size = 3 := by rw [hSV]; rfl
 rw [← hSV];clear hSV;obtain ⟨W, hW⟩ : ∃ y, y = (w.alloc (.cells SV 109)).alloc (.cells (NA z) 51) := ⟨_, rfl⟩
 have H0 : Hid (W.heap[w.heap.size]? = some (.cells SV 109 (0, 0))) := by rw [hW]; exact heap_alloc2_old w _ _
 have H1 : Hid (W.heap[w.heap.size + 1]? = some (.cells (NA z) 51 (0, 0))) := by rw [hW]; exact heap_alloc2_new w _ _
 have HB : Hid (Below w.heap.size w W) := by rw [hW]; exact ((Below.refl _ _).alloc (Nat.le_refl _) _).alloc (by simp) _
 have HT := hid (fun (n : Int) (X : World) (hX : Below w.heap.size w X) => show Calls Tryz.prog 97 #[.agg SV, .int .i64 n] X (fun e w' => e = .returned (.tuple #[.agg (NA (rtab9 s n).1), .int .i64 (rtab9 s n).2]) ∧ Below X.heap.size X w') from by
  have := rtable_any a c s n X (hi.below hX);rw [← HSV.out] at this
  exact this)
 have A1 := hid (@ansQ_1 s z);have A2 := hid (@ansQ_2 s z);have A3 := hid (@ansQ_far s z);have A4 := hid (@ansQ_ok s z);obtain ⟨D, hD⟩ : ∃ y, y = (z.drop 4).take 12 := ⟨_, rfl⟩
 have hDl : D.length = 12 := by rw [hD, List.length_take, List.length_drop, hz]; rfl
 have HDg : Hid (∀ k, k < 12 → D.getD k 0 = z.getD (4 + k) 0) := hid (fun k hk => by rw [hD, List.getD_eq_getElem?_getD, List.getElem?_take, if_pos hk, List.getElem?_drop, List.getD_eq_getElem?_getD]);rw [← hD] at A4;clear hD;have HR := hid (spK_row 0 D 0);rw [hDl] at HR
 go_enter Tryz.func59, Tryz.ntmps59
 go_upto_region 1 with fail
 rw [← hW];clear hW
 go_upto_region 3 with fail
 go_loopw [6, 7] (fun v i wr => ∃ (k : Nat), k ≤ 12 ∧ i = .int .i64 k ∧ Hid (SOwn wr w.heap.size v (spK 0 D k)) ∧ Hid (Below w.heap.size w wr) ∧ Hid (wr.heap[w.heap.size]? = some (.cells SV 109 (0, 0))) ∧ Hid (wr.heap[w.heap.size + 1]? = some (.cells (NA z) 51 (0, 0)))) (fun _ i _ => 12 - (intOf i).toNat)
 case atStart => exact ⟨0, by omega, rfl, hid (World.ownsRow_nil _ _ _ _), HB, H0, H1⟩
 case round =>
  obtain ⟨k, hk, rfl, HO, HBr, HSr, HZr⟩ := hrel
  by_cases hlt : k < 12
  ·have hcx := row_cell HZr.out (4 + k) (by omega)
   rw [← HDg.out k hlt] at hcx;have hz0 : Hid (D.getD k 0 = 0 → spK 0 D (k + 1) = spK 0 D k) := hid spK_zero;have hs0 : Hid (D.getD k 0 ≠ 0 → spK 0 D (k + 1) = spK 0 D k ++ [⟨0 + (k : Int), D.getD k 0, 0⟩]) := hid spK_some;rw [Int.zero_add] at hs0
   generalize D.getD k 0 = x at *
   have j0 : (0 : Int) ≤ (k : Int) := by omega
   have j1 : (k : Int) < 12 := by omega
   by_cases hx : x = 0
   ·have HE := hid (hz0.out hx)
    subst hx;clear hs0 hz0
    go_wp2_with fail
    exact ⟨⟨k + 1, by omega, by go_num, by rw [HE.out]; exact HO, HBr, HSr, HZr⟩, by simp [intOf]; omega⟩
   ·have HE := hid (hs0.out hx)
    clear hs0 hz0;obtain ⟨av, cv, hv, _, _⟩ := row_shape9 HO.out;subst hv;have hl := spK_le 0 D k;have HN : Hid ((wr.alloc (.cells #[.int .i64 (k : Int), .int .i64 x] 116)).heap[wr.heap.size]? = some (.cells #[.int .i64 (k : Int), .int .i64 x] 116 (0, 0))) := heap_alloc_new _ _
    go_wp2_with (first
     | (at_builtin; refine wp_appP rfl _ _ rfl w.heap.size wr.heap.size 1 _ (spK 0 D k) ⟨(k : Int), x, 0⟩ rfl rfl (ownsRow_alloc9 HO.out _) (by rw [cell_of_row _ _ _ _ _ _ HN.out]; rfl) (by rw [cell_of_row _ _ _ _ _ _ HN.out]; rfl) (by omega) (by have := HBr.out.size; simp; omega) ?_; intro v2 w2 ho2 hg2))
    have hTa : (wr.alloc (.cells #[.int .i64 (k : Int), .int .i64 x] 116)).heap[w.heap.size]? = some (.cells SV 109 (0, 0)) := by rw [Below.heap_alloc _ _ _ (slt HSr.out)]; exact HSr.out
    have hTb : (wr.alloc (.cells #[.int .i64 (k : Int), .int .i64 x] 116)).heap[w.heap.size + 1]? = some (.cells (NA z) 51 (0, 0)) := by rw [Below.heap_alloc _ _ _ (slt HZr.out)]; exact HZr.out
    exact ⟨⟨k + 1, by omega, by go_num, by rw [HE.out]; exact ho2, hid ((HBr.out.alloc HBr.out.size _).trans hg2.low), hid (hg2.keep _ _ _ _ hTa (by decide)), hid (hg2.keep _ _ _ _ hTb (by decide))⟩, by simp [intOf]; omega⟩
  ·obtain rfl : k = 12 := by omega
   have HO2 : Hid (SOwn wr w.heap.size u6 (spotRow ⟨0, D, 0⟩)) := by rw [← HR.out]; exact HO
   have hLD : (spotRow ⟨0, D, 0⟩).length ≤ 12 := by have := spotRow_le ⟨0, D, 0⟩; simp only [hDl] at this; exact this
   obtain ⟨R0, hR0⟩ : ∃ y, y = spotRow ⟨0, D, 0⟩ := ⟨_, rfl⟩;rw [← hR0] at HO2 hLD A4;clear hR0 HO HR;obtain ⟨av, cv, hv, _, _⟩ := row_shape9 HO2.out;subst hv;obtain ⟨S1, hS1⟩ : ∃ y, y = z.getD 16 0 := ⟨_, rfl⟩;obtain ⟨D1, hD1⟩ : ∃ y, y = z.getD 17 0 := ⟨_, rfl⟩
   have cS : wr.cell? ⟨w.heap.size + 1, 16, none⟩ = some (.int .i64 S1) := by rw [hS1]; exact row_cell HZr.out 16 (by omega)
   have HD1 := hid hD1;rw [← hS1] at A1;rw [← hS1, ← hD1] at A2 A3 A4;clear hS1 hD1;have HTS := hid (HT.out S1);have HTD := hid (HT.out D1);have hl1 := rtab9_len s S1;have hl2 := rtab9_len s D1;obtain ⟨T1, e1, h1⟩ : ∃ T e, rtab9 s S1 = (T, e) := ⟨_, _, rfl⟩;obtain ⟨T2, e2, h2⟩ : ∃ T e, rtab9 s D1 = (T, e) := ⟨_, _, rfl⟩;rw [h1] at HTS hl1;rw [h2] at HTD hl2;rw [h1] at A1;rw [h1, h2] at A2 A3 A4;clear h1 h2
   go_upto_region 8 with (first
    | (refine load_R rfl 109 (.tmp 2) rfl w.heap.size rfl 109 SV _ HSr.out Tryz.underlying109 rfl (by rw [szSrc, hS3]) ?_)
    | (go_at_call 97; go_must (refine (HTS.out wr HBr.out).mono ?_; rintro e w5 ⟨rfl, hb5⟩; have HB5 := hid hb5; clear hb5))
    | (refine store_R rfl 103 (.tmp 8) (.tmp 36) rfl w5.heap.size (NA T1) rfl rfl 103 (NA Zp) (heap_alloc_new _ _) (by rw [szP, NA_size, hl1]) (by rw [NA_size, NA_size, Zp_len, hl1]) (NA_one _) ?_; go_must (intro w6 p6; have P6 := hid p6.here; have B6 : Hid (Below wr.heap.size wr w6) := hid (p6.below (HB5.out.alloc HB5.out.size _) HB5.out.size); clear p6)))
   have W6 : Hid (Below w.heap.size w w6) := hid (btr HBr.out B6.out HBr.out.size);have O6 := hid (sown_below HO2.out B6.out)
   have S6 : Hid (w6.heap[w.heap.size]? = some (.cells SV 109 (0, 0))) := by rw [B6.out.block _ (slt HSr.out)]; exact HSr
   have Z6 : Hid (w6.heap[w.heap.size + 1]? = some (.cells (NA z) 51 (0, 0))) := by rw [B6.out.block _ (slt HZr.out)]; exact HZr
   have hb8 : Hid (w.heap.size + 1 < w5.heap.size) := hid (by have := slt HZr.out; have := HB5.out.size; omega)
   by_cases he : ¬ e1 = 0
   ·have HE := hid (A1.out he)
    go_wp2_with fail
    exact bodyPost_ret (results_2t Tryz.results59 _ _) rfl ⟨_, by rw [HE.out]; rfl, by rw [HE.out]; exact World.ownsRow_nil _ _ _ _, W6.out⟩
   have he1 : e1 = 0 := Decidable.not_not.1 he;subst he1;clear he;have A2' := hid (A2.out rfl);have A3' := hid (A3.out rfl);have A4' := hid (A4.out rfl);clear A1 A2 A3 A4 HB5 HO2 HSr HZr HBr;have hr := rrow_any T1 12 w6 hl1 (by decide) (by decide)
   have hL1 : (spotRow ⟨12, T1, 0⟩).length ≤ 32 := by have := spotRow_le ⟨12, T1, 0⟩; simp only [hl1] at this; exact this
   obtain ⟨R1, hR1⟩ : ∃ y, y = spotRow ⟨12, T1, 0⟩ := ⟨_, rfl⟩;rw [← hR1] at hr hL1 A4';clear hR1
   go_upto_region 11 with (first
    | (refine load_R rfl 103 (.tmp 8) rfl w5.heap.size rfl 103 (NA T1) _ P6.out Tryz.underlying103 rfl (by rw [szP, NA_size, hl1]) ?_)
    | (go_at_call 98; go_must (refine hr.mono ?_; rintro e w7 ⟨v7, rfl, ho7, hb7⟩; have HO7 := hid ho7; have HB7 := hid hb7; have O7 := hid (sown_below O6.out hb7); clear ho7 hb7))
    | (at_builtin; go_must (refine wp_appPs rfl _ _ rfl w.heap.size w6.heap.size _ v7 R0 R1 rfl rfl O7.out HO7.out (by omega) (by omega) (by have := W6.out.size; have := HB7.out.size; omega) ?_; intro v8 w8 ho8 hg8)))
   obtain ⟨a8, c8, hv8, _, _⟩ := row_shape9 ho8;subst hv8;have O8 := hid ho8;have W8 : Hid (Below w.heap.size w w8) := hid ((btr W6.out HB7.out W6.out.size).trans hg8.low);have S8 := hid (hg8.keep _ _ _ _ ((HB7.out.block _ (slt S6.out)).trans S6.out) (by decide));have Z8 := hid (hg8.keep _ _ _ _ ((HB7.out.block _ (slt Z6.out)).trans Z6.out) (by decide));have P8 := hid (hg8.keep _ _ _ _ ((HB7.out.block _ (slt P6.out)).trans P6.out) (by decide))
   have cD : w8.cell? ⟨w.heap.size + 1, 17, none⟩ = some (.int .i64 D1) := by rw [HD1.out]; exact row_cell Z8.out 17 (by omega)
   obtain ⟨R2, hR2⟩ : ∃ y, y = R0 ++ R1 := ⟨_, rfl⟩
   have hL2 : R2.length ≤ 50 := by rw [hR2, List.length_append]; omega
   have O8' : Hid (SOwn w8 w.heap.size (.slice a8 R2.length c8) R2) := by rw [hR2]; exact O8
   have hRl : (R0 ++ R1).length = R2.length := by rw [hR2]
   rw [← hR2] at A4';rw [hRl];clear hR2 hRl O8 ho8 hg8 O6 S6 Z6 P6 O7 HO7 B6 hr
   go_upto_region 12 with (first
    | (refine load_R rfl 109 (.tmp 2) rfl w.heap.size rfl 109 SV _ S8.out Tryz.underlying109 rfl (by rw [szSrc, hS3]) ?_)
    | (go_at_call 97; go_must (refine (HTD.out w8 W8.out).mono ?_; rintro e w9 ⟨rfl, hb9⟩; have HB9 := hid hb9; clear hb9))
    | (refine store_R rfl 103 (.tmp 8) (.tmp 50) rfl w5.heap.size (NA T2) rfl rfl 103 (NA T1) ((HB9.out.block _ (slt P8.out)).trans P8.out) (by rw [szP, NA_size, hl2]) (by rw [NA_size, NA_size, hl1, hl2]) (NA_one _) ?_; go_must (intro y1 q1)))
   have Y9 : Hid (Below w.heap.size w y1) := hid (q1.below (btr W8.out HB9.out W8.out.size) (by have := hb8.out; omega));have O9 : Hid (SOwn y1 w.heap.size (.slice a8 R2.length c8) R2) := hid (sown_put (sown_below O8'.out HB9.out) q1 ((HB9.out.block _ (slt P8.out)).trans P8.out) (by decide));have S9 : Hid (y1.heap[w.heap.size]? = some (.cells SV 109 (0, 0))) := hid (by rw [q1.other _ (by have := hb8.out; omega), HB9.out.block _ (slt S8.out)]; exact S8.out);have P9 := hid q1.here;clear q1 O8' S8 P8 Z8
   by_cases he : ¬ e2 = 0
   ·have HE := hid (A2'.out he)
    go_wp2_with fail
    exact bodyPost_ret (results_2t Tryz.results59 _ _) rfl ⟨_, by rw [HE.out]; rfl, by rw [HE.out]; exact World.ownsRow_nil _ _ _ _, Y9.out⟩
   have he2 : e2 = 0 := Decidable.not_not.1 he;subst he2;clear he A2';have A3 := hid (A3'.out rfl);have A4 := hid (A4'.out rfl);clear A3' A4' HTS HTD W6 W8 HB7 HB9 cS cD
   go_upto_region 15 with fail
   go_loopw [6, 10] (fun v i wr => ∃ (k : Nat), k ≤ 32 ∧ i = .int .i64 k ∧ Hid (SOwn wr w.heap.size v (R2 ++ farK s T2 k)) ∧ Hid (∀ i, i < k → (rtab9 s (T2.getD i 0)).2 = 0) ∧ Hid (Below w.heap.size w wr) ∧ Hid (wr.heap[w.heap.size]? = some (.cells SV 109 (0, 0))) ∧ Hid (wr.heap[w5.heap.size]? = some (.cells (NA T2) 103 (0, 0)))) (fun _ i _ => 32 - (intOf i).toNat)
   case atStart => exact ⟨0, by omega, rfl, hid (by have := O9.out; simpa [farK] using this), hid (fun i hi => by omega), Y9, S9, P9⟩
   case round =>
    clear O9 Y9 S9 P9;obtain ⟨j, hj, rfl, HO, HK, HBr, HSr, HTr⟩ := hrel
    by_cases hlt : j < 32
    ·have j0 : (0 : Int) ≤ (j : Int) := by omega
     have j1 : (j : Int) < 32 := by omega
     obtain ⟨LK, hLK⟩ : ∃ y, y = R2 ++ farK s T2 j := ⟨_, rfl⟩
     have hLl : LK.length ≤ 2000 := by have := farK_le s T2 j; rw [hLK, List.length_append]; omega
     have HFK := hid (farK_succ s T2 j);have A3j := hid (fun h => A3.out j hlt HK.out h);have hcx := row_cell HTr.out j (by omega)
     have HKs : Hid ((rtab9 s (T2.getD j 0)).2 = 0 → ∀ i, i < j + 1 → (rtab9 s (T2.getD i 0)).2 = 0) := hid (fun h i hi => by
      rcases Nat.lt_or_ge i j with e | e
      ·exact HK.out i e
      ·obtain rfl : i = j := by omega
       exact h)
     have HLK := hid hLK;rw [← hLK] at HO;clear hLK;obtain ⟨P, hP⟩ : ∃ y, y = T2.getD j 0 := ⟨_, rfl⟩;have HTP := hid (HT.out P);have hUl := rtab9_len s P;rw [← hP] at HFK A3j hcx HKs;clear hP;obtain ⟨U, eU, hU⟩ : ∃ T e, rtab9 s P = (T, e) := ⟨_, _, rfl⟩;rw [hU] at HFK A3j HKs HTP hUl;have HRow := hid (rrow_any U (44 + 32 * (j : Int)) · hUl (by omega) (by omega));clear hU;obtain ⟨av, cv, hv, _, _⟩ := row_shape9 HO.out;subst hv
     go_upto_region 17 with fail
     refine wp_region_noPanic ?_;refine wp_region_held_drew (S := fun w' => w'.heap[w.heap.size]? = some (.cells SV 109 (0, 0)) ∧ w'.heap[w5.heap.size]? = some (.cells (NA T2) 103 (0, 0)) ∧ SOwn w' w.heap.size (.slice av LK.length cv) LK ∧ w'.cell? ⟨w5.heap.size, j, none⟩ = some (.int .i64 P) ∧ Below w.heap.size w w') (by kernel_rfl) ⟨HSr.out, HTr.out, HO.out, hcx, below_drew HBr.out⟩ (fun hH => ?_);refine takeR 0 60 109 (.tmp 2) w.heap.size 109 SV _ rfl (by kernel_rfl) (by kernel_rfl) (by kernel_rfl) rfl rfl rfl Tryz.underlying109 rfl (by rw [szSrc, hS3]) (by rfl) (fun _ _ _ h => h) hH (fun W' hw' => hw'.1) ?_;simp only [sS];refine tV 1 61 (.int .i64 (j : Int)) rfl (by kernel_rfl) rfl (by rfl) hH (fun W' hw' => rfl) ?_;simp only [sS];refine tV 2 62 (.pointer (some ⟨w5.heap.size, j, none⟩)) rfl (by kernel_rfl) rfl (by rfl) hH (fun W' hw' => by go_simp) ?_;simp only [sS];refine tV 3 63 (.int .i64 P) rfl (by kernel_rfl) rfl (by rfl) hH (fun W' hw' => by have hq := hw'.2.2.2.1; go_simp) ?_;simp only [sS];refine step2 4 8 (by kernel_rfl) ?_ ?_
     ·refine stCall 4 64 97 #[.agg SV, .int .i64 P] _ rfl rfl (by rfl) (by go_simp) (HTP.out _ hH.2.2.2.2) ?_
      rintro e x1 ⟨rfl, hb1⟩
      have h1S : x1.heap[w.heap.size]? = some (.cells SV 109 (0, 0)) ∧ x1.heap[w5.heap.size]? = some (.cells (NA T2) 103 (0, 0)) ∧ SOwn x1 w.heap.size (.slice av LK.length cv) LK ∧ x1.cell? ⟨w5.heap.size, j, none⟩ = some (.int .i64 P) ∧ Below w.heap.size w x1 := ⟨by rw [hb1.block _ (slt hH.1)]; exact hH.1, by rw [hb1.block _ (slt hH.2.1)]; exact hH.2.1, sown_below hH.2.2.1 hb1, by rw [hb1.cell (p := ⟨w5.heap.size, j, none⟩) (slt hH.2.1)]; exact hH.2.2.2.1, btr hH.2.2.2.2 hb1 hH.2.2.2.2.size⟩;refine ⟨_, rfl, h1S, ?_⟩;simp only [sS];refine tV 5 59 (.tuple #[.agg (NA U), .int .i64 eU]) rfl (by kernel_rfl) rfl (by rfl) h1S (fun W' hw' => rfl) ?_;simp only [sS];refine tV 6 65 (.agg (NA U)) rfl (by kernel_rfl) rfl (by rfl) h1S (fun W' hw' => rfl) ?_;simp only [sS];refine tV 7 66 (.int .i64 eU) rfl (by kernel_rfl) rfl (by rfl) h1S (fun W' hw' => rfl) ?_;simp only [sS];refine step1 8 (by kernel_rfl) ?_;have h2S : (x1.alloc (.cells (NA Zp) 103)).heap[w.heap.size]? = some (.cells SV 109 (0, 0)) ∧ (x1.alloc (.cells (NA Zp) 103)).heap[w5.heap.size]? = some (.cells (NA T2) 103 (0, 0)) ∧ SOwn (x1.alloc (.cells (NA Zp) 103)) w.heap.size (.slice av LK.length cv) LK ∧ (x1.alloc (.cells (NA Zp) 103)).cell? ⟨w5.heap.size, j, none⟩ = some (.int .i64 P) ∧ Below w.heap.size w (x1.alloc (.cells (NA Zp) 103)) := ⟨by rw [Below.heap_alloc _ _ _ (slt h1S.1)]; exact h1S.1, by rw [Below.heap_alloc _ _ _ (slt h1S.2.1)]; exact h1S.2.1, ownsRow_alloc9 h1S.2.2.1 _, by rw [cell_of_row _ _ _ _ _ _ (by rw [Below.heap_alloc _ _ _ (slt h1S.2.1)]; exact h1S.2.1), ← cell_of_row _ _ _ _ _ _ h1S.2.1]; exact h1S.2.2.2.1, h1S.2.2.2.2.alloc h1S.2.2.2.2.size _⟩;refine stNew 8 11 (.pointer (some ⟨x1.heap.size, 0, none⟩)) (.cells (NA Zp) 103) rfl rfl (by rfl) (by go_simp) ⟨h2S, ?_⟩;simp only [sS];refine step1 9 (by kernel_rfl) ?_;refine stStoreR 9 103 (.tmp 11) (.tmp 65) x1.heap.size (NA U) 103 (NA Zp) rfl rfl (by rfl) rfl rfl rfl (heap_alloc_new _ _) (by rw [szP, NA_size, hUl]) (by rw [NA_size, NA_size, Zp_len, hUl]) (NA_one _) ?_
      intro x3 p3
      have hn1 := slt h1S.1;have hn2 := slt h1S.2.1;have h3S : x3.heap[w.heap.size]? = some (.cells SV 109 (0, 0)) ∧ x3.heap[w5.heap.size]? = some (.cells (NA T2) 103 (0, 0)) ∧ SOwn x3 w.heap.size (.slice av LK.length cv) LK ∧ x3.cell? ⟨w5.heap.size, j, none⟩ = some (.int .i64 P) ∧ Below w.heap.size w x3 := ⟨by rw [p3.other _ (by omega)]; exact h2S.1, by rw [p3.other _ (by omega)]; exact h2S.2.1, sown_put h2S.2.2.1 p3 (heap_alloc_new _ _) (by decide), by rw [cell_of_row _ _ _ _ _ _ (by rw [p3.other _ (by omega)]; exact h2S.2.1), ← cell_of_row _ _ _ _ _ _ h2S.2.1]; exact h2S.2.2.2.1, p3.below h2S.2.2.2.2 (by omega)⟩;refine ⟨h3S, ?_⟩;refine tV 10 12 (.int .i64 eU) rfl (by kernel_rfl) rfl (by rfl) h3S (fun W' hw' => rfl) ?_;simp only [sS];refine wpAnyH_done (by kernel_rfl) ?_ _;refine NoPanic.normal ?_;have G3 := hid p3.here;have K3 := hid h3S;clear h3S h2S h1S hH p3 hcx HO HBr HSr HTr
      by_cases he : ¬ eU = 0
      ·have HE := hid (A3j.out he)
       go_wp2_with fail
       exact bodyPost_ret (results_2t Tryz.results59 _ _) rfl ⟨_, by rw [HE.out]; rfl, by rw [HE.out]; exact World.ownsRow_nil _ _ _ _, K3.out.2.2.2.2⟩
      have he2 : eU = 0 := Decidable.not_not.1 he;subst he2;clear he A3j;have hK1 := hid (HKs.out rfl);have hr := HRow.out x3
      have hL1 : (spotRow ⟨44 + 32 * (j : Int), U, 0⟩).length ≤ 32 := by have := spotRow_le ⟨44 + 32 * (j : Int), U, 0⟩; simp only [hUl] at this; exact this
      obtain ⟨R3, hR3⟩ : ∃ y, y = spotRow ⟨44 + 32 * (j : Int), U, 0⟩ := ⟨_, rfl⟩;rw [← hR3] at hr hL1 HFK;clear hR3
      go_wp2_with (first
       | (refine load_R rfl 103 (.tmp 11) rfl x1.heap.size rfl 103 (NA U) _ G3.out Tryz.underlying103 rfl (by rw [szP, NA_size, hUl]) ?_)
       | (go_at_call 98; go_must (refine hr.mono ?_; rintro e x4 ⟨v4, rfl, ho4, hb4⟩; have HO4 := hid ho4; have HB4 := hid hb4; have O4 := hid (sown_below K3.out.2.2.1 hb4); clear ho4 hb4))
       | (at_builtin; go_must (refine wp_appPs rfl _ _ rfl w.heap.size x3.heap.size _ v4 LK R3 rfl rfl O4.out HO4.out (by omega) (by omega) (by have := K3.out.2.2.2.2.size; have := HB4.out.size; omega) ?_; intro v5 x5 ho5 hg5)))
      have HLE : R2 ++ farK s T2 (j + 1) = LK ++ R3 := by rw [HFK.out, HLK.out, List.append_assoc]
      exact ⟨⟨j + 1, by omega, by go_num, by rw [HLE]; exact hid ho5, hK1, hid ((btr K3.out.2.2.2.2 HB4.out K3.out.2.2.2.2.size).trans hg5.low), hid (hg5.keep _ _ _ _ ((HB4.out.block _ (slt K3.out.1)).trans K3.out.1) (by decide)), hid (hg5.keep _ _ _ _ ((HB4.out.block _ (slt K3.out.2.1)).trans K3.out.2.1) (by decide))⟩, by simp [intOf]; omega⟩
     ·have h1S := hH
      have h2S0 : (wr.drew.alloc (.cells (NA Zp) 103)).heap[w.heap.size]? = some (.cells SV 109 (0, 0)) ∧ (wr.drew.alloc (.cells (NA Zp) 103)).heap[w5.heap.size]? = some (.cells (NA T2) 103 (0, 0)) ∧ SOwn (wr.drew.alloc (.cells (NA Zp) 103)) w.heap.size (.slice av LK.length cv) LK ∧ (wr.drew.alloc (.cells (NA Zp) 103)).cell? ⟨w5.heap.size, j, none⟩ = some (.int .i64 P) ∧ Below w.heap.size w (wr.drew.alloc (.cells (NA Zp) 103)) := ⟨by rw [Below.heap_alloc _ _ _ (slt hH.1)]; exact hH.1, by rw [Below.heap_alloc _ _ _ (slt hH.2.1)]; exact hH.2.1, ownsRow_alloc9 hH.2.2.1 _, by rw [cell_of_row _ _ _ _ _ _ (by rw [Below.heap_alloc _ _ _ (slt hH.2.1)]; exact hH.2.1), ← cell_of_row _ _ _ _ _ _ hH.2.1]; exact hH.2.2.2.1, hH.2.2.2.2.alloc hH.2.2.2.2.size _⟩;refine stNew 8 11 (.pointer (some ⟨wr.heap.size, 0, none⟩)) (.cells (NA Zp) 103) rfl rfl (by rfl) (by go_simp) ⟨h2S0, ?_⟩;simp only [sS];obtain ⟨x1, hx1⟩ : ∃ y, y = wr.drew.alloc (.cells (NA Zp) 103) := ⟨_, rfl⟩
      have hnew : x1.heap[wr.heap.size]? = some (.cells (NA Zp) 103 (0, 0)) := by rw [hx1]; exact heap_alloc_new wr.drew _
      rw [← hx1] at h2S0;rw [← hx1];clear hx1;refine step1 4 (by kernel_rfl) ?_;refine stCall 4 64 97 #[.agg SV, .int .i64 P] _ rfl rfl (by rfl) (by go_simp) (HTP.out _ h2S0.2.2.2.2) ?_
      rintro e x2 ⟨rfl, hb2⟩
      have h2S : x2.heap[w.heap.size]? = some (.cells SV 109 (0, 0)) ∧ x2.heap[w5.heap.size]? = some (.cells (NA T2) 103 (0, 0)) ∧ SOwn x2 w.heap.size (.slice av LK.length cv) LK ∧ x2.cell? ⟨w5.heap.size, j, none⟩ = some (.int .i64 P) ∧ Below w.heap.size w x2 := ⟨by rw [hb2.block _ (slt h2S0.1)]; exact h2S0.1, by rw [hb2.block _ (slt h2S0.2.1)]; exact h2S0.2.1, sown_below h2S0.2.2.1 hb2, by rw [hb2.cell (p := ⟨w5.heap.size, j, none⟩) (slt h2S0.2.1)]; exact h2S0.2.2.2.1, btr h2S0.2.2.2.2 hb2 h2S0.2.2.2.2.size⟩
      have hnew2 : x2.heap[wr.heap.size]? = some (.cells (NA Zp) 103 (0, 0)) := by rw [hb2.block _ (slt hnew)]; exact hnew
      refine ⟨_, rfl, h2S, ?_⟩;simp only [sS];refine tV 5 59 (.tuple #[.agg (NA U), .int .i64 eU]) rfl (by kernel_rfl) rfl (by rfl) h2S (fun W' hw' => rfl) ?_;simp only [sS];refine tV 6 65 (.agg (NA U)) rfl (by kernel_rfl) rfl (by rfl) h2S (fun W' hw' => rfl) ?_;simp only [sS];refine tV 7 66 (.int .i64 eU) rfl (by kernel_rfl) rfl (by rfl) h2S (fun W' hw' => rfl) ?_;simp only [sS];have hn1 := slt HSr.out;have hn2 := slt HTr.out;refine step1 9 (by kernel_rfl) ?_;refine stStoreR 9 103 (.tmp 11) (.tmp 65) wr.heap.size (NA U) 103 (NA Zp) rfl rfl (by rfl) rfl rfl rfl hnew2 (by rw [szP, NA_size, hUl]) (by rw [NA_size, NA_size, Zp_len, hUl]) (NA_one _) ?_
      intro x3 p3
      have h3S : x3.heap[w.heap.size]? = some (.cells SV 109 (0, 0)) ∧ x3.heap[w5.heap.size]? = some (.cells (NA T2) 103 (0, 0)) ∧ SOwn x3 w.heap.size (.slice av LK.length cv) LK ∧ x3.cell? ⟨w5.heap.size, j, none⟩ = some (.int .i64 P) ∧ Below w.heap.size w x3 := ⟨by rw [p3.other _ (by omega)]; exact h2S.1, by rw [p3.other _ (by omega)]; exact h2S.2.1, sown_put h2S.2.2.1 p3 hnew2 (by decide), by rw [cell_of_row _ _ _ _ _ _ (by rw [p3.other _ (by omega)]; exact h2S.2.1), ← cell_of_row _ _ _ _ _ _ h2S.2.1]; exact h2S.2.2.2.1, p3.below h2S.2.2.2.2 (by omega)⟩;refine ⟨h3S, ?_⟩;refine tV 10 12 (.int .i64 eU) rfl (by kernel_rfl) rfl (by rfl) h3S (fun W' hw' => rfl) ?_;simp only [sS];refine wpAnyH_done (by kernel_rfl) ?_ _;refine NoPanic.normal ?_;have G3 := hid p3.here;have K3 := hid h3S;clear h3S h2S h1S hH p3 hcx HO HBr HSr HTr
      by_cases he : ¬ eU = 0
      ·have HE := hid (A3j.out he)
       go_wp2_with fail
       exact bodyPost_ret (results_2t Tryz.results59 _ _) rfl ⟨_, by rw [HE.out]; rfl, by rw [HE.out]; exact World.ownsRow_nil _ _ _ _, K3.out.2.2.2.2⟩
      have he2 : eU = 0 := Decidable.not_not.1 he;subst he2;clear he A3j;have hK1 := hid (HKs.out rfl);have hr := HRow.out x3
      have hL1 : (spotRow ⟨44 + 32 * (j : Int), U, 0⟩).length ≤ 32 := by have := spotRow_le ⟨44 + 32 * (j : Int), U, 0⟩; simp only [hUl] at this; exact this
      obtain ⟨R3, hR3⟩ : ∃ y, y = spotRow ⟨44 + 32 * (j : Int), U, 0⟩ := ⟨_, rfl⟩;rw [← hR3] at hr hL1 HFK;clear hR3
      go_wp2_with (first
       | (refine load_R rfl 103 (.tmp 11) rfl wr.heap.size rfl 103 (NA U) _ G3.out Tryz.underlying103 rfl (by rw [szP, NA_size, hUl]) ?_)
       | (go_at_call 98; go_must (refine hr.mono ?_; rintro e x4 ⟨v4, rfl, ho4, hb4⟩; have HO4 := hid ho4; have HB4 := hid hb4; have O4 := hid (sown_below K3.out.2.2.1 hb4); clear ho4 hb4))
       | (at_builtin; go_must (refine wp_appPs rfl _ _ rfl w.heap.size x3.heap.size _ v4 LK R3 rfl rfl O4.out HO4.out (by omega) (by omega) (by have := K3.out.2.2.2.2.size; have := HB4.out.size; omega) ?_; intro v5 x5 ho5 hg5)))
      have HLE : R2 ++ farK s T2 (j + 1) = LK ++ R3 := by rw [HFK.out, HLK.out, List.append_assoc]
      exact ⟨⟨j + 1, by omega, by go_num, by rw [HLE]; exact hid ho5, hK1, hid ((btr K3.out.2.2.2.2 HB4.out K3.out.2.2.2.2.size).trans hg5.low), hid (hg5.keep _ _ _ _ ((HB4.out.block _ (slt K3.out.1)).trans K3.out.1) (by decide)), hid (hg5.keep _ _ _ _ ((HB4.out.block _ (slt K3.out.2.1)).trans K3.out.2.1) (by decide))⟩, by simp [intOf]; omega⟩
    ·obtain rfl : j = 32 := by omega
     have HE := hid (A4.out HK.out)
     go_wp2_with fail
     exact bodyPost_ret (results_2t Tryz.results59 _ _) rfl ⟨_, by rw [HE.out]; rfl, by rw [HE.out]; exact HO.out, HBr.out⟩

end Go.Proofs.YtpmignilhoihnaaGreat
