/-
 listed tells listedS.
-/
import Derived.Test.YtmgfilacepnjlaaGreatDoorVN0
import Derived.Test.YtmgfilacepnjlaaGreatDoorWA5
namespace Go.Proofs.YtmgfilacepnjlaaGreatDoor
open Go.RowKit

theorem listedL_nil (s : PSt) (n : Nat) (acc : ByteArray) : listedL s n [] acc = acc := by cases n <;> rfl
theorem lineB_size {s : PSt} (hi : Inv s) (acc p : ByteArray) : (lineB s acc p).size ≤ acc.size + p.size + 131400 := by
 have h0 := num_stat hi p 0
 have h1 := num_stat hi p 1
 have h2 := num_stat hi p 2
 have h3 : (strL (datA (askS s 9 p 131072))).size ≤ 131072 := by rw [strL_size]; exact ask_data p
 have z1 : (⟨#[10]⟩ : ByteArray).size = 1 := rfl
 unfold lineB
 simp only [ByteArray.size_append]
 omega
set_option maxHeartbeats 8000000 in
set_option maxRecDepth 100000 in
theorem listed_any {q : PC} {s : PSt} (w : World) (h : IsPl w q s) (hi : Inv s) (hu : UB w) (hm : ML w) : Calls Tryz.prog 16 #[.pointer (some ⟨q.p, 0, none⟩)] w fun e w' => e = .returned (.string (listedS s)) ∧ Chg w w' No := by
 have HAsk : Hid (∀ (k n : Int) (p : ByteArray), ((k = 10 ∧ n = 0) ∨ (k = 11 ∧ n = 0) ∨ (k = 9 ∧ n = 131072)) → ∀ W, Chg w W No → Calls Tryz.prog 9 #[.pointer (some ⟨q.p, 0, none⟩), .agg #[.int .i64 k, .string p, .string ⟨#[]⟩, .int .i64 0, .int .i64 n, .slice none 0 0, .int .i64 0, .int .i64 0]] W fun e w' => ∃ A, e = .returned (.agg A) ∧ AnsIs w' W.heap.size A (askS s k p n) ∧ Chg W w' No) := hid (fun k n p hk W hW => ask_any k p n none 0 W (h.call hW) hi (hu.keep hW (fun e => e)) (hm.call hW) hk)
 have HIn := hid hi
 obtain ⟨R0, hR0⟩ : ∃ y, y = listedL s 300 [⟨#[47]⟩] ByteArray.empty := ⟨_, rfl⟩
 unfold listedS
 rw [← hR0]
 have HR0 := hid hR0
 clear h hi hu hm hR0
 go_enter Tryz.func16, Tryz.ntmps16
 go_upto_region 4 with fail
 have HT0 : Hid (TOw (w.alloc (.cells #[.string ⟨#[47]⟩] 9)) w.heap.size (.slice (some ⟨w.heap.size, 0, none⟩) 1 1) [⟨#[47]⟩]) := hid ⟨rfl, .inr ⟨w.heap.size, 1, #[.string ⟨#[47]⟩], rfl, Nat.le_refl _, heap_alloc_new _ _, Nat.le_refl _, by decide, rfl, rfl⟩⟩
 go_loopw [3, 4, 5] (fun x3 x4 x5 wr => ∃ (acc : ByteArray) (vv : Value) (i : Nat), x3 = .string acc ∧ vv = x4 ∧ x5 = .int .i64 (i : Int) ∧ i ≤ 300 ∧ Hid (∃ l : List ByteArray, TOw wr w.heap.size vv l ∧ Chg w wr No ∧ listedL s (300 - i) (l.drop i) acc = R0 ∧ l.length ≤ 1 + 1068 * i ∧ (∀ p ∈ l, p.size ≤ 1 + 41 * i) ∧ acc.size ≤ 200000 * i)) (fun _ _ x5 _ => 300 - (intOf x5).toNat)
 case atStart => exact ⟨ByteArray.empty, _, 0, rfl, rfl, rfl, by omega, hid ⟨_, HT0.out, Chg.alloc w _ No, HR0.out.symm, Nat.le_refl _, (fun p hp => by rw [List.mem_singleton.1 hp]; exact Nat.le_refl _), Nat.le_refl _⟩⟩
 case round =>
  obtain ⟨acc, vv, i, rfl, rfl, rfl, hi3, HX⟩ := hrel
  clear HT0
  obtain ⟨l, hl1, hl2, hl3, hl4, hl5, hl6⟩ := HX.out
  obtain ⟨a, cp, hv⟩ := row_shape hl1
  subst hv
  have HL1 := hid hl1
  have HL2 := hid hl2
  have HL3 := hid hl3
  have HL4 := hid hl4
  have HL5 := hid hl5
  have HL6 := hid hl6
  clear hl1 hl2 hl3 hl5 HX
  obtain ⟨n, hn⟩ : ∃ y, y = l.length := ⟨_, rfl⟩
  rw [← hn] at HL1 HL4 hl4 ⊢
  have HN := hid hn
  clear hn
  have i0 : (i : Int) ≤ 300 := by omega
  have i1 : (n : Int) ≤ 1000000 := by omega
  by_cases hlt : i < n
  ·by_cases h300 : i < 300
   ·have j1 : (i : Int) < (n : Int) := by omega
    have j2 : (i : Int) < 300 := by omega
    have j0 : (0 : Int) ≤ (i : Int) := by omega
    obtain ⟨p, hp⟩ : ∃ p, l[i]? = some p := ⟨_, List.getElem?_eq_getElem (by rw [← HN.out]; exact hlt)⟩
    obtain ⟨g, hga, hgl, hcell⟩ := TOw.cell HL1.out hp
    subst hga
    have HCell := hid hcell
    have HPs : Hid (p.size ≤ 12301) := hid (by have := HL5.out p (List.mem_of_getElem? hp); omega)
    have HP := hid hp
    have HGl := hid hgl
    clear hcell hp hgl hl4 hl6
    have HC0 : Hid (Chg w wr No) := HL2
    have b10 := build_ask 10 p
    have b11 := build_ask 11 p
    have b9 := build_read 9 131072 p
    have HG0 : Hid (Chg wr wr No) := hid (Chg.refl _ _)
    have hD1 := HAsk.out 10 0 p (.inl ⟨rfl, rfl⟩) wr HC0.out
    have qc1 := HCell.out wr HG0.out
    go_upto_region 7 with (first
     | (go_at_call 9; go_must (refine hD1.mono ?_; rintro e wa ⟨A1, rfl, hA1, hc1⟩; have HA1 := hid hA1; have hO1 := hA1.one; have HO1 := hid hO1; have Hc1 := hid hc1; clear hA1 hO1 hc1))
     | (refine store_R rfl 43 _ _ rfl wa.heap.size A1 rfl rfl 43 _ (heap_alloc_new _ _) (by rw [szAn, HO1.out.1]) (by rw [HO1.out.1]; rfl) HO1.out.2 ?_; intro wb hs1; have HS1 := hid hs1; clear hs1)
     | fail)
    clear hD1 qc1
    obtain ⟨g1, hg1⟩ : ∃ y, y = wa.heap.size := ⟨_, rfl⟩
    rw [← hg1] at HS1 ⊢
    have HGe1 : Hid (g1 = wa.heap.size) := hid hg1
    clear hg1
    have HE1 : Hid (Chg wa wb No) := hid ((Chg.alloc wa _ No).trans (kt_new HS1.out) (fun _ _ e => e) (fun j hj e => by have := HGe1.out; omega))
    have HC1 : Hid (Chg w wb No) := hid ((HC0.out.tr Hc1.out).tr HE1.out)
    have HG1 : Hid (Chg wr wb No) := hid ((HG0.out.tr Hc1.out).tr HE1.out)
    have HQ1 : Hid (wb.heap[g1]? = some (.cells A1 43 (0, 0))) := hid HS1.out.here
    have HK1 : Hid (AnsIs wa wr.heap.size A1 (askS s 10 p 0)) := HA1
    have hD2 := HAsk.out 11 0 p (.inr (.inl ⟨rfl, rfl⟩)) wb HC1.out
    have qc2 := HCell.out wb HG1.out
    go_upto_region 8 with (first
     | (go_at_call 9; go_must (refine hD2.mono ?_; rintro e wc ⟨A2, rfl, hA2, hc2⟩; have HA2 := hid hA2; have hO2 := hA2.one; have HO2 := hid hO2; have Hc2 := hid hc2; clear hA2 hO2 hc2))
     | (refine store_R rfl 43 _ _ rfl wc.heap.size A2 rfl rfl 43 _ (heap_alloc_new _ _) (by rw [szAn, HO2.out.1]) (by rw [HO2.out.1]; rfl) HO2.out.2 ?_; intro wd hs2; have HS2 := hid hs2; clear hs2)
     | fail)
    clear hD2 qc2
    obtain ⟨g2, hg2⟩ : ∃ y, y = wc.heap.size := ⟨_, rfl⟩
    rw [← hg2] at HS2 ⊢
    have HGe2 : Hid (g2 = wc.heap.size) := hid hg2
    clear hg2
    have HE2 : Hid (Chg wc wd No) := hid ((Chg.alloc wc _ No).trans (kt_new HS2.out) (fun _ _ e => e) (fun j hj e => by have := HGe2.out; omega))
    have HC2 : Hid (Chg w wd No) := hid ((HC1.out.tr Hc2.out).tr HE2.out)
    have HG2 : Hid (Chg wr wd No) := hid ((HG1.out.tr Hc2.out).tr HE2.out)
    have HQ2 : Hid (wd.heap[g2]? = some (.cells A2 43 (0, 0))) := hid HS2.out.here
    have HK2 : Hid (AnsIs wc wb.heap.size A2 (askS s 11 p 0)) := HA2
    have hD3 := HAsk.out 9 131072 p (.inr (.inr ⟨rfl, rfl⟩)) wd HC2.out
    have qc3 := HCell.out wd HG2.out
    go_upto_region 9 with (first
     | (go_at_call 9; go_must (refine hD3.mono ?_; rintro e we ⟨A3, rfl, hA3, hc3⟩; have HA3 := hid hA3; have hO3 := hA3.one; have HO3 := hid hO3; have Hc3 := hid hc3; clear hA3 hO3 hc3))
     | (refine store_R rfl 43 _ _ rfl we.heap.size A3 rfl rfl 43 _ (heap_alloc_new _ _) (by rw [szAn, HO3.out.1]) (by rw [HO3.out.1]; rfl) HO3.out.2 ?_; intro wf hs3; have HS3 := hid hs3; clear hs3)
     | fail)
    clear hD3 qc3
    obtain ⟨g3, hg3⟩ : ∃ y, y = we.heap.size := ⟨_, rfl⟩
    rw [← hg3] at HS3 ⊢
    have HGe3 : Hid (g3 = we.heap.size) := hid hg3
    clear hg3
    have HE3 : Hid (Chg we wf No) := hid ((Chg.alloc we _ No).trans (kt_new HS3.out) (fun _ _ e => e) (fun j hj e => by have := HGe3.out; omega))
    have HC3 : Hid (Chg w wf No) := hid ((HC2.out.tr Hc3.out).tr HE3.out)
    have HG3 : Hid (Chg wr wf No) := hid ((HG2.out.tr Hc3.out).tr HE3.out)
    have HQ3 : Hid (wf.heap[g3]? = some (.cells A3 43 (0, 0))) := hid HS3.out.here
    have HK3 : Hid (AnsIs we wd.heap.size A3 (askS s 9 p 131072)) := HA3
    -- 9
    obtain ⟨a7, n7, c7, hd7, hn7, hcv⟩ := HK3.out.dat
    have HD7 := hid hd7
    have HCv : Hid (∀ w', Chg wf w' No → (convert 32 9 (.slice a7 n7 c7)).run Tryz.prog w' = .ok (.string (strL (datA (askS s 9 p 131072)))) w') := hid (fun w' hw' => hcv w' (HE3.out.tr hw'))
    obtain ⟨v8, hv8, hE8⟩ := HK2.out.ent
    obtain ⟨a8, c8, hs8⟩ := row_shape hE8
    subst hs8
    have HV8 := hid hv8
    have HE8 : Hid (EOw wf wb.heap.size (.slice a8 (entA (askS s 11 p 0)).length c8) (entA (askS s 11 p 0))) := hid (((hE8.keep HE2.out (fun _ _ e => e)).keep Hc3.out (fun _ _ e => e)).keep HE3.out (fun _ _ e => e))
    have HQ1f : Hid (wf.heap[g1]? = some (.cells A1 43 (0, 0))) := hid (HE3.out.keep (Hc3.out.keep (HE2.out.keep (Hc2.out.keep HQ1.out (fun e => e)) (fun e => e)) (fun e => e)) (fun e => e))
    have HQ2f : Hid (wf.heap[g2]? = some (.cells A2 43 (0, 0))) := hid (HE3.out.keep (Hc3.out.keep HQ2.out (fun e => e)) (fun e => e))
    have HN0 : Hid (∀ k W, Calls Tryz.prog 38 #[.int .i64 (stA (askS s 10 p 0) k)] W fun e w' => e = .returned (.string (numI (stA (askS s 10 p 0) k))) ∧ Chg W w' No) := hid (fun k W => by have := ask_stat HIn.out p k; exact number_any _ W (by omega) (by omega))
    have HSt : Hid (∀ W, Chg wf W No → ∀ k, k < 6 → W.cell? ⟨g1, 1 + k, none⟩ = some (.int .i64 (stA (askS s 10 p 0) k))) := hid (fun W hW k hk => by rw [cell_of_row _ _ _ _ _ _ (hW.keep HQ1f.out (fun e => e)), Nat.add_comm]; exact HK1.out.st k hk)
    have HDt : Hid (∀ W, Chg wf W No → W.cell? ⟨g3, 7, none⟩ = some (.slice a7 n7 c7)) := hid (fun W hW => by rw [cell_of_row _ _ _ _ _ _ (hW.keep HQ3.out (fun e => e))]; exact HD7.out)
    have HEt : Hid (∀ W, Chg wf W No → W.cell? ⟨g2, 8, none⟩ = some (.slice a8 (entA (askS s 11 p 0)).length c8)) := hid (fun W hW => by rw [cell_of_row _ _ _ _ _ _ (hW.keep HQ2f.out (fun e => e))]; exact HV8.out)
    have HLn := hid (lineB_size HIn.out acc p)
    have HSt0 : Hid (∀ k, (numI (stA (askS s 10 p 0) k)).size ≤ 40) := hid (fun k => num_stat HIn.out p k)
    have HDs : Hid ((strL (datA (askS s 9 p 131072))).size ≤ 131072) := hid (by rw [strL_size]; exact ask_data p)
    have HEs := hid (ask_list HIn.out p)
    have HNx : Hid (listedL s (300 - (i + 1)) ((l ++ (entA (askS s 11 p 0)).map fun e => belN p e.1).drop (i + 1)) (lineB s acc p) = R0) := hid (by
     have e1 : l.drop i = p :: l.drop (i + 1) := by
      rw [List.drop_eq_getElem_cons (by rw [← HN.out]; exact hlt)]
      congr 1
      exact Option.some.inj ((List.getElem?_eq_getElem _).symm.trans HP.out)
     have e2 := HL3.out
     rw [e1, show 300 - i = (300 - (i + 1)) + 1 by omega] at e2
     rw [List.drop_append_of_le_length (by rw [← HN.out]; omega)]
     exact e2)
    obtain ⟨LN, hLN⟩ : ∃ y, y = lineB s acc p := ⟨_, rfl⟩
    rw [← hLN] at HLn HNx
    have HLN := hid hLN
    clear hLN hd7 hn7 hcv hv8 hE8
    have HAc : Hid (acc.size ≤ 60000000) := hid (by have := HL6.out; omega)
    obtain ⟨DT, hDT⟩ : ∃ y, y = strL (datA (askS s 9 p 131072)) := ⟨_, rfl⟩
    rw [← hDT] at HCv HDs
    obtain ⟨Z, hZ⟩ : ∃ y, y = stA (askS s 10 p 0) := ⟨_, rfl⟩
    rw [← hZ] at HN0 HSt HSt0
    unfold lineB at HLN
    rw [← hZ, ← hDT] at HLN
    clear hZ hDT b10 b11 b9
    simp only [Act.put]
    refine wp_region_noPanic ?_
    refine wp_region_held_drew (S := fun w' => Chg wf w' No) (by kernel_rfl) ((Chg.refl wf No).drew) (fun hH => ?_)
    refine tV 0 42 (.string acc) rfl (by kernel_rfl) rfl (by rfl) hH (fun W' hw' => rfl) ?_
    simp only [sS]
    refine tV 1 43 (.slice (some ⟨g, 0, none⟩) n cp) rfl (by kernel_rfl) rfl (by rfl) hH (fun W' hw' => rfl) ?_
    simp only [sS]
    refine tV 2 44 (.int .i64 (i : Int)) rfl (by kernel_rfl) rfl (by rfl) hH (fun W' hw' => rfl) ?_
    simp only [sS]
    refine tV 3 45 (.pointer (some ⟨g, i, none⟩)) rfl (by kernel_rfl) rfl (by rfl) hH (fun W' hw' => by go_simp) ?_
    simp only [sS]
    refine tV 4 46 (.string p) rfl (by kernel_rfl) rfl (by rfl) hH (fun W' hw' => by have hc := HCell.out W' (HG3.out.tr hw'); go_simp) ?_
    simp only [sS]
    refine tV 5 47 (.string (acc ++ p)) rfl (by kernel_rfl) rfl (by rfl) hH (fun W' hw' => add_run (.tmp 42) (.tmp 46) rfl rfl rfl (run_string_add_sum (P := Tryz.prog) W' _ _ (by have := HAc.out; have := HPs.out; omega))) ?_
    simp only [sS]
    refine tV 6 48 (.pointer (some ⟨g1, 1, none⟩)) rfl (by kernel_rfl) rfl (by rfl) hH (fun W' hw' => by go_simp) ?_
    simp only [sS]
    refine tV 7 49 (.pointer (some ⟨g1, 1, none⟩)) rfl (by kernel_rfl) rfl (by rfl) hH (fun W' hw' => by go_simp) ?_
    simp only [sS]
    refine tV 8 50 (.int .i64 (Z 0)) rfl (by kernel_rfl) rfl (by rfl) hH (fun W' hw' => by have hc := HSt.out W' hw' 0 (by omega); go_simp) ?_
    simp only [sS]
    refine tV 11 53 (.pointer (some ⟨g1, 1, none⟩)) rfl (by kernel_rfl) rfl (by rfl) hH (fun W' hw' => by go_simp) ?_
    simp only [sS]
    refine tV 12 54 (.pointer (some ⟨g1, 2, none⟩)) rfl (by kernel_rfl) rfl (by rfl) hH (fun W' hw' => by go_simp) ?_
    simp only [sS]
    refine tV 13 55 (.int .i64 (Z 1)) rfl (by kernel_rfl) rfl (by rfl) hH (fun W' hw' => by have hc := HSt.out W' hw' 1 (by omega); go_simp) ?_
    simp only [sS]
    refine tV 16 58 (.pointer (some ⟨g1, 1, none⟩)) rfl (by kernel_rfl) rfl (by rfl) hH (fun W' hw' => by go_simp) ?_
    simp only [sS]
    refine tV 17 59 (.pointer (some ⟨g1, 3, none⟩)) rfl (by kernel_rfl) rfl (by rfl) hH (fun W' hw' => by go_simp) ?_
    simp only [sS]
    refine tV 18 60 (.int .i64 (Z 2)) rfl (by kernel_rfl) rfl (by rfl) hH (fun W' hw' => by have hc := HSt.out W' hw' 2 (by omega); go_simp) ?_
    simp only [sS]
    refine tV 21 63 (.pointer (some ⟨g3, 7, none⟩)) rfl (by kernel_rfl) rfl (by rfl) hH (fun W' hw' => by go_simp) ?_
    simp only [sS]
    refine tV 22 64 (.slice a7 n7 c7) rfl (by kernel_rfl) rfl (by rfl) hH (fun W' hw' => by have hc := HDt.out W' hw'; go_simp) ?_
    simp only [sS]
    refine tV 23 65 (.string DT) rfl (by kernel_rfl) rfl (by rfl) hH (fun W' hw' => conv_run 32 9 (.tmp 64) rfl rfl (HCv.out W' hw')) ?_
    simp only [sS]
    refine step1 9 (by kernel_rfl) ?_
    refine stCall 9 51 38 #[.int .i64 (Z 0)] _ rfl rfl (by rfl) (by go_simp) (HN0.out 0 _) ?_
    rintro e wn0 ⟨rfl, hn0⟩
    have hh0 : Chg wf wn0 No := hH.tr hn0
    refine ⟨_, rfl, hh0, ?_⟩
    simp only [sS]
    refine tV 10 52 (.string (acc ++ p ++ numI (Z 0))) rfl (by kernel_rfl) rfl (by rfl) hh0 (fun W' hw' => add_run (.tmp 47) (.tmp 51) rfl rfl rfl (run_string_add_sum (P := Tryz.prog) W' _ _ (by simp only [ByteArray.size_append]; have := HAc.out; have := HPs.out; have := HSt0.out 0; omega))) ?_
    simp only [sS]
    refine step1 14 (by kernel_rfl) ?_
    refine stCall 14 56 38 #[.int .i64 (Z 1)] _ rfl rfl (by rfl) (by go_simp) (HN0.out 1 _) ?_
    rintro e wn1 ⟨rfl, hn1⟩
    have hh1 : Chg wf wn1 No := hh0.tr hn1
    refine ⟨_, rfl, hh1, ?_⟩
    simp only [sS]
    refine tV 15 57 (.string (acc ++ p ++ numI (Z 0) ++ numI (Z 1))) rfl (by kernel_rfl) rfl (by rfl) hh1 (fun W' hw' => add_run (.tmp 52) (.tmp 56) rfl rfl rfl (run_string_add_sum (P := Tryz.prog) W' _ _ (by simp only [ByteArray.size_append]; have := HAc.out; have := HPs.out; have := HSt0.out 0; have := HSt0.out 1; omega))) ?_
    simp only [sS]
    refine step1 19 (by kernel_rfl) ?_
    refine stCall 19 61 38 #[.int .i64 (Z 2)] _ rfl rfl (by rfl) (by go_simp) (HN0.out 2 _) ?_
    rintro e wn2 ⟨rfl, hn2⟩
    have hh2 : Chg wf wn2 No := hh1.tr hn2
    refine ⟨_, rfl, hh2, ?_⟩
    simp only [sS]
    refine tV 20 62 (.string (acc ++ p ++ numI (Z 0) ++ numI (Z 1) ++ numI (Z 2))) rfl (by kernel_rfl) rfl (by rfl) hh2 (fun W' hw' => add_run (.tmp 57) (.tmp 61) rfl rfl rfl (run_string_add_sum (P := Tryz.prog) W' _ _ (by simp only [ByteArray.size_append]; have := HAc.out; have := HPs.out; have := HSt0.out 0; have := HSt0.out 1; have := HSt0.out 2; omega))) ?_
    simp only [sS]
    refine tV 24 66 (.string (acc ++ p ++ numI (Z 0) ++ numI (Z 1) ++ numI (Z 2) ++ DT)) rfl (by kernel_rfl) rfl (by rfl) hh2 (fun W' hw' => add_run (.tmp 62) (.tmp 65) rfl rfl rfl (run_string_add_sum (P := Tryz.prog) W' _ _ (by simp only [ByteArray.size_append]; have := HAc.out; have := HPs.out; have := HSt0.out 0; have := HSt0.out 1; have := HSt0.out 2; have := HDs.out; omega))) ?_
    simp only [sS]
    refine tV 25 67 (.string (acc ++ p ++ numI (Z 0) ++ numI (Z 1) ++ numI (Z 2) ++ DT ++ ⟨#[10]⟩)) rfl (by kernel_rfl) rfl (by rfl) hh2 (fun W' hw' => add_run (.tmp 66) (.const (.string ⟨#[10]⟩)) rfl rfl rfl (run_string_add_sum (P := Tryz.prog) W' _ _ (by have z1 : (⟨#[10]⟩ : ByteArray).size = 1 := rfl; simp only [ByteArray.size_append]; have := HAc.out; have := HPs.out; have := HSt0.out 0; have := HSt0.out 1; have := HSt0.out 2; have := HDs.out; omega))) ?_
    simp only [sS]
    refine tV 26 3 (.string (acc ++ p ++ numI (Z 0) ++ numI (Z 1) ++ numI (Z 2) ++ DT ++ ⟨#[10]⟩)) rfl (by kernel_rfl) rfl (by rfl) hh2 (fun W' hw' => rfl) ?_
    simp only [sS]
    refine wpAnyH_done (by kernel_rfl) ?_ _
    refine NoPanic.normal ?_
    rw [← HLN.out]
    have HF : Hid (Chg wf wn2 No) := hid hh2
    clear hn0 hh0 hn1 hh1 hn2 hh2 hH HSt HDt HCv HN0 HSt0 HDs HAc HLN HQ1f HQ3 HK1 HK3 HD7
    obtain ⟨E, hE⟩ : ∃ y, y = entA (askS s 11 p 0) := ⟨_, rfl⟩
    rw [← hE] at HE8 HEs HNx HV8
    obtain ⟨m, hmm⟩ : ∃ y, y = E.length := ⟨_, rfl⟩
    rw [← hmm] at HE8 HV8
    have HM := hid hmm
    have i8 : (m : Int) ≤ 1068 := by have := HEs.out.1; omega
    have HBel : Hid (∀ (k : Nat) e, E[k]? = some e → ∀ W, Calls Tryz.prog 37 #[.string p, .string e.1] W fun e' w' => e' = .returned (.string (belN p e.1)) ∧ w' = W) := hid (fun k e hek W => below_any p e.1 W (by have := HPs.out; omega) (by have := HEs.out.2 e (List.mem_of_getElem? hek); omega))
    have HP5 : Hid (p.size ≤ 1 + 41 * i) := hid (HL5.out p (List.mem_of_getElem? HP.out))
    have H0 : Hid (TOw wn2 w.heap.size (.slice (some ⟨g, 0, none⟩) n cp) (l ++ ((E.take 0).map fun e => belN p e.1)) ∧ Chg w wn2 No ∧ wn2.heap[g2]? = some (.cells A2 43 (0, 0)) ∧ EOw wn2 wb.heap.size (.slice a8 m c8) E) := hid ⟨by
     have e := HL1.out.call (HG3.out.tr HF.out)
     simpa using e, HC3.out.tr HF.out, HF.out.keep HQ2f.out (fun e => e), HE8.out.keep HF.out (fun _ _ e => e)⟩
    clear hE hmm HE8 HQ2f HF HEt
    go_upto_region 11 with fail
    go_loopw [4, 9] (fun x4 x9 w2 => ∃ (v2 : Value) (k : Nat), v2 = x4 ∧ x9 = .int .i64 (k : Int) ∧ k ≤ m ∧ Hid (TOw w2 w.heap.size v2 (l ++ ((E.take k).map fun e => belN p e.1)) ∧ Chg w w2 No ∧ w2.heap[g2]? = some (.cells A2 43 (0, 0)) ∧ EOw w2 wb.heap.size (.slice a8 m c8) E)) (fun _ x9 _ => m - (intOf x9).toNat)
    case atStart => exact ⟨_, 0, rfl, rfl, Nat.zero_le _, H0⟩
    case round =>
     obtain ⟨v2, k, rfl, rfl, hk, HY⟩ := hrel
     clear H0
     have q8 : wr.cell? ⟨g2, 8, none⟩ = some (.slice a8 m c8) := by rw [cell_of_row _ _ _ _ _ _ HY.out.2.2.1]; exact HV8.out
     by_cases hkm : k < m
     ·have k1 : (k : Int) < (m : Int) := by omega
      have k0 : (0 : Int) ≤ (k : Int) := by omega
      obtain ⟨e, hek⟩ : ∃ e, E[k]? = some e := ⟨_, List.getElem?_eq_getElem (by rw [← HM.out]; exact hkm)⟩
      obtain ⟨y1, y2, y3, y4⟩ := HY.out
      obtain ⟨a2, cp2, hv2⟩ := row_shape y1
      subst hv2
      obtain ⟨L2, hL2⟩ : ∃ y, y = l ++ ((E.take k).map fun e => belN p e.1) := ⟨_, rfl⟩
      have hp2 : L2[i]? = some p := by rw [hL2, List.getElem?_append_left (by rw [← HN.out]; exact hlt)]; exact HP.out
      have hL2n : L2.length ≤ 1000000 := by
       have h1 := HL4.out
       have h2 := HN.out
       rw [hL2, List.length_append, List.length_map, List.length_take]
       omega
      rw [← hL2] at y1
      rw [← hL2]
      obtain ⟨gl, ha2, hgl2, hcl⟩ := TOw.cell y1 hp2
      obtain ⟨ge, ha8, hge, hce⟩ := EOw.cell y4 hek
      subst ha2 ha8
      have q95 := hcl wr (Chg.refl _ _)
      have q101 : wr.cell? ⟨ge, k * 3, none⟩ = some (.string e.1) := by rw [Nat.mul_comm]; exact hce wr (Chg.refl _ _)
      have hil : i < L2.length := (List.getElem?_eq_some_iff.1 hp2).1
      obtain ⟨n2, hn2⟩ : ∃ y, y = L2.length := ⟨_, rfl⟩
      rw [← hn2] at y1 hil hL2n ⊢
      have i2 : (i : Int) < (n2 : Int) := by omega
      have i3 : (n2 : Int) ≤ 1000000 := by omega
      have HBl : Hid (w.heap.size ≤ gl ∧ ∃ A, wr.heap[gl]? = some (.cells A 9 (0, 0))) := hid (y1.blk rfl)
      have HNg : Hid (gl ≠ g2 ∧ gl ≠ ge) := hid ⟨(fun e1 => by
        obtain ⟨A, hA⟩ := HBl.out.2
        rw [e1, y3] at hA
        cases hA), (fun e1 => by
        obtain ⟨A, hA⟩ := HBl.out.2
        rcases y4.2 with ⟨e2, _⟩ | ⟨gg, c1, c2, e2, _, hgg, _⟩
        ·cases e2
        ·cases e2
         rw [e1, hgg] at hA
         cases hA)⟩
      have HY1 := hid y1
      have HY3 := hid y3
      have HY2 := hid y2
      have HY4 := hid y4
      have HGl2 := hid hgl2
      have HGe := hid hge
      have HB := hid (HBel.out k e hek)
      have HK := hid hek
      have HLL := hid hL2
      have HN2 := hid hn2
      clear y1 y2 y3 y4 hcl hce hgl2 hge hek hL2 hn2 hp2 hil hL2n HY
      go_upto_region 13 with fail
      refine wp_region_noPanic ?_
      refine wp_region_held_drew (S := fun w' => Chg wr w' (· = gl) ∧ w'.cell? ⟨gl, i, none⟩ = some (.string p)) (by kernel_rfl) ⟨(Chg.refl wr _).drew, q95⟩ (fun hH => ?_)
      have HC8 : Hid (∀ W', Chg wr W' (· = gl) → W'.cell? ⟨g2, 8, none⟩ = some (.slice (some ⟨ge, 0, none⟩) m c8)) := hid (fun W' hw' => by rw [cell_of_row _ _ _ _ _ _ (hw'.keep HY3.out (fun e => HNg.out.1 e.symm))]; exact HV8.out)
      have HC1 : Hid (∀ W', Chg wr W' (· = gl) → W'.cell? ⟨ge, k * 3, none⟩ = some (.string e.1)) := hid (fun W' hw' => by
       have := q101
       unfold World.cell? at this ⊢
       rw [hw'.block _ HGe.out (fun e => HNg.out.2 e.symm)]
       exact this)
      clear q8 q95 q101
      refine tV 0 75 (.slice (some ⟨gl, 0, none⟩) n2 cp2) rfl (by kernel_rfl) rfl (by rfl) hH (fun W' hw' => rfl) ?_
      simp only [sS]
      refine tV 1 76 (.slice (some ⟨gl, 0, none⟩) n2 cp2) rfl (by kernel_rfl) rfl (by rfl) hH (fun W' hw' => rfl) ?_
      simp only [sS]
      refine tV 2 77 (.int .i64 (i : Int)) rfl (by kernel_rfl) rfl (by rfl) hH (fun W' hw' => rfl) ?_
      simp only [sS]
      refine tV 3 78 (.pointer (some ⟨gl, i, none⟩)) rfl (by kernel_rfl) rfl (by rfl) hH (fun W' hw' => by go_simp) ?_
      simp only [sS]
      refine tV 4 79 (.string p) rfl (by kernel_rfl) rfl (by rfl) hH (fun W' hw' => by have hc := hw'.2; go_simp) ?_
      simp only [sS]
      refine tV 5 80 (.pointer (some ⟨g2, 8, none⟩)) rfl (by kernel_rfl) rfl (by rfl) hH (fun W' hw' => by go_simp) ?_
      simp only [sS]
      refine tV 6 81 (.slice (some ⟨ge, 0, none⟩) m c8) rfl (by kernel_rfl) rfl (by rfl) hH (fun W' hw' => by have hc := HC8.out W' hw'.1; go_simp) ?_
      simp only [sS]
      refine tV 7 82 (.int .i64 (k : Int)) rfl (by kernel_rfl) rfl (by rfl) hH (fun W' hw' => rfl) ?_
      simp only [sS]
      refine tV 8 83 (.pointer (some ⟨ge, k * 3, none⟩)) rfl (by kernel_rfl) rfl (by rfl) hH (fun W' hw' => by go_simp) ?_
      simp only [sS]
      refine tV 9 84 (.pointer (some ⟨ge, k * 3, none⟩)) rfl (by kernel_rfl) rfl (by rfl) hH (fun W' hw' => by go_simp) ?_
      simp only [sS]
      refine tV 10 85 (.string e.1) rfl (by kernel_rfl) rfl (by rfl) hH (fun W' hw' => by have hc := HC1.out W' hw'.1; go_simp) ?_
      simp only [sS]
      refine step1 11 (by kernel_rfl) ?_
      refine stCall 11 86 37 #[.string p, .string e.1] _ rfl rfl (by rfl) (by go_simp) (HB.out _) ?_
      rintro e2 wg ⟨rfl, rfl⟩
      refine ⟨_, rfl, hH, ?_⟩
      simp only [sS]
      refine step1 12 (by kernel_rfl) ?_
      have hca : Chg wr (wr.drew.alloc (.cells #[.string (belN p e.1)] 9)) (· = gl) := hH.1.trans (Chg.alloc wr.drew _ No) (fun _ _ e => e) (fun _ _ e => e.elim)
      have hgn := heap_alloc_new wr.drew (.cells #[.string (belN p e.1)] 9)
      have hka : (wr.drew.alloc (.cells #[.string (belN p e.1)] 9)).cell? ⟨gl, i, none⟩ = some (.string p) := by
       have := hH.2
       unfold World.cell? at this ⊢
       rw [(Chg.alloc wr.drew (.cells #[.string (belN p e.1)] 9) No).block _ HGl2.out (fun e => e)]
       exact this
      refine stNew 12 87 (.slice (some ⟨wr.drew.heap.size, 0, none⟩) 1 1) (.cells #[.string (belN p e.1)] 9) rfl rfl (by rfl) (by go_simp) ⟨⟨hca, hka⟩, ?_⟩
      simp only [sS]
      refine step1 13 (by kernel_rfl) ?_
      have hTa : TOw (wr.drew.alloc (.cells #[.string (belN p e.1)] 9)) w.heap.size (.slice (some ⟨gl, 0, none⟩) n2 cp2) L2 := TOw.call (w := wr.drew) HY1.out (Chg.alloc wr.drew _ No)
      refine stAppK 13 88 rfl rfl (by rfl) (.tmp 75) (.tmp 87) rfl w.heap.size wr.drew.heap.size 1 (.slice (some ⟨gl, 0, none⟩) n2 cp2) L2 (belN p e.1) rfl rfl hTa hgn (by have := HN2.out; omega) (by have := HY2.out.size; have e9 : wr.drew.heap.size = wr.heap.size := rfl; simp; omega) ?_
      intro v3 wg hT3 hc3 hk3
      have hS3 : Chg wr wg (· = gl) ∧ wg.cell? ⟨gl, i, none⟩ = some (.string p) := ⟨hca.trans hc3 (fun _ _ e => e) (fun j _ e => (by simpa [Value.ownBlock] using e : gl = j).symm), hk3 gl _ _ rfl i p (by rw [HLL.out, List.getElem?_append_left (by rw [← HN.out]; exact hlt)]; exact HP.out)⟩
      refine ⟨hS3, ?_⟩
      simp only [sS]
      refine tV 14 4 v3 rfl (by kernel_rfl) rfl (by rfl) hS3 (fun W' hw' => rfl) ?_
      simp only [sS]
      refine wpAnyH_done (by kernel_rfl) ?_ _
      refine NoPanic.normal ?_
      have HNew : Hid (TOw wg w.heap.size v3 (l ++ ((E.take (k + 1)).map fun e => belN p e.1)) ∧ Chg w wg No ∧ wg.heap[g2]? = some (.cells A2 43 (0, 0)) ∧ EOw wg wb.heap.size (.slice (some ⟨ge, 0, none⟩) m c8) E) := hid ⟨(by
       rw [List.take_add_one, HK.out, List.map_append, ← List.append_assoc, ← HLL.out]
       exact hT3), HY2.out.trans hS3.1 (fun _ _ e => e) (fun j hj e => by have := HBl.out.1; omega), hS3.1.keep HY3.out (fun e => HNg.out.1 e.symm), HY4.out.keep hS3.1 (fun k2 e1 e2 => HNg.out.2 (by
        have : ge = k2 := by simpa [Value.ownBlock] using e1
        omega))⟩
      clear hH hca hgn hka hTa hT3 hc3 hk3 hS3 HC8 HC1
      go_wp2_with fail
      exact ⟨⟨v3, k + 1, rfl, by go_num, by omega, HNew⟩, by simp [intOf]; omega⟩
     ·have k1 : ¬ (k : Int) < (m : Int) := by omega
      have hkm2 : k = m := by omega
      have HFin : Hid (∃ l' : List ByteArray, TOw wr w.heap.size v2 l' ∧ Chg w wr No ∧ listedL s (300 - (i + 1)) (l'.drop (i + 1)) LN = R0 ∧ l'.length ≤ 1 + 1068 * (i + 1) ∧ (∀ p' ∈ l', p'.size ≤ 1 + 41 * (i + 1)) ∧ LN.size ≤ 200000 * (i + 1)) := hid (by
       have hY := HY.out
       rw [hkm2, HM.out, List.take_length] at hY
       refine ⟨_, hY.1, hY.2.1, HNx.out, ?_, fun p' hp' => ?_, ?_⟩
       ·rw [List.length_append, List.length_map]
        have h1 := HL4.out
        have h2 := HN.out
        have h3 := HEs.out.1
        omega
       ·rcases List.mem_append.1 hp' with h1 | h1
        ·have := HL5.out p' h1
         omega
        ·obtain ⟨e, he, rfl⟩ := List.mem_map.1 h1
         have h2 := belN_size p e.1
         have h3 := HEs.out.2 e he
         have h4 := HP5.out
         omega
       ·have h1 := HLn.out
        have h2 := HL6.out
        have h3 := HPs.out
        omega)
      clear HY hkm2
      go_wp2_with fail
      exact ⟨⟨LN, v2, i + 1, rfl, rfl, by go_num, by omega, HFin⟩, by simp [intOf]; omega⟩
   ·have j1 : (i : Int) < (n : Int) := by omega
    have j2 : ¬ (i : Int) < 300 := by omega
    have hAcc : acc = R0 := by
     have e := HL3.out
     rw [show 300 - i = 0 by omega] at e
     exact e
    clear hl4 hl6
    subst hAcc
    go_wp2_with fail
    go_ret
    exact ⟨rfl, HL2.out⟩
  ·have j1 : ¬ (i : Int) < (n : Int) := by omega
   have hAcc : acc = R0 := by
    have e := HL3.out
    rw [List.drop_eq_nil_of_le (by rw [← HN.out]; omega), listedL_nil] at e
    exact e
   clear hl4 hl6
   subst hAcc
   go_wp2_with fail
   go_ret
   exact ⟨rfl, HL2.out⟩
end Go.Proofs.YtmgfilacepnjlaaGreatDoor
