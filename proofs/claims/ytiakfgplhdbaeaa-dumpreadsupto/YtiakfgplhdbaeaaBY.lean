/-
  package dump: Bytes.
-/
import Derived.Test.YtiakfgplhdbaeaaNL
namespace Go.Proofs.Ytiakfgplhdbaeaa
open Go.RowKit

/-- A node's bytes. -/
def nodeB (n : Nod) : List Int := numB n.kind 1 ++ (numB n.made 8 ++ (numB (n.path.size : Nat) 4 ++ (bytesI n.path ++ (numB (n.same.size : Nat) 4 ++ (bytesI n.same ++ (numB (n.data.length : Nat) 4 ++ n.data))))))
def flatB (L : List Nod) : List Int := L.flatMap nodeB
theorem fit_len {n : Nod} (h : fitsB n = true) : n.path.size ≤ 400 ∧ n.same.size ≤ 400 ∧ n.data.length ≤ 136704 := by
  unfold fitsB inB at h
  simp only [Bool.and_eq_true, decide_eq_true_eq] at h
  omega
theorem nodeB_len (n : Nod) : (nodeB n).length = 21 + n.path.size + n.same.size + n.data.length := by
  unfold nodeB
  simp only [List.length_append, numB_len, bytesI_len]
  omega
theorem flat_len : ∀ L : List Nod, L.all fitsB = true → (flatB L).length ≤ L.length * 140000
  | [], _ => by simp [flatB]
  | n :: L, h => by
    simp only [List.all_cons, Bool.and_eq_true] at h
    have h1 := flat_len L h.2
    have h2 := nodeB_len n
    have h3 := fit_len h.1
    unfold flatB at h1 ⊢
    rw [List.flatMap_cons, List.length_append, List.length_cons]
    omega
theorem szI {n : Nat} {m : Nod} (_h : fitsB m = true) (hn : n ≤ 136704 := by have := fit_len ‹_›; omega) : I64 (n : Int) := ⟨by omega, by omega⟩
theorem take_more {L : List Nod} {j : Nat} (h : j < L.length) : L.take (j + 1) = L.take j ++ [L.getD j Nod.z] := by
  rw [List.take_add_one, List.getElem?_eq_getElem h, List.getD_eq_getElem?_getD, List.getElem?_eq_getElem h]
  rfl

set_option maxHeartbeats 4000000 in
set_option maxRecDepth 100000 in
theorem bytes_any (L : List Nod) (a : Option Addr) (cap : Nat) (w : World) (h : NAt w a L) (hI : ∀ i, i < L.length → I64 (L.getD i Nod.z).kind ∧ I64 (L.getD i Nod.z).made) (hl : L.length ≤ 5000000) :
    Calls Try.prog 10 #[.slice a L.length cap] w fun e w' => ((L.all fitsB = true ∧ ∃ v, e = .returned (.tuple #[v, .int .i64 0]) ∧ BOw w' w.heap.size v (flatB L)) ∨ (L.all fitsB = false ∧ e = .returned (.tuple #[.slice none 0 0, .int .i64 170]))) ∧ Chg w w' No := by
  have HN := hid h
  have HI := hid hI
  obtain ⟨m, hm⟩ : ∃ y, y = L.length := ⟨_, rfl⟩
  rw [← hm] at hl ⊢
  have HM := hid hm
  clear h hI hm
  go_enter Try.func10, Try.ntmps10
  go_wp2_with fail
  go_loopw [4, 9] (fun x4 x9 wr => ∃ j : Nat, x9 = .int .i64 (j : Int) ∧ j ≤ m ∧ Hid (BOw wr w.heap.size x4 (flatB (L.take j))) ∧ Hid ((L.take j).all fitsB = true) ∧ Hid (Chg w wr No)) (fun _ x9 _ => m - (intOf x9).toNat)
  case atStart => exact ⟨0, rfl, Nat.zero_le _, hid (BOw.nil _ _), hid rfl, hid (Chg.refl _ _)⟩
  case round =>
    obtain ⟨j, rfl, hj, HB0, HA0, HC0⟩ := hrel
    by_cases e : j = m
    · subst e
      have HE : Hid (L.take j = L) := hid (by rw [HM.out]; exact List.take_length)
      go_wp2_with fail
      go_ret2
      refine ⟨.inl ⟨by rw [← HE.out]; exact HA0.out, _, rfl, ?_⟩, HC0.out⟩
      have := HB0.out
      rw [HE.out] at this
      exact this
    · have hjl : j < L.length := by rw [← HM.out]; omega
      obtain ⟨b, o, rfl, hbl, hld⟩ := (HN.out.call HC0.out).load hjl
      obtain ⟨n, hn⟩ : ∃ y, y = L.getD j Nod.z := ⟨_, rfl⟩
      have HDt : Hid (BytesAt w n.da n.data) := hid (by rw [hn]; exact HN.out.data j hjl)
      have HIk : Hid (I64 n.kind ∧ I64 n.made) := hid (by rw [hn]; exact HI.out j hjl)
      have HTk : Hid (L.take (j + 1) = L.take j ++ [n]) := hid (by rw [hn]; exact take_more hjl)
      rw [← hn] at hld
      have f1 : (j : Int) < (m : Int) := by omega
      have HLn0 : Hid ((flatB (L.take j)).length ≤ 700000000000) := hid (by
        have h1 := flat_len _ HA0.out
        have h2 : (L.take j).length ≤ 5000000 := by rw [List.length_take]; omega
        omega)
      have sz := nodA_sz n
      have HLd := hid hld
      clear hld hn hjl
      go_upto_region 5 with (first
        | (refine load_of rfl 47 _ rfl ⟨b, o + j * 5, none⟩ rfl _ HLd.out ?_)
        | (refine store_R rfl 47 _ _ rfl wr.heap.size (nodA n) rfl rfl 47 _ (heap_alloc_new _ _) sz rfl (nodA_one n) ?_; intro w1 hw1)
        | fail)
      have hc1 : Chg wr w1 No := (Chg.alloc wr _ No).trans (kt_new hw1) (fun _ _ e => e) (fun k hk e => by omega)
      obtain ⟨g6, hg6⟩ : ∃ y, y = wr.heap.size := ⟨_, rfl⟩
      have hge : w.heap.size ≤ g6 := by rw [hg6]; exact HC0.out.size
      rw [← hg6]
      have HG1 : Hid (w1.heap[g6]? = some (.cells (nodA n) 47 (0, 0))) := hid (by rw [hg6]; exact hw1.here)
      have HB1 := hid (HB0.out.call hc1)
      have HC1 := hid (HC0.out.tr hc1)
      have hF := fits_any n w1
      clear hw1 hc1 hg6 HLd hbl
      cases hft : fitsB n with
      | false =>
        rw [hft] at hF
        have HNo : Hid (L.all fitsB = false) := hid (by
          rw [← Bool.not_eq_true]
          intro hall
          have h1 : (L.take (j + 1)).all fitsB = true := List.all_eq_true.2 fun x hx => List.all_eq_true.1 hall x (List.mem_of_mem_take hx)
          rw [HTk.out, List.all_append, List.all_cons, hft] at h1
          simp at h1)
        clear hft
        go_wp2_with (first
          | (refine load_R rfl 47 _ rfl g6 rfl 47 (nodA n) _ HG1.out Try.underlying47 rfl sz ?_)
          | (go_at_call 21; go_must (refine hF.mono ?_; rintro e w2 ⟨rfl, hc2⟩; have HC2 := hid (HC1.out.tr hc2); clear hc2))
          | fail)
        go_ret2
        exact ⟨.inr ⟨HNo.out, rfl⟩, HC2.out⟩
      | true =>
        rw [hft] at hF
        have HFt := hid hft
        clear hft
        have HQ : Hid (∀ W : World, W.heap[g6]? = some (.cells (nodA n) 47 (0, 0)) → W.cell? ⟨g6, 1, none⟩ = some (.int .i64 n.kind) ∧ W.cell? ⟨g6, 2, none⟩ = some (.int .i64 n.made)) := hid (fun W hW => ⟨(cell_of_row _ _ _ _ _ _ hW).trans rfl, (cell_of_row _ _ _ _ _ _ hW).trans rfl⟩)
        go_upto_region 7 with (first
          | (refine load_R rfl 47 _ rfl g6 rfl 47 (nodA n) _ HG1.out Try.underlying47 rfl sz ?_)
          | (go_at_call 21; go_must (refine hF.mono ?_; rintro e w2 ⟨rfl, hc2⟩; have HC2 := hid (HC1.out.tr hc2); have HB2 := hid (HB1.out.call hc2); have HG2 := hid (hc2.keep HG1.out (fun e => e)); clear hc2))
          | fail)
        have q1 := (HQ.out w2 HG2.out).1
        have hA1 := appNum_any n.kind 1 w2 HB2.out HC2.out.size (by decide) (by have := HLn0.out; omega) HIk.out.1
        clear hF HB0 HB1 HC1 HG1
        go_upto_region 8 with (first
          | (go_at_call 22; go_must (refine hA1.mono ?_; rintro e w3 ⟨v3, rfl, hb3, hc3⟩; have HB3 := hid hb3; have HG3 := hid (hc3.keep HG2.out (fun e => by obtain ⟨_, A, hA⟩ := HB2.out.blk e; rw [HG2.out] at hA; cases hA)); have HC3 := hid (HC2.out.trans hc3 (fun _ _ e => e) (fun k hk e => by have := (HB2.out.blk e).1; omega)); clear hb3 hc3))
          | fail)
        have q2 := (HQ.out w3 HG3.out).2
        have hA2 := appNum_any n.made 8 w3 HB3.out HC3.out.size (by decide) (by have := HLn0.out; rw [List.length_append, numB_len]; omega) HIk.out.2
        clear hA1 q1 HB2 HG2 HC2
        go_upto_region 9 with (first
          | (go_at_call 22; go_must (refine hA2.mono ?_; rintro e w4 ⟨v4, rfl, hb4, hc4⟩; have HB4 := hid hb4; have HG4 := hid (hc4.keep HG3.out (fun e => by obtain ⟨_, A, hA⟩ := HB3.out.blk e; rw [HG3.out] at hA; cases hA)); have HC4 := hid (HC3.out.trans hc4 (fun _ _ e => e) (fun k hk e => by have := (HB3.out.blk e).1; omega)); clear hb4 hc4))
          | fail)
        have HLn4 : Hid ((flatB (L.take j) ++ numB n.kind 1 ++ numB n.made 8).length ≤ 700000000100) := hid (by have := HLn0.out; simp only [List.length_append, numB_len]; omega)
        clear hA2 q2 HB3 HG3 HC3
        refine wp_region_noPanic ?_
        refine wp_region_held_drew (S := fun W => W.heap[g6]? = some (.cells (nodA n) 47 (0, 0))) (by kernel_rfl) HG4.out (fun hHeld => ?_)
        have hd4 : Chg w4 w4.drew No := (Chg.refl _ _).drew
        refine takeVal 0 24 (v4) rfl (by kernel_rfl) (by kernel_rfl) (by kernel_rfl) rfl (by rfl) (fun _ _ _ h => h) hHeld (fun W' hw' => rfl) ?_
        simp only [List.setIfInBounds_toArray, List.set_cons_zero, List.set_cons_succ]
        refine takeVal 1 25 (.pointer (some ⟨g6, 0, none⟩)) rfl (by kernel_rfl) (by kernel_rfl) (by kernel_rfl) rfl (by rfl) (fun _ _ _ h => h) hHeld (fun W' hw' => by go_simp) ?_
        simp only [List.setIfInBounds_toArray, List.set_cons_zero, List.set_cons_succ]
        refine takeVal 2 26 (.string n.path) rfl (by kernel_rfl) (by kernel_rfl) (by kernel_rfl) rfl (by rfl) (fun _ _ _ h => h) hHeld (fun W' hw' => by have hc : W'.cell? ⟨g6, 0, none⟩ = some (.string n.path) := (cell_of_row _ _ _ _ _ _ hw').trans rfl; go_simp) ?_
        simp only [List.setIfInBounds_toArray, List.set_cons_zero, List.set_cons_succ]
        refine takeVal 3 27 (.int .i64 (n.path.size : Nat)) rfl (by kernel_rfl) (by kernel_rfl) (by kernel_rfl) rfl (by rfl) (fun _ _ _ h => h) hHeld (fun W' hw' => by go_simp) ?_
        simp only [List.setIfInBounds_toArray, List.set_cons_zero, List.set_cons_succ]
        refine takeVal 5 29 (.pointer (some ⟨g6, 0, none⟩)) rfl (by kernel_rfl) (by kernel_rfl) (by kernel_rfl) rfl (by rfl) (fun _ _ _ h => h) hHeld (fun W' hw' => by go_simp) ?_
        simp only [List.setIfInBounds_toArray, List.set_cons_zero, List.set_cons_succ]
        refine takeVal 6 30 (.string n.path) rfl (by kernel_rfl) (by kernel_rfl) (by kernel_rfl) rfl (by rfl) (fun _ _ _ h => h) hHeld (fun W' hw' => by have hc : W'.cell? ⟨g6, 0, none⟩ = some (.string n.path) := (cell_of_row _ _ _ _ _ _ hw').trans rfl; go_simp) ?_
        simp only [List.setIfInBounds_toArray, List.set_cons_zero, List.set_cons_succ]
        refine step1 4 (by kernel_rfl) ?_
        refine stCall 4 28 22 #[v4, .int .i64 (n.path.size : Nat), .int .i64 4] _ rfl rfl (by rfl) (by go_simp) (appNum_any (n.path.size : Nat) 4 _ (HB4.out.call hd4) (by have := HC4.out.size; exact this) (by decide) (by have := HLn4.out; omega) (szI HFt.out)) ?_
        rintro e w5 ⟨v5, rfl, hb1, hc1⟩
        have hg1 : w5.heap[g6]? = some (.cells (nodA n) 47 (0, 0)) := hc1.keep HG4.out (fun e => by obtain ⟨_, A, hA⟩ := HB4.out.blk e; rw [HG4.out] at hA; cases hA)
        have hw1 : Chg w w5 No := (HC4.out.tr hd4).trans hc1 (fun _ _ e => e) (fun j hj e => by have := (HB4.out.blk e).1; omega)
        refine ⟨_, rfl, hg1, ?_⟩
        simp only [List.setIfInBounds_toArray, List.set_cons_zero, List.set_cons_succ]
        refine step1 7 (by kernel_rfl) ?_
        refine stAppS 7 31 rfl rfl (by rfl) (.tmp 28) (.tmp 30) rfl w.heap.size v5 _ n.path rfl rfl hb1 (by have := HLn4.out; have := fit_len HFt.out; rw [List.length_append, numB_len]; omega) hw1.size ?_
        intro v6 w6 hb2 hc2
        have hg2 : w6.heap[g6]? = some (.cells (nodA n) 47 (0, 0)) := hc2.keep hg1 (fun e => by obtain ⟨_, A, hA⟩ := hb1.blk e; rw [hg1] at hA; cases hA)
        have hw2 : Chg w w6 No := hw1.trans hc2 (fun _ _ e => e) (fun j hj e => by have := (hb1.blk e).1; omega)
        refine ⟨hg2, ?_⟩
        simp only [List.setIfInBounds_toArray, List.set_cons_zero, List.set_cons_succ]
        refine takeVal 8 4 (v6) rfl (by kernel_rfl) (by kernel_rfl) (by kernel_rfl) rfl (by rfl) (fun _ _ _ h => h) hg2 (fun W' hw' => rfl) ?_
        simp only [List.setIfInBounds_toArray, List.set_cons_zero, List.set_cons_succ]
        refine wpAnyH_done (by kernel_rfl) ?_ _
        refine NoPanic.normal ?_
        have HB6 := hid hb2
        have HG6 := hid hg2
        have HC6 := hid hw2
        have HLn6 : Hid ((flatB (L.take j) ++ numB n.kind 1 ++ numB n.made 8 ++ numB (n.path.size : Nat) 4 ++ bytesI n.path).length ≤ 700000001100) := hid (by have := HLn0.out; have := fit_len HFt.out; simp only [List.length_append, numB_len, bytesI_len]; omega)
        clear hHeld hd4 hb1 hc1 hg1 hw1 hb2 hc2 hg2 hw2 HB4 HG4 HC4 HLn4
        go_upto_region 10 with fail
        refine wp_region_noPanic ?_
        refine wp_region_held_drew (S := fun W => W.heap[g6]? = some (.cells (nodA n) 47 (0, 0))) (by kernel_rfl) HG6.out (fun hHeld => ?_)
        have hd6 : Chg w6 w6.drew No := (Chg.refl _ _).drew
        refine takeVal 0 32 (v6) rfl (by kernel_rfl) (by kernel_rfl) (by kernel_rfl) rfl (by rfl) (fun _ _ _ h => h) hHeld (fun W' hw' => rfl) ?_
        simp only [List.setIfInBounds_toArray, List.set_cons_zero, List.set_cons_succ]
        refine takeVal 1 33 (.pointer (some ⟨g6, 3, none⟩)) rfl (by kernel_rfl) (by kernel_rfl) (by kernel_rfl) rfl (by rfl) (fun _ _ _ h => h) hHeld (fun W' hw' => by go_simp) ?_
        simp only [List.setIfInBounds_toArray, List.set_cons_zero, List.set_cons_succ]
        refine takeVal 2 34 (.string n.same) rfl (by kernel_rfl) (by kernel_rfl) (by kernel_rfl) rfl (by rfl) (fun _ _ _ h => h) hHeld (fun W' hw' => by have hc : W'.cell? ⟨g6, 3, none⟩ = some (.string n.same) := (cell_of_row _ _ _ _ _ _ hw').trans rfl; go_simp) ?_
        simp only [List.setIfInBounds_toArray, List.set_cons_zero, List.set_cons_succ]
        refine takeVal 3 35 (.int .i64 (n.same.size : Nat)) rfl (by kernel_rfl) (by kernel_rfl) (by kernel_rfl) rfl (by rfl) (fun _ _ _ h => h) hHeld (fun W' hw' => by go_simp) ?_
        simp only [List.setIfInBounds_toArray, List.set_cons_zero, List.set_cons_succ]
        refine takeVal 5 37 (.pointer (some ⟨g6, 3, none⟩)) rfl (by kernel_rfl) (by kernel_rfl) (by kernel_rfl) rfl (by rfl) (fun _ _ _ h => h) hHeld (fun W' hw' => by go_simp) ?_
        simp only [List.setIfInBounds_toArray, List.set_cons_zero, List.set_cons_succ]
        refine takeVal 6 38 (.string n.same) rfl (by kernel_rfl) (by kernel_rfl) (by kernel_rfl) rfl (by rfl) (fun _ _ _ h => h) hHeld (fun W' hw' => by have hc : W'.cell? ⟨g6, 3, none⟩ = some (.string n.same) := (cell_of_row _ _ _ _ _ _ hw').trans rfl; go_simp) ?_
        simp only [List.setIfInBounds_toArray, List.set_cons_zero, List.set_cons_succ]
        refine step1 4 (by kernel_rfl) ?_
        refine stCall 4 36 22 #[v6, .int .i64 (n.same.size : Nat), .int .i64 4] _ rfl rfl (by rfl) (by go_simp) (appNum_any (n.same.size : Nat) 4 _ (HB6.out.call hd6) (by have := HC6.out.size; exact this) (by decide) (by have := HLn6.out; omega) (szI HFt.out)) ?_
        rintro e w7 ⟨v7, rfl, hb1, hc1⟩
        have hg1 : w7.heap[g6]? = some (.cells (nodA n) 47 (0, 0)) := hc1.keep HG6.out (fun e => by obtain ⟨_, A, hA⟩ := HB6.out.blk e; rw [HG6.out] at hA; cases hA)
        have hw1 : Chg w w7 No := (HC6.out.tr hd6).trans hc1 (fun _ _ e => e) (fun j hj e => by have := (HB6.out.blk e).1; omega)
        refine ⟨_, rfl, hg1, ?_⟩
        simp only [List.setIfInBounds_toArray, List.set_cons_zero, List.set_cons_succ]
        refine step1 7 (by kernel_rfl) ?_
        refine stAppS 7 39 rfl rfl (by rfl) (.tmp 36) (.tmp 38) rfl w.heap.size v7 _ n.same rfl rfl hb1 (by have := HLn6.out; have := fit_len HFt.out; rw [List.length_append, numB_len]; omega) hw1.size ?_
        intro v8 w8 hb2 hc2
        have hg2 : w8.heap[g6]? = some (.cells (nodA n) 47 (0, 0)) := hc2.keep hg1 (fun e => by obtain ⟨_, A, hA⟩ := hb1.blk e; rw [hg1] at hA; cases hA)
        have hw2 : Chg w w8 No := hw1.trans hc2 (fun _ _ e => e) (fun j hj e => by have := (hb1.blk e).1; omega)
        refine ⟨hg2, ?_⟩
        simp only [List.setIfInBounds_toArray, List.set_cons_zero, List.set_cons_succ]
        refine takeVal 8 4 (v8) rfl (by kernel_rfl) (by kernel_rfl) (by kernel_rfl) rfl (by rfl) (fun _ _ _ h => h) hg2 (fun W' hw' => rfl) ?_
        simp only [List.setIfInBounds_toArray, List.set_cons_zero, List.set_cons_succ]
        refine wpAnyH_done (by kernel_rfl) ?_ _
        refine NoPanic.normal ?_
        have HB8 := hid hb2
        have HG8 := hid hg2
        have HC8 := hid hw2
        have HLn8 : Hid ((flatB (L.take j) ++ numB n.kind 1 ++ numB n.made 8 ++ numB (n.path.size : Nat) 4 ++ bytesI n.path ++ numB (n.same.size : Nat) 4 ++ bytesI n.same).length ≤ 700000002100) := hid (by have := HLn0.out; have := fit_len HFt.out; simp only [List.length_append, numB_len, bytesI_len]; omega)
        clear hHeld hd6 hb1 hc1 hg1 hw1 hb2 hc2 hg2 hw2 HB6 HG6 HC6 HLn6
        go_upto_region 11 with fail
        refine wp_region_noPanic ?_
        refine wp_region_held_drew (S := fun W => W.heap[g6]? = some (.cells (nodA n) 47 (0, 0))) (by kernel_rfl) HG8.out (fun hHeld => ?_)
        have hd8 : Chg w8 w8.drew No := (Chg.refl _ _).drew
        refine takeVal 0 40 (v8) rfl (by kernel_rfl) (by kernel_rfl) (by kernel_rfl) rfl (by rfl) (fun _ _ _ h => h) hHeld (fun W' hw' => rfl) ?_
        simp only [List.setIfInBounds_toArray, List.set_cons_zero, List.set_cons_succ]
        refine takeVal 1 41 (.pointer (some ⟨g6, 4, none⟩)) rfl (by kernel_rfl) (by kernel_rfl) (by kernel_rfl) rfl (by rfl) (fun _ _ _ h => h) hHeld (fun W' hw' => by go_simp) ?_
        simp only [List.setIfInBounds_toArray, List.set_cons_zero, List.set_cons_succ]
        refine takeVal 2 42 (.slice n.da n.data.length n.dc) rfl (by kernel_rfl) (by kernel_rfl) (by kernel_rfl) rfl (by rfl) (fun _ _ _ h => h) hHeld (fun W' hw' => by have hc : W'.cell? ⟨g6, 4, none⟩ = some (.slice n.da n.data.length n.dc) := (cell_of_row _ _ _ _ _ _ hw').trans rfl; go_simp) ?_
        simp only [List.setIfInBounds_toArray, List.set_cons_zero, List.set_cons_succ]
        refine takeVal 3 43 (.int .i64 (n.data.length : Nat)) rfl (by kernel_rfl) (by kernel_rfl) (by kernel_rfl) rfl (by rfl) (fun _ _ _ h => h) hHeld (fun W' hw' => by go_simp) ?_
        simp only [List.setIfInBounds_toArray, List.set_cons_zero, List.set_cons_succ]
        refine takeVal 5 45 (.pointer (some ⟨g6, 4, none⟩)) rfl (by kernel_rfl) (by kernel_rfl) (by kernel_rfl) rfl (by rfl) (fun _ _ _ h => h) hHeld (fun W' hw' => by go_simp) ?_
        simp only [List.setIfInBounds_toArray, List.set_cons_zero, List.set_cons_succ]
        refine takeVal 6 46 (.slice n.da n.data.length n.dc) rfl (by kernel_rfl) (by kernel_rfl) (by kernel_rfl) rfl (by rfl) (fun _ _ _ h => h) hHeld (fun W' hw' => by have hc : W'.cell? ⟨g6, 4, none⟩ = some (.slice n.da n.data.length n.dc) := (cell_of_row _ _ _ _ _ _ hw').trans rfl; go_simp) ?_
        simp only [List.setIfInBounds_toArray, List.set_cons_zero, List.set_cons_succ]
        refine step1 4 (by kernel_rfl) ?_
        refine stCall 4 44 22 #[v8, .int .i64 (n.data.length : Nat), .int .i64 4] _ rfl rfl (by rfl) (by go_simp) (appNum_any (n.data.length : Nat) 4 _ (HB8.out.call hd8) (by have := HC8.out.size; exact this) (by decide) (by have := HLn8.out; omega) (szI HFt.out)) ?_
        rintro e w9 ⟨v9, rfl, hb1, hc1⟩
        have hg1 : w9.heap[g6]? = some (.cells (nodA n) 47 (0, 0)) := hc1.keep HG8.out (fun e => by obtain ⟨_, A, hA⟩ := HB8.out.blk e; rw [HG8.out] at hA; cases hA)
        have hw1 : Chg w w9 No := (HC8.out.tr hd8).trans hc1 (fun _ _ e => e) (fun j hj e => by have := (HB8.out.blk e).1; omega)
        refine ⟨_, rfl, hg1, ?_⟩
        simp only [List.setIfInBounds_toArray, List.set_cons_zero, List.set_cons_succ]
        refine step1 7 (by kernel_rfl) ?_
        refine stAppB 7 47 rfl rfl (by rfl) (.tmp 44) (.tmp 46) rfl w.heap.size v9 _ n.data n.da n.dc rfl rfl hb1 (HDt.out.call hw1) (by have := HLn8.out; have := fit_len HFt.out; rw [List.length_append, numB_len]; omega) hw1.size ?_
        intro v10 w10 hb2 hc2
        have hg2 : w10.heap[g6]? = some (.cells (nodA n) 47 (0, 0)) := hc2.keep hg1 (fun e => by obtain ⟨_, A, hA⟩ := hb1.blk e; rw [hg1] at hA; cases hA)
        have hw2 : Chg w w10 No := hw1.trans hc2 (fun _ _ e => e) (fun j hj e => by have := (hb1.blk e).1; omega)
        refine ⟨hg2, ?_⟩
        simp only [List.setIfInBounds_toArray, List.set_cons_zero, List.set_cons_succ]
        refine takeVal 8 4 (v10) rfl (by kernel_rfl) (by kernel_rfl) (by kernel_rfl) rfl (by rfl) (fun _ _ _ h => h) hg2 (fun W' hw' => rfl) ?_
        simp only [List.setIfInBounds_toArray, List.set_cons_zero, List.set_cons_succ]
        refine wpAnyH_done (by kernel_rfl) ?_ _
        refine NoPanic.normal ?_
        have HBx := hid hb2
        have HCx := hid hw2
        clear hHeld hd8 hb1 hc1 hg1 hw1 hb2 hc2 hg2 hw2 HB8 HG8 HC8 HLn8
        go_wp2_with fail
        refine ⟨⟨j + 1, by go_num, by omega, hid ?_, hid ?_, HCx⟩, by simp [intOf]; omega⟩
        · have := HBx.out
          rw [HTk.out]
          have e2 : flatB (L.take j ++ [n]) = flatB (L.take j) ++ nodeB n := by simp [flatB]
          rw [e2]
          simpa only [nodeB, List.append_assoc] using this
        · rw [HTk.out, List.all_append, HA0.out]
          simp [HFt.out]
end Go.Proofs.Ytiakfgplhdbaeaa
