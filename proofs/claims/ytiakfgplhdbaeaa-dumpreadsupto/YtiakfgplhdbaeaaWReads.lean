/-
  The walk of DumpReads.
-/
import Derived.Test.YtiakfgplhdbaeaaZO
import Derived.Test.YtiakfgplhdbaeaaYR
import Derived.Test.YtiakfgplhdbaeaaF4
namespace Go.Proofs.Ytiakfgplhdbaeaa
open Go.RowKit

theorem SB_at8 {w : World} {g : Nat} {t : TypeId} {l zs m : List Int} (hg : w.heap[g]? = some (.cells (SB l) t (0, 0))) (e : l = zs ++ m) : At8 w g 0 zs := ⟨slt hg, fun j hj => by
  rw [Nat.zero_add, cell_of_row _ _ _ _ _ _ hg, SB_get _ _ (by rw [e, List.length_append]; omega), e, List.getD_eq_getElem?_getD, List.getElem?_append_left hj, ← List.getD_eq_getElem?_getD]⟩
section
variable {w w' : World} {B : Nat} {v : Value} {M : List Nod} {ks : Nat → Prop}
/-- What turns only what lies ahead. -/
theorem NO2.ahead (h : NO2 w B v M) (hc : Chg w w' ks) (hn : ∀ k, B ≤ k → ¬ ks k) : NO2 w' B v M := by
  refine ⟨⟨h.row.1, ?_⟩, fun i n hi => (h.own i n hi).keep hc (fun k e => hn k ((h.own i n hi).blk e).1), h.two⟩
  rcases h.row.2 with h | ⟨g, cap, cur, rfl, hg, hk, r⟩
  · exact .inl h
  · exact .inr ⟨g, cap, cur, rfl, hg, hc.keep hk (hn g hg), r⟩
theorem ND.ahead (h : ND w B v M) (hc : Chg w w' ks) (hn : ∀ k, B ≤ k → ¬ ks k) : ND w' B v M := by
  refine ⟨⟨h.row.1, ?_⟩, fun i n hi => (h.data i n hi).keep hc (fun g o e => hn g (h.low i n g o hi e).1), fun i n g o hi e => ?_⟩
  · rcases h.row.2 with h | ⟨g, cap, cur, rfl, hg, hk, r⟩
    · exact .inl h
    · exact .inr ⟨g, cap, cur, rfl, hg, hc.keep hk (hn g hg), r⟩
  · obtain ⟨hB, A, f, hA⟩ := h.low i n g o hi e
    exact ⟨hB, A, f, hc.keep hA (hn g hB)⟩
end
theorem Alike.two {L M K : List Nod} (h : Alike L M) (k : Alike L K) : K.length = M.length ∧ ∀ i, i < M.length → alikeN (M.getD i Nod.z) (K.getD i Nod.z) := by
  refine ⟨by rw [k.1, h.1], fun i hi => ?_⟩
  obtain ⟨a1, a2, a3, a4, a5⟩ := h.2 i (by rw [← h.1]; exact hi)
  obtain ⟨b1, b2, b3, b4, b5⟩ := k.2 i (by rw [← h.1]; exact hi)
  exact ⟨b1.trans a1.symm, b2.trans a2.symm, b3.trans a3.symm, b4.trans a4.symm, b5.trans a5.symm⟩
theorem alike_same {n m : Nod} (h : alikeN n m) : fitsB m = fitsB n ∧ nodeB m = nodeB n := by
  obtain ⟨a1, a2, a3, a4, a5⟩ := h
  unfold fitsB inB nodeB
  rw [a1, a2, a3, a4, a5]
  exact ⟨rfl, rfl⟩
theorem alike_all : ∀ (L M : List Nod), Alike L M → M.all fitsB = L.all fitsB ∧ flatB M = flatB L
  | [], M, h => by
    have : M = [] := List.eq_nil_of_length_eq_zero h.1
    rw [this]
    exact ⟨rfl, rfl⟩
  | n :: L, [], h => by have := h.1; simp at this
  | n :: L, m :: M, h => by
    have h0 := alike_same (h.2 0 (by simp))
    have h1 : Alike L M := ⟨by have := h.1; simpa using this, fun i hi => by have := h.2 (i + 1) (by simp; omega); simpa using this⟩
    obtain ⟨k1, k2⟩ := alike_all L M h1
    have h0a : fitsB m = fitsB n := by simpa using h0.1
    have h0b : nodeB m = nodeB n := by simpa using h0.2
    unfold flatB at k2 ⊢
    rw [List.all_cons, List.all_cons, List.flatMap_cons, List.flatMap_cons, k1, k2, h0a, h0b]
    exact ⟨rfl, rfl⟩
/-- What Read tells. -/
theorem readL_ok {zs : List Int} (h : okB zs) : (readL zs).all fitsB = true ∧ (readL zs).length * 21 ≤ zs.length ∧ ((readE zs = 0 ∧ flatB (readL zs) = zs) ∨ readE zs = 170) := by
  unfold readL readE
  cases e : readZ zs.length zs with
  | none => exact ⟨rfl, by simp, .inr rfl⟩
  | some L =>
    obtain ⟨h1, h2⟩ := read_flat _ _ _ h e
    exact ⟨h2, read_count h e, .inl ⟨rfl, h1⟩⟩
theorem fits_i64 {M : List Nod} (h : M.all fitsB = true) : ∀ i, i < M.length → I64 (M.getD i Nod.z).kind ∧ I64 (M.getD i Nod.z).made := fun i hi => by
  have hf : fitsB (M.getD i Nod.z) = true := by
    rw [List.getD_eq_getElem?_getD, List.getElem?_eq_getElem hi]
    exact List.all_eq_true.1 h _ (List.getElem_mem hi)
  unfold fitsB inB at hf
  simp only [Bool.and_eq_true, decide_eq_true_eq] at hf
  have h1 := hf.1.1
  exact ⟨⟨by omega, by omega⟩, ⟨by omega, by omega⟩⟩
theorem fits_data {M : List Nod} (h : M.all fitsB = true) : ∀ (i : Nat) n, M[i]? = some n → n.data.length ≤ 136704 := fun _ n hn => (fit_len (List.all_eq_true.1 h n (List.mem_of_getElem? hn))).2.2

set_option maxHeartbeats 8000000 in
set_option maxRecDepth 100000 in
theorem reads_walk (zs : List Int) (a : Option Addr) (cap : Nat) (w : World) (h : BytesAt w a zs) (hr : okB zs) (hcp : zs.length ≤ cap) (hl : zs.length ≤ 1048576) :
    Calls Try.prog 4 #[.slice a zs.length cap] w fun e w' => e = .returned (.bool true) ∧ Below w.heap.size w w' := by
  have hAw := awake_any w
  have HRd : Hid (∀ W g, At8 W g 0 zs → Calls Try.prog 14 #[.slice (some ⟨g, 0, none⟩) zs.length (zs.length + 9)] W fun e w' => ∃ v M, e = .returned (.tuple #[v, .int .i64 (readE zs)]) ∧ NO2 w' W.heap.size v M ∧ Alike (readL zs) M ∧ Chg W w' No) := hid (fun W g hW => read_any zs W hW (by omega) hr (by omega))
  have HRr : Hid (∀ W, Chg w W No → Calls Try.prog 15 #[.slice a zs.length cap] W fun e w' => ∃ v M, e = .returned (.tuple #[v, .int .i64 (readE zs)]) ∧ ND w' W.heap.size v M ∧ Alike (readL zs) M ∧ Chg W w' No) := hid (fun W hW => rread_any zs W (h.call hW) hcp hr (by omega))
  have HOk := hid (readL_ok hr)
  have HBt := hid h
  obtain ⟨n, hn⟩ : ∃ y, y = zs.length := ⟨_, rfl⟩
  obtain ⟨RE, hRE⟩ : ∃ y, y = readE zs := ⟨_, rfl⟩
  obtain ⟨RL, hRL⟩ : ∃ y, y = readL zs := ⟨_, rfl⟩
  rw [← hn, ← hRE, ← hRL] at HRd HRr
  rw [← hn, ← hRE, ← hRL] at HOk
  rw [← hn] at hl ⊢
  have HN := hid hn
  have HCv : Hid (∀ W a' c, BytesAt W a' zs → (convert 29 9 (.slice a' n c)).run Try.prog W = .ok (.string (strOf zs)) W) := hid (fun W a' c hW => by have := conv_at hW c; rw [← hn] at this; exact this)
  have hmk : ∀ W, (Instr.makeSlice 29 (.int .i64 ((n : Int) + 9)) (.int .i64 ((n : Int) + 9))).run Try.prog W = .ok (.slice (some ⟨W.heap.size, 0, none⟩) (n + 9) (n + 9)) (W.alloc (.cells (SB (List.replicate (n + 9) 0)) 5)) := fun W => make_bytes (n + 9) (by omega) W
  clear h hr hcp hn hRE hRL
  go_enter Try.func4, Try.ntmps4
  go_upto_region 2 with (first
    | (go_at_call 7; go_must (refine hAw.mono ?_; rintro e w1 ⟨rfl, hc1⟩; have HC1 := hid hc1; clear hc1))
    | fail)
  clear hAw
  go_upto_region 3 with fail
  obtain ⟨w2, hw2⟩ : ∃ y, y = w1.alloc (.cells (SB (List.replicate (n + 9) 0)) 5) := ⟨_, rfl⟩
  obtain ⟨gM, hgM⟩ : ∃ y, y = w1.heap.size := ⟨_, rfl⟩
  have hc2 : Chg w1 w2 No := by rw [hw2]; exact Chg.alloc _ _ No
  have hg2 : w2.heap[gM]? = some (.cells (SB (List.replicate (n + 9) 0)) 5 (0, 0)) := by rw [hw2, hgM]; exact heap_alloc_new _ _
  rw [← hw2, ← hgM]
  have HG2 := hid hg2
  have HC2 := hid (HC1.out.tr hc2)
  have HgM : Hid (w.heap.size ≤ gM) := hid (by rw [hgM]; exact HC1.out.size)
  have HB2 := hid (HBt.out.call HC2.out)
  have HZl : Hid (zs.length = n) := hid HN.out.symm
  clear hw2 hgM hc2 hg2 hmk HC1
  go_upto_region 4 with (first
    | (refine copy_front rfl _ _ rfl a (n + 9) (n + 9) cap gM zs (List.replicate (n + 9) 0) rfl (by rw [HZl.out]; rfl) 5 HG2.out (by rw [HZl.out]; omega) (by rw [List.length_replicate, HZl.out]; omega) HB2.out ?_; intro w3 hg3 hc3 hz3; have HG3 := hid hg3; have HC3 := hid (HC2.out.trans hc3 (fun _ _ e => e) (fun j hj e => by have := HgM.out; omega)); clear hg3 hc3 hz3)
    | fail)
  have HA3 : Hid (At8 w3 gM 0 zs) := hid (SB_at8 HG3.out rfl)
  have hR1 := HRd.out w3 gM HA3.out
  have f1 : (n : Int) ≤ (n : Int) + 9 := by omega
  have f0 : (0 : Int) ≤ (n : Int) := by omega
  clear HG2 HC2 HB2
  go_upto_region 5 with (first
    | (go_at_call 14; go_must (refine hR1.mono ?_; rintro e w4 ⟨v5, M1, rfl, hn4, ha4, hc4⟩; have HN4 := hid hn4; have HL4 := hid ha4; have HC34 := hid hc4; clear hn4 ha4 hc4))
    | fail)
  have HLt1 : Hid ((∀ k, v5.ownBlock = some k → k < w4.heap.size) ∧ ∀ (i : Nat) m k, M1[i]? = some m → (dataV m).ownBlock = some k → k < w4.heap.size) := hid ⟨fun k e => by obtain ⟨_, A, hA⟩ := HN4.out.blk e; exact slt hA, fun i m k hm e => by obtain ⟨_, A, hA⟩ := (HN4.out.own i m hm).blk e; exact slt hA⟩
  have HC4 := hid (HC3.out.tr HC34.out)
  have hR2 := HRr.out w4 HC4.out
  clear hR1
  go_upto_region 6 with (first
    | (go_at_call 15; go_must (refine hR2.mono ?_; rintro e w5 ⟨v7, MD, rfl, hn5, ha5, hc5⟩; have HN5 := hid hn5; have HL5 := hid ha5; have HC45 := hid hc5; clear hn5 ha5 hc5))
    | fail)
  have HC5 := hid (HC4.out.tr HC45.out)
  have HA5 := hid ((HA3.out.keep HC34.out (fun e => e)).keep HC45.out (fun e => e))
  have HB5 := hid (HBt.out.call HC5.out)
  obtain ⟨w6, hw6⟩ : ∃ y, y = w5.drew := ⟨_, rfl⟩
  have HC56 : Hid (Chg w5 w6 No) := hid (by rw [hw6]; exact (Chg.refl _ _).drew)
  clear hR2
  refine wp_region_noPanic ?_
  refine wp_region_held_drew (S := fun W => BytesAt W (some ⟨gM, 0, none⟩) zs ∧ BytesAt W a zs) (by kernel_rfl) ⟨HA5.out.bytes.call (Chg.refl _ _).drew, HB5.out.call (Chg.refl _ _).drew⟩ (fun hHeld => ?_)
  refine takeVal 0 38 (.slice (some ⟨gM, 0, none⟩) (n + 9) (n + 9)) rfl (by kernel_rfl) (by kernel_rfl) (by kernel_rfl) rfl (by rfl) (fun _ _ _ h => h) hHeld (fun W' hw' => rfl) ?_
  simp only [List.setIfInBounds_toArray, List.set_cons_zero, List.set_cons_succ]
  refine takeVal 1 39 (.slice a n cap) rfl (by kernel_rfl) (by kernel_rfl) (by kernel_rfl) rfl (by rfl) (fun _ _ _ h => h) hHeld (fun W' hw' => rfl) ?_
  simp only [List.setIfInBounds_toArray, List.set_cons_zero, List.set_cons_succ]
  refine takeVal 2 40 (.int .i64 (n : Int)) rfl (by kernel_rfl) (by kernel_rfl) (by kernel_rfl) rfl (by rfl) (fun _ _ _ h => h) hHeld (fun W' hw' => by go_simp) ?_
  simp only [List.setIfInBounds_toArray, List.set_cons_zero, List.set_cons_succ]
  refine takeVal 3 41 (.slice (some ⟨gM, 0, none⟩) n (n + 9)) rfl (by kernel_rfl) (by kernel_rfl) (by kernel_rfl) rfl (by rfl) (fun _ _ _ h => h) hHeld (fun W' hw' => by go_simp) ?_
  simp only [List.setIfInBounds_toArray, List.set_cons_zero, List.set_cons_succ]
  refine takeVal 4 42 (.string (strOf zs)) rfl (by kernel_rfl) (by kernel_rfl) (by kernel_rfl) rfl (by rfl) (fun _ _ _ h => h) hHeld (fun W' hw' => by have hcv := HCv.out W' _ (n + 9) hw'.1; go_simp) ?_
  simp only [List.setIfInBounds_toArray, List.set_cons_zero, List.set_cons_succ]
  refine takeVal 5 43 (.slice a n cap) rfl (by kernel_rfl) (by kernel_rfl) (by kernel_rfl) rfl (by rfl) (fun _ _ _ h => h) hHeld (fun W' hw' => rfl) ?_
  simp only [List.setIfInBounds_toArray, List.set_cons_zero, List.set_cons_succ]
  refine takeVal 6 44 (.string (strOf zs)) rfl (by kernel_rfl) (by kernel_rfl) (by kernel_rfl) rfl (by rfl) (fun _ _ _ h => h) hHeld (fun W' hw' => by have hcv := HCv.out W' _ cap hw'.2; go_simp) ?_
  simp only [List.setIfInBounds_toArray, List.set_cons_zero, List.set_cons_succ]
  refine takeVal 7 45 (.bool true) rfl (by kernel_rfl) (by kernel_rfl) (by kernel_rfl) rfl (by rfl) (fun _ _ _ h => h) hHeld (fun W' hw' => by go_simp) ?_
  simp only [List.setIfInBounds_toArray, List.set_cons_zero, List.set_cons_succ]
  refine takeVal 8 9 (.bool true) rfl (by kernel_rfl) (by kernel_rfl) (by kernel_rfl) rfl (by rfl) (fun _ _ _ h => h) hHeld (fun W' hw' => rfl) ?_
  simp only [List.setIfInBounds_toArray, List.set_cons_zero, List.set_cons_succ]
  refine wpAnyH_done (by kernel_rfl) ?_ _
  refine NoPanic.normal ?_
  rw [← hw6]
  clear hHeld hw6
  have HC6 := hid (HC5.out.tr HC56.out)
  have HA6 := hid (HA5.out.keep HC56.out (fun e => e))
  have hR3 := HRd.out w6 gM HA6.out
  go_upto_region 8 with (first
    | (go_at_call 14; go_must (refine hR3.mono ?_; rintro e w7 ⟨v10, M2, rfl, hn7, ha7, hc7⟩; have HN7 := hid hn7; have HL7 := hid ha7; have HC67 := hid hc7; clear hn7 ha7 hc7))
    | fail)
  have HC47 := hid ((HC45.out.tr HC56.out).tr HC67.out)
  have HG7 : Hid (w7.heap[gM]? = some (.cells (SB (zs ++ (List.replicate (n + 9) 0).drop zs.length)) 5 (0, 0))) := hid (HC47.out.keep (HC34.out.keep HG3.out (fun e => e)) (fun e => e))
  have HC7 := hid (HC6.out.tr HC67.out)
  have HS : Hid (gM < w3.heap.size ∧ w3.heap.size ≤ w4.heap.size ∧ w4.heap.size ≤ w6.heap.size ∧ w6.heap.size ≤ w7.heap.size) := hid ⟨HA3.out.1, HC34.out.size, (HC45.out.tr HC56.out).size, HC67.out.size⟩
  have HN4b := hid (HN4.out.call HC47.out)
  have HN5b := hid ((HN5.out.call HC56.out).call HC67.out)
  clear hR3 HRd HRr HA3 HA5 HA6 HB5 HC3 HC4 HC5 HC6 HN4 HN5 HG3
  go_upto_region 9 with fail
  go_loopw [12] (fun x12 wq => ∃ (j : Nat) (l : List Int), x12 = .int .i64 (j : Int) ∧ j ≤ n + 9 ∧ Hid (wq.heap[gM]? = some (.cells (SB l) 5 (0, 0))) ∧ Hid (l.length = n + 9) ∧ Hid (Chg w7 wq (· = gM))) (fun x12 _ => n + 9 - (intOf x12).toNat)
  case atStart => exact ⟨0, _, rfl, Nat.zero_le _, HG7, hid (by rw [List.length_append, List.length_drop, List.length_replicate, HZl.out]; omega), hid (Chg.refl _ _)⟩
  case round =>
    obtain ⟨j, l, rfl, hj, HG, HLl, HC⟩ := hrel
    by_cases e : j < n + 9
    · as_aux_lemma =>
      have e1 : (j : Int) < (n : Int) + 9 := by omega
      have e0 : (0 : Int) ≤ (j : Int) := by omega
      have hjl : j < l.length := by rw [HLl.out]; exact e
      have cc : wr.cell? ⟨gM, j, none⟩ = some (.int .u8 (l.getD j 0)) := by rw [cell_of_row _ _ _ _ _ _ HG.out, SB_get _ _ hjl]
      have fz := frozen_of_row wr gM j _ _ HG.out
      have HQ : Hid (∀ y, (wr.setCell ⟨gM, j, none⟩ (.int .u8 y)).heap[gM]? = some (.cells (SB (l.set j y)) 5 (0, 0)) ∧ Chg w7 (wr.setCell ⟨gM, j, none⟩ (.int .u8 y)) (· = gM)) := hid (fun y => ⟨setB HG.out j y, HC.out.trans Chg.setCell (fun _ _ e => e) (fun _ _ e => e)⟩)
      obtain ⟨y, hy⟩ : ∃ y, y = l.getD j 0 := ⟨_, rfl⟩
      rw [← hy] at cc
      clear hy hjl
      go_wp2_with fail
      exact ⟨⟨j + 1, _, by go_num, by omega, hid (HQ.out _).1, hid (by rw [List.length_set]; exact HLl.out), hid (HQ.out _).2⟩, by simp [intOf]; omega⟩
    · have hge : ¬ ((j : Int) < (n : Int) + 9) := by omega
      obtain ⟨w8, hw8⟩ : ∃ y, y = wr := ⟨_, rfl⟩
      subst hw8
      go_upto_region 12 with fail
      as_aux_lemma =>
      have far3 : ∀ k, w3.heap.size ≤ k → ¬ (k = gM) := fun k hk e => by have := HS.out; omega
      have HN4c : Hid (NO2 w8 w3.heap.size v5 M1) := hid (HN4b.out.ahead HC.out far3)
      have HN5c : Hid (ND w8 w4.heap.size v7 MD) := hid (HN5b.out.ahead HC.out (fun k hk => far3 k (by have := HS.out; omega)))
      have HN7c : Hid (NO2 w8 w6.heap.size v10 M2) := hid (HN7.out.ahead HC.out (fun k hk => far3 k (by have := HS.out; omega)))
      have HC8 : Hid (Chg w w8 No) := hid (HC7.out.trans HC.out (fun _ _ e => e) (fun k hk e => by have := HgM.out; omega))
      have HS8 : Hid (w6.heap.size ≤ w8.heap.size) := hid (by have := HS.out; have := HC.out.size; omega)
      obtain ⟨a5, c5, e5, hn5⟩ := HN4c.out.now.nat
      obtain ⟨a7, c7, e7, hn7⟩ := HN5c.out.nat
      obtain ⟨a10, c10, e10, hn10⟩ := HN7c.out.now.nat
      have HE5 := hid e5
      have HE10 := hid e10
      have hM : M1.length ≤ 49932 ∧ M2.length ≤ 49932 ∧ MD.length ≤ 49932 := by
        have h1 := HOk.out.2.1
        have h2 := HL4.out.1
        have h3 := HL7.out.1
        have h4 := HL5.out.1
        omega
      have x1 := HL4.out.two HL5.out
      have x2 := HL7.out.two HL5.out
      have hS1 := same_any M1 MD a5 a7 c5 c7 w8 hn5 hn7 x1.1 (by omega) x1.2
      have HS2 : Hid (∀ W, Chg w8 W No → Calls Try.prog 16 #[.slice a10 M2.length c10, .slice a7 MD.length c7] W fun e w' => e = .returned (.bool true) ∧ Chg W w' No) := hid (fun W hW => same_any M2 MD a10 a7 c10 c7 W (hn10.call hW) (hn7.call hW) x2.1 (by omega) x2.2)
      have HNa5 := hid hn5
      have HMl := hid hM
      obtain ⟨m1, hm1⟩ : ∃ y, y = M1.length := ⟨_, rfl⟩
      obtain ⟨m2, hm2⟩ : ∃ y, y = M2.length := ⟨_, rfl⟩
      obtain ⟨mD, hmD⟩ : ∃ y, y = MD.length := ⟨_, rfl⟩
      have HM1 := hid hm1
      have HM2 := hid hm2
      rw [← hm1, ← hmD] at hS1
      rw [← hm2, ← hmD] at HS2
      rw [← hm1] at e5
      rw [← hm2] at e10
      rw [← hmD] at e7
      subst e5 e7 e10
      clear far3 hn5 hn7 hn10 hM x1 x2 hm1 hm2 hmD hge e hj HG HC HG7 HN4b HN5b HN7 HC7 HC47 HC45 HC56 HC67 HC34 HLl
      go_upto_region 13 with (first
        | (go_at_call 16; go_must (refine hS1.mono ?_; rintro e w9 ⟨rfl, hc9⟩; have HC9 := hid hc9; clear hc9))
        | fail)
      have hS2 := HS2.out w9 HC9.out
      clear hS1 HS2
      go_upto_region 14 with (first
        | (go_at_call 16; go_must (refine hS2.mono ?_; rintro e wa ⟨rfl, hca⟩; have HCa := hid (HC9.out.tr hca); clear hca))
        | fail)
      clear hS2 HC9
      have HCwa := hid (HC8.out.tr HCa.out)
      have HBa := hid (HBt.out.call HCwa.out)
      have HNa : Hid (NO2 wa w3.heap.size (.slice a5 m1 c5) M1) := hid (HN4c.out.call HCa.out)
      have HNb : Hid (NO2 wa w6.heap.size (.slice a10 m2 c10) M2) := hid (HN7c.out.call HCa.out)
      have hall1 := alike_all RL M1 HL4.out
      have hall2 := alike_all RL M2 HL7.out
      have HF1 : Hid (M1.all fitsB = true) := hid (by rw [hall1.1]; exact HOk.out.1)
      have HF2 : Hid (M2.all fitsB = true) := hid (by rw [hall2.1]; exact HOk.out.1)
      have HOw : Hid (∀ W, Chg wa W No → Calls Try.prog 17 #[.slice (some ⟨W.heap.size, 0, none⟩) 2 2] (W.alloc (.cells #[.slice a5 m1 c5, .slice a10 m2 c10] 22)) fun e w' => e = .returned (.bool true) ∧ Below w.heap.size w w') := hid (fun W hW => by
        have hA : Chg W (W.alloc (.cells #[.slice a5 m1 c5, .slice a10 m2 c10] 22)) No := Chg.alloc _ _ No
        have hN1 := (HNa.out.call hW).call hA
        have hN2 := (HNb.out.call hW).call hA
        have hs := HS.out
        have hs8 := HS8.out
        have hsa := (HCa.out.tr hW).size
        have g0l : w6.heap.size ≤ W.heap.size := by omega
        have row : (W.alloc (.cells #[.slice a5 m1 c5, .slice a10 m2 c10] 22)).ownsRow w3.heap.size 22 1 (.slice (some ⟨W.heap.size, 0, none⟩) 2 2) 2 [.slice a5 m1 c5, .slice a10 m2 c10] := ⟨rfl, .inr ⟨W.heap.size, 2, #[.slice a5 m1 c5, .slice a10 m2 c10], rfl, by omega, heap_alloc_new _ _, Nat.le_refl _, by decide, rfl, rfl⟩⟩
        have r1 := hN1.row
        have r2 := ownr_mono hN2.row (show w3.heap.size ≤ w6.heap.size by omega)
        rw [← HM1.out] at r1
        rw [← HM2.out] at r2
        have two : ∀ (x y : Nod) (i j k : Nat), M1[i]? = some x → M2[j]? = some y → (dataV x).ownBlock = some k → (dataV y).ownBlock = some k → False := fun x y i j k hx hy e1 e2 => by
          have h1 := HLt1.out.2 i x k hx e1
          have h2 := ((hN2.own j y hy).blk e2).1
          omega
        have at2 : ∀ (q : Nat) x, (M1 ++ M2)[q]? = some x → (q < M1.length ∧ M1[q]? = some x) ∨ (M1.length ≤ q ∧ M2[q - M1.length]? = some x) := fun q x hx => by
          rcases Nat.lt_or_ge q M1.length with k | k
          · rw [List.getElem?_append_left k] at hx; exact .inl ⟨k, hx⟩
          · rw [List.getElem?_append_right k] at hx; exact .inr ⟨k, hx⟩
        have hfl : [M1, M2].flatten = M1 ++ M2 := by simp
        refine (owned_any w3.heap.size W.heap.size 2 2 [M1, M2] [⟨.slice a5 m1 c5, m1, M1.flatMap rowN⟩, ⟨.slice a10 m2 c10, m2, M2.flatMap rowN⟩] _ (by have := hA.size; omega) rfl (by decide) ⟨row, ?_, ?_⟩ ?_ ?_ ?_ ?_ ?_).mono ?_
        · intro j x hx
          match j, hx with
          | 0, hx => cases hx; exact r1
          | 1, hx => cases hx; exact r2
          | j + 2, hx => simp at hx
        · intro i j x y k hx hy e1 e2
          match i, j, hx, hy with
          | 0, 0, _, _ => rfl
          | 1, 1, _, _ => rfl
          | 0, 1, hx, hy => cases hx; cases hy; exact absurd (HLt1.out.1 k e1) (by have := (hN2.blk e2).1; omega)
          | 1, 0, hx, hy => cases hx; cases hy; exact absurd (HLt1.out.1 k e2) (by have := (hN2.blk e1).1; omega)
          | i + 2, _, hx, _ => simp at hx
          | _, j + 2, _, hy => simp at hy
        · intro i x hx
          match i, hx with
          | 0, hx => cases hx; exact ⟨M1, rfl, HM1.out, rfl⟩
          | 1, hx => cases hx; exact ⟨M2, rfl, HM2.out, rfl⟩
          | i + 2, hx => simp at hx
        · intro q x hx
          rw [hfl] at hx
          rcases at2 q x hx with ⟨_, h1⟩ | ⟨_, h1⟩
          · exact hN1.own q x h1
          · exact (hN2.own _ x h1).lower (by omega)
        · intro i j x y k hx hy e1 e2
          rw [hfl] at hx hy
          rcases at2 i x hx with ⟨l1, h1⟩ | ⟨l1, h1⟩
          · rcases at2 j y hy with ⟨l2, h2⟩ | ⟨l2, h2⟩
            · exact hN1.two i j x y k h1 h2 e1 e2
            · exact (two x y _ _ k h1 h2 e1 e2).elim
          · rcases at2 j y hy with ⟨l2, h2⟩ | ⟨l2, h2⟩
            · exact (two y x _ _ k h2 h1 e2 e1).elim
            · have := hN2.two _ _ x y k h1 h2 e1 e2
              omega
        · rw [hfl, List.length_append]
          have := HMl.out
          omega
        · intro q x hx
          rw [hfl] at hx
          rcases at2 q x hx with ⟨_, h1⟩ | ⟨_, h1⟩
          · have := fits_data HF1.out q x h1; omega
          · have := fits_data HF2.out _ x h1; omega
        · rintro e w' ⟨he, bel⟩
          refine ⟨he, ((HCwa.out.tr hW).tr hA).below.trans (bel.mono ?_)⟩
          have := HgM.out
          omega)
      have HRe := hid HOk.out.2.2
      clear hall1 hall2
      rcases HRe.out with ⟨h0, hfl⟩ | h170
      · subst h0
        have hby := bytes_r M1 a5 c5 wa (HNa5.out.call HCa.out) (fits_i64 HF1.out) (by have := HMl.out; omega)
        have y1 : bytesE M1 = 0 := by unfold bytesE; rw [HF1.out]; rfl
        have y2 : bytesL M1 = zs := by unfold bytesL; rw [HF1.out]; show flatB M1 = zs; rw [(alike_all RL M1 HL4.out).2]; exact hfl
        rw [y1, y2, ← HM1.out] at hby
        have HCv0 := hid (HCv.out)
        clear hfl y1 y2
        go_upto_region 18 with (first
          | (go_at_call 10; go_must (refine hby.mono ?_; rintro e wb ⟨v15, rfl, hbb, hcb⟩; have HBb := hid hbb; have HCb := hid hcb; clear hbb hcb))
          | fail)
        obtain ⟨a15, c15, e15, hb15⟩ := HBb.out.one
        rw [← HN.out] at e15
        subst e15
        have HV1 := hid (HCv.out wb a15 c15 hb15)
        have HV2 := hid (HCv.out wb a cap (HBa.out.call HCb.out))
        have hOw := HOw.out wb HCb.out
        clear hby hb15
        go_wp2_with (first
          | (refine conv_G (by rfl) 29 9 _ rfl _ _ _ rfl HV1.out ?_)
          | (refine conv_G (by rfl) 29 9 _ rfl _ _ _ rfl HV2.out ?_)
          | (go_at_call 17; go_must (refine hOw.mono ?_; rintro e wf ⟨rfl, bel⟩; have HBel := hid bel; clear bel))
          | fail)
        go_ret
        exact ⟨rfl, HBel.out⟩
      · subst h170
        have hOw := HOw.out wa (Chg.refl _ _)
        go_wp2_with (first
          | (go_at_call 17; go_must (refine hOw.mono ?_; rintro e wf ⟨rfl, bel⟩; have HBel := hid bel; clear bel))
          | fail)
        go_ret
        exact ⟨rfl, HBel.out⟩
end Go.Proofs.Ytiakfgplhdbaeaa
