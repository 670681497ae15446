/-
  stand of the statements' teller: is every order kept on the disk as it stands?
-/
import Derived.Test.YtgkanfmkohlmcaaGreatT2
namespace Go.Proofs.YtgkanfmkohlmcaaGreat
open Go.RowKit

/-- Is an order kept on a disk? -/
def okO (S : List Int) (o : Int × Int × Int × Int) : Bool := !(decide (o.2.1 ≤ verS (D.secK S o.1.toNat)) && decide (verS (D.secK S o.2.2.1.toNat) < o.2.2.2))
def standB (s : TSt) : Bool := s.od.all (okO s.z.d.S)
theorem standB_no {s : TSt} {k : Nat} (hk : k < s.od.length) (h : okO s.z.d.S (s.od.getD k (0, 0, 0, 0)) = false) : standB s = false := by
  unfold standB
  rw [Bool.eq_false_iff]
  intro e
  rw [List.all_eq_true] at e
  have := e (s.od.getD k (0, 0, 0, 0)) (by rw [List.getD_eq_getElem?_getD, List.getElem?_eq_getElem hk]; exact List.getElem_mem hk)
  rw [h] at this
  cases this
theorem standB_yes {s : TSt} (h : ∀ k, k < s.od.length → okO s.z.d.S (s.od.getD k (0, 0, 0, 0)) = true) : standB s = true := by
  unfold standB
  rw [List.all_eq_true]
  intro o ho
  obtain ⟨k, hk, rfl⟩ := List.getElem_of_mem ho
  have := h k hk
  rw [List.getD_eq_getElem?_getD, List.getElem?_eq_getElem hk] at this
  exact this
/-- What a disk has are sectors; orders speak of sectors. -/
structure Fit (n : Nat) (s : TSt) : Prop where
  sec : ∀ i, i < n → D.IsSec (D.secK s.z.d.S i)
  rng : ∀ o, o ∈ s.od → (0 ≤ o.1 ∧ o.1 < n) ∧ (0 ≤ o.2.2.1 ∧ o.2.2.1 < n)
theorem Ords.at_ {w : World} {base : Nat} {v : Value} {l : List (Int × Int × Int × Int)} (h : Ords w base v l) : ∃ a ca, v = .slice a l.length ca ∧ ∀ k, k < l.length → ∃ g, a = some ⟨g, 0, none⟩ ∧ g < w.heap.size ∧ w.rangeAt g (k * 4) (oc (l.getD k (0, 0, 0, 0))) := by
  rcases h.2 with ⟨rfl, h0⟩ | ⟨g, cap, cur, rfl, hge, hb, h1, h2, h3, h4⟩
  · exact ⟨none, 0, by rw [h0], fun k hk => absurd hk (by omega)⟩
  · refine ⟨_, cap, rfl, fun k hk => ⟨g, rfl, slt hb, fun j v hj => ?_⟩⟩
    have hj4 : j < 4 := by
      rcases Nat.lt_or_ge j 4 with e | e
      · exact e
      · rw [List.getElem?_eq_none (by simp [oc]; omega)] at hj; cases hj
    rw [cell_of_row _ _ _ _ _ _ hb, ← Array.getElem?_toList]
    have e := congrArg (fun t => t[k * 4 + j]?) h4
    rw [List.getElem?_take_of_lt (by omega), ocs_get l k j hk hj4, hj] at e
    exact e
theorem szO : (Tryz.prog.info? 82).map (·.size) = some 4 := by kernel_rfl
theorem oc_cells {w : World} {b : Nat} {o : Int × Int × Int × Int} (h : w.heap[b]? = some (.cells (oc o).toArray 82 (0, 0))) : w.cell? ⟨b, 0, none⟩ = some (.int .i64 o.1) ∧ w.cell? ⟨b, 1, none⟩ = some (.int .i64 o.2.1) ∧ w.cell? ⟨b, 2, none⟩ = some (.int .i64 o.2.2.1) ∧ w.cell? ⟨b, 3, none⟩ = some (.int .i64 o.2.2.2) := by
  refine ⟨?_, ?_, ?_, ?_⟩ <;> (rw [cell_of_row _ _ _ _ _ _ h]; rfl)
theorem oc_one (o : Int × Int × Int × Int) : (oc o).toArray.all (·.oneCell') = true := by simp [oc, Value.oneCell']

variable {w0 w : World} {t c p g n : Nat} {s : TSt}

set_option maxRecDepth 100000 in
set_option maxHeartbeats 4000000 in
theorem stand_any (h : FT w0 w t c p g n s) (hf : Fit n s) (hm : s.od.length ≤ 1000000000000) : Calls Tryz.prog 54 #[.pointer (some ⟨t, 0, none⟩)] w fun e w' => e = .returned (.bool (standB s)) ∧ FT w0 w' t c p g n s := by
  have HF := hid hf
  obtain ⟨lb, db, ρ, ov, h⟩ := h
  have k0 := h.c0
  obtain ⟨a4, c4, rfl, hov⟩ := h.oa.at_
  have hIC := h.ca
  obtain ⟨gp, mb, go, tv, lv, h0⟩ := hIC
  have HI := D.image_any w h0.dk
  have HLS := hid h0.dk.len
  have hn : n ≤ 4096 := h.ca.inv.top
  have HH := hid (show FT w0 w t c p g n s from ⟨lb, db, ρ, _, h⟩)
  have HT := hid h
  clear h h0 hov hf
  generalize hlen : s.od.length = m at *
  have HLEN := hid hlen
  go_enter Tryz.func54, Tryz.ntmps54
  go_wp2_with (first
    | (go_at_call 26; go_must (refine HI.mono ?_; rintro e w1 ⟨q, rfl, hq, hq1, hb1⟩; have hc1 := Chg.of_below hb1 No; have hT1 := HT.out.call hc1; have k12 := hT1.c2; have H1 := hid (HH.out.call hc1); have HQ1 := hid hq1; have HT1 := hid hT1; clear HI hb1 hc1 hq1 hT1))
    | fail)
  clear k12 k0
  go_loopw [4, 5] (fun i _ wr => ∃ (k : Nat) (wq : World), wq = wr ∧ k ≤ m ∧ i = .int .i64 k ∧ Chg w1 wq No ∧ Hid (∀ j, j < k → okO s.z.d.S (s.od.getD j (0, 0, 0, 0)) = true)) (fun i _ _ => m - (intOf i).toNat)
  case atStart => exact ⟨0, w1, rfl, by omega, rfl, Chg.refl _ _, fun j hj => absurd hj (by omega)⟩
  case round =>
    obtain ⟨k, wA, rfl, hk, rfl, hcA, hall⟩ := hrel
    have hTA := HT1.out.call hcA
    have k4 := hTA.c4
    by_cases hlt : k < m
    · obtain ⟨a5, c5, e5, hov⟩ := hTA.oa.at_
      obtain ⟨g4, rfl, hg4, hr4⟩ := hov k (by rw [HLEN.out]; exact hlt)
      have hrng := HF.out.rng (s.od.getD k (0, 0, 0, 0)) (by rw [List.getD_eq_getElem?_getD, List.getElem?_eq_getElem (by rw [HLEN.out]; exact hlt)]; exact List.getElem_mem _)
      rw [HLEN.out] at e5
      cases e5
      generalize ho : s.od.getD k (0, 0, 0, 0) = o at *
      have HO := hid ho
      have HS1 := hid (HF.out.sec o.1.toNat (by omega))
      have HS2 := hid (HF.out.sec o.2.2.1.toNat (by omega))
      obtain ⟨⟨hr0, hr1⟩, hr2, hr3⟩ := hrng
      have hi0 : (0 : Int) ≤ (k : Int) := by omega
      have hi1 : (k : Int) < (m : Int) := by omega
      have HR4 := hid hr4
      have HQ := hid (heap_alloc_new wA (.cells #[.int .i64 0, .int .i64 0, .int .i64 0, .int .i64 0] 82))
      clear hTA ho hr4 hov
      go_wp2_with (first
        | (refine wpList_load_mid rfl 82 _ rfl g4 (k * 4) rfl (oc o) _ HR4.out Tryz.underlying82 rfl (by rw [szO]; rfl) ?_)
        | (refine D.store_row rfl 82 _ _ rfl wA.heap.size rfl (oc o).toArray rfl _ HQ.out (by rw [szO]; rfl) rfl (oc_one o) ?_; intro w5 hw5; have HB5 := hid hw5.here; have HC5 := hid (hcA.tr ((Chg.alloc wA (.cells #[.int .i64 0, .int .i64 0, .int .i64 0, .int .i64 0] 82) No).trans (put_chg hw5) (c := No) (fun _ _ e => e) (fun j hj e => by omega))); clear hw5)
        | fail)
      have HQ5 := hid (HC5.out.keep HQ1.out (fun e => e))
      cases hB1 : decide (o.2.1 ≤ verS (D.secK s.z.d.S o.1.toNat)) with
      | false =>
        have HOK : Hid (okO s.z.d.S o = true) := by show _ = _; unfold okO; rw [hB1]; rfl
        have HB1 := hid hB1
        clear hB1 k4
        refine wp_region_noPanic ?_
        refine wp_region_held_drew (S := fun w' => w'.heap[wA.heap.size]? = some (.cells (oc o).toArray 82 (0, 0)) ∧ w'.heap[q]? = some (.cells (D.SA s.z.d.S) 46 (0, 0))) (by kernel_rfl) ⟨HB5.out, HQ5.out⟩ (fun hHeld => ?_)
        dsimp only [Act.put]
        refine takeVal 0 35 (.slice (some ⟨q, 0, none⟩) n n) rfl (by kernel_rfl) (by kernel_rfl) (by kernel_rfl) rfl (by rfl) (fun _ _ _ h => h) hHeld (fun _ hw' => rfl) ?_
        simp only [List.setIfInBounds_toArray, List.set_cons_zero, List.set_cons_succ]
        refine takeVal 1 36 (.pointer (some ⟨wA.heap.size, 0, none⟩)) rfl (by kernel_rfl) (by kernel_rfl) (by kernel_rfl) rfl (by rfl) (fun _ _ _ h => h) hHeld (fun _ hw' => by go_simp) ?_
        simp only [List.setIfInBounds_toArray, List.set_cons_zero, List.set_cons_succ]
        refine takeVal 2 37 (.int .i64 o.1) rfl (by kernel_rfl) (by kernel_rfl) (by kernel_rfl) rfl (by rfl) (fun _ _ _ h => h) hHeld (fun _ hw' => by have hq' := (oc_cells hw'.1).1; go_simp) ?_
        simp only [List.setIfInBounds_toArray, List.set_cons_zero, List.set_cons_succ]
        refine takeVal 3 38 (.pointer (some ⟨q, o.1.toNat * 128, none⟩)) rfl (by kernel_rfl) (by kernel_rfl) (by kernel_rfl) rfl (by rfl) (fun _ _ _ h => h) hHeld (fun _ hw' => by go_simp) ?_
        simp only [List.setIfInBounds_toArray, List.set_cons_zero, List.set_cons_succ]
        refine D.takeMidS 4 39 (.tmp 38) q (o.1.toNat * 128) (D.secK s.z.d.S o.1.toNat) (HS1.out.1) rfl (by kernel_rfl) (by kernel_rfl) (by kernel_rfl) rfl rfl rfl (by rfl) (fun _ _ _ h => h) hHeld (fun _ hw' => D.row_sec hw'.2 HLS.out (by omega)) ?_
        simp only [List.setIfInBounds_toArray, List.set_cons_zero, List.set_cons_succ]
        refine takeVal 6 41 (.pointer (some ⟨wA.heap.size, 1, none⟩)) rfl (by kernel_rfl) (by kernel_rfl) (by kernel_rfl) rfl (by rfl) (fun _ _ _ h => h) hHeld (fun _ hw' => by go_simp) ?_
        simp only [List.setIfInBounds_toArray, List.set_cons_zero, List.set_cons_succ]
        refine takeVal 7 42 (.int .i64 o.2.1) rfl (by kernel_rfl) (by kernel_rfl) (by kernel_rfl) rfl (by rfl) (fun _ _ _ h => h) hHeld (fun _ hw' => by have hq' := (oc_cells hw'.1).2.1; go_simp) ?_
        simp only [List.setIfInBounds_toArray, List.set_cons_zero, List.set_cons_succ]
        refine step1 5 (by kernel_rfl) ?_
        refine stCall 5 40 38 #[.agg (D.SA (D.secK s.z.d.S o.1.toNat))] _ rfl rfl (by rfl) (by go_simp) (version_any _ HS1.out _) ?_
        rintro e w8 ⟨rfl, hcw8⟩
        have hHeld : w8.heap[wA.heap.size]? = some (.cells (oc o).toArray 82 (0, 0)) ∧ w8.heap[q]? = some (.cells (D.SA s.z.d.S) 46 (0, 0)) := ⟨hcw8.keep hHeld.1 (fun e => e), hcw8.keep hHeld.2 (fun e => e)⟩
        refine ⟨_, rfl, hHeld, ?_⟩
        simp only [List.setIfInBounds_toArray, List.set_cons_zero, List.set_cons_succ]
        refine takeVal 8 43 (.bool false) rfl (by kernel_rfl) (by kernel_rfl) (by kernel_rfl) rfl (by rfl) (fun _ _ _ h => h) hHeld (fun _ hw' => by have hq := HB1.out; go_simp) ?_
        simp only [List.setIfInBounds_toArray, List.set_cons_zero, List.set_cons_succ]
        refine takeVal 9 44 (.bool false) rfl (by kernel_rfl) (by kernel_rfl) (by kernel_rfl) rfl (by rfl) (fun _ _ _ h => h) hHeld (fun _ hw' => rfl) ?_
        simp only [List.setIfInBounds_toArray, List.set_cons_zero, List.set_cons_succ]
        refine takeNot 10 45 rfl (by kernel_rfl) (by kernel_rfl) (by kernel_rfl) rfl (by rfl) (fun _ _ _ h => h) hHeld ?_
        simp only [List.setIfInBounds_toArray, List.set_cons_zero, List.set_cons_succ]
        refine takeNot 11 46 rfl (by kernel_rfl) (by kernel_rfl) (by kernel_rfl) rfl (by rfl) (fun _ _ _ h => h) hHeld ?_
        simp only [List.setIfInBounds_toArray, List.set_cons_zero, List.set_cons_succ]
        refine takeNot 12 47 rfl (by kernel_rfl) (by kernel_rfl) (by kernel_rfl) rfl (by rfl) (fun _ _ _ h => h) hHeld ?_
        simp only [List.setIfInBounds_toArray, List.set_cons_zero, List.set_cons_succ]
        refine takeNot 13 48 rfl (by kernel_rfl) (by kernel_rfl) (by kernel_rfl) rfl (by rfl) (fun _ _ _ h => h) hHeld ?_
        simp only [List.setIfInBounds_toArray, List.set_cons_zero, List.set_cons_succ]
        refine takeNot 14 49 rfl (by kernel_rfl) (by kernel_rfl) (by kernel_rfl) rfl (by rfl) (fun _ _ _ h => h) hHeld ?_
        simp only [List.setIfInBounds_toArray, List.set_cons_zero, List.set_cons_succ]
        refine takeNot 16 51 rfl (by kernel_rfl) (by kernel_rfl) (by kernel_rfl) rfl (by rfl) (fun _ _ _ h => h) hHeld ?_
        simp only [List.setIfInBounds_toArray, List.set_cons_zero, List.set_cons_succ]
        refine takeNot 17 52 rfl (by kernel_rfl) (by kernel_rfl) (by kernel_rfl) rfl (by rfl) (fun _ _ _ h => h) hHeld ?_
        simp only [List.setIfInBounds_toArray, List.set_cons_zero, List.set_cons_succ]
        refine takeNot 15 50 rfl (by kernel_rfl) (by kernel_rfl) (by kernel_rfl) rfl (by rfl) (fun _ _ _ h => h) hHeld ?_
        simp only [List.setIfInBounds_toArray, List.set_cons_zero, List.set_cons_succ]
        refine takeNot 18 53 rfl (by kernel_rfl) (by kernel_rfl) (by kernel_rfl) rfl (by rfl) (fun _ _ _ h => h) hHeld ?_
        simp only [List.setIfInBounds_toArray, List.set_cons_zero, List.set_cons_succ]
        refine takeVal 19 54 (.bool false) rfl (by kernel_rfl) (by kernel_rfl) (by kernel_rfl) rfl (by rfl) (fun _ _ _ h => h) hHeld (fun _ hw' => rfl) ?_
        simp only [List.setIfInBounds_toArray, List.set_cons_zero, List.set_cons_succ]
        refine wpAnyH_done (by kernel_rfl) ?_ _
        refine NoPanic.normal ?_
        go_wp2_with fail
        refine ⟨⟨k + 1, _, rfl, by omega, by go_num, (HC5.out.tr (Chg.refl w5 No).drew).tr hcw8, fun j hj => ?_⟩, by simp [intOf]; omega⟩
        by_cases e : j = k
        · subst e
          rw [HO.out]
          exact HOK.out
        · exact hall.out j (by omega)
      | true =>
        have HB1 := hid hB1
        cases hB2 : decide (verS (D.secK s.z.d.S o.2.2.1.toNat) < o.2.2.2) with
        | false =>
        have HOK : Hid (okO s.z.d.S o = true) := by show _ = _; unfold okO; rw [hB1, hB2]; rfl
        have HB2 := hid hB2
        clear hB1 hB2 k4
        refine wp_region_noPanic ?_
        refine wp_region_held_drew (S := fun w' => w'.heap[wA.heap.size]? = some (.cells (oc o).toArray 82 (0, 0)) ∧ w'.heap[q]? = some (.cells (D.SA s.z.d.S) 46 (0, 0))) (by kernel_rfl) ⟨HB5.out, HQ5.out⟩ (fun hHeld => ?_)
        dsimp only [Act.put]
        refine takeVal 0 35 (.slice (some ⟨q, 0, none⟩) n n) rfl (by kernel_rfl) (by kernel_rfl) (by kernel_rfl) rfl (by rfl) (fun _ _ _ h => h) hHeld (fun _ hw' => rfl) ?_
        simp only [List.setIfInBounds_toArray, List.set_cons_zero, List.set_cons_succ]
        refine takeVal 1 36 (.pointer (some ⟨wA.heap.size, 0, none⟩)) rfl (by kernel_rfl) (by kernel_rfl) (by kernel_rfl) rfl (by rfl) (fun _ _ _ h => h) hHeld (fun _ hw' => by go_simp) ?_
        simp only [List.setIfInBounds_toArray, List.set_cons_zero, List.set_cons_succ]
        refine takeVal 2 37 (.int .i64 o.1) rfl (by kernel_rfl) (by kernel_rfl) (by kernel_rfl) rfl (by rfl) (fun _ _ _ h => h) hHeld (fun _ hw' => by have hq' := (oc_cells hw'.1).1; go_simp) ?_
        simp only [List.setIfInBounds_toArray, List.set_cons_zero, List.set_cons_succ]
        refine takeVal 3 38 (.pointer (some ⟨q, o.1.toNat * 128, none⟩)) rfl (by kernel_rfl) (by kernel_rfl) (by kernel_rfl) rfl (by rfl) (fun _ _ _ h => h) hHeld (fun _ hw' => by go_simp) ?_
        simp only [List.setIfInBounds_toArray, List.set_cons_zero, List.set_cons_succ]
        refine D.takeMidS 4 39 (.tmp 38) q (o.1.toNat * 128) (D.secK s.z.d.S o.1.toNat) (HS1.out.1) rfl (by kernel_rfl) (by kernel_rfl) (by kernel_rfl) rfl rfl rfl (by rfl) (fun _ _ _ h => h) hHeld (fun _ hw' => D.row_sec hw'.2 HLS.out (by omega)) ?_
        simp only [List.setIfInBounds_toArray, List.set_cons_zero, List.set_cons_succ]
        refine takeVal 6 41 (.pointer (some ⟨wA.heap.size, 1, none⟩)) rfl (by kernel_rfl) (by kernel_rfl) (by kernel_rfl) rfl (by rfl) (fun _ _ _ h => h) hHeld (fun _ hw' => by go_simp) ?_
        simp only [List.setIfInBounds_toArray, List.set_cons_zero, List.set_cons_succ]
        refine takeVal 7 42 (.int .i64 o.2.1) rfl (by kernel_rfl) (by kernel_rfl) (by kernel_rfl) rfl (by rfl) (fun _ _ _ h => h) hHeld (fun _ hw' => by have hq' := (oc_cells hw'.1).2.1; go_simp) ?_
        simp only [List.setIfInBounds_toArray, List.set_cons_zero, List.set_cons_succ]
        refine step1 5 (by kernel_rfl) ?_
        refine stCall 5 40 38 #[.agg (D.SA (D.secK s.z.d.S o.1.toNat))] _ rfl rfl (by rfl) (by go_simp) (version_any _ HS1.out _) ?_
        rintro e w8 ⟨rfl, hcw8⟩
        have hHeld : w8.heap[wA.heap.size]? = some (.cells (oc o).toArray 82 (0, 0)) ∧ w8.heap[q]? = some (.cells (D.SA s.z.d.S) 46 (0, 0)) := ⟨hcw8.keep hHeld.1 (fun e => e), hcw8.keep hHeld.2 (fun e => e)⟩
        refine ⟨_, rfl, hHeld, ?_⟩
        simp only [List.setIfInBounds_toArray, List.set_cons_zero, List.set_cons_succ]
        refine takeVal 8 43 (.bool true) rfl (by kernel_rfl) (by kernel_rfl) (by kernel_rfl) rfl (by rfl) (fun _ _ _ h => h) hHeld (fun _ hw' => by have hq := HB1.out; go_simp) ?_
        simp only [List.setIfInBounds_toArray, List.set_cons_zero, List.set_cons_succ]
        refine takeVal 9 44 (.bool true) rfl (by kernel_rfl) (by kernel_rfl) (by kernel_rfl) rfl (by rfl) (fun _ _ _ h => h) hHeld (fun _ hw' => rfl) ?_
        simp only [List.setIfInBounds_toArray, List.set_cons_zero, List.set_cons_succ]
        refine takeVal 10 45 (.slice (some ⟨q, 0, none⟩) n n) rfl (by kernel_rfl) (by kernel_rfl) (by kernel_rfl) rfl (by rfl) (fun _ _ _ h => h) hHeld (fun _ hw' => rfl) ?_
        simp only [List.setIfInBounds_toArray, List.set_cons_zero, List.set_cons_succ]
        refine takeVal 11 46 (.pointer (some ⟨wA.heap.size, 2, none⟩)) rfl (by kernel_rfl) (by kernel_rfl) (by kernel_rfl) rfl (by rfl) (fun _ _ _ h => h) hHeld (fun _ hw' => by go_simp) ?_
        simp only [List.setIfInBounds_toArray, List.set_cons_zero, List.set_cons_succ]
        refine takeVal 12 47 (.int .i64 o.2.2.1) rfl (by kernel_rfl) (by kernel_rfl) (by kernel_rfl) rfl (by rfl) (fun _ _ _ h => h) hHeld (fun _ hw' => by have hq' := (oc_cells hw'.1).2.2.1; go_simp) ?_
        simp only [List.setIfInBounds_toArray, List.set_cons_zero, List.set_cons_succ]
        refine takeVal 13 48 (.pointer (some ⟨q, o.2.2.1.toNat * 128, none⟩)) rfl (by kernel_rfl) (by kernel_rfl) (by kernel_rfl) rfl (by rfl) (fun _ _ _ h => h) hHeld (fun _ hw' => by go_simp) ?_
        simp only [List.setIfInBounds_toArray, List.set_cons_zero, List.set_cons_succ]
        refine D.takeMidS 14 49 (.tmp 48) q (o.2.2.1.toNat * 128) (D.secK s.z.d.S o.2.2.1.toNat) (HS2.out.1) rfl (by kernel_rfl) (by kernel_rfl) (by kernel_rfl) rfl rfl rfl (by rfl) (fun _ _ _ h => h) hHeld (fun _ hw' => D.row_sec hw'.2 HLS.out (by omega)) ?_
        simp only [List.setIfInBounds_toArray, List.set_cons_zero, List.set_cons_succ]
        refine takeVal 16 51 (.pointer (some ⟨wA.heap.size, 3, none⟩)) rfl (by kernel_rfl) (by kernel_rfl) (by kernel_rfl) rfl (by rfl) (fun _ _ _ h => h) hHeld (fun _ hw' => by go_simp) ?_
        simp only [List.setIfInBounds_toArray, List.set_cons_zero, List.set_cons_succ]
        refine takeVal 17 52 (.int .i64 o.2.2.2) rfl (by kernel_rfl) (by kernel_rfl) (by kernel_rfl) rfl (by rfl) (fun _ _ _ h => h) hHeld (fun _ hw' => by have hq' := (oc_cells hw'.1).2.2.2; go_simp) ?_
        simp only [List.setIfInBounds_toArray, List.set_cons_zero, List.set_cons_succ]
        refine step1 15 (by kernel_rfl) ?_
        refine stCall 15 50 38 #[.agg (D.SA (D.secK s.z.d.S o.2.2.1.toNat))] _ rfl rfl (by rfl) (by go_simp) (version_any _ HS2.out _) ?_
        rintro e w9 ⟨rfl, hcw9⟩
        have hHeld : w9.heap[wA.heap.size]? = some (.cells (oc o).toArray 82 (0, 0)) ∧ w9.heap[q]? = some (.cells (D.SA s.z.d.S) 46 (0, 0)) := ⟨hcw9.keep hHeld.1 (fun e => e), hcw9.keep hHeld.2 (fun e => e)⟩
        refine ⟨_, rfl, hHeld, ?_⟩
        simp only [List.setIfInBounds_toArray, List.set_cons_zero, List.set_cons_succ]
        refine takeVal 18 53 (.bool false) rfl (by kernel_rfl) (by kernel_rfl) (by kernel_rfl) rfl (by rfl) (fun _ _ _ h => h) hHeld (fun _ hw' => by have hq := HB2.out; go_simp) ?_
        simp only [List.setIfInBounds_toArray, List.set_cons_zero, List.set_cons_succ]
        refine takeVal 19 54 (.bool false) rfl (by kernel_rfl) (by kernel_rfl) (by kernel_rfl) rfl (by rfl) (fun _ _ _ h => h) hHeld (fun _ hw' => rfl) ?_
        simp only [List.setIfInBounds_toArray, List.set_cons_zero, List.set_cons_succ]
        refine wpAnyH_done (by kernel_rfl) ?_ _
        refine NoPanic.normal ?_
        go_wp2_with fail
        refine ⟨⟨k + 1, _, rfl, by omega, by go_num, ((HC5.out.tr (Chg.refl w5 No).drew).tr hcw8).tr hcw9, fun j hj => ?_⟩, by simp [intOf]; omega⟩
        by_cases e : j = k
        · subst e
          rw [HO.out]
          exact HOK.out
        · exact hall.out j (by omega)
        | true =>
        have HOK : Hid (okO s.z.d.S o = false) := by show _ = _; unfold okO; rw [hB1, hB2]; rfl
        have HB2 := hid hB2
        clear hB1 hB2 k4
        refine wp_region_noPanic ?_
        refine wp_region_held_drew (S := fun w' => w'.heap[wA.heap.size]? = some (.cells (oc o).toArray 82 (0, 0)) ∧ w'.heap[q]? = some (.cells (D.SA s.z.d.S) 46 (0, 0))) (by kernel_rfl) ⟨HB5.out, HQ5.out⟩ (fun hHeld => ?_)
        dsimp only [Act.put]
        refine takeVal 0 35 (.slice (some ⟨q, 0, none⟩) n n) rfl (by kernel_rfl) (by kernel_rfl) (by kernel_rfl) rfl (by rfl) (fun _ _ _ h => h) hHeld (fun _ hw' => rfl) ?_
        simp only [List.setIfInBounds_toArray, List.set_cons_zero, List.set_cons_succ]
        refine takeVal 1 36 (.pointer (some ⟨wA.heap.size, 0, none⟩)) rfl (by kernel_rfl) (by kernel_rfl) (by kernel_rfl) rfl (by rfl) (fun _ _ _ h => h) hHeld (fun _ hw' => by go_simp) ?_
        simp only [List.setIfInBounds_toArray, List.set_cons_zero, List.set_cons_succ]
        refine takeVal 2 37 (.int .i64 o.1) rfl (by kernel_rfl) (by kernel_rfl) (by kernel_rfl) rfl (by rfl) (fun _ _ _ h => h) hHeld (fun _ hw' => by have hq' := (oc_cells hw'.1).1; go_simp) ?_
        simp only [List.setIfInBounds_toArray, List.set_cons_zero, List.set_cons_succ]
        refine takeVal 3 38 (.pointer (some ⟨q, o.1.toNat * 128, none⟩)) rfl (by kernel_rfl) (by kernel_rfl) (by kernel_rfl) rfl (by rfl) (fun _ _ _ h => h) hHeld (fun _ hw' => by go_simp) ?_
        simp only [List.setIfInBounds_toArray, List.set_cons_zero, List.set_cons_succ]
        refine D.takeMidS 4 39 (.tmp 38) q (o.1.toNat * 128) (D.secK s.z.d.S o.1.toNat) (HS1.out.1) rfl (by kernel_rfl) (by kernel_rfl) (by kernel_rfl) rfl rfl rfl (by rfl) (fun _ _ _ h => h) hHeld (fun _ hw' => D.row_sec hw'.2 HLS.out (by omega)) ?_
        simp only [List.setIfInBounds_toArray, List.set_cons_zero, List.set_cons_succ]
        refine takeVal 6 41 (.pointer (some ⟨wA.heap.size, 1, none⟩)) rfl (by kernel_rfl) (by kernel_rfl) (by kernel_rfl) rfl (by rfl) (fun _ _ _ h => h) hHeld (fun _ hw' => by go_simp) ?_
        simp only [List.setIfInBounds_toArray, List.set_cons_zero, List.set_cons_succ]
        refine takeVal 7 42 (.int .i64 o.2.1) rfl (by kernel_rfl) (by kernel_rfl) (by kernel_rfl) rfl (by rfl) (fun _ _ _ h => h) hHeld (fun _ hw' => by have hq' := (oc_cells hw'.1).2.1; go_simp) ?_
        simp only [List.setIfInBounds_toArray, List.set_cons_zero, List.set_cons_succ]
        refine step1 5 (by kernel_rfl) ?_
        refine stCall 5 40 38 #[.agg (D.SA (D.secK s.z.d.S o.1.toNat))] _ rfl rfl (by rfl) (by go_simp) (version_any _ HS1.out _) ?_
        rintro e w8 ⟨rfl, hcw8⟩
        have hHeld : w8.heap[wA.heap.size]? = some (.cells (oc o).toArray 82 (0, 0)) ∧ w8.heap[q]? = some (.cells (D.SA s.z.d.S) 46 (0, 0)) := ⟨hcw8.keep hHeld.1 (fun e => e), hcw8.keep hHeld.2 (fun e => e)⟩
        refine ⟨_, rfl, hHeld, ?_⟩
        simp only [List.setIfInBounds_toArray, List.set_cons_zero, List.set_cons_succ]
        refine takeVal 8 43 (.bool true) rfl (by kernel_rfl) (by kernel_rfl) (by kernel_rfl) rfl (by rfl) (fun _ _ _ h => h) hHeld (fun _ hw' => by have hq := HB1.out; go_simp) ?_
        simp only [List.setIfInBounds_toArray, List.set_cons_zero, List.set_cons_succ]
        refine takeVal 9 44 (.bool true) rfl (by kernel_rfl) (by kernel_rfl) (by kernel_rfl) rfl (by rfl) (fun _ _ _ h => h) hHeld (fun _ hw' => rfl) ?_
        simp only [List.setIfInBounds_toArray, List.set_cons_zero, List.set_cons_succ]
        refine takeVal 10 45 (.slice (some ⟨q, 0, none⟩) n n) rfl (by kernel_rfl) (by kernel_rfl) (by kernel_rfl) rfl (by rfl) (fun _ _ _ h => h) hHeld (fun _ hw' => rfl) ?_
        simp only [List.setIfInBounds_toArray, List.set_cons_zero, List.set_cons_succ]
        refine takeVal 11 46 (.pointer (some ⟨wA.heap.size, 2, none⟩)) rfl (by kernel_rfl) (by kernel_rfl) (by kernel_rfl) rfl (by rfl) (fun _ _ _ h => h) hHeld (fun _ hw' => by go_simp) ?_
        simp only [List.setIfInBounds_toArray, List.set_cons_zero, List.set_cons_succ]
        refine takeVal 12 47 (.int .i64 o.2.2.1) rfl (by kernel_rfl) (by kernel_rfl) (by kernel_rfl) rfl (by rfl) (fun _ _ _ h => h) hHeld (fun _ hw' => by have hq' := (oc_cells hw'.1).2.2.1; go_simp) ?_
        simp only [List.setIfInBounds_toArray, List.set_cons_zero, List.set_cons_succ]
        refine takeVal 13 48 (.pointer (some ⟨q, o.2.2.1.toNat * 128, none⟩)) rfl (by kernel_rfl) (by kernel_rfl) (by kernel_rfl) rfl (by rfl) (fun _ _ _ h => h) hHeld (fun _ hw' => by go_simp) ?_
        simp only [List.setIfInBounds_toArray, List.set_cons_zero, List.set_cons_succ]
        refine D.takeMidS 14 49 (.tmp 48) q (o.2.2.1.toNat * 128) (D.secK s.z.d.S o.2.2.1.toNat) (HS2.out.1) rfl (by kernel_rfl) (by kernel_rfl) (by kernel_rfl) rfl rfl rfl (by rfl) (fun _ _ _ h => h) hHeld (fun _ hw' => D.row_sec hw'.2 HLS.out (by omega)) ?_
        simp only [List.setIfInBounds_toArray, List.set_cons_zero, List.set_cons_succ]
        refine takeVal 16 51 (.pointer (some ⟨wA.heap.size, 3, none⟩)) rfl (by kernel_rfl) (by kernel_rfl) (by kernel_rfl) rfl (by rfl) (fun _ _ _ h => h) hHeld (fun _ hw' => by go_simp) ?_
        simp only [List.setIfInBounds_toArray, List.set_cons_zero, List.set_cons_succ]
        refine takeVal 17 52 (.int .i64 o.2.2.2) rfl (by kernel_rfl) (by kernel_rfl) (by kernel_rfl) rfl (by rfl) (fun _ _ _ h => h) hHeld (fun _ hw' => by have hq' := (oc_cells hw'.1).2.2.2; go_simp) ?_
        simp only [List.setIfInBounds_toArray, List.set_cons_zero, List.set_cons_succ]
        refine step1 15 (by kernel_rfl) ?_
        refine stCall 15 50 38 #[.agg (D.SA (D.secK s.z.d.S o.2.2.1.toNat))] _ rfl rfl (by rfl) (by go_simp) (version_any _ HS2.out _) ?_
        rintro e w9 ⟨rfl, hcw9⟩
        have hHeld : w9.heap[wA.heap.size]? = some (.cells (oc o).toArray 82 (0, 0)) ∧ w9.heap[q]? = some (.cells (D.SA s.z.d.S) 46 (0, 0)) := ⟨hcw9.keep hHeld.1 (fun e => e), hcw9.keep hHeld.2 (fun e => e)⟩
        refine ⟨_, rfl, hHeld, ?_⟩
        simp only [List.setIfInBounds_toArray, List.set_cons_zero, List.set_cons_succ]
        refine takeVal 18 53 (.bool true) rfl (by kernel_rfl) (by kernel_rfl) (by kernel_rfl) rfl (by rfl) (fun _ _ _ h => h) hHeld (fun _ hw' => by have hq := HB2.out; go_simp) ?_
        simp only [List.setIfInBounds_toArray, List.set_cons_zero, List.set_cons_succ]
        refine takeVal 19 54 (.bool true) rfl (by kernel_rfl) (by kernel_rfl) (by kernel_rfl) rfl (by rfl) (fun _ _ _ h => h) hHeld (fun _ hw' => rfl) ?_
        simp only [List.setIfInBounds_toArray, List.set_cons_zero, List.set_cons_succ]
        refine wpAnyH_done (by kernel_rfl) ?_ _
        refine NoPanic.normal ?_
        go_wp2_with fail
        go_ret
        refine ⟨ret_bool (standB_no (k := k) (by omega) (by rw [HO.out]; exact HOK.out)).symm, ?_⟩
        exact H1.out.call (((HC5.out.tr (Chg.refl w5 No).drew).tr hcw8).tr hcw9)
    · have HR := hid (standB_yes (s := s) (fun j hj => hall.out j (by omega)))
      clear hTA
      go_wp2_with fail
      go_ret
      exact ⟨ret_bool HR.out.symm, H1.out.call hcA⟩

end Go.Proofs.YtgkanfmkohlmcaaGreat
