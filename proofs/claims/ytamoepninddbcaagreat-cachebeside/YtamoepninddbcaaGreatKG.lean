/-
  The document's cache: Stands, Read.
-/
import Derived.Test.YtamoepninddbcaaGreatKF
namespace Go.Proofs.YtamoepninddbcaaGreat
open Go.RowKit

/-- Stands of the document's cache. -/
def rstC (n : Nat) (z : CSt) (x : Int) : CSt × List Int × Int :=
  if okN n x = true then (hearC z (D.refE z.d n x), D.readS z.d n x, D.refE z.d n x) else (z, D.Zs, 40)
theorem rstC_is {n : Nat} {z : CSt} {x : Int} (h : z.lost = true → z.d.dn = true) : rstC n z x = standC n z x := by
  unfold rstC standC
  by_cases hx : okN n x = true
  · rw [if_pos hx]
    obtain ⟨h0, h1⟩ := okN_iff.1 hx
    rw [refC_one h0 h1]
    by_cases hl : z.lost = true
    · have hr : D.refE z.d n x = 22 := by unfold D.refE; rw [if_pos (h hl)]
      rw [if_pos hl, if_neg (by decide), hr]
      have hs : D.readS z.d n x = D.Zs := by unfold D.readS; rw [hr, if_neg (by decide)]
      rw [hs]
      unfold hearC
      rw [if_pos rfl, ← hl]
    · rw [if_neg hl, if_pos rfl]
  · have hr : refC n z [x] = 40 := refC_bad (k := 0) (by simp) (by simpa using hx)
    rw [if_neg hx, hr, if_neg (by decide)]
section
variable {r rd n : Nat} {ρ : Nat → Option RRole} {z : CSt}
theorem sec_rangeK {W : World} {g : Nat} {s : List Int} {t : TypeId} (h : W.heap[g]? = some (.cells (D.SA s) t (0, 0))) : W.rangeAt g 0 (s.map (Value.int .u8)) := by
  intro j x hj
  rw [cell_of_row _ _ _ _ _ _ h, Nat.zero_add]
  simp only [D.SA, List.getElem?_toArray]
  exact hj
theorem chg_wrote {w w' : World} {g : Nat} {s : List Int} (h : D.Wrote w g s w') : Chg w w' (· = g) := ⟨h.os, h.tape, h.output, Nat.le_of_eq h.size.symm, fun k _ hn => h.other k hn⟩
theorem readS_len {w : World} {rk rc : Nat} {X : Array Value} (h : D.IsQ w rd rk n rc X z.d) (x : Int) : (D.readS z.d n x).length = 128 := by
  unfold D.readS
  by_cases he : D.refE z.d n x = 0
  · rw [if_pos he]
    have := D.refE_zero he
    exact D.secK_len h.len (by omega)
  · rw [if_neg he]; exact D.Zs_len
set_option maxHeartbeats 4000000 in
set_option maxRecDepth 100000 in
theorem rstands_any (x : Int) (w : World) (h : IsRC w r rd n ρ z) : Calls Tryz.prog 82 #[.pointer (some ⟨r, 0, none⟩), .int .i64 x] w fun e w' => e = .returned (.tuple #[.agg (D.SA (rstC n z x).2.1), .int .i64 (rstC n z x).2.2]) ∧ IsRC w' r rd n ρ (rstC n z x).1 ∧ Chg w w' (· = r) := by
  have hzs := D.zero_sec
  have hbz := D.build_sec
  have HH := hid h
  have hr0 : r < w.heap.size := by obtain ⟨_, _, _, _, _, _, _, _, h⟩ := h; exact h.lt _ _ h.rm
  have HRs := hid hr0
  obtain ⟨w1, hw1⟩ : ∃ y, y = w.alloc (.cells (D.SA D.Zs) 47) := ⟨_, rfl⟩
  have hc1 : Chg w w1 No := by rw [hw1]; exact Chg.alloc _ _ _
  have hT := rthere_any x w1 (h.call hc1)
  have h0 : w1.heap[w.heap.size]? = some (.cells (D.SA D.Zs) 47 (0, 0)) := by rw [hw1]; exact heap_alloc_new _ _
  have HC1 := hid hc1
  have HN := hid h0
  have hS1 : w1.heap.size = w.heap.size + 1 := by rw [hw1]; simp
  by_cases hx : okN n x = true
  · have e : rstC n z x = (hearC z (D.refE z.d n x), D.readS z.d n x, D.refE z.d n x) := by unfold rstC; rw [if_pos hx]
    rw [e]
    rw [hx] at hT
    obtain ⟨rk, rc, X, v0, v1, lv, tv, W, hA⟩ := h.call hc1
    have k0 := hA.c0
    have HRd := D.rread_any x w1 hA.dk
    have hlen := readS_len hA.dk x
    clear h e hx hA h0 hr0
    generalize D.readS z.d n x = s at *
    generalize D.refE z.d n x = e0 at *
    subst hw1
    go_enter Tryz.func82, Tryz.ntmps82
    go_wp2_with (first
      | (go_at_call 71; go_must (refine hT.mono ?_; rintro e w1 ⟨rfl, hw⟩; have hw := hw.symm; subst hw))
      | (go_at_call 107; go_must (refine HRd.mono ?_; rintro e w2 ⟨rfl, hb2⟩; have hc2 := Chg.of_below hb2 No; have HQ2 := hid (hc2.keep HN.out (fun e => e)); have HC2 := hid hc2; clear HRd hb2 hc2))
      | (refine D.store_sec rfl _ _ rfl w2.heap.size rfl s rfl hlen D.Zs D.Zs_len (heap_alloc_new _ _) ?_; intro w3 hw3; have HW3 := hid hw3; clear hw3)
      | fail)
    have hg2 : w.heap.size < w2.heap.size := Nat.lt_of_lt_of_le (by rw [hS1]; omega) HC2.out.size
    have hcA : Chg w (w2.alloc (.cells (D.SA D.Zs) 47)) No := (HC1.out.tr HC2.out).tr (Chg.alloc _ _ _)
    have hc3 : Chg w w3 No := hcA.trans (chg_wrote HW3.out) (fun _ _ e => e) (fun j hj e => by omega)
    have hQ3 : w3.heap[w.heap.size]? = some (.cells (D.SA D.Zs) 47 (0, 0)) := (HW3.out.other _ (by omega)).trans ((heap_alloc_if .. ).trans (by rw [if_neg (by omega)]; exact HQ2.out))
    have hr3 : w.heap.size < w3.heap.size := by rw [HW3.out.size, World.size_alloc]; omega
    have HS3 := hid (HW3.out.here)
    have HH3 := hid (HH.out.call hc3)
    have HQ3 := hid hQ3
    have HC3 := hid hc3
    have HG3 := hid hr3
    have HG2 := hid hg2
    clear hg2 hcA hc3 hQ3 hr3 hT HC1 HN hS1 k0 HQ2 HC2 HW3 hc1
    refine wp_region_noPanic ?_
    refine wp_region_held_drew (S := fun W => Chg w3 W (fun k => k = r ∨ k = w.heap.size)) (by kernel_rfl) (Chg.refl w3 _).drew (fun hHeld => ?_)
    refine D.takeMidS 0 22 (.tmp 6) (w2.heap.size) 0 s hlen rfl (by kernel_rfl) (by kernel_rfl) (by kernel_rfl) rfl rfl rfl (by rfl) (fun _ _ _ h => h) hHeld (fun _ hw' => sec_rangeK (hw'.keep HS3.out (fun e => by rcases e with e | e; have := HRs.out; have := HG2.out; omega; have := HG2.out; omega))) ?_
    simp only [List.setIfInBounds_toArray, List.set_cons_zero, List.set_cons_succ]
    refine takeVal 1 23 (.pointer (some ⟨r, 0, none⟩)) rfl (by kernel_rfl) (by kernel_rfl) (by kernel_rfl) rfl (by rfl) (fun _ _ _ h => h) hHeld (fun _ hw' => rfl) ?_
    simp only [List.setIfInBounds_toArray, List.set_cons_zero, List.set_cons_succ]
    refine takeVal 2 24 (.int .i64 e0) rfl (by kernel_rfl) (by kernel_rfl) (by kernel_rfl) rfl (by rfl) (fun _ _ _ h => h) hHeld (fun _ hw' => rfl) ?_
    simp only [List.setIfInBounds_toArray, List.set_cons_zero, List.set_cons_succ]
    have HHe := rheard_any e0 w3.drew (HH3.out.call (Chg.refl w3 No).drew)
    refine step1 3 (by kernel_rfl) ?_
    refine stCall 3 25 103 #[.pointer (some ⟨r, 0, none⟩), .int .i64 e0] _ rfl rfl (by rfl) (by go_simp) HHe ?_
    rintro e w4 ⟨rfl, hI4, hc4⟩
    have hHeld : Chg w3 w4 (fun k => k = r ∨ k = w.heap.size) := (Chg.refl w3 No).drew.trans hc4 (fun _ _ e => e.elim) (fun _ _ e => .inl e)
    refine ⟨_, rfl, hHeld, ?_⟩
    simp only [List.setIfInBounds_toArray, List.set_cons_zero, List.set_cons_succ]
    have hQ4 : w4.heap[w.heap.size]? = some (.cells (D.SA D.Zs) 47 (0, 0)) := hc4.keep ((Chg.refl w3 No).drew.keep HQ3.out (fun e => e)) (fun e => by have := HRs.out; have e : w.heap.size = r := e; omega)
    have HI4 := hid hI4
    have HC4 := hid hc4
    clear hI4 hc4
    refine step1 4 (by kernel_rfl) ?_
    refine D.stStore 4 rfl rfl (by rfl) _ _ rfl w.heap.size rfl s rfl hlen D.Zs D.Zs_len hQ4 ?_
    intro w5 hw5
    have hHeld5 := hHeld.trans (chg_wrote hw5) (c := fun k => k = r ∨ k = w.heap.size) (fun _ _ e => e) (fun _ _ e => .inr e)
    clear hHeld
    have hHeld := hHeld5
    clear hHeld5
    refine ⟨hHeld, ?_⟩
    refine takeVal 5 5 (.int .i64 e0) rfl (by kernel_rfl) (by kernel_rfl) (by kernel_rfl) rfl (by rfl) (fun _ _ _ h => h) hHeld (fun _ hw' => rfl) ?_
    simp only [List.setIfInBounds_toArray, List.set_cons_zero, List.set_cons_succ]
    refine wpAnyH_done (by kernel_rfl) ?_ _
    refine NoPanic.normal ?_
    go_wp2_with fail
    refine bodyPost_ret (v := .tuple #[.agg (D.SA s), .int .i64 e0]) (D.results_sec Tryz.results82 _ _ w.heap.size s hlen _ rfl rfl hw5.here) rfl ⟨rfl, HI4.out.keep (chg_wrote hw5) (fun k hk e => ?_), ?_⟩
    · obtain ⟨q, hk⟩ := hk
      obtain ⟨_, _, _, _, _, _, _, _, h9⟩ := HH.out
      have := h9.lt k q hk
      have e : k = w.heap.size := e
      omega
    · exact ((HC3.out.trans (Chg.refl w3 No).drew (fun _ _ e => e) (fun _ _ e => e)).trans (HC4.out.trans (chg_wrote hw5) (c := fun k => k = r ∨ k = w.heap.size) (fun _ _ e => .inl e) (fun _ _ e => .inr e)) (fun _ _ e => e.elim) (fun k hk e => by rcases e with e | e; exact e; omega))
  · have e : rstC n z x = (z, D.Zs, 40) := by unfold rstC; rw [if_neg hx]
    rw [e]
    rw [Bool.not_eq_true] at hx
    rw [hx] at hT
    clear h e hx h0 hr0
    subst hw1
    go_enter Tryz.func82, Tryz.ntmps82
    go_wp2_with (first
      | (go_at_call 71; go_must (refine hT.mono ?_; rintro e w1 ⟨rfl, hw⟩; have hw := hw.symm; subst hw))
      | (refine D.store_sec rfl _ _ rfl w.heap.size rfl D.Zs rfl D.Zs_len D.Zs D.Zs_len HN.out ?_; intro w3 hw3; have HW3 := hid hw3; clear hw3)
      | fail)
    refine bodyPost_ret (v := .tuple #[.agg (D.SA D.Zs), .int .i64 40]) (D.results_sec Tryz.results82 _ _ w.heap.size D.Zs D.Zs_len _ rfl rfl HW3.out.here) rfl ?_
    have hc : Chg w w3 No := HC1.out.trans (chg_wrote HW3.out) (fun _ _ e => e) (fun j hj e => by omega)
    exact ⟨rfl, HH.out.call hc, hc.mono fun _ _ e => e.elim⟩
/-- Read of the document's cache. -/
def rrdC (n : Nat) (z : CSt) (x : Int) : CSt × List Int × Int := match z.P x with | some q => (z, q.1, 0) | none => rstC n z x
theorem flat_secs {z : CSt} {x : Int} (hi : CInv n z) (hx : z.dirty x) : ∃ j, (secs z.dirty)[j]? = some x ∧ plL (secs z.dirty) x 0 = ((j : Nat) : Int) := by
  obtain ⟨j, h1, h2⟩ := plL_in (secs z.dirty) x 0 (secs_mem.2 ⟨hi.sec hx, hx⟩)
  exact ⟨j, h1, by rw [h2, Nat.zero_add]⟩
theorem out_secs {z : CSt} {x : Int} (hx : ¬ z.dirty x) : plL (secs z.dirty) x 0 = -1 := plL_out _ _ _ fun e => hx (secs_mem.1 e).2
theorem item_sec {w : World} {g k : Nat} {cs : List Value} {s : List Int} {a : Value} {t : Value} (h : ∀ i, i < 130 → w.cell? ⟨g, k + i, none⟩ = cs[i]?) (hc : cs = a :: (s.map (Value.int .u8) ++ [t])) (hs : s.length = 128) : w.rangeAt g (k + 1) (s.map (Value.int .u8)) := fun i v hv => by
  have hi : i < 128 := by
    rcases Nat.lt_or_ge i 128 with c | c
    · exact c
    · rw [List.getElem?_eq_none (by rw [List.length_map, hs]; exact c)] at hv; cases hv
  rw [show k + 1 + i = k + (i + 1) by omega, h (i + 1) (by omega), hc, List.getElem?_cons_succ, List.getElem?_append_left (by rw [List.length_map, hs]; exact hi)]
  exact hv
theorem itC_is {z : CSt} {tv : Int → Value} {x : Int} {q : List Int × List Int} (hq : z.P x = some q) : itC z tv x = .int .i64 x :: (q.1.map (Value.int .u8) ++ [tv x]) := by
  unfold itC
  rw [hq]
set_option maxHeartbeats 4000000 in
set_option maxRecDepth 100000 in
theorem rread_anyC (x : Int) (w : World) (h : IsRC w r rd n ρ z) : Calls Tryz.prog 81 #[.pointer (some ⟨r, 0, none⟩), .int .i64 x] w fun e w' => e = .returned (.tuple #[.agg (D.SA (rrdC n z x).2.1), .int .i64 (rrdC n z x).2.2]) ∧ IsRC w' r rd n ρ (rrdC n z x).1 ∧ Chg w w' (· = r) := by
  have hzs := D.zero_sec
  have HH := hid h
  have hr0 : r < w.heap.size := by obtain ⟨_, _, _, _, _, _, _, _, h⟩ := h; exact h.lt _ _ h.rm
  have HRs := hid hr0
  obtain ⟨w1, hw1⟩ : ∃ y, y = w.alloc (.cells (D.SA D.Zs) 47) := ⟨_, rfl⟩
  have hc1 : Chg w w1 No := by rw [hw1]; exact Chg.alloc _ _ _
  have hP := rplace_any x w1 (h.call hc1)
  have hSt := rstands_any x w1 (h.call hc1)
  have h0 : w1.heap[w.heap.size]? = some (.cells (D.SA D.Zs) 47 (0, 0)) := by rw [hw1]; exact heap_alloc_new _ _
  have HC1 := hid hc1
  have HN := hid h0
  have hS1 : w1.heap.size = w.heap.size + 1 := by rw [hw1]; simp
  cases hq : z.P x with
  | some q =>
    have hd : z.dirty x := by unfold CSt.dirty; rw [hq]; rfl
    obtain ⟨j, hj, hpl⟩ := flat_secs h.inv hd
    rw [hpl] at hP
    have e : rrdC n z x = (z, q.1, 0) := by unfold rrdC; rw [hq]
    rw [e]
    have hlen := h.inv.ln x q hq
    have hjl := (List.getElem?_eq_some_iff.1 hj).1
    have h4 := secs_len z.dirty
    have hj0 : (0 : Int) ≤ (j : Int) := by omega
    obtain ⟨rk, rc, X, v0, v1, lv, tv, W, hA⟩ := h.call hc1
    obtain ⟨g, cp, hv, _, _, hcs⟩ := hA.item hj
    have k1 := hA.c1
    rw [hv] at k1
    have HRg := hid (item_sec hcs (itC_is hq) hlen)
    have hj1 : (j : Int) < ((secs z.dirty).length : Int) := by omega
    generalize (secs z.dirty).length = m at *
    have hm4 : (m : Int) ≤ 4096 := by omega
    clear h hd hpl e hj hA hcs hv hq h0 hr0 hSt
    subst hw1
    go_enter Tryz.func81, Tryz.ntmps81
    go_wp2_with (first
      | (go_at_call 74; go_must (refine hP.mono ?_; rintro e w1 ⟨rfl, hw⟩; have hw := hw.symm; subst hw))
      | (refine wpList_load_mid rfl 47 _ rfl g (j * 130 + 1) rfl (q.1.map (Value.int .u8)) _ HRg.out Tryz.underlying47 rfl (by rw [D.sz26, List.length_map, hlen]) ?_)
      | (refine D.store_sec rfl _ _ rfl w.heap.size rfl q.1 rfl hlen D.Zs D.Zs_len HN.out ?_; intro w3 hw3; have HW3 := hid hw3; clear hw3)
      | fail)
    refine bodyPost_ret (v := .tuple #[.agg (D.SA q.1), .int .i64 0]) (D.results_sec Tryz.results81 _ _ w.heap.size q.1 hlen _ rfl rfl HW3.out.here) rfl ?_
    have hc : Chg w w3 No := HC1.out.trans (chg_wrote HW3.out) (fun _ _ e => e) (fun j hj e => by omega)
    exact ⟨rfl, HH.out.call hc, hc.mono fun _ _ e => e.elim⟩
  | none =>
    have hd : ¬ z.dirty x := by unfold CSt.dirty; rw [hq]; simp
    rw [out_secs hd] at hP
    have e : rrdC n z x = rstC n z x := by unfold rrdC; rw [hq]
    rw [e]
    have hlen : (rstC n z x).2.1.length = 128 := by
      obtain ⟨rk, rc, X, v0, v1, lv, tv, W, hA⟩ := h
      unfold rstC
      split
      · exact readS_len hA.dk x
      · exact D.Zs_len
    generalize rstC n z x = ans at *
    obtain ⟨z', s, e0⟩ := ans
    simp only at *
    clear h hd e h0 hr0
    subst hw1
    go_enter Tryz.func81, Tryz.ntmps81
    go_wp2_with (first
      | (go_at_call 74; go_must (refine hP.mono ?_; rintro e w1 ⟨rfl, hw⟩; have hw := hw.symm; subst hw))
      | (go_at_call 82; go_must (refine hSt.mono ?_; rintro e w2 ⟨rfl, hI2, hc2⟩; have HI2 := hid hI2; have HC2 := hid hc2; have HQ2 := hid (hc2.keep HN.out (fun e => by have := HRs.out; have e : w.heap.size = r := e; omega)); clear hI2 hc2))
      | (refine D.store_sec rfl _ _ rfl w.heap.size rfl s rfl hlen D.Zs D.Zs_len HQ2.out ?_; intro w3 hw3; have HW3 := hid hw3; clear hw3)
      | fail)
    refine bodyPost_ret (v := .tuple #[.agg (D.SA s), .int .i64 e0]) (D.results_sec Tryz.results81 _ _ w.heap.size s hlen _ rfl rfl HW3.out.here) rfl ⟨rfl, HI2.out.keep (chg_wrote HW3.out) (fun k hk e => ?_), ?_⟩
    · obtain ⟨q, hk⟩ := hk
      obtain ⟨_, _, _, _, _, _, _, _, h9⟩ := HH.out
      have := h9.lt k q hk
      have e : k = w.heap.size := e
      omega
    · exact HC1.out.trans (HC2.out.trans (chg_wrote HW3.out) (c := fun k => k = r ∨ k = w.heap.size) (fun _ _ e => .inl e) (fun _ _ e => .inr e)) (fun _ _ e => e.elim) (fun k hk e => by rcases e with e | e; exact e; omega)
end
end Go.Proofs.YtamoepninddbcaaGreat
