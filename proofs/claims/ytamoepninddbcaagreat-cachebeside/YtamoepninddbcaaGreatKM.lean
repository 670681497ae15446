/-
  The document's cache: Mark.
-/
import Derived.Test.YtamoepninddbcaaGreatKL
namespace Go.Proofs.YtamoepninddbcaaGreat
open Go.RowKit

theorem markC_re {z : CSt} {x t : Int} {q : List Int × List Int} (h : z.P x = some q) : markC z x t = z.re x (q.1, q.2 ++ [t]) := by rw [markC_some h]; rfl
/-- The tags of an item written over. -/
theorem tag_ovr {n : Nat} {z : CSt} {tv : Int → Value} {x : Int} {q : List Int × List Int} {l : List Int} {v6 : Value} {j : Nat} (hi : CInv n z) (hq : z.P x = some q) (hj : (secs z.dirty)[j]? = some x) :
    ((secs z.dirty).flatMap (itC z tv)).set (j * 130 + 129) v6 = (secs z.dirty).flatMap (itC (z.re x (q.1, l)) fun y => if y = x then v6 else tv y) := by
  rw [flat_setK (itC z tv) 130 129 v6 (itC_len hi) (by decide) (secs_nodup _) hj]
  rw [List.flatMap_def, List.flatMap_def]
  refine congrArg List.flatten (List.map_congr_left fun y _ => ?_)
  by_cases h : y = x
  · rw [if_pos h, h, itC_is hq, itC_is (z := z.re x (q.1, l)) (q := (q.1, l)) (by unfold CSt.re; simp), if_pos rfl]
    have hl := hi.ln x q hq
    rw [List.set_cons_succ, List.set_append_right _ _ (by simp [hl])]
    simp [hl]
  · rw [if_neg h]
    unfold itC CSt.re
    simp only
    rw [if_neg h, if_neg h]
section
variable {ops : Array Oper} {Q : Exit → Act → World → Prop} {S : World → Prop} {fuel : Nat} {listed : Array Bool} {a : Act} {w : World}
theorem stAppI (i d : Nat) {o : Oper} (hop : ops[i]? = some o) (hd : o.dst = some d) (hw : Region.wanted o (yielded ops a.tmps) = true) (s x : Operand)
    (ho : o.op = .call { callee := .builtin .append, args := #[s, x], argTypes := #[27, 27] }) (base g c : Nat) (v : Value) (l : List Int) (y : Int) (hs : a.eval s = v) (hx : a.eval x = .slice (some ⟨g, 0, none⟩) 1 c)
    (hown : Ints w base v l) (hat : w.cell? ⟨g, 0, none⟩ = some (.int .i64 y)) (hl : l.length ≤ 17592186044000) (hbase : base ≤ w.heap.size)
    (h : ∀ v' w', Ints w' base v' (l ++ [y]) → Chg w w' (fun k => v.ownBlock = some k) → (v'.ownBlock = v.ownBlock ∨ v'.ownBlock = some w.heap.size) →
      S w' ∧ wpAnyH Tryz.prog .any ops Q S fuel (listed.setIfInBounds i true) { a with tmps := a.tmps.setIfInBounds d v' } w') : St ops Q S fuel listed a w i :=
  stAppL i d hop hd hw s x ho base v l [y] (some ⟨g, 0, none⟩) c hs hx hown (.inr ⟨g, rfl, (by
    rcases Nat.lt_or_ge g w.heap.size with c | c
    · exact c
    · exfalso
      unfold World.cell? at hat
      simp [Array.getElem?_eq_none c] at hat), fun k hk => (by
    have hk0 : k = 0 := by simpa using hk
    subst hk0
    exact hat)⟩) (fun e => by cases e) (by simp only [List.length_singleton]; omega) hbase h
end
section
variable {r rd n : Nat} {ρ : Nat → Option RRole} {z : CSt}
set_option maxHeartbeats 4000000 in
set_option maxRecDepth 100000 in
theorem rmark_out (x t : Int) (w : World) (h : IsRC w r rd n ρ z) (hx : okN n x = false) : Calls Tryz.prog 36 #[.pointer (some ⟨r, 0, none⟩), .int .i64 x, .int .i64 t] w fun e w' => e = .returned (.int .i64 40) ∧ w' = w := by
  have hT := rthere_any x w h
  rw [hx] at hT
  clear h hx
  go_enter Tryz.func36, Tryz.ntmps36
  go_wp2_with (first
    | (go_at_call 71; go_must (refine hT.mono ?_; rintro e w' ⟨rfl, hw⟩; have hw := hw.symm; subst hw))
    | fail)
  go_ret
  exact ⟨rfl, rfl⟩
set_option maxHeartbeats 4000000 in
set_option maxRecDepth 100000 in
theorem rmark_none (x t : Int) (w : World) (h : IsRC w r rd n ρ z) (hx : okN n x = true) (hq : z.P x = none) (ht : z.ld.length ≤ 17592186044000) : Calls Tryz.prog 36 #[.pointer (some ⟨r, 0, none⟩), .int .i64 x, .int .i64 t] w fun e w' => e = .returned (.int .i64 0) ∧ RPost w w' r rd n ρ (markC z x t) := by
  have hT := rthere_any x w h
  have hP := rplace_any x w h
  rw [hx] at hT
  rw [out_secs (by unfold CSt.dirty; rw [hq]; simp)] at hP
  rw [markC_none hq]
  obtain ⟨rk, rc, X, v0, v1, lv, tv, W, h⟩ := h
  obtain ⟨la, lc, hlv, _, _⟩ := h.ld.lat
  subst hlv
  have q3 := h.c3
  have H := hid h
  have HI : Hid (∀ o, Ints (w.alloc o) 0 (.slice la z.ld.length lc) z.ld) := hid (fun o => row_keep h.ld (Chg.alloc w o No) (fun _ _ e => e))
  have HT := hid ht
  have hcell : (w.alloc (.cells #[.int .i64 t] 3)).cell? ⟨w.heap.size, 0, none⟩ = some (.int .i64 t) := (cell_of_row _ _ _ _ _ _ (heap_alloc_new _ _)).trans rfl
  have HRl : Hid (¬ (Value.slice la z.ld.length lc).ownBlock = some r) := hid (fun e => by have := h.rl _ e; rw [h.rm] at this; cases this)
  clear h hx hq ht
  go_enter Tryz.func36, Tryz.ntmps36
  go_wp2_with (first
    | (go_at_call 71; go_must (refine hT.mono ?_; rintro e w' ⟨rfl, hw⟩; have hw := hw.symm; subst hw))
    | (go_at_call 74; go_must (refine hP.mono ?_; rintro e w' ⟨rfl, hw⟩; have hw := hw.symm; subst hw))
    | (at_builtin; go_must (refine wp_appI rfl _ _ rfl 0 w.heap.size 1 _ z.ld t rfl rfl (HI.out _) hcell HT.out (Nat.zero_le _) ?_; intro v6 w6 h61 h62 h63; obtain ⟨ta, tc, htv, _, _⟩ := h61.lat; generalize (z.ld ++ [t]).length = M at htv; subst htv; have H61 := hid h61; have H62 := hid h62; have H63 := hid h63; have hme6 := h62.keep ((H.out.call (Chg.alloc w (.cells #[.int .i64 t] 3) No)).me) HRl.out; have q36 := cell_of_row _ _ 3 _ _ _ hme6; have f36 := frozen_of_row w6 r 3 _ _ hme6; clear h61 h62 h63 hme6))
    | fail)
  go_ret
  exact ⟨rfl, RPost.step (Chg.alloc w (.cells #[.int .i64 t] 3) No) ((H.out.call (Chg.alloc w (.cells #[.int .i64 t] 3) No)).tagged H62.out H61.out H63.out)⟩
set_option maxHeartbeats 8000000 in
set_option maxRecDepth 100000 in
theorem rmark_some (x t : Int) (q : List Int × List Int) (w : World) (h : IsRC w r rd n ρ z) (hx : okN n x = true) (hq : z.P x = some q) (ht : q.2.length ≤ 17592186044000) : Calls Tryz.prog 36 #[.pointer (some ⟨r, 0, none⟩), .int .i64 x, .int .i64 t] w fun e w' => e = .returned (.int .i64 0) ∧ RPost w w' r rd n ρ (markC z x t) := by
  have hT := rthere_any x w h
  have hP := rplace_any x w h
  rw [hx] at hT
  have hdx : z.dirty x := by unfold CSt.dirty; rw [hq]; rfl
  obtain ⟨j, hj, hpl⟩ := flat_secs h.inv hdx
  rw [hpl] at hP
  rw [markC_re hq]
  obtain ⟨rk, rc, X, v0, v1, lv, tv, W, h⟩ := h
  obtain ⟨ta, tc, htv, _, _⟩ := (h.tg x q hq).lat
  obtain ⟨g, cp, hv, ⟨A0, hg0⟩, _, hcs⟩ := h.item hj
  have H := hid h
  have HQ := hid hq
  have HJ := hid hj
  have HV := hid hv
  have HTV := hid htv
  have hgb : ρ g = some .it := h.ri g (by rw [hv]; rfl)
  have HGb := hid hgb
  have hct : ∀ W', Chg w W' No → W'.cell? ⟨g, j * 130 + 129, none⟩ = some (.slice ta q.2.length tc) := fun W' hW => by
    refine cell_keep ((hcs 129 (by decide)).trans ?_) hW (h.lt _ _ hgb) (fun e => e)
    rw [itC_is hq, List.getElem?_cons_succ, List.getElem?_append_right (by simp [h.inv.ln x q hq]), htv]
    simp [h.inv.ln x q hq]
  have HCt := hid hct
  have HK1 : Hid (∀ W' : World, W'.heap[r]? = w.heap[r]? → W'.cell? ⟨r, 1, none⟩ = some (.slice (some ⟨g, 0, none⟩) (secs z.dirty).length cp)) := hid (fun W' hW => by
    rw [cell_of_row _ _ 1 _ _ _ (hW.trans h.me), hv]; rfl)
  have HI : Hid (∀ W', Chg w W' No → Ints W' 0 (.slice ta q.2.length tc) q.2) := hid (fun W' hW => by
    have := (h.call hW).tg x q hq
    rw [htv] at this
    exact this)
  have HT := hid ht
  have HLr := hid (h.lt _ _ h.rm)
  have HLg := hid (h.lt _ _ hgb)
  have HRt : Hid (¬ (Value.slice ta q.2.length tc).ownBlock = some r) := hid (fun e => by
    have := h.rt x r hdx (by rw [htv]; exact e)
    rw [h.rm] at this
    cases this)
  have HGt : Hid (¬ (Value.slice ta q.2.length tc).ownBlock = some g) := hid (fun e => by
    have := h.rt x g hdx (by rw [htv]; exact e)
    rw [hgb] at this
    cases this)
  have HRg : Hid (g ≠ r) := hid (fun e => by
    rw [e, h.rm] at hgb
    cases hgb)
  have hjl := (List.getElem?_eq_some_iff.1 hj).1
  have h4 := secs_len z.dirty
  have hj0 : (0 : Int) ≤ (j : Int) := by omega
  have hj1 : (j : Int) < ((secs z.dirty).length : Int) := by omega
  have hjn : ¬ (j : Int) < 0 := by omega
  generalize hmm : (secs z.dirty).length = m at *
  have HMM := hid hmm
  have hm4 : (m : Int) ≤ 4096 := by omega
  clear h hx hq ht hdx hj hpl hv htv hcs hgb hg0 hct hmm
  go_enter Tryz.func36, Tryz.ntmps36
  go_wp2_with (first
    | (go_at_call 71; go_must (refine hT.mono ?_; rintro e w' ⟨rfl, hw⟩; have hw := hw.symm; subst hw))
    | (go_at_call 74; go_must (refine hP.mono ?_; rintro e w' ⟨rfl, hw⟩; have hw := hw.symm; subst hw))
    | fail)
  refine wp_region_noPanic ?_
  refine wp_region_held_drew (S := fun W => W.heap[r]? = w.heap[r]?) (by kernel_rfl) rfl (fun hHeld => ?_)
  refine takeVal 0 27 (.pointer (some ⟨r, 0, none⟩)) rfl (by kernel_rfl) (by kernel_rfl) (by kernel_rfl) rfl (by rfl) (fun _ _ _ h => h) hHeld (fun _ hw' => rfl) ?_
  simp only [List.setIfInBounds_toArray, List.set_cons_zero, List.set_cons_succ]
  refine takeVal 1 28 (.pointer (some ⟨r, 0, none⟩)) rfl (by kernel_rfl) (by kernel_rfl) (by kernel_rfl) rfl (by rfl) (fun _ _ _ h => h) hHeld (fun _ hw' => by go_simp) ?_
  simp only [List.setIfInBounds_toArray, List.set_cons_zero, List.set_cons_succ]
  refine takeVal 2 29 (.pointer (some ⟨r, 1, none⟩)) rfl (by kernel_rfl) (by kernel_rfl) (by kernel_rfl) rfl (by rfl) (fun _ _ _ h => h) hHeld (fun _ hw' => by go_simp) ?_
  simp only [List.setIfInBounds_toArray, List.set_cons_zero, List.set_cons_succ]
  refine takeVal 3 30 (.slice (some ⟨g, 0, none⟩) m cp) rfl (by kernel_rfl) (by kernel_rfl) (by kernel_rfl) rfl (by rfl) (fun _ _ _ h => h) hHeld (fun _ hw' => by have hc := HK1.out _ hw'; go_simp) ?_
  simp only [List.setIfInBounds_toArray, List.set_cons_zero, List.set_cons_succ]
  refine takeVal 4 31 (.int .i64 (j : Int)) rfl (by kernel_rfl) (by kernel_rfl) (by kernel_rfl) rfl (by rfl) (fun _ _ _ h => h) hHeld (fun _ hw' => rfl) ?_
  simp only [List.setIfInBounds_toArray, List.set_cons_zero, List.set_cons_succ]
  refine takeVal 5 32 (.pointer (some ⟨r, 0, none⟩)) rfl (by kernel_rfl) (by kernel_rfl) (by kernel_rfl) rfl (by rfl) (fun _ _ _ h => h) hHeld (fun _ hw' => rfl) ?_
  simp only [List.setIfInBounds_toArray, List.set_cons_zero, List.set_cons_succ]
  refine takeVal 6 33 (.pointer (some ⟨r, 0, none⟩)) rfl (by kernel_rfl) (by kernel_rfl) (by kernel_rfl) rfl (by rfl) (fun _ _ _ h => h) hHeld (fun _ hw' => by go_simp) ?_
  simp only [List.setIfInBounds_toArray, List.set_cons_zero, List.set_cons_succ]
  refine takeVal 7 34 (.pointer (some ⟨r, 1, none⟩)) rfl (by kernel_rfl) (by kernel_rfl) (by kernel_rfl) rfl (by rfl) (fun _ _ _ h => h) hHeld (fun _ hw' => by go_simp) ?_
  simp only [List.setIfInBounds_toArray, List.set_cons_zero, List.set_cons_succ]
  refine takeVal 8 35 (.slice (some ⟨g, 0, none⟩) m cp) rfl (by kernel_rfl) (by kernel_rfl) (by kernel_rfl) rfl (by rfl) (fun _ _ _ h => h) hHeld (fun _ hw' => by have hc := HK1.out _ hw'; go_simp) ?_
  simp only [List.setIfInBounds_toArray, List.set_cons_zero, List.set_cons_succ]
  refine takeVal 9 36 (.int .i64 (j : Int)) rfl (by kernel_rfl) (by kernel_rfl) (by kernel_rfl) rfl (by rfl) (fun _ _ _ h => h) hHeld (fun _ hw' => rfl) ?_
  simp only [List.setIfInBounds_toArray, List.set_cons_zero, List.set_cons_succ]
  refine takeVal 10 37 (.pointer (some ⟨g, j * 130, none⟩)) rfl (by kernel_rfl) (by kernel_rfl) (by kernel_rfl) rfl (by rfl) (fun _ _ _ h => h) hHeld (fun _ hw' => by go_simp) ?_
  simp only [List.setIfInBounds_toArray, List.set_cons_zero, List.set_cons_succ]
  refine takeVal 11 38 (.pointer (some ⟨g, j * 130 + 129, none⟩)) rfl (by kernel_rfl) (by kernel_rfl) (by kernel_rfl) rfl (by rfl) (fun _ _ _ h => h) hHeld (fun _ hw' => by go_simp) ?_
  simp only [List.setIfInBounds_toArray, List.set_cons_zero, List.set_cons_succ]
  refine takeVal 13 40 (.int .i64 t) rfl (by kernel_rfl) (by kernel_rfl) (by kernel_rfl) rfl (by rfl) (fun _ _ _ h => h) hHeld (fun _ hw' => rfl) ?_
  simp only [List.setIfInBounds_toArray, List.set_cons_zero, List.set_cons_succ]
  refine step2 12 14 (by kernel_rfl) ?_ ?_
  ·
    refine stVal 12 39 (.slice ta q.2.length tc) rfl rfl (by rfl) (by have hc := HCt.out _ ((Chg.refl w No).drew); have hd := HCt.out _ (Chg.alloc w (.cells #[.int .i64 t] 3) No).drew; go_simp) hHeld ?_
    simp only [List.setIfInBounds_toArray, List.set_cons_zero, List.set_cons_succ]
    refine step1 14 (by kernel_rfl) ?_
    refine stNew 14 41 (.slice (some ⟨w.drew.heap.size, 0, none⟩) 1 1) (.cells #[.int .i64 t] 3) rfl rfl (by rfl) (by go_simp) ⟨(heap_alloc_if ..).trans (by rw [if_neg (fun e => by have := HLr.out; have e2 : r = w.heap.size := e; omega)]; exact hHeld), ?_⟩
    have hHeld : (w.drew.alloc (.cells #[.int .i64 t] 3)).heap[r]? = w.heap[r]? := (heap_alloc_if ..).trans (by rw [if_neg (fun e => by have := HLr.out; have e2 : r = w.heap.size := e; omega)]; exact hHeld)
    simp only [List.setIfInBounds_toArray, List.set_cons_zero, List.set_cons_succ]
    have hcell : (w.drew.alloc (.cells #[.int .i64 t] 3)).cell? ⟨w.drew.heap.size, 0, none⟩ = some (.int .i64 t) := (cell_of_row _ _ _ _ _ _ (heap_alloc_new _ _)).trans rfl
    refine step1 15 (by kernel_rfl) ?_
    refine stAppI 15 42 rfl rfl (by rfl) _ _ rfl 0 w.drew.heap.size 1 (.slice ta q.2.length tc) q.2 t rfl rfl (HI.out _ ((Chg.refl w No).drew.tr (Chg.alloc w.drew (.cells #[.int .i64 t] 3) No))) hcell HT.out (Nat.zero_le _) ?_
    intro v6 w6 h61 h62 h63
    have hr6 : w6.heap[r]? = w.heap[r]? := (h62.block r (by rw [World.size_alloc]; have := HLr.out; show r < w.heap.size + 1; omega) HRt.out).trans hHeld
    clear hHeld
    have hHeld := hr6
    clear hr6
    refine ⟨hHeld, ?_⟩
    simp only [List.setIfInBounds_toArray, List.set_cons_zero, List.set_cons_succ]
    refine takeVal 16 43 (.pointer (some ⟨g, j * 130, none⟩)) rfl (by kernel_rfl) (by kernel_rfl) (by kernel_rfl) rfl (by rfl) (fun _ _ _ h => h) hHeld (fun _ hw' => by go_simp) ?_
    simp only [List.setIfInBounds_toArray, List.set_cons_zero, List.set_cons_succ]
    refine takeVal 17 44 (.pointer (some ⟨g, j * 130 + 129, none⟩)) rfl (by kernel_rfl) (by kernel_rfl) (by kernel_rfl) rfl (by rfl) (fun _ _ _ h => h) hHeld (fun _ hw' => by go_simp) ?_
    simp only [List.setIfInBounds_toArray, List.set_cons_zero, List.set_cons_succ]
    have hct6 : w6.cell? ⟨g, j * 130 + 129, none⟩ = some (.slice ta q.2.length tc) := cell_keep (HCt.out _ ((Chg.refl w No).drew.tr (Chg.alloc w.drew (.cells #[.int .i64 t] 3) No))) h62 (by rw [World.size_alloc]; have := HLg.out; show g < w.heap.size + 1; omega) HGt.out
    have h0 := H.out.call ((Chg.refl w No).drew.tr (Chg.alloc w.drew (.cells #[.int .i64 t] 3) No))
    have hit6 := row_keep h0.it h62 (fun k hk e => by rw [HV.out] at hk; exact HGt.out (by rw [e]; rw [show some k = some g from hk.symm]))
    rw [HV.out, HMM.out] at hit6
    have hst := hit6.stored (j * 130 + 129) v6
    obtain ⟨va, vc, hv6, _, _⟩ := h61.lat
    have f6 := hit6.frozenAt (j * 130 + 129)
    refine step1 18 (by kernel_rfl) ?_
    refine stCell 18 (w6.setCell ⟨g, j * 130 + 129, none⟩ v6) rfl rfl (by rfl) (by rw [hv6]; clear hv6 hst hit6 h0; go_simp) ?_
    refine ⟨(heap_setCell_other w6 ⟨g, j * 130 + 129, none⟩ r _ (fun e => HRg.out e.symm)).trans hHeld, ?_⟩
    refine wpAnyH_done (by kernel_rfl) ?_ _
    refine NoPanic.normal ?_
    have hPO := RPost.step ((Chg.refl w No).drew.tr (Chg.alloc w.drew (.cells #[.int .i64 t] 3) No)) (h0.reitem (q' := (q.1, q.2 ++ [t])) HQ.out (v6 := v6) (h62.trans (Chg.setCell (w := w6) (g := g)) (c := fun k => (tv x).ownBlock = some k ∨ v0.ownBlock = some k) (fun k _ e => .inl (by rw [HTV.out]; exact e)) (fun k _ e => .inr (by rw [show k = g from e, HV.out]; rfl))) (by
      rw [HMM.out, HV.out]
      have := hst.1
      rw [HMM.out.symm, tag_ovr h0.inv HQ.out HJ.out (l := q.2 ++ [t])] at this
      rw [HMM.out] at this
      exact this) (row_keep h61 (Chg.setCell (w := w6) (g := g)) (fun k hk e => by
        have e : k = g := e
        rw [e] at hk
        rcases h63 with e2 | e2
        · rw [e2] at hk; exact HGt.out hk
        · rw [e2, World.size_alloc] at hk
          have := Option.some.inj hk
          have := HLg.out
          have h9 : w.heap.size + 1 = g := by assumption
          omega)) (by
        rcases h63 with e2 | e2
        · exact .inl (by rw [HTV.out]; exact e2)
        · refine .inr fun k hk => ?_
          rw [e2] at hk
          have := Option.some.inj hk
          omega) (H.out.inv.ln x q HQ.out))
    have HPO := hid hPO
    clear hHeld hct6 h0 hit6 hst hv6 f6 h61 h62 h63 hPO hcell
    go_wp2_with fail
    go_ret
    exact ⟨rfl, HPO.out⟩
  ·
    refine stNew 14 41 (.slice (some ⟨w.drew.heap.size, 0, none⟩) 1 1) (.cells #[.int .i64 t] 3) rfl rfl (by rfl) (by go_simp) ⟨(heap_alloc_if ..).trans (by rw [if_neg (fun e => by have := HLr.out; have e2 : r = w.heap.size := e; omega)]; exact hHeld), ?_⟩
    have hHeld : (w.drew.alloc (.cells #[.int .i64 t] 3)).heap[r]? = w.heap[r]? := (heap_alloc_if ..).trans (by rw [if_neg (fun e => by have := HLr.out; have e2 : r = w.heap.size := e; omega)]; exact hHeld)
    simp only [List.setIfInBounds_toArray, List.set_cons_zero, List.set_cons_succ]
    refine step1 12 (by kernel_rfl) ?_
    refine stVal 12 39 (.slice ta q.2.length tc) rfl rfl (by rfl) (by have hc := HCt.out _ ((Chg.refl w No).drew.tr (Chg.alloc w.drew (.cells #[.int .i64 t] 3) No)); have hd := HCt.out _ (Chg.alloc w (.cells #[.int .i64 t] 3) No).drew; go_simp) hHeld ?_
    simp only [List.setIfInBounds_toArray, List.set_cons_zero, List.set_cons_succ]
    have hcell : (w.drew.alloc (.cells #[.int .i64 t] 3)).cell? ⟨w.drew.heap.size, 0, none⟩ = some (.int .i64 t) := (cell_of_row _ _ _ _ _ _ (heap_alloc_new _ _)).trans rfl
    refine step1 15 (by kernel_rfl) ?_
    refine stAppI 15 42 rfl rfl (by rfl) _ _ rfl 0 w.drew.heap.size 1 (.slice ta q.2.length tc) q.2 t rfl rfl (HI.out _ ((Chg.refl w No).drew.tr (Chg.alloc w.drew (.cells #[.int .i64 t] 3) No))) hcell HT.out (Nat.zero_le _) ?_
    intro v6 w6 h61 h62 h63
    have hr6 : w6.heap[r]? = w.heap[r]? := (h62.block r (by rw [World.size_alloc]; have := HLr.out; show r < w.heap.size + 1; omega) HRt.out).trans hHeld
    clear hHeld
    have hHeld := hr6
    clear hr6
    refine ⟨hHeld, ?_⟩
    simp only [List.setIfInBounds_toArray, List.set_cons_zero, List.set_cons_succ]
    refine takeVal 16 43 (.pointer (some ⟨g, j * 130, none⟩)) rfl (by kernel_rfl) (by kernel_rfl) (by kernel_rfl) rfl (by rfl) (fun _ _ _ h => h) hHeld (fun _ hw' => by go_simp) ?_
    simp only [List.setIfInBounds_toArray, List.set_cons_zero, List.set_cons_succ]
    refine takeVal 17 44 (.pointer (some ⟨g, j * 130 + 129, none⟩)) rfl (by kernel_rfl) (by kernel_rfl) (by kernel_rfl) rfl (by rfl) (fun _ _ _ h => h) hHeld (fun _ hw' => by go_simp) ?_
    simp only [List.setIfInBounds_toArray, List.set_cons_zero, List.set_cons_succ]
    have hct6 : w6.cell? ⟨g, j * 130 + 129, none⟩ = some (.slice ta q.2.length tc) := cell_keep (HCt.out _ ((Chg.refl w No).drew.tr (Chg.alloc w.drew (.cells #[.int .i64 t] 3) No))) h62 (by rw [World.size_alloc]; have := HLg.out; show g < w.heap.size + 1; omega) HGt.out
    have h0 := H.out.call ((Chg.refl w No).drew.tr (Chg.alloc w.drew (.cells #[.int .i64 t] 3) No))
    have hit6 := row_keep h0.it h62 (fun k hk e => by rw [HV.out] at hk; exact HGt.out (by rw [e]; rw [show some k = some g from hk.symm]))
    rw [HV.out, HMM.out] at hit6
    have hst := hit6.stored (j * 130 + 129) v6
    obtain ⟨va, vc, hv6, _, _⟩ := h61.lat
    have f6 := hit6.frozenAt (j * 130 + 129)
    refine step1 18 (by kernel_rfl) ?_
    refine stCell 18 (w6.setCell ⟨g, j * 130 + 129, none⟩ v6) rfl rfl (by rfl) (by rw [hv6]; clear hv6 hst hit6 h0; go_simp) ?_
    refine ⟨(heap_setCell_other w6 ⟨g, j * 130 + 129, none⟩ r _ (fun e => HRg.out e.symm)).trans hHeld, ?_⟩
    refine wpAnyH_done (by kernel_rfl) ?_ _
    refine NoPanic.normal ?_
    have hPO := RPost.step ((Chg.refl w No).drew.tr (Chg.alloc w.drew (.cells #[.int .i64 t] 3) No)) (h0.reitem (q' := (q.1, q.2 ++ [t])) HQ.out (v6 := v6) (h62.trans (Chg.setCell (w := w6) (g := g)) (c := fun k => (tv x).ownBlock = some k ∨ v0.ownBlock = some k) (fun k _ e => .inl (by rw [HTV.out]; exact e)) (fun k _ e => .inr (by rw [show k = g from e, HV.out]; rfl))) (by
      rw [HMM.out, HV.out]
      have := hst.1
      rw [HMM.out.symm, tag_ovr h0.inv HQ.out HJ.out (l := q.2 ++ [t])] at this
      rw [HMM.out] at this
      exact this) (row_keep h61 (Chg.setCell (w := w6) (g := g)) (fun k hk e => by
        have e : k = g := e
        rw [e] at hk
        rcases h63 with e2 | e2
        · rw [e2] at hk; exact HGt.out hk
        · rw [e2, World.size_alloc] at hk
          have := Option.some.inj hk
          have := HLg.out
          have h9 : w.heap.size + 1 = g := by assumption
          omega)) (by
        rcases h63 with e2 | e2
        · exact .inl (by rw [HTV.out]; exact e2)
        · refine .inr fun k hk => ?_
          rw [e2] at hk
          have := Option.some.inj hk
          omega) (H.out.inv.ln x q HQ.out))
    have HPO := hid hPO
    clear hHeld hct6 h0 hit6 hst hv6 f6 h61 h62 h63 hPO hcell
    go_wp2_with fail
    go_ret
    exact ⟨rfl, HPO.out⟩
/-- Mark, as one. -/
theorem rmark_any (x t : Int) (w : World) (h : IsRC w r rd n ρ z) (ht : TB z) : Calls Tryz.prog 36 #[.pointer (some ⟨r, 0, none⟩), .int .i64 x, .int .i64 t] w fun e w' => e = .returned (.int .i64 (if okN n x = true then 0 else 40)) ∧ RPost w w' r rd n ρ (if okN n x = true then markC z x t else z) := by
  cases hx : okN n x with
  | false => exact (rmark_out x t w h hx).mono fun e w' ⟨h1, h2⟩ => ⟨by simpa using h1, by rw [h2]; simpa using RPost.same h (Chg.refl w No)⟩
  | true =>
    simp only [if_true]
    unfold TB at ht
    cases hq : z.P x with
    | none => exact rmark_none x t w h hx hq (by omega)
    | some q =>
      have hdx : z.dirty x := by unfold CSt.dirty; rw [hq]; rfl
      have := tl_tsum (h.inv.sec hdx) hq
      exact rmark_some x t q w h hx hq (by omega)
end
end Go.Proofs.YtamoepninddbcaaGreat
