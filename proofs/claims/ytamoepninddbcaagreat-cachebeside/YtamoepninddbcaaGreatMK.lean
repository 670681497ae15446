/-
  The disks of both; all that both caches tell.
-/
import Derived.Test.YtamoepninddbcaaGreatMI
namespace Go.Proofs.YtamoepninddbcaaGreat.D
open Go.RowKit

set_option maxRecDepth 100000 in
set_option maxHeartbeats 1000000 in
theorem same_any (fl : List Int) (m : Nat) (a b : Option Addr) (ca cb : Nat) (w : World) (hl : fl.length = 128 * m) (hm : 128 * m ≤ 140737488355328) (ha : BytesAt w a fl) (hb : BytesAt w b fl) :
    Calls Tryz.prog 48 #[.slice a m ca, .slice b m cb] w fun e w' => e = .returned (.bool true) ∧ ∃ n, w' = w.drewN n := by
  have HA := hid ha
  have HBb := hid hb
  have HL := hid hl
  have hgd := guard_sec
  clear ha hb hl
  go_enter Tryz.func48, Tryz.ntmps48
  go_wp2_with fail
  go_loopw [5] (fun i wr => ∃ k n : Nat, k ≤ m ∧ i = .int .i64 k ∧ w.drewN n = wr) (fun i _ => m - (intOf i).toNat)
  case atStart => exact ⟨0, 0, by omega, rfl, rfl⟩
  case round =>
    obtain ⟨k, n, hk, rfl, rfl⟩ := hrel
    by_cases hlt : k < m
    · rcases HA.out with h0 | ⟨b1, o1, rfl, hb1, h1⟩
      · have := HL.out; rw [h0] at this; simp at this; omega
      · rcases HBb.out with h0 | ⟨b2, o2, rfl, hb2, h2⟩
        · have := HL.out; rw [h0] at this; simp at this; omega
        have hr1 := secK_range HL.out hlt h1
        have hr2 := secK_range HL.out hlt h2
        have hcl := secK_len HL.out hlt
        generalize secK fl k = c at *
        have hq := eq_sec c c hcl hcl
        rw [decide_eq_true rfl] at hq
        have hi0 : (0 : Int) ≤ (k : Int) := by omega
        have hi1 : (k : Int) < (m : Int) := by omega
        have R1 := hid hr1
        have R2 := hid hr2
        clear hr1 hr2 h1 h2
        go_wp2_with fail
        refine wp_region_noPanic ?_
        refine wp_region_held_drew (S := fun w' => w'.rangeAt b1 (o1 + k * 128) (c.map (Value.int .u8)) ∧ w'.rangeAt b2 (o2 + k * 128) (c.map (Value.int .u8))) (by kernel_rfl) ⟨R1.out, R2.out⟩ (fun hHeld => ?_)
        refine takeVal 0 17 (.slice (some ⟨b1, o1, none⟩) m ca) rfl (by kernel_rfl) (by kernel_rfl) (by kernel_rfl) rfl (by rfl) (fun _ _ _ h => h) hHeld (fun _ hw' => rfl) ?_
        simp only [List.setIfInBounds_toArray, List.set_cons_zero, List.set_cons_succ]
        refine takeVal 1 18 (.int .i64 (k : Int)) rfl (by kernel_rfl) (by kernel_rfl) (by kernel_rfl) rfl (by rfl) (fun _ _ _ h => h) hHeld (fun _ hw' => rfl) ?_
        simp only [List.setIfInBounds_toArray, List.set_cons_zero, List.set_cons_succ]
        refine takeVal 2 19 (.pointer (some ⟨b1, o1 + k * 128, none⟩)) rfl (by kernel_rfl) (by kernel_rfl) (by kernel_rfl) rfl (by rfl) (fun _ _ _ h => h) hHeld (fun _ hw' => by go_simp) ?_
        simp only [List.setIfInBounds_toArray, List.set_cons_zero, List.set_cons_succ]
        refine takeMidS 3 20 (.tmp 19) (b1) (o1 + k * 128) c hcl rfl (by kernel_rfl) (by kernel_rfl) (by kernel_rfl) rfl rfl rfl (by rfl) (fun _ _ _ h => h) hHeld (fun _ h => h.1) ?_
        simp only [List.setIfInBounds_toArray, List.set_cons_zero, List.set_cons_succ]
        refine takeVal 4 21 (.slice (some ⟨b2, o2, none⟩) m cb) rfl (by kernel_rfl) (by kernel_rfl) (by kernel_rfl) rfl (by rfl) (fun _ _ _ h => h) hHeld (fun _ hw' => rfl) ?_
        simp only [List.setIfInBounds_toArray, List.set_cons_zero, List.set_cons_succ]
        refine takeVal 5 22 (.int .i64 (k : Int)) rfl (by kernel_rfl) (by kernel_rfl) (by kernel_rfl) rfl (by rfl) (fun _ _ _ h => h) hHeld (fun _ hw' => rfl) ?_
        simp only [List.setIfInBounds_toArray, List.set_cons_zero, List.set_cons_succ]
        refine takeVal 6 23 (.pointer (some ⟨b2, o2 + k * 128, none⟩)) rfl (by kernel_rfl) (by kernel_rfl) (by kernel_rfl) rfl (by rfl) (fun _ _ _ h => h) hHeld (fun _ hw' => by go_simp) ?_
        simp only [List.setIfInBounds_toArray, List.set_cons_zero, List.set_cons_succ]
        refine takeMidS 7 24 (.tmp 23) (b2) (o2 + k * 128) c hcl rfl (by kernel_rfl) (by kernel_rfl) (by kernel_rfl) rfl rfl rfl (by rfl) (fun _ _ _ h => h) hHeld (fun _ h => h.2) ?_
        simp only [List.setIfInBounds_toArray, List.set_cons_zero, List.set_cons_succ]
        refine takeVal 8 25 (.bool false) rfl (by kernel_rfl) (by kernel_rfl) (by kernel_rfl) rfl (by rfl) (fun _ _ _ h => h) hHeld (fun _ hw' => by go_simp) ?_
        simp only [List.setIfInBounds_toArray, List.set_cons_zero, List.set_cons_succ]
        refine wpAnyH_done (by kernel_rfl) ?_ _
        refine NoPanic.normal ?_
        go_wp2_with fail
        exact ⟨⟨k + 1, n + 1, by omega, by go_num, rfl⟩, by simp [intOf]; omega⟩
    · go_wp2_with fail
      go_ret
      exact ⟨rfl, n, rfl⟩

end Go.Proofs.YtamoepninddbcaaGreat.D

namespace Go.Proofs.YtamoepninddbcaaGreat
open Go.RowKit

namespace D
set_option maxHeartbeats 400000 in
theorem rwritesM {r k n c : Nat} {X : Array Value} {d : St8} (w : World) (h : IsQ w r k n c X d) : Calls Tryz.prog 49 #[.pointer (some ⟨r, 0, none⟩)] w fun e w' => e = .returned (.int .i64 d.wr) ∧ w' = w := by
  have h0 := h.c1
  go_enter Tryz.func49, Tryz.ntmps49
  go_wp2
  go_ret
  exact ⟨rfl, rfl⟩
set_option maxHeartbeats 400000 in
theorem rdownM {r k n c : Nat} {X : Array Value} {d : St8} (w : World) (h : IsQ w r k n c X d) : Calls Tryz.prog 51 #[.pointer (some ⟨r, 0, none⟩)] w fun e w' => e = .returned (.bool d.dn) ∧ w' = w := by
  have h0 := h.c4
  go_enter Tryz.func51, Tryz.ntmps51
  go_wp2
  go_ret
  exact ⟨rfl, rfl⟩
end D
section
variable {w w0 : World} {A : PA} {σ σ0 : Nat → Option PRole} {zc zr z : CSt} {lo : Bool} {V M E : List Lst}
theorem IsP.writes (h : IsP w A σ zc zr lo V M E) : Calls Tryz.prog 43 #[.pointer (some ⟨A.p, 0, none⟩)] w fun e w' => e = .returned (.int .i64 zc.d.wr) ∧ w' = w := by
  obtain ⟨ρ, ρ', lv, mv, ev, h⟩ := h
  obtain ⟨gp, mb, go, tv, lv', hc⟩ := h.ca
  exact D.writes_any w hc.dk
theorem IsP.down (h : IsP w A σ zc zr lo V M E) : Calls Tryz.prog 50 #[.pointer (some ⟨A.p, 0, none⟩)] w fun e w' => e = .returned (.bool zc.d.dn) ∧ w' = w := by
  obtain ⟨ρ, ρ', lv, mv, ev, h⟩ := h
  obtain ⟨gp, mb, go, tv, lv', hc⟩ := h.ca
  exact D.down_any w hc.dk
theorem IsP.rwrites (h : IsP w A σ zc zr lo V M E) : Calls Tryz.prog 49 #[.pointer (some ⟨A.rd, 0, none⟩)] w fun e w' => e = .returned (.int .i64 zr.d.wr) ∧ w' = w := by
  obtain ⟨ρ, ρ', lv, mv, ev, h⟩ := h
  obtain ⟨rk, rc, X, v0, v1, lv', tv, W, hr⟩ := h.rc
  exact D.rwritesM w hr.dk
theorem IsP.rdown (h : IsP w A σ zc zr lo V M E) : Calls Tryz.prog 51 #[.pointer (some ⟨A.rd, 0, none⟩)] w fun e w' => e = .returned (.bool zr.d.dn) ∧ w' = w := by
  obtain ⟨ρ, ρ', lv, mv, ev, h⟩ := h
  obtain ⟨rk, rc, X, v0, v1, lv', tv, W, hr⟩ := h.rc
  exact D.rdownM w hr.dk
theorem IsP.image (h : IsP w A σ zc zr lo V M E) : Calls Tryz.prog 42 #[.pointer (some ⟨A.p, 0, none⟩)] w fun e w' => ∃ q, e = .returned (.slice (some ⟨q, 0, none⟩) A.n A.n) ∧ w.heap.size ≤ q ∧ w'.heap[q]? = some (.cells (D.SA zc.d.S) 47 (0, 0)) ∧ Chg w w' No := by
  obtain ⟨ρ, ρ', lv, mv, ev, h⟩ := h
  obtain ⟨gp, mb, go, tv, lv', hc⟩ := h.ca
  exact (D.image_any w hc.dk).mono fun e w' ⟨q, h1, h2, h3, h4⟩ => ⟨q, h1, h2, h3, Chg.of_below h4 No⟩
theorem IsP.rimage (h : IsP w A σ zc zr lo V M E) : Calls Tryz.prog 52 #[.pointer (some ⟨A.rd, 0, none⟩)] w fun e w' => ∃ q c, e = .returned (.slice (some ⟨q, 0, none⟩) A.n c) ∧ D.BytesAt w' (some ⟨q, 0, none⟩) zr.d.S ∧ Chg w w' No := by
  obtain ⟨ρ, ρ', lv, mv, ev, h⟩ := h
  obtain ⟨rk, rc, X, v0, v1, lv', tv, W, hr⟩ := h.rc
  refine (D.rimageQ w hr.dk).mono ?_
  rintro e w' ⟨k2, c2, X2, h1, h2, h3, h4, h5, h6, h7⟩
  exact ⟨k2, c2, h1, D.rowX_bytes h3, Chg.of_below h7 No⟩
theorem IsP.slen (h : IsP w A σ zc zr lo V M E) : zc.d.S.length = 128 * A.n ∧ A.n ≤ 4096 := by
  obtain ⟨ρ, ρ', lv, mv, ev, h⟩ := h
  obtain ⟨gp, mb, go, tv, lv', hc⟩ := h.ca
  exact ⟨hc.dk.len, hc.dk.top⟩
set_option maxRecDepth 100000 in
set_option maxHeartbeats 8000000 in
theorem disks_any (h : IsP w A σ z z lo V M E) : Calls Tryz.prog 10 #[.pointer (some ⟨A.pp, 0, none⟩)] w fun e w' => e = .returned (.bool true) ∧ Chg w w' No := by
  obtain ⟨hsl, hn⟩ := h.slen
  have HI := hid h
  have HSL := hid hsl
  have HM : Hid (∀ W, Chg w W No → W.heap[A.pp]? = some (.cells (PrC A lo) 36 (0, 0))) := hid (fun W hW => (HI.out.call hW).me)
  clear h hsl
  go_enter Tryz.func10, Tryz.ntmps10
  go_upto_region 1 with fail
  refine wp_region_noPanic ?_
  refine wp_region_held_drew (S := fun W => Chg w W No) (by as_aux_lemma => kernel_rfl) (Chg.refl w No).drew (fun hHeld => ?_)
  refine takeVal 0 3 (.pointer (some ⟨A.pp, 0, none⟩)) rfl (by as_aux_lemma => kernel_rfl) (by as_aux_lemma => kernel_rfl) (by as_aux_lemma => kernel_rfl) rfl (by rfl) (fun _ _ _ h => h) hHeld (fun _ hw' => rfl) ?_
  simp only [List.setIfInBounds_toArray, List.set_cons_zero, List.set_cons_succ]
  refine takeVal 1 4 (.pointer (some ⟨A.pp, 0, none⟩)) rfl (by as_aux_lemma => kernel_rfl) (by as_aux_lemma => kernel_rfl) (by as_aux_lemma => kernel_rfl) rfl (by rfl) (fun _ _ _ h => h) hHeld (fun _ hw' => by go_simp) ?_
  simp only [List.setIfInBounds_toArray, List.set_cons_zero, List.set_cons_succ]
  refine takeVal 2 5 (.pointer (some ⟨A.pp, 0, none⟩)) rfl (by as_aux_lemma => kernel_rfl) (by as_aux_lemma => kernel_rfl) (by as_aux_lemma => kernel_rfl) rfl (by rfl) (fun _ _ _ h => h) hHeld (fun _ hw' => by go_simp) ?_
  simp only [List.setIfInBounds_toArray, List.set_cons_zero, List.set_cons_succ]
  refine takeVal 3 6 (.pointer (some ⟨A.p, 0, none⟩)) rfl (by as_aux_lemma => kernel_rfl) (by as_aux_lemma => kernel_rfl) (by as_aux_lemma => kernel_rfl) rfl (by rfl) (fun _ _ _ h => h) hHeld (fun _ hw' => by have hc := pr0 (HM.out _ hw'); go_simp) ?_
  simp only [List.setIfInBounds_toArray, List.set_cons_zero, List.set_cons_succ]
  refine takeVal 5 8 (.pointer (some ⟨A.pp, 0, none⟩)) rfl (by as_aux_lemma => kernel_rfl) (by as_aux_lemma => kernel_rfl) (by as_aux_lemma => kernel_rfl) rfl (by rfl) (fun _ _ _ h => h) hHeld (fun _ hw' => rfl) ?_
  simp only [List.setIfInBounds_toArray, List.set_cons_zero, List.set_cons_succ]
  refine takeVal 6 9 (.pointer (some ⟨A.pp, 0, none⟩)) rfl (by as_aux_lemma => kernel_rfl) (by as_aux_lemma => kernel_rfl) (by as_aux_lemma => kernel_rfl) rfl (by rfl) (fun _ _ _ h => h) hHeld (fun _ hw' => by go_simp) ?_
  simp only [List.setIfInBounds_toArray, List.set_cons_zero, List.set_cons_succ]
  refine takeVal 7 10 (.pointer (some ⟨A.pp, 2, none⟩)) rfl (by as_aux_lemma => kernel_rfl) (by as_aux_lemma => kernel_rfl) (by as_aux_lemma => kernel_rfl) rfl (by rfl) (fun _ _ _ h => h) hHeld (fun _ hw' => by go_simp) ?_
  simp only [List.setIfInBounds_toArray, List.set_cons_zero, List.set_cons_succ]
  refine takeVal 8 11 (.pointer (some ⟨A.rd, 0, none⟩)) rfl (by as_aux_lemma => kernel_rfl) (by as_aux_lemma => kernel_rfl) (by as_aux_lemma => kernel_rfl) rfl (by rfl) (fun _ _ _ h => h) hHeld (fun _ hw' => by have hc := pr2 (HM.out _ hw'); go_simp) ?_
  simp only [List.setIfInBounds_toArray, List.set_cons_zero, List.set_cons_succ]
  refine step1 4 (by as_aux_lemma => kernel_rfl) ?_
  refine stCall 4 7 43 #[.pointer (some ⟨A.p, 0, none⟩)] _ rfl rfl (by rfl) (by go_simp) ((HI.out.call hHeld).writes) ?_
  rintro e wp ⟨rfl, ewp⟩
  subst ewp
  refine ⟨_, rfl, hHeld, ?_⟩
  simp only [List.setIfInBounds_toArray, List.set_cons_zero, List.set_cons_succ]
  refine step1 9 (by as_aux_lemma => kernel_rfl) ?_
  refine stCall 9 12 49 #[.pointer (some ⟨A.rd, 0, none⟩)] _ rfl rfl (by rfl) (by go_simp) ((HI.out.call hHeld).rwrites) ?_
  rintro e wp ⟨rfl, ewp⟩
  subst ewp
  refine ⟨_, rfl, hHeld, ?_⟩
  simp only [List.setIfInBounds_toArray, List.set_cons_zero, List.set_cons_succ]
  refine takeVal 10 13 (.bool true) rfl (by as_aux_lemma => kernel_rfl) (by as_aux_lemma => kernel_rfl) (by as_aux_lemma => kernel_rfl) rfl (by rfl) (fun _ _ _ h => h) hHeld (fun _ hw' => by go_simp) ?_
  simp only [List.setIfInBounds_toArray, List.set_cons_zero, List.set_cons_succ]
  refine takeVal 11 14 (.bool true) rfl (by as_aux_lemma => kernel_rfl) (by as_aux_lemma => kernel_rfl) (by as_aux_lemma => kernel_rfl) rfl (by rfl) (fun _ _ _ h => h) hHeld (fun _ hw' => rfl) ?_
  simp only [List.setIfInBounds_toArray, List.set_cons_zero, List.set_cons_succ]
  refine takeVal 12 15 (.pointer (some ⟨A.pp, 0, none⟩)) rfl (by as_aux_lemma => kernel_rfl) (by as_aux_lemma => kernel_rfl) (by as_aux_lemma => kernel_rfl) rfl (by rfl) (fun _ _ _ h => h) hHeld (fun _ hw' => rfl) ?_
  simp only [List.setIfInBounds_toArray, List.set_cons_zero, List.set_cons_succ]
  refine takeVal 13 16 (.pointer (some ⟨A.pp, 0, none⟩)) rfl (by as_aux_lemma => kernel_rfl) (by as_aux_lemma => kernel_rfl) (by as_aux_lemma => kernel_rfl) rfl (by rfl) (fun _ _ _ h => h) hHeld (fun _ hw' => by go_simp) ?_
  simp only [List.setIfInBounds_toArray, List.set_cons_zero, List.set_cons_succ]
  refine takeVal 14 17 (.pointer (some ⟨A.pp, 0, none⟩)) rfl (by as_aux_lemma => kernel_rfl) (by as_aux_lemma => kernel_rfl) (by as_aux_lemma => kernel_rfl) rfl (by rfl) (fun _ _ _ h => h) hHeld (fun _ hw' => by go_simp) ?_
  simp only [List.setIfInBounds_toArray, List.set_cons_zero, List.set_cons_succ]
  refine takeVal 15 18 (.pointer (some ⟨A.p, 0, none⟩)) rfl (by as_aux_lemma => kernel_rfl) (by as_aux_lemma => kernel_rfl) (by as_aux_lemma => kernel_rfl) rfl (by rfl) (fun _ _ _ h => h) hHeld (fun _ hw' => by have hc := pr0 (HM.out _ hw'); go_simp) ?_
  simp only [List.setIfInBounds_toArray, List.set_cons_zero, List.set_cons_succ]
  refine takeVal 17 20 (.pointer (some ⟨A.pp, 0, none⟩)) rfl (by as_aux_lemma => kernel_rfl) (by as_aux_lemma => kernel_rfl) (by as_aux_lemma => kernel_rfl) rfl (by rfl) (fun _ _ _ h => h) hHeld (fun _ hw' => rfl) ?_
  simp only [List.setIfInBounds_toArray, List.set_cons_zero, List.set_cons_succ]
  refine takeVal 18 21 (.pointer (some ⟨A.pp, 0, none⟩)) rfl (by as_aux_lemma => kernel_rfl) (by as_aux_lemma => kernel_rfl) (by as_aux_lemma => kernel_rfl) rfl (by rfl) (fun _ _ _ h => h) hHeld (fun _ hw' => by go_simp) ?_
  simp only [List.setIfInBounds_toArray, List.set_cons_zero, List.set_cons_succ]
  refine takeVal 19 22 (.pointer (some ⟨A.pp, 2, none⟩)) rfl (by as_aux_lemma => kernel_rfl) (by as_aux_lemma => kernel_rfl) (by as_aux_lemma => kernel_rfl) rfl (by rfl) (fun _ _ _ h => h) hHeld (fun _ hw' => by go_simp) ?_
  simp only [List.setIfInBounds_toArray, List.set_cons_zero, List.set_cons_succ]
  refine takeVal 20 23 (.pointer (some ⟨A.rd, 0, none⟩)) rfl (by as_aux_lemma => kernel_rfl) (by as_aux_lemma => kernel_rfl) (by as_aux_lemma => kernel_rfl) rfl (by rfl) (fun _ _ _ h => h) hHeld (fun _ hw' => by have hc := pr2 (HM.out _ hw'); go_simp) ?_
  simp only [List.setIfInBounds_toArray, List.set_cons_zero, List.set_cons_succ]
  refine step1 16 (by as_aux_lemma => kernel_rfl) ?_
  refine stCall 16 19 50 #[.pointer (some ⟨A.p, 0, none⟩)] _ rfl rfl (by rfl) (by go_simp) ((HI.out.call hHeld).down) ?_
  rintro e wp ⟨rfl, ewp⟩
  subst ewp
  refine ⟨_, rfl, hHeld, ?_⟩
  simp only [List.setIfInBounds_toArray, List.set_cons_zero, List.set_cons_succ]
  refine step1 21 (by as_aux_lemma => kernel_rfl) ?_
  refine stCall 21 24 51 #[.pointer (some ⟨A.rd, 0, none⟩)] _ rfl rfl (by rfl) (by go_simp) ((HI.out.call hHeld).rdown) ?_
  rintro e wp ⟨rfl, ewp⟩
  subst ewp
  refine ⟨_, rfl, hHeld, ?_⟩
  simp only [List.setIfInBounds_toArray, List.set_cons_zero, List.set_cons_succ]
  refine takeVal 22 25 (.bool true) rfl (by as_aux_lemma => kernel_rfl) (by as_aux_lemma => kernel_rfl) (by as_aux_lemma => kernel_rfl) rfl (by rfl) (fun _ _ _ h => h) hHeld (fun _ hw' => by go_simp) ?_
  simp only [List.setIfInBounds_toArray, List.set_cons_zero, List.set_cons_succ]
  refine takeVal 23 26 (.bool true) rfl (by as_aux_lemma => kernel_rfl) (by as_aux_lemma => kernel_rfl) (by as_aux_lemma => kernel_rfl) rfl (by rfl) (fun _ _ _ h => h) hHeld (fun _ hw' => by go_simp) ?_
  simp only [List.setIfInBounds_toArray, List.set_cons_zero, List.set_cons_succ]
  refine takeVal 24 27 (.bool true) rfl (by as_aux_lemma => kernel_rfl) (by as_aux_lemma => kernel_rfl) (by as_aux_lemma => kernel_rfl) rfl (by rfl) (fun _ _ _ h => h) hHeld (fun _ hw' => rfl) ?_
  simp only [List.setIfInBounds_toArray, List.set_cons_zero, List.set_cons_succ]
  refine takeVal 25 28 (.pointer (some ⟨A.pp, 0, none⟩)) rfl (by as_aux_lemma => kernel_rfl) (by as_aux_lemma => kernel_rfl) (by as_aux_lemma => kernel_rfl) rfl (by rfl) (fun _ _ _ h => h) hHeld (fun _ hw' => rfl) ?_
  simp only [List.setIfInBounds_toArray, List.set_cons_zero, List.set_cons_succ]
  refine takeVal 26 29 (.pointer (some ⟨A.pp, 0, none⟩)) rfl (by as_aux_lemma => kernel_rfl) (by as_aux_lemma => kernel_rfl) (by as_aux_lemma => kernel_rfl) rfl (by rfl) (fun _ _ _ h => h) hHeld (fun _ hw' => by go_simp) ?_
  simp only [List.setIfInBounds_toArray, List.set_cons_zero, List.set_cons_succ]
  refine takeVal 27 30 (.pointer (some ⟨A.pp, 0, none⟩)) rfl (by as_aux_lemma => kernel_rfl) (by as_aux_lemma => kernel_rfl) (by as_aux_lemma => kernel_rfl) rfl (by rfl) (fun _ _ _ h => h) hHeld (fun _ hw' => by go_simp) ?_
  simp only [List.setIfInBounds_toArray, List.set_cons_zero, List.set_cons_succ]
  refine takeVal 28 31 (.pointer (some ⟨A.p, 0, none⟩)) rfl (by as_aux_lemma => kernel_rfl) (by as_aux_lemma => kernel_rfl) (by as_aux_lemma => kernel_rfl) rfl (by rfl) (fun _ _ _ h => h) hHeld (fun _ hw' => by have hc := pr0 (HM.out _ hw'); go_simp) ?_
  simp only [List.setIfInBounds_toArray, List.set_cons_zero, List.set_cons_succ]
  refine takeVal 30 33 (.pointer (some ⟨A.pp, 0, none⟩)) rfl (by as_aux_lemma => kernel_rfl) (by as_aux_lemma => kernel_rfl) (by as_aux_lemma => kernel_rfl) rfl (by rfl) (fun _ _ _ h => h) hHeld (fun _ hw' => rfl) ?_
  simp only [List.setIfInBounds_toArray, List.set_cons_zero, List.set_cons_succ]
  refine takeVal 31 34 (.pointer (some ⟨A.pp, 0, none⟩)) rfl (by as_aux_lemma => kernel_rfl) (by as_aux_lemma => kernel_rfl) (by as_aux_lemma => kernel_rfl) rfl (by rfl) (fun _ _ _ h => h) hHeld (fun _ hw' => by go_simp) ?_
  simp only [List.setIfInBounds_toArray, List.set_cons_zero, List.set_cons_succ]
  refine takeVal 32 35 (.pointer (some ⟨A.pp, 2, none⟩)) rfl (by as_aux_lemma => kernel_rfl) (by as_aux_lemma => kernel_rfl) (by as_aux_lemma => kernel_rfl) rfl (by rfl) (fun _ _ _ h => h) hHeld (fun _ hw' => by go_simp) ?_
  simp only [List.setIfInBounds_toArray, List.set_cons_zero, List.set_cons_succ]
  refine takeVal 33 36 (.pointer (some ⟨A.rd, 0, none⟩)) rfl (by as_aux_lemma => kernel_rfl) (by as_aux_lemma => kernel_rfl) (by as_aux_lemma => kernel_rfl) rfl (by rfl) (fun _ _ _ h => h) hHeld (fun _ hw' => by have hc := pr2 (HM.out _ hw'); go_simp) ?_
  simp only [List.setIfInBounds_toArray, List.set_cons_zero, List.set_cons_succ]
  refine step1 29 (by as_aux_lemma => kernel_rfl) ?_
  refine stCall 29 32 42 #[.pointer (some ⟨A.p, 0, none⟩)] _ rfl rfl (by rfl) (by go_simp) ((HI.out.call hHeld).image) ?_
  rintro e w2 ⟨q, rfl, _, hq, hc2⟩
  have hHeld : Chg w w2 No := hHeld.tr hc2
  refine ⟨_, rfl, hHeld, ?_⟩
  simp only [List.setIfInBounds_toArray, List.set_cons_zero, List.set_cons_succ]
  refine step1 34 (by as_aux_lemma => kernel_rfl) ?_
  refine stCall 34 37 52 #[.pointer (some ⟨A.rd, 0, none⟩)] _ rfl rfl (by rfl) (by go_simp) ((HI.out.call hHeld).rimage) ?_
  rintro e w3 ⟨q2, c2, rfl, hq2, hc3⟩
  have hHeld : Chg w w3 No := hHeld.tr hc3
  refine ⟨_, rfl, hHeld, ?_⟩
  simp only [List.setIfInBounds_toArray, List.set_cons_zero, List.set_cons_succ]
  refine step1 35 (by as_aux_lemma => kernel_rfl) ?_
  refine stCall 35 38 48 #[.slice (some ⟨q, 0, none⟩) A.n A.n, .slice (some ⟨q2, 0, none⟩) A.n c2] _ rfl rfl (by rfl) (by go_simp) (D.same_any z.d.S A.n _ _ _ _ w3 HSL.out (by omega) (D.row_bytes (hc3.keep hq (fun e => e))) hq2) ?_
  rintro e w4 ⟨rfl, nn, hn4⟩
  have hHeld : Chg w w4 No := hHeld.tr (by rw [hn4]; exact chg_drewN _ _)
  refine ⟨_, rfl, hHeld, ?_⟩
  simp only [List.setIfInBounds_toArray, List.set_cons_zero, List.set_cons_succ]
  have HX := hid hHeld
  clear hq hq2 hc2 hc3 hn4
  refine takeVal 36 39 (.bool true) rfl (by as_aux_lemma => kernel_rfl) (by as_aux_lemma => kernel_rfl) (by as_aux_lemma => kernel_rfl) rfl (by rfl) (fun _ _ _ h => h) hHeld (fun _ hw' => by go_simp) ?_
  simp only [List.setIfInBounds_toArray, List.set_cons_zero, List.set_cons_succ]
  refine takeVal 37 2 (.bool true) rfl (by as_aux_lemma => kernel_rfl) (by as_aux_lemma => kernel_rfl) (by as_aux_lemma => kernel_rfl) rfl (by rfl) (fun _ _ _ h => h) hHeld (fun _ hw' => rfl) ?_
  simp only [List.setIfInBounds_toArray, List.set_cons_zero, List.set_cons_succ]
  refine wpAnyH_done (by as_aux_lemma => kernel_rfl) ?_ _
  refine NoPanic.normal ?_
  clear hHeld
  go_wp2_with fail
  go_ret
  exact ⟨rfl, HX.out⟩
set_option maxRecDepth 100000 in
set_option maxHeartbeats 8000000 in
theorem whole_any (P : List Lst → List Lst → Prop) (hP : ∀ V M V' M', (BkEq V M → BkEq V' M') → P V M → P V' M') (h : PF w0 w A σ0 z z lo V M E) (ha : AL z) (hq : P V M) (ht : TB z) : Calls Tryz.prog 11 #[.pointer (some ⟨A.pp, 0, none⟩)] w fun e w' => e = .returned (.bool true) ∧ ∃ V' M' E', PF w0 w' A σ0 (toldC z) (toldC z) lo V' M' E' ∧ P V' M' := by
  have hn := h.inv.1.top
  have HP := hid h
  have HAl := hid ha
  have HQ := hid hq
  have HPP := hid hP
  have HT := hid ht
  have HLen : Hid (∀ W, PF w0 W A σ0 z z lo V M E → Calls Tryz.prog 53 #[.pointer (some ⟨A.rd, 0, none⟩)] W fun e w' => e = .returned (.int .i64 A.n) ∧ w' = W) := hid (fun W hW => by
    obtain ⟨σ, hI, _, _⟩ := hW
    exact hI.rlen)
  have HTl : Hid (TB (toldC z)) := hid (Nat.le_trans told_tc ht)
  have HAT : Hid (AL (toldC z)) := hid (told_al ha)
  clear h ha hq ht hP
  obtain ⟨n, hnn⟩ : ∃ n, n = A.n := ⟨_, rfl⟩
  have HN := hid hnn
  rw [← hnn] at hn HLen
  clear hnn
  go_enter Tryz.func11, Tryz.ntmps11
  go_wp2_with fail
  go_loopw [3] (fun x3 wr => ∃ i : Int, x3 = .int .i64 i ∧ -1 ≤ i ∧ i ≤ (n : Int) + 1 ∧ Hid (PF w0 wr A σ0 z z lo V M E)) (fun x3 _ => ((n : Int) + 1 - intOf x3).toNat)
  case atStart => exact ⟨-1, rfl, by omega, by omega, HP⟩
  case round =>
    obtain ⟨i, rfl, hi, hi2, HA⟩ := hrel
    have k2 : wr.cell? ⟨A.pp, 2, none⟩ = some (.pointer (some ⟨A.rd, 0, none⟩)) := pr2 HA.out.me
    have HL := HLen.out wr HA.out
    by_cases hlt : i ≤ (n : Int)
    · have HA0 := asks_0 i HA.out HAl.out
      go_wp2_with (first
        | (go_at_call 53; go_must (refine HL.mono ?_; rintro e w' ⟨rfl, hw⟩; have hw := hw.symm; subst hw; clear HL))
        | (go_at_call 39; go_must (first
            | (refine HA0.mono ?_; rintro e w2 ⟨rfl, hP2⟩; have HA1 := asks_1 i hP2 HAl.out; clear HA0 hP2)
            | (refine HA1.mono ?_; rintro e w3 ⟨rfl, hP3⟩; have HP3 := hid hP3; clear HA1 hP3)))
        | fail)
      exact ⟨⟨i + 1, by go_num, by omega, by omega, HP3⟩, by simp [intOf]; omega⟩
    · have k1 : (n : Int) < i := by omega
      go_upto_if 10 with (first
        | (go_at_call 53; go_must (refine HL.mono ?_; rintro e w' ⟨rfl, hw⟩; have hw := hw.symm; subst hw; clear HL))
        | fail)
      rw [decide_eq_false (show ¬ i ≤ (n : Int) by omega)]
      have HA2 := asks_any 2 0 HA.out HAl.out HT.out
      rw [show askZ 2 z = toldC z from if_pos rfl] at HA2
      go_wp2_with (first
        | (go_at_call 39; go_must (first
            | (refine HA2.mono ?_; rintro e w2 ⟨rfl, V2, M2, E2, hP2, hq2⟩; have HA3 := asks_3 0 hP2; have HQ2 := hid (HPP.out _ _ _ _ hq2 HQ.out); clear HA2 hP2 hq2)
            | (refine HA3.mono ?_; rintro e w3 ⟨rfl, V3, M3, hP3, hq3⟩; have HA4 := asks_4 0 hP3; have HQ3 := hid (HPP.out _ _ _ _ hq3 HQ2.out); clear HA3 hP3 hq3)
            | (refine HA4.mono ?_; rintro e w4 ⟨rfl, V4, M4, hP4, hq4⟩; have HQ4 := hid (HPP.out _ _ _ _ hq4 HQ3.out); have HA5 := asks_5 5 0 (by decide) hP4; clear HA4 hP4 hq4)
            | (refine HA5.mono ?_; rintro e w5 ⟨rfl, E5, hP5⟩; have HP5 := hid hP5; have HD : Calls Tryz.prog 10 #[.pointer (some ⟨A.pp, 0, none⟩)] w5 fun e w' => e = .returned (.bool true) ∧ Chg w5 w' No := (by obtain ⟨σ, hI, _, _⟩ := hP5; exact disks_any hI); clear HA5 hP5)))
        | (go_at_call 10; go_must (refine HD.mono ?_; rintro e w6 ⟨rfl, hc6⟩; have HC6 := hid hc6; clear HD hc6))
        | fail)
      go_ret
      exact ⟨rfl, V4, M4, E5, HP5.out.call HC6.out, HQ4.out⟩
end
end Go.Proofs.YtamoepninddbcaaGreat
