/-
  learns and stand of the statements' teller.
-/
import Derived.Test.YtgkanfmkohlmcaaGreatT1
namespace Go.Proofs.YtgkanfmkohlmcaaGreat
open Go.RowKit

open Classical in
/-- Which sectors are dirty. -/
noncomputable def flags (n : Nat) (z : CSt) : List Bool := (List.range n).map fun i : Nat => decide (z.dirty (i : Int))
theorem flags_len (n : Nat) (z : CSt) : (flags n z).length = n := by simp [flags]
theorem flags_get {n : Nat} {z : CSt} {i : Nat} (h : i < n) : (flags n z).getD i false = true ↔ z.dirty (i : Int) := by
  unfold flags
  rw [List.getD_eq_getElem?_getD, List.getElem?_map, List.getElem?_range h]
  simp
def markB (d : List Bool) (l : List Int) : List Bool := l.foldl (fun d x => d.set x.toNat true) d
theorem markB_snoc (d : List Bool) (l : List Int) (x : Int) : markB d (l ++ [x]) = (markB d l).set x.toNat true := by simp [markB]
theorem markB_len : ∀ (l : List Int) (d : List Bool), (markB d l).length = d.length
  | [], _ => rfl
  | x :: l, d => by
    show (markB (d.set x.toNat true) l).length = _
    rw [markB_len l, List.length_set]
theorem markB_get : ∀ (l : List Int) (d : List Bool) (i : Nat), i < d.length → ((markB d l).getD i false = true ↔ d.getD i false = true ∨ ∃ x, x ∈ l ∧ x.toNat = i)
  | [], d, i, _ => by simp [markB]
  | x :: l, d, i, h => by
    show (markB (d.set x.toNat true) l).getD i false = true ↔ _
    rw [markB_get l (d.set x.toNat true) i (by rw [List.length_set]; exact h)]
    have e : (d.set x.toNat true).getD i false = true ↔ d.getD i false = true ∨ x.toNat = i := by
      rw [List.getD_eq_getElem?_getD, List.getElem?_set]
      by_cases hx : x.toNat = i
      · simp [hx, h]
      · simp [hx]
    rw [e]
    constructor
    · rintro ((a | a) | ⟨y, a, b⟩)
      · exact .inl a
      · exact .inr ⟨x, by simp, a⟩
      · exact .inr ⟨y, by simp [a], b⟩
    · rintro (a | ⟨y, a, b⟩)
      · exact .inl (.inl a)
      · simp only [List.mem_cons] at a
        rcases a with rfl | a
        · exact .inl (.inr b)
        · exact .inr ⟨y, a, b⟩
theorem mark_flags {n : Nat} {z : CSt} (h : CInv n z) : markB (List.replicate n false) (secs z.dirty) = flags n z := by
  refine List.ext_getElem (by rw [markB_len, flags_len]; simp) fun i h1 h2 => ?_
  have hi : i < n := by rw [flags_len] at h2; exact h2
  have e1 := markB_get (secs z.dirty) (List.replicate n false) i (by simpa using hi)
  have e2 := flags_get (z := z) hi
  rw [List.getD_eq_getElem?_getD, List.getElem?_eq_getElem h1] at e1
  rw [List.getD_eq_getElem?_getD, List.getElem?_eq_getElem h2] at e2
  simp only [Option.getD_some] at e1 e2
  rw [Bool.eq_iff_iff, e1, e2]
  constructor
  · rintro (a | ⟨x, a, b⟩)
    · simp [hi] at a
    · have hx := secs_mem.1 a
      have := hx.1.1
      rw [show (i : Int) = x by omega]
      exact hx.2
  · intro a
    exact .inr ⟨i, secs_mem.2 ⟨h.sec a, a⟩, by simp⟩
def fallB (d : List Bool) (k : Nat) : List Bool := List.replicate k false ++ d.drop k
theorem fallB_set {d : List Bool} {k : Nat} (h : k < d.length) : (fallB d k).set k false = fallB d (k + 1) := by
  unfold fallB
  have e : List.replicate (k + 1) false = List.replicate k false ++ [false] := List.replicate_succ'
  rw [List.set_append_right _ _ (by simp), e, List.append_assoc, List.length_replicate, Nat.sub_self, List.drop_eq_getElem_cons h]
  rfl
theorem fallB_all {d : List Bool} : fallB d d.length = List.replicate d.length false := by simp [fallB]

variable {w0 w : World} {t c p g n : Nat} {s : TSt}

set_option maxRecDepth 100000 in
set_option maxHeartbeats 4000000 in
theorem learns_t {lb db : Nat} {ρ : Nat → Option Role} {ov : Value} (h : IsT w0 w t c p g n lb db ρ ov s) : Calls Tryz.prog 55 #[.pointer (some ⟨t, 0, none⟩)] w fun e w' => e = .returned (.tuple #[]) ∧ IsT w0 w' t c p g n lb db ρ ov { s with di := flags n s.z } ∧ Chg w w' (· = db) := by
  have k1 := h.c1
  have HD := dirty_any h.ca
  have HMF := hid (mark_flags h.ca.inv)
  have HIN := hid h.ca.inv
  have hn : n ≤ 4096 := h.ca.inv.top
  have H := hid h
  have hdlt := slt h.da
  clear h
  generalize hsl : secs s.z.dirty = l at *
  have HSL := hid hsl
  have hll : l.length ≤ 4096 := by rw [← hsl]; exact secs_len _
  clear hsl
  go_enter Tryz.func55, Tryz.ntmps55
  go_wp2_with (first
    | (go_at_call 11; go_must (refine HD.mono ?_; rintro e w1 ⟨v1, rfl, hv1, hc1⟩; obtain ⟨a2, c2, rfl, hlat1, hge1⟩ := hv1.lat; clear HD))
    | fail)
  have HLat := hid hlat1
  have HGE := hid hge1
  have H1 := hid (H.out.call hc1)
  have HC1 := hid hc1
  clear hlat1 hge1 hc1 hv1
  generalize hlen : l.length = m at *
  go_loopw [3] (fun i wr => ∃ (k : Nat) (wq : World), wq = wr ∧ k ≤ n ∧ i = .int .i64 k ∧ IsT w0 wq t c p g n lb db ρ ov { s with di := fallB s.di k } ∧ Chg w1 wq (· = db)) (fun i _ => n - (intOf i).toNat)
  case atStart => exact ⟨0, w1, rfl, by omega, rfl, H1.out, Chg.refl _ _⟩
  case round =>
    obtain ⟨k, wA, rfl, hk, rfl, hA, hcA⟩ := hrel
    by_cases hlt : k < n
    · have k3 := hA.c3
      have kd := hA.dc hlt
      have fd := frozen_of_row wA db k _ _ hA.da
      have hi0 : (0 : Int) ≤ (k : Int) := by omega
      have hi1 : (k : Int) < (n : Int) := by omega
      have HA := hid (And.intro hA hcA)
      clear hA hcA
      go_wp2_with fail
      obtain ⟨hA, hcA⟩ := HA.out
      refine ⟨⟨k + 1, _, rfl, by omega, by go_num, ?_, hcA.trans Chg.setCell (fun _ _ e => e) (fun _ _ e => e)⟩, by simp [intOf]; omega⟩
      have := hA.flag k false
      simp only at this
      rw [fallB_set (by rw [H.out.dl]; exact hlt)] at this
      exact this
    · have hkn : k = n := by omega
      have hfa : fallB s.di k = List.replicate n false := by rw [hkn, ← H.out.dl]; exact fallB_all
      rw [hfa] at hA
      have k3 := hA.c3
      have HA := hid (And.intro hA hcA)
      have hdlw := slt hA.da
      clear hA hcA hfa
      go_wp2_with fail
      go_loopw [4] (fun i wr => ∃ (k : Nat) (wq : World), wq = wr ∧ k ≤ m ∧ i = .int .i64 k ∧ IsT w0 wq t c p g n lb db ρ ov { s with di := markB (List.replicate n false) (l.take k) } ∧ Chg w1 wq (· = db)) (fun i _ => m - (intOf i).toNat)
      case atStart => exact ⟨0, wA, rfl, by omega, rfl, HA.out.1, HA.out.2⟩
      case round =>
      clear k3
      obtain ⟨k, wB, rfl, hk, rfl, hB, hcB⟩ := hrel
      by_cases hlt2 : k < m
      · have hlatB := HLat.out.keep hcB (fun g2 hg2 e => by have := HGE.out g2 hg2; omega)
        rcases hlatB with h0 | ⟨g2, rfl, hg2, hcell⟩
        · rw [h0] at hlen; simp at hlen; omega
        have hge2 := HGE.out g2 rfl
        have p1 := hcell k (by omega)
        have htk := take_snoc (l := l) (k := k) (by omega)
        have hmem := getD_mem (l := l) (k := k) (by omega)
        generalize hx : l.getD k 0 = x at *
        have hxd : s.z.dirty x := by rw [← HSL.out] at hmem; exact (secs_mem.1 hmem).2
        have hxb := HIN.out.ok x hxd
        have hx0 : (0 : Int) ≤ x := hxb.1
        have hx1 : x < (n : Int) := hxb.2
        have hd1 : decide (0 ≤ x) = true := by simpa using hx0
        have hi0 : (0 : Int) ≤ (k : Int) := by omega
        have hi1 : (k : Int) < (m : Int) := by omega
        have k3 := hB.c3
        have HB := hid (And.intro hB (And.intro hcB (And.intro htk hg2)))
        clear hB hcB htk hcell hmem hx
        go_wp2_with fail
        go_quiet (fail)
        go_wp2_with fail
        generalize hwD : wB.drewN _ = wD
        have hBD : IsT w0 wD t c p g n lb db ρ ov { s with di := markB (List.replicate n false) (l.take k) } := by rw [← hwD]; exact HB.out.1.call (chg_drewN _ _)
        have hcD : Chg w1 wD (· = db) := by rw [← hwD]; exact HB.out.2.1.trans (chg_drewN _ _) (fun _ _ e => e) (fun _ _ e => e.elim)
        have KX : Hid (wD.cell? ⟨g2, k, none⟩ = some (.int .i64 x)) := by show _ = _; rw [← hwD]; exact p1
        have K3 := hid hBD.c3
        have HTF := hid (fun k b => (hBD.call (Chg.refl wD No).drew).flag k b)
        have KD := hid ((hBD.call (Chg.refl wD No).drew).dc (k := x.toNat) (by omega))
        have FD := hid (frozen_of_row wD.drew db x.toNat _ _ (hBD.call (Chg.refl wD No).drew).da)
        have HGC : Hid ((wD.drew.setCell ⟨db, x.toNat, none⟩ (.bool true)).cell? ⟨g2, k, none⟩ = some (.int .i64 x)) := by
          show _ = _
          rw [World.cell?_of_block (heap_setCell_other wD.drew ⟨db, x.toNat, none⟩ g2 _ (by simp; omega))]
          exact KX.out
        have HBD := hid (And.intro hBD hcD)
        clear hBD hcD hwD k3 p1
        refine wp_region_noPanic ?_
        refine wp_region_held_drew (S := fun w' => w'.cell? ⟨t, 3, none⟩ = some (.slice (some ⟨db, 0, none⟩) n n) ∧ w'.cell? ⟨g2, k, none⟩ = some (.int .i64 x)) (by kernel_rfl) ⟨K3.out, KX.out⟩ (fun hHeld => ?_)
        refine takeVal 0 48 (.pointer (some ⟨t, 0, none⟩)) rfl (by kernel_rfl) (by kernel_rfl) (by kernel_rfl) rfl (by rfl) (fun _ _ _ h => h) hHeld (fun _ hw' => rfl) ?_
        simp only [List.setIfInBounds_toArray, List.set_cons_zero, List.set_cons_succ]
        refine takeVal 1 49 (.pointer (some ⟨t, 0, none⟩)) rfl (by kernel_rfl) (by kernel_rfl) (by kernel_rfl) rfl (by rfl) (fun _ _ _ h => h) hHeld (fun _ hw' => by go_simp) ?_
        simp only [List.setIfInBounds_toArray, List.set_cons_zero, List.set_cons_succ]
        refine takeVal 2 50 (.pointer (some ⟨t, 3, none⟩)) rfl (by kernel_rfl) (by kernel_rfl) (by kernel_rfl) rfl (by rfl) (fun _ _ _ h => h) hHeld (fun _ hw' => by go_simp) ?_
        simp only [List.setIfInBounds_toArray, List.set_cons_zero, List.set_cons_succ]
        refine takeVal 3 51 (.slice (some ⟨db, 0, none⟩) n n) rfl (by kernel_rfl) (by kernel_rfl) (by kernel_rfl) rfl (by rfl) (fun _ _ _ h => h) hHeld (fun _ hw' => by have hq' := hw'.1; go_simp) ?_
        simp only [List.setIfInBounds_toArray, List.set_cons_zero, List.set_cons_succ]
        refine takeVal 4 52 (.slice (some ⟨g2, 0, none⟩) m c2) rfl (by kernel_rfl) (by kernel_rfl) (by kernel_rfl) rfl (by rfl) (fun _ _ _ h => h) hHeld (fun _ hw' => rfl) ?_
        simp only [List.setIfInBounds_toArray, List.set_cons_zero, List.set_cons_succ]
        refine takeVal 5 53 (.int .i64 (k : Int)) rfl (by kernel_rfl) (by kernel_rfl) (by kernel_rfl) rfl (by rfl) (fun _ _ _ h => h) hHeld (fun _ hw' => rfl) ?_
        simp only [List.setIfInBounds_toArray, List.set_cons_zero, List.set_cons_succ]
        refine takeVal 6 54 (.pointer (some ⟨g2, k, none⟩)) rfl (by kernel_rfl) (by kernel_rfl) (by kernel_rfl) rfl (by rfl) (fun _ _ _ h => h) hHeld (fun _ hw' => by go_simp) ?_
        simp only [List.setIfInBounds_toArray, List.set_cons_zero, List.set_cons_succ]
        refine takeVal 7 55 (.int .i64 x) rfl (by kernel_rfl) (by kernel_rfl) (by kernel_rfl) rfl (by rfl) (fun _ _ _ h => h) hHeld (fun _ hw' => by have hq' := hw'.2; go_simp) ?_
        simp only [List.setIfInBounds_toArray, List.set_cons_zero, List.set_cons_succ]
        refine takeVal 8 56 (.pointer (some ⟨db, x.toNat, none⟩)) rfl (by kernel_rfl) (by kernel_rfl) (by kernel_rfl) rfl (by rfl) (fun _ _ _ h => h) hHeld (fun _ hw' => by go_simp) ?_
        simp only [List.setIfInBounds_toArray, List.set_cons_zero, List.set_cons_succ]
        refine step1 9 (by kernel_rfl) ?_
        refine stCell 9 (wD.drew.setCell ⟨db, x.toNat, none⟩ (.bool true)) rfl rfl (by rfl) (by have q1 := KD.out; have q2 := FD.out; go_simp) ?_
        refine ⟨⟨(by rw [cell_of_row _ _ _ _ _ _ (show (wD.drew.setCell ⟨db, x.toNat, none⟩ (.bool true)).heap[t]? = _ from (HTF.out x.toNat true).me)]; rfl), HGC.out⟩, ?_⟩
        refine wpAnyH_done (by kernel_rfl) ?_ _
        refine NoPanic.normal ?_

        go_wp2_with fail
        obtain ⟨hBD, hcD⟩ := HBD.out
        refine ⟨⟨k + 1, _, rfl, by omega, by go_num, ?_, (hcD.trans (Chg.refl wD No).drew (c := (· = db)) (fun _ _ e => e) (fun _ _ e => e.elim)).trans Chg.setCell (fun _ _ e => e) (fun _ _ e => e)⟩, by simp [intOf]; omega⟩
        rw [HB.out.2.2.1, markB_snoc]
        exact HTF.out x.toNat true
      · have hkm : k = m := by omega
        have htk : l.take k = l := List.take_of_length_le (by omega)
        rw [htk, HMF.out] at hB
        have HB := hid (And.intro hB hcB)
        clear hB hcB
        go_wp2_with fail
        go_end0
        exact ⟨rfl, HB.out.1, HC1.out.trans HB.out.2 (fun _ _ e => e.elim) (fun _ _ e => e)⟩

theorem learns_any (h : FT w0 w t c p g n s) : Calls Tryz.prog 55 #[.pointer (some ⟨t, 0, none⟩)] w fun e w' => e = .returned (.tuple #[]) ∧ FT w0 w' t c p g n { s with di := flags n s.z } := by
  obtain ⟨lb, db, ρ, ov, h⟩ := h
  exact (learns_t h).mono fun e w' hh => ⟨hh.1, lb, db, ρ, ov, hh.2.1⟩

end Go.Proofs.YtgkanfmkohlmcaaGreat
