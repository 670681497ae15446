/-
  step of the statements' teller.
-/
import Derived.Test.YtgkanfmkohlmcaaGreatT9
namespace Go.Proofs.YtgkanfmkohlmcaaGreat
open Go.RowKit

theorem made_is (v : Value) (n : Nat) : madeCells #[v] n = (List.replicate n v).toArray := by
  apply Array.ext
  · simp [size_madeCells]
  · intro i h1 h2
    have e : (#[v] : Array Value)[i % 1]! = v := by rw [Nat.mod_one]; rfl
    simp only [madeCells, Array.getElem_map, Array.getElem_range]
    rw [show (#[v] : Array Value).size = 1 from rfl, e]
    simp
theorem make_intsN (n : Nat) (h1 : n ≤ 4096) (w : World) :
    (Instr.makeSlice 26 (.int .i64 (n : Int)) (.int .i64 (n : Int))).run Tryz.prog w = .ok (.slice (some ⟨w.heap.size, 0, none⟩) n n) (w.alloc (.cells (IA (List.replicate n 0)) 3)) := by
  obtain ⟨i, hi, hz, hs, hb⟩ := infoI
  rw [run_make w 26 3 i _ Tryz.underlying26 hi hz .i64 .i64 n n (by omega) (Int.le_refl _) (by rw [hb]; omega) (by omega), hs, Nat.mul_one]
  rw [show Value.cells (.int .i64 0) = #[Value.int .i64 0] from rfl, made_is]
  simp [IA]
theorem make_boolsN (n : Nat) (h1 : n ≤ 4096) (w : World) :
    (Instr.makeSlice 30 (.int .i64 (n : Int)) (.int .i64 (n : Int))).run Tryz.prog w = .ok (.slice (some ⟨w.heap.size, 0, none⟩) n n) (w.alloc (.cells (BA (List.replicate n false)) 4)) := by
  obtain ⟨i, hi, hz, hs, hb⟩ := infoBo
  rw [run_make w 30 4 i _ Tryz.underlying30 hi hz .i64 .i64 n n (by omega) (Int.le_refl _) (by rw [hb]; omega) (by omega), hs, Nat.mul_one]
  rw [show Value.cells (.bool false) = #[Value.bool false] from rfl, made_is]
  simp [BA]
def startT (n : Nat) : TSt := ⟨newZ (D.D0 (D.zl (128 * n))), List.replicate n 0, List.replicate n false, [], 1⟩
/-- A teller is made. -/
theorem start_is {w0 w3 wE : World} {c p g n lb db : Nat} {ρ : Nat → Option Role} (ca : IsC w3 c p g n ρ (newZ (D.D0 (D.zl (128 * n))))) (hch : Chg w0 w3 No) (ho : ∀ k, Own ρ k → w0.heap.size ≤ k) (hc : Chg w3 wE No)
    (hl : wE.heap[lb]? = some (.cells (IA (List.replicate n 0)) 3 (0, 0))) (hb : wE.heap[db]? = some (.cells (BA (List.replicate n false)) 4 (0, 0))) (hlg : w3.heap.size ≤ lb) (hdg : w3.heap.size ≤ db) :
    FT w0 (wE.alloc (.cells (TC p c lb db n (.slice none 0 0) 1) 33)) wE.heap.size c p g n (startT n) := by
  have h1 := hch.size
  have h2 := hc.size
  have ha : Chg wE (wE.alloc (.cells (TC p c lb db n (.slice none 0 0) 1) 33)) No := Chg.alloc _ _ _
  have hn : ∀ k, w3.heap.size ≤ k → ¬ Own ρ k := fun k hk e => by have := ca.lt e; omega
  exact ⟨lb, db, ρ, .slice none 0 0, heap_alloc_new _ _, (ca.call hc).call ha, ha.keep hl (fun e => e), ha.keep hb (fun e => e), World.ownsRow_nil _ _ _ _, by simp [startT], by simp [startT], hn _ h2, hn _ hlg, hn _ hdg, fun k hk => by (cases hk), by omega, by omega, by omega, ho, (hch.tr hc).tr ha⟩

set_option maxRecDepth 100000 in
set_option maxHeartbeats 4000000 in
theorem starts_any (x : Int) (hx : I64 x) (w : World) (n : Nat) (hn : 8 + D.pickN x 25 = (n : Int)) : Calls Tryz.prog 28 #[.int .i64 x] w fun e w' => ∃ t c p g, e = .returned (.pointer (some ⟨t, 0, none⟩)) ∧ FT w w' t c p g n (startT n) := by
  have hb := D.pickN_bd x (n := 25) (by omega)
  have HZ : Hid (∀ w, Calls Tryz.prog 50 #[.int .i64 x] w fun e w' => e = .returned (.int .i64 (n : Int)) ∧ w' = w) := fun w => by
    have := size_any x hx w
    rw [hn] at this
    exact this
  have HN4 : Hid (n ≤ 4096) := by show _ ≤ _; omega
  have HZ1 := HZ.out w
  have HN := D.new_ok n w (by omega) HN4.out
  have zw : 0 ≤ (D.D0 (D.zl (128 * n))).wr := by show (0 : Int) ≤ 0; decide
  have zl : 0 ≤ (D.D0 (D.zl (128 * n))).lf ∧ (D.D0 (D.zl (128 * n))).lf ≤ 9223372036854775807 := by show (0 : Int) ≤ 0 ∧ (0 : Int) ≤ _; decide
  have HZW := hid (And.intro zw zl)
  clear hn hb zw zl
  go_enter Tryz.func28, Tryz.ntmps28
  go_wp2_with (first
    | (go_at_call 50; go_must (refine HZ1.mono ?_; rintro e w1 ⟨rfl, e1⟩; subst e1; clear HZ1))
    | (go_at_call 30; go_must (refine HN.mono ?_; rintro e w2 ⟨p, g, rfl, hp, hg, hd1, hb1⟩; have HC := newC_any hd1 HZW.out.1 HZW.out.2; have HC02 := hid (Chg.of_below hb1 No); have HPG := hid (And.intro hp hg); clear HN hd1 hb1 hp hg))
    | (go_at_call 31; go_must (refine HC.mono ?_; rintro e w3 ⟨c, ρ3, rfl, hC3, ho3, _, hc3⟩; have HC3 := hid (And.intro hC3 (And.intro (own_new ho3 HPG.out.1 HPG.out.2 HC02.out.size) (HC02.out.tr hc3))); clear HC hC3 ho3 hc3))
    | fail)
  refine wp_region_noPanic ?_
  refine wp_region_held_drew (S := fun _ => True) (by as_aux_lemma => kernel_rfl) trivial (fun hHeld => ?_)
  refine takeVal 0 30 (.pointer (some ⟨p, 0, none⟩)) rfl (by as_aux_lemma => kernel_rfl) (by as_aux_lemma => kernel_rfl) (by as_aux_lemma => kernel_rfl) rfl (by rfl) (fun _ _ _ h => h) hHeld (fun _ hw' => rfl) ?_
  simp only [List.setIfInBounds_toArray, List.set_cons_zero, List.set_cons_succ]
  refine takeVal 1 31 (.pointer (some ⟨c, 0, none⟩)) rfl (by as_aux_lemma => kernel_rfl) (by as_aux_lemma => kernel_rfl) (by as_aux_lemma => kernel_rfl) rfl (by rfl) (fun _ _ _ h => h) hHeld (fun _ hw' => rfl) ?_
  simp only [List.setIfInBounds_toArray, List.set_cons_zero, List.set_cons_succ]
  refine takeVal 2 32 (.int .i64 x) rfl (by as_aux_lemma => kernel_rfl) (by as_aux_lemma => kernel_rfl) (by as_aux_lemma => kernel_rfl) rfl (by rfl) (fun _ _ _ h => h) hHeld (fun _ hw' => rfl) ?_
  simp only [List.setIfInBounds_toArray, List.set_cons_zero, List.set_cons_succ]
  refine takeVal 5 35 (.int .i64 x) rfl (by as_aux_lemma => kernel_rfl) (by as_aux_lemma => kernel_rfl) (by as_aux_lemma => kernel_rfl) rfl (by rfl) (fun _ _ _ h => h) hHeld (fun _ hw' => rfl) ?_
  simp only [List.setIfInBounds_toArray, List.set_cons_zero, List.set_cons_succ]
  refine step1 3 (by as_aux_lemma => kernel_rfl) ?_
  refine stCall 3 33 50 #[.int .i64 x] _ rfl rfl (by rfl) (by go_simp) (HZ.out _) ?_
  rintro e w' ⟨rfl, e'⟩
  subst e'
  refine ⟨_, rfl, trivial, ?_⟩
  simp only [List.setIfInBounds_toArray, List.set_cons_zero, List.set_cons_succ]
  refine step2 4 6 (by as_aux_lemma => kernel_rfl) ?_ ?_
  · refine stNew 4 34 (.slice (some ⟨(w3.drew).heap.size, 0, none⟩) n n) (.cells (IA (List.replicate n 0)) 3) rfl rfl (by rfl) (by have hq' := make_intsN n HN4.out; go_simp) ?_
    refine ⟨trivial, ?_⟩
    simp only [List.setIfInBounds_toArray, List.set_cons_zero, List.set_cons_succ]
    refine step1 6 (by as_aux_lemma => kernel_rfl) ?_
    refine stCall 6 36 50 #[.int .i64 x] _ rfl rfl (by rfl) (by go_simp) (HZ.out _) ?_
    rintro e w' ⟨rfl, e'⟩
    subst e'
    refine ⟨_, rfl, trivial, ?_⟩
    simp only [List.setIfInBounds_toArray, List.set_cons_zero, List.set_cons_succ]
    refine step1 7 (by as_aux_lemma => kernel_rfl) ?_
    refine stNew 7 37 (.slice (some ⟨((w3.drew).alloc (.cells (IA (List.replicate n 0)) 3)).heap.size, 0, none⟩) n n) (.cells (BA (List.replicate n false)) 4) rfl rfl (by rfl) (by have hq' := make_boolsN n HN4.out; go_simp) ?_
    refine ⟨trivial, ?_⟩
    simp only [List.setIfInBounds_toArray, List.set_cons_zero, List.set_cons_succ]
    refine takeVal 8 38 (.agg (TC p c ((w3.drew).heap.size) (((w3.drew).alloc (.cells (IA (List.replicate n 0)) 3)).heap.size) n (.slice none 0 0) 1)) rfl (by as_aux_lemma => kernel_rfl) (by as_aux_lemma => kernel_rfl) (by as_aux_lemma => kernel_rfl) rfl (by rfl) (fun _ _ _ h => h) trivial (fun _ hw' => by go_simp; first | done | rfl) ?_
    simp only [List.setIfInBounds_toArray, List.set_cons_zero, List.set_cons_succ]
    refine step1 9 (by as_aux_lemma => kernel_rfl) ?_
    refine stNew 9 39 (.pointer (some ⟨((((w3.drew).alloc (.cells (IA (List.replicate n 0)) 3)).alloc (.cells (BA (List.replicate n false)) 4))).heap.size, 0, none⟩)) (.cells (TC p c ((w3.drew).heap.size) (((w3.drew).alloc (.cells (IA (List.replicate n 0)) 3)).heap.size) n (.slice none 0 0) 1) 33) rfl rfl (by rfl) (by go_simp; first | done | rfl) ?_
    refine ⟨trivial, ?_⟩
    simp only [List.setIfInBounds_toArray, List.set_cons_zero, List.set_cons_succ]
    refine takeVal 10 2 (.pointer (some ⟨((((w3.drew).alloc (.cells (IA (List.replicate n 0)) 3)).alloc (.cells (BA (List.replicate n false)) 4))).heap.size, 0, none⟩)) rfl (by as_aux_lemma => kernel_rfl) (by as_aux_lemma => kernel_rfl) (by as_aux_lemma => kernel_rfl) rfl (by rfl) (fun _ _ _ h => h) trivial (fun _ hw' => by rfl) ?_
    simp only [List.setIfInBounds_toArray, List.set_cons_zero, List.set_cons_succ]
    refine wpAnyH_done (by as_aux_lemma => kernel_rfl) ?_ _
    refine NoPanic.normal ?_
    have hFT := start_is (lb := (w3.drew).heap.size) (db := ((w3.drew).alloc (.cells (IA (List.replicate n 0)) 3)).heap.size) (wE := (((w3.drew).alloc (.cells (IA (List.replicate n 0)) 3)).alloc (.cells (BA (List.replicate n false)) 4))) HC3.out.1 HC3.out.2.2 HC3.out.2.1 (((Chg.refl w3 No).drew.tr (Chg.alloc _ _ _)).tr (Chg.alloc _ _ _)) ((Chg.alloc ((w3.drew).alloc (.cells (IA (List.replicate n 0)) 3)) (.cells (BA (List.replicate n false)) 4) No).keep (heap_alloc_new (w3.drew) (.cells (IA (List.replicate n 0)) 3)) (fun e => e)) (heap_alloc_new ((w3.drew).alloc (.cells (IA (List.replicate n 0)) 3)) (.cells (BA (List.replicate n false)) 4)) (by simp) (by simp)
    go_wp2_with fail
    go_ret
    exact ⟨_, c, p, g, rfl, hFT⟩
  · refine stCall 6 36 50 #[.int .i64 x] _ rfl rfl (by rfl) (by go_simp) (HZ.out _) ?_
    rintro e w' ⟨rfl, e'⟩
    subst e'
    refine ⟨_, rfl, trivial, ?_⟩
    simp only [List.setIfInBounds_toArray, List.set_cons_zero, List.set_cons_succ]
    refine step2 4 7 (by as_aux_lemma => kernel_rfl) ?_ ?_
    · refine stNew 4 34 (.slice (some ⟨(w3.drew).heap.size, 0, none⟩) n n) (.cells (IA (List.replicate n 0)) 3) rfl rfl (by rfl) (by have hq' := make_intsN n HN4.out; go_simp) ?_
      refine ⟨trivial, ?_⟩
      simp only [List.setIfInBounds_toArray, List.set_cons_zero, List.set_cons_succ]
      refine step1 7 (by as_aux_lemma => kernel_rfl) ?_
      refine stNew 7 37 (.slice (some ⟨((w3.drew).alloc (.cells (IA (List.replicate n 0)) 3)).heap.size, 0, none⟩) n n) (.cells (BA (List.replicate n false)) 4) rfl rfl (by rfl) (by have hq' := make_boolsN n HN4.out; go_simp) ?_
      refine ⟨trivial, ?_⟩
      simp only [List.setIfInBounds_toArray, List.set_cons_zero, List.set_cons_succ]
      refine takeVal 8 38 (.agg (TC p c ((w3.drew).heap.size) (((w3.drew).alloc (.cells (IA (List.replicate n 0)) 3)).heap.size) n (.slice none 0 0) 1)) rfl (by as_aux_lemma => kernel_rfl) (by as_aux_lemma => kernel_rfl) (by as_aux_lemma => kernel_rfl) rfl (by rfl) (fun _ _ _ h => h) trivial (fun _ hw' => by go_simp; first | done | rfl) ?_
      simp only [List.setIfInBounds_toArray, List.set_cons_zero, List.set_cons_succ]
      refine step1 9 (by as_aux_lemma => kernel_rfl) ?_
      refine stNew 9 39 (.pointer (some ⟨((((w3.drew).alloc (.cells (IA (List.replicate n 0)) 3)).alloc (.cells (BA (List.replicate n false)) 4))).heap.size, 0, none⟩)) (.cells (TC p c ((w3.drew).heap.size) (((w3.drew).alloc (.cells (IA (List.replicate n 0)) 3)).heap.size) n (.slice none 0 0) 1) 33) rfl rfl (by rfl) (by go_simp; first | done | rfl) ?_
      refine ⟨trivial, ?_⟩
      simp only [List.setIfInBounds_toArray, List.set_cons_zero, List.set_cons_succ]
      refine takeVal 10 2 (.pointer (some ⟨((((w3.drew).alloc (.cells (IA (List.replicate n 0)) 3)).alloc (.cells (BA (List.replicate n false)) 4))).heap.size, 0, none⟩)) rfl (by as_aux_lemma => kernel_rfl) (by as_aux_lemma => kernel_rfl) (by as_aux_lemma => kernel_rfl) rfl (by rfl) (fun _ _ _ h => h) trivial (fun _ hw' => by rfl) ?_
      simp only [List.setIfInBounds_toArray, List.set_cons_zero, List.set_cons_succ]
      refine wpAnyH_done (by as_aux_lemma => kernel_rfl) ?_ _
      refine NoPanic.normal ?_
      have hFT := start_is (lb := (w3.drew).heap.size) (db := ((w3.drew).alloc (.cells (IA (List.replicate n 0)) 3)).heap.size) (wE := (((w3.drew).alloc (.cells (IA (List.replicate n 0)) 3)).alloc (.cells (BA (List.replicate n false)) 4))) HC3.out.1 HC3.out.2.2 HC3.out.2.1 (((Chg.refl w3 No).drew.tr (Chg.alloc _ _ _)).tr (Chg.alloc _ _ _)) ((Chg.alloc ((w3.drew).alloc (.cells (IA (List.replicate n 0)) 3)) (.cells (BA (List.replicate n false)) 4) No).keep (heap_alloc_new (w3.drew) (.cells (IA (List.replicate n 0)) 3)) (fun e => e)) (heap_alloc_new ((w3.drew).alloc (.cells (IA (List.replicate n 0)) 3)) (.cells (BA (List.replicate n false)) 4)) (by simp) (by simp)
      go_wp2_with fail
      go_ret
      exact ⟨_, c, p, g, rfl, hFT⟩
    · refine stNew 7 37 (.slice (some ⟨(w3.drew).heap.size, 0, none⟩) n n) (.cells (BA (List.replicate n false)) 4) rfl rfl (by rfl) (by have hq' := make_boolsN n HN4.out; go_simp) ?_
      refine ⟨trivial, ?_⟩
      simp only [List.setIfInBounds_toArray, List.set_cons_zero, List.set_cons_succ]
      refine step1 4 (by as_aux_lemma => kernel_rfl) ?_
      refine stNew 4 34 (.slice (some ⟨((w3.drew).alloc (.cells (BA (List.replicate n false)) 4)).heap.size, 0, none⟩) n n) (.cells (IA (List.replicate n 0)) 3) rfl rfl (by rfl) (by have hq' := make_intsN n HN4.out; go_simp) ?_
      refine ⟨trivial, ?_⟩
      simp only [List.setIfInBounds_toArray, List.set_cons_zero, List.set_cons_succ]
      refine takeVal 8 38 (.agg (TC p c (((w3.drew).alloc (.cells (BA (List.replicate n false)) 4)).heap.size) ((w3.drew).heap.size) n (.slice none 0 0) 1)) rfl (by as_aux_lemma => kernel_rfl) (by as_aux_lemma => kernel_rfl) (by as_aux_lemma => kernel_rfl) rfl (by rfl) (fun _ _ _ h => h) trivial (fun _ hw' => by go_simp; first | done | rfl) ?_
      simp only [List.setIfInBounds_toArray, List.set_cons_zero, List.set_cons_succ]
      refine step1 9 (by as_aux_lemma => kernel_rfl) ?_
      refine stNew 9 39 (.pointer (some ⟨((((w3.drew).alloc (.cells (BA (List.replicate n false)) 4)).alloc (.cells (IA (List.replicate n 0)) 3))).heap.size, 0, none⟩)) (.cells (TC p c (((w3.drew).alloc (.cells (BA (List.replicate n false)) 4)).heap.size) ((w3.drew).heap.size) n (.slice none 0 0) 1) 33) rfl rfl (by rfl) (by go_simp; first | done | rfl) ?_
      refine ⟨trivial, ?_⟩
      simp only [List.setIfInBounds_toArray, List.set_cons_zero, List.set_cons_succ]
      refine takeVal 10 2 (.pointer (some ⟨((((w3.drew).alloc (.cells (BA (List.replicate n false)) 4)).alloc (.cells (IA (List.replicate n 0)) 3))).heap.size, 0, none⟩)) rfl (by as_aux_lemma => kernel_rfl) (by as_aux_lemma => kernel_rfl) (by as_aux_lemma => kernel_rfl) rfl (by rfl) (fun _ _ _ h => h) trivial (fun _ hw' => by rfl) ?_
      simp only [List.setIfInBounds_toArray, List.set_cons_zero, List.set_cons_succ]
      refine wpAnyH_done (by as_aux_lemma => kernel_rfl) ?_ _
      refine NoPanic.normal ?_
      have hFT := start_is (lb := ((w3.drew).alloc (.cells (BA (List.replicate n false)) 4)).heap.size) (db := (w3.drew).heap.size) (wE := (((w3.drew).alloc (.cells (BA (List.replicate n false)) 4)).alloc (.cells (IA (List.replicate n 0)) 3))) HC3.out.1 HC3.out.2.2 HC3.out.2.1 (((Chg.refl w3 No).drew.tr (Chg.alloc _ _ _)).tr (Chg.alloc _ _ _)) (heap_alloc_new ((w3.drew).alloc (.cells (BA (List.replicate n false)) 4)) (.cells (IA (List.replicate n 0)) 3)) ((Chg.alloc ((w3.drew).alloc (.cells (BA (List.replicate n false)) 4)) (.cells (IA (List.replicate n 0)) 3) No).keep (heap_alloc_new (w3.drew) (.cells (BA (List.replicate n false)) 4)) (fun e => e)) (by simp) (by simp)
      go_wp2_with fail
      go_ret
      exact ⟨_, c, p, g, rfl, hFT⟩

end Go.Proofs.YtgkanfmkohlmcaaGreat

namespace Go.Proofs.YtgkanfmkohlmcaaGreat
open Go.RowKit

variable {w0 w : World} {t c p g n : Nat} {s : TSt}

theorem szSt : (Tryz.prog.info? 37).map (·.size) = some 5 := by kernel_rfl
theorem StepB.range {w : World} {b : Nat} {x : SV} {a : Option Addr} {ca : Nat} (h : StepB w b x a ca) : w.rangeAt b 0 (x.cells a ca) := fun i v hv => by
  rw [cell_of_row _ _ _ _ _ _ h, Nat.zero_add]
  simpa using hv
theorem FT.c0 (h : FT w0 w t c p g n s) : w.cell? ⟨t, 0, none⟩ = some (.pointer (some ⟨p, 0, none⟩)) := let ⟨_, _, _, _, h⟩ := h; h.c0
theorem FT.c1 (h : FT w0 w t c p g n s) : w.cell? ⟨t, 1, none⟩ = some (.pointer (some ⟨c, 0, none⟩)) := let ⟨_, _, _, _, h⟩ := h; h.c1
theorem FT.chg (h : FT w0 w t c p g n s) : Chg w0 w No := let ⟨_, _, _, _, h⟩ := h; h.ch
theorem FT.down (h : FT w0 w t c p g n s) : Calls Tryz.prog 53 #[.pointer (some ⟨p, 0, none⟩)] w fun e w' => e = .returned (.bool s.z.d.dn) ∧ w' = w := by
  obtain ⟨_, _, _, _, h⟩ := h
  obtain ⟨_, _, _, _, _, hc⟩ := h.ca
  exact D.down_any w hc.dk
/-- A disk that is not armed, its power on. -/
def Calm (z : CSt) : Prop := z.d.ar = false ∧ z.d.dn = false
theorem writeD_calm {d : D.St8} {n : Nat} {x : Int} {v : List Int} (h : d.ar = false) : (D.writeD d n x v).ar = false ∧ (D.writeD d n x v).dn = d.dn := by
  unfold D.writeD
  split
  · rw [if_neg (by simp [h])]
    exact ⟨h, rfl⟩
  · exact ⟨h, rfl⟩
theorem wrC_calm {n : Nat} {z : CSt} (h : Calm z) (x : Int) : Calm (wrC n z x).1 := by
  have hw : ∀ v, (D.writeD z.d n x v).ar = false ∧ (D.writeD z.d n x v).dn = false := fun v => ⟨(writeD_calm h.1).1, (writeD_calm h.1).2.trans h.2⟩
  unfold wrC
  split
  · exact h
  · split
    · exact h
    · split
      · exact hw _
      · exact hw _
theorem wAll_calm {n : Nat} : ∀ (k : Nat) (z : CSt) (l : List Int), Calm z → Calm (wAll n k z l).1
  | 0, _, _, h => h
  | k + 1, z, l, h => by
    unfold wAll
    split
    · exact h
    · split
      · exact wAll_calm k _ _ (wrC_calm h _)
      · exact wrC_calm h _
theorem drainC_calm {n : Nat} {z : CSt} (h : Calm z) (x : Int) : Calm (drainC n z x).1 := by
  unfold drainC
  split
  · exact wAll_calm _ _ _ h
  · exact h
theorem clearC_calm {n : Nat} {z : CSt} (h : Calm z) (x : Int) (l : List Int) : Calm (clearC n z x l).1 := by
  unfold clearC
  split
  · exact drainC_calm h x
  · exact h
theorem putC_calm {n : Nat} {z : CSt} (h : Calm z) (x : Int) (v l : List Int) : Calm (putC n z x v l).1 := by
  unfold putC
  split
  · split
    · exact clearC_calm h x l
    · exact clearC_calm h x l
  · exact h
theorem flushC_calm {n : Nat} {z : CSt} (h : Calm z) (x : Int) : Calm (flushC n z x).1 := by
  unfold flushC
  split
  · split
    · exact wrC_calm h x
    · exact h
  · exact h
theorem syncC_calm {n : Nat} {z : CSt} (h : Calm z) : Calm (syncC n z).1 := wAll_calm _ _ _ h
theorem ua_of {z : CSt} {e : Int} (hw : Went (z, e)) (hc : Calm z) : z.d.ar = false ∧ e = 0 := by
  refine ⟨hc.1, ?_⟩
  rcases hw with k | k
  · exact k.1
  · have := k.2
    simp only at this
    rw [hc.2] at this
    cases this
/-- What a step leaves, and its code. -/
noncomputable def stepF (n : Nat) (s : TSt) (x : SV) : TSt × Int :=
  if D.pickN x.kind 12 ≤ 5 then putsT n s x
  else if D.pickN x.kind 12 = 6 then ({ s with z := (DrainC n s.z (pk n x.N)).1 }, (DrainC n s.z (pk n x.N)).2)
  else if D.pickN x.kind 12 ≤ 8 then ({ s with z := (flushC n s.z (pk n x.N)).1 }, (flushC n s.z (pk n x.N)).2.2)
  else if D.pickN x.kind 12 = 9 then (if D.pickN x.tag 4 = 0 then ({ s with z := (syncC n s.z).1 }, (syncC n s.z).2) else (s, 0))
  else if D.pickN x.kind 12 = 10 then (dropsT s (pk n x.N), 0)
  else ({ s with z := { s.z with d := D.armD s.z.d (D.pickN x.tag 9) } }, 0)
section
variable {n : Nat} {s : TSt} {x : SV}
theorem stepF_p (h : D.pickN x.kind 12 ≤ 5) : putsT n s x = stepF n s x := by unfold stepF; rw [if_pos h]
theorem stepF_6 (h : D.pickN x.kind 12 = 6) : ({ s with z := (DrainC n s.z (pk n x.N)).1 }, (DrainC n s.z (pk n x.N)).2) = stepF n s x := by unfold stepF; rw [if_neg (by omega), if_pos h]
theorem stepF_7 (h : D.pickN x.kind 12 = 7 ∨ D.pickN x.kind 12 = 8) : ({ s with z := (flushC n s.z (pk n x.N)).1 }, (flushC n s.z (pk n x.N)).2.2) = stepF n s x := by unfold stepF; rw [if_neg (by omega), if_neg (by omega), if_pos (by omega)]
theorem stepF_9 (h : D.pickN x.kind 12 = 9) (h0 : D.pickN x.tag 4 = 0) : ({ s with z := (syncC n s.z).1 }, (syncC n s.z).2) = stepF n s x := by unfold stepF; rw [if_neg (by omega), if_neg (by omega), if_neg (by omega), if_pos h, if_pos h0]
theorem stepF_9n (h : D.pickN x.kind 12 = 9) (h0 : ¬ D.pickN x.tag 4 = 0) : (s, (0 : Int)) = stepF n s x := by unfold stepF; rw [if_neg (by omega), if_neg (by omega), if_neg (by omega), if_pos h, if_neg h0]
theorem stepF_10 (h : D.pickN x.kind 12 = 10) : (dropsT s (pk n x.N), (0 : Int)) = stepF n s x := by unfold stepF; rw [if_neg (by omega), if_neg (by omega), if_neg (by omega), if_neg (by omega), if_pos h]
theorem stepF_11 (h : D.pickN x.kind 12 = 11) : ({ s with z := { s.z with d := D.armD s.z.d (D.pickN x.tag 9) } }, (0 : Int)) = stepF n s x := by unfold stepF; rw [if_neg (by omega), if_neg (by omega), if_neg (by omega), if_neg (by omega), if_neg (by omega)]
end
/-- What is known behind a call, its code told. -/
structure Kept (n : Nat) (s s1 : TSt) (e1 : Int) (q : Prop) (F : TSt × Int) : Prop where
  core : Core n s1.z (lf s1.last) s1.nx s1.od
  ll : s1.last.length = n
  n1 : 1 ≤ s1.nx
  wt : Went (s1.z, e1)
  gn : s1.nx ≤ s.nx + 1
  gw : s1.z.d.wr ≤ s.z.d.wr + 5000
  go : s1.od.length ≤ s.od.length + 12
  ua : q → s.z.d.ar = false → s1.z.d.ar = false ∧ e1 = 0
  fn : (s1, e1) = F
theorem Kept.tk {s s1 : TSt} {q : Prop} {F : TSt × Int} (h : Kept n s s1 0 q F) : TK n { s1 with di := flags n s1.z } :=
  ⟨h.core, rfl, by rcases h.wt with e | e; exact e.2; exact absurd e.1 (by decide : ¬ (0 : Int) = 22), h.ll, h.n1⟩
theorem newO_len (s : TSt) (a v : Int) (l : List Int) : (newO s a v l).length ≤ l.length := by unfold newO; rw [List.length_map]; exact List.length_filter_le _ _
theorem drain_len (z : CSt) (x : Int) : (befC z x ++ [x]).length ≤ 4097 := by
  have := secs_len fun a => a ≠ x ∧ Reach z.E a x
  unfold befC
  rw [List.length_append, List.length_singleton]
  omega
theorem drainC_wr {z : CSt} (hi : CInv n z) (x : Int) (ht : TB z) (hw : z.d.wr < 4611686018427380000) : (drainC n z x).1.d.wr ≤ z.d.wr + 4097 := by
  have h := (drainC_wrote hi x ht hw).wr.2
  have := drain_len z x
  split at h
  · omega
  · simp at h
    omega
theorem clearC_wr {z : CSt} (hi : CInv n z) (x : Int) (l : List Int) (ht : TB z) (hw : z.d.wr < 4611686018427380000) : (clearC n z x l).1.d.wr ≤ z.d.wr + 4097 := by
  unfold clearC
  split
  · exact drainC_wr hi x ht hw
  · simp only
    omega
theorem putC_wr {z : CSt} (hi : CInv n z) (x : Int) (v l : List Int) (ht : TB z) (hw : z.d.wr < 4611686018427380000) : (putC n z x v l).1.d.wr ≤ z.d.wr + 4097 := by
  have := clearC_wr hi x l ht hw
  unfold putC
  split
  · split
    · exact this
    · exact this
  · simp only
    omega
theorem TK.keptP (h : TK n s) (hn : 8 ≤ n) (hnx : s.nx < 16777216) (hw : s.z.d.wr < 4611686018427380000) (x : SV) {q : Prop} {F : TSt × Int} (hF : putsT n s x = F) : Kept n s (putsT n s x).1 (putsT n s x).2 q F := by
  have hp := h.puts hn hnx hw x
  have hwr := putC_wr h.core.inv (pk n x.N) (verL s.nx) (afL n x) h.core.tb hw
  have hl := newO_len s (pk n x.N) s.nx (afL n x)
  have hl2 := afL_len n x
  have h1 := h.n1
  have e1 : (putsT n s x).1.z = (putC n s.z (pk n x.N) (verL s.nx) (afL n x)).1 := by unfold putsT; split <;> rfl
  have e2 : (putsT n s x).1.nx = s.nx + 1 := by unfold putsT; split <;> rfl
  have hwt : Went ((putsT n s x).1.z, (putsT n s x).2) := by
    rcases hp.2 with e | e
    · exact .inl ⟨e.1, e.2.al⟩
    · exact .inr e
  refine ⟨hp.1, ?_, by omega, hwt, by omega, by rw [e1]; omega, ?_, fun _ ha => ua_of hwt (by rw [e1]; exact putC_calm ⟨ha, h.al.2⟩ _ _ _), hF⟩
  · unfold putsT
    split
    · simp [h.ll]
    · exact h.ll
  · unfold putsT
    split
    · simp only [List.length_append]
      omega
    · simp only
      omega
/-- What a call of the cache leaves. -/
theorem TK.keptZ (h : TK n s) {z1 : CSt} {e1 : Int} (hc : Core n z1 (lf s.last) s.nx s.od) (hw : Went (z1, e1)) (hg : z1.d.wr ≤ s.z.d.wr + 5000) {q : Prop} (hu : q → s.z.d.ar = false → Calm z1) {F : TSt × Int} (hF : ({ s with z := z1 }, e1) = F) : Kept n s { s with z := z1 } e1 q F :=
  ⟨hc, h.ll, h.n1, hw, by simp only; omega, hg, by simp only; omega, fun hq ha => ua_of hw (hu hq ha), hF⟩
theorem TK.keptD (h : TK n s) (hw : s.z.d.wr < 4611686018427380000) {x : Int} (hx : 0 ≤ x ∧ x < n) {q : Prop} {F : TSt × Int} (hF : ({ s with z := (DrainC n s.z x).1 }, (DrainC n s.z x).2) = F) : Kept n s { s with z := (DrainC n s.z x).1 } (DrainC n s.z x).2 q F := by
  have hr : refC n s.z [x] = 0 := refC_alive h.al (by simpa using hx)
  unfold DrainC at hF ⊢
  rw [if_pos hr] at hF ⊢
  have := h.core.drain hw x
  have h2 := drainC_wr h.core.inv x h.core.tb hw
  exact h.keptZ this.1 (this.2 h.al) (by omega) (fun _ ha => drainC_calm ⟨ha, h.al.2⟩ x) hF
theorem TK.keptF (h : TK n s) {x : Int} (hx : 0 ≤ x ∧ x < n) {q : Prop} {F : TSt × Int} (hF : ({ s with z := (flushC n s.z x).1 }, (flushC n s.z x).2.2) = F) : Kept n s { s with z := (flushC n s.z x).1 } (flushC n s.z x).2.2 q F := by
  have := h.core.flush hx
  refine h.keptZ this.1 (this.2 h.al) ?_ (fun _ ha => flushC_calm ⟨ha, h.al.2⟩ x) hF
  have := (wrC_wr (n := n) (z := s.z) x).2
  unfold flushC
  split
  · split
    · simp only; omega
    · simp only; omega
  · simp only; omega
theorem TK.keptS (h : TK n s) (hw : s.z.d.wr < 4611686018427380000) {q : Prop} {F : TSt × Int} (hF : ({ s with z := (syncC n s.z).1 }, (syncC n s.z).2) = F) : Kept n s { s with z := (syncC n s.z).1 } (syncC n s.z).2 q F := by
  have hS := h.core.sync hw
  have hg : (syncC n s.z).1.d.wr ≤ s.z.d.wr + 5000 := by
    have h1 := (wAll_wrote _ (secs s.z.dirty) s.z rfl h.core.inv (sync_todo h.core.inv h.core.tb hw)).wr.2
    have h2 := secs_len s.z.dirty
    unfold syncC
    omega
  have hca : s.z.d.ar = false → Calm (syncC n s.z).1 := fun ha => syncC_calm ⟨ha, h.al.2⟩
  generalize syncC n s.z = r at *
  obtain ⟨z1, e1⟩ := r
  exact h.keptZ hS.1 (hS.2 h.al) hg (fun _ ha => hca ha) hF
theorem Core.disk {z : CSt} {L : Int → Int} {nx : Int} {od : List (Int × Int × Int × Int)} (h : Core n z L nx od) {d : D.St8} (hS : d.S = z.d.S) (hw : d.wr = z.d.wr) (hl : 0 ≤ d.lf ∧ d.lf ≤ 9223372036854775807) : Core n { z with d := d } L nx od := by
  have hdv : ∀ y, dvz { z with d := d } y = dvz z y := fun y => by
    unfold dvz
    simp only
    rw [hS]
  refine ⟨⟨h.inv.ed, h.inv.ok, h.inv.ln, h.inv.ring, h.inv.top, ?_, hl⟩, ?_, h.nb, h.ld, h.cn, fun i hi => ?_, fun y hy => ?_, fun o ho => ?_⟩
  · simp only
    rw [hw]
    exact h.inv.w0
  · simp only
    rw [hS]
    exact h.sl
  · simp only
    rw [hS]
    exact h.dk i hi
  · rw [hdv]
    exact h.ol y hy
  · obtain ⟨o1, o2, o3⟩ := h.od o ho
    refine ⟨o1, o2, ?_⟩
    rw [hdv, hdv]
    exact o3
theorem arm_post {w w' : World} {c p g n : Nat} {ρ : Nat → Option Role} {z : CSt} {d : D.St8} (h : IsC w c p g n ρ z) (hd : D.IsD w' p g n d) (hc : Chg w w' (· = p)) (h0 : 0 ≤ d.wr) (hl : 0 ≤ d.lf ∧ d.lf ≤ 9223372036854775807) : CPost w w' c p g n ρ { z with d := d } := by
  obtain ⟨gp, mb, go, tv, lv, h⟩ := h
  have hp := h.parts hc (fun r => r = .p) (fun k e r hr => by subst e; rw [h.rp] at hr; cases hr; rfl)
  refine ⟨ρ, ⟨gp, mb, go, tv, lv, hp.1 (by simp), hd, hp.2.2.1 (by simp), hp.2.2.2.1 (by simp), fun x q hq => hp.2.2.2.2.1 x q (by simp) hq, hp.2.2.2.2.2.1 (by simp), h.rc, h.rp, h.rg, h.rr, h.rm, h.rt, h.rl, hp.2.2.2.2.2.2, ⟨h.inv.ed, h.inv.ok, h.inv.ln, h.inv.ring, h.inv.top, h0, hl⟩⟩, fun _ k => .inl k, hc.mono fun k _ e => ?_⟩
  subst e
  exact ⟨_, h.rp⟩
theorem TK.keptN (h : TK n s) {q : Prop} {F : TSt × Int} (hF : (s, (0 : Int)) = F) : Kept n s s 0 q F := ⟨h.core, h.ll, h.n1, .inl ⟨rfl, h.al⟩, by omega, by omega, by omega, fun _ ha => ⟨ha, rfl⟩, hF⟩
theorem TK.keptO (h : TK n s) {x : Int} (hx : 0 ≤ x ∧ x < n) {q : Prop} {F : TSt × Int} (hF : (dropsT s x, (0 : Int)) = F) : Kept n s (dropsT s x) 0 q F := by
  have := h.drops hx
  refine ⟨this.core, this.ll, this.n1, .inl ⟨rfl, this.al⟩, ?_, ?_, ?_, fun _ ha => ⟨?_, rfl⟩, hF⟩
  · unfold dropsT; split <;> (simp only; omega)
  · unfold dropsT; split <;> (simp only [forC]; omega)
  · have := fltO_len x s.od
    unfold dropsT
    split <;> (simp only; omega)
  · unfold dropsT; split <;> exact ha

set_option maxRecDepth 100000 in
set_option maxHeartbeats 4000000 in
theorem step_0 (x : SV) (a : Option Addr) (ca : Nat) (h : FT w0 w t c p g n s) (hk : TK n s) (hn : 8 ≤ n) (hx : x.OK) (ha : AAt w0 a x.af) (hnx : s.nx < 16000000) (hw : s.z.d.wr < 4611686018427370000) (hod : s.od.length ≤ 90000000000) (hj : D.pickN x.kind 12 = 0) :
    Calls Tryz.prog 29 #[.pointer (some ⟨t, 0, none⟩), .agg (x.cells a ca).toArray] w fun e w' => ∃ s1 ov e1, e = .returned (.tuple #[.bool true, .bool ov]) ∧ Kept n s s1 e1 (¬ D.pickN x.kind 12 = 11) (stepF n s x) ∧ Chg w0 w' No ∧ ((ov = false ∧ e1 = 0 ∧ FT w0 w' t c p g n { s1 with di := flags n s1.z }) ∨ (ov = true ∧ e1 = 22)) := by
  obtain ⟨lb, db, ρ, ov, h⟩ := h
  have hn4 : n ≤ 4096 := h.ca.inv.top
  have hc1 : Chg w (w.alloc (.cells (x.cells a ca).toArray 37)) No := Chg.alloc _ _ _
  have hX : StepB (w.alloc (.cells (x.cells a ca).toArray 37)) w.heap.size x a ca := heap_alloc_new _ _
  have h1 := h.call hc1
  have kx1 := hX.c1
  have k2 := h1.c2
  have HBD := hid (pk_bd hn x.N)
  have HC0 := hid h.ca
  have H1 := hid h1
  have HX := hid hX
  have HA := hid ha
  have HOK := hid hx
  have HTK := hid hk
  have HB := hid (And.intro hnx (And.intro hw hod))
  clear h1 hX ha hx hk h hnx hw hod
  have HPK := fun w => D.pick_any x.kind 12 w HOK.out.k (by omega) (by omega)
  have HJ := hid hj
  rw [hj] at HPK
  have hcs : (x.cells a ca).length = 5 := rfl
  clear hj
  go_enter Tryz.func29, Tryz.ntmps29
  go_wp2_with fail
  refine wp_region_noPanic ?_
  refine wp_region_held_drew (S := fun w' => w'.cell? ⟨w.heap.size, 1, none⟩ = some (.int .i64 x.N) ∧ w'.cell? ⟨t, 2, none⟩ = some (.slice (some ⟨lb, 0, none⟩) n n)) (by as_aux_lemma => kernel_rfl) ⟨kx1, k2⟩ (fun hHeld => ?_)
  refine takeVal 0 8 (.pointer (some ⟨w.heap.size, 1, none⟩)) rfl (by as_aux_lemma => kernel_rfl) (by as_aux_lemma => kernel_rfl) (by as_aux_lemma => kernel_rfl) rfl (by rfl) (fun _ _ _ h => h) hHeld (fun _ hw' => by go_simp) ?_
  simp only [List.setIfInBounds_toArray, List.set_cons_zero, List.set_cons_succ]
  refine takeVal 1 9 (.int .i64 x.N) rfl (by as_aux_lemma => kernel_rfl) (by as_aux_lemma => kernel_rfl) (by as_aux_lemma => kernel_rfl) rfl (by rfl) (fun _ _ _ h => h) hHeld (fun _ hw' => by have hq' := hw'.1; go_simp) ?_
  simp only [List.setIfInBounds_toArray, List.set_cons_zero, List.set_cons_succ]
  refine takeVal 2 10 (.pointer (some ⟨t, 0, none⟩)) rfl (by as_aux_lemma => kernel_rfl) (by as_aux_lemma => kernel_rfl) (by as_aux_lemma => kernel_rfl) rfl (by rfl) (fun _ _ _ h => h) hHeld (fun _ hw' => rfl) ?_
  simp only [List.setIfInBounds_toArray, List.set_cons_zero, List.set_cons_succ]
  refine takeVal 3 11 (.pointer (some ⟨t, 0, none⟩)) rfl (by as_aux_lemma => kernel_rfl) (by as_aux_lemma => kernel_rfl) (by as_aux_lemma => kernel_rfl) rfl (by rfl) (fun _ _ _ h => h) hHeld (fun _ hw' => by go_simp) ?_
  simp only [List.setIfInBounds_toArray, List.set_cons_zero, List.set_cons_succ]
  refine takeVal 4 12 (.pointer (some ⟨t, 2, none⟩)) rfl (by as_aux_lemma => kernel_rfl) (by as_aux_lemma => kernel_rfl) (by as_aux_lemma => kernel_rfl) rfl (by rfl) (fun _ _ _ h => h) hHeld (fun _ hw' => by go_simp) ?_
  simp only [List.setIfInBounds_toArray, List.set_cons_zero, List.set_cons_succ]
  refine takeVal 5 13 (.slice (some ⟨lb, 0, none⟩) n n) rfl (by as_aux_lemma => kernel_rfl) (by as_aux_lemma => kernel_rfl) (by as_aux_lemma => kernel_rfl) rfl (by rfl) (fun _ _ _ h => h) hHeld (fun _ hw' => by have hq' := hw'.2; go_simp) ?_
  simp only [List.setIfInBounds_toArray, List.set_cons_zero, List.set_cons_succ]
  refine takeVal 6 14 (.int .i64 n) rfl (by as_aux_lemma => kernel_rfl) (by as_aux_lemma => kernel_rfl) (by as_aux_lemma => kernel_rfl) rfl (by rfl) (fun _ _ _ h => h) hHeld (fun _ hw' => by go_simp) ?_
  simp only [List.setIfInBounds_toArray, List.set_cons_zero, List.set_cons_succ]
  refine step1 7 (by as_aux_lemma => kernel_rfl) ?_
  refine stCall 7 15 8 #[.int .i64 x.N, .int .i64 n] _ rfl rfl (by rfl) (by go_simp) ((D.pick_any x.N n _ HOK.out.n (by omega) (by omega))) ?_
  rintro e wp ⟨rfl, ewp⟩
  subst ewp
  refine ⟨_, rfl, hHeld, ?_⟩
  simp only [List.setIfInBounds_toArray, List.set_cons_zero, List.set_cons_succ]
  refine takeVal 8 6 (.int .i64 (pk n x.N)) rfl (by as_aux_lemma => kernel_rfl) (by as_aux_lemma => kernel_rfl) (by as_aux_lemma => kernel_rfl) rfl (by rfl) (fun _ _ _ h => h) hHeld (fun _ hw' => rfl) ?_
  simp only [List.setIfInBounds_toArray, List.set_cons_zero, List.set_cons_succ]
  refine wpAnyH_done (by as_aux_lemma => kernel_rfl) ?_ _
  refine NoPanic.normal ?_

  generalize hw1 : (w.alloc (.cells (x.cells a ca).toArray 37)).drew = w1 at *
  have hc01 : Chg (w.alloc (.cells (x.cells a ca).toArray 37)) w1 No := by rw [← hw1]; exact (Chg.refl _ _).drew
  have HT1 := hid (H1.out.call hc01)
  have HX1 := hid (hc01.keep HX.out (fun e => e))
  clear hHeld kx1 k2 hc01 hw1
  have HF1 : Hid (FT w0 w1 t c p g n s) := ⟨lb, db, ρ, ov, HT1.out⟩
  have kx0 := StepB.c0 HX1.out
  have kx2 := StepB.c2 HX1.out
  have q0 := HF1.out.c0
  have q1 := HF1.out.c1
  have hr := StepB.range HX1.out
  have hwb : s.z.d.wr < 4611686018427380000 := by have := HB.out.2.1; omega
  have HPU := puts_x x a ca HT1.out hn HOK.out HA.out ⟨HTK.out.n1, by have := HB.out.1; omega⟩ HTK.out.core.tb hwb (by have := HB.out.2.2; omega)
  have HKE0 := hid (HTK.out.keptP (q := ¬ D.pickN x.kind 12 = 11) hn (by have := HB.out.1; omega) hwb x (stepF_p (by have := HJ.out; omega)))
  obtain ⟨⟨s1, e1⟩, hr1⟩ : ∃ r, putsT n s x = r := ⟨_, rfl⟩
  rw [hr1] at HPU HKE0
  clear hr1
  have HKE : Hid (Kept n s s1 e1 (¬ D.pickN x.kind 12 = 11) (stepF n s x)) := HKE0.out
  clear HKE0
  go_upto_region 24 with (first
    | (go_at_call 8; go_must (refine (HPK w1).mono ?_; rintro e wp ⟨rfl, ewp⟩; subst ewp; clear HPK))
    | (refine wpList_load_mid rfl 37 _ rfl w.heap.size 0 rfl (x.cells a ca) _ hr Tryz.underlying37 rfl (by rw [szSt]; rfl) ?_)
    | (go_at_call 51; go_must (refine HPU.mono ?_; rintro e w2 ⟨rfl, hF2⟩; have HF2 := hid hF2; have k20 := hF2.c0; clear HPU hF2))
    | fail)
  rcases HKE.out.wt with ⟨he1, hal⟩ | ⟨he1, hdn⟩
  · simp only at he1
    rw [he1] at HKE
    have HLE := learns_any HF2.out
    have HKF := HKE
    clear hal
    go_wp2_with (first
      | (go_at_call 55; go_must (refine HLE.mono ?_; rintro e wl ⟨rfl, hFl⟩; have HSD := stand_any hFl (Core.fit (s := { s1 with di := flags n (s1).z }) HKE.out.core) (by have := HKE.out.go; have := HB.out.2.2; simp only; omega); rw [Core.stands (s := { s1 with di := flags n (s1).z }) HKE.out.core] at HSD; clear HLE hFl))
      | (go_at_call 54; go_must (refine HSD.mono ?_; rintro e ws ⟨rfl, hFs⟩; have HFS := hid hFs; clear HSD hFs))
      | fail)
    go_ret2
    exact ⟨s1, false, 0, rfl, HKE.out, HFS.out.chg, .inl ⟨rfl, rfl, HFS.out⟩⟩
  · simp only at he1 hdn
    rw [he1] at HKE
    have HDN := HF2.out.down
    rw [hdn] at HDN
    have HSD := stand_any HF2.out (Core.fit HKE.out.core) (by have := HKE.out.go; have := HB.out.2.2; omega)
    rw [Core.stands HKE.out.core] at HSD
    clear hdn
    go_wp2_with (first
      | (go_at_call 53; go_must (refine HDN.mono ?_; rintro e wd ⟨rfl, ewd⟩; subst ewd; clear HDN))
      | (go_at_call 54; go_must (refine HSD.mono ?_; rintro e ws ⟨rfl, hFs⟩; have HFS := hid hFs; clear HSD hFs))
      | fail)
    go_ret2
    exact ⟨s1, true, 22, rfl, HKE.out, HFS.out.chg, .inr ⟨rfl, rfl⟩⟩

set_option maxRecDepth 100000 in
set_option maxHeartbeats 4000000 in
theorem step_1 (x : SV) (a : Option Addr) (ca : Nat) (h : FT w0 w t c p g n s) (hk : TK n s) (hn : 8 ≤ n) (hx : x.OK) (ha : AAt w0 a x.af) (hnx : s.nx < 16000000) (hw : s.z.d.wr < 4611686018427370000) (hod : s.od.length ≤ 90000000000) (hj : D.pickN x.kind 12 = 1) :
    Calls Tryz.prog 29 #[.pointer (some ⟨t, 0, none⟩), .agg (x.cells a ca).toArray] w fun e w' => ∃ s1 ov e1, e = .returned (.tuple #[.bool true, .bool ov]) ∧ Kept n s s1 e1 (¬ D.pickN x.kind 12 = 11) (stepF n s x) ∧ Chg w0 w' No ∧ ((ov = false ∧ e1 = 0 ∧ FT w0 w' t c p g n { s1 with di := flags n s1.z }) ∨ (ov = true ∧ e1 = 22)) := by
  obtain ⟨lb, db, ρ, ov, h⟩ := h
  have hn4 : n ≤ 4096 := h.ca.inv.top
  have hc1 : Chg w (w.alloc (.cells (x.cells a ca).toArray 37)) No := Chg.alloc _ _ _
  have hX : StepB (w.alloc (.cells (x.cells a ca).toArray 37)) w.heap.size x a ca := heap_alloc_new _ _
  have h1 := h.call hc1
  have kx1 := hX.c1
  have k2 := h1.c2
  have HBD := hid (pk_bd hn x.N)
  have HC0 := hid h.ca
  have H1 := hid h1
  have HX := hid hX
  have HA := hid ha
  have HOK := hid hx
  have HTK := hid hk
  have HB := hid (And.intro hnx (And.intro hw hod))
  clear h1 hX ha hx hk h hnx hw hod
  have HPK := fun w => D.pick_any x.kind 12 w HOK.out.k (by omega) (by omega)
  have HJ := hid hj
  rw [hj] at HPK
  have hcs : (x.cells a ca).length = 5 := rfl
  clear hj
  go_enter Tryz.func29, Tryz.ntmps29
  go_wp2_with fail
  refine wp_region_noPanic ?_
  refine wp_region_held_drew (S := fun w' => w'.cell? ⟨w.heap.size, 1, none⟩ = some (.int .i64 x.N) ∧ w'.cell? ⟨t, 2, none⟩ = some (.slice (some ⟨lb, 0, none⟩) n n)) (by as_aux_lemma => kernel_rfl) ⟨kx1, k2⟩ (fun hHeld => ?_)
  refine takeVal 0 8 (.pointer (some ⟨w.heap.size, 1, none⟩)) rfl (by as_aux_lemma => kernel_rfl) (by as_aux_lemma => kernel_rfl) (by as_aux_lemma => kernel_rfl) rfl (by rfl) (fun _ _ _ h => h) hHeld (fun _ hw' => by go_simp) ?_
  simp only [List.setIfInBounds_toArray, List.set_cons_zero, List.set_cons_succ]
  refine takeVal 1 9 (.int .i64 x.N) rfl (by as_aux_lemma => kernel_rfl) (by as_aux_lemma => kernel_rfl) (by as_aux_lemma => kernel_rfl) rfl (by rfl) (fun _ _ _ h => h) hHeld (fun _ hw' => by have hq' := hw'.1; go_simp) ?_
  simp only [List.setIfInBounds_toArray, List.set_cons_zero, List.set_cons_succ]
  refine takeVal 2 10 (.pointer (some ⟨t, 0, none⟩)) rfl (by as_aux_lemma => kernel_rfl) (by as_aux_lemma => kernel_rfl) (by as_aux_lemma => kernel_rfl) rfl (by rfl) (fun _ _ _ h => h) hHeld (fun _ hw' => rfl) ?_
  simp only [List.setIfInBounds_toArray, List.set_cons_zero, List.set_cons_succ]
  refine takeVal 3 11 (.pointer (some ⟨t, 0, none⟩)) rfl (by as_aux_lemma => kernel_rfl) (by as_aux_lemma => kernel_rfl) (by as_aux_lemma => kernel_rfl) rfl (by rfl) (fun _ _ _ h => h) hHeld (fun _ hw' => by go_simp) ?_
  simp only [List.setIfInBounds_toArray, List.set_cons_zero, List.set_cons_succ]
  refine takeVal 4 12 (.pointer (some ⟨t, 2, none⟩)) rfl (by as_aux_lemma => kernel_rfl) (by as_aux_lemma => kernel_rfl) (by as_aux_lemma => kernel_rfl) rfl (by rfl) (fun _ _ _ h => h) hHeld (fun _ hw' => by go_simp) ?_
  simp only [List.setIfInBounds_toArray, List.set_cons_zero, List.set_cons_succ]
  refine takeVal 5 13 (.slice (some ⟨lb, 0, none⟩) n n) rfl (by as_aux_lemma => kernel_rfl) (by as_aux_lemma => kernel_rfl) (by as_aux_lemma => kernel_rfl) rfl (by rfl) (fun _ _ _ h => h) hHeld (fun _ hw' => by have hq' := hw'.2; go_simp) ?_
  simp only [List.setIfInBounds_toArray, List.set_cons_zero, List.set_cons_succ]
  refine takeVal 6 14 (.int .i64 n) rfl (by as_aux_lemma => kernel_rfl) (by as_aux_lemma => kernel_rfl) (by as_aux_lemma => kernel_rfl) rfl (by rfl) (fun _ _ _ h => h) hHeld (fun _ hw' => by go_simp) ?_
  simp only [List.setIfInBounds_toArray, List.set_cons_zero, List.set_cons_succ]
  refine step1 7 (by as_aux_lemma => kernel_rfl) ?_
  refine stCall 7 15 8 #[.int .i64 x.N, .int .i64 n] _ rfl rfl (by rfl) (by go_simp) ((D.pick_any x.N n _ HOK.out.n (by omega) (by omega))) ?_
  rintro e wp ⟨rfl, ewp⟩
  subst ewp
  refine ⟨_, rfl, hHeld, ?_⟩
  simp only [List.setIfInBounds_toArray, List.set_cons_zero, List.set_cons_succ]
  refine takeVal 8 6 (.int .i64 (pk n x.N)) rfl (by as_aux_lemma => kernel_rfl) (by as_aux_lemma => kernel_rfl) (by as_aux_lemma => kernel_rfl) rfl (by rfl) (fun _ _ _ h => h) hHeld (fun _ hw' => rfl) ?_
  simp only [List.setIfInBounds_toArray, List.set_cons_zero, List.set_cons_succ]
  refine wpAnyH_done (by as_aux_lemma => kernel_rfl) ?_ _
  refine NoPanic.normal ?_

  generalize hw1 : (w.alloc (.cells (x.cells a ca).toArray 37)).drew = w1 at *
  have hc01 : Chg (w.alloc (.cells (x.cells a ca).toArray 37)) w1 No := by rw [← hw1]; exact (Chg.refl _ _).drew
  have HT1 := hid (H1.out.call hc01)
  have HX1 := hid (hc01.keep HX.out (fun e => e))
  clear hHeld kx1 k2 hc01 hw1
  have HF1 : Hid (FT w0 w1 t c p g n s) := ⟨lb, db, ρ, ov, HT1.out⟩
  have kx0 := StepB.c0 HX1.out
  have kx2 := StepB.c2 HX1.out
  have q0 := HF1.out.c0
  have q1 := HF1.out.c1
  have hr := StepB.range HX1.out
  have hwb : s.z.d.wr < 4611686018427380000 := by have := HB.out.2.1; omega
  have HPU := puts_x x a ca HT1.out hn HOK.out HA.out ⟨HTK.out.n1, by have := HB.out.1; omega⟩ HTK.out.core.tb hwb (by have := HB.out.2.2; omega)
  have HKE0 := hid (HTK.out.keptP (q := ¬ D.pickN x.kind 12 = 11) hn (by have := HB.out.1; omega) hwb x (stepF_p (by have := HJ.out; omega)))
  obtain ⟨⟨s1, e1⟩, hr1⟩ : ∃ r, putsT n s x = r := ⟨_, rfl⟩
  rw [hr1] at HPU HKE0
  clear hr1
  have HKE : Hid (Kept n s s1 e1 (¬ D.pickN x.kind 12 = 11) (stepF n s x)) := HKE0.out
  clear HKE0
  go_upto_region 24 with (first
    | (go_at_call 8; go_must (refine (HPK w1).mono ?_; rintro e wp ⟨rfl, ewp⟩; subst ewp; clear HPK))
    | (refine wpList_load_mid rfl 37 _ rfl w.heap.size 0 rfl (x.cells a ca) _ hr Tryz.underlying37 rfl (by rw [szSt]; rfl) ?_)
    | (go_at_call 51; go_must (refine HPU.mono ?_; rintro e w2 ⟨rfl, hF2⟩; have HF2 := hid hF2; have k20 := hF2.c0; clear HPU hF2))
    | fail)
  rcases HKE.out.wt with ⟨he1, hal⟩ | ⟨he1, hdn⟩
  · simp only at he1
    rw [he1] at HKE
    have HLE := learns_any HF2.out
    have HKF := HKE
    clear hal
    go_wp2_with (first
      | (go_at_call 55; go_must (refine HLE.mono ?_; rintro e wl ⟨rfl, hFl⟩; have HSD := stand_any hFl (Core.fit (s := { s1 with di := flags n (s1).z }) HKE.out.core) (by have := HKE.out.go; have := HB.out.2.2; simp only; omega); rw [Core.stands (s := { s1 with di := flags n (s1).z }) HKE.out.core] at HSD; clear HLE hFl))
      | (go_at_call 54; go_must (refine HSD.mono ?_; rintro e ws ⟨rfl, hFs⟩; have HFS := hid hFs; clear HSD hFs))
      | fail)
    go_ret2
    exact ⟨s1, false, 0, rfl, HKE.out, HFS.out.chg, .inl ⟨rfl, rfl, HFS.out⟩⟩
  · simp only at he1 hdn
    rw [he1] at HKE
    have HDN := HF2.out.down
    rw [hdn] at HDN
    have HSD := stand_any HF2.out (Core.fit HKE.out.core) (by have := HKE.out.go; have := HB.out.2.2; omega)
    rw [Core.stands HKE.out.core] at HSD
    clear hdn
    go_wp2_with (first
      | (go_at_call 53; go_must (refine HDN.mono ?_; rintro e wd ⟨rfl, ewd⟩; subst ewd; clear HDN))
      | (go_at_call 54; go_must (refine HSD.mono ?_; rintro e ws ⟨rfl, hFs⟩; have HFS := hid hFs; clear HSD hFs))
      | fail)
    go_ret2
    exact ⟨s1, true, 22, rfl, HKE.out, HFS.out.chg, .inr ⟨rfl, rfl⟩⟩

set_option maxRecDepth 100000 in
set_option maxHeartbeats 4000000 in
theorem step_2 (x : SV) (a : Option Addr) (ca : Nat) (h : FT w0 w t c p g n s) (hk : TK n s) (hn : 8 ≤ n) (hx : x.OK) (ha : AAt w0 a x.af) (hnx : s.nx < 16000000) (hw : s.z.d.wr < 4611686018427370000) (hod : s.od.length ≤ 90000000000) (hj : D.pickN x.kind 12 = 2) :
    Calls Tryz.prog 29 #[.pointer (some ⟨t, 0, none⟩), .agg (x.cells a ca).toArray] w fun e w' => ∃ s1 ov e1, e = .returned (.tuple #[.bool true, .bool ov]) ∧ Kept n s s1 e1 (¬ D.pickN x.kind 12 = 11) (stepF n s x) ∧ Chg w0 w' No ∧ ((ov = false ∧ e1 = 0 ∧ FT w0 w' t c p g n { s1 with di := flags n s1.z }) ∨ (ov = true ∧ e1 = 22)) := by
  obtain ⟨lb, db, ρ, ov, h⟩ := h
  have hn4 : n ≤ 4096 := h.ca.inv.top
  have hc1 : Chg w (w.alloc (.cells (x.cells a ca).toArray 37)) No := Chg.alloc _ _ _
  have hX : StepB (w.alloc (.cells (x.cells a ca).toArray 37)) w.heap.size x a ca := heap_alloc_new _ _
  have h1 := h.call hc1
  have kx1 := hX.c1
  have k2 := h1.c2
  have HBD := hid (pk_bd hn x.N)
  have HC0 := hid h.ca
  have H1 := hid h1
  have HX := hid hX
  have HA := hid ha
  have HOK := hid hx
  have HTK := hid hk
  have HB := hid (And.intro hnx (And.intro hw hod))
  clear h1 hX ha hx hk h hnx hw hod
  have HPK := fun w => D.pick_any x.kind 12 w HOK.out.k (by omega) (by omega)
  have HJ := hid hj
  rw [hj] at HPK
  have hcs : (x.cells a ca).length = 5 := rfl
  clear hj
  go_enter Tryz.func29, Tryz.ntmps29
  go_wp2_with fail
  refine wp_region_noPanic ?_
  refine wp_region_held_drew (S := fun w' => w'.cell? ⟨w.heap.size, 1, none⟩ = some (.int .i64 x.N) ∧ w'.cell? ⟨t, 2, none⟩ = some (.slice (some ⟨lb, 0, none⟩) n n)) (by as_aux_lemma => kernel_rfl) ⟨kx1, k2⟩ (fun hHeld => ?_)
  refine takeVal 0 8 (.pointer (some ⟨w.heap.size, 1, none⟩)) rfl (by as_aux_lemma => kernel_rfl) (by as_aux_lemma => kernel_rfl) (by as_aux_lemma => kernel_rfl) rfl (by rfl) (fun _ _ _ h => h) hHeld (fun _ hw' => by go_simp) ?_
  simp only [List.setIfInBounds_toArray, List.set_cons_zero, List.set_cons_succ]
  refine takeVal 1 9 (.int .i64 x.N) rfl (by as_aux_lemma => kernel_rfl) (by as_aux_lemma => kernel_rfl) (by as_aux_lemma => kernel_rfl) rfl (by rfl) (fun _ _ _ h => h) hHeld (fun _ hw' => by have hq' := hw'.1; go_simp) ?_
  simp only [List.setIfInBounds_toArray, List.set_cons_zero, List.set_cons_succ]
  refine takeVal 2 10 (.pointer (some ⟨t, 0, none⟩)) rfl (by as_aux_lemma => kernel_rfl) (by as_aux_lemma => kernel_rfl) (by as_aux_lemma => kernel_rfl) rfl (by rfl) (fun _ _ _ h => h) hHeld (fun _ hw' => rfl) ?_
  simp only [List.setIfInBounds_toArray, List.set_cons_zero, List.set_cons_succ]
  refine takeVal 3 11 (.pointer (some ⟨t, 0, none⟩)) rfl (by as_aux_lemma => kernel_rfl) (by as_aux_lemma => kernel_rfl) (by as_aux_lemma => kernel_rfl) rfl (by rfl) (fun _ _ _ h => h) hHeld (fun _ hw' => by go_simp) ?_
  simp only [List.setIfInBounds_toArray, List.set_cons_zero, List.set_cons_succ]
  refine takeVal 4 12 (.pointer (some ⟨t, 2, none⟩)) rfl (by as_aux_lemma => kernel_rfl) (by as_aux_lemma => kernel_rfl) (by as_aux_lemma => kernel_rfl) rfl (by rfl) (fun _ _ _ h => h) hHeld (fun _ hw' => by go_simp) ?_
  simp only [List.setIfInBounds_toArray, List.set_cons_zero, List.set_cons_succ]
  refine takeVal 5 13 (.slice (some ⟨lb, 0, none⟩) n n) rfl (by as_aux_lemma => kernel_rfl) (by as_aux_lemma => kernel_rfl) (by as_aux_lemma => kernel_rfl) rfl (by rfl) (fun _ _ _ h => h) hHeld (fun _ hw' => by have hq' := hw'.2; go_simp) ?_
  simp only [List.setIfInBounds_toArray, List.set_cons_zero, List.set_cons_succ]
  refine takeVal 6 14 (.int .i64 n) rfl (by as_aux_lemma => kernel_rfl) (by as_aux_lemma => kernel_rfl) (by as_aux_lemma => kernel_rfl) rfl (by rfl) (fun _ _ _ h => h) hHeld (fun _ hw' => by go_simp) ?_
  simp only [List.setIfInBounds_toArray, List.set_cons_zero, List.set_cons_succ]
  refine step1 7 (by as_aux_lemma => kernel_rfl) ?_
  refine stCall 7 15 8 #[.int .i64 x.N, .int .i64 n] _ rfl rfl (by rfl) (by go_simp) ((D.pick_any x.N n _ HOK.out.n (by omega) (by omega))) ?_
  rintro e wp ⟨rfl, ewp⟩
  subst ewp
  refine ⟨_, rfl, hHeld, ?_⟩
  simp only [List.setIfInBounds_toArray, List.set_cons_zero, List.set_cons_succ]
  refine takeVal 8 6 (.int .i64 (pk n x.N)) rfl (by as_aux_lemma => kernel_rfl) (by as_aux_lemma => kernel_rfl) (by as_aux_lemma => kernel_rfl) rfl (by rfl) (fun _ _ _ h => h) hHeld (fun _ hw' => rfl) ?_
  simp only [List.setIfInBounds_toArray, List.set_cons_zero, List.set_cons_succ]
  refine wpAnyH_done (by as_aux_lemma => kernel_rfl) ?_ _
  refine NoPanic.normal ?_

  generalize hw1 : (w.alloc (.cells (x.cells a ca).toArray 37)).drew = w1 at *
  have hc01 : Chg (w.alloc (.cells (x.cells a ca).toArray 37)) w1 No := by rw [← hw1]; exact (Chg.refl _ _).drew
  have HT1 := hid (H1.out.call hc01)
  have HX1 := hid (hc01.keep HX.out (fun e => e))
  clear hHeld kx1 k2 hc01 hw1
  have HF1 : Hid (FT w0 w1 t c p g n s) := ⟨lb, db, ρ, ov, HT1.out⟩
  have kx0 := StepB.c0 HX1.out
  have kx2 := StepB.c2 HX1.out
  have q0 := HF1.out.c0
  have q1 := HF1.out.c1
  have hr := StepB.range HX1.out
  have hwb : s.z.d.wr < 4611686018427380000 := by have := HB.out.2.1; omega
  have HPU := puts_x x a ca HT1.out hn HOK.out HA.out ⟨HTK.out.n1, by have := HB.out.1; omega⟩ HTK.out.core.tb hwb (by have := HB.out.2.2; omega)
  have HKE0 := hid (HTK.out.keptP (q := ¬ D.pickN x.kind 12 = 11) hn (by have := HB.out.1; omega) hwb x (stepF_p (by have := HJ.out; omega)))
  obtain ⟨⟨s1, e1⟩, hr1⟩ : ∃ r, putsT n s x = r := ⟨_, rfl⟩
  rw [hr1] at HPU HKE0
  clear hr1
  have HKE : Hid (Kept n s s1 e1 (¬ D.pickN x.kind 12 = 11) (stepF n s x)) := HKE0.out
  clear HKE0
  go_upto_region 24 with (first
    | (go_at_call 8; go_must (refine (HPK w1).mono ?_; rintro e wp ⟨rfl, ewp⟩; subst ewp; clear HPK))
    | (refine wpList_load_mid rfl 37 _ rfl w.heap.size 0 rfl (x.cells a ca) _ hr Tryz.underlying37 rfl (by rw [szSt]; rfl) ?_)
    | (go_at_call 51; go_must (refine HPU.mono ?_; rintro e w2 ⟨rfl, hF2⟩; have HF2 := hid hF2; have k20 := hF2.c0; clear HPU hF2))
    | fail)
  rcases HKE.out.wt with ⟨he1, hal⟩ | ⟨he1, hdn⟩
  · simp only at he1
    rw [he1] at HKE
    have HLE := learns_any HF2.out
    have HKF := HKE
    clear hal
    go_wp2_with (first
      | (go_at_call 55; go_must (refine HLE.mono ?_; rintro e wl ⟨rfl, hFl⟩; have HSD := stand_any hFl (Core.fit (s := { s1 with di := flags n (s1).z }) HKE.out.core) (by have := HKE.out.go; have := HB.out.2.2; simp only; omega); rw [Core.stands (s := { s1 with di := flags n (s1).z }) HKE.out.core] at HSD; clear HLE hFl))
      | (go_at_call 54; go_must (refine HSD.mono ?_; rintro e ws ⟨rfl, hFs⟩; have HFS := hid hFs; clear HSD hFs))
      | fail)
    go_ret2
    exact ⟨s1, false, 0, rfl, HKE.out, HFS.out.chg, .inl ⟨rfl, rfl, HFS.out⟩⟩
  · simp only at he1 hdn
    rw [he1] at HKE
    have HDN := HF2.out.down
    rw [hdn] at HDN
    have HSD := stand_any HF2.out (Core.fit HKE.out.core) (by have := HKE.out.go; have := HB.out.2.2; omega)
    rw [Core.stands HKE.out.core] at HSD
    clear hdn
    go_wp2_with (first
      | (go_at_call 53; go_must (refine HDN.mono ?_; rintro e wd ⟨rfl, ewd⟩; subst ewd; clear HDN))
      | (go_at_call 54; go_must (refine HSD.mono ?_; rintro e ws ⟨rfl, hFs⟩; have HFS := hid hFs; clear HSD hFs))
      | fail)
    go_ret2
    exact ⟨s1, true, 22, rfl, HKE.out, HFS.out.chg, .inr ⟨rfl, rfl⟩⟩

set_option maxRecDepth 100000 in
set_option maxHeartbeats 4000000 in
theorem step_3 (x : SV) (a : Option Addr) (ca : Nat) (h : FT w0 w t c p g n s) (hk : TK n s) (hn : 8 ≤ n) (hx : x.OK) (ha : AAt w0 a x.af) (hnx : s.nx < 16000000) (hw : s.z.d.wr < 4611686018427370000) (hod : s.od.length ≤ 90000000000) (hj : D.pickN x.kind 12 = 3) :
    Calls Tryz.prog 29 #[.pointer (some ⟨t, 0, none⟩), .agg (x.cells a ca).toArray] w fun e w' => ∃ s1 ov e1, e = .returned (.tuple #[.bool true, .bool ov]) ∧ Kept n s s1 e1 (¬ D.pickN x.kind 12 = 11) (stepF n s x) ∧ Chg w0 w' No ∧ ((ov = false ∧ e1 = 0 ∧ FT w0 w' t c p g n { s1 with di := flags n s1.z }) ∨ (ov = true ∧ e1 = 22)) := by
  obtain ⟨lb, db, ρ, ov, h⟩ := h
  have hn4 : n ≤ 4096 := h.ca.inv.top
  have hc1 : Chg w (w.alloc (.cells (x.cells a ca).toArray 37)) No := Chg.alloc _ _ _
  have hX : StepB (w.alloc (.cells (x.cells a ca).toArray 37)) w.heap.size x a ca := heap_alloc_new _ _
  have h1 := h.call hc1
  have kx1 := hX.c1
  have k2 := h1.c2
  have HBD := hid (pk_bd hn x.N)
  have HC0 := hid h.ca
  have H1 := hid h1
  have HX := hid hX
  have HA := hid ha
  have HOK := hid hx
  have HTK := hid hk
  have HB := hid (And.intro hnx (And.intro hw hod))
  clear h1 hX ha hx hk h hnx hw hod
  have HPK := fun w => D.pick_any x.kind 12 w HOK.out.k (by omega) (by omega)
  have HJ := hid hj
  rw [hj] at HPK
  have hcs : (x.cells a ca).length = 5 := rfl
  clear hj
  go_enter Tryz.func29, Tryz.ntmps29
  go_wp2_with fail
  refine wp_region_noPanic ?_
  refine wp_region_held_drew (S := fun w' => w'.cell? ⟨w.heap.size, 1, none⟩ = some (.int .i64 x.N) ∧ w'.cell? ⟨t, 2, none⟩ = some (.slice (some ⟨lb, 0, none⟩) n n)) (by as_aux_lemma => kernel_rfl) ⟨kx1, k2⟩ (fun hHeld => ?_)
  refine takeVal 0 8 (.pointer (some ⟨w.heap.size, 1, none⟩)) rfl (by as_aux_lemma => kernel_rfl) (by as_aux_lemma => kernel_rfl) (by as_aux_lemma => kernel_rfl) rfl (by rfl) (fun _ _ _ h => h) hHeld (fun _ hw' => by go_simp) ?_
  simp only [List.setIfInBounds_toArray, List.set_cons_zero, List.set_cons_succ]
  refine takeVal 1 9 (.int .i64 x.N) rfl (by as_aux_lemma => kernel_rfl) (by as_aux_lemma => kernel_rfl) (by as_aux_lemma => kernel_rfl) rfl (by rfl) (fun _ _ _ h => h) hHeld (fun _ hw' => by have hq' := hw'.1; go_simp) ?_
  simp only [List.setIfInBounds_toArray, List.set_cons_zero, List.set_cons_succ]
  refine takeVal 2 10 (.pointer (some ⟨t, 0, none⟩)) rfl (by as_aux_lemma => kernel_rfl) (by as_aux_lemma => kernel_rfl) (by as_aux_lemma => kernel_rfl) rfl (by rfl) (fun _ _ _ h => h) hHeld (fun _ hw' => rfl) ?_
  simp only [List.setIfInBounds_toArray, List.set_cons_zero, List.set_cons_succ]
  refine takeVal 3 11 (.pointer (some ⟨t, 0, none⟩)) rfl (by as_aux_lemma => kernel_rfl) (by as_aux_lemma => kernel_rfl) (by as_aux_lemma => kernel_rfl) rfl (by rfl) (fun _ _ _ h => h) hHeld (fun _ hw' => by go_simp) ?_
  simp only [List.setIfInBounds_toArray, List.set_cons_zero, List.set_cons_succ]
  refine takeVal 4 12 (.pointer (some ⟨t, 2, none⟩)) rfl (by as_aux_lemma => kernel_rfl) (by as_aux_lemma => kernel_rfl) (by as_aux_lemma => kernel_rfl) rfl (by rfl) (fun _ _ _ h => h) hHeld (fun _ hw' => by go_simp) ?_
  simp only [List.setIfInBounds_toArray, List.set_cons_zero, List.set_cons_succ]
  refine takeVal 5 13 (.slice (some ⟨lb, 0, none⟩) n n) rfl (by as_aux_lemma => kernel_rfl) (by as_aux_lemma => kernel_rfl) (by as_aux_lemma => kernel_rfl) rfl (by rfl) (fun _ _ _ h => h) hHeld (fun _ hw' => by have hq' := hw'.2; go_simp) ?_
  simp only [List.setIfInBounds_toArray, List.set_cons_zero, List.set_cons_succ]
  refine takeVal 6 14 (.int .i64 n) rfl (by as_aux_lemma => kernel_rfl) (by as_aux_lemma => kernel_rfl) (by as_aux_lemma => kernel_rfl) rfl (by rfl) (fun _ _ _ h => h) hHeld (fun _ hw' => by go_simp) ?_
  simp only [List.setIfInBounds_toArray, List.set_cons_zero, List.set_cons_succ]
  refine step1 7 (by as_aux_lemma => kernel_rfl) ?_
  refine stCall 7 15 8 #[.int .i64 x.N, .int .i64 n] _ rfl rfl (by rfl) (by go_simp) ((D.pick_any x.N n _ HOK.out.n (by omega) (by omega))) ?_
  rintro e wp ⟨rfl, ewp⟩
  subst ewp
  refine ⟨_, rfl, hHeld, ?_⟩
  simp only [List.setIfInBounds_toArray, List.set_cons_zero, List.set_cons_succ]
  refine takeVal 8 6 (.int .i64 (pk n x.N)) rfl (by as_aux_lemma => kernel_rfl) (by as_aux_lemma => kernel_rfl) (by as_aux_lemma => kernel_rfl) rfl (by rfl) (fun _ _ _ h => h) hHeld (fun _ hw' => rfl) ?_
  simp only [List.setIfInBounds_toArray, List.set_cons_zero, List.set_cons_succ]
  refine wpAnyH_done (by as_aux_lemma => kernel_rfl) ?_ _
  refine NoPanic.normal ?_

  generalize hw1 : (w.alloc (.cells (x.cells a ca).toArray 37)).drew = w1 at *
  have hc01 : Chg (w.alloc (.cells (x.cells a ca).toArray 37)) w1 No := by rw [← hw1]; exact (Chg.refl _ _).drew
  have HT1 := hid (H1.out.call hc01)
  have HX1 := hid (hc01.keep HX.out (fun e => e))
  clear hHeld kx1 k2 hc01 hw1
  have HF1 : Hid (FT w0 w1 t c p g n s) := ⟨lb, db, ρ, ov, HT1.out⟩
  have kx0 := StepB.c0 HX1.out
  have kx2 := StepB.c2 HX1.out
  have q0 := HF1.out.c0
  have q1 := HF1.out.c1
  have hr := StepB.range HX1.out
  have hwb : s.z.d.wr < 4611686018427380000 := by have := HB.out.2.1; omega
  have HPU := puts_x x a ca HT1.out hn HOK.out HA.out ⟨HTK.out.n1, by have := HB.out.1; omega⟩ HTK.out.core.tb hwb (by have := HB.out.2.2; omega)
  have HKE0 := hid (HTK.out.keptP (q := ¬ D.pickN x.kind 12 = 11) hn (by have := HB.out.1; omega) hwb x (stepF_p (by have := HJ.out; omega)))
  obtain ⟨⟨s1, e1⟩, hr1⟩ : ∃ r, putsT n s x = r := ⟨_, rfl⟩
  rw [hr1] at HPU HKE0
  clear hr1
  have HKE : Hid (Kept n s s1 e1 (¬ D.pickN x.kind 12 = 11) (stepF n s x)) := HKE0.out
  clear HKE0
  go_upto_region 24 with (first
    | (go_at_call 8; go_must (refine (HPK w1).mono ?_; rintro e wp ⟨rfl, ewp⟩; subst ewp; clear HPK))
    | (refine wpList_load_mid rfl 37 _ rfl w.heap.size 0 rfl (x.cells a ca) _ hr Tryz.underlying37 rfl (by rw [szSt]; rfl) ?_)
    | (go_at_call 51; go_must (refine HPU.mono ?_; rintro e w2 ⟨rfl, hF2⟩; have HF2 := hid hF2; have k20 := hF2.c0; clear HPU hF2))
    | fail)
  rcases HKE.out.wt with ⟨he1, hal⟩ | ⟨he1, hdn⟩
  · simp only at he1
    rw [he1] at HKE
    have HLE := learns_any HF2.out
    have HKF := HKE
    clear hal
    go_wp2_with (first
      | (go_at_call 55; go_must (refine HLE.mono ?_; rintro e wl ⟨rfl, hFl⟩; have HSD := stand_any hFl (Core.fit (s := { s1 with di := flags n (s1).z }) HKE.out.core) (by have := HKE.out.go; have := HB.out.2.2; simp only; omega); rw [Core.stands (s := { s1 with di := flags n (s1).z }) HKE.out.core] at HSD; clear HLE hFl))
      | (go_at_call 54; go_must (refine HSD.mono ?_; rintro e ws ⟨rfl, hFs⟩; have HFS := hid hFs; clear HSD hFs))
      | fail)
    go_ret2
    exact ⟨s1, false, 0, rfl, HKE.out, HFS.out.chg, .inl ⟨rfl, rfl, HFS.out⟩⟩
  · simp only at he1 hdn
    rw [he1] at HKE
    have HDN := HF2.out.down
    rw [hdn] at HDN
    have HSD := stand_any HF2.out (Core.fit HKE.out.core) (by have := HKE.out.go; have := HB.out.2.2; omega)
    rw [Core.stands HKE.out.core] at HSD
    clear hdn
    go_wp2_with (first
      | (go_at_call 53; go_must (refine HDN.mono ?_; rintro e wd ⟨rfl, ewd⟩; subst ewd; clear HDN))
      | (go_at_call 54; go_must (refine HSD.mono ?_; rintro e ws ⟨rfl, hFs⟩; have HFS := hid hFs; clear HSD hFs))
      | fail)
    go_ret2
    exact ⟨s1, true, 22, rfl, HKE.out, HFS.out.chg, .inr ⟨rfl, rfl⟩⟩

set_option maxRecDepth 100000 in
set_option maxHeartbeats 4000000 in
theorem step_4 (x : SV) (a : Option Addr) (ca : Nat) (h : FT w0 w t c p g n s) (hk : TK n s) (hn : 8 ≤ n) (hx : x.OK) (ha : AAt w0 a x.af) (hnx : s.nx < 16000000) (hw : s.z.d.wr < 4611686018427370000) (hod : s.od.length ≤ 90000000000) (hj : D.pickN x.kind 12 = 4) :
    Calls Tryz.prog 29 #[.pointer (some ⟨t, 0, none⟩), .agg (x.cells a ca).toArray] w fun e w' => ∃ s1 ov e1, e = .returned (.tuple #[.bool true, .bool ov]) ∧ Kept n s s1 e1 (¬ D.pickN x.kind 12 = 11) (stepF n s x) ∧ Chg w0 w' No ∧ ((ov = false ∧ e1 = 0 ∧ FT w0 w' t c p g n { s1 with di := flags n s1.z }) ∨ (ov = true ∧ e1 = 22)) := by
  obtain ⟨lb, db, ρ, ov, h⟩ := h
  have hn4 : n ≤ 4096 := h.ca.inv.top
  have hc1 : Chg w (w.alloc (.cells (x.cells a ca).toArray 37)) No := Chg.alloc _ _ _
  have hX : StepB (w.alloc (.cells (x.cells a ca).toArray 37)) w.heap.size x a ca := heap_alloc_new _ _
  have h1 := h.call hc1
  have kx1 := hX.c1
  have k2 := h1.c2
  have HBD := hid (pk_bd hn x.N)
  have HC0 := hid h.ca
  have H1 := hid h1
  have HX := hid hX
  have HA := hid ha
  have HOK := hid hx
  have HTK := hid hk
  have HB := hid (And.intro hnx (And.intro hw hod))
  clear h1 hX ha hx hk h hnx hw hod
  have HPK := fun w => D.pick_any x.kind 12 w HOK.out.k (by omega) (by omega)
  have HJ := hid hj
  rw [hj] at HPK
  have hcs : (x.cells a ca).length = 5 := rfl
  clear hj
  go_enter Tryz.func29, Tryz.ntmps29
  go_wp2_with fail
  refine wp_region_noPanic ?_
  refine wp_region_held_drew (S := fun w' => w'.cell? ⟨w.heap.size, 1, none⟩ = some (.int .i64 x.N) ∧ w'.cell? ⟨t, 2, none⟩ = some (.slice (some ⟨lb, 0, none⟩) n n)) (by as_aux_lemma => kernel_rfl) ⟨kx1, k2⟩ (fun hHeld => ?_)
  refine takeVal 0 8 (.pointer (some ⟨w.heap.size, 1, none⟩)) rfl (by as_aux_lemma => kernel_rfl) (by as_aux_lemma => kernel_rfl) (by as_aux_lemma => kernel_rfl) rfl (by rfl) (fun _ _ _ h => h) hHeld (fun _ hw' => by go_simp) ?_
  simp only [List.setIfInBounds_toArray, List.set_cons_zero, List.set_cons_succ]
  refine takeVal 1 9 (.int .i64 x.N) rfl (by as_aux_lemma => kernel_rfl) (by as_aux_lemma => kernel_rfl) (by as_aux_lemma => kernel_rfl) rfl (by rfl) (fun _ _ _ h => h) hHeld (fun _ hw' => by have hq' := hw'.1; go_simp) ?_
  simp only [List.setIfInBounds_toArray, List.set_cons_zero, List.set_cons_succ]
  refine takeVal 2 10 (.pointer (some ⟨t, 0, none⟩)) rfl (by as_aux_lemma => kernel_rfl) (by as_aux_lemma => kernel_rfl) (by as_aux_lemma => kernel_rfl) rfl (by rfl) (fun _ _ _ h => h) hHeld (fun _ hw' => rfl) ?_
  simp only [List.setIfInBounds_toArray, List.set_cons_zero, List.set_cons_succ]
  refine takeVal 3 11 (.pointer (some ⟨t, 0, none⟩)) rfl (by as_aux_lemma => kernel_rfl) (by as_aux_lemma => kernel_rfl) (by as_aux_lemma => kernel_rfl) rfl (by rfl) (fun _ _ _ h => h) hHeld (fun _ hw' => by go_simp) ?_
  simp only [List.setIfInBounds_toArray, List.set_cons_zero, List.set_cons_succ]
  refine takeVal 4 12 (.pointer (some ⟨t, 2, none⟩)) rfl (by as_aux_lemma => kernel_rfl) (by as_aux_lemma => kernel_rfl) (by as_aux_lemma => kernel_rfl) rfl (by rfl) (fun _ _ _ h => h) hHeld (fun _ hw' => by go_simp) ?_
  simp only [List.setIfInBounds_toArray, List.set_cons_zero, List.set_cons_succ]
  refine takeVal 5 13 (.slice (some ⟨lb, 0, none⟩) n n) rfl (by as_aux_lemma => kernel_rfl) (by as_aux_lemma => kernel_rfl) (by as_aux_lemma => kernel_rfl) rfl (by rfl) (fun _ _ _ h => h) hHeld (fun _ hw' => by have hq' := hw'.2; go_simp) ?_
  simp only [List.setIfInBounds_toArray, List.set_cons_zero, List.set_cons_succ]
  refine takeVal 6 14 (.int .i64 n) rfl (by as_aux_lemma => kernel_rfl) (by as_aux_lemma => kernel_rfl) (by as_aux_lemma => kernel_rfl) rfl (by rfl) (fun _ _ _ h => h) hHeld (fun _ hw' => by go_simp) ?_
  simp only [List.setIfInBounds_toArray, List.set_cons_zero, List.set_cons_succ]
  refine step1 7 (by as_aux_lemma => kernel_rfl) ?_
  refine stCall 7 15 8 #[.int .i64 x.N, .int .i64 n] _ rfl rfl (by rfl) (by go_simp) ((D.pick_any x.N n _ HOK.out.n (by omega) (by omega))) ?_
  rintro e wp ⟨rfl, ewp⟩
  subst ewp
  refine ⟨_, rfl, hHeld, ?_⟩
  simp only [List.setIfInBounds_toArray, List.set_cons_zero, List.set_cons_succ]
  refine takeVal 8 6 (.int .i64 (pk n x.N)) rfl (by as_aux_lemma => kernel_rfl) (by as_aux_lemma => kernel_rfl) (by as_aux_lemma => kernel_rfl) rfl (by rfl) (fun _ _ _ h => h) hHeld (fun _ hw' => rfl) ?_
  simp only [List.setIfInBounds_toArray, List.set_cons_zero, List.set_cons_succ]
  refine wpAnyH_done (by as_aux_lemma => kernel_rfl) ?_ _
  refine NoPanic.normal ?_

  generalize hw1 : (w.alloc (.cells (x.cells a ca).toArray 37)).drew = w1 at *
  have hc01 : Chg (w.alloc (.cells (x.cells a ca).toArray 37)) w1 No := by rw [← hw1]; exact (Chg.refl _ _).drew
  have HT1 := hid (H1.out.call hc01)
  have HX1 := hid (hc01.keep HX.out (fun e => e))
  clear hHeld kx1 k2 hc01 hw1
  have HF1 : Hid (FT w0 w1 t c p g n s) := ⟨lb, db, ρ, ov, HT1.out⟩
  have kx0 := StepB.c0 HX1.out
  have kx2 := StepB.c2 HX1.out
  have q0 := HF1.out.c0
  have q1 := HF1.out.c1
  have hr := StepB.range HX1.out
  have hwb : s.z.d.wr < 4611686018427380000 := by have := HB.out.2.1; omega
  have HPU := puts_x x a ca HT1.out hn HOK.out HA.out ⟨HTK.out.n1, by have := HB.out.1; omega⟩ HTK.out.core.tb hwb (by have := HB.out.2.2; omega)
  have HKE0 := hid (HTK.out.keptP (q := ¬ D.pickN x.kind 12 = 11) hn (by have := HB.out.1; omega) hwb x (stepF_p (by have := HJ.out; omega)))
  obtain ⟨⟨s1, e1⟩, hr1⟩ : ∃ r, putsT n s x = r := ⟨_, rfl⟩
  rw [hr1] at HPU HKE0
  clear hr1
  have HKE : Hid (Kept n s s1 e1 (¬ D.pickN x.kind 12 = 11) (stepF n s x)) := HKE0.out
  clear HKE0
  go_upto_region 24 with (first
    | (go_at_call 8; go_must (refine (HPK w1).mono ?_; rintro e wp ⟨rfl, ewp⟩; subst ewp; clear HPK))
    | (refine wpList_load_mid rfl 37 _ rfl w.heap.size 0 rfl (x.cells a ca) _ hr Tryz.underlying37 rfl (by rw [szSt]; rfl) ?_)
    | (go_at_call 51; go_must (refine HPU.mono ?_; rintro e w2 ⟨rfl, hF2⟩; have HF2 := hid hF2; have k20 := hF2.c0; clear HPU hF2))
    | fail)
  rcases HKE.out.wt with ⟨he1, hal⟩ | ⟨he1, hdn⟩
  · simp only at he1
    rw [he1] at HKE
    have HLE := learns_any HF2.out
    have HKF := HKE
    clear hal
    go_wp2_with (first
      | (go_at_call 55; go_must (refine HLE.mono ?_; rintro e wl ⟨rfl, hFl⟩; have HSD := stand_any hFl (Core.fit (s := { s1 with di := flags n (s1).z }) HKE.out.core) (by have := HKE.out.go; have := HB.out.2.2; simp only; omega); rw [Core.stands (s := { s1 with di := flags n (s1).z }) HKE.out.core] at HSD; clear HLE hFl))
      | (go_at_call 54; go_must (refine HSD.mono ?_; rintro e ws ⟨rfl, hFs⟩; have HFS := hid hFs; clear HSD hFs))
      | fail)
    go_ret2
    exact ⟨s1, false, 0, rfl, HKE.out, HFS.out.chg, .inl ⟨rfl, rfl, HFS.out⟩⟩
  · simp only at he1 hdn
    rw [he1] at HKE
    have HDN := HF2.out.down
    rw [hdn] at HDN
    have HSD := stand_any HF2.out (Core.fit HKE.out.core) (by have := HKE.out.go; have := HB.out.2.2; omega)
    rw [Core.stands HKE.out.core] at HSD
    clear hdn
    go_wp2_with (first
      | (go_at_call 53; go_must (refine HDN.mono ?_; rintro e wd ⟨rfl, ewd⟩; subst ewd; clear HDN))
      | (go_at_call 54; go_must (refine HSD.mono ?_; rintro e ws ⟨rfl, hFs⟩; have HFS := hid hFs; clear HSD hFs))
      | fail)
    go_ret2
    exact ⟨s1, true, 22, rfl, HKE.out, HFS.out.chg, .inr ⟨rfl, rfl⟩⟩

set_option maxRecDepth 100000 in
set_option maxHeartbeats 4000000 in
theorem step_5 (x : SV) (a : Option Addr) (ca : Nat) (h : FT w0 w t c p g n s) (hk : TK n s) (hn : 8 ≤ n) (hx : x.OK) (ha : AAt w0 a x.af) (hnx : s.nx < 16000000) (hw : s.z.d.wr < 4611686018427370000) (hod : s.od.length ≤ 90000000000) (hj : D.pickN x.kind 12 = 5) :
    Calls Tryz.prog 29 #[.pointer (some ⟨t, 0, none⟩), .agg (x.cells a ca).toArray] w fun e w' => ∃ s1 ov e1, e = .returned (.tuple #[.bool true, .bool ov]) ∧ Kept n s s1 e1 (¬ D.pickN x.kind 12 = 11) (stepF n s x) ∧ Chg w0 w' No ∧ ((ov = false ∧ e1 = 0 ∧ FT w0 w' t c p g n { s1 with di := flags n s1.z }) ∨ (ov = true ∧ e1 = 22)) := by
  obtain ⟨lb, db, ρ, ov, h⟩ := h
  have hn4 : n ≤ 4096 := h.ca.inv.top
  have hc1 : Chg w (w.alloc (.cells (x.cells a ca).toArray 37)) No := Chg.alloc _ _ _
  have hX : StepB (w.alloc (.cells (x.cells a ca).toArray 37)) w.heap.size x a ca := heap_alloc_new _ _
  have h1 := h.call hc1
  have kx1 := hX.c1
  have k2 := h1.c2
  have HBD := hid (pk_bd hn x.N)
  have HC0 := hid h.ca
  have H1 := hid h1
  have HX := hid hX
  have HA := hid ha
  have HOK := hid hx
  have HTK := hid hk
  have HB := hid (And.intro hnx (And.intro hw hod))
  clear h1 hX ha hx hk h hnx hw hod
  have HPK := fun w => D.pick_any x.kind 12 w HOK.out.k (by omega) (by omega)
  have HJ := hid hj
  rw [hj] at HPK
  have hcs : (x.cells a ca).length = 5 := rfl
  clear hj
  go_enter Tryz.func29, Tryz.ntmps29
  go_wp2_with fail
  refine wp_region_noPanic ?_
  refine wp_region_held_drew (S := fun w' => w'.cell? ⟨w.heap.size, 1, none⟩ = some (.int .i64 x.N) ∧ w'.cell? ⟨t, 2, none⟩ = some (.slice (some ⟨lb, 0, none⟩) n n)) (by as_aux_lemma => kernel_rfl) ⟨kx1, k2⟩ (fun hHeld => ?_)
  refine takeVal 0 8 (.pointer (some ⟨w.heap.size, 1, none⟩)) rfl (by as_aux_lemma => kernel_rfl) (by as_aux_lemma => kernel_rfl) (by as_aux_lemma => kernel_rfl) rfl (by rfl) (fun _ _ _ h => h) hHeld (fun _ hw' => by go_simp) ?_
  simp only [List.setIfInBounds_toArray, List.set_cons_zero, List.set_cons_succ]
  refine takeVal 1 9 (.int .i64 x.N) rfl (by as_aux_lemma => kernel_rfl) (by as_aux_lemma => kernel_rfl) (by as_aux_lemma => kernel_rfl) rfl (by rfl) (fun _ _ _ h => h) hHeld (fun _ hw' => by have hq' := hw'.1; go_simp) ?_
  simp only [List.setIfInBounds_toArray, List.set_cons_zero, List.set_cons_succ]
  refine takeVal 2 10 (.pointer (some ⟨t, 0, none⟩)) rfl (by as_aux_lemma => kernel_rfl) (by as_aux_lemma => kernel_rfl) (by as_aux_lemma => kernel_rfl) rfl (by rfl) (fun _ _ _ h => h) hHeld (fun _ hw' => rfl) ?_
  simp only [List.setIfInBounds_toArray, List.set_cons_zero, List.set_cons_succ]
  refine takeVal 3 11 (.pointer (some ⟨t, 0, none⟩)) rfl (by as_aux_lemma => kernel_rfl) (by as_aux_lemma => kernel_rfl) (by as_aux_lemma => kernel_rfl) rfl (by rfl) (fun _ _ _ h => h) hHeld (fun _ hw' => by go_simp) ?_
  simp only [List.setIfInBounds_toArray, List.set_cons_zero, List.set_cons_succ]
  refine takeVal 4 12 (.pointer (some ⟨t, 2, none⟩)) rfl (by as_aux_lemma => kernel_rfl) (by as_aux_lemma => kernel_rfl) (by as_aux_lemma => kernel_rfl) rfl (by rfl) (fun _ _ _ h => h) hHeld (fun _ hw' => by go_simp) ?_
  simp only [List.setIfInBounds_toArray, List.set_cons_zero, List.set_cons_succ]
  refine takeVal 5 13 (.slice (some ⟨lb, 0, none⟩) n n) rfl (by as_aux_lemma => kernel_rfl) (by as_aux_lemma => kernel_rfl) (by as_aux_lemma => kernel_rfl) rfl (by rfl) (fun _ _ _ h => h) hHeld (fun _ hw' => by have hq' := hw'.2; go_simp) ?_
  simp only [List.setIfInBounds_toArray, List.set_cons_zero, List.set_cons_succ]
  refine takeVal 6 14 (.int .i64 n) rfl (by as_aux_lemma => kernel_rfl) (by as_aux_lemma => kernel_rfl) (by as_aux_lemma => kernel_rfl) rfl (by rfl) (fun _ _ _ h => h) hHeld (fun _ hw' => by go_simp) ?_
  simp only [List.setIfInBounds_toArray, List.set_cons_zero, List.set_cons_succ]
  refine step1 7 (by as_aux_lemma => kernel_rfl) ?_
  refine stCall 7 15 8 #[.int .i64 x.N, .int .i64 n] _ rfl rfl (by rfl) (by go_simp) ((D.pick_any x.N n _ HOK.out.n (by omega) (by omega))) ?_
  rintro e wp ⟨rfl, ewp⟩
  subst ewp
  refine ⟨_, rfl, hHeld, ?_⟩
  simp only [List.setIfInBounds_toArray, List.set_cons_zero, List.set_cons_succ]
  refine takeVal 8 6 (.int .i64 (pk n x.N)) rfl (by as_aux_lemma => kernel_rfl) (by as_aux_lemma => kernel_rfl) (by as_aux_lemma => kernel_rfl) rfl (by rfl) (fun _ _ _ h => h) hHeld (fun _ hw' => rfl) ?_
  simp only [List.setIfInBounds_toArray, List.set_cons_zero, List.set_cons_succ]
  refine wpAnyH_done (by as_aux_lemma => kernel_rfl) ?_ _
  refine NoPanic.normal ?_

  generalize hw1 : (w.alloc (.cells (x.cells a ca).toArray 37)).drew = w1 at *
  have hc01 : Chg (w.alloc (.cells (x.cells a ca).toArray 37)) w1 No := by rw [← hw1]; exact (Chg.refl _ _).drew
  have HT1 := hid (H1.out.call hc01)
  have HX1 := hid (hc01.keep HX.out (fun e => e))
  clear hHeld kx1 k2 hc01 hw1
  have HF1 : Hid (FT w0 w1 t c p g n s) := ⟨lb, db, ρ, ov, HT1.out⟩
  have kx0 := StepB.c0 HX1.out
  have kx2 := StepB.c2 HX1.out
  have q0 := HF1.out.c0
  have q1 := HF1.out.c1
  have hr := StepB.range HX1.out
  have hwb : s.z.d.wr < 4611686018427380000 := by have := HB.out.2.1; omega
  have HPU := puts_x x a ca HT1.out hn HOK.out HA.out ⟨HTK.out.n1, by have := HB.out.1; omega⟩ HTK.out.core.tb hwb (by have := HB.out.2.2; omega)
  have HKE0 := hid (HTK.out.keptP (q := ¬ D.pickN x.kind 12 = 11) hn (by have := HB.out.1; omega) hwb x (stepF_p (by have := HJ.out; omega)))
  obtain ⟨⟨s1, e1⟩, hr1⟩ : ∃ r, putsT n s x = r := ⟨_, rfl⟩
  rw [hr1] at HPU HKE0
  clear hr1
  have HKE : Hid (Kept n s s1 e1 (¬ D.pickN x.kind 12 = 11) (stepF n s x)) := HKE0.out
  clear HKE0
  go_upto_region 24 with (first
    | (go_at_call 8; go_must (refine (HPK w1).mono ?_; rintro e wp ⟨rfl, ewp⟩; subst ewp; clear HPK))
    | (refine wpList_load_mid rfl 37 _ rfl w.heap.size 0 rfl (x.cells a ca) _ hr Tryz.underlying37 rfl (by rw [szSt]; rfl) ?_)
    | (go_at_call 51; go_must (refine HPU.mono ?_; rintro e w2 ⟨rfl, hF2⟩; have HF2 := hid hF2; have k20 := hF2.c0; clear HPU hF2))
    | fail)
  rcases HKE.out.wt with ⟨he1, hal⟩ | ⟨he1, hdn⟩
  · simp only at he1
    rw [he1] at HKE
    have HLE := learns_any HF2.out
    have HKF := HKE
    clear hal
    go_wp2_with (first
      | (go_at_call 55; go_must (refine HLE.mono ?_; rintro e wl ⟨rfl, hFl⟩; have HSD := stand_any hFl (Core.fit (s := { s1 with di := flags n (s1).z }) HKE.out.core) (by have := HKE.out.go; have := HB.out.2.2; simp only; omega); rw [Core.stands (s := { s1 with di := flags n (s1).z }) HKE.out.core] at HSD; clear HLE hFl))
      | (go_at_call 54; go_must (refine HSD.mono ?_; rintro e ws ⟨rfl, hFs⟩; have HFS := hid hFs; clear HSD hFs))
      | fail)
    go_ret2
    exact ⟨s1, false, 0, rfl, HKE.out, HFS.out.chg, .inl ⟨rfl, rfl, HFS.out⟩⟩
  · simp only at he1 hdn
    rw [he1] at HKE
    have HDN := HF2.out.down
    rw [hdn] at HDN
    have HSD := stand_any HF2.out (Core.fit HKE.out.core) (by have := HKE.out.go; have := HB.out.2.2; omega)
    rw [Core.stands HKE.out.core] at HSD
    clear hdn
    go_wp2_with (first
      | (go_at_call 53; go_must (refine HDN.mono ?_; rintro e wd ⟨rfl, ewd⟩; subst ewd; clear HDN))
      | (go_at_call 54; go_must (refine HSD.mono ?_; rintro e ws ⟨rfl, hFs⟩; have HFS := hid hFs; clear HSD hFs))
      | fail)
    go_ret2
    exact ⟨s1, true, 22, rfl, HKE.out, HFS.out.chg, .inr ⟨rfl, rfl⟩⟩

set_option maxRecDepth 100000 in
set_option maxHeartbeats 4000000 in
theorem step_6 (x : SV) (a : Option Addr) (ca : Nat) (h : FT w0 w t c p g n s) (hk : TK n s) (hn : 8 ≤ n) (hx : x.OK) (ha : AAt w0 a x.af) (hnx : s.nx < 16000000) (hw : s.z.d.wr < 4611686018427370000) (hod : s.od.length ≤ 90000000000) (hj : D.pickN x.kind 12 = 6) :
    Calls Tryz.prog 29 #[.pointer (some ⟨t, 0, none⟩), .agg (x.cells a ca).toArray] w fun e w' => ∃ s1 ov e1, e = .returned (.tuple #[.bool true, .bool ov]) ∧ Kept n s s1 e1 (¬ D.pickN x.kind 12 = 11) (stepF n s x) ∧ Chg w0 w' No ∧ ((ov = false ∧ e1 = 0 ∧ FT w0 w' t c p g n { s1 with di := flags n s1.z }) ∨ (ov = true ∧ e1 = 22)) := by
  obtain ⟨lb, db, ρ, ov, h⟩ := h
  have hn4 : n ≤ 4096 := h.ca.inv.top
  have hc1 : Chg w (w.alloc (.cells (x.cells a ca).toArray 37)) No := Chg.alloc _ _ _
  have hX : StepB (w.alloc (.cells (x.cells a ca).toArray 37)) w.heap.size x a ca := heap_alloc_new _ _
  have h1 := h.call hc1
  have kx1 := hX.c1
  have k2 := h1.c2
  have HBD := hid (pk_bd hn x.N)
  have HC0 := hid h.ca
  have H1 := hid h1
  have HX := hid hX
  have HA := hid ha
  have HOK := hid hx
  have HTK := hid hk
  have HB := hid (And.intro hnx (And.intro hw hod))
  clear h1 hX ha hx hk h hnx hw hod
  have HPK := fun w => D.pick_any x.kind 12 w HOK.out.k (by omega) (by omega)
  have HJ := hid hj
  rw [hj] at HPK
  have hcs : (x.cells a ca).length = 5 := rfl
  clear hj
  go_enter Tryz.func29, Tryz.ntmps29
  go_wp2_with fail
  refine wp_region_noPanic ?_
  refine wp_region_held_drew (S := fun w' => w'.cell? ⟨w.heap.size, 1, none⟩ = some (.int .i64 x.N) ∧ w'.cell? ⟨t, 2, none⟩ = some (.slice (some ⟨lb, 0, none⟩) n n)) (by as_aux_lemma => kernel_rfl) ⟨kx1, k2⟩ (fun hHeld => ?_)
  refine takeVal 0 8 (.pointer (some ⟨w.heap.size, 1, none⟩)) rfl (by as_aux_lemma => kernel_rfl) (by as_aux_lemma => kernel_rfl) (by as_aux_lemma => kernel_rfl) rfl (by rfl) (fun _ _ _ h => h) hHeld (fun _ hw' => by go_simp) ?_
  simp only [List.setIfInBounds_toArray, List.set_cons_zero, List.set_cons_succ]
  refine takeVal 1 9 (.int .i64 x.N) rfl (by as_aux_lemma => kernel_rfl) (by as_aux_lemma => kernel_rfl) (by as_aux_lemma => kernel_rfl) rfl (by rfl) (fun _ _ _ h => h) hHeld (fun _ hw' => by have hq' := hw'.1; go_simp) ?_
  simp only [List.setIfInBounds_toArray, List.set_cons_zero, List.set_cons_succ]
  refine takeVal 2 10 (.pointer (some ⟨t, 0, none⟩)) rfl (by as_aux_lemma => kernel_rfl) (by as_aux_lemma => kernel_rfl) (by as_aux_lemma => kernel_rfl) rfl (by rfl) (fun _ _ _ h => h) hHeld (fun _ hw' => rfl) ?_
  simp only [List.setIfInBounds_toArray, List.set_cons_zero, List.set_cons_succ]
  refine takeVal 3 11 (.pointer (some ⟨t, 0, none⟩)) rfl (by as_aux_lemma => kernel_rfl) (by as_aux_lemma => kernel_rfl) (by as_aux_lemma => kernel_rfl) rfl (by rfl) (fun _ _ _ h => h) hHeld (fun _ hw' => by go_simp) ?_
  simp only [List.setIfInBounds_toArray, List.set_cons_zero, List.set_cons_succ]
  refine takeVal 4 12 (.pointer (some ⟨t, 2, none⟩)) rfl (by as_aux_lemma => kernel_rfl) (by as_aux_lemma => kernel_rfl) (by as_aux_lemma => kernel_rfl) rfl (by rfl) (fun _ _ _ h => h) hHeld (fun _ hw' => by go_simp) ?_
  simp only [List.setIfInBounds_toArray, List.set_cons_zero, List.set_cons_succ]
  refine takeVal 5 13 (.slice (some ⟨lb, 0, none⟩) n n) rfl (by as_aux_lemma => kernel_rfl) (by as_aux_lemma => kernel_rfl) (by as_aux_lemma => kernel_rfl) rfl (by rfl) (fun _ _ _ h => h) hHeld (fun _ hw' => by have hq' := hw'.2; go_simp) ?_
  simp only [List.setIfInBounds_toArray, List.set_cons_zero, List.set_cons_succ]
  refine takeVal 6 14 (.int .i64 n) rfl (by as_aux_lemma => kernel_rfl) (by as_aux_lemma => kernel_rfl) (by as_aux_lemma => kernel_rfl) rfl (by rfl) (fun _ _ _ h => h) hHeld (fun _ hw' => by go_simp) ?_
  simp only [List.setIfInBounds_toArray, List.set_cons_zero, List.set_cons_succ]
  refine step1 7 (by as_aux_lemma => kernel_rfl) ?_
  refine stCall 7 15 8 #[.int .i64 x.N, .int .i64 n] _ rfl rfl (by rfl) (by go_simp) ((D.pick_any x.N n _ HOK.out.n (by omega) (by omega))) ?_
  rintro e wp ⟨rfl, ewp⟩
  subst ewp
  refine ⟨_, rfl, hHeld, ?_⟩
  simp only [List.setIfInBounds_toArray, List.set_cons_zero, List.set_cons_succ]
  refine takeVal 8 6 (.int .i64 (pk n x.N)) rfl (by as_aux_lemma => kernel_rfl) (by as_aux_lemma => kernel_rfl) (by as_aux_lemma => kernel_rfl) rfl (by rfl) (fun _ _ _ h => h) hHeld (fun _ hw' => rfl) ?_
  simp only [List.setIfInBounds_toArray, List.set_cons_zero, List.set_cons_succ]
  refine wpAnyH_done (by as_aux_lemma => kernel_rfl) ?_ _
  refine NoPanic.normal ?_

  generalize hw1 : (w.alloc (.cells (x.cells a ca).toArray 37)).drew = w1 at *
  have hc01 : Chg (w.alloc (.cells (x.cells a ca).toArray 37)) w1 No := by rw [← hw1]; exact (Chg.refl _ _).drew
  have HT1 := hid (H1.out.call hc01)
  have HX1 := hid (hc01.keep HX.out (fun e => e))
  clear hHeld kx1 k2 hc01 hw1
  have HF1 : Hid (FT w0 w1 t c p g n s) := ⟨lb, db, ρ, ov, HT1.out⟩
  have kx0 := StepB.c0 HX1.out
  have kx2 := StepB.c2 HX1.out
  have q0 := HF1.out.c0
  have q1 := HF1.out.c1
  have hr := StepB.range HX1.out
  have hwb : s.z.d.wr < 4611686018427380000 := by have := HB.out.2.1; omega
  have hI : I64 (pk n x.N) := by have := HBD.out; exact ⟨by omega, by omega⟩
  have HCA := DrainC_any (pk n x.N) HT1.out.ca HTK.out.core.tb hwb
  have HKE := hid (HTK.out.keptD (q := ¬ D.pickN x.kind 12 = 11) hwb HBD.out (stepF_6 HJ.out))
  have HFZ := hid (fun w' z1 (hP : CPost w1 w' c p g n ρ z1) => HT1.out.cache hP)
  generalize hr1 : DrainC n s.z (pk n x.N) = r1 at *
  go_upto_region 24 with (first
    | (go_at_call 8; go_must (refine (HPK w1).mono ?_; rintro e wp ⟨rfl, ewp⟩; subst ewp; clear HPK))
    | (go_at_call 19; go_must (refine HCA.mono ?_; rintro e w2 ⟨rfl, hP2⟩; have hF2 := HFZ.out _ _ hP2; have HF2 := hid hF2; have k20 := hF2.c0; clear HCA hP2 hF2))
    | fail)
  generalize hs1 : ({ s with z := r1.1 } : TSt) = s1 at *
  clear hs1
  rcases HKE.out.wt with ⟨he1, hal⟩ | ⟨he1, hdn⟩
  · simp only at he1
    rw [he1] at HKE
    have HLE := learns_any HF2.out
    have HKF := HKE
    clear hal
    go_wp2_with (first
      | (go_at_call 55; go_must (refine HLE.mono ?_; rintro e wl ⟨rfl, hFl⟩; have HSD := stand_any hFl (Core.fit (s := { s1 with di := flags n (s1).z }) HKE.out.core) (by have := HKE.out.go; have := HB.out.2.2; simp only; omega); rw [Core.stands (s := { s1 with di := flags n (s1).z }) HKE.out.core] at HSD; clear HLE hFl))
      | (go_at_call 54; go_must (refine HSD.mono ?_; rintro e ws ⟨rfl, hFs⟩; have HFS := hid hFs; clear HSD hFs))
      | fail)
    go_ret2
    exact ⟨s1, false, 0, rfl, HKE.out, HFS.out.chg, .inl ⟨rfl, rfl, HFS.out⟩⟩
  · simp only at he1 hdn
    rw [he1] at HKE
    have HDN := HF2.out.down
    rw [hdn] at HDN
    have HSD := stand_any HF2.out (Core.fit HKE.out.core) (by have := HKE.out.go; have := HB.out.2.2; omega)
    rw [Core.stands HKE.out.core] at HSD
    clear hdn
    go_wp2_with (first
      | (go_at_call 53; go_must (refine HDN.mono ?_; rintro e wd ⟨rfl, ewd⟩; subst ewd; clear HDN))
      | (go_at_call 54; go_must (refine HSD.mono ?_; rintro e ws ⟨rfl, hFs⟩; have HFS := hid hFs; clear HSD hFs))
      | fail)
    go_ret2
    exact ⟨s1, true, 22, rfl, HKE.out, HFS.out.chg, .inr ⟨rfl, rfl⟩⟩

set_option maxRecDepth 100000 in
set_option maxHeartbeats 4000000 in
theorem step_7 (x : SV) (a : Option Addr) (ca : Nat) (h : FT w0 w t c p g n s) (hk : TK n s) (hn : 8 ≤ n) (hx : x.OK) (ha : AAt w0 a x.af) (hnx : s.nx < 16000000) (hw : s.z.d.wr < 4611686018427370000) (hod : s.od.length ≤ 90000000000) (hj : D.pickN x.kind 12 = 7) :
    Calls Tryz.prog 29 #[.pointer (some ⟨t, 0, none⟩), .agg (x.cells a ca).toArray] w fun e w' => ∃ s1 ov e1, e = .returned (.tuple #[.bool true, .bool ov]) ∧ Kept n s s1 e1 (¬ D.pickN x.kind 12 = 11) (stepF n s x) ∧ Chg w0 w' No ∧ ((ov = false ∧ e1 = 0 ∧ FT w0 w' t c p g n { s1 with di := flags n s1.z }) ∨ (ov = true ∧ e1 = 22)) := by
  obtain ⟨lb, db, ρ, ov, h⟩ := h
  have hn4 : n ≤ 4096 := h.ca.inv.top
  have hc1 : Chg w (w.alloc (.cells (x.cells a ca).toArray 37)) No := Chg.alloc _ _ _
  have hX : StepB (w.alloc (.cells (x.cells a ca).toArray 37)) w.heap.size x a ca := heap_alloc_new _ _
  have h1 := h.call hc1
  have kx1 := hX.c1
  have k2 := h1.c2
  have HBD := hid (pk_bd hn x.N)
  have HC0 := hid h.ca
  have H1 := hid h1
  have HX := hid hX
  have HA := hid ha
  have HOK := hid hx
  have HTK := hid hk
  have HB := hid (And.intro hnx (And.intro hw hod))
  clear h1 hX ha hx hk h hnx hw hod
  have HPK := fun w => D.pick_any x.kind 12 w HOK.out.k (by omega) (by omega)
  have HJ := hid hj
  rw [hj] at HPK
  have hcs : (x.cells a ca).length = 5 := rfl
  clear hj
  go_enter Tryz.func29, Tryz.ntmps29
  go_wp2_with fail
  refine wp_region_noPanic ?_
  refine wp_region_held_drew (S := fun w' => w'.cell? ⟨w.heap.size, 1, none⟩ = some (.int .i64 x.N) ∧ w'.cell? ⟨t, 2, none⟩ = some (.slice (some ⟨lb, 0, none⟩) n n)) (by as_aux_lemma => kernel_rfl) ⟨kx1, k2⟩ (fun hHeld => ?_)
  refine takeVal 0 8 (.pointer (some ⟨w.heap.size, 1, none⟩)) rfl (by as_aux_lemma => kernel_rfl) (by as_aux_lemma => kernel_rfl) (by as_aux_lemma => kernel_rfl) rfl (by rfl) (fun _ _ _ h => h) hHeld (fun _ hw' => by go_simp) ?_
  simp only [List.setIfInBounds_toArray, List.set_cons_zero, List.set_cons_succ]
  refine takeVal 1 9 (.int .i64 x.N) rfl (by as_aux_lemma => kernel_rfl) (by as_aux_lemma => kernel_rfl) (by as_aux_lemma => kernel_rfl) rfl (by rfl) (fun _ _ _ h => h) hHeld (fun _ hw' => by have hq' := hw'.1; go_simp) ?_
  simp only [List.setIfInBounds_toArray, List.set_cons_zero, List.set_cons_succ]
  refine takeVal 2 10 (.pointer (some ⟨t, 0, none⟩)) rfl (by as_aux_lemma => kernel_rfl) (by as_aux_lemma => kernel_rfl) (by as_aux_lemma => kernel_rfl) rfl (by rfl) (fun _ _ _ h => h) hHeld (fun _ hw' => rfl) ?_
  simp only [List.setIfInBounds_toArray, List.set_cons_zero, List.set_cons_succ]
  refine takeVal 3 11 (.pointer (some ⟨t, 0, none⟩)) rfl (by as_aux_lemma => kernel_rfl) (by as_aux_lemma => kernel_rfl) (by as_aux_lemma => kernel_rfl) rfl (by rfl) (fun _ _ _ h => h) hHeld (fun _ hw' => by go_simp) ?_
  simp only [List.setIfInBounds_toArray, List.set_cons_zero, List.set_cons_succ]
  refine takeVal 4 12 (.pointer (some ⟨t, 2, none⟩)) rfl (by as_aux_lemma => kernel_rfl) (by as_aux_lemma => kernel_rfl) (by as_aux_lemma => kernel_rfl) rfl (by rfl) (fun _ _ _ h => h) hHeld (fun _ hw' => by go_simp) ?_
  simp only [List.setIfInBounds_toArray, List.set_cons_zero, List.set_cons_succ]
  refine takeVal 5 13 (.slice (some ⟨lb, 0, none⟩) n n) rfl (by as_aux_lemma => kernel_rfl) (by as_aux_lemma => kernel_rfl) (by as_aux_lemma => kernel_rfl) rfl (by rfl) (fun _ _ _ h => h) hHeld (fun _ hw' => by have hq' := hw'.2; go_simp) ?_
  simp only [List.setIfInBounds_toArray, List.set_cons_zero, List.set_cons_succ]
  refine takeVal 6 14 (.int .i64 n) rfl (by as_aux_lemma => kernel_rfl) (by as_aux_lemma => kernel_rfl) (by as_aux_lemma => kernel_rfl) rfl (by rfl) (fun _ _ _ h => h) hHeld (fun _ hw' => by go_simp) ?_
  simp only [List.setIfInBounds_toArray, List.set_cons_zero, List.set_cons_succ]
  refine step1 7 (by as_aux_lemma => kernel_rfl) ?_
  refine stCall 7 15 8 #[.int .i64 x.N, .int .i64 n] _ rfl rfl (by rfl) (by go_simp) ((D.pick_any x.N n _ HOK.out.n (by omega) (by omega))) ?_
  rintro e wp ⟨rfl, ewp⟩
  subst ewp
  refine ⟨_, rfl, hHeld, ?_⟩
  simp only [List.setIfInBounds_toArray, List.set_cons_zero, List.set_cons_succ]
  refine takeVal 8 6 (.int .i64 (pk n x.N)) rfl (by as_aux_lemma => kernel_rfl) (by as_aux_lemma => kernel_rfl) (by as_aux_lemma => kernel_rfl) rfl (by rfl) (fun _ _ _ h => h) hHeld (fun _ hw' => rfl) ?_
  simp only [List.setIfInBounds_toArray, List.set_cons_zero, List.set_cons_succ]
  refine wpAnyH_done (by as_aux_lemma => kernel_rfl) ?_ _
  refine NoPanic.normal ?_

  generalize hw1 : (w.alloc (.cells (x.cells a ca).toArray 37)).drew = w1 at *
  have hc01 : Chg (w.alloc (.cells (x.cells a ca).toArray 37)) w1 No := by rw [← hw1]; exact (Chg.refl _ _).drew
  have HT1 := hid (H1.out.call hc01)
  have HX1 := hid (hc01.keep HX.out (fun e => e))
  clear hHeld kx1 k2 hc01 hw1
  have HF1 : Hid (FT w0 w1 t c p g n s) := ⟨lb, db, ρ, ov, HT1.out⟩
  have kx0 := StepB.c0 HX1.out
  have kx2 := StepB.c2 HX1.out
  have q0 := HF1.out.c0
  have q1 := HF1.out.c1
  have hr := StepB.range HX1.out
  have hwb : s.z.d.wr < 4611686018427380000 := by have := HB.out.2.1; omega
  have hI : I64 (pk n x.N) := by have := HBD.out; exact ⟨by omega, by omega⟩
  have HCA := flushC_any (pk n x.N) HT1.out.ca hI HTK.out.core.tb hwb
  have HKE := hid (HTK.out.keptF (q := ¬ D.pickN x.kind 12 = 11) HBD.out (stepF_7 (.inl HJ.out)))
  have HFZ := hid (fun w' z1 (hP : CPost w1 w' c p g n ρ z1) => HT1.out.cache hP)
  generalize hr1 : flushC n s.z (pk n x.N) = r1 at *
  go_upto_region 24 with (first
    | (go_at_call 8; go_must (refine (HPK w1).mono ?_; rintro e wp ⟨rfl, ewp⟩; subst ewp; clear HPK))
    | (go_at_call 14; go_must (refine HCA.mono ?_; rintro e w2 ⟨rfl, hP2⟩; have hF2 := HFZ.out _ _ hP2; have HF2 := hid hF2; have k20 := hF2.c0; clear HCA hP2 hF2))
    | fail)
  generalize hs1 : ({ s with z := r1.1 } : TSt) = s1 at *
  clear hs1
  rcases HKE.out.wt with ⟨he1, hal⟩ | ⟨he1, hdn⟩
  · simp only at he1
    rw [he1] at HKE
    have HLE := learns_any HF2.out
    have HKF := HKE
    clear hal
    go_wp2_with (first
      | (go_at_call 55; go_must (refine HLE.mono ?_; rintro e wl ⟨rfl, hFl⟩; have HSD := stand_any hFl (Core.fit (s := { s1 with di := flags n (s1).z }) HKE.out.core) (by have := HKE.out.go; have := HB.out.2.2; simp only; omega); rw [Core.stands (s := { s1 with di := flags n (s1).z }) HKE.out.core] at HSD; clear HLE hFl))
      | (go_at_call 54; go_must (refine HSD.mono ?_; rintro e ws ⟨rfl, hFs⟩; have HFS := hid hFs; clear HSD hFs))
      | fail)
    go_ret2
    exact ⟨s1, false, 0, rfl, HKE.out, HFS.out.chg, .inl ⟨rfl, rfl, HFS.out⟩⟩
  · simp only at he1 hdn
    rw [he1] at HKE
    have HDN := HF2.out.down
    rw [hdn] at HDN
    have HSD := stand_any HF2.out (Core.fit HKE.out.core) (by have := HKE.out.go; have := HB.out.2.2; omega)
    rw [Core.stands HKE.out.core] at HSD
    clear hdn
    go_wp2_with (first
      | (go_at_call 53; go_must (refine HDN.mono ?_; rintro e wd ⟨rfl, ewd⟩; subst ewd; clear HDN))
      | (go_at_call 54; go_must (refine HSD.mono ?_; rintro e ws ⟨rfl, hFs⟩; have HFS := hid hFs; clear HSD hFs))
      | fail)
    go_ret2
    exact ⟨s1, true, 22, rfl, HKE.out, HFS.out.chg, .inr ⟨rfl, rfl⟩⟩

set_option maxRecDepth 100000 in
set_option maxHeartbeats 4000000 in
theorem step_8 (x : SV) (a : Option Addr) (ca : Nat) (h : FT w0 w t c p g n s) (hk : TK n s) (hn : 8 ≤ n) (hx : x.OK) (ha : AAt w0 a x.af) (hnx : s.nx < 16000000) (hw : s.z.d.wr < 4611686018427370000) (hod : s.od.length ≤ 90000000000) (hj : D.pickN x.kind 12 = 8) :
    Calls Tryz.prog 29 #[.pointer (some ⟨t, 0, none⟩), .agg (x.cells a ca).toArray] w fun e w' => ∃ s1 ov e1, e = .returned (.tuple #[.bool true, .bool ov]) ∧ Kept n s s1 e1 (¬ D.pickN x.kind 12 = 11) (stepF n s x) ∧ Chg w0 w' No ∧ ((ov = false ∧ e1 = 0 ∧ FT w0 w' t c p g n { s1 with di := flags n s1.z }) ∨ (ov = true ∧ e1 = 22)) := by
  obtain ⟨lb, db, ρ, ov, h⟩ := h
  have hn4 : n ≤ 4096 := h.ca.inv.top
  have hc1 : Chg w (w.alloc (.cells (x.cells a ca).toArray 37)) No := Chg.alloc _ _ _
  have hX : StepB (w.alloc (.cells (x.cells a ca).toArray 37)) w.heap.size x a ca := heap_alloc_new _ _
  have h1 := h.call hc1
  have kx1 := hX.c1
  have k2 := h1.c2
  have HBD := hid (pk_bd hn x.N)
  have HC0 := hid h.ca
  have H1 := hid h1
  have HX := hid hX
  have HA := hid ha
  have HOK := hid hx
  have HTK := hid hk
  have HB := hid (And.intro hnx (And.intro hw hod))
  clear h1 hX ha hx hk h hnx hw hod
  have HPK := fun w => D.pick_any x.kind 12 w HOK.out.k (by omega) (by omega)
  have HJ := hid hj
  rw [hj] at HPK
  have hcs : (x.cells a ca).length = 5 := rfl
  clear hj
  go_enter Tryz.func29, Tryz.ntmps29
  go_wp2_with fail
  refine wp_region_noPanic ?_
  refine wp_region_held_drew (S := fun w' => w'.cell? ⟨w.heap.size, 1, none⟩ = some (.int .i64 x.N) ∧ w'.cell? ⟨t, 2, none⟩ = some (.slice (some ⟨lb, 0, none⟩) n n)) (by as_aux_lemma => kernel_rfl) ⟨kx1, k2⟩ (fun hHeld => ?_)
  refine takeVal 0 8 (.pointer (some ⟨w.heap.size, 1, none⟩)) rfl (by as_aux_lemma => kernel_rfl) (by as_aux_lemma => kernel_rfl) (by as_aux_lemma => kernel_rfl) rfl (by rfl) (fun _ _ _ h => h) hHeld (fun _ hw' => by go_simp) ?_
  simp only [List.setIfInBounds_toArray, List.set_cons_zero, List.set_cons_succ]
  refine takeVal 1 9 (.int .i64 x.N) rfl (by as_aux_lemma => kernel_rfl) (by as_aux_lemma => kernel_rfl) (by as_aux_lemma => kernel_rfl) rfl (by rfl) (fun _ _ _ h => h) hHeld (fun _ hw' => by have hq' := hw'.1; go_simp) ?_
  simp only [List.setIfInBounds_toArray, List.set_cons_zero, List.set_cons_succ]
  refine takeVal 2 10 (.pointer (some ⟨t, 0, none⟩)) rfl (by as_aux_lemma => kernel_rfl) (by as_aux_lemma => kernel_rfl) (by as_aux_lemma => kernel_rfl) rfl (by rfl) (fun _ _ _ h => h) hHeld (fun _ hw' => rfl) ?_
  simp only [List.setIfInBounds_toArray, List.set_cons_zero, List.set_cons_succ]
  refine takeVal 3 11 (.pointer (some ⟨t, 0, none⟩)) rfl (by as_aux_lemma => kernel_rfl) (by as_aux_lemma => kernel_rfl) (by as_aux_lemma => kernel_rfl) rfl (by rfl) (fun _ _ _ h => h) hHeld (fun _ hw' => by go_simp) ?_
  simp only [List.setIfInBounds_toArray, List.set_cons_zero, List.set_cons_succ]
  refine takeVal 4 12 (.pointer (some ⟨t, 2, none⟩)) rfl (by as_aux_lemma => kernel_rfl) (by as_aux_lemma => kernel_rfl) (by as_aux_lemma => kernel_rfl) rfl (by rfl) (fun _ _ _ h => h) hHeld (fun _ hw' => by go_simp) ?_
  simp only [List.setIfInBounds_toArray, List.set_cons_zero, List.set_cons_succ]
  refine takeVal 5 13 (.slice (some ⟨lb, 0, none⟩) n n) rfl (by as_aux_lemma => kernel_rfl) (by as_aux_lemma => kernel_rfl) (by as_aux_lemma => kernel_rfl) rfl (by rfl) (fun _ _ _ h => h) hHeld (fun _ hw' => by have hq' := hw'.2; go_simp) ?_
  simp only [List.setIfInBounds_toArray, List.set_cons_zero, List.set_cons_succ]
  refine takeVal 6 14 (.int .i64 n) rfl (by as_aux_lemma => kernel_rfl) (by as_aux_lemma => kernel_rfl) (by as_aux_lemma => kernel_rfl) rfl (by rfl) (fun _ _ _ h => h) hHeld (fun _ hw' => by go_simp) ?_
  simp only [List.setIfInBounds_toArray, List.set_cons_zero, List.set_cons_succ]
  refine step1 7 (by as_aux_lemma => kernel_rfl) ?_
  refine stCall 7 15 8 #[.int .i64 x.N, .int .i64 n] _ rfl rfl (by rfl) (by go_simp) ((D.pick_any x.N n _ HOK.out.n (by omega) (by omega))) ?_
  rintro e wp ⟨rfl, ewp⟩
  subst ewp
  refine ⟨_, rfl, hHeld, ?_⟩
  simp only [List.setIfInBounds_toArray, List.set_cons_zero, List.set_cons_succ]
  refine takeVal 8 6 (.int .i64 (pk n x.N)) rfl (by as_aux_lemma => kernel_rfl) (by as_aux_lemma => kernel_rfl) (by as_aux_lemma => kernel_rfl) rfl (by rfl) (fun _ _ _ h => h) hHeld (fun _ hw' => rfl) ?_
  simp only [List.setIfInBounds_toArray, List.set_cons_zero, List.set_cons_succ]
  refine wpAnyH_done (by as_aux_lemma => kernel_rfl) ?_ _
  refine NoPanic.normal ?_

  generalize hw1 : (w.alloc (.cells (x.cells a ca).toArray 37)).drew = w1 at *
  have hc01 : Chg (w.alloc (.cells (x.cells a ca).toArray 37)) w1 No := by rw [← hw1]; exact (Chg.refl _ _).drew
  have HT1 := hid (H1.out.call hc01)
  have HX1 := hid (hc01.keep HX.out (fun e => e))
  clear hHeld kx1 k2 hc01 hw1
  have HF1 : Hid (FT w0 w1 t c p g n s) := ⟨lb, db, ρ, ov, HT1.out⟩
  have kx0 := StepB.c0 HX1.out
  have kx2 := StepB.c2 HX1.out
  have q0 := HF1.out.c0
  have q1 := HF1.out.c1
  have hr := StepB.range HX1.out
  have hwb : s.z.d.wr < 4611686018427380000 := by have := HB.out.2.1; omega
  have hI : I64 (pk n x.N) := by have := HBD.out; exact ⟨by omega, by omega⟩
  have HCA := flushC_any (pk n x.N) HT1.out.ca hI HTK.out.core.tb hwb
  have HKE := hid (HTK.out.keptF (q := ¬ D.pickN x.kind 12 = 11) HBD.out (stepF_7 (.inr HJ.out)))
  have HFZ := hid (fun w' z1 (hP : CPost w1 w' c p g n ρ z1) => HT1.out.cache hP)
  generalize hr1 : flushC n s.z (pk n x.N) = r1 at *
  go_upto_region 24 with (first
    | (go_at_call 8; go_must (refine (HPK w1).mono ?_; rintro e wp ⟨rfl, ewp⟩; subst ewp; clear HPK))
    | (go_at_call 14; go_must (refine HCA.mono ?_; rintro e w2 ⟨rfl, hP2⟩; have hF2 := HFZ.out _ _ hP2; have HF2 := hid hF2; have k20 := hF2.c0; clear HCA hP2 hF2))
    | fail)
  generalize hs1 : ({ s with z := r1.1 } : TSt) = s1 at *
  clear hs1
  rcases HKE.out.wt with ⟨he1, hal⟩ | ⟨he1, hdn⟩
  · simp only at he1
    rw [he1] at HKE
    have HLE := learns_any HF2.out
    have HKF := HKE
    clear hal
    go_wp2_with (first
      | (go_at_call 55; go_must (refine HLE.mono ?_; rintro e wl ⟨rfl, hFl⟩; have HSD := stand_any hFl (Core.fit (s := { s1 with di := flags n (s1).z }) HKE.out.core) (by have := HKE.out.go; have := HB.out.2.2; simp only; omega); rw [Core.stands (s := { s1 with di := flags n (s1).z }) HKE.out.core] at HSD; clear HLE hFl))
      | (go_at_call 54; go_must (refine HSD.mono ?_; rintro e ws ⟨rfl, hFs⟩; have HFS := hid hFs; clear HSD hFs))
      | fail)
    go_ret2
    exact ⟨s1, false, 0, rfl, HKE.out, HFS.out.chg, .inl ⟨rfl, rfl, HFS.out⟩⟩
  · simp only at he1 hdn
    rw [he1] at HKE
    have HDN := HF2.out.down
    rw [hdn] at HDN
    have HSD := stand_any HF2.out (Core.fit HKE.out.core) (by have := HKE.out.go; have := HB.out.2.2; omega)
    rw [Core.stands HKE.out.core] at HSD
    clear hdn
    go_wp2_with (first
      | (go_at_call 53; go_must (refine HDN.mono ?_; rintro e wd ⟨rfl, ewd⟩; subst ewd; clear HDN))
      | (go_at_call 54; go_must (refine HSD.mono ?_; rintro e ws ⟨rfl, hFs⟩; have HFS := hid hFs; clear HSD hFs))
      | fail)
    go_ret2
    exact ⟨s1, true, 22, rfl, HKE.out, HFS.out.chg, .inr ⟨rfl, rfl⟩⟩

set_option maxRecDepth 100000 in
set_option maxHeartbeats 4000000 in
theorem step_9 (x : SV) (a : Option Addr) (ca : Nat) (h : FT w0 w t c p g n s) (hk : TK n s) (hn : 8 ≤ n) (hx : x.OK) (ha : AAt w0 a x.af) (hnx : s.nx < 16000000) (hw : s.z.d.wr < 4611686018427370000) (hod : s.od.length ≤ 90000000000) (hj : D.pickN x.kind 12 = 9) :
    Calls Tryz.prog 29 #[.pointer (some ⟨t, 0, none⟩), .agg (x.cells a ca).toArray] w fun e w' => ∃ s1 ov e1, e = .returned (.tuple #[.bool true, .bool ov]) ∧ Kept n s s1 e1 (¬ D.pickN x.kind 12 = 11) (stepF n s x) ∧ Chg w0 w' No ∧ ((ov = false ∧ e1 = 0 ∧ FT w0 w' t c p g n { s1 with di := flags n s1.z }) ∨ (ov = true ∧ e1 = 22)) := by
  obtain ⟨lb, db, ρ, ov, h⟩ := h
  have hn4 : n ≤ 4096 := h.ca.inv.top
  have hc1 : Chg w (w.alloc (.cells (x.cells a ca).toArray 37)) No := Chg.alloc _ _ _
  have hX : StepB (w.alloc (.cells (x.cells a ca).toArray 37)) w.heap.size x a ca := heap_alloc_new _ _
  have h1 := h.call hc1
  have kx1 := hX.c1
  have k2 := h1.c2
  have HBD := hid (pk_bd hn x.N)
  have HC0 := hid h.ca
  have H1 := hid h1
  have HX := hid hX
  have HA := hid ha
  have HOK := hid hx
  have HTK := hid hk
  have HB := hid (And.intro hnx (And.intro hw hod))
  clear h1 hX ha hx hk h hnx hw hod
  have HPK := fun w => D.pick_any x.kind 12 w HOK.out.k (by omega) (by omega)
  have HJ := hid hj
  rw [hj] at HPK
  have hcs : (x.cells a ca).length = 5 := rfl
  clear hj
  go_enter Tryz.func29, Tryz.ntmps29
  go_wp2_with fail
  refine wp_region_noPanic ?_
  refine wp_region_held_drew (S := fun w' => w'.cell? ⟨w.heap.size, 1, none⟩ = some (.int .i64 x.N) ∧ w'.cell? ⟨t, 2, none⟩ = some (.slice (some ⟨lb, 0, none⟩) n n)) (by as_aux_lemma => kernel_rfl) ⟨kx1, k2⟩ (fun hHeld => ?_)
  refine takeVal 0 8 (.pointer (some ⟨w.heap.size, 1, none⟩)) rfl (by as_aux_lemma => kernel_rfl) (by as_aux_lemma => kernel_rfl) (by as_aux_lemma => kernel_rfl) rfl (by rfl) (fun _ _ _ h => h) hHeld (fun _ hw' => by go_simp) ?_
  simp only [List.setIfInBounds_toArray, List.set_cons_zero, List.set_cons_succ]
  refine takeVal 1 9 (.int .i64 x.N) rfl (by as_aux_lemma => kernel_rfl) (by as_aux_lemma => kernel_rfl) (by as_aux_lemma => kernel_rfl) rfl (by rfl) (fun _ _ _ h => h) hHeld (fun _ hw' => by have hq' := hw'.1; go_simp) ?_
  simp only [List.setIfInBounds_toArray, List.set_cons_zero, List.set_cons_succ]
  refine takeVal 2 10 (.pointer (some ⟨t, 0, none⟩)) rfl (by as_aux_lemma => kernel_rfl) (by as_aux_lemma => kernel_rfl) (by as_aux_lemma => kernel_rfl) rfl (by rfl) (fun _ _ _ h => h) hHeld (fun _ hw' => rfl) ?_
  simp only [List.setIfInBounds_toArray, List.set_cons_zero, List.set_cons_succ]
  refine takeVal 3 11 (.pointer (some ⟨t, 0, none⟩)) rfl (by as_aux_lemma => kernel_rfl) (by as_aux_lemma => kernel_rfl) (by as_aux_lemma => kernel_rfl) rfl (by rfl) (fun _ _ _ h => h) hHeld (fun _ hw' => by go_simp) ?_
  simp only [List.setIfInBounds_toArray, List.set_cons_zero, List.set_cons_succ]
  refine takeVal 4 12 (.pointer (some ⟨t, 2, none⟩)) rfl (by as_aux_lemma => kernel_rfl) (by as_aux_lemma => kernel_rfl) (by as_aux_lemma => kernel_rfl) rfl (by rfl) (fun _ _ _ h => h) hHeld (fun _ hw' => by go_simp) ?_
  simp only [List.setIfInBounds_toArray, List.set_cons_zero, List.set_cons_succ]
  refine takeVal 5 13 (.slice (some ⟨lb, 0, none⟩) n n) rfl (by as_aux_lemma => kernel_rfl) (by as_aux_lemma => kernel_rfl) (by as_aux_lemma => kernel_rfl) rfl (by rfl) (fun _ _ _ h => h) hHeld (fun _ hw' => by have hq' := hw'.2; go_simp) ?_
  simp only [List.setIfInBounds_toArray, List.set_cons_zero, List.set_cons_succ]
  refine takeVal 6 14 (.int .i64 n) rfl (by as_aux_lemma => kernel_rfl) (by as_aux_lemma => kernel_rfl) (by as_aux_lemma => kernel_rfl) rfl (by rfl) (fun _ _ _ h => h) hHeld (fun _ hw' => by go_simp) ?_
  simp only [List.setIfInBounds_toArray, List.set_cons_zero, List.set_cons_succ]
  refine step1 7 (by as_aux_lemma => kernel_rfl) ?_
  refine stCall 7 15 8 #[.int .i64 x.N, .int .i64 n] _ rfl rfl (by rfl) (by go_simp) ((D.pick_any x.N n _ HOK.out.n (by omega) (by omega))) ?_
  rintro e wp ⟨rfl, ewp⟩
  subst ewp
  refine ⟨_, rfl, hHeld, ?_⟩
  simp only [List.setIfInBounds_toArray, List.set_cons_zero, List.set_cons_succ]
  refine takeVal 8 6 (.int .i64 (pk n x.N)) rfl (by as_aux_lemma => kernel_rfl) (by as_aux_lemma => kernel_rfl) (by as_aux_lemma => kernel_rfl) rfl (by rfl) (fun _ _ _ h => h) hHeld (fun _ hw' => rfl) ?_
  simp only [List.setIfInBounds_toArray, List.set_cons_zero, List.set_cons_succ]
  refine wpAnyH_done (by as_aux_lemma => kernel_rfl) ?_ _
  refine NoPanic.normal ?_

  generalize hw1 : (w.alloc (.cells (x.cells a ca).toArray 37)).drew = w1 at *
  have hc01 : Chg (w.alloc (.cells (x.cells a ca).toArray 37)) w1 No := by rw [← hw1]; exact (Chg.refl _ _).drew
  have HT1 := hid (H1.out.call hc01)
  have HX1 := hid (hc01.keep HX.out (fun e => e))
  clear hHeld kx1 k2 hc01 hw1
  have HF1 : Hid (FT w0 w1 t c p g n s) := ⟨lb, db, ρ, ov, HT1.out⟩
  have kx0 := StepB.c0 HX1.out
  have kx2 := StepB.c2 HX1.out
  have q0 := HF1.out.c0
  have q1 := HF1.out.c1
  have hr := StepB.range HX1.out
  have hwb : s.z.d.wr < 4611686018427380000 := by have := HB.out.2.1; omega
  have HPT := fun w => D.pick_any x.tag 4 w HOK.out.t (by omega) (by omega)
  by_cases h9 : D.pickN x.tag 4 = 0
  · rw [h9] at HPT
    have HF9 := hid (stepF_9 (n := n) (s := s) HJ.out h9)
    clear h9
    have HCA := syncC_any HT1.out.ca HTK.out.core.tb hwb
    have HKE := hid (HTK.out.keptS (q := ¬ D.pickN x.kind 12 = 11) hwb HF9.out)
    have HFZ := hid (fun w' z1 (hP : CPost w1 w' c p g n ρ z1) => HT1.out.cache hP)
    generalize hr1 : syncC n s.z = r1 at *
    go_upto_region 24 with (first
      | (go_at_call 8; go_must (first | (refine (HPK w1).mono ?_; rintro e wp ⟨rfl, ewp⟩; subst ewp; clear HPK) | (refine (HPT _).mono ?_; rintro e wp2 ⟨rfl, ewp2⟩; subst ewp2; clear HPT)))
      | (go_at_call 24; go_must (refine HCA.mono ?_; rintro e w2 ⟨rfl, hP2⟩; have hF2 := HFZ.out _ _ hP2; have HF2 := hid hF2; have k20 := hF2.c0; clear HCA hP2 hF2))
      | fail)
    generalize hs1 : ({ s with z := r1.1 } : TSt) = s1 at *
    clear hs1
    rcases HKE.out.wt with ⟨he1, hal⟩ | ⟨he1, hdn⟩
    · simp only at he1
      rw [he1] at HKE
      have HLE := learns_any HF2.out
      have HKF := HKE
      clear hal
      go_wp2_with (first
        | (go_at_call 55; go_must (refine HLE.mono ?_; rintro e wl ⟨rfl, hFl⟩; have HSD := stand_any hFl (Core.fit (s := { s1 with di := flags n (s1).z }) HKE.out.core) (by have := HKE.out.go; have := HB.out.2.2; simp only; omega); rw [Core.stands (s := { s1 with di := flags n (s1).z }) HKE.out.core] at HSD; clear HLE hFl))
        | (go_at_call 54; go_must (refine HSD.mono ?_; rintro e ws ⟨rfl, hFs⟩; have HFS := hid hFs; clear HSD hFs))
        | fail)
      go_ret2
      exact ⟨s1, false, 0, rfl, HKE.out, HFS.out.chg, .inl ⟨rfl, rfl, HFS.out⟩⟩
    · simp only at he1 hdn
      rw [he1] at HKE
      have HDN := HF2.out.down
      rw [hdn] at HDN
      have HSD := stand_any HF2.out (Core.fit HKE.out.core) (by have := HKE.out.go; have := HB.out.2.2; omega)
      rw [Core.stands HKE.out.core] at HSD
      clear hdn
      go_wp2_with (first
        | (go_at_call 53; go_must (refine HDN.mono ?_; rintro e wd ⟨rfl, ewd⟩; subst ewd; clear HDN))
        | (go_at_call 54; go_must (refine HSD.mono ?_; rintro e ws ⟨rfl, hFs⟩; have HFS := hid hFs; clear HSD hFs))
        | fail)
      go_ret2
      exact ⟨s1, true, 22, rfl, HKE.out, HFS.out.chg, .inr ⟨rfl, rfl⟩⟩
  · have hb9 := D.pickN_bd x.tag (n := 4) (by omega)
    have HF9 := hid (stepF_9n (n := n) (s := s) HJ.out h9)
    generalize D.pickN x.tag 4 = y9 at *
    have hq9 : (y9 == 0) = false := by simpa using h9
    have HKE := hid (HTK.out.keptN (q := ¬ D.pickN x.kind 12 = 11) HF9.out)
    have HF2 := HF1
    have k20 := HF1.out.c0
    go_upto_region 24 with (first
      | (go_at_call 8; go_must (first | (refine (HPK w1).mono ?_; rintro e wp ⟨rfl, ewp⟩; subst ewp; clear HPK) | (refine (HPT _).mono ?_; rintro e wp2 ⟨rfl, ewp2⟩; subst ewp2; clear HPT)))
      | fail)
    have HLE := learns_any HF2.out
    have HKF := HKE
    go_wp2_with (first
      | (go_at_call 55; go_must (refine HLE.mono ?_; rintro e wl ⟨rfl, hFl⟩; have HSD := stand_any hFl (Core.fit (s := { s with di := flags n (s).z }) HKE.out.core) (by have := HKE.out.go; have := HB.out.2.2; simp only; omega); rw [Core.stands (s := { s with di := flags n (s).z }) HKE.out.core] at HSD; clear HLE hFl))
      | (go_at_call 54; go_must (refine HSD.mono ?_; rintro e ws ⟨rfl, hFs⟩; have HFS := hid hFs; clear HSD hFs))
      | fail)
    go_ret2
    exact ⟨s, false, 0, rfl, HKE.out, HFS.out.chg, .inl ⟨rfl, rfl, HFS.out⟩⟩

set_option maxRecDepth 100000 in
set_option maxHeartbeats 4000000 in
theorem step_10 (x : SV) (a : Option Addr) (ca : Nat) (h : FT w0 w t c p g n s) (hk : TK n s) (hn : 8 ≤ n) (hx : x.OK) (ha : AAt w0 a x.af) (hnx : s.nx < 16000000) (hw : s.z.d.wr < 4611686018427370000) (hod : s.od.length ≤ 90000000000) (hj : D.pickN x.kind 12 = 10) :
    Calls Tryz.prog 29 #[.pointer (some ⟨t, 0, none⟩), .agg (x.cells a ca).toArray] w fun e w' => ∃ s1 ov e1, e = .returned (.tuple #[.bool true, .bool ov]) ∧ Kept n s s1 e1 (¬ D.pickN x.kind 12 = 11) (stepF n s x) ∧ Chg w0 w' No ∧ ((ov = false ∧ e1 = 0 ∧ FT w0 w' t c p g n { s1 with di := flags n s1.z }) ∨ (ov = true ∧ e1 = 22)) := by
  obtain ⟨lb, db, ρ, ov, h⟩ := h
  have hn4 : n ≤ 4096 := h.ca.inv.top
  have hc1 : Chg w (w.alloc (.cells (x.cells a ca).toArray 37)) No := Chg.alloc _ _ _
  have hX : StepB (w.alloc (.cells (x.cells a ca).toArray 37)) w.heap.size x a ca := heap_alloc_new _ _
  have h1 := h.call hc1
  have kx1 := hX.c1
  have k2 := h1.c2
  have HBD := hid (pk_bd hn x.N)
  have HC0 := hid h.ca
  have H1 := hid h1
  have HX := hid hX
  have HA := hid ha
  have HOK := hid hx
  have HTK := hid hk
  have HB := hid (And.intro hnx (And.intro hw hod))
  clear h1 hX ha hx hk h hnx hw hod
  have HPK := fun w => D.pick_any x.kind 12 w HOK.out.k (by omega) (by omega)
  have HJ := hid hj
  rw [hj] at HPK
  have hcs : (x.cells a ca).length = 5 := rfl
  clear hj
  go_enter Tryz.func29, Tryz.ntmps29
  go_wp2_with fail
  refine wp_region_noPanic ?_
  refine wp_region_held_drew (S := fun w' => w'.cell? ⟨w.heap.size, 1, none⟩ = some (.int .i64 x.N) ∧ w'.cell? ⟨t, 2, none⟩ = some (.slice (some ⟨lb, 0, none⟩) n n)) (by as_aux_lemma => kernel_rfl) ⟨kx1, k2⟩ (fun hHeld => ?_)
  refine takeVal 0 8 (.pointer (some ⟨w.heap.size, 1, none⟩)) rfl (by as_aux_lemma => kernel_rfl) (by as_aux_lemma => kernel_rfl) (by as_aux_lemma => kernel_rfl) rfl (by rfl) (fun _ _ _ h => h) hHeld (fun _ hw' => by go_simp) ?_
  simp only [List.setIfInBounds_toArray, List.set_cons_zero, List.set_cons_succ]
  refine takeVal 1 9 (.int .i64 x.N) rfl (by as_aux_lemma => kernel_rfl) (by as_aux_lemma => kernel_rfl) (by as_aux_lemma => kernel_rfl) rfl (by rfl) (fun _ _ _ h => h) hHeld (fun _ hw' => by have hq' := hw'.1; go_simp) ?_
  simp only [List.setIfInBounds_toArray, List.set_cons_zero, List.set_cons_succ]
  refine takeVal 2 10 (.pointer (some ⟨t, 0, none⟩)) rfl (by as_aux_lemma => kernel_rfl) (by as_aux_lemma => kernel_rfl) (by as_aux_lemma => kernel_rfl) rfl (by rfl) (fun _ _ _ h => h) hHeld (fun _ hw' => rfl) ?_
  simp only [List.setIfInBounds_toArray, List.set_cons_zero, List.set_cons_succ]
  refine takeVal 3 11 (.pointer (some ⟨t, 0, none⟩)) rfl (by as_aux_lemma => kernel_rfl) (by as_aux_lemma => kernel_rfl) (by as_aux_lemma => kernel_rfl) rfl (by rfl) (fun _ _ _ h => h) hHeld (fun _ hw' => by go_simp) ?_
  simp only [List.setIfInBounds_toArray, List.set_cons_zero, List.set_cons_succ]
  refine takeVal 4 12 (.pointer (some ⟨t, 2, none⟩)) rfl (by as_aux_lemma => kernel_rfl) (by as_aux_lemma => kernel_rfl) (by as_aux_lemma => kernel_rfl) rfl (by rfl) (fun _ _ _ h => h) hHeld (fun _ hw' => by go_simp) ?_
  simp only [List.setIfInBounds_toArray, List.set_cons_zero, List.set_cons_succ]
  refine takeVal 5 13 (.slice (some ⟨lb, 0, none⟩) n n) rfl (by as_aux_lemma => kernel_rfl) (by as_aux_lemma => kernel_rfl) (by as_aux_lemma => kernel_rfl) rfl (by rfl) (fun _ _ _ h => h) hHeld (fun _ hw' => by have hq' := hw'.2; go_simp) ?_
  simp only [List.setIfInBounds_toArray, List.set_cons_zero, List.set_cons_succ]
  refine takeVal 6 14 (.int .i64 n) rfl (by as_aux_lemma => kernel_rfl) (by as_aux_lemma => kernel_rfl) (by as_aux_lemma => kernel_rfl) rfl (by rfl) (fun _ _ _ h => h) hHeld (fun _ hw' => by go_simp) ?_
  simp only [List.setIfInBounds_toArray, List.set_cons_zero, List.set_cons_succ]
  refine step1 7 (by as_aux_lemma => kernel_rfl) ?_
  refine stCall 7 15 8 #[.int .i64 x.N, .int .i64 n] _ rfl rfl (by rfl) (by go_simp) ((D.pick_any x.N n _ HOK.out.n (by omega) (by omega))) ?_
  rintro e wp ⟨rfl, ewp⟩
  subst ewp
  refine ⟨_, rfl, hHeld, ?_⟩
  simp only [List.setIfInBounds_toArray, List.set_cons_zero, List.set_cons_succ]
  refine takeVal 8 6 (.int .i64 (pk n x.N)) rfl (by as_aux_lemma => kernel_rfl) (by as_aux_lemma => kernel_rfl) (by as_aux_lemma => kernel_rfl) rfl (by rfl) (fun _ _ _ h => h) hHeld (fun _ hw' => rfl) ?_
  simp only [List.setIfInBounds_toArray, List.set_cons_zero, List.set_cons_succ]
  refine wpAnyH_done (by as_aux_lemma => kernel_rfl) ?_ _
  refine NoPanic.normal ?_

  generalize hw1 : (w.alloc (.cells (x.cells a ca).toArray 37)).drew = w1 at *
  have hc01 : Chg (w.alloc (.cells (x.cells a ca).toArray 37)) w1 No := by rw [← hw1]; exact (Chg.refl _ _).drew
  have HT1 := hid (H1.out.call hc01)
  have HX1 := hid (hc01.keep HX.out (fun e => e))
  clear hHeld kx1 k2 hc01 hw1
  have HF1 : Hid (FT w0 w1 t c p g n s) := ⟨lb, db, ρ, ov, HT1.out⟩
  have kx0 := StepB.c0 HX1.out
  have kx2 := StepB.c2 HX1.out
  have q0 := HF1.out.c0
  have q1 := HF1.out.c1
  have hr := StepB.range HX1.out
  have hwb : s.z.d.wr < 4611686018427380000 := by have := HB.out.2.1; omega
  have HCA := drops_any (pk n x.N) HF1.out (Core.fit HTK.out.core) HBD.out HTK.out.al.1 HTK.out.al.2 (by have := HB.out.2.2; omega)
  have HKE := hid (HTK.out.keptO (q := ¬ D.pickN x.kind 12 = 11) HBD.out (stepF_10 HJ.out))
  generalize hr1 : dropsT s (pk n x.N) = s1 at *
  go_upto_region 24 with (first
    | (go_at_call 8; go_must (refine (HPK w1).mono ?_; rintro e wp ⟨rfl, ewp⟩; subst ewp; clear HPK))
    | (go_at_call 13; go_must (refine HCA.mono ?_; rintro e w2 ⟨rfl, hF2⟩; have HF2 := hid hF2; have k20 := hF2.c0; clear HCA hF2))
    | fail)
  have HLE := learns_any HF2.out
  have HKF := HKE
  go_wp2_with (first
    | (go_at_call 55; go_must (refine HLE.mono ?_; rintro e wl ⟨rfl, hFl⟩; have HSD := stand_any hFl (Core.fit (s := { s1 with di := flags n (s1).z }) HKE.out.core) (by have := HKE.out.go; have := HB.out.2.2; simp only; omega); rw [Core.stands (s := { s1 with di := flags n (s1).z }) HKE.out.core] at HSD; clear HLE hFl))
    | (go_at_call 54; go_must (refine HSD.mono ?_; rintro e ws ⟨rfl, hFs⟩; have HFS := hid hFs; clear HSD hFs))
    | fail)
  go_ret2
  exact ⟨s1, false, 0, rfl, HKE.out, HFS.out.chg, .inl ⟨rfl, rfl, HFS.out⟩⟩

set_option maxRecDepth 100000 in
set_option maxHeartbeats 4000000 in
theorem step_11 (x : SV) (a : Option Addr) (ca : Nat) (h : FT w0 w t c p g n s) (hk : TK n s) (hn : 8 ≤ n) (hx : x.OK) (ha : AAt w0 a x.af) (hnx : s.nx < 16000000) (hw : s.z.d.wr < 4611686018427370000) (hod : s.od.length ≤ 90000000000) (hj : D.pickN x.kind 12 = 11) :
    Calls Tryz.prog 29 #[.pointer (some ⟨t, 0, none⟩), .agg (x.cells a ca).toArray] w fun e w' => ∃ s1 ov e1, e = .returned (.tuple #[.bool true, .bool ov]) ∧ Kept n s s1 e1 (¬ D.pickN x.kind 12 = 11) (stepF n s x) ∧ Chg w0 w' No ∧ ((ov = false ∧ e1 = 0 ∧ FT w0 w' t c p g n { s1 with di := flags n s1.z }) ∨ (ov = true ∧ e1 = 22)) := by
  obtain ⟨lb, db, ρ, ov, h⟩ := h
  have hn4 : n ≤ 4096 := h.ca.inv.top
  have hc1 : Chg w (w.alloc (.cells (x.cells a ca).toArray 37)) No := Chg.alloc _ _ _
  have hX : StepB (w.alloc (.cells (x.cells a ca).toArray 37)) w.heap.size x a ca := heap_alloc_new _ _
  have h1 := h.call hc1
  have kx1 := hX.c1
  have k2 := h1.c2
  have HBD := hid (pk_bd hn x.N)
  have HC0 := hid h.ca
  have H1 := hid h1
  have HX := hid hX
  have HA := hid ha
  have HOK := hid hx
  have HTK := hid hk
  have HB := hid (And.intro hnx (And.intro hw hod))
  clear h1 hX ha hx hk h hnx hw hod
  have HPK := fun w => D.pick_any x.kind 12 w HOK.out.k (by omega) (by omega)
  have HJ := hid hj
  rw [hj] at HPK
  have hcs : (x.cells a ca).length = 5 := rfl
  clear hj
  go_enter Tryz.func29, Tryz.ntmps29
  go_wp2_with fail
  refine wp_region_noPanic ?_
  refine wp_region_held_drew (S := fun w' => w'.cell? ⟨w.heap.size, 1, none⟩ = some (.int .i64 x.N) ∧ w'.cell? ⟨t, 2, none⟩ = some (.slice (some ⟨lb, 0, none⟩) n n)) (by as_aux_lemma => kernel_rfl) ⟨kx1, k2⟩ (fun hHeld => ?_)
  refine takeVal 0 8 (.pointer (some ⟨w.heap.size, 1, none⟩)) rfl (by as_aux_lemma => kernel_rfl) (by as_aux_lemma => kernel_rfl) (by as_aux_lemma => kernel_rfl) rfl (by rfl) (fun _ _ _ h => h) hHeld (fun _ hw' => by go_simp) ?_
  simp only [List.setIfInBounds_toArray, List.set_cons_zero, List.set_cons_succ]
  refine takeVal 1 9 (.int .i64 x.N) rfl (by as_aux_lemma => kernel_rfl) (by as_aux_lemma => kernel_rfl) (by as_aux_lemma => kernel_rfl) rfl (by rfl) (fun _ _ _ h => h) hHeld (fun _ hw' => by have hq' := hw'.1; go_simp) ?_
  simp only [List.setIfInBounds_toArray, List.set_cons_zero, List.set_cons_succ]
  refine takeVal 2 10 (.pointer (some ⟨t, 0, none⟩)) rfl (by as_aux_lemma => kernel_rfl) (by as_aux_lemma => kernel_rfl) (by as_aux_lemma => kernel_rfl) rfl (by rfl) (fun _ _ _ h => h) hHeld (fun _ hw' => rfl) ?_
  simp only [List.setIfInBounds_toArray, List.set_cons_zero, List.set_cons_succ]
  refine takeVal 3 11 (.pointer (some ⟨t, 0, none⟩)) rfl (by as_aux_lemma => kernel_rfl) (by as_aux_lemma => kernel_rfl) (by as_aux_lemma => kernel_rfl) rfl (by rfl) (fun _ _ _ h => h) hHeld (fun _ hw' => by go_simp) ?_
  simp only [List.setIfInBounds_toArray, List.set_cons_zero, List.set_cons_succ]
  refine takeVal 4 12 (.pointer (some ⟨t, 2, none⟩)) rfl (by as_aux_lemma => kernel_rfl) (by as_aux_lemma => kernel_rfl) (by as_aux_lemma => kernel_rfl) rfl (by rfl) (fun _ _ _ h => h) hHeld (fun _ hw' => by go_simp) ?_
  simp only [List.setIfInBounds_toArray, List.set_cons_zero, List.set_cons_succ]
  refine takeVal 5 13 (.slice (some ⟨lb, 0, none⟩) n n) rfl (by as_aux_lemma => kernel_rfl) (by as_aux_lemma => kernel_rfl) (by as_aux_lemma => kernel_rfl) rfl (by rfl) (fun _ _ _ h => h) hHeld (fun _ hw' => by have hq' := hw'.2; go_simp) ?_
  simp only [List.setIfInBounds_toArray, List.set_cons_zero, List.set_cons_succ]
  refine takeVal 6 14 (.int .i64 n) rfl (by as_aux_lemma => kernel_rfl) (by as_aux_lemma => kernel_rfl) (by as_aux_lemma => kernel_rfl) rfl (by rfl) (fun _ _ _ h => h) hHeld (fun _ hw' => by go_simp) ?_
  simp only [List.setIfInBounds_toArray, List.set_cons_zero, List.set_cons_succ]
  refine step1 7 (by as_aux_lemma => kernel_rfl) ?_
  refine stCall 7 15 8 #[.int .i64 x.N, .int .i64 n] _ rfl rfl (by rfl) (by go_simp) ((D.pick_any x.N n _ HOK.out.n (by omega) (by omega))) ?_
  rintro e wp ⟨rfl, ewp⟩
  subst ewp
  refine ⟨_, rfl, hHeld, ?_⟩
  simp only [List.setIfInBounds_toArray, List.set_cons_zero, List.set_cons_succ]
  refine takeVal 8 6 (.int .i64 (pk n x.N)) rfl (by as_aux_lemma => kernel_rfl) (by as_aux_lemma => kernel_rfl) (by as_aux_lemma => kernel_rfl) rfl (by rfl) (fun _ _ _ h => h) hHeld (fun _ hw' => rfl) ?_
  simp only [List.setIfInBounds_toArray, List.set_cons_zero, List.set_cons_succ]
  refine wpAnyH_done (by as_aux_lemma => kernel_rfl) ?_ _
  refine NoPanic.normal ?_

  generalize hw1 : (w.alloc (.cells (x.cells a ca).toArray 37)).drew = w1 at *
  have hc01 : Chg (w.alloc (.cells (x.cells a ca).toArray 37)) w1 No := by rw [← hw1]; exact (Chg.refl _ _).drew
  have HT1 := hid (H1.out.call hc01)
  have HX1 := hid (hc01.keep HX.out (fun e => e))
  clear hHeld kx1 k2 hc01 hw1
  have HF1 : Hid (FT w0 w1 t c p g n s) := ⟨lb, db, ρ, ov, HT1.out⟩
  have kx0 := StepB.c0 HX1.out
  have kx2 := StepB.c2 HX1.out
  have q0 := HF1.out.c0
  have q1 := HF1.out.c1
  have hr := StepB.range HX1.out
  have hwb : s.z.d.wr < 4611686018427380000 := by have := HB.out.2.1; omega
  have hb11 := D.pickN_bd x.tag (n := 9) (by omega)
  have HAD : Hid (D.armD s.z.d (D.pickN x.tag 9) = ⟨s.z.d.S, s.z.d.wr, s.z.d.dn, true, D.pickN x.tag 9⟩) := by
    show _ = _
    unfold D.armD
    rw [if_neg (by omega), if_neg (by rw [HTK.out.al.2]; decide)]
  have HID : Hid (D.IsD w1.drew p g n s.z.d) := by
    obtain ⟨_, _, _, _, _, hc⟩ := HT1.out.ca
    exact hc.dk.drew
  have HKE : Hid (Kept n s { s with z := { s.z with d := D.armD s.z.d (D.pickN x.tag 9) } } 0 (¬ D.pickN x.kind 12 = 11) (stepF n s x)) := by
    refine HTK.out.keptZ (z1 := { s.z with d := D.armD s.z.d (D.pickN x.tag 9) }) (HTK.out.core.disk (d := D.armD s.z.d (D.pickN x.tag 9)) ?_ ?_ ?_) (.inl ⟨rfl, HTK.out.al.1, ?_⟩) ?_ (fun hq _ => absurd HJ.out hq) (stepF_11 HJ.out)
    · rw [HAD.out]
    · rw [HAD.out]
    · rw [HAD.out]; simp only; omega
    · simp only; rw [HAD.out]; exact HTK.out.al.2
    · simp only; rw [HAD.out]; simp only; omega
  have HAR : Hid (∀ w2, D.IsD w2 p g n (D.armD s.z.d (D.pickN x.tag 9)) → D.Mod w1.drew w2 [p] → FT w0 w2 t c p g n { s with z := { s.z with d := D.armD s.z.d (D.pickN x.tag 9) } } ∧ w2.cell? ⟨w.heap.size, 2, none⟩ = some (.int .i64 x.tag)) := fun w2 hd2 hm2 => by
    have hcm : Chg w1.drew w2 (· = p) := (Chg.of_mod hm2).mono (fun k _ e => by simpa using e)
    have hTd := HT1.out.call (Chg.refl w1 No).drew
    have hw0 := HTK.out.core.inv.w0
    refine ⟨hTd.cache (arm_post hTd.ca hd2 hcm (by rw [HAD.out]; exact hw0) (by rw [HAD.out]; simp only; omega)), ?_⟩
    refine cell_keep (w := w1.drew) (StepB.c2 HX1.out) hcm (slt HX1.out) (fun e => ?_)
    have h1 : IsC w c p g n ρ s.z := HC0.out
    obtain ⟨_, _, _, _, _, hc⟩ := h1
    have := hc.lt _ _ hc.rp
    omega
  go_upto_region 23 with (first
    | (go_at_call 8; go_must (refine (HPK w1).mono ?_; rintro e wp ⟨rfl, ewp⟩; subst ewp; clear HPK))
    | fail)
  refine wp_region_noPanic ?_
  refine wp_region_held_drew (S := fun w' => w'.cell? ⟨t, 0, none⟩ = some (.pointer (some ⟨p, 0, none⟩)) ∧ w'.cell? ⟨w.heap.size, 2, none⟩ = some (.int .i64 x.tag)) (by as_aux_lemma => kernel_rfl) ⟨q0, kx2⟩ (fun hHeld => ?_)
  refine takeVal 0 68 (.pointer (some ⟨t, 0, none⟩)) rfl (by as_aux_lemma => kernel_rfl) (by as_aux_lemma => kernel_rfl) (by as_aux_lemma => kernel_rfl) rfl (by rfl) (fun _ _ _ h => h) hHeld (fun _ hw' => rfl) ?_
  simp only [List.setIfInBounds_toArray, List.set_cons_zero, List.set_cons_succ]
  refine takeVal 1 69 (.pointer (some ⟨t, 0, none⟩)) rfl (by as_aux_lemma => kernel_rfl) (by as_aux_lemma => kernel_rfl) (by as_aux_lemma => kernel_rfl) rfl (by rfl) (fun _ _ _ h => h) hHeld (fun _ hw' => by go_simp) ?_
  simp only [List.setIfInBounds_toArray, List.set_cons_zero, List.set_cons_succ]
  refine takeVal 2 70 (.pointer (some ⟨t, 0, none⟩)) rfl (by as_aux_lemma => kernel_rfl) (by as_aux_lemma => kernel_rfl) (by as_aux_lemma => kernel_rfl) rfl (by rfl) (fun _ _ _ h => h) hHeld (fun _ hw' => by go_simp) ?_
  simp only [List.setIfInBounds_toArray, List.set_cons_zero, List.set_cons_succ]
  refine takeVal 3 71 (.pointer (some ⟨p, 0, none⟩)) rfl (by as_aux_lemma => kernel_rfl) (by as_aux_lemma => kernel_rfl) (by as_aux_lemma => kernel_rfl) rfl (by rfl) (fun _ _ _ h => h) hHeld (fun _ hw' => by have hq' := hw'.1; go_simp) ?_
  simp only [List.setIfInBounds_toArray, List.set_cons_zero, List.set_cons_succ]
  refine takeVal 4 72 (.pointer (some ⟨w.heap.size, 2, none⟩)) rfl (by as_aux_lemma => kernel_rfl) (by as_aux_lemma => kernel_rfl) (by as_aux_lemma => kernel_rfl) rfl (by rfl) (fun _ _ _ h => h) hHeld (fun _ hw' => by go_simp) ?_
  simp only [List.setIfInBounds_toArray, List.set_cons_zero, List.set_cons_succ]
  refine takeVal 5 73 (.int .i64 x.tag) rfl (by as_aux_lemma => kernel_rfl) (by as_aux_lemma => kernel_rfl) (by as_aux_lemma => kernel_rfl) rfl (by rfl) (fun _ _ _ h => h) hHeld (fun _ hw' => by have hq' := hw'.2; go_simp) ?_
  simp only [List.setIfInBounds_toArray, List.set_cons_zero, List.set_cons_succ]
  refine step1 6 (by as_aux_lemma => kernel_rfl) ?_
  refine stCall 6 74 8 #[.int .i64 x.tag, .int .i64 9] _ rfl rfl (by rfl) (by go_simp) ((D.pick_any x.tag 9 _ HOK.out.t (by omega) (by omega))) ?_
  rintro e wp2 ⟨rfl, ewp2⟩
  subst ewp2
  refine ⟨_, rfl, hHeld, ?_⟩
  simp only [List.setIfInBounds_toArray, List.set_cons_zero, List.set_cons_succ]
  refine step1 7 (by as_aux_lemma => kernel_rfl) ?_
  refine stCall 7 75 52 #[.pointer (some ⟨p, 0, none⟩), .int .i64 (D.pickN x.tag 9)] _ rfl rfl (by rfl) (by go_simp) ((D.arm_any (D.pickN x.tag 9) _ HID.out)) ?_
  rintro e w2 ⟨rfl, hd2, hm2⟩
  obtain ⟨hF2, hX2⟩ := HAR.out w2 hd2 hm2
  have HF2 := hid hF2
  have hHeld : w2.cell? ⟨t, 0, none⟩ = some (.pointer (some ⟨p, 0, none⟩)) ∧ w2.cell? ⟨w.heap.size, 2, none⟩ = some (.int .i64 x.tag) := ⟨hF2.c0, hX2⟩
  refine ⟨_, rfl, hHeld, ?_⟩
  simp only [List.setIfInBounds_toArray, List.set_cons_zero, List.set_cons_succ]
  refine wpAnyH_done (by as_aux_lemma => kernel_rfl) ?_ _
  refine NoPanic.normal ?_
  have k20 := HF2.out.c0
  generalize hs1 : ({ s with z := { s.z with d := D.armD s.z.d (D.pickN x.tag 9) } } : TSt) = s1 at *
  clear hs1
  have HLE := learns_any HF2.out
  have HKF := HKE
  go_wp2_with (first
    | (go_at_call 55; go_must (refine HLE.mono ?_; rintro e wl ⟨rfl, hFl⟩; have HSD := stand_any hFl (Core.fit (s := { s1 with di := flags n (s1).z }) HKE.out.core) (by have := HKE.out.go; have := HB.out.2.2; simp only; omega); rw [Core.stands (s := { s1 with di := flags n (s1).z }) HKE.out.core] at HSD; clear HLE hFl))
    | (go_at_call 54; go_must (refine HSD.mono ?_; rintro e ws ⟨rfl, hFs⟩; have HFS := hid hFs; clear HSD hFs))
    | fail)
  go_ret2
  exact ⟨s1, false, 0, rfl, HKE.out, HFS.out.chg, .inl ⟨rfl, rfl, HFS.out⟩⟩

theorem step_any (x : SV) (a : Option Addr) (ca : Nat) (h : FT w0 w t c p g n s) (hk : TK n s) (hn : 8 ≤ n) (hx : x.OK) (ha : AAt w0 a x.af) (hnx : s.nx < 16000000) (hw : s.z.d.wr < 4611686018427370000) (hod : s.od.length ≤ 90000000000) :
    Calls Tryz.prog 29 #[.pointer (some ⟨t, 0, none⟩), .agg (x.cells a ca).toArray] w fun e w' => ∃ s1 ov e1, e = .returned (.tuple #[.bool true, .bool ov]) ∧ Kept n s s1 e1 (¬ D.pickN x.kind 12 = 11) (stepF n s x) ∧ Chg w0 w' No ∧ ((ov = false ∧ e1 = 0 ∧ FT w0 w' t c p g n { s1 with di := flags n s1.z }) ∨ (ov = true ∧ e1 = 22)) := by
  have hb := D.pickN_bd x.kind (n := 12) (by omega)
  have hj : D.pickN x.kind 12 = 0 ∨ D.pickN x.kind 12 = 1 ∨ D.pickN x.kind 12 = 2 ∨ D.pickN x.kind 12 = 3 ∨ D.pickN x.kind 12 = 4 ∨ D.pickN x.kind 12 = 5 ∨ D.pickN x.kind 12 = 6 ∨ D.pickN x.kind 12 = 7 ∨ D.pickN x.kind 12 = 8 ∨ D.pickN x.kind 12 = 9 ∨ D.pickN x.kind 12 = 10 ∨ D.pickN x.kind 12 = 11 := by omega
  rcases hj with e | e | e | e | e | e | e | e | e | e | e | e
  · exact step_0 x a ca h hk hn hx ha hnx hw hod e
  · exact step_1 x a ca h hk hn hx ha hnx hw hod e
  · exact step_2 x a ca h hk hn hx ha hnx hw hod e
  · exact step_3 x a ca h hk hn hx ha hnx hw hod e
  · exact step_4 x a ca h hk hn hx ha hnx hw hod e
  · exact step_5 x a ca h hk hn hx ha hnx hw hod e
  · exact step_6 x a ca h hk hn hx ha hnx hw hod e
  · exact step_7 x a ca h hk hn hx ha hnx hw hod e
  · exact step_8 x a ca h hk hn hx ha hnx hw hod e
  · exact step_9 x a ca h hk hn hx ha hnx hw hod e
  · exact step_10 x a ca h hk hn hx ha hnx hw hod e
  · exact step_11 x a ca h hk hn hx ha hnx hw hod e

end Go.Proofs.YtgkanfmkohlmcaaGreat
