/-
  SpaceNews returns true: the walk.
-/
import Derived.Test.YtdddcllakjeplaaQ3
import Derived.Test.YtdddcllakjeplaaV0
import Derived.Test.YtdddcllakjeplaaUF
namespace Go.Proofs.Ytdddcllakjeplaa
open Go.RowKit

theorem lent_ints {w : World} {g : Nat} {zs : List Int} {t : TypeId} (h : w.heap[g]? = some (.cells (ZA (lentL zs)) t (0, 0))) : IntsAt w (some ⟨g, 0, none⟩) zs :=
  .inr ⟨g, 0, rfl, slt h, fun j hj => by
    rw [Nat.zero_add, ZA_at h j (by rw [lentL_len]; omega), lentL_get zs j (by omega), if_pos hj]⟩
/-- A space and the document's, side by side. -/
structure Duo (w wr : World) (A lo mid hi p q : Nat) (bx : Array Value) (s : SS) : Prop where
  s1 : IsS wr lo mid p s
  s2 : IsQ wr mid hi q s
  bx : wr.heap[A]? = some (.cells bx 26 (0, 0))
  be : Below w.heap.size w wr
  l : A < lo ∧ w.heap.size ≤ lo ∧ lo ≤ mid
section
variable {w wr wr' : World} {A lo mid hi p q : Nat} {bx : Array Value} {s s' : SS}
theorem Duo.call (h : Duo w wr A lo mid hi p q bx s) (hb : Below wr.heap.size wr wr') : Duo w wr' A lo mid hi p q bx s :=
  ⟨h.s1.call hb, h.s2.call hb, (Chg.of_below hb No).keep h.bx (fun e => e), h.be.trans (hb.mono h.be.size), h.l⟩
theorem Duo.drewN (h : Duo w wr A lo mid hi p q bx s) (n : Nat) : Duo w (wr.drewN n) A lo mid hi p q bx s := ⟨h.s1.drewN n, h.s2.drewN n, h.bx, below_drewN h.be n, h.l⟩
/-- Both turn alike. -/
theorem Duo.both {w1 w2 : World} (h : Duo w wr A lo mid hi p q bx s) (h1 : IsS w1 lo mid p s') (c1 : Chg wr w1 (Rg lo mid)) (h2 : IsQ w2 mid hi q s') (c2 : Chg w1 w2 (Rg mid hi)) : Duo w w2 A lo mid hi p q bx s' := by
  have hl := h.l
  refine ⟨h1.keep c2 (fun k hk e => ?_), h2, c2.keep (c1.keep h.bx (fun e => ?_)) (fun e => ?_), c2.to (c1.to h.be h.be.size (fun k e => Nat.le_trans hl.2.1 e.1)) (Nat.le_trans h.be.size c1.size) (fun k e => Nat.le_trans (Nat.le_trans hl.2.1 hl.2.2) e.1), hl⟩
  · have := hk.2; have := e.1; omega
  · have := e.1; omega
  · have := e.1; omega
theorem Duo.other {w1 : World} (h : Duo w wr A lo mid hi p q bx s) (c1 : Chg wr w1 (Rg lo mid)) : IsQ w1 mid hi q s := h.s2.keep c1 (fun k hk e => by have := hk.1; have := e.2; omega)
/-- Blocks ahead of both may be written over. -/
theorem Duo.spoil (h : Duo w wr A lo mid hi p q bx s) {g : Nat} (c : Chg wr wr' (· = g)) (h1 : A < g) (h2 : g < lo) (h3 : w.heap.size ≤ g) : Duo w wr' A lo mid hi p q bx s :=
  ⟨h.s1.keep c (fun k hk e => by have := hk.1; omega), h.s2.keep c (fun k hk e => by have := hk.1; have := h.l; omega), c.keep h.bx (fun e => by omega), c.to h.be h.be.size (fun k e => by omega), h.l⟩
end
theorem cells4' {w : World} {g : Nat} {v0 v1 v2 v3 : Value} {t : TypeId} (h : w.heap[g]? = some (.cells #[v0, v1, v2, v3] t (0, 0))) : w.cell? ⟨g, 0, none⟩ = some v0 ∧ w.cell? ⟨g, 1, none⟩ = some v1 ∧ w.cell? ⟨g, 2, none⟩ = some v2 ∧ w.cell? ⟨g, 3, none⟩ = some v3 := ⟨(cell_of_row _ _ _ _ _ _ h).trans rfl, (cell_of_row _ _ _ _ _ _ h).trans rfl, (cell_of_row _ _ _ _ _ _ h).trans rfl, (cell_of_row _ _ _ _ _ _ h).trans rfl⟩
theorem box4' {w w1 : World} {v0 v1 v2 v3 : Value} {t : TypeId} (hb : Below (w.alloc (.cells #[v0, v1, v2, v3] t)).heap.size (w.alloc (.cells #[v0, v1, v2, v3] t)) w1) :
    w1.heap[w.heap.size]? = some (.cells #[v0, v1, v2, v3] t (0, 0)) := (hb.block w.heap.size (by simp)).trans (heap_alloc_new w _)

set_option maxRecDepth 100000 in
set_option maxHeartbeats 4000000 in
theorem news_bad (nn kk : Int) (xs ys : List Int) (a b : Option Addr) (c d lx ly : Nat) (w : World) (hlx : Hid (xs.length = lx)) (hly : Hid (ys.length = ly)) (hl : lx ≤ 17592186043904) (hl2 : ly ≤ 17592186043904) (HX : Hid (IntsAt w a xs)) (HY : Hid (IntsAt w b ys)) (hc : mayB nn kk = false) :
    Calls Try.prog 3 #[.agg #[.int .i64 nn, .int .i64 kk, .slice a lx c, .slice b ly d]] w fun e w' => e = .returned (.bool true) ∧ Below w.heap.size w w' := by
  have HS := hid fun v1 v2 w => sNew_bad nn kk hc v1 v2 w
  have HQ := hid fun v1 v2 w => rNew_bad nn kk hc v1 v2 w
  go_enter Try.func3, Try.ntmps3
  go_upto_region 2 with (go_at_call 5; refine (awake_any _).mono ?_; rintro e w1 ⟨rfl, b1⟩; have B1 := hid b1; clear b1)
  have X1 := hid (box4' B1.out)
  have BW1 := hid ((below_box w _).trans (B1.out.mono (by simp)))
  have HA1 := hid (slt X1.out)
  clear B1
  generalize hA : w.heap.size = A at X1 HA1
  have HA : Hid (w.heap.size = A) := hA
  obtain ⟨x0, x1, x2, x3⟩ := cells4' X1.out
  clear hA
  have HL1 := hid (lent_any xs lx hlx a c w1 hl (hid (HX.out.call BW1.out)))
  go_upto_region 3 with (go_at_call 6; refine HL1.out.mono ?_; rintro e w2 ⟨rfl, g2, b2⟩; have G2 := hid g2; have B2 := hid b2; clear g2 b2)
  have X2 := hid ((Chg.of_below B2.out No).keep X1.out (fun e => e))
  have BW2 := hid (BW1.out.trans (B2.out.mono BW1.out.size))
  have HA2 : Hid (A < w1.heap.size ∧ w1.heap.size < w2.heap.size) := ⟨HA1.out, slt G2.out⟩
  clear x0 x1 x2 x3 HL1 B2
  generalize w1.heap.size = g1 at *
  obtain ⟨x0, x1, x2, x3⟩ := cells4' X2.out
  have HL2 := hid (lent_any ys ly hly b d w2 hl2 (hid (HY.out.call BW2.out)))
  go_upto_region 4 with (go_at_call 6; refine HL2.out.mono ?_; rintro e w3 ⟨rfl, g3, b3⟩; have G3 := hid g3; have B3 := hid b3; clear g3 b3)
  have X3 := hid ((Chg.of_below B3.out No).keep X2.out (fun e => e))
  have G23 := hid ((Chg.of_below B3.out No).keep G2.out (fun e => e))
  have BW3 := hid (BW2.out.trans (B3.out.mono BW2.out.size))
  have HA3 : Hid (A < g1 ∧ g1 < w2.heap.size ∧ w2.heap.size < w3.heap.size) := ⟨HA2.out.1, HA2.out.2, slt G3.out⟩
  clear x0 x1 x2 x3 HL2 B3 X1 X2 BW1 BW2 HA1 HA2 G2
  generalize w2.heap.size = g2 at *
  refine wp_region_noPanic ?_
  refine wp_region_held_drew (S := fun w' => w'.heap[A]? = some (.cells #[.int .i64 nn, .int .i64 kk, .slice a lx c, .slice b ly d] 26 (0, 0)) ∧ w'.heap[g1]? = some (.cells (ZA (lentL xs)) 3 (0, 0)) ∧ w'.heap[g2]? = some (.cells (ZA (lentL ys)) 3 (0, 0)) ∧ Below w.heap.size w w') (by kernel_rfl) ⟨X3.out, G23.out, G3.out, below_drewN BW3.out 1⟩ (fun hHeld => ?_)
  have hw3s : w3.heap.size = w3.drew.heap.size := rfl
  refine takeVal 0 26 (.pointer (some ⟨A, 0, none⟩)) rfl (by kernel_rfl) (by kernel_rfl) (by kernel_rfl) rfl (by rfl) (fun _ _ _ h => h) hHeld (fun _ hw' => by go_simp) ?_
  simp only [List.setIfInBounds_toArray, List.set_cons_zero, List.set_cons_succ]
  refine takeVal 1 27 (.agg #[.int .i64 nn, .int .i64 kk]) rfl (by kernel_rfl) (by kernel_rfl) (by kernel_rfl) rfl (by rfl) (fun _ _ _ h => h) hHeld (fun _ hw' => by have c := cells4' hw'.1; have c0 := c.1; have c1 := c.2.1; go_simp) ?_
  simp only [List.setIfInBounds_toArray, List.set_cons_zero, List.set_cons_succ]
  refine takeVal 2 28 (.slice (some ⟨g1, 0, none⟩) (lx + 20) (lx + 20)) rfl (by kernel_rfl) (by kernel_rfl) (by kernel_rfl) rfl (by rfl) (fun _ _ _ h => h) hHeld (fun _ hw' => rfl) ?_
  simp only [List.setIfInBounds_toArray, List.set_cons_zero, List.set_cons_succ]
  refine takeVal 3 29 (.pointer (some ⟨A, 2, none⟩)) rfl (by kernel_rfl) (by kernel_rfl) (by kernel_rfl) rfl (by rfl) (fun _ _ _ h => h) hHeld (fun _ hw' => by go_simp) ?_
  simp only [List.setIfInBounds_toArray, List.set_cons_zero, List.set_cons_succ]
  refine takeVal 4 30 (.slice a lx c) rfl (by kernel_rfl) (by kernel_rfl) (by kernel_rfl) rfl (by rfl) (fun _ _ _ h => h) hHeld (fun _ hw' => by have c := (cells4' hw'.1).2.2.1; go_simp) ?_
  simp only [List.setIfInBounds_toArray, List.set_cons_zero, List.set_cons_succ]
  refine takeVal 5 31 (.int .i64 (lx : Int)) rfl (by kernel_rfl) (by kernel_rfl) (by kernel_rfl) rfl (by rfl) (fun _ _ _ h => h) hHeld (fun _ hw' => by go_simp) ?_
  simp only [List.setIfInBounds_toArray, List.set_cons_zero, List.set_cons_succ]
  refine takeVal 6 32 (.slice (some ⟨g1, 0, none⟩) lx (lx + 20)) rfl (by kernel_rfl) (by kernel_rfl) (by kernel_rfl) rfl (by rfl) (fun _ _ _ h => h) hHeld (fun _ hw' => by go_simp; intro hh; omega) ?_
  simp only [List.setIfInBounds_toArray, List.set_cons_zero, List.set_cons_succ]
  refine takeVal 7 33 (.slice (some ⟨g2, 0, none⟩) (ly + 20) (ly + 20)) rfl (by kernel_rfl) (by kernel_rfl) (by kernel_rfl) rfl (by rfl) (fun _ _ _ h => h) hHeld (fun _ hw' => rfl) ?_
  simp only [List.setIfInBounds_toArray, List.set_cons_zero, List.set_cons_succ]
  refine takeVal 8 34 (.pointer (some ⟨A, 3, none⟩)) rfl (by kernel_rfl) (by kernel_rfl) (by kernel_rfl) rfl (by rfl) (fun _ _ _ h => h) hHeld (fun _ hw' => by go_simp) ?_
  simp only [List.setIfInBounds_toArray, List.set_cons_zero, List.set_cons_succ]
  refine takeVal 9 35 (.slice b ly d) rfl (by kernel_rfl) (by kernel_rfl) (by kernel_rfl) rfl (by rfl) (fun _ _ _ h => h) hHeld (fun _ hw' => by have c := (cells4' hw'.1).2.2.2; go_simp) ?_
  simp only [List.setIfInBounds_toArray, List.set_cons_zero, List.set_cons_succ]
  refine takeVal 10 36 (.int .i64 (ly : Int)) rfl (by kernel_rfl) (by kernel_rfl) (by kernel_rfl) rfl (by rfl) (fun _ _ _ h => h) hHeld (fun _ hw' => by go_simp) ?_
  simp only [List.setIfInBounds_toArray, List.set_cons_zero, List.set_cons_succ]
  refine takeVal 11 37 (.slice (some ⟨g2, 0, none⟩) ly (ly + 20)) rfl (by kernel_rfl) (by kernel_rfl) (by kernel_rfl) rfl (by rfl) (fun _ _ _ h => h) hHeld (fun _ hw' => by go_simp; intro hh; omega) ?_
  simp only [List.setIfInBounds_toArray, List.set_cons_zero, List.set_cons_succ]
  refine step1 12 (by kernel_rfl) ?_
  refine stCall 12 38 7 #[.agg #[.int .i64 nn, .int .i64 kk], .slice (some ⟨g1, 0, none⟩) lx (lx + 20), .slice (some ⟨g2, 0, none⟩) ly (ly + 20)] _ rfl rfl (by rfl) (by go_simp) (HS.out _ _ _) ?_
  rintro e w5 ⟨rfl, b5⟩
  have hHeld : w5.heap[A]? = some (.cells #[.int .i64 nn, .int .i64 kk, .slice a lx c, .slice b ly d] 26 (0, 0)) ∧ w5.heap[g1]? = some (.cells (ZA (lentL xs)) 3 (0, 0)) ∧ w5.heap[g2]? = some (.cells (ZA (lentL ys)) 3 (0, 0)) ∧ Below w.heap.size w w5 := ⟨(Chg.of_below b5 No).keep hHeld.1 (fun e => e), (Chg.of_below b5 No).keep hHeld.2.1 (fun e => e), (Chg.of_below b5 No).keep hHeld.2.2.1 (fun e => e), hHeld.2.2.2.trans (b5.mono hHeld.2.2.2.size)⟩
  refine ⟨_, rfl, hHeld, ?_⟩
  simp only [List.setIfInBounds_toArray, List.set_cons_zero, List.set_cons_succ]
  refine takeVal 13 25 (.tuple #[.pointer none, .int .i64 1]) rfl (by kernel_rfl) (by kernel_rfl) (by kernel_rfl) rfl (by rfl) (fun _ _ _ h => h) hHeld (fun _ hw' => rfl) ?_
  simp only [List.setIfInBounds_toArray, List.set_cons_zero, List.set_cons_succ]
  refine takeVal 14 39 (.pointer none) rfl (by kernel_rfl) (by kernel_rfl) (by kernel_rfl) rfl (by rfl) (fun _ _ _ h => h) hHeld (fun _ hw' => by go_simp) ?_
  simp only [List.setIfInBounds_toArray, List.set_cons_zero, List.set_cons_succ]
  refine takeVal 15 40 (.int .i64 1) rfl (by kernel_rfl) (by kernel_rfl) (by kernel_rfl) rfl (by rfl) (fun _ _ _ h => h) hHeld (fun _ hw' => by go_simp) ?_
  simp only [List.setIfInBounds_toArray, List.set_cons_zero, List.set_cons_succ]
  refine takeVal 16 6 (.pointer none) rfl (by kernel_rfl) (by kernel_rfl) (by kernel_rfl) rfl (by rfl) (fun _ _ _ h => h) hHeld (fun _ hw' => rfl) ?_
  simp only [List.setIfInBounds_toArray, List.set_cons_zero, List.set_cons_succ]
  refine takeVal 17 7 (.int .i64 1) rfl (by kernel_rfl) (by kernel_rfl) (by kernel_rfl) rfl (by rfl) (fun _ _ _ h => h) hHeld (fun _ hw' => rfl) ?_
  simp only [List.setIfInBounds_toArray, List.set_cons_zero, List.set_cons_succ]
  refine wpAnyH_done (by kernel_rfl) ?_ _
  refine NoPanic.normal ?_
  have HE := hid hHeld
  clear hHeld X3 G23 G3 BW3
  obtain ⟨x0, x1, x2, x3⟩ := cells4' HE.out.1
  have HK1 := hid (kept_any xs lx hlx a c g1 w5 hl (hid (HX.out.call HE.out.2.2.2)) (hid HE.out.2.1))
  have HK2 := hid (kept_any ys ly hly b d g2 w5 hl2 (hid (HY.out.call HE.out.2.2.2)) (hid HE.out.2.2.1))
  go_upto_region 7 with (go_at_call 8; first | (refine HK1.out.mono ?_; rintro e w6 ⟨rfl, rfl⟩; clear HK1) | (refine HK2.out.mono ?_; rintro e w6 ⟨rfl, rfl⟩; clear HK2))
  go_wp2_with (go_at_call 9; refine (HQ.out _ _ _).mono ?_; rintro e w6 ⟨rfl, b6⟩; have B6 := hid b6; clear b6)
  go_ret
  exact ⟨rfl, HE.out.2.2.2.trans (B6.out.mono HE.out.2.2.2.size)⟩

set_option maxRecDepth 100000 in
set_option maxHeartbeats 4000000 in
theorem news_none (nn kk : Int) (xs ys : List Int) (a b : Option Addr) (c d lx ly : Nat) (w : World) (hlx : Hid (xs.length = lx)) (hly : Hid (ys.length = ly)) (hl : lx ≤ 17592186043904) (hl2 : ly ≤ 17592186043904) (HX : Hid (IntsAt w a xs)) (HY : Hid (IntsAt w b ys)) (na ka : Nat) (hna : nn = na) (hka : kk = ka) (hc : mayB nn kk = true) (hr : newS na ka xs ys = none) :
    Calls Try.prog 3 #[.agg #[.int .i64 nn, .int .i64 kk, .slice a lx c, .slice b ly d]] w fun e w' => e = .returned (.bool true) ∧ Below w.heap.size w w' := by
  have HS := hid fun ax ay cx cy w h1 h2 => sNew_any nn kk xs ys ax ay lx cx ly cy w hlx (by omega) h1 hly (by omega) h2 na ka hna hka hc
  have HQ := hid fun ax ay cx cy w h1 h2 => rNew_may na ka (by rw [← hna, ← hka]; exact hc) xs ys ax ay lx cx ly cy w hlx (by omega) h1 hly (by omega) h2
  rw [hr] at HS HQ
  rw [← hna, ← hka] at HQ
  clear hr hc hna hka
  go_enter Try.func3, Try.ntmps3
  go_upto_region 2 with (go_at_call 5; refine (awake_any _).mono ?_; rintro e w1 ⟨rfl, b1⟩; have B1 := hid b1; clear b1)
  have X1 := hid (box4' B1.out)
  have BW1 := hid ((below_box w _).trans (B1.out.mono (by simp)))
  have HA1 := hid (slt X1.out)
  clear B1
  generalize hA : w.heap.size = A at X1 HA1
  have HA : Hid (w.heap.size = A) := hA
  obtain ⟨x0, x1, x2, x3⟩ := cells4' X1.out
  clear hA
  have HL1 := hid (lent_any xs lx hlx a c w1 hl (hid (HX.out.call BW1.out)))
  go_upto_region 3 with (go_at_call 6; refine HL1.out.mono ?_; rintro e w2 ⟨rfl, g2, b2⟩; have G2 := hid g2; have B2 := hid b2; clear g2 b2)
  have X2 := hid ((Chg.of_below B2.out No).keep X1.out (fun e => e))
  have BW2 := hid (BW1.out.trans (B2.out.mono BW1.out.size))
  have HA2 : Hid (A < w1.heap.size ∧ w1.heap.size < w2.heap.size) := ⟨HA1.out, slt G2.out⟩
  clear x0 x1 x2 x3 HL1 B2
  generalize w1.heap.size = g1 at *
  obtain ⟨x0, x1, x2, x3⟩ := cells4' X2.out
  have HL2 := hid (lent_any ys ly hly b d w2 hl2 (hid (HY.out.call BW2.out)))
  go_upto_region 4 with (go_at_call 6; refine HL2.out.mono ?_; rintro e w3 ⟨rfl, g3, b3⟩; have G3 := hid g3; have B3 := hid b3; clear g3 b3)
  have X3 := hid ((Chg.of_below B3.out No).keep X2.out (fun e => e))
  have G23 := hid ((Chg.of_below B3.out No).keep G2.out (fun e => e))
  have BW3 := hid (BW2.out.trans (B3.out.mono BW2.out.size))
  have HA3 : Hid (A < g1 ∧ g1 < w2.heap.size ∧ w2.heap.size < w3.heap.size) := ⟨HA2.out.1, HA2.out.2, slt G3.out⟩
  clear x0 x1 x2 x3 HL2 B3 X1 X2 BW1 BW2 HA1 HA2 G2
  generalize w2.heap.size = g2 at *
  refine wp_region_noPanic ?_
  refine wp_region_held_drew (S := fun w' => w'.heap[A]? = some (.cells #[.int .i64 nn, .int .i64 kk, .slice a lx c, .slice b ly d] 26 (0, 0)) ∧ w'.heap[g1]? = some (.cells (ZA (lentL xs)) 3 (0, 0)) ∧ w'.heap[g2]? = some (.cells (ZA (lentL ys)) 3 (0, 0)) ∧ Below w.heap.size w w') (by kernel_rfl) ⟨X3.out, G23.out, G3.out, below_drewN BW3.out 1⟩ (fun hHeld => ?_)
  have hw3s : w3.heap.size = w3.drew.heap.size := rfl
  refine takeVal 0 26 (.pointer (some ⟨A, 0, none⟩)) rfl (by kernel_rfl) (by kernel_rfl) (by kernel_rfl) rfl (by rfl) (fun _ _ _ h => h) hHeld (fun _ hw' => by go_simp) ?_
  simp only [List.setIfInBounds_toArray, List.set_cons_zero, List.set_cons_succ]
  refine takeVal 1 27 (.agg #[.int .i64 nn, .int .i64 kk]) rfl (by kernel_rfl) (by kernel_rfl) (by kernel_rfl) rfl (by rfl) (fun _ _ _ h => h) hHeld (fun _ hw' => by have c := cells4' hw'.1; have c0 := c.1; have c1 := c.2.1; go_simp) ?_
  simp only [List.setIfInBounds_toArray, List.set_cons_zero, List.set_cons_succ]
  refine takeVal 2 28 (.slice (some ⟨g1, 0, none⟩) (lx + 20) (lx + 20)) rfl (by kernel_rfl) (by kernel_rfl) (by kernel_rfl) rfl (by rfl) (fun _ _ _ h => h) hHeld (fun _ hw' => rfl) ?_
  simp only [List.setIfInBounds_toArray, List.set_cons_zero, List.set_cons_succ]
  refine takeVal 3 29 (.pointer (some ⟨A, 2, none⟩)) rfl (by kernel_rfl) (by kernel_rfl) (by kernel_rfl) rfl (by rfl) (fun _ _ _ h => h) hHeld (fun _ hw' => by go_simp) ?_
  simp only [List.setIfInBounds_toArray, List.set_cons_zero, List.set_cons_succ]
  refine takeVal 4 30 (.slice a lx c) rfl (by kernel_rfl) (by kernel_rfl) (by kernel_rfl) rfl (by rfl) (fun _ _ _ h => h) hHeld (fun _ hw' => by have c := (cells4' hw'.1).2.2.1; go_simp) ?_
  simp only [List.setIfInBounds_toArray, List.set_cons_zero, List.set_cons_succ]
  refine takeVal 5 31 (.int .i64 (lx : Int)) rfl (by kernel_rfl) (by kernel_rfl) (by kernel_rfl) rfl (by rfl) (fun _ _ _ h => h) hHeld (fun _ hw' => by go_simp) ?_
  simp only [List.setIfInBounds_toArray, List.set_cons_zero, List.set_cons_succ]
  refine takeVal 6 32 (.slice (some ⟨g1, 0, none⟩) lx (lx + 20)) rfl (by kernel_rfl) (by kernel_rfl) (by kernel_rfl) rfl (by rfl) (fun _ _ _ h => h) hHeld (fun _ hw' => by go_simp; intro hh; omega) ?_
  simp only [List.setIfInBounds_toArray, List.set_cons_zero, List.set_cons_succ]
  refine takeVal 7 33 (.slice (some ⟨g2, 0, none⟩) (ly + 20) (ly + 20)) rfl (by kernel_rfl) (by kernel_rfl) (by kernel_rfl) rfl (by rfl) (fun _ _ _ h => h) hHeld (fun _ hw' => rfl) ?_
  simp only [List.setIfInBounds_toArray, List.set_cons_zero, List.set_cons_succ]
  refine takeVal 8 34 (.pointer (some ⟨A, 3, none⟩)) rfl (by kernel_rfl) (by kernel_rfl) (by kernel_rfl) rfl (by rfl) (fun _ _ _ h => h) hHeld (fun _ hw' => by go_simp) ?_
  simp only [List.setIfInBounds_toArray, List.set_cons_zero, List.set_cons_succ]
  refine takeVal 9 35 (.slice b ly d) rfl (by kernel_rfl) (by kernel_rfl) (by kernel_rfl) rfl (by rfl) (fun _ _ _ h => h) hHeld (fun _ hw' => by have c := (cells4' hw'.1).2.2.2; go_simp) ?_
  simp only [List.setIfInBounds_toArray, List.set_cons_zero, List.set_cons_succ]
  refine takeVal 10 36 (.int .i64 (ly : Int)) rfl (by kernel_rfl) (by kernel_rfl) (by kernel_rfl) rfl (by rfl) (fun _ _ _ h => h) hHeld (fun _ hw' => by go_simp) ?_
  simp only [List.setIfInBounds_toArray, List.set_cons_zero, List.set_cons_succ]
  refine takeVal 11 37 (.slice (some ⟨g2, 0, none⟩) ly (ly + 20)) rfl (by kernel_rfl) (by kernel_rfl) (by kernel_rfl) rfl (by rfl) (fun _ _ _ h => h) hHeld (fun _ hw' => by go_simp; intro hh; omega) ?_
  simp only [List.setIfInBounds_toArray, List.set_cons_zero, List.set_cons_succ]
  refine step1 12 (by kernel_rfl) ?_
  refine stCall 12 38 7 #[.agg #[.int .i64 nn, .int .i64 kk], .slice (some ⟨g1, 0, none⟩) lx (lx + 20), .slice (some ⟨g2, 0, none⟩) ly (ly + 20)] _ rfl rfl (by rfl) (by go_simp) (HS.out _ _ _ _ _ (hid (lent_ints hHeld.2.1)) (hid (lent_ints hHeld.2.2.1))) ?_
  rintro e w5 ⟨rfl, b5⟩
  have hHeld : w5.heap[A]? = some (.cells #[.int .i64 nn, .int .i64 kk, .slice a lx c, .slice b ly d] 26 (0, 0)) ∧ w5.heap[g1]? = some (.cells (ZA (lentL xs)) 3 (0, 0)) ∧ w5.heap[g2]? = some (.cells (ZA (lentL ys)) 3 (0, 0)) ∧ Below w.heap.size w w5 := ⟨(Chg.of_below b5 No).keep hHeld.1 (fun e => e), (Chg.of_below b5 No).keep hHeld.2.1 (fun e => e), (Chg.of_below b5 No).keep hHeld.2.2.1 (fun e => e), hHeld.2.2.2.trans (b5.mono hHeld.2.2.2.size)⟩
  refine ⟨_, rfl, hHeld, ?_⟩
  simp only [List.setIfInBounds_toArray, List.set_cons_zero, List.set_cons_succ]
  refine takeVal 13 25 (.tuple #[.pointer none, .int .i64 82]) rfl (by kernel_rfl) (by kernel_rfl) (by kernel_rfl) rfl (by rfl) (fun _ _ _ h => h) hHeld (fun _ hw' => rfl) ?_
  simp only [List.setIfInBounds_toArray, List.set_cons_zero, List.set_cons_succ]
  refine takeVal 14 39 (.pointer none) rfl (by kernel_rfl) (by kernel_rfl) (by kernel_rfl) rfl (by rfl) (fun _ _ _ h => h) hHeld (fun _ hw' => by go_simp) ?_
  simp only [List.setIfInBounds_toArray, List.set_cons_zero, List.set_cons_succ]
  refine takeVal 15 40 (.int .i64 82) rfl (by kernel_rfl) (by kernel_rfl) (by kernel_rfl) rfl (by rfl) (fun _ _ _ h => h) hHeld (fun _ hw' => by go_simp) ?_
  simp only [List.setIfInBounds_toArray, List.set_cons_zero, List.set_cons_succ]
  refine takeVal 16 6 (.pointer none) rfl (by kernel_rfl) (by kernel_rfl) (by kernel_rfl) rfl (by rfl) (fun _ _ _ h => h) hHeld (fun _ hw' => rfl) ?_
  simp only [List.setIfInBounds_toArray, List.set_cons_zero, List.set_cons_succ]
  refine takeVal 17 7 (.int .i64 82) rfl (by kernel_rfl) (by kernel_rfl) (by kernel_rfl) rfl (by rfl) (fun _ _ _ h => h) hHeld (fun _ hw' => rfl) ?_
  simp only [List.setIfInBounds_toArray, List.set_cons_zero, List.set_cons_succ]
  refine wpAnyH_done (by kernel_rfl) ?_ _
  refine NoPanic.normal ?_
  have HE := hid hHeld
  clear hHeld X3 G23 G3 BW3
  obtain ⟨x0, x1, x2, x3⟩ := cells4' HE.out.1
  have HK1 := hid (kept_any xs lx hlx a c g1 w5 hl (hid (HX.out.call HE.out.2.2.2)) (hid HE.out.2.1))
  have HK2 := hid (kept_any ys ly hly b d g2 w5 hl2 (hid (HY.out.call HE.out.2.2.2)) (hid HE.out.2.2.1))
  go_upto_region 7 with (go_at_call 8; first | (refine HK1.out.mono ?_; rintro e w6 ⟨rfl, rfl⟩; clear HK1) | (refine HK2.out.mono ?_; rintro e w6 ⟨rfl, rfl⟩; clear HK2))
  go_wp2_with (go_at_call 9; refine (HQ.out _ _ _ _ _ (hid (HX.out.call HE.out.2.2.2)) (hid (HY.out.call HE.out.2.2.2))).mono ?_; rintro e w6 ⟨rfl, b6⟩; have B6 := hid b6; clear b6)
  go_ret
  exact ⟨rfl, HE.out.2.2.2.trans (B6.out.mono HE.out.2.2.2.size)⟩

set_option maxRecDepth 100000 in
set_option maxHeartbeats 4000000 in
theorem news_some (nn kk : Int) (xs ys : List Int) (a b : Option Addr) (c d lx ly : Nat) (w : World) (hlx : Hid (xs.length = lx)) (hly : Hid (ys.length = ly)) (hl : lx ≤ 17592186043904) (hl2 : ly ≤ 17592186043904) (HX : Hid (IntsAt w a xs)) (HY : Hid (IntsAt w b ys)) (na ka : Nat) (hna : nn = na) (hka : kk = ka) (hc : mayB nn kk = true) (s0 : SS) (hr : newS na ka xs ys = some s0) :
    Calls Try.prog 3 #[.agg #[.int .i64 nn, .int .i64 kk, .slice a lx c, .slice b ly d]] w fun e w' => e = .returned (.bool true) ∧ Below w.heap.size w w' := by
  have HS := hid fun ax ay cx cy w h1 h2 => sNew_any nn kk xs ys ax ay lx cx ly cy w hlx (by omega) h1 hly (by omega) h2 na ka hna hka hc
  have HQ := hid fun ax ay cx cy w h1 h2 => rNew_may na ka (by rw [← hna, ← hka]; exact hc) xs ys ax ay lx cx ly cy w hlx (by omega) h1 hly (by omega) h2
  rw [hr] at HS HQ
  have hkb := of_decide_eq_true hc
  rw [← hna, ← hka] at HQ
  have hb512 : 1 ≤ kk ∧ kk ≤ 512 := ⟨hkb.2.1, hkb.2.2.1⟩
  have HSn : Hid (s0.ni = ka) := by
    unfold newS at hr
    cases h1 : stockL 1 (noneL (ka + 1)) xs with
    | none => rw [h1] at hr; cases hr
    | some I =>
      rw [h1] at hr
      cases h2 : stockL ((ka : Int) + 1) (noneL na) ys with
      | none => rw [h2] at hr; cases hr
      | some B => rw [h2] at hr; cases hr; rfl
  replace hka := hid hka
  clear hkb
  clear hr hc hna
  go_enter Try.func3, Try.ntmps3
  go_upto_region 2 with (go_at_call 5; refine (awake_any _).mono ?_; rintro e w1 ⟨rfl, b1⟩; have B1 := hid b1; clear b1)
  have X1 := hid (box4' B1.out)
  have BW1 := hid ((below_box w _).trans (B1.out.mono (by simp)))
  have HA1 := hid (slt X1.out)
  clear B1
  generalize hA : w.heap.size = A at X1 HA1
  have HA : Hid (w.heap.size = A) := hA
  obtain ⟨x0, x1, x2, x3⟩ := cells4' X1.out
  clear hA
  have HL1 := hid (lent_any xs lx hlx a c w1 hl (hid (HX.out.call BW1.out)))
  go_upto_region 3 with (go_at_call 6; refine HL1.out.mono ?_; rintro e w2 ⟨rfl, g2, b2⟩; have G2 := hid g2; have B2 := hid b2; clear g2 b2)
  have X2 := hid ((Chg.of_below B2.out No).keep X1.out (fun e => e))
  have BW2 := hid (BW1.out.trans (B2.out.mono BW1.out.size))
  have HA2 : Hid (A < w1.heap.size ∧ w1.heap.size < w2.heap.size) := ⟨HA1.out, slt G2.out⟩
  clear x0 x1 x2 x3 HL1 B2
  generalize w1.heap.size = g1 at *
  obtain ⟨x0, x1, x2, x3⟩ := cells4' X2.out
  have HL2 := hid (lent_any ys ly hly b d w2 hl2 (hid (HY.out.call BW2.out)))
  go_upto_region 4 with (go_at_call 6; refine HL2.out.mono ?_; rintro e w3 ⟨rfl, g3, b3⟩; have G3 := hid g3; have B3 := hid b3; clear g3 b3)
  have X3 := hid ((Chg.of_below B3.out No).keep X2.out (fun e => e))
  have G23 := hid ((Chg.of_below B3.out No).keep G2.out (fun e => e))
  have BW3 := hid (BW2.out.trans (B3.out.mono BW2.out.size))
  have HA3 : Hid (A < g1 ∧ g1 < w2.heap.size ∧ w2.heap.size < w3.heap.size) := ⟨HA2.out.1, HA2.out.2, slt G3.out⟩
  clear x0 x1 x2 x3 HL2 B3 X1 X2 BW1 BW2 HA1 HA2 G2
  generalize w2.heap.size = g2 at *
  refine wp_region_noPanic ?_
  refine wp_region_held_drew (S := fun w' => w'.heap[A]? = some (.cells #[.int .i64 nn, .int .i64 kk, .slice a lx c, .slice b ly d] 26 (0, 0)) ∧ w'.heap[g1]? = some (.cells (ZA (lentL xs)) 3 (0, 0)) ∧ w'.heap[g2]? = some (.cells (ZA (lentL ys)) 3 (0, 0)) ∧ Below w.heap.size w w') (by kernel_rfl) ⟨X3.out, G23.out, G3.out, below_drewN BW3.out 1⟩ (fun hHeld => ?_)
  have hw3s : w3.heap.size = w3.drew.heap.size := rfl
  refine takeVal 0 26 (.pointer (some ⟨A, 0, none⟩)) rfl (by kernel_rfl) (by kernel_rfl) (by kernel_rfl) rfl (by rfl) (fun _ _ _ h => h) hHeld (fun _ hw' => by go_simp) ?_
  simp only [List.setIfInBounds_toArray, List.set_cons_zero, List.set_cons_succ]
  refine takeVal 1 27 (.agg #[.int .i64 nn, .int .i64 kk]) rfl (by kernel_rfl) (by kernel_rfl) (by kernel_rfl) rfl (by rfl) (fun _ _ _ h => h) hHeld (fun _ hw' => by have c := cells4' hw'.1; have c0 := c.1; have c1 := c.2.1; go_simp) ?_
  simp only [List.setIfInBounds_toArray, List.set_cons_zero, List.set_cons_succ]
  refine takeVal 2 28 (.slice (some ⟨g1, 0, none⟩) (lx + 20) (lx + 20)) rfl (by kernel_rfl) (by kernel_rfl) (by kernel_rfl) rfl (by rfl) (fun _ _ _ h => h) hHeld (fun _ hw' => rfl) ?_
  simp only [List.setIfInBounds_toArray, List.set_cons_zero, List.set_cons_succ]
  refine takeVal 3 29 (.pointer (some ⟨A, 2, none⟩)) rfl (by kernel_rfl) (by kernel_rfl) (by kernel_rfl) rfl (by rfl) (fun _ _ _ h => h) hHeld (fun _ hw' => by go_simp) ?_
  simp only [List.setIfInBounds_toArray, List.set_cons_zero, List.set_cons_succ]
  refine takeVal 4 30 (.slice a lx c) rfl (by kernel_rfl) (by kernel_rfl) (by kernel_rfl) rfl (by rfl) (fun _ _ _ h => h) hHeld (fun _ hw' => by have c := (cells4' hw'.1).2.2.1; go_simp) ?_
  simp only [List.setIfInBounds_toArray, List.set_cons_zero, List.set_cons_succ]
  refine takeVal 5 31 (.int .i64 (lx : Int)) rfl (by kernel_rfl) (by kernel_rfl) (by kernel_rfl) rfl (by rfl) (fun _ _ _ h => h) hHeld (fun _ hw' => by go_simp) ?_
  simp only [List.setIfInBounds_toArray, List.set_cons_zero, List.set_cons_succ]
  refine takeVal 6 32 (.slice (some ⟨g1, 0, none⟩) lx (lx + 20)) rfl (by kernel_rfl) (by kernel_rfl) (by kernel_rfl) rfl (by rfl) (fun _ _ _ h => h) hHeld (fun _ hw' => by go_simp; intro hh; omega) ?_
  simp only [List.setIfInBounds_toArray, List.set_cons_zero, List.set_cons_succ]
  refine takeVal 7 33 (.slice (some ⟨g2, 0, none⟩) (ly + 20) (ly + 20)) rfl (by kernel_rfl) (by kernel_rfl) (by kernel_rfl) rfl (by rfl) (fun _ _ _ h => h) hHeld (fun _ hw' => rfl) ?_
  simp only [List.setIfInBounds_toArray, List.set_cons_zero, List.set_cons_succ]
  refine takeVal 8 34 (.pointer (some ⟨A, 3, none⟩)) rfl (by kernel_rfl) (by kernel_rfl) (by kernel_rfl) rfl (by rfl) (fun _ _ _ h => h) hHeld (fun _ hw' => by go_simp) ?_
  simp only [List.setIfInBounds_toArray, List.set_cons_zero, List.set_cons_succ]
  refine takeVal 9 35 (.slice b ly d) rfl (by kernel_rfl) (by kernel_rfl) (by kernel_rfl) rfl (by rfl) (fun _ _ _ h => h) hHeld (fun _ hw' => by have c := (cells4' hw'.1).2.2.2; go_simp) ?_
  simp only [List.setIfInBounds_toArray, List.set_cons_zero, List.set_cons_succ]
  refine takeVal 10 36 (.int .i64 (ly : Int)) rfl (by kernel_rfl) (by kernel_rfl) (by kernel_rfl) rfl (by rfl) (fun _ _ _ h => h) hHeld (fun _ hw' => by go_simp) ?_
  simp only [List.setIfInBounds_toArray, List.set_cons_zero, List.set_cons_succ]
  refine takeVal 11 37 (.slice (some ⟨g2, 0, none⟩) ly (ly + 20)) rfl (by kernel_rfl) (by kernel_rfl) (by kernel_rfl) rfl (by rfl) (fun _ _ _ h => h) hHeld (fun _ hw' => by go_simp; intro hh; omega) ?_
  simp only [List.setIfInBounds_toArray, List.set_cons_zero, List.set_cons_succ]
  refine step1 12 (by kernel_rfl) ?_
  refine stCall 12 38 7 #[.agg #[.int .i64 nn, .int .i64 kk], .slice (some ⟨g1, 0, none⟩) lx (lx + 20), .slice (some ⟨g2, 0, none⟩) ly (ly + 20)] _ rfl rfl (by rfl) (by go_simp) (HS.out _ _ _ _ _ (hid (lent_ints hHeld.2.1)) (hid (lent_ints hHeld.2.2.1))) ?_
  rintro e w5 ⟨p, rfl, h5, b5⟩
  have hHeld : w5.heap[A]? = some (.cells #[.int .i64 nn, .int .i64 kk, .slice a lx c, .slice b ly d] 26 (0, 0)) ∧ w5.heap[g1]? = some (.cells (ZA (lentL xs)) 3 (0, 0)) ∧ w5.heap[g2]? = some (.cells (ZA (lentL ys)) 3 (0, 0)) ∧ Below w.heap.size w w5 := ⟨(Chg.of_below b5 No).keep hHeld.1 (fun e => e), (Chg.of_below b5 No).keep hHeld.2.1 (fun e => e), (Chg.of_below b5 No).keep hHeld.2.2.1 (fun e => e), hHeld.2.2.2.trans (b5.mono hHeld.2.2.2.size)⟩
  refine ⟨_, rfl, hHeld, ?_⟩
  simp only [List.setIfInBounds_toArray, List.set_cons_zero, List.set_cons_succ]
  refine takeVal 13 25 (.tuple #[.pointer (some ⟨p, 0, none⟩), .int .i64 0]) rfl (by kernel_rfl) (by kernel_rfl) (by kernel_rfl) rfl (by rfl) (fun _ _ _ h => h) hHeld (fun _ hw' => rfl) ?_
  simp only [List.setIfInBounds_toArray, List.set_cons_zero, List.set_cons_succ]
  refine takeVal 14 39 (.pointer (some ⟨p, 0, none⟩)) rfl (by kernel_rfl) (by kernel_rfl) (by kernel_rfl) rfl (by rfl) (fun _ _ _ h => h) hHeld (fun _ hw' => by go_simp) ?_
  simp only [List.setIfInBounds_toArray, List.set_cons_zero, List.set_cons_succ]
  refine takeVal 15 40 (.int .i64 0) rfl (by kernel_rfl) (by kernel_rfl) (by kernel_rfl) rfl (by rfl) (fun _ _ _ h => h) hHeld (fun _ hw' => by go_simp) ?_
  simp only [List.setIfInBounds_toArray, List.set_cons_zero, List.set_cons_succ]
  refine takeVal 16 6 (.pointer (some ⟨p, 0, none⟩)) rfl (by kernel_rfl) (by kernel_rfl) (by kernel_rfl) rfl (by rfl) (fun _ _ _ h => h) hHeld (fun _ hw' => rfl) ?_
  simp only [List.setIfInBounds_toArray, List.set_cons_zero, List.set_cons_succ]
  refine takeVal 17 7 (.int .i64 0) rfl (by kernel_rfl) (by kernel_rfl) (by kernel_rfl) rfl (by rfl) (fun _ _ _ h => h) hHeld (fun _ hw' => rfl) ?_
  simp only [List.setIfInBounds_toArray, List.set_cons_zero, List.set_cons_succ]
  refine wpAnyH_done (by kernel_rfl) ?_ _
  refine NoPanic.normal ?_
  have HE := hid hHeld
  clear hHeld X3 G23 G3 BW3
  have H5 := hid h5
  clear h5
  obtain ⟨x0, x1, x2, x3⟩ := cells4' HE.out.1
  have HK1 := hid (kept_any xs lx hlx a c g1 w5 hl (hid (HX.out.call HE.out.2.2.2)) (hid HE.out.2.1))
  have HK2 := hid (kept_any ys ly hly b d g2 w5 hl2 (hid (HY.out.call HE.out.2.2.2)) (hid HE.out.2.2.1))
  go_upto_region 7 with (go_at_call 8; first | (refine HK1.out.mono ?_; rintro e w6 ⟨rfl, rfl⟩; clear HK1) | (refine HK2.out.mono ?_; rintro e w6 ⟨rfl, rfl⟩; clear HK2))
  go_upto_region 8 with (go_at_call 9; refine (HQ.out _ _ _ _ _ (hid (HX.out.call HE.out.2.2.2)) (hid (HY.out.call HE.out.2.2.2))).mono ?_; rintro e w6 ⟨q, rfl, h6, b6⟩; have H6 := hid h6; have B6 := hid b6; clear h6 b6)
  have D6 : Hid (Duo w w6 A w3.drew.heap.size w5.heap.size w6.heap.size p q #[.int .i64 nn, .int .i64 kk, .slice a lx c, .slice b ly d] s0) := ⟨H5.out.call B6.out, H6.out, (Chg.of_below B6.out No).keep HE.out.1 (fun e => e), HE.out.2.2.2.trans (B6.out.mono HE.out.2.2.2.size), by
    have h1 := HA3.out
    have h2 := HA.out
    have h3 := b5.size
    rw [hw3s] at h1
    exact ⟨by omega, by omega, h3⟩⟩
  have G16 := hid ((Chg.of_below B6.out No).keep HE.out.2.1 (fun e => e))
  have G26 := hid ((Chg.of_below B6.out No).keep HE.out.2.2.1 (fun e => e))
  have HG : Hid (A < g1 ∧ A < g2 ∧ g1 < w3.drew.heap.size ∧ g2 < w3.drew.heap.size ∧ g1 ≠ g2) := by
    have h1 := HA3.out
    rw [hw3s] at h1
    exact ⟨by omega, by omega, by omega, by omega, by omega⟩
  clear x0 x1 x2 x3 H5 H6 B6 HE HS HQ HA3 b5 hw3s
  generalize w3.drew.heap.size = lo at *
  generalize w5.heap.size = mid at *
  generalize w6.heap.size = hi at *
  have HP1 := hid (spoil_any (lentL xs) (lx + 20) g1 (hid (by rw [lentL_len, hlx.out])) w6 (by omega) G16)
  go_upto_region 13 with (go_at_call 10; refine HP1.out.mono ?_; rintro e w7 ⟨rfl, c7⟩; have C7 := hid c7; clear c7)
  have D7 := hid (D6.out.spoil C7.out HG.out.1 HG.out.2.2.1 (by have := HA.out; have := HG.out.1; omega))
  have G27 := hid (C7.out.keep G26.out (fun e => HG.out.2.2.2.2 e.symm))
  clear D6 G16 G26 HP1 C7
  have HP2 := hid (spoil_any (lentL ys) (ly + 20) g2 (hid (by rw [lentL_len, hly.out])) w7 (by omega) G27)
  go_upto_region 14 with (go_at_call 10; refine HP2.out.mono ?_; rintro e w8 ⟨rfl, c8⟩; have C8 := hid c8; clear c8)
  have D8 := hid (D7.out.spoil C8.out HG.out.2.1 HG.out.2.2.2.1 (by have := HA.out; have := HG.out.2.1; omega))
  clear D7 G27 HP2 C8
  go_wp2
  go_loopw [12] (fun i wr => ∃ z : Int, -1 ≤ z ∧ z ≤ kk + 2 ∧ i = .int .i64 z ∧ Hid (Duo w wr A lo mid hi p q #[.int .i64 nn, .int .i64 kk, .slice a lx c, .slice b ly d] s0)) (fun i _ => (kk + 2 - intOf i).toNat)
  case atStart => exact ⟨-1, by omega, by omega, rfl, D8⟩
  case round =>
    clear D8
    obtain ⟨z, hz1, hz2, rfl, HD⟩ := hrel
    obtain ⟨x0, x1, x2, x3⟩ := cells4' HD.out.bx
    by_cases hlt : z ≤ kk + 1
    · have HU := hid (used_any (s := s0) (lo := lo) (hi := mid) (p := p) z wr HD.out.s1)
      have HV := hid (rused_any (s := s0) (lo := mid) (hi := hi) (p := q) z wr HD.out.s2)
      generalize hasL s0.I z = v at *
      go_wp2_with (first | (go_at_call 11; refine HU.out.mono ?_; rintro e w9 ⟨rfl, rfl⟩) | (go_at_call 12; refine HV.out.mono ?_; rintro e w9 ⟨rfl, b9⟩; have D9 := hid (HD.out.call b9); clear b9))
      exact ⟨⟨z + 1, by omega, by omega, rfl, D9⟩, by simp [intOf]; omega⟩
    · have hlt2 : ¬ z ≤ kk + 1 := hlt
      clear hlt
      have HR1 := hid (room_any (s := s0) (lo := lo) (hi := mid) (p := p) wr HD.out.s1)
      have HR2 := hid fun w h => rroom_any (s := s0) (lo := mid) (hi := hi) (p := q) w h
      rw [show roomV s0 = #[.int .i64 s0.rb, .int .i64 s0.rl, .int .i64 s0.ri] from rfl] at HR1 HR2
      generalize s0.rb = RB at HR1 HR2
      generalize s0.rl = RL at HR1 HR2
      generalize s0.ri = RI at HR1 HR2
      go_upto_region 22 with (first | (go_at_call 13; refine HR1.out.mono ?_; rintro e w9 ⟨rfl, b9⟩; have D9 := hid (HD.out.call b9); clear b9) | (go_at_call 14; refine (HR2.out _ D9.out.s2).mono ?_; rintro e w10 ⟨rfl, b10⟩; have D10 := hid (D9.out.call b10); clear b10))
      clear HD D9 HR1 HR2 x0 x1 x2 x3
      have hn4 := D10.out.s1.ok.n2
      generalize hN0 : s0.ns = N0 at *
      have HN0 := hid hN0
      clear hN0
      go_loopw [16] (fun v wr => ∃ (m : Nat) (s : SS), Hid ((intOf v).toNat = m) ∧ m < N0 ∧ Hid (s.ns = N0) ∧ Hid (∀ j : Nat, s.ni < j → j ≤ m → atT s.T j ≠ 0) ∧ Hid (Duo w wr A lo mid hi p q #[.int .i64 nn, .int .i64 kk, .slice a lx c, .slice b ly d] s)) (fun v _ => N0 - (intOf v).toNat)
      case atStart => exact ⟨0, s0, rfl, by have := D10.out.s1.ok.n1; rw [HN0.out] at this; omega, HN0, hid (fun j h1 h2 => by omega), D10⟩
      case round =>
        clear D10 HN0
        obtain ⟨m, s, Hm, hm, HNs, HA, HD⟩ := hrel
        obtain ⟨x, bb, hF⟩ := first_ex (bt s.T) ((s.ni : Int) + 1)
        have TB1 := hid (takeBlock_any (s := s) (lo := lo) (hi := mid) (p := p) x bb wr HD.out.s1 hF)
        have TB2 := hid fun w h => rtakeBlock_any (s := s) (lo := mid) (hi := hi) (p := q) x bb w h hF
        have hbl := block_least HD.out.s1.ok hF
        cases bb
        · obtain rfl := hbl.2 rfl
          rw [show errN false 80 = 80 from rfl, show s.takeS 0 false = s from rfl] at TB1 TB2
          have HR1 := hid fun w h => room_any (s := s) (lo := lo) (hi := mid) (p := p) w h
          have HR2 := hid fun w h => rroom_any (s := s) (lo := mid) (hi := hi) (p := q) w h
          rw [show roomV s = #[.int .i64 s.rb, .int .i64 s.rl, .int .i64 s.ri] from rfl] at HR1 HR2
          generalize s.rb = RB at HR1 HR2
          generalize s.rl = RL at HR1 HR2
          generalize s.ri = RI at HR1 HR2
          clear hbl hF
          go_upto_region 27 with (first | (go_at_call 15; refine TB1.out.mono ?_; rintro e w9 ⟨rfl, h9, c9⟩; have H9 := hid h9; have C9 := hid c9; clear h9 c9) | (go_at_call 16; refine (TB2.out _ (HD.out.other C9.out)).mono ?_; rintro e w10 ⟨rfl, h10, c10⟩; have D10 := hid (HD.out.both H9.out C9.out h10 c10); clear h10 c10))
          clear TB1 TB2 HD H9 C9
          go_wp2_with (first | (go_at_call 13; refine (HR1.out _ D10.out.s1).mono ?_; rintro e w11 ⟨rfl, b11⟩; have D11 := hid (D10.out.call b11); clear b11) | (go_at_call 14; refine (HR2.out _ D11.out.s2).mono ?_; rintro e w12 ⟨rfl, b12⟩; have D12 := hid (D11.out.call b12); clear b12))
          go_ret
          exact ⟨rfl, D12.out.be⟩
        · obtain ⟨E, rfl, hE1, hE2, hE3, hE4⟩ := hbl.1 rfl
          rw [show errN true 80 = 0 from rfl, show s.takeS (E : Int) true = s.setT E 1 from rfl] at TB1 TB2
          have hEm : m < E := by
            rcases Nat.lt_or_ge m E with e | e
            · exact e
            · exact absurd (by rw [atT_nat]; exact hE3) (HA.out E hE1 e)
          have HA2 : Hid (∀ j : Nat, (s.setT E 1).ni < j → j ≤ E → atT (s.setT E 1).T j ≠ 0) := fun j h1 h2 => by
            rw [setT_at HD.out.s1.ok E 1 hE2]
            by_cases e : j = E
            · rw [if_pos e]; decide
            · rw [if_neg e, atT_nat]
              exact hE4 j h1 (by omega)
          have hEN : E < N0 := by rw [← HNs.out]; exact hE2
          clear hbl hF hE3 hE4 hE1 hE2
          go_wp2_with (first | (go_at_call 15; refine TB1.out.mono ?_; rintro e w9 ⟨rfl, h9, c9⟩; have H9 := hid h9; have C9 := hid c9; clear h9 c9) | (go_at_call 16; refine (TB2.out _ (HD.out.other C9.out)).mono ?_; rintro e w10 ⟨rfl, h10, c10⟩; have D10 := hid (HD.out.both H9.out C9.out h10 c10); clear h10 c10))
          exact ⟨⟨E, s.setT E 1, hid (by simp [intOf]), hEN, HNs, HA2, D10⟩, by show N0 - (intOf (.int .i64 (E : Int))).toNat < N0 - (intOf u16).toNat; rw [Hm.out, show (intOf (.int .i64 (E : Int))).toNat = E by simp [intOf]]; omega⟩

theorem news_walk (nn kk : Int) (xs ys : List Int) (a b : Option Addr) (c d : Nat) (w : World) (_ : I64 nn) (_ : I64 kk) (hl : xs.length ≤ 17592186043904) (hl2 : ys.length ≤ 17592186043904) (HX : IntsAt w a xs) (_ : ∀ x, x ∈ xs → I64 x) (HY : IntsAt w b ys) (_ : ∀ x, x ∈ ys → I64 x) :
    Calls Try.prog 3 #[.agg #[.int .i64 nn, .int .i64 kk, .slice a xs.length c, .slice b ys.length d]] w fun e w' => e = .returned (.bool true) ∧ Below w.heap.size w w' := by
  cases hc : mayB nn kk
  · exact news_bad nn kk xs ys a b c d _ _ w rfl rfl hl hl2 HX HY hc
  · have hm := of_decide_eq_true hc
    obtain ⟨na, hna⟩ := Int.eq_ofNat_of_zero_le (show 0 ≤ nn by omega)
    obtain ⟨ka, hka⟩ := Int.eq_ofNat_of_zero_le (show 0 ≤ kk by omega)
    cases hr : newS na ka xs ys with
    | none => exact news_none nn kk xs ys a b c d _ _ w rfl rfl hl hl2 HX HY na ka hna hka hc hr
    | some s0 => exact news_some nn kk xs ys a b c d _ _ w rfl rfl hl hl2 HX HY na ka hna hka hc s0 hr

end Go.Proofs.Ytdddcllakjeplaa
