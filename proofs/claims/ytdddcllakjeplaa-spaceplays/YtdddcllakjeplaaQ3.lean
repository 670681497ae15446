/-
  The document's New: what it answers.
-/
import Derived.Test.YtdddcllakjeplaaQ2
namespace Go.Proofs.Ytdddcllakjeplaa
open Go.RowKit

/-- What is known of memory while the document's space is made. -/
structure QB (w wr : World) (A p gT gI a b : Nat) (I B : List Bool) : Prop where
  bx : wr.heap[A]? = some (.cells #[.int .i64 (a : Int), .int .i64 (b : Int)] 23 (0, 0))
  me : wr.heap[p]? = some (.cells #[.int .i64 (a : Int), .int .i64 (b : Int), .slice (some ⟨gT, 0, none⟩) a a, .slice (some ⟨gI, 0, none⟩) (b + 1) (b + 1)] 65 (0, 0))
  rT : wr.heap[gT]? = some (.cells (IA (tOf B)) 3 (0, 0))
  rI : wr.heap[gI]? = some (.cells (IA (tOf I)) 3 (0, 0))
  ne : w.heap.size ≤ A ∧ A < gT ∧ A < gI ∧ A < p ∧ gT ≠ gI ∧ gT ≠ p ∧ gI ≠ p
  be : Below w.heap.size w wr
section
variable {w wr wr' : World} {A p gT gI a b : Nat} {I B : List Bool}
theorem QB.call (h : QB w wr A p gT gI a b I B) (hb : Below wr.heap.size wr wr') : QB w wr' A p gT gI a b I B :=
  have hc := Chg.of_below hb No
  ⟨hc.keep h.bx (fun e => e), hc.keep h.me (fun e => e), hc.keep h.rT (fun e => e), hc.keep h.rI (fun e => e), h.ne, h.be.trans (hb.mono h.be.size)⟩
theorem QB.drewN (h : QB w wr A p gT gI a b I B) (n : Nat) : QB w (wr.drewN n) A p gT gI a b I B := ⟨h.bx, h.me, h.rT, h.rI, h.ne, below_drewN h.be n⟩
theorem QB.k2 (h : QB w wr A p gT gI a b I B) : wr.cell? ⟨p, 2, none⟩ = some (.slice (some ⟨gT, 0, none⟩) a a) := (cell_of_row _ _ _ _ _ _ h.me).trans rfl
theorem QB.k3 (h : QB w wr A p gT gI a b I B) : wr.cell? ⟨p, 3, none⟩ = some (.slice (some ⟨gI, 0, none⟩) (b + 1) (b + 1)) := (cell_of_row _ _ _ _ _ _ h.me).trans rfl
theorem QB.atI (h : QB w wr A p gT gI a b I B) (k : Nat) (hk : k < I.length) : wr.cell? ⟨gI, k, none⟩ = some (.int .i64 ((if hasL I k = true then 1 else 0 : Nat) : Int)) := by
  rw [cell_of_row _ _ _ _ _ _ h.rI, IA_get _ _ (by rw [tOf_len]; exact hk), tOf_get]
theorem QB.atT (h : QB w wr A p gT gI a b I B) (k : Nat) (hk : k < B.length) : wr.cell? ⟨gT, k, none⟩ = some (.int .i64 ((if hasL B k = true then 1 else 0 : Nat) : Int)) := by
  rw [cell_of_row _ _ _ _ _ _ h.rT, IA_get _ _ (by rw [tOf_len]; exact hk), tOf_get]
theorem QB.setI (h : QB w wr A p gT gI a b I B) (k : Nat) : QB w (wr.setCell ⟨gI, k, none⟩ (.int .i64 1)) A p gT gI a b (putL I k true) B := by
  have hc : Chg wr (wr.setCell ⟨gI, k, none⟩ (.int .i64 1)) (· = gI) := Chg.setCell
  have hn := h.ne
  refine ⟨hc.keep h.bx (fun e => by omega), hc.keep h.me (fun e => by omega), hc.keep h.rT (fun e => by omega), ?_, h.ne, hc.to h.be h.be.size (fun k e => by omega)⟩
  rw [putL_in, ← tOf_set]
  exact IA_put h.rI k 1
theorem QB.setT (h : QB w wr A p gT gI a b I B) (k : Nat) : QB w (wr.setCell ⟨gT, k, none⟩ (.int .i64 1)) A p gT gI a b I (putL B k true) := by
  have hc : Chg wr (wr.setCell ⟨gT, k, none⟩ (.int .i64 1)) (· = gT) := Chg.setCell
  have hn := h.ne
  refine ⟨hc.keep h.bx (fun e => by omega), hc.keep h.me (fun e => by omega), ?_, hc.keep h.rI (fun e => by omega), h.ne, hc.to h.be h.be.size (fun k e => by omega)⟩
  rw [putL_in, ← tOf_set]
  exact IA_put h.rT k 1
end
theorem tOf_none (n : Nat) : tOf (noneL n) = List.replicate n 0 := by unfold tOf noneL; simp
/-- What the document's New tells. -/
def NewEndQ (w : World) (r : Option SS) (e : Ending) (w' : World) : Prop :=
  match r with
  | some s => ∃ p, e = .returned (.tuple #[.pointer (some ⟨p, 0, none⟩), .int .i64 0]) ∧ IsQ w' w.heap.size w'.heap.size p s ∧ Below w.heap.size w w'
  | none => e = .returned (.tuple #[.pointer none, .int .i64 82]) ∧ Below w.heap.size w w'
theorem newQ_none {w : World} {r : Option SS} {e : Ending} {w' : World} (hr : r = none) (h : e = .returned (.tuple #[.pointer none, .int .i64 82]) ∧ Below w.heap.size w w') : NewEndQ w r e w' := by subst hr; exact h
theorem newQ_some {w : World} {r : Option SS} {s : SS} {e : Ending} {w' : World} (hr : r = some s) (p : Nat) (h : e = .returned (.tuple #[.pointer (some ⟨p, 0, none⟩), .int .i64 0]) ∧ IsQ w' w.heap.size w'.heap.size p s ∧ Below w.heap.size w w') : NewEndQ w r e w' := by subst hr; exact ⟨p, h⟩

set_option maxHeartbeats 400000 in
theorem rNew_bad (x y : Int) (h : mayB x y = false) (v1 v2 : Value) (w : World) :
    Calls Try.prog 9 #[.agg #[.int .i64 x, .int .i64 y], v1, v2] w fun e w' => e = .returned (.tuple #[.pointer none, .int .i64 1]) ∧ Below w.heap.size w w' := by
  have HM := hid fun w => rmay_any x y w
  rw [h] at HM
  have HW := hid (below_box w (.cells #[.int .i64 x, .int .i64 y] 23))
  clear h
  go_enter Try.func9, Try.ntmps9
  go_wp2_with (go_at_call 30; refine (HM.out _).mono ?_; rintro e w1 ⟨rfl, b1⟩; have B1 := hid b1; clear b1)
  go_ret2
  exact ⟨rfl, HW.out.trans (B1.out.mono HW.out.size)⟩

theorem build_rsp (x y : Int) (gT gI n m : Nat) (w : World) : (Instr.build 65 #[(0, .agg #[.int .i64 x, .int .i64 y]), (1, .slice (some ⟨gT, 0, none⟩) n n), (2, .slice (some ⟨gI, 0, none⟩) m m)]).run Try.prog w = .ok (.agg #[.int .i64 x, .int .i64 y, .slice (some ⟨gT, 0, none⟩) n n, .slice (some ⟨gI, 0, none⟩) m m]) w := by kernel_rfl
theorem newS_no1 {a b : Nat} {xs ys : List Int} (h : stockL 1 (noneL (b + 1)) xs = none) : newS a b xs ys = none := by unfold newS; rw [h]; rfl
theorem newS_no2 {a b : Nat} {xs ys : List Int} {I : List Bool} (hI : stockL 1 (noneL (b + 1)) xs = some I) (h : stockL ((b : Int) + 1) (noneL a) ys = none) : newS a b xs ys = none := by unfold newS; rw [hI, h]; rfl
set_option maxRecDepth 100000 in
set_option maxHeartbeats 4000000 in
theorem rNew_may (a b : Nat) (h : mayB a b = true) (xs ys : List Int) (ax ay : Option Addr) (lx cx ly cy : Nat) (w : World) (hlx : Hid (xs.length = lx)) (hl : lx ≤ 140737488355328) (HX : Hid (IntsAt w ax xs)) (hly : Hid (ys.length = ly)) (hl2 : ly ≤ 140737488355328) (HY : Hid (IntsAt w ay ys)) :
    Calls Try.prog 9 #[.agg #[.int .i64 (a : Int), .int .i64 (b : Int)], .slice ax lx cx, .slice ay ly cy] w fun e w' => NewEndQ w (newS a b xs ys) e w' := by
  have HM := hid fun w => rmay_any a b w
  rw [h] at HM
  have hm := of_decide_eq_true h
  have HM5 : Hid (8 ≤ a ∧ a ≤ 4096 ∧ 1 ≤ b ∧ b ≤ 512 ∧ b + 2 ≤ a) := ⟨by omega, by omega, by omega, by omega, by omega⟩
  have haa : a ≤ 4096 := by omega
  have hbb : b ≤ 512 := by omega
  have hb1 : 1 ≤ b := by omega
  clear h hm
  have HW := hid (below_box w (.cells #[.int .i64 (a : Int), .int .i64 (b : Int)] 23))
  go_enter Try.func9, Try.ntmps9
  go_upto_region 4 with (go_at_call 30; refine (HM.out _).mono ?_; rintro e w1 ⟨rfl, b1⟩; have B1 := hid b1; clear b1)
  have HBX := hid (box2 B1.out)
  have BW := hid (HW.out.trans (B1.out.mono HW.out.size))
  have HMA := hid fun w => make_ints a (by omega) w
  have HMB := hid fun w => make_ints (b + 1) (by omega) w
  rw [show ((b + 1 : Nat) : Int) = (b : Int) + 1 by omega] at HMB
  clear HW B1
  go_cut [9] (fun x wc => ∃ p : Nat, x = .pointer (some ⟨p, 0, none⟩) ∧ Hid (∃ gT gI, QB w wc w.heap.size p gT gI a b (noneL (b + 1)) (noneL a)))
  case first =>
    refine wp_region_noPanic ?_
    refine wp_region_held_drew (S := fun w' => w'.heap[w.heap.size]? = some (.cells #[.int .i64 (a : Int), .int .i64 (b : Int)] 23 (0, 0)) ∧ Below w.heap.size w w') (by kernel_rfl) ⟨HBX.out, below_drewN BW.out 1⟩ (fun hHeld => ?_)
    refine takeVal 0 18 (.agg #[.int .i64 (a : Int), .int .i64 (b : Int)]) rfl (by kernel_rfl) (by kernel_rfl) (by kernel_rfl) rfl (by rfl) (fun _ _ _ h => h) hHeld (fun _ hw' => by have c := cells2 hw'.1; have c0 := c.1; have c1 := c.2; go_simp) ?_
    simp only [List.setIfInBounds_toArray, List.set_cons_zero, List.set_cons_succ]
    refine takeVal 1 19 (.pointer (some ⟨w.heap.size, 0, none⟩)) rfl (by kernel_rfl) (by kernel_rfl) (by kernel_rfl) rfl (by rfl) (fun _ _ _ h => h) hHeld (fun _ hw' => by go_simp) ?_
    simp only [List.setIfInBounds_toArray, List.set_cons_zero, List.set_cons_succ]
    refine takeVal 2 20 (.int .i64 (a : Int)) rfl (by kernel_rfl) (by kernel_rfl) (by kernel_rfl) rfl (by rfl) (fun _ _ _ h => h) hHeld (fun _ hw' => by have c0 := (cells2 hw'.1).1; go_simp) ?_
    simp only [List.setIfInBounds_toArray, List.set_cons_zero, List.set_cons_succ]
    refine takeVal 4 22 (.pointer (some ⟨w.heap.size, 1, none⟩)) rfl (by kernel_rfl) (by kernel_rfl) (by kernel_rfl) rfl (by rfl) (fun _ _ _ h => h) hHeld (fun _ hw' => by go_simp) ?_
    simp only [List.setIfInBounds_toArray, List.set_cons_zero, List.set_cons_succ]
    refine takeVal 5 23 (.int .i64 (b : Int)) rfl (by kernel_rfl) (by kernel_rfl) (by kernel_rfl) rfl (by rfl) (fun _ _ _ h => h) hHeld (fun _ hw' => by have c1 := (cells2 hw'.1).2; go_simp) ?_
    simp only [List.setIfInBounds_toArray, List.set_cons_zero, List.set_cons_succ]
    refine takeVal 6 24 (.int .i64 ((b : Int) + 1)) rfl (by kernel_rfl) (by kernel_rfl) (by kernel_rfl) rfl (by rfl) (fun _ _ _ h => h) hHeld (fun _ hw' => by go_simp; exact IntWalk.i64_in _ (by omega)) ?_
    simp only [List.setIfInBounds_toArray, List.set_cons_zero, List.set_cons_succ]
    have hsz := slt HBX.out
    obtain ⟨W, hW⟩ : ∃ W, W = w1.drew := ⟨_, rfl⟩
    have hWs : W.heap.size = w1.heap.size := by rw [hW]; rfl
    have hWk := hHeld
    rw [← hW] at hWk ⊢
    clear hHeld hW
    have hHeld := hWk
    clear hWk
    refine step2 3 7 (by kernel_rfl) ?_ ?_
    · refine stNew 3 21 (.slice (some ⟨W.heap.size, 0, none⟩) a a) (.cells (IA (List.replicate a 0)) 3) rfl rfl (by rfl) (by have e := HMA.out W; go_simp) ?_
      have b2 := below_box W (.cells (IA (List.replicate a 0)) 3)
      have hHeld : (W.alloc (.cells (IA (List.replicate a 0)) 3)).heap[w.heap.size]? = some (.cells #[.int .i64 (a : Int), .int .i64 (b : Int)] 23 (0, 0)) ∧ Below w.heap.size w (W.alloc (.cells (IA (List.replicate a 0)) 3)) := ⟨(Chg.of_below b2 No).keep hHeld.1 (fun e => e), hHeld.2.trans (b2.mono hHeld.2.size)⟩
      refine ⟨hHeld, ?_⟩
      simp only [List.setIfInBounds_toArray, List.set_cons_zero, List.set_cons_succ]
      refine step1 7 (by kernel_rfl) ?_
      refine stNew 7 25 (.slice (some ⟨W.heap.size + 1, 0, none⟩) (b + 1) (b + 1)) (.cells (IA (List.replicate (b + 1) 0)) 3) rfl rfl (by rfl) (by have e := HMB.out (W.alloc (.cells (IA (List.replicate a 0)) 3)); rw [World.size_alloc] at e; go_simp) ?_
      have b3 := below_box (W.alloc (.cells (IA (List.replicate a 0)) 3)) (.cells (IA (List.replicate (b + 1) 0)) 3)
      have hHeld : ((W.alloc (.cells (IA (List.replicate a 0)) 3)).alloc (.cells (IA (List.replicate (b + 1) 0)) 3)).heap[w.heap.size]? = some (.cells #[.int .i64 (a : Int), .int .i64 (b : Int)] 23 (0, 0)) ∧ Below w.heap.size w ((W.alloc (.cells (IA (List.replicate a 0)) 3)).alloc (.cells (IA (List.replicate (b + 1) 0)) 3)) := ⟨(Chg.of_below b3 No).keep hHeld.1 (fun e => e), hHeld.2.trans (b3.mono hHeld.2.size)⟩
      refine ⟨hHeld, ?_⟩
      simp only [List.setIfInBounds_toArray, List.set_cons_zero, List.set_cons_succ]
      have hbd := build_rsp (a : Int) (b : Int) W.heap.size (W.heap.size + 1) a (b + 1)
      refine takeVal 8 26 (.agg #[.int .i64 (a : Int), .int .i64 (b : Int), .slice (some ⟨W.heap.size, 0, none⟩) a a, .slice (some ⟨(W.heap.size + 1), 0, none⟩) (b + 1) (b + 1)]) rfl (by kernel_rfl) (by kernel_rfl) (by kernel_rfl) rfl (by rfl) (fun _ _ _ h => h) hHeld (fun _ hw' => by go_simp) ?_
      simp only [List.setIfInBounds_toArray, List.set_cons_zero, List.set_cons_succ]
      refine step1 9 (by kernel_rfl) ?_
      refine stNew 9 27 (.pointer (some ⟨W.heap.size + 2, 0, none⟩)) (.cells #[.int .i64 (a : Int), .int .i64 (b : Int), .slice (some ⟨W.heap.size, 0, none⟩) a a, .slice (some ⟨(W.heap.size + 1), 0, none⟩) (b + 1) (b + 1)] 65) rfl rfl (by rfl) (by go_simp) ?_
      have b4 := below_box ((W.alloc (.cells (IA (List.replicate a 0)) 3)).alloc (.cells (IA (List.replicate (b + 1) 0)) 3)) (.cells #[.int .i64 (a : Int), .int .i64 (b : Int), .slice (some ⟨W.heap.size, 0, none⟩) a a, .slice (some ⟨(W.heap.size + 1), 0, none⟩) (b + 1) (b + 1)] 65)
      have hHeld : (((W.alloc (.cells (IA (List.replicate a 0)) 3)).alloc (.cells (IA (List.replicate (b + 1) 0)) 3)).alloc (.cells #[.int .i64 (a : Int), .int .i64 (b : Int), .slice (some ⟨W.heap.size, 0, none⟩) a a, .slice (some ⟨(W.heap.size + 1), 0, none⟩) (b + 1) (b + 1)] 65)).heap[w.heap.size]? = some (.cells #[.int .i64 (a : Int), .int .i64 (b : Int)] 23 (0, 0)) ∧ Below w.heap.size w (((W.alloc (.cells (IA (List.replicate a 0)) 3)).alloc (.cells (IA (List.replicate (b + 1) 0)) 3)).alloc (.cells #[.int .i64 (a : Int), .int .i64 (b : Int), .slice (some ⟨W.heap.size, 0, none⟩) a a, .slice (some ⟨(W.heap.size + 1), 0, none⟩) (b + 1) (b + 1)] 65)) := ⟨(Chg.of_below b4 No).keep hHeld.1 (fun e => e), hHeld.2.trans (b4.mono hHeld.2.size)⟩
      refine ⟨hHeld, ?_⟩
      simp only [List.setIfInBounds_toArray, List.set_cons_zero, List.set_cons_succ]
      refine takeVal 10 9 (.pointer (some ⟨W.heap.size + 2, 0, none⟩)) rfl (by kernel_rfl) (by kernel_rfl) (by kernel_rfl) rfl (by rfl) (fun _ _ _ h => h) hHeld (fun _ hw' => rfl) ?_
      simp only [List.setIfInBounds_toArray, List.set_cons_zero, List.set_cons_succ]
      refine wpAnyH_done (by kernel_rfl) ?_ _
      refine NoPanic.normal ?_
      have hP : Hid (∃ gT gI, QB w (((W.alloc (.cells (IA (List.replicate a 0)) 3)).alloc (.cells (IA (List.replicate (b + 1) 0)) 3)).alloc (.cells #[.int .i64 (a : Int), .int .i64 (b : Int), .slice (some ⟨W.heap.size, 0, none⟩) a a, .slice (some ⟨(W.heap.size + 1), 0, none⟩) (b + 1) (b + 1)] 65)) w.heap.size (W.heap.size + 2) gT gI a b (noneL (b + 1)) (noneL a)) := ⟨W.heap.size, (W.heap.size + 1), ⟨hHeld.1, by have e := heap_alloc_new ((W.alloc (.cells (IA (List.replicate a 0)) 3)).alloc (.cells (IA (List.replicate (b + 1) 0)) 3)) (.cells #[.int .i64 (a : Int), .int .i64 (b : Int), .slice (some ⟨W.heap.size, 0, none⟩) a a, .slice (some ⟨(W.heap.size + 1), 0, none⟩) (b + 1) (b + 1)] 65); rw [World.size_alloc, World.size_alloc] at e; exact e, by rw [tOf_none]; exact (Chg.of_below b4 No).keep ((Chg.of_below b3 No).keep (heap_alloc_new W (.cells (IA (List.replicate a 0)) 3)) (fun e => e)) (fun e => e), by rw [tOf_none]; exact (Chg.of_below b4 No).keep (by have e := heap_alloc_new (W.alloc (.cells (IA (List.replicate a 0)) 3)) (.cells (IA (List.replicate (b + 1) 0)) 3); rw [World.size_alloc] at e; exact e) (fun e => e), by omega, hHeld.2⟩⟩
      clear hHeld
      go_wp2_with fail
      go_meet
      case rel => exact ⟨_, rfl, hP⟩
    · refine stNew 7 25 (.slice (some ⟨W.heap.size, 0, none⟩) (b + 1) (b + 1)) (.cells (IA (List.replicate (b + 1) 0)) 3) rfl rfl (by rfl) (by have e := HMB.out W; go_simp) ?_
      have b2 := below_box W (.cells (IA (List.replicate (b + 1) 0)) 3)
      have hHeld : (W.alloc (.cells (IA (List.replicate (b + 1) 0)) 3)).heap[w.heap.size]? = some (.cells #[.int .i64 (a : Int), .int .i64 (b : Int)] 23 (0, 0)) ∧ Below w.heap.size w (W.alloc (.cells (IA (List.replicate (b + 1) 0)) 3)) := ⟨(Chg.of_below b2 No).keep hHeld.1 (fun e => e), hHeld.2.trans (b2.mono hHeld.2.size)⟩
      refine ⟨hHeld, ?_⟩
      simp only [List.setIfInBounds_toArray, List.set_cons_zero, List.set_cons_succ]
      refine step1 3 (by kernel_rfl) ?_
      refine stNew 3 21 (.slice (some ⟨W.heap.size + 1, 0, none⟩) a a) (.cells (IA (List.replicate a 0)) 3) rfl rfl (by rfl) (by have e := HMA.out (W.alloc (.cells (IA (List.replicate (b + 1) 0)) 3)); rw [World.size_alloc] at e; go_simp) ?_
      have b3 := below_box (W.alloc (.cells (IA (List.replicate (b + 1) 0)) 3)) (.cells (IA (List.replicate a 0)) 3)
      have hHeld : ((W.alloc (.cells (IA (List.replicate (b + 1) 0)) 3)).alloc (.cells (IA (List.replicate a 0)) 3)).heap[w.heap.size]? = some (.cells #[.int .i64 (a : Int), .int .i64 (b : Int)] 23 (0, 0)) ∧ Below w.heap.size w ((W.alloc (.cells (IA (List.replicate (b + 1) 0)) 3)).alloc (.cells (IA (List.replicate a 0)) 3)) := ⟨(Chg.of_below b3 No).keep hHeld.1 (fun e => e), hHeld.2.trans (b3.mono hHeld.2.size)⟩
      refine ⟨hHeld, ?_⟩
      simp only [List.setIfInBounds_toArray, List.set_cons_zero, List.set_cons_succ]
      have hbd := build_rsp (a : Int) (b : Int) (W.heap.size + 1) W.heap.size a (b + 1)
      refine takeVal 8 26 (.agg #[.int .i64 (a : Int), .int .i64 (b : Int), .slice (some ⟨(W.heap.size + 1), 0, none⟩) a a, .slice (some ⟨W.heap.size, 0, none⟩) (b + 1) (b + 1)]) rfl (by kernel_rfl) (by kernel_rfl) (by kernel_rfl) rfl (by rfl) (fun _ _ _ h => h) hHeld (fun _ hw' => by go_simp) ?_
      simp only [List.setIfInBounds_toArray, List.set_cons_zero, List.set_cons_succ]
      refine step1 9 (by kernel_rfl) ?_
      refine stNew 9 27 (.pointer (some ⟨W.heap.size + 2, 0, none⟩)) (.cells #[.int .i64 (a : Int), .int .i64 (b : Int), .slice (some ⟨(W.heap.size + 1), 0, none⟩) a a, .slice (some ⟨W.heap.size, 0, none⟩) (b + 1) (b + 1)] 65) rfl rfl (by rfl) (by go_simp) ?_
      have b4 := below_box ((W.alloc (.cells (IA (List.replicate (b + 1) 0)) 3)).alloc (.cells (IA (List.replicate a 0)) 3)) (.cells #[.int .i64 (a : Int), .int .i64 (b : Int), .slice (some ⟨(W.heap.size + 1), 0, none⟩) a a, .slice (some ⟨W.heap.size, 0, none⟩) (b + 1) (b + 1)] 65)
      have hHeld : (((W.alloc (.cells (IA (List.replicate (b + 1) 0)) 3)).alloc (.cells (IA (List.replicate a 0)) 3)).alloc (.cells #[.int .i64 (a : Int), .int .i64 (b : Int), .slice (some ⟨(W.heap.size + 1), 0, none⟩) a a, .slice (some ⟨W.heap.size, 0, none⟩) (b + 1) (b + 1)] 65)).heap[w.heap.size]? = some (.cells #[.int .i64 (a : Int), .int .i64 (b : Int)] 23 (0, 0)) ∧ Below w.heap.size w (((W.alloc (.cells (IA (List.replicate (b + 1) 0)) 3)).alloc (.cells (IA (List.replicate a 0)) 3)).alloc (.cells #[.int .i64 (a : Int), .int .i64 (b : Int), .slice (some ⟨(W.heap.size + 1), 0, none⟩) a a, .slice (some ⟨W.heap.size, 0, none⟩) (b + 1) (b + 1)] 65)) := ⟨(Chg.of_below b4 No).keep hHeld.1 (fun e => e), hHeld.2.trans (b4.mono hHeld.2.size)⟩
      refine ⟨hHeld, ?_⟩
      simp only [List.setIfInBounds_toArray, List.set_cons_zero, List.set_cons_succ]
      refine takeVal 10 9 (.pointer (some ⟨W.heap.size + 2, 0, none⟩)) rfl (by kernel_rfl) (by kernel_rfl) (by kernel_rfl) rfl (by rfl) (fun _ _ _ h => h) hHeld (fun _ hw' => rfl) ?_
      simp only [List.setIfInBounds_toArray, List.set_cons_zero, List.set_cons_succ]
      refine wpAnyH_done (by kernel_rfl) ?_ _
      refine NoPanic.normal ?_
      have hP : Hid (∃ gT gI, QB w (((W.alloc (.cells (IA (List.replicate (b + 1) 0)) 3)).alloc (.cells (IA (List.replicate a 0)) 3)).alloc (.cells #[.int .i64 (a : Int), .int .i64 (b : Int), .slice (some ⟨(W.heap.size + 1), 0, none⟩) a a, .slice (some ⟨W.heap.size, 0, none⟩) (b + 1) (b + 1)] 65)) w.heap.size (W.heap.size + 2) gT gI a b (noneL (b + 1)) (noneL a)) := ⟨(W.heap.size + 1), W.heap.size, ⟨hHeld.1, by have e := heap_alloc_new ((W.alloc (.cells (IA (List.replicate (b + 1) 0)) 3)).alloc (.cells (IA (List.replicate a 0)) 3)) (.cells #[.int .i64 (a : Int), .int .i64 (b : Int), .slice (some ⟨(W.heap.size + 1), 0, none⟩) a a, .slice (some ⟨W.heap.size, 0, none⟩) (b + 1) (b + 1)] 65); rw [World.size_alloc, World.size_alloc] at e; exact e, by rw [tOf_none]; exact (Chg.of_below b4 No).keep (by have e := heap_alloc_new (W.alloc (.cells (IA (List.replicate (b + 1) 0)) 3)) (.cells (IA (List.replicate a 0)) 3); rw [World.size_alloc] at e; exact e) (fun e => e), by rw [tOf_none]; exact (Chg.of_below b4 No).keep ((Chg.of_below b3 No).keep (heap_alloc_new W (.cells (IA (List.replicate (b + 1) 0)) 3)) (fun e => e)) (fun e => e), by omega, hHeld.2⟩⟩
      clear hHeld
      go_wp2_with fail
      go_meet
      case rel => exact ⟨_, rfl, hP⟩
  case rest =>
    obtain ⟨p, rfl, HG⟩ := hcut
    obtain ⟨gT, gI, h0⟩ := HG.out
    have H0 := hid h0
    obtain ⟨w0, hw0⟩ : ∃ w0, w0 = wc := ⟨_, rfl⟩
    subst hw0
    clear HBX BW HMA HMB HM HG h0
    generalize w.heap.size = A at H0
    go_wp2
    go_loopw [10] (fun i wr => ∃ (k : Nat) (M : List Bool), k ≤ lx ∧ i = .int .i64 k ∧ Hid (stockL 1 (noneL (b + 1)) (xs.take k) = some M) ∧ Hid (QB w wr A p gT gI a b M (noneL a))) (fun i _ => lx - (intOf i).toNat)
    case atStart => exact ⟨0, noneL (b + 1), by omega, rfl, rfl, H0⟩
    case round =>
      clear H0
      obtain ⟨k, M, hk, rfl, HM, H0⟩ := hrel
      by_cases hlt : k < lx
      · obtain ⟨bk, o, rfl, hcell⟩ := HX.out.get H0.out.be k (by rw [hlx.out]; exact hlt)
        have hkl : (k : Int) < (lx : Int) := by omega
        have HK : Hid (k < xs.length) := by show _; rw [hlx.out]; exact hlt
        have HT := hid (stockL_take HK.out HM.out)
        have HBad := hid (stockL_bad HK.out HM.out)
        have HML : Hid (M.length = (b + 1)) := by show _ = _; rw [(stockL_inv HM.out).1, noneL_len]
        generalize xs.getD k 0 = x at *
        replace hcell := hid hcell
        have HIs := hid fun w => rinode_any (a : Int) (b : Int) x w
        rw [show inoB (b : Int) x = isB 1 M.length x by unfold inoB isB; rw [HML.out]; exact decide_eq_decide.2 (by omega)] at HIs
        clear hlt
        go_upto_region 8 with (fail)
        cases hb : isB 1 M.length x
        · rw [hb] at HIs
          have HNo : Hid (newS a b xs ys = none) := newS_no1 (HBad.out (by unfold stock1; rw [if_neg (fun e => by rw [hb] at e; cases e.1)]))
          clear hb HBad HT
          refine wp_region_noPanic ?_
          refine wp_region_held_drew (S := fun w' => QB w w' A p gT gI a b M (noneL a) ∧ w'.cell? ⟨bk, o + k, none⟩ = some (.int .i64 x)) (by kernel_rfl) ⟨H0.out.drewN 1, hcell.out⟩ (fun hHeld => ?_)
          refine takeVal 0 34 (.agg #[.int .i64 (a : Int), .int .i64 (b : Int)]) rfl (by kernel_rfl) (by kernel_rfl) (by kernel_rfl) rfl (by rfl) (fun _ _ _ h => h) hHeld (fun _ hw' => by have c := cells2 hw'.1.bx; have c0 := c.1; have c1 := c.2; go_simp) ?_
          simp only [List.setIfInBounds_toArray, List.set_cons_zero, List.set_cons_succ]
          refine takeVal 1 35 (.slice (some ⟨bk, o, none⟩) lx cx) rfl (by kernel_rfl) (by kernel_rfl) (by kernel_rfl) rfl (by rfl) (fun _ _ _ h => h) hHeld (fun _ hw' => rfl) ?_
          simp only [List.setIfInBounds_toArray, List.set_cons_zero, List.set_cons_succ]
          refine takeVal 2 36 (.int .i64 (k : Int)) rfl (by kernel_rfl) (by kernel_rfl) (by kernel_rfl) rfl (by rfl) (fun _ _ _ h => h) hHeld (fun _ hw' => rfl) ?_
          simp only [List.setIfInBounds_toArray, List.set_cons_zero, List.set_cons_succ]
          refine takeVal 3 37 (.pointer (some ⟨bk, o + k, none⟩)) rfl (by kernel_rfl) (by kernel_rfl) (by kernel_rfl) rfl (by rfl) (fun _ _ _ h => h) hHeld (fun _ hw' => by go_simp) ?_
          simp only [List.setIfInBounds_toArray, List.set_cons_zero, List.set_cons_succ]
          refine takeVal 4 38 (.int .i64 x) rfl (by kernel_rfl) (by kernel_rfl) (by kernel_rfl) rfl (by rfl) (fun _ _ _ h => h) hHeld (fun _ hw' => by have cc := hw'.2; go_simp) ?_
          simp only [List.setIfInBounds_toArray, List.set_cons_zero, List.set_cons_succ]
          refine step1 5 (by kernel_rfl) ?_
          refine stCall 5 39 31 #[.agg #[.int .i64 (a : Int), .int .i64 (b : Int)], .int .i64 x] _ rfl rfl (by rfl) (by go_simp) (HIs.out _) ?_
          rintro e wa ⟨rfl, bwa⟩
          replace hHeld := And.intro (hHeld.1.call bwa) (cell_call bwa hHeld.2)
          refine ⟨_, rfl, hHeld, ?_⟩
          simp only [List.setIfInBounds_toArray, List.set_cons_zero, List.set_cons_succ]
          refine takeVal 6 11 (.bool false) rfl (by kernel_rfl) (by kernel_rfl) (by kernel_rfl) rfl (by rfl) (fun _ _ _ h => h) hHeld (fun _ hw' => rfl) ?_
          simp only [List.setIfInBounds_toArray, List.set_cons_zero, List.set_cons_succ]
          refine wpAnyH_done (by kernel_rfl) ?_ _
          refine NoPanic.normal ?_
          have HE := hid hHeld
          clear hHeld
          go_upto_region 9 with (fail)
          go_quiet (fail)
          go_wp2
          go_ret2
          exact newQ_none HNo.out ⟨rfl, below_drewN HE.out.1.be _⟩
        · rw [hb] at HIs
          have hi := of_decide_eq_true hb
          obtain ⟨n, rfl⟩ := Int.eq_ofNat_of_zero_le (show 0 ≤ x by omega)
          have hnl : n < M.length := by omega
          have hnl2 : (n : Int) < ((b : Int) + 1) := by have := HML.out; omega
          clear hi
          refine wp_region_noPanic ?_
          refine wp_region_held_drew (S := fun w' => QB w w' A p gT gI a b M (noneL a) ∧ w'.cell? ⟨bk, o + k, none⟩ = some (.int .i64 (n : Int))) (by kernel_rfl) ⟨H0.out.drewN 1, hcell.out⟩ (fun hHeld => ?_)
          refine takeVal 0 34 (.agg #[.int .i64 (a : Int), .int .i64 (b : Int)]) rfl (by kernel_rfl) (by kernel_rfl) (by kernel_rfl) rfl (by rfl) (fun _ _ _ h => h) hHeld (fun _ hw' => by have c := cells2 hw'.1.bx; have c0 := c.1; have c1 := c.2; go_simp) ?_
          simp only [List.setIfInBounds_toArray, List.set_cons_zero, List.set_cons_succ]
          refine takeVal 1 35 (.slice (some ⟨bk, o, none⟩) lx cx) rfl (by kernel_rfl) (by kernel_rfl) (by kernel_rfl) rfl (by rfl) (fun _ _ _ h => h) hHeld (fun _ hw' => rfl) ?_
          simp only [List.setIfInBounds_toArray, List.set_cons_zero, List.set_cons_succ]
          refine takeVal 2 36 (.int .i64 (k : Int)) rfl (by kernel_rfl) (by kernel_rfl) (by kernel_rfl) rfl (by rfl) (fun _ _ _ h => h) hHeld (fun _ hw' => rfl) ?_
          simp only [List.setIfInBounds_toArray, List.set_cons_zero, List.set_cons_succ]
          refine takeVal 3 37 (.pointer (some ⟨bk, o + k, none⟩)) rfl (by kernel_rfl) (by kernel_rfl) (by kernel_rfl) rfl (by rfl) (fun _ _ _ h => h) hHeld (fun _ hw' => by go_simp) ?_
          simp only [List.setIfInBounds_toArray, List.set_cons_zero, List.set_cons_succ]
          refine takeVal 4 38 (.int .i64 (n : Int)) rfl (by kernel_rfl) (by kernel_rfl) (by kernel_rfl) rfl (by rfl) (fun _ _ _ h => h) hHeld (fun _ hw' => by have cc := hw'.2; go_simp) ?_
          simp only [List.setIfInBounds_toArray, List.set_cons_zero, List.set_cons_succ]
          refine step1 5 (by kernel_rfl) ?_
          refine stCall 5 39 31 #[.agg #[.int .i64 (a : Int), .int .i64 (b : Int)], .int .i64 (n : Int)] _ rfl rfl (by rfl) (by go_simp) (HIs.out _) ?_
          rintro e wa ⟨rfl, bwa⟩
          replace hHeld := And.intro (hHeld.1.call bwa) (cell_call bwa hHeld.2)
          refine ⟨_, rfl, hHeld, ?_⟩
          simp only [List.setIfInBounds_toArray, List.set_cons_zero, List.set_cons_succ]
          refine takeVal 6 11 (.bool true) rfl (by kernel_rfl) (by kernel_rfl) (by kernel_rfl) rfl (by rfl) (fun _ _ _ h => h) hHeld (fun _ hw' => rfl) ?_
          simp only [List.setIfInBounds_toArray, List.set_cons_zero, List.set_cons_succ]
          refine wpAnyH_done (by kernel_rfl) ?_ _
          refine NoPanic.normal ?_
          have HE := hid hHeld
          clear hHeld
          go_upto_region 9 with (fail)
          have k3 := HE.out.1.k3
          have kI := HE.out.1.atI n hnl
          have kx := HE.out.2
          cases hh : hasL M (n : Int)
          · have HS1 : Hid (stock1 1 M (n : Int) = some (putL M n true)) := if_pos ⟨hb, hh⟩
            have HN2 : Hid (stockL 1 (noneL (b + 1)) (xs.take (k + 1)) = some (putL M n true)) := HT.out.trans HS1.out
            rw [hh] at kI
            have kI0 : wa.cell? ⟨gI, n, none⟩ = some (.int .i64 0) := kI
            have hf := frozen_of_row wa gI n _ _ HE.out.1.rI
            clear hb HBad HT hh kI
            go_quiet (fail)
            go_upto_region 11 with (fail)
            go_region
            have hN := hid ((HE.out.1.drewN nq).setI n)
            go_wp2
            exact ⟨⟨k + 1, putL M n true, by omega, by go_num, HN2, hid (hN.out.drewN 1)⟩, by simp [intOf]; omega⟩
          · have HNo : Hid (newS a b xs ys = none) := newS_no1 (HBad.out (by unfold stock1; rw [if_neg (fun e => by rw [hh] at e; cases e.2)]))
            rw [hh] at kI
            have kI1 : wa.cell? ⟨gI, n, none⟩ = some (.int .i64 1) := kI
            clear hb HBad HT hh kI
            go_quiet (fail)
            go_wp2
            go_ret2
            exact newQ_none HNo.out ⟨rfl, below_drewN HE.out.1.be _⟩
      · have HN2 : Hid (stockL 1 (noneL (b + 1)) xs = some M) := by
          have e := HM.out
          rw [List.take_of_length_le (by rw [hlx.out]; omega)] at e
          exact e
        have HML : Hid (M.length = (b + 1)) := by show _ = _; rw [(stockL_inv HM.out).1, noneL_len]
        have hkl : ¬ (k : Int) < (lx : Int) := by omega
        clear hk HM hlt
        have HI0 := HN2
        have HIL := HML
        rename List Bool => I0
        clear HML HN2
        go_wp2
        go_loopw [12] (fun i wr => ∃ (k : Nat) (M : List Bool), k ≤ ly ∧ i = .int .i64 k ∧ Hid (stockL ((b : Int) + 1) (noneL a) (ys.take k) = some M) ∧ Hid (QB w wr A p gT gI a b I0 M)) (fun i _ => ly - (intOf i).toNat)
        case atStart => exact ⟨0, noneL a, by omega, rfl, rfl, H0⟩
        case round =>
          clear H0
          obtain ⟨k, M, hk, rfl, HM, H0⟩ := hrel
          by_cases hlt : k < ly
          · obtain ⟨bk, o, rfl, hcell⟩ := HY.out.get H0.out.be k (by rw [hly.out]; exact hlt)
            have hkl : (k : Int) < (ly : Int) := by omega
            have HK : Hid (k < ys.length) := by show _; rw [hly.out]; exact hlt
            have HT := hid (stockL_take HK.out HM.out)
            have HBad := hid (stockL_bad HK.out HM.out)
            have HML : Hid (M.length = a) := by show _ = _; rw [(stockL_inv HM.out).1, noneL_len]
            generalize ys.getD k 0 = x at *
            replace hcell := hid hcell
            have HIs := hid fun w => rdata_any (a : Int) (b : Int) x w a rfl
            rw [show isB ((b : Int) + 1) a x = isB ((b : Int) + 1) M.length x by rw [HML.out]] at HIs
            clear hlt
            go_upto_region 15 with (fail)
            cases hb : isB ((b : Int) + 1) M.length x
            · rw [hb] at HIs
              have HNo : Hid (newS a b xs ys = none) := newS_no2 HI0.out (HBad.out (by unfold stock1; rw [if_neg (fun e => by rw [hb] at e; cases e.1)]))
              clear hb HBad HT
              refine wp_region_noPanic ?_
              refine wp_region_held_drew (S := fun w' => QB w w' A p gT gI a b I0 M ∧ w'.cell? ⟨bk, o + k, none⟩ = some (.int .i64 x)) (by kernel_rfl) ⟨H0.out.drewN 1, hcell.out⟩ (fun hHeld => ?_)
              refine takeVal 0 70 (.agg #[.int .i64 (a : Int), .int .i64 (b : Int)]) rfl (by kernel_rfl) (by kernel_rfl) (by kernel_rfl) rfl (by rfl) (fun _ _ _ h => h) hHeld (fun _ hw' => by have c := cells2 hw'.1.bx; have c0 := c.1; have c1 := c.2; go_simp) ?_
              simp only [List.setIfInBounds_toArray, List.set_cons_zero, List.set_cons_succ]
              refine takeVal 1 71 (.slice (some ⟨bk, o, none⟩) ly cy) rfl (by kernel_rfl) (by kernel_rfl) (by kernel_rfl) rfl (by rfl) (fun _ _ _ h => h) hHeld (fun _ hw' => rfl) ?_
              simp only [List.setIfInBounds_toArray, List.set_cons_zero, List.set_cons_succ]
              refine takeVal 2 72 (.int .i64 (k : Int)) rfl (by kernel_rfl) (by kernel_rfl) (by kernel_rfl) rfl (by rfl) (fun _ _ _ h => h) hHeld (fun _ hw' => rfl) ?_
              simp only [List.setIfInBounds_toArray, List.set_cons_zero, List.set_cons_succ]
              refine takeVal 3 73 (.pointer (some ⟨bk, o + k, none⟩)) rfl (by kernel_rfl) (by kernel_rfl) (by kernel_rfl) rfl (by rfl) (fun _ _ _ h => h) hHeld (fun _ hw' => by go_simp) ?_
              simp only [List.setIfInBounds_toArray, List.set_cons_zero, List.set_cons_succ]
              refine takeVal 4 74 (.int .i64 x) rfl (by kernel_rfl) (by kernel_rfl) (by kernel_rfl) rfl (by rfl) (fun _ _ _ h => h) hHeld (fun _ hw' => by have cc := hw'.2; go_simp) ?_
              simp only [List.setIfInBounds_toArray, List.set_cons_zero, List.set_cons_succ]
              refine step1 5 (by kernel_rfl) ?_
              refine stCall 5 75 32 #[.agg #[.int .i64 (a : Int), .int .i64 (b : Int)], .int .i64 x] _ rfl rfl (by rfl) (by go_simp) (HIs.out _) ?_
              rintro e wa ⟨rfl, bwa⟩
              replace hHeld := And.intro (hHeld.1.call bwa) (cell_call bwa hHeld.2)
              refine ⟨_, rfl, hHeld, ?_⟩
              simp only [List.setIfInBounds_toArray, List.set_cons_zero, List.set_cons_succ]
              refine takeVal 6 13 (.bool false) rfl (by kernel_rfl) (by kernel_rfl) (by kernel_rfl) rfl (by rfl) (fun _ _ _ h => h) hHeld (fun _ hw' => rfl) ?_
              simp only [List.setIfInBounds_toArray, List.set_cons_zero, List.set_cons_succ]
              refine wpAnyH_done (by kernel_rfl) ?_ _
              refine NoPanic.normal ?_
              have HE := hid hHeld
              clear hHeld
              go_upto_region 16 with (fail)
              go_quiet (fail)
              go_wp2
              go_ret2
              exact newQ_none HNo.out ⟨rfl, below_drewN HE.out.1.be _⟩
            · rw [hb] at HIs
              have hi := of_decide_eq_true hb
              obtain ⟨n, rfl⟩ := Int.eq_ofNat_of_zero_le (show 0 ≤ x by omega)
              have hnl : n < M.length := by omega
              have hnl2 : (n : Int) < ((a : Int)) := by have := HML.out; omega
              clear hi
              refine wp_region_noPanic ?_
              refine wp_region_held_drew (S := fun w' => QB w w' A p gT gI a b I0 M ∧ w'.cell? ⟨bk, o + k, none⟩ = some (.int .i64 (n : Int))) (by kernel_rfl) ⟨H0.out.drewN 1, hcell.out⟩ (fun hHeld => ?_)
              refine takeVal 0 70 (.agg #[.int .i64 (a : Int), .int .i64 (b : Int)]) rfl (by kernel_rfl) (by kernel_rfl) (by kernel_rfl) rfl (by rfl) (fun _ _ _ h => h) hHeld (fun _ hw' => by have c := cells2 hw'.1.bx; have c0 := c.1; have c1 := c.2; go_simp) ?_
              simp only [List.setIfInBounds_toArray, List.set_cons_zero, List.set_cons_succ]
              refine takeVal 1 71 (.slice (some ⟨bk, o, none⟩) ly cy) rfl (by kernel_rfl) (by kernel_rfl) (by kernel_rfl) rfl (by rfl) (fun _ _ _ h => h) hHeld (fun _ hw' => rfl) ?_
              simp only [List.setIfInBounds_toArray, List.set_cons_zero, List.set_cons_succ]
              refine takeVal 2 72 (.int .i64 (k : Int)) rfl (by kernel_rfl) (by kernel_rfl) (by kernel_rfl) rfl (by rfl) (fun _ _ _ h => h) hHeld (fun _ hw' => rfl) ?_
              simp only [List.setIfInBounds_toArray, List.set_cons_zero, List.set_cons_succ]
              refine takeVal 3 73 (.pointer (some ⟨bk, o + k, none⟩)) rfl (by kernel_rfl) (by kernel_rfl) (by kernel_rfl) rfl (by rfl) (fun _ _ _ h => h) hHeld (fun _ hw' => by go_simp) ?_
              simp only [List.setIfInBounds_toArray, List.set_cons_zero, List.set_cons_succ]
              refine takeVal 4 74 (.int .i64 (n : Int)) rfl (by kernel_rfl) (by kernel_rfl) (by kernel_rfl) rfl (by rfl) (fun _ _ _ h => h) hHeld (fun _ hw' => by have cc := hw'.2; go_simp) ?_
              simp only [List.setIfInBounds_toArray, List.set_cons_zero, List.set_cons_succ]
              refine step1 5 (by kernel_rfl) ?_
              refine stCall 5 75 32 #[.agg #[.int .i64 (a : Int), .int .i64 (b : Int)], .int .i64 (n : Int)] _ rfl rfl (by rfl) (by go_simp) (HIs.out _) ?_
              rintro e wa ⟨rfl, bwa⟩
              replace hHeld := And.intro (hHeld.1.call bwa) (cell_call bwa hHeld.2)
              refine ⟨_, rfl, hHeld, ?_⟩
              simp only [List.setIfInBounds_toArray, List.set_cons_zero, List.set_cons_succ]
              refine takeVal 6 13 (.bool true) rfl (by kernel_rfl) (by kernel_rfl) (by kernel_rfl) rfl (by rfl) (fun _ _ _ h => h) hHeld (fun _ hw' => rfl) ?_
              simp only [List.setIfInBounds_toArray, List.set_cons_zero, List.set_cons_succ]
              refine wpAnyH_done (by kernel_rfl) ?_ _
              refine NoPanic.normal ?_
              have HE := hid hHeld
              clear hHeld
              go_upto_region 16 with (fail)
              have k3 := HE.out.1.k2
              have kI := HE.out.1.atT n hnl
              have kx := HE.out.2
              cases hh : hasL M (n : Int)
              · have HS1 : Hid (stock1 ((b : Int) + 1) M (n : Int) = some (putL M n true)) := if_pos ⟨hb, hh⟩
                have HN2 : Hid (stockL ((b : Int) + 1) (noneL a) (ys.take (k + 1)) = some (putL M n true)) := HT.out.trans HS1.out
                rw [hh] at kI
                have kI0 : wa.cell? ⟨gT, n, none⟩ = some (.int .i64 0) := kI
                have hf := frozen_of_row wa gT n _ _ HE.out.1.rT
                clear hb HBad HT hh kI
                go_quiet (fail)
                go_upto_region 18 with (fail)
                go_region
                have hN := hid ((HE.out.1.drewN nq).setT n)
                go_wp2
                exact ⟨⟨k + 1, putL M n true, by omega, by go_num, HN2, hid (hN.out.drewN 1)⟩, by simp [intOf]; omega⟩
              · have HNo : Hid (newS a b xs ys = none) := newS_no2 HI0.out (HBad.out (by unfold stock1; rw [if_neg (fun e => by rw [hh] at e; cases e.2)]))
                rw [hh] at kI
                have kI1 : wa.cell? ⟨gT, n, none⟩ = some (.int .i64 1) := kI
                clear hb HBad HT hh kI
                go_quiet (fail)
                go_wp2
                go_ret2
                exact newQ_none HNo.out ⟨rfl, below_drewN HE.out.1.be _⟩
          · have HN2 : Hid (stockL ((b : Int) + 1) (noneL a) ys = some M) := by
              have e := HM.out
              rw [List.take_of_length_le (by rw [hly.out]; omega)] at e
              exact e
            have HML : Hid (M.length = a) := by show _ = _; rw [(stockL_inv HM.out).1, noneL_len]
            have hkl : ¬ (k : Int) < (ly : Int) := by omega
            clear hk HM hlt
            have HR : Hid (newS a b xs ys = some ⟨a, b, putL I0 1 true, tOf M⟩) := by show _ = _; unfold newS; rw [HI0.out, HN2.out]; rfl
            have HOk := hid (ok_of HM5.out.1 HM5.out.2.1 HM5.out.2.2.1 HM5.out.2.2.2.1 HM5.out.2.2.2.2 HI0.out HN2.out)
            have k3 := H0.out.k3
            have kI := H0.out.atI 1 (by rw [HIL.out]; omega)
            have hf := frozen_of_row wr gI 1 _ _ H0.out.rI
            have h1b : (1 : Int) < (b : Int) + 1 := by omega
            have hN := hid (H0.out.setI 1)
            generalize (if hasL I0 ((1 : Nat) : Int) = true then 1 else 0 : Nat) = v1 at kI
            go_wp2
            go_ret2
            have hne := hN.out.ne
            have hs1 := slt hN.out.me
            have hs2 := slt hN.out.rT
            have hs3 := slt hN.out.rI
            exact newQ_some HR.out p ⟨rfl, ⟨gT, gI, ⟨hN.out.me, hN.out.rT, hN.out.rI, HOk.out, ⟨by omega, hs1⟩, ⟨by omega, hs2⟩, ⟨by omega, hs3⟩, Nat.le_refl _, by omega, by omega, by omega⟩⟩, hN.out.be⟩

end Go.Proofs.Ytdddcllakjeplaa
