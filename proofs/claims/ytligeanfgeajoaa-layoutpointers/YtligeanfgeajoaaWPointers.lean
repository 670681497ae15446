/-
  LayoutPointers comes out true for every pointers and every sector.
-/
import Derived.Test.YtligeanfgeajoaaLK
import Derived.Test.YtligeanfgeajoaaLP3
namespace Go.Proofs.Ytligeanfgeajoaa
open Go.RowKit

theorem eq_ptr (x y : List Int) (hx : x.length = 32) (hy : y.length = 32) (w : World) : (Op.equalIn 10000 42 (.agg (NA x)) (.agg (NA y))).run Try.prog w = .ok (decide (x = y)) w := eq_arr 42 32 (by kernel_rfl) 9998 x y hx hy w
theorem guard_ptr : Try.prog.eqGuardType Try.prog.depth 42 = false := by kernel_rfl
section
variable {ops : Array Oper} {Q : Exit → Act → World → Prop} {S : World → Prop} {fuel : Nat} {listed : Array Bool} {a : Act} {w : World}
theorem takeEq (i d : Nat) (t : TypeId) (x y : Operand) (c c' : Array Value) (b : Bool) {o : Oper} (hop : ops[i]? = some o) (hs : Region.noSelect ops = true) (hf : Region.free .any ops listed i = true) (hr : (Region.ready .any ops listed).contains i = true)
    (hd : o.dst = some d) (ho : o.op = .binOp .eql t x y t) (hx : a.eval x = .agg c) (hy : a.eval y = .agg c') (hw : Region.wanted o (yielded ops a.tmps) = true) (hQ : ∀ c a w, ¬ Q (.panic c) a w) (hS : S w)
    (hq : ∀ w, (Op.equalIn 10000 t (.agg c) (.agg c')).run Try.prog w = .ok b w) (hg : Try.prog.eqGuardType Try.prog.depth t = false)
    (h : wpAnyH Try.prog .any ops Q S fuel (listed.setIfInBounds i true) { a with tmps := a.tmps.setIfInBounds d (.bool b) } w) : wpAnyH Try.prog .any ops Q S (fuel + 1) listed a w := by
  refine takeVal i d _ hop hs hf hr hd hw hQ hS (fun w hw' => ?_) h
  unfold execOp
  simp only [ho, hx, hy, Sem.run_bind, run_eqGuard_agg _ _ _ _ _ _ _ hg, run_eql_struct, hq, Result.andThen_ok, Sem.run_pure]
end

set_option maxRecDepth 100000 in
set_option maxHeartbeats 4000000 in
theorem pointers_walk (x s : List Int) (w : World) (hx : x.length = 32) (hs : IsSec s) : Calls Try.prog 5 #[.agg (NA x), .agg (SA s)] w fun e w' => e = .returned (.bool true) ∧ Below w.heap.size w w' := by
  have hz := zero_sec
  have hl := hs.1
  have hsup := fun w' => pointersSector_any x hx w'
  have hrsup := fun w' => rpointersSector_any x hx w'
  have hrd := fun w' => readPointers_any s hs w'
  have hrrd := fun w' => rreadPointers_any s hs w'
  have HLS := hid (ptrS_sec x).1
  have HPL := hid (ptrsTo_len s 32)
  generalize ptrS x = SS at *
  generalize ptrE x = EE at *
  generalize ptrsTo s 32 = RR at *
  obtain ⟨W, hW⟩ : ∃ y, y = (w.alloc (.cells (NA x) 42)).alloc (.cells (SA s) 25) := ⟨_, rfl⟩
  have X0 : Hid (W.heap[w.heap.size]? = some (.cells (NA x) 42 (0, 0))) := by show _ = _; rw [hW]; exact heap_alloc2_old w _ _
  have Y0 : Hid (W.heap[w.heap.size + 1]? = some (.cells (SA s) 25 (0, 0))) := by show _ = _; rw [hW]; exact heap_alloc2_new w _ _
  have B0 : Hid (Below w.heap.size w W) := by show Below _ _ _; rw [hW]; exact ((Below.refl _ _).alloc (Nat.le_refl _) _).alloc (by simp) _
  go_enter Try.func5, Try.ntmps5
  go_upto_region 1 with fail
  rw [← hW]
  clear hW
  go_upto_region 4 with (first | (go_at_call 9; refine (known_any _).mono ?_; rintro e w1 ⟨rfl, hb1⟩))
  have X1 : Hid (w1.heap[w.heap.size]? = some (.cells (NA x) 42 (0, 0))) := by show _ = _; rw [hb1.block _ (slt X0.out)]; exact X0.out
  have Y1 : Hid (w1.heap[w.heap.size + 1]? = some (.cells (SA s) 25 (0, 0))) := by show _ = _; rw [hb1.block _ (slt Y0.out)]; exact Y0.out
  have B1 : Hid (Below w.heap.size w w1) := btr B0.out hb1 B0.out.size
  clear X0 Y0 B0 hb1
  go_upto_region 5 with (first | refine load_R rfl 42 (.tmp 2) rfl w.heap.size rfl 42 _ _ X1.out Try.underlying42 rfl (by rw [szP, NA_size, hx]) ?_ | (go_at_call 20; refine (hsup _).mono ?_; rintro e w2 ⟨rfl, hb2⟩) | (refine store_sec rfl (.tmp 6) _ rfl w2.heap.size rfl SS rfl HLS.out Zs Zs_len (heap_alloc_new _ _) ?_; intro w3 hw3))
  have X3 := hid (wr_keep hw3 hb2 X1.out)
  have Y3 := hid (wr_keep hw3 hb2 Y1.out)
  have P3 := hid hw3.here
  have B3 : Hid (Below w.heap.size w w3) := hw3.below ((btr B1.out hb2 B1.out.size).alloc (Nat.le_trans B1.out.size hb2.size) _) (Nat.le_trans B1.out.size hb2.size)
  clear X1 Y1 B1 hb2 hw3
  go_upto_region 6 with (first | refine load_R rfl 42 (.tmp 2) rfl w.heap.size rfl 42 _ _ X3.out Try.underlying42 rfl (by rw [szP, NA_size, hx]) ?_ | (go_at_call 21; refine (hrsup _).mono ?_; rintro e w4 ⟨rfl, hb4⟩) | (refine store_sec rfl (.tmp 8) _ rfl w4.heap.size rfl SS rfl HLS.out Zs Zs_len (heap_alloc_new _ _) ?_; intro w5 hw5))
  have Y5 := wr_keep hw5 hb4 Y3.out
  have P5 := wr_keep hw5 hb4 P3.out
  have Q5 := hw5.here
  have B5 : Below w.heap.size w w5 := hw5.below ((btr B3.out hb4 B3.out.size).alloc (Nat.le_trans B3.out.size hb4.size) _) (Nat.le_trans B3.out.size hb4.size)
  clear X3 Y3 B3 P3 hb4 hw5
  refine wp_region_noPanic ?_
  refine wp_region_held_drew (S := fun w' => w'.heap[w2.heap.size]? = some (.cells (SA SS) 25 (0, 0)) ∧ w'.heap[w4.heap.size]? = some (.cells (SA SS) 25 (0, 0)) ∧ w'.heap[w.heap.size + 1]? = some (.cells (SA s) 25 (0, 0))) (by kernel_rfl) ⟨P5, Q5, Y5⟩ (fun hHeld => ?_)
  have heldU : ∀ {u u' : World}, Below u.heap.size u u' → (fun w' => w'.heap[w2.heap.size]? = some (.cells (SA SS) 25 (0, 0)) ∧ w'.heap[w4.heap.size]? = some (.cells (SA SS) 25 (0, 0)) ∧ w'.heap[w.heap.size + 1]? = some (.cells (SA s) 25 (0, 0))) u → (fun w' => w'.heap[w2.heap.size]? = some (.cells (SA SS) 25 (0, 0)) ∧ w'.heap[w4.heap.size]? = some (.cells (SA SS) 25 (0, 0)) ∧ w'.heap[w.heap.size + 1]? = some (.cells (SA s) 25 (0, 0))) u' := fun hb h => ⟨by rw [hb.block _ (slt h.1)]; exact h.1, by rw [hb.block _ (slt h.2.1)]; exact h.2.1, by rw [hb.block _ (slt h.2.2)]; exact h.2.2⟩
  refine takeVal 0 23 (.bool true) rfl (by kernel_rfl) (by kernel_rfl) (by kernel_rfl) rfl (by rfl) (fun _ _ _ h => h) hHeld (fun _ hw' => rfl) ?_
  simp only [List.setIfInBounds_toArray, List.set_cons_zero, List.set_cons_succ]
  refine takeVal 1 24 (.bool true) rfl (by kernel_rfl) (by kernel_rfl) (by kernel_rfl) rfl (by rfl) (fun _ _ _ h => h) hHeld (fun _ hw' => rfl) ?_
  simp only [List.setIfInBounds_toArray, List.set_cons_zero, List.set_cons_succ]
  refine takeSec 2 25 (.tmp 6) w2.heap.size SS HLS.out rfl (by kernel_rfl) (by kernel_rfl) (by kernel_rfl) rfl rfl rfl (by rfl) (fun _ _ _ h => h) hHeld (fun _ h => h.1) ?_
  simp only [List.setIfInBounds_toArray, List.set_cons_zero, List.set_cons_succ]
  refine takeSec 3 26 (.tmp 8) w4.heap.size SS HLS.out rfl (by kernel_rfl) (by kernel_rfl) (by kernel_rfl) rfl rfl rfl (by rfl) (fun _ _ _ h => h) hHeld (fun _ h => h.2.1) ?_
  simp only [List.setIfInBounds_toArray, List.set_cons_zero, List.set_cons_succ]
  refine takeEq 4 27 25 (.tmp 25) (.tmp 26) (SA SS) (SA SS) true rfl (by kernel_rfl) (by kernel_rfl) (by kernel_rfl) rfl rfl rfl rfl (by rfl) (fun _ _ _ h => h) hHeld (fun w' => by rw [eq_sec _ _ HLS.out HLS.out, decide_eq_true rfl]) (guard_sec) ?_
  simp only [List.setIfInBounds_toArray, List.set_cons_zero, List.set_cons_succ]
  refine takeVal 5 28 (.bool true) rfl (by kernel_rfl) (by kernel_rfl) (by kernel_rfl) rfl (by rfl) (fun _ _ _ h => h) hHeld (fun _ hw' => rfl) ?_
  simp only [List.setIfInBounds_toArray, List.set_cons_zero, List.set_cons_succ]
  refine takeVal 6 29 (.bool true) rfl (by kernel_rfl) (by kernel_rfl) (by kernel_rfl) rfl (by rfl) (fun _ _ _ h => h) hHeld (fun _ hw' => rfl) ?_
  simp only [List.setIfInBounds_toArray, List.set_cons_zero, List.set_cons_succ]
  refine takeVal 7 30 (.int .i64 EE) rfl (by kernel_rfl) (by kernel_rfl) (by kernel_rfl) rfl (by rfl) (fun _ _ _ h => h) hHeld (fun _ hw' => rfl) ?_
  simp only [List.setIfInBounds_toArray, List.set_cons_zero, List.set_cons_succ]
  refine takeVal 8 31 (.int .i64 EE) rfl (by kernel_rfl) (by kernel_rfl) (by kernel_rfl) rfl (by rfl) (fun _ _ _ h => h) hHeld (fun _ hw' => rfl) ?_
  simp only [List.setIfInBounds_toArray, List.set_cons_zero, List.set_cons_succ]
  refine takeVal 9 32 (.bool true) rfl (by kernel_rfl) (by kernel_rfl) (by kernel_rfl) rfl (by rfl) (fun _ _ _ h => h) hHeld (fun _ hw' => by go_simp) ?_
  simp only [List.setIfInBounds_toArray, List.set_cons_zero, List.set_cons_succ]
  refine takeVal 10 33 (.bool true) rfl (by kernel_rfl) (by kernel_rfl) (by kernel_rfl) rfl (by rfl) (fun _ _ _ h => h) hHeld (fun _ hw' => rfl) ?_
  simp only [List.setIfInBounds_toArray, List.set_cons_zero, List.set_cons_succ]
  refine takeVal 11 34 (.bool true) rfl (by kernel_rfl) (by kernel_rfl) (by kernel_rfl) rfl (by rfl) (fun _ _ _ h => h) hHeld (fun _ hw' => rfl) ?_
  simp only [List.setIfInBounds_toArray, List.set_cons_zero, List.set_cons_succ]
  refine takeSec 12 35 (.tmp 3) (w.heap.size + 1) s hl rfl (by kernel_rfl) (by kernel_rfl) (by kernel_rfl) rfl rfl rfl (by rfl) (fun _ _ _ h => h) hHeld (fun _ h => h.2.2) ?_
  simp only [List.setIfInBounds_toArray, List.set_cons_zero, List.set_cons_succ]
  refine takeSec 14 37 (.tmp 3) (w.heap.size + 1) s hl rfl (by kernel_rfl) (by kernel_rfl) (by kernel_rfl) rfl rfl rfl (by rfl) (fun _ _ _ h => h) hHeld (fun _ h => h.2.2) ?_
  simp only [List.setIfInBounds_toArray, List.set_cons_zero, List.set_cons_succ]
  refine step1 13 (by kernel_rfl) ?_
  refine stCall 13 36 22 #[.agg (SA s)] _ rfl rfl (by rfl) (by go_simp) (hrd _) ?_
  rintro e u1 ⟨rfl, hu1⟩
  have hHeld := heldU hu1 hHeld
  refine ⟨_, rfl, hHeld, ?_⟩
  simp only [List.setIfInBounds_toArray, List.set_cons_zero, List.set_cons_succ]
  refine step1 15 (by kernel_rfl) ?_
  refine stCall 15 38 23 #[.agg (SA s)] _ rfl rfl (by rfl) (by go_simp) (hrrd _) ?_
  rintro e u2 ⟨rfl, hu2⟩
  have hHeld := heldU hu2 hHeld
  refine ⟨_, rfl, hHeld, ?_⟩
  simp only [List.setIfInBounds_toArray, List.set_cons_zero, List.set_cons_succ]
  refine takeEq 16 39 42 (.tmp 36) (.tmp 38) (NA RR) (NA RR) true rfl (by kernel_rfl) (by kernel_rfl) (by kernel_rfl) rfl rfl rfl rfl (by rfl) (fun _ _ _ h => h) hHeld (fun w' => by rw [eq_ptr _ _ HPL.out HPL.out, decide_eq_true rfl]) (guard_ptr) ?_
  simp only [List.setIfInBounds_toArray, List.set_cons_zero, List.set_cons_succ]
  refine takeVal 17 40 (.bool true) rfl (by kernel_rfl) (by kernel_rfl) (by kernel_rfl) rfl (by rfl) (fun _ _ _ h => h) hHeld (fun _ hw' => rfl) ?_
  simp only [List.setIfInBounds_toArray, List.set_cons_zero, List.set_cons_succ]
  refine takeVal 18 4 (.bool true) rfl (by kernel_rfl) (by kernel_rfl) (by kernel_rfl) rfl (by rfl) (fun _ _ _ h => h) hHeld (fun _ hw' => rfl) ?_
  simp only [List.setIfInBounds_toArray, List.set_cons_zero, List.set_cons_succ]
  refine wpAnyH_done (by kernel_rfl) ?_ _
  refine NoPanic.normal ?_
  have BF : Below w.heap.size w u2 := btr (btr (below_drew B5) hu1 B5.size) hu2 (Nat.le_trans B5.size hu1.size)
  clear hHeld heldU
  go_wp2_with fail
  go_ret
  exact ⟨rfl, BF⟩

end Go.Proofs.Ytligeanfgeajoaa
