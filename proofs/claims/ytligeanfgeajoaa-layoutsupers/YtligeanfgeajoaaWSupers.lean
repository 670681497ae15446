/-
  LayoutSupers comes out true for every super, sector and number.
-/
import Derived.Test.YtligeanfgeajoaaLK
import Derived.Test.YtligeanfgeajoaaLF3
namespace Go.Proofs.Ytligeanfgeajoaa
open Go.RowKit

theorem sayV_small {s : List Int} {P L : Nat} (h7 : L ≤ 7) : sayV s P L = numAt s P L := by
  unfold sayV
  rw [if_neg (fun k => by have := k.1; omega)]
  simp
theorem read_same {s : List Int} (hs : IsSec s) : rdSup (sayV s 4 4) (sayV s 8 4) s = rdSup (getV s 4 4) (getV s 8 4) s := by
  have e1 : sayV s 4 4 = numAt s 4 4 := sayV_small (P := 4) (L := 4) (by decide)
  have e2 : sayV s 8 4 = numAt s 8 4 := sayV_small (P := 8) (L := 4) (by decide)
  have e3 : getV s 4 4 = numAt s 4 4 := getV_small (P := 4) (L := 4) hs (by decide) (by decide) (by decide)
  have e4 : getV s 8 4 = numAt s 8 4 := getV_small (P := 8) (L := 4) hs (by decide) (by decide) (by decide)
  rw [e1, e2, e3, e4]
theorem eq_sup (a b : Int) (w : World) : (Op.equalIn 10000 23 (.agg #[.int .i64 a, .int .i64 b]) (.agg #[.int .i64 a, .int .i64 b])).run Try.prog w = .ok true w := by go_simp
theorem guard_sup : Try.prog.eqGuardType Try.prog.depth 23 = false := by kernel_rfl

section
variable {ops : Array Oper} {Q : Exit → Act → World → Prop} {S : World → Prop} {fuel : Nat} {listed : Array Bool} {a : Act} {w : World}
theorem takeEq (i d : Nat) (t : TypeId) (x y : Operand) (c c' : Array Value) (b : Bool) {o : Oper} (hop : ops[i]? = some o) (hs : Region.noSelect ops = true) (hf : Region.free .any ops listed i = true) (hr : (Region.ready .any ops listed).contains i = true)
    (hd : o.dst = some d) (ho : o.op = .binOp .eql t x y t) (hx : a.eval x = .agg c) (hy : a.eval y = .agg c') (hw : Region.wanted o (yielded ops a.tmps) = true) (hQ : ∀ c a w, ¬ Q (.panic c) a w) (hS : S w)
    (hq : ∀ w, (Op.equalIn 10000 t (.agg c) (.agg c')).run Try.prog w = .ok b w) (hg : Try.prog.eqGuardType Try.prog.depth t = false)
    (h : wpAnyH Try.prog .any ops Q S fuel (listed.setIfInBounds i true) { a with tmps := a.tmps.setIfInBounds d (.bool b) } w) : wpAnyH Try.prog .any ops Q S (fuel + 1) listed a w := by
  refine takeVal i d _ hop hs hf hr hd hw hQ hS (fun w hw' => ?_) h
  unfold execOp
  simp only [ho, hx, hy, Sem.run_bind, run_eqGuard_agg _ _ _ _ _ _ _ hg, run_eql_struct, hq, Result.andThen_ok, Sem.run_pure]
end

set_option maxRecDepth 100000 in
set_option maxHeartbeats 4000000 in
theorem supers_walk (a b : Int) (s : List Int) (n : Int) (w : World) (hs : IsSec s) : Calls Try.prog 3 #[.agg #[.int .i64 a, .int .i64 b], .agg (SA s), .int .i64 n] w fun e w' => e = .returned (.bool true) ∧ Below w.heap.size w w' := by
  have hz := zero_sec
  have hl := hs.1
  have hsup := fun w' => superSector_any a b w'
  have hrsup := fun w' => rsuperSector_any a b w'
  have hrd := fun w' => readSuper_any s hs w'
  have hrrd := fun w' => rreadSuper_any s hs w'
  rw [read_same hs] at hrrd
  have HLS := hid (supS_sec a b).1
  generalize supS a b = SS at *
  generalize supE a b = EE at *
  generalize rdSup (getV s 4 4) (getV s 8 4) s = RR at *
  obtain ⟨W, hW⟩ : ∃ x, x = (w.alloc (.cells #[.int .i64 a, .int .i64 b] 23)).alloc (.cells (SA s) 25) := ⟨_, rfl⟩
  have X0 : Hid (W.heap[w.heap.size]? = some (.cells #[.int .i64 a, .int .i64 b] 23 (0, 0))) := by show _ = _; rw [hW]; exact heap_alloc2_old w _ _
  have Y0 : Hid (W.heap[w.heap.size + 1]? = some (.cells (SA s) 25 (0, 0))) := by show _ = _; rw [hW]; exact heap_alloc2_new w _ _
  have B0 : Hid (Below w.heap.size w W) := by show Below _ _ _; rw [hW]; exact ((Below.refl _ _).alloc (Nat.le_refl _) _).alloc (by simp) _
  go_enter Try.func3, Try.ntmps3
  go_upto_region 1 with fail
  rw [← hW]
  clear hW
  go_upto_region 4 with (first | (go_at_call 9; refine (known_any _).mono ?_; rintro e w1 ⟨rfl, hb1⟩))
  have X1 : Hid (w1.heap[w.heap.size]? = some (.cells #[.int .i64 a, .int .i64 b] 23 (0, 0))) := by show _ = _; rw [hb1.block _ (slt X0.out)]; exact X0.out
  have Y1 : Hid (w1.heap[w.heap.size + 1]? = some (.cells (SA s) 25 (0, 0))) := by show _ = _; rw [hb1.block _ (slt Y0.out)]; exact Y0.out
  have B1 : Hid (Below w.heap.size w w1) := btr B0.out hb1 B0.out.size
  clear X0 Y0 B0 hb1
  go_upto_region 5 with (first | refine load_R rfl 23 (.tmp 3) rfl w.heap.size rfl 23 _ _ X1.out Try.underlying23 rfl (by rw [szS]; rfl) ?_ | (go_at_call 10; refine (hsup _).mono ?_; rintro e w2 ⟨rfl, hb2⟩) | (refine store_sec rfl (.tmp 8) _ rfl w2.heap.size rfl SS rfl HLS.out Zs Zs_len (heap_alloc_new _ _) ?_; intro w3 hw3))
  have X3 := hid (wr_keep hw3 hb2 X1.out)
  have Y3 := hid (wr_keep hw3 hb2 Y1.out)
  have P3 := hid hw3.here
  have B3 : Hid (Below w.heap.size w w3) := hw3.below ((btr B1.out hb2 B1.out.size).alloc (Nat.le_trans B1.out.size hb2.size) _) (Nat.le_trans B1.out.size hb2.size)
  clear X1 Y1 B1 hb2 hw3
  go_upto_region 6 with (first | refine load_R rfl 23 (.tmp 3) rfl w.heap.size rfl 23 _ _ X3.out Try.underlying23 rfl (by rw [szS]; rfl) ?_ | (go_at_call 11; refine (hrsup _).mono ?_; rintro e w4 ⟨rfl, hb4⟩) | (refine store_sec rfl (.tmp 10) _ rfl w4.heap.size rfl SS rfl HLS.out Zs Zs_len (heap_alloc_new _ _) ?_; intro w5 hw5))
  have X5 := hid (wr_keep hw5 hb4 X3.out)
  have Y5 := hid (wr_keep hw5 hb4 Y3.out)
  have P5 := hid (wr_keep hw5 hb4 P3.out)
  have Q5 := hid hw5.here
  have B5 : Hid (Below w.heap.size w w5) := hw5.below ((btr B3.out hb4 B3.out.size).alloc (Nat.le_trans B3.out.size hb4.size) _) (Nat.le_trans B3.out.size hb4.size)
  clear X3 Y3 B3 P3 hb4 hw5
  go_upto_region 7 with (first | refine load_sec rfl (.tmp 4) rfl (w.heap.size + 1) rfl s hl Y5.out ?_ | (go_at_call 12; refine (hrd _).mono ?_; rintro e w6 ⟨rfl, hb6⟩) | (refine store_R rfl 23 (.tmp 12) _ rfl w6.heap.size _ rfl rfl 23 _ (heap_alloc_new _ _) (by rw [szS]; rfl) rfl (by simp [SUA, Value.oneCell']) ?_; intro w7 hw7))
  have X7 := hid (pr_keep hw7 hb6 X5.out)
  have Y7 := hid (pr_keep hw7 hb6 Y5.out)
  have P7 := hid (pr_keep hw7 hb6 P5.out)
  have Q7 := hid (pr_keep hw7 hb6 Q5.out)
  have R7 := hid hw7.here
  have B7 : Hid (Below w.heap.size w w7) := hw7.below ((btr B5.out hb6 B5.out.size).alloc (Nat.le_trans B5.out.size hb6.size) _) (Nat.le_trans B5.out.size hb6.size)
  clear X5 Y5 B5 P5 Q5 hb6 hw7
  go_upto_region 8 with (first | refine load_sec rfl (.tmp 4) rfl (w.heap.size + 1) rfl s hl Y7.out ?_ | (go_at_call 13; refine (hrrd _).mono ?_; rintro e w8 ⟨rfl, hb8⟩) | (refine store_R rfl 23 (.tmp 14) _ rfl w8.heap.size _ rfl rfl 23 _ (heap_alloc_new _ _) (by rw [szS]; rfl) rfl (by simp [SUA, Value.oneCell']) ?_; intro w9 hw9))
  have X9 := pr_keep hw9 hb8 X7.out
  have P9 := pr_keep hw9 hb8 P7.out
  have Q9 := pr_keep hw9 hb8 Q7.out
  have R9 := pr_keep hw9 hb8 R7.out
  have T9 := hw9.here
  have B9 : Below w.heap.size w w9 := hw9.below ((btr B7.out hb8 B7.out.size).alloc (Nat.le_trans B7.out.size hb8.size) _) (Nat.le_trans B7.out.size hb8.size)
  clear X7 Y7 B7 P7 Q7 R7 hb8 hw9
  refine wp_region_noPanic ?_
  refine wp_region_held_drew (S := fun w' => w'.heap[w.heap.size]? = some (.cells #[.int .i64 a, .int .i64 b] 23 (0, 0)) ∧ w'.heap[w2.heap.size]? = some (.cells (SA SS) 25 (0, 0)) ∧ w'.heap[w4.heap.size]? = some (.cells (SA SS) 25 (0, 0)) ∧ w'.heap[w6.heap.size]? = some (.cells (SUA RR.1 RR.2.1) 23 (0, 0)) ∧ w'.heap[w8.heap.size]? = some (.cells (SUA RR.1 RR.2.1) 23 (0, 0))) (by kernel_rfl) ⟨X9, P9, Q9, R9, T9⟩ (fun hHeld => ?_)
  have heldU : ∀ {u u' : World}, Below u.heap.size u u' → (fun w' => w'.heap[w.heap.size]? = some (.cells #[.int .i64 a, .int .i64 b] 23 (0, 0)) ∧ w'.heap[w2.heap.size]? = some (.cells (SA SS) 25 (0, 0)) ∧ w'.heap[w4.heap.size]? = some (.cells (SA SS) 25 (0, 0)) ∧ w'.heap[w6.heap.size]? = some (.cells (SUA RR.1 RR.2.1) 23 (0, 0)) ∧ w'.heap[w8.heap.size]? = some (.cells (SUA RR.1 RR.2.1) 23 (0, 0))) u → (fun w' => w'.heap[w.heap.size]? = some (.cells #[.int .i64 a, .int .i64 b] 23 (0, 0)) ∧ w'.heap[w2.heap.size]? = some (.cells (SA SS) 25 (0, 0)) ∧ w'.heap[w4.heap.size]? = some (.cells (SA SS) 25 (0, 0)) ∧ w'.heap[w6.heap.size]? = some (.cells (SUA RR.1 RR.2.1) 23 (0, 0)) ∧ w'.heap[w8.heap.size]? = some (.cells (SUA RR.1 RR.2.1) 23 (0, 0))) u' := fun hb h => ⟨by rw [hb.block _ (slt h.1)]; exact h.1, by rw [hb.block _ (slt h.2.1)]; exact h.2.1, by rw [hb.block _ (slt h.2.2.1)]; exact h.2.2.1, by rw [hb.block _ (slt h.2.2.2.1)]; exact h.2.2.2.1, by rw [hb.block _ (slt h.2.2.2.2)]; exact h.2.2.2.2⟩
  refine takeVal 0 39 (.bool true) rfl (by kernel_rfl) (by kernel_rfl) (by kernel_rfl) rfl (by rfl) (fun _ _ _ h => h) hHeld (fun _ hw' => rfl) ?_
  simp only [List.setIfInBounds_toArray, List.set_cons_zero, List.set_cons_succ]
  refine takeVal 1 40 (.bool true) rfl (by kernel_rfl) (by kernel_rfl) (by kernel_rfl) rfl (by rfl) (fun _ _ _ h => h) hHeld (fun _ hw' => rfl) ?_
  simp only [List.setIfInBounds_toArray, List.set_cons_zero, List.set_cons_succ]
  refine takeSec 2 41 (.tmp 8) w2.heap.size SS HLS.out rfl (by kernel_rfl) (by kernel_rfl) (by kernel_rfl) rfl rfl rfl (by rfl) (fun _ _ _ h => h) hHeld (fun _ h => h.2.1) ?_
  simp only [List.setIfInBounds_toArray, List.set_cons_zero, List.set_cons_succ]
  refine takeSec 3 42 (.tmp 10) w4.heap.size SS HLS.out rfl (by kernel_rfl) (by kernel_rfl) (by kernel_rfl) rfl rfl rfl (by rfl) (fun _ _ _ h => h) hHeld (fun _ h => h.2.2.1) ?_
  simp only [List.setIfInBounds_toArray, List.set_cons_zero, List.set_cons_succ]
  refine takeEq 4 43 25 (.tmp 41) (.tmp 42) (SA SS) (SA SS) true rfl (by kernel_rfl) (by kernel_rfl) (by kernel_rfl) rfl rfl rfl rfl (by rfl) (fun _ _ _ h => h) hHeld (fun w' => by rw [eq_sec _ _ HLS.out HLS.out, decide_eq_true rfl]) (guard_sec) ?_
  simp only [List.setIfInBounds_toArray, List.set_cons_zero, List.set_cons_succ]
  refine takeVal 5 44 (.bool true) rfl (by kernel_rfl) (by kernel_rfl) (by kernel_rfl) rfl (by rfl) (fun _ _ _ h => h) hHeld (fun _ hw' => rfl) ?_
  simp only [List.setIfInBounds_toArray, List.set_cons_zero, List.set_cons_succ]
  refine takeVal 6 45 (.bool true) rfl (by kernel_rfl) (by kernel_rfl) (by kernel_rfl) rfl (by rfl) (fun _ _ _ h => h) hHeld (fun _ hw' => rfl) ?_
  simp only [List.setIfInBounds_toArray, List.set_cons_zero, List.set_cons_succ]
  refine takeVal 7 46 (.int .i64 EE) rfl (by kernel_rfl) (by kernel_rfl) (by kernel_rfl) rfl (by rfl) (fun _ _ _ h => h) hHeld (fun _ hw' => rfl) ?_
  simp only [List.setIfInBounds_toArray, List.set_cons_zero, List.set_cons_succ]
  refine takeVal 8 47 (.int .i64 EE) rfl (by kernel_rfl) (by kernel_rfl) (by kernel_rfl) rfl (by rfl) (fun _ _ _ h => h) hHeld (fun _ hw' => rfl) ?_
  simp only [List.setIfInBounds_toArray, List.set_cons_zero, List.set_cons_succ]
  refine takeVal 9 48 (.bool true) rfl (by kernel_rfl) (by kernel_rfl) (by kernel_rfl) rfl (by rfl) (fun _ _ _ h => h) hHeld (fun _ hw' => by go_simp) ?_
  simp only [List.setIfInBounds_toArray, List.set_cons_zero, List.set_cons_succ]
  refine takeVal 10 49 (.bool true) rfl (by kernel_rfl) (by kernel_rfl) (by kernel_rfl) rfl (by rfl) (fun _ _ _ h => h) hHeld (fun _ hw' => rfl) ?_
  simp only [List.setIfInBounds_toArray, List.set_cons_zero, List.set_cons_succ]
  refine takeVal 11 50 (.bool true) rfl (by kernel_rfl) (by kernel_rfl) (by kernel_rfl) rfl (by rfl) (fun _ _ _ h => h) hHeld (fun _ hw' => rfl) ?_
  simp only [List.setIfInBounds_toArray, List.set_cons_zero, List.set_cons_succ]
  refine takeR 12 51 23 (.tmp 12) w6.heap.size 23 (SUA RR.1 RR.2.1) _ rfl (by kernel_rfl) (by kernel_rfl) (by kernel_rfl) rfl rfl rfl Try.underlying23 rfl (by rw [szS]; rfl) (by rfl) (fun _ _ _ h => h) hHeld (fun _ h => h.2.2.2.1) ?_
  simp only [List.setIfInBounds_toArray, List.set_cons_zero, List.set_cons_succ]
  refine takeR 13 52 23 (.tmp 14) w8.heap.size 23 (SUA RR.1 RR.2.1) _ rfl (by kernel_rfl) (by kernel_rfl) (by kernel_rfl) rfl rfl rfl Try.underlying23 rfl (by rw [szS]; rfl) (by rfl) (fun _ _ _ h => h) hHeld (fun _ h => h.2.2.2.2) ?_
  simp only [List.setIfInBounds_toArray, List.set_cons_zero, List.set_cons_succ]
  refine takeEq 14 53 23 (.tmp 51) (.tmp 52) (SUA RR.1 RR.2.1) (SUA RR.1 RR.2.1) true rfl (by kernel_rfl) (by kernel_rfl) (by kernel_rfl) rfl rfl rfl rfl (by rfl) (fun _ _ _ h => h) hHeld (eq_sup _ _) (guard_sup) ?_
  simp only [List.setIfInBounds_toArray, List.set_cons_zero, List.set_cons_succ]
  refine takeVal 15 54 (.bool true) rfl (by kernel_rfl) (by kernel_rfl) (by kernel_rfl) rfl (by rfl) (fun _ _ _ h => h) hHeld (fun _ hw' => rfl) ?_
  simp only [List.setIfInBounds_toArray, List.set_cons_zero, List.set_cons_succ]
  refine takeVal 16 55 (.bool true) rfl (by kernel_rfl) (by kernel_rfl) (by kernel_rfl) rfl (by rfl) (fun _ _ _ h => h) hHeld (fun _ hw' => rfl) ?_
  simp only [List.setIfInBounds_toArray, List.set_cons_zero, List.set_cons_succ]
  refine takeVal 17 56 (.int .i64 RR.2.2) rfl (by kernel_rfl) (by kernel_rfl) (by kernel_rfl) rfl (by rfl) (fun _ _ _ h => h) hHeld (fun _ hw' => rfl) ?_
  simp only [List.setIfInBounds_toArray, List.set_cons_zero, List.set_cons_succ]
  refine takeVal 18 57 (.int .i64 RR.2.2) rfl (by kernel_rfl) (by kernel_rfl) (by kernel_rfl) rfl (by rfl) (fun _ _ _ h => h) hHeld (fun _ hw' => rfl) ?_
  simp only [List.setIfInBounds_toArray, List.set_cons_zero, List.set_cons_succ]
  refine takeVal 19 58 (.bool true) rfl (by kernel_rfl) (by kernel_rfl) (by kernel_rfl) rfl (by rfl) (fun _ _ _ h => h) hHeld (fun _ hw' => by go_simp) ?_
  simp only [List.setIfInBounds_toArray, List.set_cons_zero, List.set_cons_succ]
  refine takeVal 20 59 (.bool true) rfl (by kernel_rfl) (by kernel_rfl) (by kernel_rfl) rfl (by rfl) (fun _ _ _ h => h) hHeld (fun _ hw' => rfl) ?_
  simp only [List.setIfInBounds_toArray, List.set_cons_zero, List.set_cons_succ]
  refine takeVal 21 60 (.bool true) rfl (by kernel_rfl) (by kernel_rfl) (by kernel_rfl) rfl (by rfl) (fun _ _ _ h => h) hHeld (fun _ hw' => rfl) ?_
  simp only [List.setIfInBounds_toArray, List.set_cons_zero, List.set_cons_succ]
  refine takeR 22 61 23 (.tmp 3) w.heap.size 23 #[.int .i64 a, .int .i64 b] _ rfl (by kernel_rfl) (by kernel_rfl) (by kernel_rfl) rfl rfl rfl Try.underlying23 rfl (by rw [szS]; rfl) (by rfl) (fun _ _ _ h => h) hHeld (fun _ h => h.1) ?_
  simp only [List.setIfInBounds_toArray, List.set_cons_zero, List.set_cons_succ]
  refine takeVal 23 62 (.int .i64 n) rfl (by kernel_rfl) (by kernel_rfl) (by kernel_rfl) rfl (by rfl) (fun _ _ _ h => h) hHeld (fun _ hw' => rfl) ?_
  simp only [List.setIfInBounds_toArray, List.set_cons_zero, List.set_cons_succ]
  refine takeR 25 64 23 (.tmp 3) w.heap.size 23 #[.int .i64 a, .int .i64 b] _ rfl (by kernel_rfl) (by kernel_rfl) (by kernel_rfl) rfl rfl rfl Try.underlying23 rfl (by rw [szS]; rfl) (by rfl) (fun _ _ _ h => h) hHeld (fun _ h => h.1) ?_
  simp only [List.setIfInBounds_toArray, List.set_cons_zero, List.set_cons_succ]
  refine takeVal 26 65 (.int .i64 n) rfl (by kernel_rfl) (by kernel_rfl) (by kernel_rfl) rfl (by rfl) (fun _ _ _ h => h) hHeld (fun _ hw' => rfl) ?_
  simp only [List.setIfInBounds_toArray, List.set_cons_zero, List.set_cons_succ]
  refine step1 24 (by kernel_rfl) ?_
  refine stCall 24 63 14 #[.agg #[.int .i64 a, .int .i64 b], .int .i64 n] _ rfl rfl (by rfl) (by go_simp) (isData_any a b n _) ?_
  rintro e u1 ⟨rfl, hu1⟩
  have hHeld := heldU hu1 hHeld
  refine ⟨_, rfl, hHeld, ?_⟩
  simp only [List.setIfInBounds_toArray, List.set_cons_zero, List.set_cons_succ]
  refine step1 27 (by kernel_rfl) ?_
  refine stCall 27 66 15 #[.agg #[.int .i64 a, .int .i64 b], .int .i64 n] _ rfl rfl (by rfl) (by go_simp) (risData_any a b n _) ?_
  rintro e u2 ⟨rfl, hu2⟩
  have hHeld := heldU hu2 hHeld
  refine ⟨_, rfl, hHeld, ?_⟩
  simp only [List.setIfInBounds_toArray, List.set_cons_zero, List.set_cons_succ]
  refine takeVal 28 67 (.bool true) rfl (by kernel_rfl) (by kernel_rfl) (by kernel_rfl) rfl (by rfl) (fun _ _ _ h => h) hHeld (fun _ hw' => by go_simp) ?_
  simp only [List.setIfInBounds_toArray, List.set_cons_zero, List.set_cons_succ]
  refine takeVal 29 68 (.bool true) rfl (by kernel_rfl) (by kernel_rfl) (by kernel_rfl) rfl (by rfl) (fun _ _ _ h => h) hHeld (fun _ hw' => rfl) ?_
  simp only [List.setIfInBounds_toArray, List.set_cons_zero, List.set_cons_succ]
  refine takeVal 30 6 (.bool true) rfl (by kernel_rfl) (by kernel_rfl) (by kernel_rfl) rfl (by rfl) (fun _ _ _ h => h) hHeld (fun _ hw' => rfl) ?_
  simp only [List.setIfInBounds_toArray, List.set_cons_zero, List.set_cons_succ]
  refine wpAnyH_done (by kernel_rfl) ?_ _
  refine NoPanic.normal ?_
  have BF : Below w.heap.size w u2 := btr (btr (below_drew B9) hu1 B9.size) hu2 (Nat.le_trans B9.size hu1.size)
  clear hHeld heldU
  go_wp2_with fail
  go_ret
  exact ⟨rfl, BF⟩

end Go.Proofs.Ytligeanfgeajoaa
