/-
  The document's PointersSector.
-/
import Derived.Test.YtjlhmojofjkkdabLP2
-- may lack
namespace Go.Proofs.Ytjlhmojofjkkdab
open Go.RowKit

theorem layP_step (x : List Int) (n : Nat) : layS (numsPtr x (n + 1)) = putN (layS (numsPtr x n)) (4 * n) (x.getD n 0) 4 := by
  rw [numsPtr_succ, layS_snoc]
  have e : (4 * (n : Int)).toNat = 4 * n := by omega
  show putN _ ((4 * (n : Int)).toNat) (x.getD n 0) 4 = _
  rw [e]
theorem stLoadSec (i d : Nat) (x : Operand) (g : Nat) (c : List Int) (hc : c.length = 128) {ops : Array Oper} {Q : Exit → Act → World → Prop} {S : World → Prop} {fuel : Nat} {listed : Array Bool} {a : Act} {w : World} {o : Oper} (hop : ops[i]? = some o) (hd : o.dst = some d) (hw : Region.wanted o (yielded ops a.tmps) = true)
    (ho : o.op = .load 77 x) (hx : a.eval x = .pointer (some ⟨g, 0, none⟩)) (hg : w.heap[g]? = some (.cells (SA c) 77 (0, 0))) (hS : S w)
    (h : wpAnyH Try.prog .any ops Q S fuel (listed.setIfInBounds i true) { a with tmps := a.tmps.setIfInBounds d (.agg (SA c)) } w) : St ops Q S fuel listed a w i := by
  refine stVal i d _ hop hd hw ?_ hS h
  unfold execOp
  simp only [ho, hx, Instr.loadAt, Instr.sureAddr, Sem.run_bind, Sem.run_pure, Result.andThen_ok, run_loadR w g 77 77 (SA c) _ hg Try.underlying77 rfl (by rw [sz26, SA_size, hc])]

set_option maxRecDepth 100000 in
set_option maxHeartbeats 2000000 in
theorem rpointersSector_any (x : List Int) (hx : x.length = 32) (w : World) :
    Calls Try.prog 19 #[.agg (NA x)] w fun e w' => e = .returned (.tuple #[.agg (SA (ptrS x)), .int .i64 (ptrE x)]) ∧ Below w.heap.size w w' := by
  have hz := zero_sec
  have hbs := build_sec
  obtain ⟨W, hW⟩ : ∃ y, y = ((w.alloc (.cells (NA x) 59)).alloc (.cells (SA Zs) 77)).alloc (.cells (SA Zs) 77) := ⟨_, rfl⟩
  have hb2 : Below w.heap.size w ((w.alloc (.cells (NA x) 59)).alloc (.cells (SA Zs) 77)) := ((Below.refl _ _).alloc (Nat.le_refl _) _).alloc (by simp) _
  have hz2 : ((w.alloc (.cells (NA x) 59)).alloc (.cells (SA Zs) 77)).heap.size = w.heap.size + 2 := by simp
  have X0 : W.heap[w.heap.size]? = some (.cells (NA x) 59 (0, 0)) := by rw [hW, Below.heap_alloc _ _ _ (by omega)]; exact heap_alloc2_old w _ _
  have Y0 : W.heap[w.heap.size + 1]? = some (.cells (SA Zs) 77 (0, 0)) := by rw [hW, Below.heap_alloc _ _ _ (by omega)]; exact heap_alloc2_new w _ _
  have Z0 : W.heap[w.heap.size + 2]? = some (.cells (SA (layS (numsPtr x 0))) 77 (0, 0)) := by rw [hW, ← hz2]; exact heap_alloc_new _ _
  have B0 : Below w.heap.size w W := by rw [hW]; exact hb2.alloc (by omega) _
  go_enter Try.func19, Try.ntmps19
  go_upto_region 2 with fail
  rw [← hW]
  clear hW hb2 hz2
  go_upto_region 3 with fail
  go_loopw [5] (fun i wr => ∃ n : Nat, n ≤ 32 ∧ i = .int .i64 n ∧ wr.heap[w.heap.size]? = some (.cells (NA x) 59 (0, 0)) ∧ wr.heap[w.heap.size + 1]? = some (.cells (SA Zs) 77 (0, 0)) ∧ wr.heap[w.heap.size + 2]? = some (.cells (SA (layS (numsPtr x n))) 77 (0, 0)) ∧ Below w.heap.size w wr ∧ Hid (∀ i, i < n → okP x i)) (fun i _ => 32 - (intOf i).toNat)
  case atStart => exact ⟨0, by omega, rfl, X0, Y0, Z0, B0, fun i hi => absurd hi (Nat.not_lt_zero _)⟩
  case round =>
    obtain ⟨n, hn, rfl, h1, h2, h3, h4, hk⟩ := hrel
    clear X0 Y0 Z0 B0
    have H1 := hid h1
    have H2 := hid h2
    have H3 := hid h3
    by_cases hlt : n < 32
    · have hlt' : (n : Int) < 32 := by omega
      have hcx := row_cell h1 n (by omega)
      have hstep := layP_step x n
      have HLN := (layS_sec (numsPtr x n)).1
      have HLM := (layS_sec (numsPtr x (n + 1))).1
      generalize hX : x.getD n 0 = X at *
      generalize hLM : layS (numsPtr x (n + 1)) = LM at *
      generalize layS (numsPtr x n) = LN at *
      clear h1 h2 h3
      by_cases hw : 0 ≤ X ∧ X ≤ 4294967295
      · have hm1 : wiB X 0 4294967295 = true := wiB_true hw
        have e4 : ((4 * n : Nat) : Int) = 4 * (n : Int) := by omega
        have hlay := fun w' => rlay_any LN (4 * n) 4 X w' HLN (by omega) hw.1 (by omega)
        rw [← hstep, e4] at hlay
        have hk' : Hid (∀ i, i < n + 1 → okP x i) := fun i hi => by
          by_cases e : i = n
          · subst e; unfold okP; rw [hX]; exact hw
          · exact hk.out i (by omega)
        go_upto_region 7 with (first | (go_at_call 25; refine (rwithin_any _ _ _ _).mono ?_; rintro e w2 ⟨he, hw2⟩; have hw3 := hw2.symm; subst hw3; rw [hm1] at he; subst he))
        refine wp_region_noPanic ?_
        refine wp_region_held_drew (S := fun w' => w'.heap[w.heap.size]? = some (.cells (NA x) 59 (0, 0))) (by kernel_rfl) H1.out (fun hHeld => ?_)
        refine takeVal 1 17 (.int .i64 (n : Int)) rfl (by kernel_rfl) (by kernel_rfl) (by kernel_rfl) rfl (by rfl) (fun _ _ _ h => h) hHeld (fun x' hw' => rfl) ?_
        simp only [List.setIfInBounds_toArray, List.set_cons_zero, List.set_cons_succ]
        refine takeVal 2 18 (.int .i64 (4 * (n : Int))) rfl (by kernel_rfl) (by kernel_rfl) (by kernel_rfl) rfl (by rfl) (fun _ _ _ h => h) hHeld (fun x' hw' => by go_simp; exact IntWalk.i64_in _ (by omega)) ?_
        simp only [List.setIfInBounds_toArray, List.set_cons_zero, List.set_cons_succ]
        refine takeVal 3 19 (.int .i64 (n : Int)) rfl (by kernel_rfl) (by kernel_rfl) (by kernel_rfl) rfl (by rfl) (fun _ _ _ h => h) hHeld (fun x' hw' => rfl) ?_
        simp only [List.setIfInBounds_toArray, List.set_cons_zero, List.set_cons_succ]
        refine takeVal 4 20 (.pointer (some ⟨w.heap.size, n, none⟩)) rfl (by kernel_rfl) (by kernel_rfl) (by kernel_rfl) rfl (by rfl) (fun _ _ _ h => h) hHeld (fun x' hw' => by go_simp) ?_
        simp only [List.setIfInBounds_toArray, List.set_cons_zero, List.set_cons_succ]
        refine takeVal 5 21 (.int .i64 X) rfl (by kernel_rfl) (by kernel_rfl) (by kernel_rfl) rfl (by rfl) (fun _ _ _ h => h) hHeld (fun x' hw' => by have hc := row_cell hw' n (by omega); rw [hX] at hc; go_simp) ?_
        simp only [List.setIfInBounds_toArray, List.set_cons_zero, List.set_cons_succ]
        refine step1 0 (by kernel_rfl) ?_
        refine stLoadSec 0 16 (.tmp 4) (w.heap.size + 2) LN HLN rfl rfl (by rfl) rfl rfl H3.out hHeld ?_
        simp only [List.setIfInBounds_toArray, List.set_cons_zero, List.set_cons_succ]
        refine step1 6 (by kernel_rfl) ?_
        refine stCall 6 22 26 #[.agg (SA LN), .int .i64 (4 * (n : Int)), .int .i64 4, .int .i64 X] _ rfl rfl (by rfl) (by go_simp) (hlay _) ?_
        rintro e wA ⟨rfl, hbA⟩
        have hHeld : wA.heap[w.heap.size]? = some (.cells (NA x) 59 (0, 0)) := by rw [hbA.block _ (slt H1.out)]; exact H1.out
        have hA3 : wA.heap[w.heap.size + 2]? = some (.cells (SA LN) 77 (0, 0)) := by rw [hbA.block _ (slt H3.out)]; exact H3.out
        refine ⟨_, rfl, hHeld, ?_⟩
        simp only [List.setIfInBounds_toArray, List.set_cons_zero, List.set_cons_succ]
        refine step1 7 (by kernel_rfl) ?_
        refine stStoreR 7 77 (.tmp 4) (.tmp 22) (w.heap.size + 2) (SA LM) 77 (SA LN) rfl rfl (by rfl) rfl rfl rfl hA3 (by rw [sz26, SA_size, HLM]) (by rw [SA_size, SA_size, HLN, HLM]) (SA_one _) ?_
        intro wT hT
        refine ⟨by rw [hT.other _ (by omega)]; exact hHeld, ?_⟩
        refine wpAnyH_done (by kernel_rfl) ?_ _
        refine NoPanic.normal ?_
        have q1 : wT.heap[w.heap.size]? = some (.cells (NA x) 59 (0, 0)) := by rw [hT.other _ (by omega)]; exact hHeld
        have q2 : wT.heap[w.heap.size + 1]? = some (.cells (SA Zs) 77 (0, 0)) := by rw [hT.other _ (by omega), hbA.block _ (slt H2.out)]; exact H2.out
        have q4 : Below w.heap.size w wT := hT.below (btr (below_drew h4) hbA h4.size) (by omega)
        have q3 := hT.here
        clear hHeld
        go_wp2
        exact ⟨⟨n + 1, by omega, by go_num, q1, q2, by rw [hLM]; exact q3, q4, hk'⟩, by simp [intOf]; omega⟩
      · have hm1 : wiB X 0 4294967295 = false := wiB_false hw
        have HB : Hid (ptrB x = false) := ptrB_false hlt (by unfold okP; rw [hX]; exact hw)
        clear hstep
        go_wp2_with (first | (go_at_call 25; refine (rwithin_any _ _ _ _).mono ?_; rintro e w2 ⟨he, hw2⟩; have hw3 := hw2.symm; subst hw3; rw [hm1] at he; subst he) | (refine store_sec rfl (.tmp 2) _ rfl (w.heap.size + 1) rfl Zs rfl Zs_len Zs Zs_len H2.out ?_; intro w5 hw5))
        rw [show ptrS x = Zs by unfold ptrS; rw [HB.out]; rfl, show ptrE x = 62 by unfold ptrE; rw [HB.out]; rfl]
        exact bodyPost_ret (v := .tuple #[.agg (SA Zs), .int .i64 62]) (results_sec Try.results19 _ _ (w.heap.size + 1) Zs Zs_len _ rfl rfl hw5.here) rfl ⟨rfl, hw5.below h4 (by omega)⟩
    · have e : n = 32 := by omega
      subst e
      have HB : Hid (ptrB x = true) := ptrB_true hk.out
      have HSX : Hid (ptrS x = layS (numsPtr x 32) ∧ ptrE x = 0) := ⟨by unfold ptrS; rw [HB.out]; rfl, by unfold ptrE; rw [HB.out]; rfl⟩
      have hlen := (layS_sec (numsPtr x 32)).1
      clear h1 h2 h3
      go_wp2_with (first | refine load_sec rfl (.tmp 4) rfl (w.heap.size + 2) rfl _ hlen H3.out ?_ | (refine store_sec rfl (.tmp 2) _ rfl (w.heap.size + 1) rfl (layS (numsPtr x 32)) rfl hlen Zs Zs_len H2.out ?_; intro w5 hw5))
      rw [HSX.out.1, HSX.out.2]
      exact bodyPost_ret (v := .tuple #[.agg (SA (layS (numsPtr x 32))), .int .i64 0]) (results_sec Try.results19 _ _ (w.heap.size + 1) _ hlen _ rfl rfl hw5.here) rfl ⟨rfl, hw5.below h4 (by omega)⟩

end Go.Proofs.Ytjlhmojofjkkdab
