/-
  CacheQuiet's small parts: refused calls of Read and Mark; lists of edges that are the same.
-/
import Derived.Test.YtgkanfmkohlmcaaGreatCOnce
import Derived.Test.YtgkanfmkohlmcaaGreatCTag
namespace Go.Proofs.YtgkanfmkohlmcaaGreat
open Go.RowKit

theorem guardE : Tryz.prog.eqGuardType Tryz.prog.depth 90 = false := by kernel_rfl
theorem eqE (a b c d : Int) (w : World) : (Op.equalIn 10000 90 (.agg #[.int .i64 a, .int .i64 b]) (.agg #[.int .i64 c, .int .i64 d])).run Tryz.prog w = .ok (a == c && b == d) w := by
  have hS : Tryz.prog.underlying 90 = some (.struct (Tryz.prog.fieldsOf 90)) := by kernel_rfl
  have hp : Tryz.prog.stoodInHeld 90 = false := by kernel_rfl
  have u3 := Tryz.underlying3
  have a3 := Tryz.isAgg3
  have z3 := Tryz.sizeOf3
  rw [show (10000 : Nat) = 9999 + 1 from rfl, run_equalIn_agg w 9999 90 _ _ hS hp]
  simp only [Program.fieldsOf, Tryz.underlying90]
  go_simp
  by_cases h1 : a = c <;> by_cases h2 : b = d <;> simp [h1, h2]

theorem szE : (Tryz.prog.info? 90).map (·.size) = some 2 := by kernel_rfl
theorem edge_range {w : World} {g k : Nat} {x : Int × Int} (h0 : w.cell? ⟨g, k, none⟩ = some (.int .i64 x.1)) (h1 : w.cell? ⟨g, k + 1, none⟩ = some (.int .i64 x.2)) : w.rangeAt g k [.int .i64 x.1, .int .i64 x.2] := by
  intro i v hv
  match i, hv with
  | 0, hv => simp at hv; subst hv; exact h0
  | 1, hv => simp at hv; subst hv; exact h1
  | i + 2, hv => simp at hv
theorem load_edge {w : World} {g k : Nat} {x : Int × Int} (h : w.rangeAt g k [.int .i64 x.1, .int .i64 x.2]) : (loadVar 90 ⟨g, k, none⟩).run Tryz.prog w = .ok (.agg #[.int .i64 x.1, .int .i64 x.2]) w :=
  run_loadVar_mid w g k 90 [.int .i64 x.1, .int .i64 x.2] _ h Tryz.underlying90 rfl (by rw [szE]; rfl)

section
variable {ops : Array Oper} {Q : Exit → Act → World → Prop} {S : World → Prop} {fuel : Nat} {listed : Array Bool} {a : Act} {w : World}
theorem takeE (i d : Nat) (x : Operand) (g k : Nat) (y : Int × Int) {o : Oper} (hop : ops[i]? = some o) (hs : Region.noSelect ops = true) (hf : Region.free .any ops listed i = true) (hr : (Region.ready .any ops listed).contains i = true)
    (hd : o.dst = some d) (ho : o.op = .load 90 x) (hx : a.eval x = .pointer (some ⟨g, k, none⟩)) (hw : Region.wanted o (yielded ops a.tmps) = true) (hQ : ∀ c a w, ¬ Q (.panic c) a w) (hS : S w)
    (hg : ∀ w, S w → w.rangeAt g k [.int .i64 y.1, .int .i64 y.2])
    (h : wpAnyH Tryz.prog .any ops Q S fuel (listed.setIfInBounds i true) { a with tmps := a.tmps.setIfInBounds d (.agg #[.int .i64 y.1, .int .i64 y.2]) } w) : wpAnyH Tryz.prog .any ops Q S (fuel + 1) listed a w := by
  refine takeVal i d _ hop hs hf hr hd hw hQ hS (fun w hw' => ?_) h
  unfold execOp
  simp only [ho, hx, Instr.loadAt, Instr.sureAddr, Sem.run_bind, Sem.run_pure, Result.andThen_ok, load_edge (hg w hw')]
end

set_option maxRecDepth 100000 in
set_option maxHeartbeats 1000000 in
theorem sameEdges_same (l : List (Int × Int)) (a b : Option Addr) (ca cb : Nat) (w : World) (hm : l.length ≤ 1000000000000) (ha : EdAt w a l) (hb : EdAt w b l) :
    Calls Tryz.prog 23 #[.slice a l.length ca, .slice b l.length cb] w fun e w' => e = .returned (.bool true) ∧ ∃ n, w' = w.drewN n := by
  have HA := hid ha
  have HBb := hid hb
  have hgd := guardE
  have heq := eqE
  generalize hlen : l.length = m at *
  clear ha hb
  go_enter Tryz.func23, Tryz.ntmps23
  go_wp2_with fail
  go_loopw [5] (fun i wr => ∃ k n : Nat, k ≤ m ∧ i = .int .i64 k ∧ w.drewN n = wr) (fun i _ => m - (intOf i).toNat)
  case atStart => exact ⟨0, 0, by omega, rfl, rfl⟩
  case round =>
    obtain ⟨k, n, hk, rfl, rfl⟩ := hrel
    by_cases hlt : k < m
    · rcases HA.out with h0 | ⟨g1, rfl, hg1, h1⟩
      · rw [h0] at hlen; simp at hlen; omega
      · rcases HBb.out with h0 | ⟨g2, rfl, hg2, h2⟩
        · rw [h0] at hlen; simp at hlen; omega
        obtain ⟨p1, q1⟩ := h1 k (by omega)
        obtain ⟨p2, q2⟩ := h2 k (by omega)
        have hr1 := edge_range p1 q1
        have hr2 := edge_range p2 q2
        generalize l.getD k (0, 0) = y at *
        have hi0 : (0 : Int) ≤ (k : Int) := by omega
        have hi1 : (k : Int) < (m : Int) := by omega
        have R1 := hid hr1
        have R2 := hid hr2
        clear hr1 hr2 h1 h2 p1 q1 p2 q2
        go_wp2_with fail
        refine wp_region_noPanic ?_
        refine wp_region_held_drew (S := fun w' => w'.rangeAt g1 (k * 2) [.int .i64 y.1, .int .i64 y.2] ∧ w'.rangeAt g2 (k * 2) [.int .i64 y.1, .int .i64 y.2]) (by kernel_rfl) ⟨R1.out, R2.out⟩ (fun hHeld => ?_)
        refine takeVal 0 17 (.slice (some ⟨g1, 0, none⟩) m ca) rfl (by kernel_rfl) (by kernel_rfl) (by kernel_rfl) rfl (by rfl) (fun _ _ _ h => h) hHeld (fun _ hw' => rfl) ?_
        simp only [List.setIfInBounds_toArray, List.set_cons_zero, List.set_cons_succ]
        refine takeVal 1 18 (.int .i64 (k : Int)) rfl (by kernel_rfl) (by kernel_rfl) (by kernel_rfl) rfl (by rfl) (fun _ _ _ h => h) hHeld (fun _ hw' => rfl) ?_
        simp only [List.setIfInBounds_toArray, List.set_cons_zero, List.set_cons_succ]
        refine takeVal 2 19 (.pointer (some ⟨g1, k * 2, none⟩)) rfl (by kernel_rfl) (by kernel_rfl) (by kernel_rfl) rfl (by rfl) (fun _ _ _ h => h) hHeld (fun _ hw' => by go_simp) ?_
        simp only [List.setIfInBounds_toArray, List.set_cons_zero, List.set_cons_succ]
        refine takeE 3 20 (.tmp 19) g1 (k * 2) y rfl (by kernel_rfl) (by kernel_rfl) (by kernel_rfl) rfl rfl rfl (by rfl) (fun _ _ _ h => h) hHeld (fun _ h => h.1) ?_
        simp only [List.setIfInBounds_toArray, List.set_cons_zero, List.set_cons_succ]
        refine takeVal 4 21 (.slice (some ⟨g2, 0, none⟩) m cb) rfl (by kernel_rfl) (by kernel_rfl) (by kernel_rfl) rfl (by rfl) (fun _ _ _ h => h) hHeld (fun _ hw' => rfl) ?_
        simp only [List.setIfInBounds_toArray, List.set_cons_zero, List.set_cons_succ]
        refine takeVal 5 22 (.int .i64 (k : Int)) rfl (by kernel_rfl) (by kernel_rfl) (by kernel_rfl) rfl (by rfl) (fun _ _ _ h => h) hHeld (fun _ hw' => rfl) ?_
        simp only [List.setIfInBounds_toArray, List.set_cons_zero, List.set_cons_succ]
        refine takeVal 6 23 (.pointer (some ⟨g2, k * 2, none⟩)) rfl (by kernel_rfl) (by kernel_rfl) (by kernel_rfl) rfl (by rfl) (fun _ _ _ h => h) hHeld (fun _ hw' => by go_simp) ?_
        simp only [List.setIfInBounds_toArray, List.set_cons_zero, List.set_cons_succ]
        refine takeE 7 24 (.tmp 23) g2 (k * 2) y rfl (by kernel_rfl) (by kernel_rfl) (by kernel_rfl) rfl rfl rfl (by rfl) (fun _ _ _ h => h) hHeld (fun _ h => h.2) ?_
        simp only [List.setIfInBounds_toArray, List.set_cons_zero, List.set_cons_succ]
        refine takeVal 8 25 (.bool false) rfl (by kernel_rfl) (by kernel_rfl) (by kernel_rfl) rfl (by rfl) (fun _ _ _ h => h) hHeld (fun _ hw' => by go_simp) ?_
        simp only [List.setIfInBounds_toArray, List.set_cons_zero, List.set_cons_succ]
        refine wpAnyH_done (by kernel_rfl) ?_ _
        refine NoPanic.normal ?_
        go_wp2_with fail
        exact ⟨⟨k + 1, n + 1, by omega, by go_num, rfl⟩, by simp [intOf]; omega⟩
    · go_wp2_with fail
      go_ret
      exact ⟨rfl, n, rfl⟩


section
variable {w : World} {c p g n : Nat} {ρ : Nat → Option Role} {z : CSt}
theorem refC_out {x : Int} (h : ¬ (0 ≤ x ∧ x < n)) : refC n z [x] = 40 := refC_bad (k := 0) (by simp) (by
  show okN n x = false
  cases hq : okN n x with
  | false => rfl
  | true => exact absurd (okN_iff.1 hq) h)
set_option maxRecDepth 100000 in
set_option maxHeartbeats 1000000 in
theorem mark_refused (x t : Int) (h : IsC w c p g n ρ z) (hx : ¬ (0 ≤ x ∧ x < n)) :
    Calls Tryz.prog 9 #[.pointer (some ⟨c, 0, none⟩), .int .i64 x, .int .i64 t] w fun e w' => e = .returned (.int .i64 40) ∧ CPost w w' c p g n ρ z := by
  have hc1 : Chg w (w.alloc (.cells #[.int .i64 x] 3)) No := Chg.alloc _ _ _
  have HR := refusalC_any [x] (some ⟨w.heap.size, 0, none⟩) 1 (h.call hc1) (lat_one w x) (by simp)
  rw [refC_out hx] at HR
  simp only [List.length_singleton] at HR
  have HH := hid h
  have HC := hid hc1
  clear h hc1 hx
  go_enter Tryz.func9, Tryz.ntmps9
  go_wp2_with (first
    | (go_at_call 32; go_must (refine HR.mono ?_; rintro e w1 ⟨rfl, rfl⟩; clear HR))
    | fail)
  go_ret
  exact ⟨rfl, CPost.same HH.out HC.out⟩
set_option maxRecDepth 100000 in
set_option maxHeartbeats 2000000 in
theorem read_refused (x : Int) (h : IsC w c p g n ρ z) (hx : ¬ (0 ≤ x ∧ x < n)) :
    Calls Tryz.prog 15 #[.pointer (some ⟨c, 0, none⟩), .int .i64 x] w fun e w' => e = .returned (.tuple #[.agg (D.SA D.Zs), .int .i64 40]) ∧ CPost w w' c p g n ρ z := by
  have hzs := D.zero_sec
  have hbz := D.build_sec
  have HR := refusalC_any [x] (some ⟨w.heap.size + 1, 0, none⟩) 1 (h.call (RW_chg w x)) (by
    have := lat_one (w.alloc (.cells (D.SA D.Zs) 46)) x
    simp only [World.size_alloc] at this
    exact this) (by simp)
  simp only [List.length_singleton] at HR
  rw [refC_out hx] at HR
  have HH := hid h
  have HS0 := hid (RW_0 w x)
  have HSC := hid (RW_chg w x)
  clear h hx
  unfold RW at *
  go_enter Tryz.func15, Tryz.ntmps15
  go_wp2_with (first
    | (go_at_call 32; go_must (refine HR.mono ?_; rintro e w1 ⟨rfl, rfl⟩; clear HR))
    | (refine D.store_sec rfl _ _ rfl w.heap.size rfl D.Zs rfl D.Zs_len D.Zs D.Zs_len HS0.out ?_; intro w5 hw5)
    | fail)
  refine bodyPost_ret (v := .tuple #[.agg (D.SA D.Zs), .int .i64 40]) (D.results_sec Tryz.results15 _ _ w.heap.size D.Zs D.Zs_len _ rfl rfl hw5.here) rfl ⟨rfl, CPost.same HH.out (HSC.out.trans (wrote_chg hw5) (fun _ _ e => e) (fun j hj e => by omega))⟩
/-- What Put lays behind nothing. -/
theorem put_plain (ha : Alive z) {x : Int} (hx : 0 ≤ x ∧ x < n) (s : List Int) : putC n z x s [] = (layC z x s [], 0) := by
  have hr : refC n z [x] = 0 := refC_alive ha (by simpa using hx)
  have hc : clearC n z x [] = (z, 0) := by unfold clearC; rw [if_neg (by rintro ⟨a, h, _⟩; cases h)]
  have hd : dofC z [] x = [] := by
    unfold dofC
    have : (secs fun a => a ∈ ([] : List Int) ∧ z.dirty a ∧ a ≠ x) = [] := by
      cases hq : secs (fun a => a ∈ ([] : List Int) ∧ z.dirty a ∧ a ≠ x) with
      | nil => rfl
      | cons b l =>
        have := (secs_mem (p := fun a => a ∈ ([] : List Int) ∧ z.dirty a ∧ a ≠ x) (x := b)).1 (by rw [hq]; simp)
        cases this.2.1
    exact this
  unfold putC
  rw [if_pos hr, hc]
  simp only [if_true, hd]
theorem put_bad {x : Int} {l : List Int} (h : ∃ k, k < (x :: l).length ∧ ¬ (0 ≤ (x :: l).getD k 0 ∧ (x :: l).getD k 0 < n)) (s : List Int) : putC n z x s l = (z, 40) := by
  obtain ⟨k, hk, hb⟩ := h
  have hr : refC n z (x :: l) = 40 := refC_bad hk (by
    cases hq : okN n ((x :: l).getD k 0) with
    | false => rfl
    | true => exact absurd (okN_iff.1 hq) hb)
  unfold putC
  rw [hr, if_neg (by decide)]
theorem drain_bad {x : Int} (h : ¬ (0 ≤ x ∧ x < n)) : DrainC n z x = (z, 40) := by unfold DrainC; rw [refC_out h, if_neg (by decide)]
theorem drop_bad {x : Int} (h : ¬ (0 ≤ x ∧ x < n)) : DropC n z x = (z, 40) := by unfold DropC; rw [refC_out h, if_neg (by decide)]
theorem flush_bad {x : Int} (h : ¬ (0 ≤ x ∧ x < n)) : flushC n z x = (z, false, 40) := by unfold flushC; rw [refC_out h, if_neg (by decide)]
theorem stand_bad {x : Int} (h : ¬ (0 ≤ x ∧ x < n)) : standC n z x = (z, D.Zs, 40) := by unfold standC; rw [refC_out h, if_neg (by decide)]
end

end Go.Proofs.YtgkanfmkohlmcaaGreat
