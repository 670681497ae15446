/-
  The statements' own helpers edges and ints: lists with the same things are the same.
-/
import Derived.Test.YtfkommjpofpmbaaLaw0
namespace Go.Proofs.Ytfkommjpofpmbaa
open Go.RowKit

/-- Edges that lie in memory. -/
def EAt (w : World) (a : Option Addr) (l : List (Int × Int)) : Prop := l = [] ∨ ∃ g, a = some ⟨g, 0, none⟩ ∧ g < w.heap.size ∧ ∀ j u, (cellsE l)[j]? = some u → w.cell? ⟨g, j, none⟩ = some u
theorem EAt.keep {w w' : World} {a : Option Addr} {l : List (Int × Int)} {ks : Nat → Prop} (h : EAt w a l) (hc : Chg w w' ks) (hn : ∀ g, a = some ⟨g, 0, none⟩ → ¬ ks g) : EAt w' a l := by
  rcases h with h | ⟨g, rfl, hg, h⟩
  · exact .inl h
  · exact .inr ⟨g, rfl, Nat.lt_of_lt_of_le hg hc.size, fun j u hu => cell_keep (h j u hu) hc hg (hn g rfl)⟩
theorem EAt.call {w w' : World} {a : Option Addr} {l : List (Int × Int)} (h : EAt w a l) (hc : Chg w w' No) : EAt w' a l := h.keep hc fun _ _ e => e
theorem Edgs.at_ {w : World} {base : Nat} {v : Value} {l : List (Int × Int)} (h : Edgs w base v l) : ∃ a c, v = .slice a l.length c ∧ EAt w a l ∧ ∀ g, a = some ⟨g, 0, none⟩ → base ≤ g := by
  cases l with
  | nil =>
    obtain ⟨a, c, rfl⟩ := row_shape h
    refine ⟨a, c, rfl, .inl rfl, fun g hg => ?_⟩
    subst hg
    exact (row_ge h rfl).1
  | cons x l =>
    obtain ⟨g, cap, rfl, hb, hg, hc⟩ := row_cells h (by simp)
    exact ⟨_, _, rfl, .inr ⟨g, rfl, hg, hc⟩, fun g' e => by cases e; exact hb⟩
/-- One edge. -/
def edK (l : List (Int × Int)) (k : Nat) : Int × Int := l.getD k (0, 0)
theorem EAt.cells {w : World} {g : Nat} {l : List (Int × Int)} (h : ∀ j u, (cellsE l)[j]? = some u → w.cell? ⟨g, j, none⟩ = some u) {k : Nat} (hk : k < l.length) :
    w.cell? ⟨g, k * 2, none⟩ = some (.int .i64 (edK l k).1) ∧ w.cell? ⟨g, k * 2 + 1, none⟩ = some (.int .i64 (edK l k).2) := by
  have hg := cellsE_get l k
  rw [List.getElem?_eq_getElem hk] at hg
  have e : edK l k = l[k] := by simp [edK, hk]
  rw [e, Nat.mul_comm]
  exact ⟨h _ _ hg.1, h _ _ hg.2⟩
theorem edge_range {w : World} {g k : Nat} {x : Int × Int} (h0 : w.cell? ⟨g, k, none⟩ = some (.int .i64 x.1)) (h1 : w.cell? ⟨g, k + 1, none⟩ = some (.int .i64 x.2)) : w.rangeAt g k [.int .i64 x.1, .int .i64 x.2] := by
  intro i v hv
  match i, hv with
  | 0, hv => simp at hv; subst hv; exact h0
  | 1, hv => simp at hv; subst hv; exact h1
  | i + 2, hv => simp at hv
theorem load_edge {w : World} {g k : Nat} {x : Int × Int} (h : w.rangeAt g k [.int .i64 x.1, .int .i64 x.2]) : (loadVar 48 ⟨g, k, none⟩).run Try.prog w = .ok (.agg #[.int .i64 x.1, .int .i64 x.2]) w :=
  run_loadVar_mid w g k 48 [.int .i64 x.1, .int .i64 x.2] _ h Try.underlying48 rfl (by rw [szE]; rfl)

section
variable {ops : Array Oper} {Q : Exit → Act → World → Prop} {S : World → Prop} {fuel : Nat} {listed : Array Bool} {a : Act} {w : World}
theorem takeE (i d : Nat) (x : Operand) (g k : Nat) (y : Int × Int) {o : Oper} (hop : ops[i]? = some o) (hs : Region.noSelect ops = true) (hf : Region.free .any ops listed i = true) (hr : (Region.ready .any ops listed).contains i = true)
    (hd : o.dst = some d) (ho : o.op = .load 48 x) (hx : a.eval x = .pointer (some ⟨g, k, none⟩)) (hw : Region.wanted o (yielded ops a.tmps) = true) (hQ : ∀ c a w, ¬ Q (.panic c) a w) (hS : S w)
    (hg : ∀ w, S w → w.rangeAt g k [.int .i64 y.1, .int .i64 y.2])
    (h : wpAnyH Try.prog .any ops Q S fuel (listed.setIfInBounds i true) { a with tmps := a.tmps.setIfInBounds d (.agg #[.int .i64 y.1, .int .i64 y.2]) } w) : wpAnyH Try.prog .any ops Q S (fuel + 1) listed a w := by
  refine takeVal i d _ hop hs hf hr hd hw hQ hS (fun w hw' => ?_) h
  unfold execOp
  simp only [ho, hx, Instr.loadAt, Instr.sureAddr, Sem.run_bind, Sem.run_pure, Result.andThen_ok, load_edge (hg w hw')]
end

set_option maxRecDepth 100000 in
set_option maxHeartbeats 1000000 in
theorem edges_any (l : List (Int × Int)) (a b : Option Addr) (ca cb : Nat) (w : World) (hm : l.length ≤ 1000000000000) (ha : EAt w a l) (hb : EAt w b l) :
    Calls Try.prog 12 #[.slice a l.length ca, .slice b l.length cb] w fun e w' => e = .returned (.bool true) ∧ ∃ n, w' = w.drewN n := by
  have HA := hid ha
  have HBb := hid hb
  have hgd := guardE
  have heq := eqE
  generalize hlen : l.length = m at *
  clear ha hb
  go_enter Try.func12, Try.ntmps12
  go_wp2_with fail
  go_loopw [5] (fun i wr => ∃ k n : Nat, k ≤ m ∧ i = .int .i64 k ∧ w.drewN n = wr) (fun i _ => m - (intOf i).toNat)
  case atStart => exact ⟨0, 0, by omega, rfl, rfl⟩
  case round =>
    obtain ⟨k, n, hk, rfl, rfl⟩ := hrel
    by_cases hlt : k < m
    · rcases HA.out with h0 | ⟨g1, rfl, hg1, h1⟩
      · rw [h0] at hlen; simp at hlen; omega
      · rcases HBb.out with h0 | ⟨g2, rfl, hg2, h2⟩
        · rw [h0] at hlen; simp at hlen; omega
        obtain ⟨p1, q1⟩ := EAt.cells h1 (k := k) (by omega)
        obtain ⟨p2, q2⟩ := EAt.cells h2 (k := k) (by omega)
        have hr1 := edge_range p1 q1
        have hr2 := edge_range p2 q2
        generalize edK l k = y at *
        have hi0 : (0 : Int) ≤ (k : Int) := by omega
        have hi1 : (k : Int) < (m : Int) := by omega
        have R1 := hid hr1
        have R2 := hid hr2
        clear hr1 hr2 h1 h2 p1 q1 p2 q2
        go_wp2_with fail
        refine wp_region_noPanic ?_
        refine wp_region_held_drew (S := fun w' => w'.rangeAt g1 (k * 2) [.int .i64 y.1, .int .i64 y.2] ∧ w'.rangeAt g2 (k * 2) [.int .i64 y.1, .int .i64 y.2]) (by kernel_rfl) ⟨R1.out, R2.out⟩ (fun hHeld => ?_)
        refine takeVal 0 17 (.slice (some ⟨g1, 0, none⟩) m ca) rfl (by kernel_rfl) (by kernel_rfl) (by kernel_rfl) rfl (by rfl) (fun _ _ _ h => h) hHeld (fun _ hw' => rfl) ?_
        simp only [List.setIfInBounds_toArray, List.set_cons_zero, List.set_cons_succ]
        refine takeVal 1 18 (.int .i64 (k : Int)) rfl (by kernel_rfl) (by kernel_rfl) (by kernel_rfl) rfl (by rfl) (fun _ _ _ h => h) hHeld (fun _ hw' => rfl) ?_
        simp only [List.setIfInBounds_toArray, List.set_cons_zero, List.set_cons_succ]
        refine takeVal 2 19 (.pointer (some ⟨g1, k * 2, none⟩)) rfl (by kernel_rfl) (by kernel_rfl) (by kernel_rfl) rfl (by rfl) (fun _ _ _ h => h) hHeld (fun _ hw' => by go_simp) ?_
        simp only [List.setIfInBounds_toArray, List.set_cons_zero, List.set_cons_succ]
        refine takeE 3 20 (.tmp 19) g1 (k * 2) y rfl (by kernel_rfl) (by kernel_rfl) (by kernel_rfl) rfl rfl rfl (by rfl) (fun _ _ _ h => h) hHeld (fun _ h => h.1) ?_
        simp only [List.setIfInBounds_toArray, List.set_cons_zero, List.set_cons_succ]
        refine takeVal 4 21 (.slice (some ⟨g2, 0, none⟩) m cb) rfl (by kernel_rfl) (by kernel_rfl) (by kernel_rfl) rfl (by rfl) (fun _ _ _ h => h) hHeld (fun _ hw' => rfl) ?_
        simp only [List.setIfInBounds_toArray, List.set_cons_zero, List.set_cons_succ]
        refine takeVal 5 22 (.int .i64 (k : Int)) rfl (by kernel_rfl) (by kernel_rfl) (by kernel_rfl) rfl (by rfl) (fun _ _ _ h => h) hHeld (fun _ hw' => rfl) ?_
        simp only [List.setIfInBounds_toArray, List.set_cons_zero, List.set_cons_succ]
        refine takeVal 6 23 (.pointer (some ⟨g2, k * 2, none⟩)) rfl (by kernel_rfl) (by kernel_rfl) (by kernel_rfl) rfl (by rfl) (fun _ _ _ h => h) hHeld (fun _ hw' => by go_simp) ?_
        simp only [List.setIfInBounds_toArray, List.set_cons_zero, List.set_cons_succ]
        refine takeE 7 24 (.tmp 23) g2 (k * 2) y rfl (by kernel_rfl) (by kernel_rfl) (by kernel_rfl) rfl rfl rfl (by rfl) (fun _ _ _ h => h) hHeld (fun _ h => h.2) ?_
        simp only [List.setIfInBounds_toArray, List.set_cons_zero, List.set_cons_succ]
        refine takeVal 8 25 (.bool false) rfl (by kernel_rfl) (by kernel_rfl) (by kernel_rfl) rfl (by rfl) (fun _ _ _ h => h) hHeld (fun _ hw' => by go_simp) ?_
        simp only [List.setIfInBounds_toArray, List.set_cons_zero, List.set_cons_succ]
        refine wpAnyH_done (by kernel_rfl) ?_ _
        refine NoPanic.normal ?_
        go_wp2_with fail
        exact ⟨⟨k + 1, n + 1, by omega, by go_num, rfl⟩, by simp [intOf]; omega⟩
    · go_wp2_with fail
      go_ret
      exact ⟨rfl, n, rfl⟩

theorem len0 (a : Option Addr) (c : Nat) (w : World) : (Builtin.len_ #[29] 3 #[.slice a 0 c]).run Try.prog w = .ok (.int .i64 0) w := by
  simp [Builtin.len_, run_underlying Try.underlying29, goInt]
theorem lenE0 (a : Option Addr) (c : Nat) (w : World) : (Builtin.len_ #[30] 3 #[.slice a 0 c]).run Try.prog w = .ok (.int .i64 0) w := by
  simp [Builtin.len_, run_underlying Try.underlying30, goInt]
theorem chg_drewN (w : World) (n : Nat) : Chg w (w.drewN n) No := ⟨rfl, rfl, rfl, Nat.le_refl _, fun _ _ _ => rfl⟩

end Go.Proofs.Ytfkommjpofpmbaa
