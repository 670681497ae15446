/-
  A set of parts in memory.
-/
import Derived.Test.YtjlhmojofjkkdabC5
import Derived.Maps.RangeWalk
import Derived.DeepKeys3
import Derived.DeepKeys5
namespace Go.Proofs.Ytjlhmojofjkkdab
open Go.RowKit Go.Shelf

def ptV (p : Int × Int) : Value := .agg #[.int .i64 p.1, .int .i64 p.2]
def ptL (p : Int × Int) : Lit := .string (keyBytes [.int .i64 p.1, .int .i64 p.2])
def Sm (p : Int × Int) : Prop := 0 ≤ p.1 ∧ p.1 ≤ 5000 ∧ 0 ≤ p.2 ∧ p.2 ≤ 5000
theorem keyP : Maps.Keyed Try.prog 74 :=
  Maps.Keyed.of_law (deep_law (m := 3) (by decide) (by kernel_rfl) (by kernel_rfl) (by kernel_rfl))
theorem keyT_part : Try.prog.keyType 74 = true := by kernel_rfl
theorem types_pos : ∃ d, Try.prog.types.size = d + 1 := by
  have h : Nat.ble 1 Try.prog.types.size = true := by kernel_rfl
  have := Nat.le_of_ble_eq_true h
  exact ⟨Try.prog.types.size - 1, by omega⟩
theorem keyOfP {p : Int × Int} (h : Sm p) : keyOf Try.prog 74 (ptV p) = some (ptL p) := by
  obtain ⟨h1, h2, h3, h4⟩ := h
  have hw1 : (Lit.int .i64 p.1).wf = true := WalkArith.wf_i64 (by omega)
  have hw2 : (Lit.int .i64 p.2).wf = true := WalkArith.wf_i64 (by omega)
  have hk : Try.prog.keyLits (Try.prog.types.size + 1) 74 [.int .i64 p.1, .int .i64 p.2] = some [.int .i64 p.1, .int .i64 p.2] := by
    obtain ⟨d, e⟩ := types_pos
    have c1 : Try.prog.cellsOf 74 = 2 := by kernel_rfl
    have c2 : Try.prog.cellsOf 3 = 1 := by kernel_rfl
    rw [e]
    simp [Program.keyLits, Try.underlying74, Try.underlying3, c1, c2, hw1, hw2]
  have hf : (ptV p).formed Try.prog 74 = true := by unfold ptV; kernel_rfl
  unfold keyOf
  simp only [Try.underlying74, keyT_part, hf, Bool.and_self, if_true]
  show Option.map _ (Try.prog.keyLits (Try.prog.types.size + 1) 74 [.int .i64 p.1, .int .i64 p.2]) = _
  rw [hk]
  rfl
theorem ptL_inj {p q : Int × Int} (hp : Sm p) (hq : Sm q) (h : ptL p = ptL q) : p = q := by
  have := keyP.inj (keyOfP hp) (h ▸ keyOfP hq)
  unfold ptV at this
  obtain ⟨a, b⟩ := p
  obtain ⟨c, d⟩ := q
  simpa using this
theorem ptL_key (p : Int × Int) : WideAt.IsKeyLit (ptL p) := trivial

def insP (M : List (Int × Int)) (p : Int × Int) : List (Int × Int) := if p ∈ M then M else M ++ [p]
/-- A block is a set of just these parts. -/
structure PSet (w : World) (b : Nat) (M : List (Int × Int)) : Prop where
  ex : ∃ D : DataW Unit, w.ownsMap Try.prog 74 unitElem b (Maps.size D) D ∧ Maps.size D = M.length ∧ ∀ p, Sm p → (Maps.has D (ptL p) = true ↔ p ∈ M)
  small : ∀ p ∈ M, Sm p
  nodup : M.Nodup
theorem tightP {R : Value → Option (DataW Unit × List MemPlace)} {w : World} {b n : Nat} {D : DataW Unit} (h : w.ownsMap Try.prog 74 R b n D) : w.ownsMap Try.prog 74 R b (Maps.size D) D := by
  obtain ⟨es, clock, hb, F, hs, hD⟩ := h
  refine ⟨es, clock, hb, F, ?_, hD⟩
  rw [hD]
  simp [Maps.size, length_sorted]
theorem PSet.made (w : World) : PSet (w.alloc (.map #[] 0)) w.heap.size [] :=
  ⟨⟨.map [], World.ownsMap_made w Try.prog 74 unitElem, rfl, fun p _ => by simp [Maps.has]⟩, fun p h => (by cases h), List.nodup_nil⟩
theorem PSet.lt {w : World} {b : Nat} {M : List (Int × Int)} (h : PSet w b M) : b < w.heap.size := let ⟨_, h, _⟩ := h.ex; h.lt
theorem PSet.keep {w w' : World} {b : Nat} {M : List (Int × Int)} (h : PSet w b M) (hb : w'.heap[b]? = w.heap[b]?) : PSet w' b M := by
  obtain ⟨⟨D, ⟨es, clock, h1, h2⟩, h3⟩, h4, h5⟩ := h
  exact ⟨⟨D, ⟨es, clock, hb.trans h1, h2⟩, h3⟩, h4, h5⟩
/-- Blocks ahead of n, and all but b's, stay. -/
structure MapT (b : Nat) (w w' : World) : Prop where
  grown : w.grownBy w' (some b)
  size : w'.heap.size = w.heap.size
theorem MapT.block {b : Nat} {w w' : World} (h : MapT b w w') (k : Nat) (hk : k < w.heap.size) (hne : k ≠ b) : w'.heap[k]? = w.heap[k]? := h.grown.block k hk (by simpa using hne)
theorem MapT.below {b n : Nat} {w0 w w' : World} (h : MapT b w w') (hb : Below n w0 w) (hn : n ≤ b) (hn2 : n ≤ w.heap.size) : Below n w0 w' :=
  hb.grown h.grown hn2 (fun k e => by cases e; exact hn)
theorem PSet.store {w : World} {b : Nat} {M : List (Int × Int)} (h : PSet w b M) {p : Int × Int} (hp : Sm p) (hM : M.length ≤ 1000000000) :
    ∃ w', (Instr.mapUpdate 65 (.map (some b)) (ptV p) (.agg #[])).run Try.prog w = .ok () w' ∧ PSet w' b (insP M p) ∧ MapT b w w' := by
  obtain ⟨⟨D, h, hs, hh⟩, hsm, hnd⟩ := h
  obtain ⟨w', hrun, ho, ht⟩ := h.store keyP Try.underlying65 (by unfold maxLen; omega) (keyOfP hp) (unitElem_mk (H := Unit))
  refine ⟨w', hrun, ⟨⟨_, tightP ho, ?_, fun q hq => ?_⟩, fun q hq => ?_, ?_⟩, ht.grown, ?_⟩
  · rw [Maps.size_put (h.tidy keyP)]
    unfold insP
    by_cases e : p ∈ M
    · rw [if_pos ((hh p hp).2 e), if_pos e, hs]
    · rw [if_neg (fun e' => e ((hh p hp).1 e')), if_neg e, List.length_append, hs]; rfl
  · by_cases e : q = p
    · subst e
      rw [Maps.has_put_same h.isMap (ptL_key q)]
      unfold insP
      by_cases e : q ∈ M <;> simp [e]
    · rw [Maps.has_put_other (fun e' => e (ptL_inj hq hp e')), hh q hq]
      unfold insP
      by_cases e2 : p ∈ M <;> simp [e2, e]
  · unfold insP at hq
    by_cases e2 : p ∈ M
    · rw [if_pos e2] at hq; exact hsm q hq
    · rw [if_neg e2] at hq
      rcases List.mem_append.1 hq with h1 | h1
      · exact hsm q h1
      · simp at h1; rw [h1]; exact hp
  · unfold insP
    by_cases e2 : p ∈ M
    · rw [if_pos e2]; exact hnd
    · rw [if_neg e2]
      exact List.nodup_append.2 ⟨hnd, by simp, fun a ha b hb e => by simp at hb; subst hb; subst e; exact e2 ha⟩
  · obtain ⟨es, clock, es', clock', hb, rfl⟩ := ht
    simp [ChangeMaps.setBlock]
theorem PSet.len {w : World} {b : Nat} {M : List (Int × Int)} (h : PSet w b M) (ty : TypeId) : (Builtin.len_ #[65] ty #[.map (some b)]).run Try.prog w = .ok (.int .i64 (M.length : Int)) w := by
  obtain ⟨⟨D, h, hs, _⟩, _, _⟩ := h
  rw [← hs]
  exact h.len Try.underlying65 ty
section
variable {ops : Array Oper} {rest : List Oper} {o : Oper} {a : Act} {Q : Exit → Act → World → Prop} {w : World}
theorem wp_storeP (hg : o.guard = none) (m x v : Operand) (hop : o.op = Op.mapUpdate 65 m x v) (b : Nat) (M : List (Int × Int)) (p : Int × Int) (hm : a.eval m = .map (some b)) (hx : a.eval x = ptV p) (hv : a.eval v = .agg #[])
    (h : PSet w b M) (hp : Sm p) (hM : M.length ≤ 1000000000)
    (hK : ∀ w', PSet w' b (insP M p) → MapT b w w' → wpList Try.prog ops Q rest (a.put o.dst undef) w') : wpList Try.prog ops Q (o :: rest) a w := by
  refine wpList_plain hg fun K' hK' => ?_
  obtain ⟨w', hrun, r1, r2⟩ := h.store hp hM
  unfold Oper.wp
  simp [execOp, hop, hm, hx, hv, hrun, Result.andThen]
  exact hK' _ _ (hK w' r1 r2)
end

end Go.Proofs.Ytjlhmojofjkkdab
