/-
  package dump: rows of nodes in memory.
-/
import Derived.Test.YtiakfgplhdbaeaaNN
namespace Go.Proofs.Ytiakfgplhdbaeaa
open Go.RowKit

def Nod.z : Nod := ⟨⟨#[]⟩, 0, 0, ⟨#[]⟩, none, [], 0⟩
/-- A row of nodes is read at a place; their bytes lie somewhere. -/
structure NAt (w : World) (a : Option Addr) (L : List Nod) : Prop where
  at_ : L = [] ∨ ∃ b o, a = some ⟨b, o, none⟩ ∧ b < w.heap.size ∧ ∀ i, i < L.length → ∀ j v, (nodA (L.getD i Nod.z)).toList[j]? = some v → w.cell? ⟨b, o + i * 5 + j, none⟩ = some v
  data : ∀ i, i < L.length → BytesAt w (L.getD i Nod.z).da (L.getD i Nod.z).data
section
variable {w w' : World} {a : Option Addr} {L : List Nod} {ks : Nat → Prop}
theorem NAt.call (h : NAt w a L) (hc : Chg w w' No) : NAt w' a L := by
  refine ⟨?_, fun i hi => (h.data i hi).call hc⟩
  rcases h.at_ with e | ⟨b, o, e, hb, h1⟩
  · exact .inl e
  · exact .inr ⟨b, o, e, Nat.lt_of_lt_of_le hb hc.size, fun i hi j v hv => by
      have := h1 i hi j v hv
      unfold World.cell? at this ⊢
      rw [hc.block b hb (fun e => e)]
      exact this⟩
/-- All nodes' blocks, and where the row lies. -/
def NBlk (a : Option Addr) (L : List Nod) (k : Nat) : Prop := (∃ o, a = some ⟨k, o, none⟩) ∨ ∃ i, i < L.length ∧ ∃ o, (L.getD i Nod.z).da = some ⟨k, o, none⟩
theorem NAt.keep (h : NAt w a L) (hc : Chg w w' ks) (hn : ∀ k, NBlk a L k → ¬ ks k) : NAt w' a L := by
  refine ⟨?_, fun i hi => (h.data i hi).keep hc (fun b o e => hn b (.inr ⟨i, hi, o, e⟩))⟩
  rcases h.at_ with e | ⟨b, o, e, hb, h1⟩
  · exact .inl e
  · exact .inr ⟨b, o, e, Nat.lt_of_lt_of_le hb hc.size, fun i hi j v hv => by
      have := h1 i hi j v hv
      unfold World.cell? at this ⊢
      rw [hc.block b hb (hn b (.inl ⟨o, e⟩))]
      exact this⟩
theorem NAt.load (h : NAt w a L) {i : Nat} (hi : i < L.length) : ∃ b o, a = some ⟨b, o, none⟩ ∧ b < w.heap.size ∧ (loadVar 47 ⟨b, o + i * 5, none⟩).run Try.prog w = .ok (.agg (nodA (L.getD i Nod.z))) w := by
  rcases h.at_ with e | ⟨b, o, e, hb, h1⟩
  · rw [e] at hi; exact absurd hi (Nat.not_lt_zero _)
  · refine ⟨b, o, e, hb, ?_⟩
    have h := run_loadVar_mid (P := Try.prog) w b (o + i * 5) 47 (nodA (L.getD i Nod.z)).toList _ (fun j v hv => h1 i hi j v hv) Try.underlying47 rfl (by rw [Array.length_toList]; exact szNd)
    simpa using h
end
section
variable {ops : Array Oper} {rest : List Oper} {o : Oper} {a : Act} {w : World} {Q : Exit → Act → World → Prop}
theorem load_of (hgd : o.guard = none) (t : TypeId) (x : Operand) (ho : o.op = .load t x) (ad : Addr) (hx : a.eval x = .pointer (some ad)) (v : Value) (hr : (loadVar t ad).run Try.prog w = .ok v w)
    (h : wpList Try.prog ops Q rest (a.put o.dst v) w) : wpList Try.prog ops Q (o :: rest) a w :=
  wpList_plain hgd fun _ hK => by
    unfold Oper.wp execOp
    simp only [ho, hx, Instr.loadAt, Instr.sureAddr, Sem.run_bind, Sem.run_pure, Result.andThen_ok, hr]
    exact hK _ _ h
end
theorem nodA_sz (n : Nod) : (Try.prog.info? 47).map (·.size) = some (nodA n).size := szNd
end Go.Proofs.Ytiakfgplhdbaeaa
