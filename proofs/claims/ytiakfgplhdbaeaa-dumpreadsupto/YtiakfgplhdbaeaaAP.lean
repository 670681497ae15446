/-
  Appends of bytes, in plain statements.
-/
import Derived.Test.YtiakfgplhdbaeaaLF
namespace Go.Proofs.Ytiakfgplhdbaeaa
open Go.RowKit

theorem run_appB {w : World} (ty : TypeId) (B : Nat) (v : Value) (l m : List Int) (ad : Option Addr) (ca : Nat) (hown : BOw w B v l) (hat : BytesAt w ad m) (hl : l.length + m.length ≤ 1000000000000) (hB : B ≤ w.heap.size) :
    ∃ v' w', (Builtin.append_ #[29, 29] ty #[v, .slice ad m.length ca]).run Try.prog w = .ok v' w' ∧ BOw w' B v' (l ++ m) ∧ Chg w w' (fun k => v.ownBlock = some k) := by
  obtain ⟨inf, hi, hz, hsz, hby⟩ := info8
  cases ad with
  | none =>
    have hm : m = [] := by
      rcases hat with e | ⟨_, _, e, _⟩
      · exact e
      · cases e
    subst hm
    refine ⟨v, w, ?_, by simpa using hown, Chg.refl _ _⟩
    rcases hown.2 with ⟨rfl, h0⟩ | ⟨g, cap, cur, rfl, _, _, hle, _⟩
    · simp [Builtin.append_, run_underlying Try.underlying29, sizeOf, typeInfo, hi, Builtin.lenOf, Builtin.firstCells]
    · simp [Builtin.append_, run_underlying Try.underlying29, sizeOf, typeInfo, hi, Builtin.lenOf, Builtin.firstCells, loadCells, storeCells, hle]
  | some ad =>
    obtain ⟨v', w', hr, k2, k3, _, _⟩ := run_append_own_at (P := Try.prog) w B 29 ty 5 inf _ 1 1 Try.underlying29 hi hz hsz hby rfl (by decide) v l.length (l.map (Value.int .u8)) hown ad m.length ca (m.map (Value.int .u8)) (by simp) (fun j u hj => by
      rcases hat with rfl | ⟨b, o, e, hb, hc⟩
      · simp at hj
      · cases e
        have hlt : j < m.length := by
          rcases Nat.lt_or_ge j m.length with k | k
          · exact k
          · rw [List.getElem?_eq_none (by simpa using k)] at hj; cases hj
        rw [addr_add, hc j hlt]
        simp [hlt] at hj
        simp [hlt, hj]) (by
      intro u hu
      obtain ⟨y, _, rfl⟩ := List.mem_map.1 hu
      rfl) (by unfold maxLen; omega) (by omega) hB
    refine ⟨v', w', hr, ?_, (Chg.grown k3).mono fun j _ e => e.symm⟩
    unfold BOw
    rw [List.length_append, List.map_append]
    exact k2
section
variable {ops : Array Oper} {rest : List Oper} {o : Oper} {a : Act} {Q : Exit → Act → World → Prop} {w : World}
theorem wp_appB (hg : o.guard = none) (s x : Operand) (ho : o.op = .call { callee := .builtin .append, args := #[s, x], argTypes := #[29, 29] }) (B : Nat) (v : Value) (l m : List Int) (ad : Option Addr) (ca : Nat) (hs : a.eval s = v) (hx : a.eval x = .slice ad m.length ca)
    (hown : BOw w B v l) (hat : BytesAt w ad m) (hl : l.length + m.length ≤ 1000000000000) (hB : B ≤ w.heap.size)
    (hK : ∀ v' w', BOw w' B v' (l ++ m) → Chg w w' (fun k => v.ownBlock = some k) → wpList Try.prog ops Q rest (a.put o.dst v') w') : wpList Try.prog ops Q (o :: rest) a w := by
  refine wpList_plain hg fun K hK' => ?_
  obtain ⟨v', w', hr, k2, k3⟩ := run_appB o.type B v l m ad ca hown hat hl hB
  unfold Oper.wp execOp
  simp only [ho, resolve, invoke, builtin, Sem.run_bind, Sem.run_pure, Result.andThen_ok, List.map_toArray, List.map_cons, List.map_nil, hs, hx, hr]
  exact hK' _ _ (hK v' w' k2 k3)
theorem wp_appS (hg : o.guard = none) (s x : Operand) (ho : o.op = .call { callee := .builtin .append, args := #[s, x], argTypes := #[29, 9] }) (B : Nat) (v : Value) (l : List Int) (t : ByteArray) (hs : a.eval s = v) (hx : a.eval x = .string t)
    (hown : BOw w B v l) (hl : l.length + t.size ≤ 1000000000000) (hB : B ≤ w.heap.size)
    (hK : ∀ v' w', BOw w' B v' (l ++ bytesI t) → Chg w w' (fun k => v.ownBlock = some k) → wpList Try.prog ops Q rest (a.put o.dst v') w') : wpList Try.prog ops Q (o :: rest) a w := by
  refine wpList_plain hg fun K hK' => ?_
  obtain ⟨inf, hi, hz, hsz, hby⟩ := info8
  obtain ⟨v', w', hr, k2, k3, _⟩ := Lib.run_append_own_string (P := Try.prog) w B 29 9 o.type 5 inf Try.underlying29 Try.underlying9 hi hz hsz hby v l.length (l.map (Value.int .u8)) hown t (by unfold maxLen; omega) (by omega) hB
  unfold Oper.wp execOp
  simp only [ho, resolve, invoke, builtin, Sem.run_bind, Sem.run_pure, Result.andThen_ok, List.map_toArray, List.map_cons, List.map_nil, hs, hx, hr]
  refine hK' _ _ (hK v' w' ?_ ((Chg.grown k3).mono fun j _ e => e.symm))
  unfold BOw
  rw [List.length_append, List.map_append, bytesI_len, ← strCells_bytes]
  exact k2
end
end Go.Proofs.Ytiakfgplhdbaeaa
