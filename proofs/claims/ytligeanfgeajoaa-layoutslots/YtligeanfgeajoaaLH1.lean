/-
  A range over a string of any bytes: what comes next is a byte below 128, or a rune of bytes that all are 128 or more.
-/
import Derived.Test.YtligeanfgeajoaaLN1
import Derived.Laws.Runes
namespace Go.Proofs.Ytligeanfgeajoaa
open Go.RowKit Go.Shelf

theorem run_next_any (w : World) (s : ByteArray) (pos : Nat) (ty : TypeId) (h : pos < s.size) :
    (Instr.next (.pointer (some ⟨w.heap.size, 0, none⟩)) true ty).run Try.prog (w.iter s pos) =
      .ok (.tuple #[.bool true, .int .i64 pos, .int .i32 (Utf8.decode s pos).1]) (w.iter s (pos + (Utf8.decode s pos).2)) := by
  simp only [Instr.next, getObj, setObj, Sem.run_bind, Sem.run, World.iter_heap, Result.andThen, h, if_true, World.iter_set]
  simp [goInt]

theorem dec_hi (s : ByteArray) (i : Nat) (hi : i < s.size) (h : 128 ≤ (s.get! i).toNat) :
    ∃ c n, Utf8.decode s i = (c, n) ∧ 128 ≤ c ∧ c ≤ 1114111 ∧ 1 ≤ n ∧ ∀ k, k < n → i + k < s.size ∧ 128 ≤ (s.get! (i + k)).toNat := by
  have one : ∀ k, k < 1 → i + k < s.size ∧ 128 ≤ (s.get! (i + k)).toNat := fun k hk => by
    have e : k = 0 := by omega
    subst e; exact ⟨hi, h⟩
  have h0 : ¬ (s.get! (i + 0)).toNat < 128 := by rw [Nat.add_zero]; omega
  unfold Utf8.decode
  simp only [h0, if_false]
  split
  · rename_i c2
    simp only [Bool.and_eq_true, beq_iff_eq, decide_eq_true_eq] at c2
    split
    · rename_i g
      refine ⟨_, _, rfl, g, by omega, by omega, fun k hk => ?_⟩
      match k, hk with
      | 0, _ => exact one 0 (by omega)
      | 1, _ => exact ⟨c2.2.1, by omega⟩
    · exact ⟨_, _, rfl, by decide, by decide, by omega, one⟩
  · split
    · rename_i c3
      simp only [Bool.and_eq_true, beq_iff_eq, decide_eq_true_eq] at c3
      split
      · rename_i g
        simp only [Bool.and_eq_true, decide_eq_true_eq] at g
        refine ⟨_, _, rfl, by omega, by omega, by omega, fun k hk => ?_⟩
        match k, hk with
        | 0, _ => exact one 0 (by omega)
        | 1, _ => exact ⟨c3.1.2.1, by omega⟩
        | 2, _ => exact ⟨c3.2.1, by omega⟩
      · exact ⟨_, _, rfl, by decide, by decide, by omega, one⟩
    · split
      · rename_i c4
        simp only [Bool.and_eq_true, beq_iff_eq, decide_eq_true_eq] at c4
        split
        · rename_i g
          simp only [Bool.and_eq_true, decide_eq_true_eq] at g
          have hv := g.2
          simp only [Utf8.valid, Bool.or_eq_true, Bool.and_eq_true, decide_eq_true_eq] at hv
          refine ⟨_, _, rfl, by omega, by omega, by omega, fun k hk => ?_⟩
          match k, hk with
          | 0, _ => exact one 0 (by omega)
          | 1, _ => exact ⟨c4.1.1.2.1, by omega⟩
          | 2, _ => exact ⟨c4.1.2.1, by omega⟩
          | 3, _ => exact ⟨c4.2.1, by omega⟩
        · exact ⟨_, _, rfl, by decide, by decide, by omega, one⟩
      · exact ⟨_, _, rfl, by decide, by decide, by omega, one⟩

end Go.Proofs.Ytligeanfgeajoaa
