/-
  Bytes to a string, whatever the list; one operation of a statement whose order is open, at the world at hand; the bytes that Cut leaves.
-/
import Derived.Test.YtibneoajkbblaaaWKnown
import Derived.Test.YtibneoajkbblaaaAppendS
namespace Go.Proofs.Ytibneoajkbblaaa
open Go.RowKit

theorem conv_any (w : World) (ad : Option Addr) (zs : List Int) (cap : Nat) (h : BytesAt w ad zs) :
    (convert 27 9 (.slice ad zs.length cap)).run Try.prog w = .ok (.string (strOf zs)) w := by
  rcases h with rfl | ⟨b, o, rfl, _, hc⟩
  · rw [run_convert_bytes_string w 27 9 5 _ _ _ Try.underlying27 Try.underlying5 Try.underlying9]
    cases ad with
    | none => simp [Conv.bytesToString, strOf]; rfl
    | some x =>
      have hl : (loadCells x 0).run Try.prog w = .ok (([] : List Int).map (Value.int .u8)).toArray w := by
        simpa using run_loadCells_list (P := Try.prog) w x [] (by simp)
      rw [List.length_nil, run_bytesToString w x 0 cap [] hl]
      rfl
  · exact conv_bytes w b o zs cap hc

section
variable {ops : Array Oper} {Q : Exit → Act → World → Prop} {S : World → Prop} {fuel : Nat} {listed : Array Bool} {a : Act} {w : World}
theorem stVal (i d : Nat) (v : Value) {o : Oper} (hop : ops[i]? = some o) (hd : o.dst = some d) (hw : Region.wanted o (yielded ops a.tmps) = true)
    (hrun : (execOp a.eval o).run Try.prog w = .ok (.value v) w) (hS : S w)
    (h : wpAnyH Try.prog .any ops Q S fuel (listed.setIfInBounds i true) { a with tmps := a.tmps.setIfInBounds d v } w) : St ops Q S fuel listed a w i := by
  refine wpOp_step hop (fun K hK => ?_)
  rw [if_pos hw]
  unfold Oper.wp
  rw [hrun]
  refine hK _ _ ⟨hS, ?_⟩
  unfold Act.put
  rw [hd]
  exact h
end

/-- The bytes that Cut leaves: those that were handed in, filled up with zeros. -/
def cutF (zs : List Int) : List Int := cutK zs (128 * cutM zs.length) (128 * cutM zs.length)
theorem cutM_le (n : Nat) : n ≤ 128 * cutM n := by unfold cutM; omega
theorem cutM_lt (n : Nat) : 128 * cutM n < n + 128 := by unfold cutM; omega
theorem cutF_eq (zs : List Int) : cutF zs = zs ++ zl (128 * cutM zs.length - zs.length) := by
  have := cutM_le zs.length
  unfold cutF cutK
  rw [List.take_of_length_le (by omega), Nat.min_eq_right (by omega)]
theorem cutF_len (zs : List Int) : (cutF zs).length = 128 * cutM zs.length := by
  have := cutM_le zs.length
  rw [cutF_eq, List.length_append, zl_len]
  omega
theorem cutF_take (zs : List Int) : (cutF zs).take zs.length = zs := by rw [cutF_eq, List.take_left]
theorem cutF_zero (zs : List Int) (i : Nat) (h : zs.length ≤ i) : (cutF zs).getD i 0 = 0 := by
  rw [cutF_eq, List.getD_eq_getElem?_getD, List.getElem?_append_right h, ← List.getD_eq_getElem?_getD]
  exact zl_get _ _
/-- Cut in two behind whole sectors. -/
theorem cutF_two (zs : List Int) (K : Nat) (T : Nat) (hT : T = min (128 * K) zs.length) : cutF (zs.take T) ++ cutF (zs.drop T) = cutF zs ∧ cutM (zs.take T).length + cutM (zs.drop T).length = cutM zs.length := by
  have l1 : (zs.take T).length = T := by rw [List.length_take]; omega
  have l2 : (zs.drop T).length = zs.length - T := List.length_drop
  have hM : cutM (zs.take T).length + cutM (zs.drop T).length = cutM zs.length := by
    rw [l1, l2]
    unfold cutM
    omega
  refine ⟨?_, hM⟩
  rw [cutF_eq, cutF_eq, cutF_eq, l1, l2]
  by_cases c : 128 * K ≤ zs.length
  · have e : T = 128 * K := by omega
    have z : 128 * cutM T - T = 0 := by rw [e]; unfold cutM; omega
    rw [z]
    simp only [zl, List.replicate_zero, List.append_nil]
    rw [← List.append_assoc, List.take_append_drop]
    congr 2
    rw [e]
    unfold cutM
    omega
  · have e : T = zs.length := by omega
    rw [e, List.take_of_length_le (Nat.le_refl _), List.drop_of_length_le (Nat.le_refl _), Nat.sub_self]
    simp [cutM, zl]

end Go.Proofs.Ytibneoajkbblaaa
