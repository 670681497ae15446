/-
  Lists of nodes, one behind the other; what two lists' bytes are.
-/
import Derived.Test.YtiakfgplhdbaeaaRP
import Derived.Test.YtiakfgplhdbaeaaWWrites
namespace Go.Proofs.Ytiakfgplhdbaeaa
open Go.RowKit

theorem getD_app (M K : List Nod) (i : Nat) : (i < M.length ∧ (M ++ K).getD i Nod.z = M.getD i Nod.z) ∨ (M.length ≤ i ∧ (M ++ K).getD i Nod.z = K.getD (i - M.length) Nod.z) := by
  by_cases e : i < M.length
  · exact .inl ⟨e, getD_left e⟩
  · refine .inr ⟨by omega, ?_⟩
    rw [List.getD_eq_getElem?_getD, List.getElem?_append_right (by omega), List.getD_eq_getElem?_getD]
theorem row_flat : ∀ (K : List Nod) (q : Nat) (x : Value), (K.flatMap rowN)[q]? = some x → q / 5 < K.length ∧ (rowN (K.getD (q / 5) Nod.z))[q % 5]? = some x
  | [], q, x, h => by simp at h
  | n :: K, q, x, h => by
    by_cases e : q < 5
    · rw [List.flatMap_cons, List.getElem?_append_left (by rw [rowN_len]; exact e)] at h
      rw [Nat.div_eq_of_lt e, Nat.mod_eq_of_lt e]
      exact ⟨by simp, h⟩
    · rw [List.flatMap_cons, List.getElem?_append_right (by rw [rowN_len]; omega), rowN_len] at h
      have := row_flat K (q - 5) x h
      have e1 : q / 5 = (q - 5) / 5 + 1 := by omega
      have e2 : q % 5 = (q - 5) % 5 := by omega
      rw [e1, e2]
      exact ⟨by simp; omega, this.2⟩
theorem flat_len5 : ∀ K : List Nod, (K.flatMap rowN).length = K.length * 5
  | [] => rfl
  | n :: K => by
    rw [List.flatMap_cons, List.length_append, rowN_len, flat_len5 K, List.length_cons]
    omega
section
variable {ops : Array Oper} {rest : List Oper} {o : Oper} {a : Act} {Q : Exit → Act → World → Prop} {w : World}
/-- append of nodes that lie in a row. -/
theorem wp_appNs (hg : o.guard = none) (s x : Operand) (hop : o.op = .call { callee := .builtin .append, args := #[s, x], argTypes := #[22, 22] }) (B gN c : Nat) (v : Value) (M K : List Nod) (hs : a.eval s = v) (hx : a.eval x = .slice (some ⟨gN, 0, none⟩) K.length c)
    (hown : NOw w B v M) (hat : NAt w (some ⟨gN, 0, none⟩) K) (hl : M.length + K.length ≤ 1000000) (hB : B ≤ w.heap.size) (hlo : ∀ i, i < K.length → ∀ g o, (K.getD i Nod.z).da = some ⟨g, o, none⟩ → (K.getD i Nod.z).data ≠ [] → ∃ A t, w.heap[g]? = some (.cells A t (0, 0)) ∧ t = 5)
    (hK : ∀ v' w', NOw w' B v' (M ++ K) → Chg w w' (fun k => v.ownBlock = some k) → wpList Try.prog ops Q rest (a.put o.dst v') w') : wpList Try.prog ops Q (o :: rest) a w := by
  obtain ⟨i, hi, hz, hsz, hby⟩ := infoNd
  have hfl := flat_len5 K
  refine wpList_append_own_at w hg s x 22 hop B 47 i _ 5 72 Try.underlying22 hi hz hsz hby rfl (by decide) v M.length (M.flatMap rowN) hs hown.row ⟨gN, 0, none⟩ K.length c (K.flatMap rowN) hx hfl (fun j u hj => ?_) (fun u hu => ?_) (by unfold maxLen; omega) (by omega) hB ?_
  · obtain ⟨h1, h2⟩ := row_flat K j u hj
    rcases hat.at_ with e | ⟨b, o, e, _, hc⟩
    · rw [e] at h1; exact absurd h1 (Nat.not_lt_zero _)
    · cases e
      have := hc (j / 5) h1 (j % 5) u h2
      rw [addr_add, Nat.zero_add]
      rw [Nat.zero_add, show j / 5 * 5 + j % 5 = j by omega] at this
      exact this
  · obtain ⟨n, _, hn⟩ := List.mem_flatMap.1 hu
    exact (Array.all_eq_true_iff_forall_mem.1 (nodA_one n)) u (by simpa [rowN] using hn)
  · intro v' w' h1 h2 _ _
    have hc : Chg w w' (fun k => v.ownBlock = some k) := (Chg.grown h2).mono fun j _ e => e.symm
    have h8 : ∀ k A, w.heap[k]? = some (.cells A 5 (0, 0)) → ¬ v.ownBlock = some k := fun k A hA e => by
      obtain ⟨_, C, hC⟩ := hown.blk e
      rw [hA] at hC
      cases hC
    refine hK v' w' ⟨?_, fun j hj => ?_, fun j hj g o e hne => ?_⟩ hc
    · rw [List.length_append, List.flatMap_append]
      exact h1
    · rw [List.length_append] at hj
      rcases getD_app M K j with ⟨e1, e2⟩ | ⟨e1, e2⟩
      · rw [e2]
        by_cases hne : (M.getD j Nod.z).data = []
        · exact .inl hne
        · exact (hown.data j e1).keep hc (fun g o e => by obtain ⟨A, t, hA, rfl⟩ := hown.low j e1 g o e hne; exact h8 g A hA)
      · rw [e2]
        by_cases hne : (K.getD (j - M.length) Nod.z).data = []
        · exact .inl hne
        · exact (hat.data _ (by omega)).keep hc (fun g o e => by obtain ⟨A, t, hA, rfl⟩ := hlo _ (by omega) g o e hne; exact h8 g A hA)
    · rw [List.length_append] at hj
      rcases getD_app M K j with ⟨e1, e2⟩ | ⟨e1, e2⟩
      · rw [e2] at e hne
        obtain ⟨A, t, hA, rfl⟩ := hown.low j e1 g o e hne
        exact ⟨A, _, hc.keep hA (h8 g A hA), rfl⟩
      · rw [e2] at e hne
        obtain ⟨A, t, hA, rfl⟩ := hlo _ (by omega) g o e hne
        exact ⟨A, _, hc.keep hA (h8 g A hA), rfl⟩
end
theorem LR.low {w0 w : World} {gN : Nat} {L : List Nod} {hs : List Nat} (h : LR w0 w gN L hs) : ∀ i, i < (List.zipWith lentN L hs).length → ∀ g o, ((List.zipWith lentN L hs).getD i Nod.z).da = some ⟨g, o, none⟩ → ((List.zipWith lentN L hs).getD i Nod.z).data ≠ [] → ∃ A t, w.heap[g]? = some (.cells A t (0, 0)) ∧ t = 5 := fun i hi g o e _ => by
  rw [lentL_len h.bb.len] at hi
  rw [lentL_get h.bb.len hi] at e
  have e : some (⟨hs.getD i 0, 0, none⟩ : Addr) = some ⟨g, o, none⟩ := e
  cases e
  exact ⟨_, _, h.bb.at_ i hi, rfl⟩
theorem flat_app (L K : List Nod) : flatB (L ++ K) = flatB L ++ flatB K := by simp [flatB]
theorem BOw.cap {w : World} {B n c : Nat} {a : Option Addr} {l : List Int} (h : BOw w B (.slice a n c) l) : l.length ≤ c := by
  rcases h.2 with ⟨e, hz⟩ | ⟨g, cap, cur, e, _, _, h1, _⟩
  · cases e; omega
  · cases e; exact h1
end Go.Proofs.Ytiakfgplhdbaeaa
