/-
  The document's Spots.
-/
import Derived.Test.YtjlhmojofjkkdabE3
-- may lack
namespace Go.Proofs.Ytjlhmojofjkkdab
open Go.RowKit Go.Shelf

def rowQ (s : Src) (T : List Int) (i : Nat) : Row := ⟨44 + 32 * (i : Int), (rtabS s (T.getD i 0)).1, (rtabS s (T.getD i 0)).2⟩
def rowsQ (s : Src) (z : List Int) : List Row :=
  [⟨0, (z.drop 4).take 12, 0⟩] ++ ([⟨12, (rtabS s (z.getD 16 0)).1, (rtabS s (z.getD 16 0)).2⟩] ++ (if (rtabS s (z.getD 17 0)).2 = 0 then (List.range 32).map (rowQ s (rtabS s (z.getD 17 0)).1) else [⟨0, [], (rtabS s (z.getD 17 0)).2⟩]))
theorem there_zero (n : Nat) : thereL (List.replicate n 0) = [] := by
  unfold thereL plc
  rw [List.filter_eq_nil_iff.2 (fun j _ => ?_)]
  · rfl
  · unfold nz
    rw [List.getD_eq_getElem?_getD, List.getElem?_replicate]
    split <;> simp
theorem spotRow_zero (fr e : Int) : spotRow ⟨fr, Zp, e⟩ = [] := by unfold spotRow; rw [show (Row.mk fr Zp e).ps = List.replicate 32 0 from rfl, there_zero]; rfl
theorem rowsAns_app (a b : List Row) : rowsAns (a ++ b) = (if (rowsAns a).2 = 0 then (if (rowsAns b).2 = 0 then ((rowsAns a).1 ++ (rowsAns b).1, 0) else ([], (rowsAns b).2)) else ([], (rowsAns a).2)) := by
  induction a with
  | nil =>
    simp only [List.nil_append, rowsAns, if_true]
    split
    · rename_i h; exact Prod.ext rfl h
    · rename_i h
      have : ∀ ys : List Row, (rowsAns ys).2 ≠ 0 → (rowsAns ys).1 = [] := by
        intro ys
        cases ys with
        | nil => intro h; exact absurd rfl h
        | cons y ys =>
          simp only [rowsAns]
          split
          · split
            · intro h; exact absurd rfl h
            · intro _; rfl
          · intro _; rfl
      exact Prod.ext (this b h) rfl
  | cons x a ih =>
    by_cases hx : x.err = 0 <;> by_cases ha : (rowsAns a).2 = 0 <;> by_cases hb : (rowsAns b).2 = 0 <;> simp [rowsAns, hx, ih, ha, hb]
theorem far_same (s : Src) (T : List Int) (hT : T.length = 32) : rowsAns ((List.range 32).map (rowQ s T)) = rowsAns ((thereL T).map (fun x => rowT s (44 + (x.1 : Int) * 32) x.2)) := by
  have e1 : (thereL T).map (fun x => rowT s (44 + (x.1 : Int) * 32) x.2) = ((List.range 32).filter (nz T)).map (rowQ s T) := by
    unfold thereL plc
    rw [hT, List.map_map]
    refine List.map_congr_left fun j hj => ?_
    have hn : T.getD j 0 ≠ 0 := by have := (List.mem_filter.1 hj).2; simpa [nz] using this
    show rowT s (44 + (j : Int) * 32) (T.getD j 0) = rowQ s T j
    unfold rowT rowQ rtabS
    rw [if_neg hn, Int.mul_comm]
  have e2 : ∀ L : List Nat, rowsAns (L.map (rowQ s T)) = rowsAns ((L.filter (nz T)).map (rowQ s T)) := by
    intro L
    induction L with
    | nil => rfl
    | cons j L ih =>
      by_cases hj : nz T j = true
      · rw [List.filter_cons_of_pos hj]
        simp only [List.map_cons, rowsAns, ih]
      · rw [List.filter_cons_of_neg hj, ← ih]
        have hn : T.getD j 0 = 0 := by simpa [nz] using hj
        have hr : rowQ s T j = ⟨44 + 32 * (j : Int), Zp, 0⟩ := by unfold rowQ rtabS; rw [if_pos hn]
        have := rowsAns_app [rowQ s T j] (L.map (rowQ s T))
        rw [List.map_cons, ← List.singleton_append, this]
        have h1 : rowsAns [rowQ s T j] = ([], 0) := by rw [hr]; simp [rowsAns, spotRow_zero]
        rw [h1, if_pos rfl]
        split
        · rename_i h; exact Prod.ext rfl h.symm
        · rename_i h
          have h2 := rowsAns_app [] (L.map (rowQ s T))
          simp only [List.nil_append, rowsAns, if_true] at h2
          rw [if_neg h] at h2
          exact h2.symm
  rw [e1]
  exact e2 _
theorem rows_same (s : Src) (z : List Int) : rowsAns (rowsQ s z) = rowsAns (rowsL s z) := by
  unfold rowsQ rowsL
  rw [rowsAns_app, rowsAns_app [(⟨0, (z.drop 4).take 12, 0⟩ : Row)]]
  have key : rowsAns ([(⟨12, (rtabS s (z.getD 16 0)).1, (rtabS s (z.getD 16 0)).2⟩ : Row)] ++ (if (rtabS s (z.getD 17 0)).2 = 0 then (List.range 32).map (rowQ s (rtabS s (z.getD 17 0)).1) else [⟨0, [], (rtabS s (z.getD 17 0)).2⟩])) = rowsAns ((if z.getD 16 0 = 0 then [] else [rowT s 12 (z.getD 16 0)]) ++ farL s (z.getD 17 0)) := by
    rw [rowsAns_app, rowsAns_app (if z.getD 16 0 = 0 then [] else [rowT s 12 (z.getD 16 0)])]
    have k1 : rowsAns [(⟨12, (rtabS s (z.getD 16 0)).1, (rtabS s (z.getD 16 0)).2⟩ : Row)] = rowsAns (if z.getD 16 0 = 0 then [] else [rowT s 12 (z.getD 16 0)]) := by
      by_cases h : z.getD 16 0 = 0
      · rw [if_pos h, show rtabS s (z.getD 16 0) = (Zp, 0) from if_pos h]
        simp [rowsAns, spotRow_zero]
      · rw [if_neg h, show rtabS s (z.getD 16 0) = tabS s (z.getD 16 0) from if_neg h]
        rfl
    have k2 : rowsAns (if (rtabS s (z.getD 17 0)).2 = 0 then (List.range 32).map (rowQ s (rtabS s (z.getD 17 0)).1) else [⟨0, [], (rtabS s (z.getD 17 0)).2⟩]) = rowsAns (farL s (z.getD 17 0)) := by
      unfold farL
      by_cases h : z.getD 17 0 = 0
      · rw [if_pos h, show rtabS s (z.getD 17 0) = (Zp, 0) from if_pos h, if_pos rfl, far_same s Zp Zp_len, show Zp = List.replicate 32 0 from rfl, there_zero]
        rfl
      · rw [if_neg h, show rtabS s (z.getD 17 0) = tabS s (z.getD 17 0) from if_neg h]
        by_cases h2 : (tabS s (z.getD 17 0)).2 = 0
        · rw [if_pos h2, if_pos h2]
          exact far_same s _ (tabS_len _ _)
        · rw [if_neg h2, if_neg h2]
    rw [k1, k2]
  rw [key]
theorem sown_own {A B : World} {row : Option Nat} {n : Nat} {v : Value} {l : List Spt} (h : SOwn A n v l) (hg : A.grownBy B row) (hq : ∀ r, row = some r → ∀ cs f, A.heap[r]? ≠ some (.cells cs 47 f)) : SOwn B n v l := by
  refine World.ownsRow.kept h hg ?_
  rcases h.2 with ⟨rfl, _⟩ | ⟨g, cap, cur, rfl, _, hgb, _⟩
  · exact .inl rfl
  · exact .inr (fun e => hq g e.symm _ _ hgb)
theorem sown_below {A B : World} {n : Nat} {v : Value} {l : List Spt} (h : SOwn A n v l) (hb : Below A.heap.size A B) : SOwn B n v l :=
  sown_own (row := none) h ⟨hb.os, hb.tape, hb.output, hb.size, fun i hi _ => hb.block i hi⟩ (fun r e => by cases e)
theorem sown_put {A B : World} {g n : Nat} {c old : Array Value} {t : TypeId} {v : Value} {l : List Spt} (h : SOwn A n v l) (hp : PutR A g c t B) (hold : A.heap[g]? = some (.cells old t (0, 0))) (ht : t ≠ 47) : SOwn B n v l :=
  sown_own (row := some g) h ⟨hp.os, hp.tape, hp.output, Nat.le_of_eq hp.size.symm, fun i hi hne => hp.other i (fun e => hne (by rw [e]))⟩ (fun r e cs f h2 => by cases e; rw [hold] at h2; cases h2; exact ht rfl)
def farK (s : Src) (T : List Int) (k : Nat) : List Spt := ((List.range k).map (rowQ s T)).flatMap spotRow
theorem farK_succ (s : Src) (T : List Int) (k : Nat) : farK s T (k + 1) = farK s T k ++ spotRow ⟨44 + 32 * (k : Int), (rtabS s (T.getD k 0)).1, 0⟩ := by
  unfold farK
  rw [List.range_succ, List.map_append, List.flatMap_append]
  simp [rowQ, spotRow]
theorem spotRow_le (x : Row) : (spotRow x).length ≤ x.ps.length := by unfold spotRow; rw [List.length_map]; exact there_le _
theorem farK_le (s : Src) (T : List Int) : ∀ k, (farK s T k).length ≤ 32 * k
  | 0 => by simp [farK]
  | k + 1 => by
    rw [farK_succ, List.length_append]
    have := farK_le s T k
    have h2 := spotRow_le ⟨44 + 32 * (k : Int), (rtabS s (T.getD k 0)).1, 0⟩
    simp only [rtabS_len] at h2
    omega
/-- The answers, one by one. -/
theorem ansQ_1 {s : Src} {z : List Int} (h : (rtabS s (z.getD 16 0)).2 ≠ 0) : rowsAns (rowsQ s z) = ([], (rtabS s (z.getD 16 0)).2) := by
  refine ans_bad _ 1 ⟨12, (rtabS s (z.getD 16 0)).1, (rtabS s (z.getD 16 0)).2⟩ rfl (fun j y hj hy => ?_) h
  obtain rfl : j = 0 := by omega
  cases hy; rfl
theorem ansQ_2 {s : Src} {z : List Int} (h1 : (rtabS s (z.getD 16 0)).2 = 0) (h : (rtabS s (z.getD 17 0)).2 ≠ 0) : rowsAns (rowsQ s z) = ([], (rtabS s (z.getD 17 0)).2) := by
  refine ans_bad _ 2 ⟨0, [], (rtabS s (z.getD 17 0)).2⟩ ?_ (fun j y hj hy => ?_) h
  · unfold rowsQ; rw [if_neg h]; rfl
  · match j, hj with
    | 0, _ => cases hy; rfl
    | 1, _ => cases hy; exact h1
theorem ansQ_far {s : Src} {z : List Int} (h1 : (rtabS s (z.getD 16 0)).2 = 0) (h2 : (rtabS s (z.getD 17 0)).2 = 0) (k : Nat) (hk : k < 32) (ho : ∀ i, i < k → (rtabS s ((rtabS s (z.getD 17 0)).1.getD i 0)).2 = 0) (h : (rtabS s ((rtabS s (z.getD 17 0)).1.getD k 0)).2 ≠ 0) : rowsAns (rowsQ s z) = ([], (rtabS s ((rtabS s (z.getD 17 0)).1.getD k 0)).2) := by
  have hget : ∀ i, i < 32 → (rowsQ s z)[i + 2]? = some (rowQ s (rtabS s (z.getD 17 0)).1 i) := by
    intro i hi
    unfold rowsQ
    rw [if_pos h2]
    simp [hi]
  refine ans_bad _ (k + 2) _ (hget k hk) (fun j y hj hy => ?_) h
  match j, hj with
  | 0, _ => cases hy; rfl
  | 1, _ => cases hy; exact h1
  | j + 2, hj =>
    rw [hget j (by omega)] at hy
    cases hy
    exact ho j (by omega)
theorem ansQ_ok {s : Src} {z : List Int} (h1 : (rtabS s (z.getD 16 0)).2 = 0) (h2 : (rtabS s (z.getD 17 0)).2 = 0) (ho : ∀ i, i < 32 → (rtabS s ((rtabS s (z.getD 17 0)).1.getD i 0)).2 = 0) : rowsAns (rowsQ s z) = (spotRow ⟨0, (z.drop 4).take 12, 0⟩ ++ spotRow ⟨12, (rtabS s (z.getD 16 0)).1, 0⟩ ++ farK s (rtabS s (z.getD 17 0)).1 32, 0) := by
  have hall : ∀ x ∈ rowsQ s z, x.err = 0 := by
    intro x hx
    unfold rowsQ at hx
    rw [if_pos h2] at hx
    rcases List.mem_append.1 hx with hx | hx
    · simp at hx; subst hx; rfl
    · rcases List.mem_append.1 hx with hx | hx
      · simp at hx; subst hx; exact h1
      · obtain ⟨i, hi, rfl⟩ := List.mem_map.1 hx
        exact ho i (by simpa using hi)
  rw [ans_ok _ hall]
  unfold rowsQ
  rw [if_pos h2]
  simp [farK, spotRow]

end Go.Proofs.Ytjlhmojofjkkdab
