/-
  Lists of blocks that grow; what is told of rows, as a function.
-/
import Derived.Test.YtjlhmojofjkkdabE0
-- may lack
namespace Go.Proofs.Ytjlhmojofjkkdab
open Go.RowKit Go.Shelf

/-- A list of blocks of the call's own. -/
def SOwn (w : World) (B : Nat) (v : Value) (l : List Spt) : Prop := w.ownsRow B 47 2 v l.length (flatS l)
theorem flatS_len (l : List Spt) : (flatS l).length = l.length * 2 := by
  induction l with
  | nil => rfl
  | cons x l ih => unfold flatS at *; rw [List.flatMap_cons, List.length_append, ih]; simp; omega
theorem flatS_app (l m : List Spt) : flatS (l ++ m) = flatS l ++ flatS m := by simp [flatS]
theorem flatS_cell1 (l : List Spt) : ∀ u ∈ flatS l, u.oneCell' = true := by
  intro u hu
  unfold flatS at hu
  obtain ⟨x, _, hx⟩ := List.mem_flatMap.1 hu
  simp at hx
  rcases hx with rfl | rfl <;> rfl
/-- What a list's growth leaves: blocks of other types, and all ahead of B. -/
structure Grow (e : TypeId) (B : Nat) (w w' : World) : Prop where
  low : Below B w w'
  keep : ∀ (k : Nat) cs t f, w.heap[k]? = some (.cells cs t f) → t ≠ e → w'.heap[k]? = some (.cells cs t f)
  size : w.heap.size ≤ w'.heap.size
theorem grow_of {w w' : World} {B e k n : Nat} {v : Value} {xs : List Value} (h : w.ownsRow B e k v n xs) (hB : B ≤ w.heap.size) (hg : w.grownBy w' v.ownBlock) : Grow e B w w' := by
  have hne : ∀ (j : Nat), some j = v.ownBlock → B ≤ j ∧ ∃ cur, w.heap[j]? = some (.cells cur e (0, 0)) := by
    intro j hj
    rcases h.2 with ⟨rfl, _⟩ | ⟨g, cap, cur, rfl, hb, hgb, _⟩
    · cases hj
    · have : j = g := by simpa [Value.ownBlock] using hj
      subst this
      exact ⟨hb, cur, hgb⟩
  refine ⟨(Below.refl B w).grown hg hB (fun j hj => (hne j hj.symm).1), fun j cs t f hj ht => ?_, hg.size⟩
  rw [hg.block j (slt hj) (fun e' => ?_)]
  · exact hj
  · obtain ⟨_, cur, hc⟩ := hne j e'
    rw [hj] at hc
    cases hc
    exact ht rfl
section
variable {ops : Array Oper} {rest : List Oper} {o : Oper} {a : Act} {Q : Exit → Act → World → Prop} {w : World}
/-- append of one number, into a slot. -/
theorem wp_appI (hg : o.guard = none) (s x : Operand) (hop : o.op = .call { callee := .builtin .append, args := #[s, x], argTypes := #[39, 39] }) (B g c : Nat) (v : Value) (l : List Int) (y : Int) (hs : a.eval s = v) (hx : a.eval x = .slice (some ⟨g, 0, none⟩) 1 c)
    (hown : IOwn w B v l) (hat : w.cell? ⟨g, 0, none⟩ = some (.int .i64 y)) (hl : l.length ≤ 1000000000000) (hB : B ≤ w.heap.size)
    (hK : ∀ v' w', IOwn w' B v' (l ++ [y]) → Grow 3 B w w' → wpList Try.prog ops Q rest (a.put o.dst v') w') : wpList Try.prog ops Q (o :: rest) a w := by
  obtain ⟨i, hi, hz, hsz, hby⟩ := infoI
  refine wpList_append_own_at w hg s x 39 hop B 3 i _ 1 8 Try.underlying39 hi hz hsz hby rfl (by decide) v l.length (l.map (Value.int .i64)) hs hown ⟨g, 0, none⟩ 1 c [.int .i64 y] hx rfl (fun j u hj => ?_) (by simp [Value.oneCell']) (by unfold maxLen; omega) (by omega) hB ?_
  · cases j with
    | zero => simp at hj; subst hj; exact hat
    | succ j => simp at hj
  · intro v' w' h1 h2 _ _
    refine hK v' w' ?_ (grow_of hown hB h2)
    unfold IOwn
    rw [List.map_append, List.length_append]
    exact h1
/-- append of one block. -/
theorem wp_appP (hg : o.guard = none) (s x : Operand) (hop : o.op = .call { callee := .builtin .append, args := #[s, x], argTypes := #[36, 36] }) (B g c : Nat) (v : Value) (l : List Spt) (y : Spt) (hs : a.eval s = v) (hx : a.eval x = .slice (some ⟨g, 0, none⟩) 1 c)
    (hown : SOwn w B v l) (hat : w.cell? ⟨g, 0, none⟩ = some (.int .i64 y.idx)) (hat1 : w.cell? ⟨g, 1, none⟩ = some (.int .i64 y.sec)) (hl : l.length ≤ 1000000000) (hB : B ≤ w.heap.size)
    (hK : ∀ v' w', SOwn w' B v' (l ++ [y]) → Grow 47 B w w' → wpList Try.prog ops Q rest (a.put o.dst v') w') : wpList Try.prog ops Q (o :: rest) a w := by
  obtain ⟨i, hi, hz, hsz, hby⟩ := infoSp
  refine wpList_append_own_at w hg s x 36 hop B 47 i _ 2 16 Try.underlying36 hi hz hsz hby rfl (by decide) v l.length (flatS l) hs hown ⟨g, 0, none⟩ 1 c [.int .i64 y.idx, .int .i64 y.sec] hx rfl (fun j u hj => ?_) (by simp [Value.oneCell']) (by unfold maxLen; omega) (by omega) hB ?_
  · match j, hj with
    | 0, hj => simp at hj; subst hj; exact hat
    | 1, hj => simp at hj; subst hj; exact hat1
    | j + 2, hj => simp at hj
  · intro v' w' h1 h2 _ _
    refine hK v' w' ?_ (grow_of hown hB h2)
    unfold SOwn
    rw [flatS_one, List.length_append]
    exact h1
/-- append of a list of blocks. -/
theorem wp_appPs (hg : o.guard = none) (s x : Operand) (hop : o.op = .call { callee := .builtin .append, args := #[s, x], argTypes := #[36, 36] }) (B B2 : Nat) (v v2 : Value) (l m : List Spt) (hs : a.eval s = v) (hx : a.eval x = v2)
    (hown : SOwn w B v l) (hat : SOwn w B2 v2 m) (hl : l.length ≤ 1000000000) (hm : m.length ≤ 1000000000) (hB : B ≤ w.heap.size)
    (hK : ∀ v' w', SOwn w' B v' (l ++ m) → Grow 47 B w w' → wpList Try.prog ops Q rest (a.put o.dst v') w') : wpList Try.prog ops Q (o :: rest) a w := by
  obtain ⟨i, hi, hz, hsz, hby⟩ := infoSp
  rcases hat.2 with ⟨rfl, h0⟩ | ⟨g, cap, cur, rfl, _⟩
  · obtain rfl : m = [] := List.eq_nil_of_length_eq_zero h0
    obtain ⟨a1, c1, rfl, hlen, _⟩ := row_shape9 hown
    refine wpList_plain hg fun K hK' => ?_
    unfold Oper.wp execOp
    have hr : (Builtin.append_ #[36, 36] o.type #[.slice a1 l.length c1, .slice none 0 0]).run Try.prog w = .ok (.slice a1 l.length c1) w := by
      simp [Builtin.append_, run_underlying Try.underlying36, sizeOf, typeInfo, hi, Builtin.lenOf, Builtin.firstCells, hlen]
      cases a1 <;> simp [storeCells]
    simp only [hop, resolve, invoke, builtin, Sem.run_bind, Sem.run_pure, Result.andThen_ok, List.map_toArray, List.map_cons, List.map_nil, hs, hx, hr]
    exact hK' _ _ (hK _ _ (by rw [List.append_nil]; exact hown) ⟨Below.refl _ _, fun _ _ _ _ h _ => h, Nat.le_refl _⟩)
  · refine wpList_append_own_at w hg s x 36 hop B 47 i _ 2 16 Try.underlying36 hi hz hsz hby rfl (by decide) v l.length (flatS l) hs hown ⟨g, 0, none⟩ m.length cap (flatS m) hx (flatS_len m) (fun j u hj => World.ownsRow.cells hat rfl j u hj) (flatS_cell1 m) (by unfold maxLen; omega) (by omega) hB ?_
    intro v' w' h1 h2 _ _
    refine hK v' w' ?_ (grow_of hown hB h2)
    unfold SOwn
    rw [flatS_app, List.length_append]
    exact h1
end

/-- What is told of rows: the blocks, or the first error. -/
def rowsAns : List Row → List Spt × Int
  | [] => ([], 0)
  | x :: xs => if x.err = 0 then (if (rowsAns xs).2 = 0 then (spotRow x ++ (rowsAns xs).1, 0) else ([], (rowsAns xs).2)) else ([], x.err)
theorem ans_ok : ∀ (rs : List Row), (∀ x ∈ rs, x.err = 0) → rowsAns rs = (rs.flatMap spotRow, 0)
  | [], _ => rfl
  | x :: xs, h => by
    have ih := ans_ok xs (fun y hy => h y (by simp [hy]))
    unfold rowsAns
    rw [if_pos (h x (by simp)), ih]
    simp
theorem ans_bad : ∀ (rs : List Row) (k : Nat) (x : Row), rs[k]? = some x → (∀ j y, j < k → rs[j]? = some y → y.err = 0) → x.err ≠ 0 → rowsAns rs = ([], x.err)
  | [], k, x, h, _, _ => by simp at h
  | y :: rs, 0, x, h, _, hx => by simp at h; subst h; unfold rowsAns; rw [if_neg hx]
  | y :: rs, k + 1, x, h, ho, hx => by
    have ih := ans_bad rs k x (by simpa using h) (fun j z hj hz => ho (j + 1) z (by omega) (by simpa using hz)) hx
    unfold rowsAns
    rw [if_pos (ho 0 y (by omega) rfl), ih]
    simp [hx]
theorem ans_drop : ∀ (rs : List Row) (q : Row → Bool), (∀ x ∈ rs, q x = false → x.err = 0 ∧ spotRow x = []) → rowsAns rs = rowsAns (rs.filter q)
  | [], _, _ => rfl
  | x :: xs, q, h => by
    have ih := ans_drop xs q (fun y hy => h y (by simp [hy]))
    by_cases hq : q x = true
    · rw [List.filter_cons_of_pos hq]
      simp only [rowsAns, ih]
    · rw [List.filter_cons_of_neg hq, ← ih]
      obtain ⟨h1, h2⟩ := h x (by simp) (by simpa using hq)
      simp only [rowsAns, if_pos h1, h2, List.nil_append]
      split
      · rename_i e; exact Prod.ext rfl e.symm
      · rename_i e
        have : ∀ ys : List Row, (rowsAns ys).2 ≠ 0 → (rowsAns ys).1 = [] := by
          intro ys
          cases ys with
          | nil => intro h; exact absurd rfl h
          | cons y ys =>
            simp only [rowsAns]
            split
            · split
              · intro h; exact absurd rfl h
              · intro _; rfl
            · intro _; rfl
        exact Prod.ext (this xs e).symm rfl
theorem spotsOf_ok : ∀ (rs : List Row), (∀ x ∈ rs, x.err = 0) → spotsOf rs = rs.flatMap spotRow
  | [], _ => rfl
  | x :: xs, h => by
    have ih := spotsOf_ok xs (fun y hy => h y (by simp [hy]))
    simp only [spotsOf, if_pos (h x (by simp)), ih, List.flatMap_cons]
theorem spotRow_ok (x : Row) : ∀ y ∈ spotRow x, y.err = 0 := by
  intro y hy
  unfold spotRow at hy
  obtain ⟨t, _, rfl⟩ := List.mem_map.1 hy
  rfl
/-- The answer of Spots is that of its rows. -/
theorem ans_of {rs : List Row} {l : List Spt} {e : Int} (h : SpotsAns (spotsOf rs) l e) : (l, e) = rowsAns rs := by
  by_cases hall : ∀ x ∈ rs, x.err = 0
  · rw [ans_ok rs hall]
    have hs := spotsOf_ok rs hall
    rw [hs] at h
    have hok : ∀ y ∈ rs.flatMap spotRow, y.err = 0 := fun y hy => by
      obtain ⟨x, _, hx⟩ := List.mem_flatMap.1 hy
      exact spotRow_ok x y hx
    by_cases he : e = 0
    · rw [(h.good he).1, he]
    · obtain ⟨_, k, x, hk, _, hx⟩ := h.bad he
      exact absurd (hx ▸ hok x (List.mem_of_getElem? hk)) (fun e' => he (by rw [← hx]; exact hok x (List.mem_of_getElem? hk)))
  · have key : ∀ (rs : List Row), ¬ (∀ x ∈ rs, x.err = 0) → ∃ k x, rs[k]? = some x ∧ okTo rs k ∧ x.err ≠ 0 := by
      intro rs
      induction rs with
      | nil => intro h; exact absurd (fun x hx => by simp at hx) h
      | cons y rs ih =>
        intro h
        by_cases hy : y.err = 0
        · obtain ⟨k, x, h1, h2, h3⟩ := ih (fun h' => h (fun x hx => by
            rcases List.mem_cons.1 hx with rfl | hx
            · exact hy
            · exact h' x hx))
          refine ⟨k + 1, x, by simpa using h1, fun j z hj hz => ?_, h3⟩
          cases j with
          | zero => simp at hz; subst hz; exact hy
          | succ j => exact h2 j z (by omega) (by simpa using hz)
        · exact ⟨0, y, rfl, fun j z hj => by omega, hy⟩
    obtain ⟨k, x, h1, h2, h3⟩ := key rs hall
    rw [ans_bad rs k x h1 h2 h3]
    obtain ⟨g1, g2⟩ := spots_err rs k x h1 h2 h3
    have hfirst : ∀ j y, j < cntS rs k → (spotsOf rs)[j]? = some y → y.err = 0 := by
      have : ∀ (rs : List Row) (k : Nat), okTo rs k → ∀ j y, j < cntS rs k → (spotsOf rs)[j]? = some y → y.err = 0 := by
        intro rs
        induction rs with
        | nil => intro k _ j y hj hy; simp [spotsOf] at hy
        | cons z rs ih =>
          intro k ho j y hj hy
          cases k with
          | zero => simp [cntS] at hj
          | succ k =>
            obtain ⟨hz, ho2⟩ := ho.tail
            simp only [cntS] at hj
            simp only [spotsOf, if_pos hz] at hy
            rcases Nat.lt_or_ge j (spotRow z).length with e | e
            · rw [List.getElem?_append_left e] at hy
              exact spotRow_ok z y (List.mem_of_getElem? hy)
            · rw [List.getElem?_append_right e] at hy
              exact ih k ho2 _ y (by omega) hy
      exact this rs k h2
    by_cases he : e = 0
    · obtain ⟨_, hok⟩ := h.good he
      have := hok (cntS rs k) _ (by omega) g1
      exact absurd this h3
    · obtain ⟨rfl, j, y, hj, hoj, rfl⟩ := h.bad he
      have hjl := (List.getElem?_eq_some_iff.1 hj).1
      have hjk : j = cntS rs k := by
        rcases Nat.lt_or_ge j (cntS rs k) with e' | e'
        · exact absurd (hfirst j y e' hj) he
        · omega
      subst hjk
      rw [g1] at hj
      cases hj
      rfl

end Go.Proofs.Ytjlhmojofjkkdab
