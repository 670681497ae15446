/-
  Names and paths as lists of bytes: no program in this text.
-/
import Derived.Test.YthpngfmckkfipaaGreatDoorBase
import Derived.Lib.SplitLaws
import Derived.Lib.Join
-- may lack
namespace Go.Proofs.YthpngfmckkfipaaGreatDoor

/-- a name that may be -/
def okName (l : List UInt8) : Bool := decide (1 ≤ l.length) && decide (l.length ≤ 40) && !(l == [46]) && !(l == [46, 46]) && l.all (fun b => b != 0 && b != 47)
/-- no two strokes side by side, none at the end -/
def noTwo : List UInt8 → Bool
  | [] => true
  | [a] => a != 47
  | a :: b :: r => !(a == 47 && b == 47) && noTwo (b :: r)
def formed (l : List UInt8) : Bool := decide (l.length ≤ 400) && l.head? == some 47 && (l == [47] || noTwo l)
/-- cut at each stroke -/
def pieces : List UInt8 → List (List UInt8)
  | [] => [[]]
  | b :: r => if b = 47 then [] :: pieces r else match pieces r with
    | [] => [[b]]
    | x :: xs => (b :: x) :: xs
def pathOf (xs : List (List UInt8)) : List UInt8 := if xs = [] then [47] else (xs.map (47 :: ·)).flatten
def sizes (xs : List (List UInt8)) : Nat := (xs.map fun x => 1 + x.length).sum
def splitR (l : List UInt8) : List (List UInt8) × Int :=
  if formed l then (if l = [47] then ([], 0) else if (pieces l.tail).all okName then (pieces l.tail, 0) else ([], 71)) else ([], 70)
def joinR (xs : List (List UInt8)) : List UInt8 × Int :=
  if xs.all okName then (if sizes xs > 400 then ([], 70) else (pathOf xs, 0)) else ([], 71)

theorem pieces_ne (l : List UInt8) : pieces l ≠ [] := by
  cases l with
  | nil => simp [pieces]
  | cons b r =>
    unfold pieces
    split
    · simp
    · split <;> simp

theorem pieces_none (l : List UInt8) (h : ∀ b ∈ l, b ≠ 47) : pieces l = [l] := by
  induction l with
  | nil => rfl
  | cons b r ih =>
    have hb := h b (by simp)
    rw [pieces, if_neg hb, ih (fun c hc => h c (by simp [hc]))]

theorem pieces_cut (a r : List UInt8) (h : ∀ b ∈ a, b ≠ 47) : pieces (a ++ 47 :: r) = a :: pieces r := by
  induction a with
  | nil => simp [pieces]
  | cons b a ih =>
    have hb := h b (by simp)
    rw [List.cons_append, pieces, if_neg hb, ih (fun c hc => h c (by simp [hc]))]

theorem occ_one (l : List UInt8) (j : Nat) : Lib.occAt l [47] j = true ↔ l[j]? = some 47 := by
  unfold Lib.occAt
  cases e : l.drop j with
  | nil =>
    have : l[j]? = none := by rw [← List.head?_drop, e]; rfl
    rw [this]; simp
  | cons x t =>
    have : l[j]? = some x := by rw [← List.head?_drop, e]; rfl
    rw [this]; simp only [List.isPrefixOf, Bool.and_true, beq_iff_eq, Option.some.injEq]; exact eq_comm

theorem splitK_pieces : ∀ (k : Nat) (l : List UInt8), Lib.count l [47] = k → Lib.splitK [47] 0 k l = pieces l := by
  intro k
  induction k with
  | zero =>
    intro l hk
    rcases Lib.index_spec l [47] with ⟨h1, h2⟩ | ⟨i, h1, h2, h3, h4⟩
    · rw [Lib.splitK, pieces_none]
      intro b hb hb47
      subst hb47
      obtain ⟨j, hj, he⟩ := List.mem_iff_getElem.1 hb
      have := h2 j (by omega)
      have h3 := (occ_one l j).2 (by rw [List.getElem?_eq_getElem hj, he])
      rw [this] at h3; simp at h3
    · have := Lib.count_hit (by simp) h1
      omega
  | succ k ih =>
    intro l hk
    rcases Lib.index_spec l [47] with ⟨h1, h2⟩ | ⟨i, h1, h2, h3, h4⟩
    · have := Lib.count_miss h1
      omega
    · have hc := Lib.count_hit (by simp) h1
      have hi : l[i]? = some 47 := (occ_one l i).1 h3
      have hil : i < l.length := by
        rcases Nat.lt_or_ge i l.length with h | h
        · exact h
        · rw [List.getElem?_eq_none h] at hi; simp at hi
      have hne : ¬ (Lib.index l [47] == -1) = true := fun e => by have := beq_iff_eq.1 e; omega
      rw [Lib.splitK, if_neg hne, h1]
      simp only [Int.toNat_natCast, Nat.add_zero, List.length_singleton]
      rw [ih _ (by simp at hc; omega)]
      have el : l = l.take i ++ 47 :: l.drop (i + 1) := by
        have h5 : l.drop i = 47 :: l.drop (i + 1) := by
          rw [List.drop_eq_getElem_cons hil]
          congr 1
          rw [List.getElem?_eq_getElem hil] at hi
          exact Option.some.inj hi
        rw [← h5, List.take_append_drop]
      conv => rhs; rw [el]
      rw [pieces_cut]
      intro b hb hb47
      subst hb47
      obtain ⟨j, hj, he⟩ := List.mem_iff_getElem.1 hb
      have hj2 : j < i := by rw [List.length_take] at hj; omega
      have h5 := h4 j hj2
      have h6 := (occ_one l j).2 (by rw [List.getElem?_eq_getElem (by omega)]; rw [List.getElem_take] at he; rw [he])
      rw [h5] at h6; simp at h6

/-- pieces laid together again -/
theorem pieces_flat (l : List UInt8) : ((pieces l).map (47 :: ·)).flatten = 47 :: l := by
  induction l with
  | nil => rfl
  | cons b r ih =>
    unfold pieces
    split
    · rename_i h; subst h; simp [ih]
    · cases e : pieces r with
      | nil => exact absurd e (pieces_ne r)
      | cons x xs => rw [e] at ih; simp at ih ⊢; exact ih

theorem flat_length (xs : List (List UInt8)) : ((xs.map (47 :: ·)).flatten).length = sizes xs := by
  induction xs with
  | nil => rfl
  | cons x xs ih => simp only [List.map_cons, List.flatten_cons, List.length_append, ih, List.length_cons, sizes, List.sum_cons]; omega

theorem ok_parts {l : List UInt8} (h : okName l = true) : 1 ≤ l.length ∧ l.length ≤ 40 ∧ l ≠ [46] ∧ l ≠ [46, 46] ∧ (∀ b ∈ l, b ≠ 0) ∧ (∀ b ∈ l, b ≠ 47) := by
  simp only [okName, Bool.and_eq_true, decide_eq_true_eq, Bool.not_eq_true', List.all_eq_true, bne_iff_ne, ne_eq, beq_eq_false_iff_ne] at h
  exact ⟨h.1.1.1.1, h.1.1.1.2, h.1.1.2, h.1.2, fun b hb => (h.2 b hb).1, fun b hb => (h.2 b hb).2⟩

theorem pieces_join : ∀ (xs : List (List UInt8)), xs ≠ [] → (∀ x ∈ xs, ∀ b ∈ x, b ≠ 47) → ∃ r, (xs.map (47 :: ·)).flatten = 47 :: r ∧ pieces r = xs := by
  intro xs
  induction xs with
  | nil => intro h; exact absurd rfl h
  | cons x xs ih =>
    intro _ h
    have hx := h x (by simp)
    by_cases e : xs = []
    · subst e
      exact ⟨x, by simp, pieces_none x hx⟩
    · obtain ⟨r, h1, h2⟩ := ih e (fun y hy => h y (by simp [hy]))
      refine ⟨x ++ 47 :: r, ?_, ?_⟩
      · rw [List.map_cons, List.flatten_cons, h1]; rfl
      · rw [pieces_cut x r hx, h2]

theorem noTwo_join (x : List UInt8) : ∀ (l : List UInt8), (∀ b ∈ x, b ≠ 47) → noTwo (47 :: l) = true → x ≠ [] → noTwo (x ++ 47 :: l) = true := by
  induction x with
  | nil => intro l _ _ h; exact absurd rfl h
  | cons a x ih =>
    intro l h1 h2 _
    cases x with
    | nil =>
      have ha := h1 a (by simp)
      show noTwo (a :: 47 :: l) = true
      rw [noTwo, h2]; simp [ha]
    | cons b x =>
      have ha := h1 a (by simp)
      have := ih l (fun c hc => h1 c (by simp at hc ⊢; right; exact hc)) h2 (by simp)
      show noTwo (a :: b :: (x ++ 47 :: l)) = true
      rw [noTwo]
      rw [show noTwo (b :: (x ++ 47 :: l)) = true from this]; simp [ha]

theorem noTwo_plain (x : List UInt8) (h : ∀ b ∈ x, b ≠ 47) : noTwo x = true := by
  induction x with
  | nil => rfl
  | cons a x ih =>
    have ha := h a (by simp)
    cases x with
    | nil => simp [noTwo, ha]
    | cons b x => rw [noTwo, ih (fun c hc => h c (by simp at hc ⊢; right; exact hc))]; simp [ha]

theorem noTwo_flat : ∀ (xs : List (List UInt8)), xs ≠ [] → (∀ x ∈ xs, x ≠ [] ∧ ∀ b ∈ x, b ≠ 47) → noTwo ((xs.map (47 :: ·)).flatten) = true := by
  intro xs
  induction xs with
  | nil => intro h; exact absurd rfl h
  | cons x xs ih =>
    intro _ h
    obtain ⟨h0, hx⟩ := h x (by simp)
    cases x with
    | nil => exact absurd rfl h0
    | cons a x =>
      have ha := hx a (by simp)
      have key : noTwo ((a :: x) ++ (xs.map (47 :: ·)).flatten) = true := by
        by_cases e : xs = []
        · subst e
          simp only [List.map_nil, List.flatten_nil, List.append_nil]
          exact noTwo_plain _ hx
        · have h2 := ih e (fun y hy => h y (by simp [hy]))
          obtain ⟨r, h3, -⟩ := pieces_join xs e (fun y hy => (h y (by simp [hy])).2)
          rw [h3] at h2 ⊢
          exact noTwo_join _ r hx h2 (by simp)
      rw [List.map_cons, List.flatten_cons]
      show noTwo (47 :: a :: (x ++ (xs.map (47 :: ·)).flatten)) = true
      rw [noTwo, show noTwo (a :: (x ++ (xs.map (47 :: ·)).flatten)) = true from key]; simp [ha]

/-- names whose path may be are told by it -/
theorem split_join (xs : List (List UInt8)) (h : xs.all okName = true) (hs : sizes xs ≤ 400) : splitR (pathOf xs) = (xs, 0) := by
  by_cases e : xs = []
  · subst e; rfl
  · have hall : ∀ x ∈ xs, okName x = true := List.all_eq_true.1 h
    have h47 : ∀ x ∈ xs, ∀ b ∈ x, b ≠ 47 := fun x hx => (ok_parts (hall x hx)).2.2.2.2.2
    have hne : ∀ x ∈ xs, x ≠ [] ∧ ∀ b ∈ x, b ≠ 47 := fun x hx => ⟨fun e => by have := (ok_parts (hall x hx)).1; rw [e] at this; simp at this, h47 x hx⟩
    obtain ⟨r, h1, h2⟩ := pieces_join xs e h47
    have hlen := flat_length xs
    have hn := noTwo_flat xs e hne
    have hp : pathOf xs = 47 :: r := by rw [pathOf, if_neg e, h1]
    have hr : r ≠ [] := by
      intro er
      rw [er] at h2
      have := (hne [] (by rw [← h2]; simp [pieces])).1
      exact this rfl
    rw [h1] at hlen hn
    have hf : formed (47 :: r) = true := by
      simp only [formed, hn, Bool.or_true, Bool.and_true, Bool.and_eq_true, decide_eq_true_eq]
      exact ⟨by omega, rfl⟩
    rw [hp, splitR, if_pos hf, if_neg (by simp [hr]), List.tail_cons, h2, if_pos h]

theorem split_ok {l : List UInt8} {xs : List (List UInt8)} (h : splitR l = (xs, 0)) : xs.all okName = true ∧ sizes xs ≤ 400 ∧ pathOf xs = l ∧ (sizes xs = l.length ∨ xs = [] ∧ l = [47]) := by
  unfold splitR at h
  split at h
  · rename_i hf
    split at h
    · rename_i e
      have : xs = [] := by have := congrArg Prod.fst h; exact this.symm
      subst this
      exact ⟨rfl, by decide, by rw [e]; rfl, .inr ⟨rfl, e⟩⟩
    · rename_i e
      split at h
      · rename_i hk
        have hx : pieces l.tail = xs := congrArg Prod.fst h
        simp only [formed, Bool.and_eq_true, decide_eq_true_eq, beq_iff_eq] at hf
        cases l with
        | nil => have := hf.1.2; simp at this
        | cons a r =>
          have ha : a = 47 := by have := hf.1.2; simpa using this
          subst ha
          rw [List.tail_cons] at hx hk
          subst hx
          have h1 := pieces_flat r
          have h2 := flat_length (pieces r)
          rw [h1] at h2
          refine ⟨hk, by rw [← h2]; exact hf.1.1, by rw [pathOf, if_neg (pieces_ne r), h1], .inl h2.symm⟩
      · have := congrArg Prod.snd h; simp at this
  · have := congrArg Prod.snd h; simp at this

theorem split_err {l : List UInt8} : (∃ xs, splitR l = (xs, 0)) ∨ splitR l = ([], 70) ∨ splitR l = ([], 71) := by
  unfold splitR
  split
  · split
    · exact .inl ⟨_, rfl⟩
    · split
      · exact .inl ⟨_, rfl⟩
      · exact .inr (.inr rfl)
  · exact .inr (.inl rfl)

theorem path_inj {xs ys : List (List UInt8)} (h1 : xs.all okName = true) (h2 : ys.all okName = true) (s1 : sizes xs ≤ 400) (s2 : sizes ys ≤ 400) : pathOf xs = pathOf ys ↔ xs = ys := by
  constructor
  · intro h
    have a := split_join xs h1 s1
    rw [h, split_join ys h2 s2] at a
    exact (congrArg Prod.fst a).symm
  · intro h; rw [h]

theorem join_path (xs : List (List UInt8)) : 47 :: Lib.join xs [47] = pathOf xs := by
  cases xs with
  | nil => rfl
  | cons x xs =>
    rw [Lib.join_cons, pathOf, if_neg (by simp)]
    simp [Lib.joinTail]
theorem okName_of {l : List UInt8} (h1 : 1 ≤ l.length) (h2 : l.length ≤ 40) (h3 : l ≠ [46]) (h4 : l ≠ [46, 46]) (h5 : ∀ b ∈ l, b ≠ 0 ∧ b ≠ 47) : okName l = true := by
  simp only [okName, Bool.and_eq_true, decide_eq_true_eq, Bool.not_eq_true', List.all_eq_true, bne_iff_ne, ne_eq, beq_eq_false_iff_ne]
  exact ⟨⟨⟨⟨h1, h2⟩, h3⟩, h4⟩, fun b hb => h5 b hb⟩

/-- the statements' name: out of any text -/
def fixB (b : UInt8) : UInt8 := if b = 0 ∨ b = 47 then 120 else b
def fixL (l : List UInt8) : List UInt8 := (l.take 40).map fixB
def nameL (l : List UInt8) : List UInt8 := if fixL l = [] ∨ fixL l = [46] ∨ fixL l = [46, 46] then fixL l ++ [110] else fixL l
theorem fixB_ok (b : UInt8) : fixB b ≠ 0 ∧ fixB b ≠ 47 := by
  unfold fixB
  split
  · decide
  · rename_i h; exact ⟨fun e => h (.inl e), fun e => h (.inr e)⟩
theorem fixL_ok (l : List UInt8) : ∀ b ∈ fixL l, b ≠ 0 ∧ b ≠ 47 := by
  intro b hb
  obtain ⟨c, _, rfl⟩ := List.mem_map.1 hb
  exact fixB_ok c
theorem fixL_len (l : List UInt8) : (fixL l).length ≤ 40 := by simp [fixL]; omega
theorem nameL_ok (l : List UInt8) : okName (nameL l) = true := by
  unfold nameL
  split
  · rename_i h
    rcases h with h | h | h <;> rw [h] <;> decide
  · rename_i h
    refine okName_of ?_ (fixL_len l) (fun e => h (.inr (.inl e))) (fun e => h (.inr (.inr e))) (fixL_ok l)
    rcases Nat.eq_zero_or_pos (fixL l).length with e | e
    · exact absurd (.inl (List.length_eq_zero_iff.1 e)) h
    · exact e
theorem nameL_len (l : List UInt8) : 1 ≤ (nameL l).length ∧ (nameL l).length ≤ 40 := ⟨(ok_parts (nameL_ok l)).1, (ok_parts (nameL_ok l)).2.1⟩

/-- the statements' few -/
def fewGo : Nat → List (List UInt8) → List (List UInt8)
  | _, [] => []
  | n, x :: r => if n + 1 + (nameL x).length > 400 then [] else nameL x :: fewGo (n + 1 + (nameL x).length) r
def fewL (l : List (List UInt8)) : List (List UInt8) := fewGo 0 (l.take 400)
theorem sizes_nil : sizes [] = 0 := rfl
theorem sizes_cons (x : List UInt8) (xs : List (List UInt8)) : sizes (x :: xs) = 1 + x.length + sizes xs := by simp [sizes]
theorem sizes_append (xs ys : List (List UInt8)) : sizes (xs ++ ys) = sizes xs + sizes ys := by simp [sizes]
theorem fewGo_ok : ∀ (l : List (List UInt8)) (n : Nat), n ≤ 400 → (fewGo n l).all okName = true ∧ n + sizes (fewGo n l) ≤ 400 := by
  intro l
  induction l with
  | nil => intro n h; exact ⟨rfl, by simp [fewGo, sizes_nil]; exact h⟩
  | cons x r ih =>
    intro n h
    unfold fewGo
    split
    · exact ⟨rfl, by simp [sizes_nil]; exact h⟩
    · rename_i h2
      obtain ⟨h3, h4⟩ := ih (n + 1 + (nameL x).length) (by omega)
      refine ⟨by rw [List.all_cons, nameL_ok, h3]; rfl, by rw [sizes_cons]; omega⟩
theorem few_ok (l : List (List UInt8)) : (fewL l).all okName = true := (fewGo_ok _ 0 (by omega)).1
theorem few_size (l : List (List UInt8)) : sizes (fewL l) ≤ 400 := by have := (fewGo_ok (l.take 400) 0 (by omega)).2; unfold fewL; omega
theorem sizes_len : ∀ (xs : List (List UInt8)), xs.length ≤ sizes xs := by
  intro xs
  induction xs with
  | nil => simp [sizes]
  | cons x xs ih => rw [sizes_cons, List.length_cons]; omega

/-- one more -/
theorem path_more (xs : List (List UInt8)) (x : List UInt8) : pathOf (xs ++ [x]) = (if xs = [] then 47 :: x else pathOf xs ++ 47 :: x) := by
  unfold pathOf
  rw [if_neg (by simp)]
  split
  · rename_i h; subst h; simp
  · simp
theorem path_len (xs : List (List UInt8)) : (pathOf xs).length = if xs = [] then 1 else sizes xs := by
  unfold pathOf
  split
  · rfl
  · exact flat_length xs

/-- what is refused: a text that does not begin with a stroke, one that ends with one, two side by side -/
theorem not_formed_head {l : List UInt8} (h : l.head? ≠ some 47) : formed l = false := by
  unfold formed
  have : (l.head? == some 47) = false := by simpa using h
  rw [this]; simp
theorem noTwo_end (l : List UInt8) (h : l ≠ []) : noTwo (l ++ [47]) = false := by
  induction l with
  | nil => exact absurd rfl h
  | cons a r ih =>
    cases r with
    | nil => simp [noTwo]
    | cons b r => 
      have := ih (by simp)
      show noTwo (a :: b :: (r ++ [47])) = false
      rw [noTwo, show noTwo (b :: (r ++ [47])) = false from this]; simp
theorem not_formed_end {l : List UInt8} (h : l ≠ []) : formed (l ++ [47]) = false := by
  unfold formed
  rw [noTwo_end l h]
  have : (l ++ [47] == [47]) = false := by simp [h]
  rw [this]; simp
theorem not_formed_two (l : List UInt8) : formed (47 :: 47 :: l) = false := by
  unfold formed
  have : (47 :: 47 :: l == [47]) = false := by simp
  rw [this, noTwo]; simp
theorem path_head (xs : List (List UInt8)) : ∃ r, pathOf xs = 47 :: r := by
  unfold pathOf
  split
  · exact ⟨[], rfl⟩
  · rename_i h
    cases xs with
    | nil => exact absurd rfl h
    | cons x xs => exact ⟨_, rfl⟩
theorem path_second (xs : List (List UInt8)) (h : xs.all okName = true) : ((pathOf xs).tail ++ [97]).head? ≠ some 47 := by
  unfold pathOf
  split
  · simp
  · rename_i hn
    cases xs with
    | nil => exact absurd rfl hn
    | cons x xs =>
      have hx := ok_parts (List.all_eq_true.1 h x (by simp))
      cases x with
      | nil => have := hx.1; simp at this
      | cons a x => simp; exact hx.2.2.2.2.2 a (by simp)
theorem split_not {l : List UInt8} (h : formed l = false) : splitR l = ([], 70) := by unfold splitR; rw [h]; rfl
theorem join_ok {xs : List (List UInt8)} (h : xs.all okName = true) (hs : sizes xs ≤ 400) : joinR xs = (pathOf xs, 0) := by
  unfold joinR; rw [if_pos h, if_neg (by omega)]

end Go.Proofs.YthpngfmckkfipaaGreatDoor
