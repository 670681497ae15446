/-
  Spots, by indexes; how many parts there are.
-/
import Derived.Test.YtjlhmojofjkkdabG0
-- may lack
namespace Go.Proofs.Ytjlhmojofjkkdab
open Go.RowKit Go.Shelf

/-- The sector of a block. -/
def secK (s : Src) (z : List Int) (k : Nat) : Int := (folK s z (k : Int)).1
def segS (f : Nat → Int) (a n : Nat) : List Spt := ((List.range' a n).filter (fun k => decide (f k ≠ 0))).map fun (k : Nat) => (⟨(k : Int), f k, 0⟩ : Spt)
theorem seg_app (f : Nat → Int) (a m n : Nat) : segS f a (m + n) = segS f a m ++ segS f (a + m) n := by
  unfold segS
  rw [← List.map_append, ← List.filter_append]
  congr 2
  have := List.range'_append (s := a) (m := m) (n := n) (step := 1)
  rw [Nat.one_mul] at this
  exact this.symm
theorem row_seg {f : Nat → Int} {a n : Nat} {T : List Int} {e : Int} (hT : T.length = n) (h : ∀ j, j < n → f (a + j) = T.getD j 0) : spotRow ⟨(a : Int), T, e⟩ = segS f a n := by
  unfold spotRow segS thereL plc
  rw [List.map_map, show (Row.mk (a : Int) T e).ps = T from rfl, hT, List.range'_eq_map_range, List.filter_map, List.map_map]
  have hfil : (List.range n).filter (nz T) = (List.range n).filter ((fun k => decide (f k ≠ 0)) ∘ fun x => a + x) := by
    refine List.filter_congr fun j hj => ?_
    have hj : j < n := by simpa using hj
    show nz T j = decide (f (a + j) ≠ 0)
    unfold nz
    rw [h j hj]
  rw [← hfil]
  refine List.map_congr_left fun j hj => ?_
  have hj : j < n := by simpa using (List.mem_filter.1 hj).1
  show (⟨(a : Int) + (j : Int), T.getD j 0, 0⟩ : Spt) = ⟨((a + j : Nat) : Int), f (a + j), 0⟩
  rw [h j hj]
  simp
structure AllOk (s : Src) (z : List Int) : Prop where
  one : (rtabS s (z.getD 16 0)).2 = 0
  two : (rtabS s (z.getD 17 0)).2 = 0
  far : ∀ i, i < 32 → (rtabS s ((rtabS s (z.getD 17 0)).1.getD i 0)).2 = 0
theorem ans_iff (s : Src) (z : List Int) : (rowsAns (rowsL s z)).2 = 0 ↔ AllOk s z := by
  rw [← rows_same]
  constructor
  · intro h
    have h1 : (rtabS s (z.getD 16 0)).2 = 0 := by
      refine Decidable.byContradiction fun h' => ?_
      rw [ansQ_1 h'] at h
      exact h' h
    have h2 : (rtabS s (z.getD 17 0)).2 = 0 := by
      refine Decidable.byContradiction fun h' => ?_
      rw [ansQ_2 h1 h'] at h
      exact h' h
    refine ⟨h1, h2, ?_⟩
    have : ∀ n, n ≤ 32 → ∀ i, i < n → (rtabS s ((rtabS s (z.getD 17 0)).1.getD i 0)).2 = 0 := by
      intro n
      induction n with
      | zero => intro _ i hi; omega
      | succ n ih =>
        intro hn i hi
        have ih := ih (by omega)
        rcases Nat.lt_or_ge i n with e | e
        · exact ih i e
        · obtain rfl : i = n := by omega
          refine Decidable.byContradiction fun h' => ?_
          rw [ansQ_far h1 h2 i (by omega) ih h'] at h
          exact h' h
    exact this 32 (Nat.le_refl _)
  · rintro ⟨h1, h2, h3⟩
    rw [ansQ_ok h1 h2 h3]
theorem folK_far {s : Src} {z : List Int} {i j : Nat} (hj : j < 32) : folK s z ((44 + 32 * i + j : Nat) : Int) = folW s (z.getD 17 0) [(i : Int), (j : Int)] 0 := by
  rw [folK_two (by omega) (by omega)]
  have e1 : (((44 + 32 * i + j : Nat) : Int) - 44).tdiv 32 = (i : Int) := by rw [Int.tdiv_eq_ediv_of_nonneg (by omega)]; omega
  have e2 : (((44 + 32 * i + j : Nat) : Int) - 44) % 32 = (j : Int) := by omega
  rw [e1, e2]
theorem folK_err {s : Src} {z : List Int} (h : AllOk s z) (k : Nat) (hk : k < 1068) : (folK s z (k : Int)).2.2 = 0 := by
  by_cases h1 : k < 12
  · rw [folK_low (by omega)]
  · by_cases h2 : k < 44
    · rw [folK_one (by omega) (by omega), (fol1 _ _ _ _).2]; exact h.one
    · obtain ⟨i, j, hj, rfl⟩ : ∃ i j, j < 32 ∧ k = 44 + 32 * i + j := ⟨(k - 44) / 32, (k - 44) % 32, Nat.mod_lt _ (by decide), by omega⟩
      rw [folK_far hj, (fol2 _ _ _ _).2, if_pos h.two]
      exact h.far i (by omega)
theorem allOk_of {s : Src} {z : List Int} (h : ∀ k : Nat, k < 1068 → (folK s z (k : Int)).2.2 = 0) : AllOk s z := by
  have h1 := h 12 (by decide)
  rw [folK_one (by decide) (by decide), (fol1 _ _ _ _).2] at h1
  have h2 : (rtabS s (z.getD 17 0)).2 = 0 := by
    have h2 := h 44 (by decide)
    rw [show ((44 : Nat) : Int) = ((44 + 32 * 0 + 0 : Nat) : Int) from rfl, folK_far (by decide), (fol2 _ _ _ _).2] at h2
    refine Decidable.byContradiction fun h' => ?_
    rw [if_neg h'] at h2
    exact h' h2
  refine ⟨h1, h2, fun i hi => ?_⟩
  have h3 := h (44 + 32 * i + 0) (by omega)
  rw [folK_far (by decide), (fol2 _ _ _ _).2, if_pos h2] at h3
  exact h3
/-- All blocks that are there, by rising index. -/
theorem spots_canon {s : Src} {z : List Int} (hz : z.length = 18) (h : AllOk s z) : (rowsAns (rowsL s z)).1 = segS (secK s z) 0 1068 := by
  rw [← rows_same, ansQ_ok h.one h.two h.far]
  have e1 : spotRow ⟨0, (z.drop 4).take 12, 0⟩ = segS (secK s z) 0 12 := by
    refine row_seg (a := 0) (by rw [List.length_take, List.length_drop, hz]; rfl) (fun j hj => ?_)
    unfold secK
    rw [folK_low (by omega), List.getD_eq_getElem?_getD, List.getD_eq_getElem?_getD, List.getElem?_take, if_pos hj, List.getElem?_drop, Nat.zero_add]
    rfl
  have e2 : spotRow ⟨12, (rtabS s (z.getD 16 0)).1, 0⟩ = segS (secK s z) 12 32 := by
    refine row_seg (a := 12) (rtabS_len _ _) (fun j hj => ?_)
    unfold secK
    rw [folK_one (by omega) (by omega), (fol1 _ _ _ _).1]
    congr 1
    omega
  have e3 : ∀ k, k ≤ 32 → farK s (rtabS s (z.getD 17 0)).1 k = segS (secK s z) 44 (32 * k) := by
    intro k
    induction k with
    | zero => intro _; simp [farK, segS]
    | succ k ih =>
      intro hk
      rw [farK_succ, ih (by omega), Nat.mul_succ, seg_app]
      congr 1
      have := row_seg (f := secK s z) (a := 44 + 32 * k) (n := 32) (T := (rtabS s ((rtabS s (z.getD 17 0)).1.getD k 0)).1) (e := 0) (rtabS_len _ _) (fun j hj => by
        unfold secK
        rw [folK_far hj, (fol2 _ _ _ _).1, if_pos h.two]
        rfl)
      rw [← this]
      congr 2
  rw [e1, e2, e3 32 (Nat.le_refl _), show segS (secK s z) 12 32 = segS (secK s z) (0 + 12) 32 from rfl, ← seg_app, show segS (secK s z) 44 (32 * 32) = segS (secK s z) (0 + (12 + 32)) 1024 from rfl, ← seg_app]
theorem seg_len (f : Nat → Int) (n : Nat) : (segS f 0 n).length + ((List.range n).filter (fun k => decide (f k = 0))).length = n := by
  unfold segS
  rw [List.length_map, ← List.range_eq_range']
  have : ∀ l : List Nat, (l.filter (fun k => decide (f k ≠ 0))).length + (l.filter (fun k => decide (f k = 0))).length = l.length := by
    intro l
    induction l with
    | nil => rfl
    | cons x l ih =>
      by_cases hx : f x = 0
      · simp [hx] at ih ⊢; omega
      · simp [hx] at ih ⊢; omega
  rw [this, List.length_range]
theorem tbl_ok {s : Src} {z : List Int} (h : AllOk s z) : (tblR s z).2 = 0 ∧ (tblR s z).1.length = (if z.getD 16 0 = 0 then 0 else 1) + (if z.getD 17 0 = 0 then 0 else 1) + ((List.range 32).filter (nz (rtabS s (z.getD 17 0)).1)).length := by
  by_cases hD : z.getD 17 0 = 0
  · have hr : rtabS s (z.getD 17 0) = (Zp, 0) := if_pos hD
    have hz0 : (List.range 32).filter (nz Zp) = [] := by
      have := there_zero 32
      unfold thereL plc at this
      rw [List.length_replicate] at this
      exact List.map_eq_nil_iff.1 this
    rw [tblR_none hD, hr, hz0, if_pos hD]
    refine ⟨rfl, ?_⟩
    by_cases hS : z.getD 16 0 = 0
    · rw [if_pos hS, if_pos hS]; rfl
    · rw [if_neg hS, if_neg hS]; rfl
  · have hr : rtabS s (z.getD 17 0) = tabS s (z.getD 17 0) := if_neg hD
    have h2 := h.two
    rw [hr] at h2 ⊢
    rw [tblR_ok hD h2, if_neg hD]
    refine ⟨rfl, ?_⟩
    have ht : (thereL (tabS s (z.getD 17 0)).1).length = ((List.range 32).filter (nz (tabS s (z.getD 17 0)).1)).length := by
      rw [there_len, tabS_len]; rfl
    rw [List.length_append, List.length_append, List.length_map, ht]
    by_cases hS : z.getD 16 0 = 0
    · rw [if_pos hS, if_pos hS]; rfl
    · rw [if_neg hS, if_neg hS]; rfl
def allK : List Int := (List.range 1068).map fun (k : Nat) => (k : Int)
theorem allK_good : allK.any badK = false := by
  rw [Bool.eq_false_iff]
  intro h
  obtain ⟨x, hx, hb⟩ := List.any_eq_true.1 h
  obtain ⟨k, hk, rfl⟩ := List.mem_map.1 hx
  have hk : k < 1068 := by simpa using hk
  have : badK (k : Int) = false := by unfold badK; exact decide_eq_false (by omega)
  rw [this] at hb
  cases hb
theorem nodup_map_inj {α β : Type} {f : α → β} : ∀ {l : List α}, l.Nodup → (∀ a ∈ l, ∀ b ∈ l, f a = f b → a = b) → (l.map f).Nodup
  | [], _, _ => List.nodup_nil
  | x :: l, h, hf => by
    obtain ⟨h1, h2⟩ := List.nodup_cons.1 h
    rw [List.map_cons]
    refine List.nodup_cons.2 ⟨fun hm => ?_, nodup_map_inj h2 (fun a ha b hb => hf a (by simp [ha]) b (by simp [hb]))⟩
    obtain ⟨y, hy, e⟩ := List.mem_map.1 hm
    have := hf y (by simp [hy]) x (by simp) e
    exact h1 (this ▸ hy)
/-- What all blocks lack. -/
def lackL (s : Src) (z : List Int) : List (Int × Int) :=
  ((List.range 1068).filter (fun k => decide (secK s z k = 0))).map (fun (k : Nat) => ((0 : Int), (k : Int))) ++ ((if z.getD 16 0 = 0 then [(1, 12)] else []) ++ ((if z.getD 17 0 = 0 then [(2, 44)] else []) ++ ((List.range 32).filter (fun i => !nz (rtabS s (z.getD 17 0)).1 i)).map (fun (i : Nat) => ((1 : Int), 44 + 32 * (i : Int)))))
theorem lack_nodup (s : Src) (z : List Int) : (lackL s z).Nodup := by
  unfold lackL
  refine List.nodup_append.2 ⟨nodup_map_inj (List.nodup_range.filter _) (fun a _ b _ e => by simp at e; omega), List.nodup_append.2 ⟨by split <;> simp, List.nodup_append.2 ⟨by split <;> simp, nodup_map_inj (List.nodup_range.filter _) (fun a _ b _ e => by simp at e; omega), ?_⟩, ?_⟩, ?_⟩
  · intro a ha b hb e
    obtain ⟨i, _, rfl⟩ := List.mem_map.1 hb
    split at ha
    · simp at ha; subst ha; simp at e
    · simp at ha
  · intro a ha b hb e
    have ha : a = (1, 12) := by split at ha <;> simp at ha; exact ha
    subst ha
    rcases List.mem_append.1 hb with hb | hb
    · have hb : b = (2, 44) := by split at hb <;> simp at hb; exact hb
      subst hb; simp at e
    · obtain ⟨i, _, rfl⟩ := List.mem_map.1 hb
      simp at e; omega
  · intro a ha b hb e
    obtain ⟨k, _, rfl⟩ := List.mem_map.1 ha
    rcases List.mem_append.1 hb with hb | hb
    · have hb : b = (1, 12) := by split at hb <;> simp at hb; exact hb
      subst hb; simp at e
    · rcases List.mem_append.1 hb with hb | hb
      · have hb : b = (2, 44) := by split at hb <;> simp at hb; exact hb
        subst hb; simp at e
      · obtain ⟨i, _, rfl⟩ := List.mem_map.1 hb
        simp at e

theorem need_all {s : Src} {z : List Int} (h : AllOk s z) : needR s z allK = (((lackL s z).length : Int), 0) := by
  have hall : ∀ k ∈ allK, (folK s z k).2.2 = 0 := by
    intro k hk
    obtain ⟨j, hj, rfl⟩ := List.mem_map.1 hk
    exact folK_err h j (by simpa using hj)
  suffices hlen : (needL s z allK).length = (lackL s z).length by rw [needR_good allK_good hall, hlen]
  refine len_eq_of_same (needL_nodup _ _ _) (lack_nodup s z) fun p => ?_
  rw [needL_mem hall]
  have hS0 : z.getD 16 0 = 0 → ∀ k : Nat, 12 ≤ k → k < 44 → secK s z k = 0 := by
    intro hS k h1 h2
    unfold secK
    rw [folK_one (by omega) (by omega), (fol1 _ _ _ _).1, show rtabS s (z.getD 16 0) = (Zp, 0) from if_pos hS]
    exact Zp_get _
  have hT0 : ∀ i j : Nat, i < 32 → j < 32 → (rtabS s (z.getD 17 0)).1.getD i 0 = 0 → secK s z (44 + 32 * i + j) = 0 := by
    intro i j hi hj hT
    unfold secK
    rw [folK_far hj, (fol2 _ _ _ _).1, if_pos h.two, Int.toNat_natCast, hT, show rtabS s 0 = (Zp, 0) from if_pos rfl]
    exact Zp_get _
  have hD0 : z.getD 17 0 = 0 → ∀ i : Nat, (rtabS s (z.getD 17 0)).1.getD i 0 = 0 := by
    intro hD i
    rw [show rtabS s (z.getD 17 0) = (Zp, 0) from if_pos hD]
    exact Zp_get _
  unfold lackL
  simp only [List.mem_append, List.mem_map, List.mem_filter, List.mem_range]
  constructor
  · rintro ⟨k, hk, hm⟩
    obtain ⟨j, hj, rfl⟩ := List.mem_map.1 hk
    have hj : j < 1068 := by simpa using hj
    obtain ⟨h0, hp⟩ := (miss_iff (by omega) (by omega) (folK_err h j hj) p).1 hm
    rcases hp with rfl | ⟨_, _, hS, rfl⟩ | ⟨hk44, hDT, rfl⟩ | ⟨_, hD, rfl⟩
    · exact .inl ⟨j, ⟨hj, by unfold secK; simpa using h0⟩, rfl⟩
    · exact .inr (.inl (by rw [if_pos hS]; simp))
    · refine .inr (.inr (.inr ⟨(j - 44) / 32, ⟨by omega, ?_⟩, ?_⟩))
      · have e : (((j : Int) - 44).tdiv 32).toNat = (j - 44) / 32 := by rw [Int.tdiv_eq_ediv_of_nonneg (by omega)]; omega
        have hT : (rtabS s (z.getD 17 0)).1.getD ((j - 44) / 32) 0 = 0 := by
          rcases hDT with hD | hT
          · exact hD0 hD _
          · unfold farT at hT; rw [e] at hT; exact hT
        unfold nz
        rw [hT]
        rfl
      · rw [Prod.mk.injEq]; exact ⟨rfl, by omega⟩
    · exact .inr (.inr (.inl (by rw [if_pos hD]; simp)))
  · rintro (⟨k, ⟨hk, h0⟩, rfl⟩ | hp | hp | ⟨i, ⟨hi, hT⟩, rfl⟩)
    · have h0 : secK s z k = 0 := by simpa using h0
      exact ⟨(k : Int), List.mem_map.2 ⟨k, by simpa using hk, rfl⟩, (miss_iff (by omega) (by omega) (folK_err h k hk) _).2 ⟨h0, .inl rfl⟩⟩
    · by_cases hS : z.getD 16 0 = 0
      · rw [if_pos hS] at hp
        have hp : p = (1, 12) := by simpa using hp
        subst hp
        exact ⟨((12 : Nat) : Int), List.mem_map.2 ⟨12, by simp, rfl⟩, (miss_iff (by decide) (by decide) (folK_err h 12 (by decide)) _).2 ⟨hS0 hS 12 (by decide) (by decide), .inr (.inl ⟨by decide, by decide, hS, rfl⟩)⟩⟩
      · rw [if_neg hS] at hp; simp at hp
    · by_cases hD : z.getD 17 0 = 0
      · rw [if_pos hD] at hp
        have hp : p = (2, 44) := by simpa using hp
        subst hp
        exact ⟨((44 : Nat) : Int), List.mem_map.2 ⟨44, by simp, rfl⟩, (miss_iff (by decide) (by decide) (folK_err h 44 (by decide)) _).2 ⟨hT0 0 0 (by decide) (by decide) (hD0 hD 0), .inr (.inr (.inr ⟨by decide, hD, rfl⟩))⟩⟩
      · rw [if_neg hD] at hp; simp at hp
    · have hT : (rtabS s (z.getD 17 0)).1.getD i 0 = 0 := by simpa [nz] using hT
      have hi : i < 32 := hi
      refine ⟨((44 + 32 * i + 0 : Nat) : Int), List.mem_map.2 ⟨44 + 32 * i + 0, by simp; omega, rfl⟩, (miss_iff (by omega) (by omega) (folK_err h _ (by omega)) _).2 ⟨hT0 i 0 hi (by decide) hT, .inr (.inr (.inl ⟨by omega, .inr ?_, ?_⟩))⟩⟩
      · unfold farT
        rw [show ((((44 + 32 * i + 0 : Nat) : Int) - 44).tdiv 32).toNat = i by rw [Int.tdiv_eq_ediv_of_nonneg (by omega)]; omega]
        exact hT
      · rw [Prod.mk.injEq]; exact ⟨rfl, by omega⟩
/-- All blocks and tables together. -/
theorem all_sum {s : Src} {z : List Int} (hz : z.length = 18) (h : AllOk s z) : (needR s z allK).1 + ((rowsAns (rowsL s z)).1.length : Int) + ((tblR s z).1.length : Int) = 1102 := by
  rw [need_all h, spots_canon hz h, (tbl_ok h).2]
  have h1 := seg_len (secK s z) 1068
  have h2 : ∀ (q : Nat → Bool) (l : List Nat), (l.filter q).length + (l.filter (fun i => !q i)).length = l.length := by
    intro q l
    induction l with
    | nil => rfl
    | cons x l ih =>
      by_cases hx : q x = true
      · simp [hx] at ih ⊢; omega
      · simp [hx] at ih ⊢; omega
  have h3 := h2 (nz (rtabS s (z.getD 17 0)).1) (List.range 32)
  rw [List.length_range] at h3
  unfold lackL
  simp only [List.length_append, List.length_map]
  have e1 : (if z.getD 16 0 = 0 then [((1 : Int), (12 : Int))] else []).length + (if z.getD 16 0 = 0 then 0 else 1) = 1 := by split <;> rfl
  have e2 : (if z.getD 17 0 = 0 then [((2 : Int), (44 : Int))] else []).length + (if z.getD 17 0 = 0 then 0 else 1) = 1 := by split <;> rfl
  omega
theorem need_bad {s : Src} {z : List Int} (h : ¬ AllOk s z) : (needR s z allK).2 ≠ 0 := by
  intro he
  apply h
  refine allOk_of fun k hk => ?_
  exact (needR_iff he).2.1 _ (List.mem_map.2 ⟨k, by simpa using hk, rfl⟩)

end Go.Proofs.Ytjlhmojofjkkdab
