/-
  What Need counts: the parts that are missing.
-/
import Derived.Test.YtjlhmojofjkkdabE1
import Derived.Test.YtjlhmojofjkkdabE4
-- may lack
namespace Go.Proofs.Ytjlhmojofjkkdab
open Go.RowKit Go.Shelf

theorem insP_mem {M : List (Int × Int)} {p q : Int × Int} : q ∈ insP M p ↔ q ∈ M ∨ q = p := by
  unfold insP
  by_cases h : p ∈ M
  · rw [if_pos h]
    exact ⟨.inl, fun h' => h'.elim id (fun e => e ▸ h)⟩
  · rw [if_neg h]; simp
theorem insP_nodup {M : List (Int × Int)} {p : Int × Int} (h : M.Nodup) : (insP M p).Nodup := by
  unfold insP
  by_cases hp : p ∈ M
  · rw [if_pos hp]; exact h
  · rw [if_neg hp]
    exact List.nodup_append.2 ⟨h, by simp, fun a ha b hb e => by simp at hb; subst hb; subst e; exact hp ha⟩
theorem addP_mem : ∀ (l M : List (Int × Int)) (q : Int × Int), q ∈ addP M l ↔ q ∈ M ∨ q ∈ l
  | [], M, q => by simp [addP]
  | p :: l, M, q => by
    have ih := addP_mem l (insP M p) q
    unfold addP at *
    rw [List.foldl_cons, ih, insP_mem]
    simp only [List.mem_cons]
    constructor
    · rintro ((h | h) | h)
      · exact .inl h
      · exact .inr (.inl h)
      · exact .inr (.inr h)
    · rintro (h | h | h)
      · exact .inl (.inl h)
      · exact .inl (.inr h)
      · exact .inr h
theorem addP_nodup : ∀ (l M : List (Int × Int)), M.Nodup → (addP M l).Nodup
  | [], _, h => h
  | p :: l, M, h => by
    unfold addP
    rw [List.foldl_cons]
    exact addP_nodup l (insP M p) (insP_nodup h)
/-- A part that a block lacks. -/
def Miss (s : Src) (z : List Int) (k : Int) (p : Int × Int) : Prop := (folK s z k).1 = 0 ∧ p ∈ (ptsL k).drop (folK s z k).2.1.toNat
theorem needM_ok (s : Src) (z : List Int) : ∀ (ks : List Int) (M : List (Int × Int)), (needM s z ks M).2 = 0 ↔ ∀ k ∈ ks, (folK s z k).2.2 = 0
  | [], M => by simp [needM]
  | k :: ks, M => by
    unfold needM
    by_cases h : (folK s z k).2.2 = 0
    · rw [if_pos h, needM_ok s z ks]
      simp [h]
    · rw [if_neg h]
      simp [h]
theorem needM_mem (s : Src) (z : List Int) : ∀ (ks : List Int) (M : List (Int × Int)), (∀ k ∈ ks, (folK s z k).2.2 = 0) → ∀ p, p ∈ (needM s z ks M).1 ↔ p ∈ M ∨ ∃ k ∈ ks, Miss s z k p
  | [], M, _, p => by simp [needM]
  | k :: ks, M, h, p => by
    unfold needM
    rw [if_pos (h k (by simp)), needM_mem s z ks _ (fun x hx => h x (by simp [hx])) p]
    have hm : p ∈ (if (folK s z k).1 = 0 then addP M ((ptsL k).drop (folK s z k).2.1.toNat) else M) ↔ p ∈ M ∨ Miss s z k p := by
      unfold Miss
      by_cases h0 : (folK s z k).1 = 0
      · rw [if_pos h0, addP_mem]; simp [h0]
      · rw [if_neg h0]; simp [h0]
    rw [hm]
    constructor
    · rintro ((hq | hq) | ⟨x, hx, hq⟩)
      · exact .inl hq
      · exact .inr ⟨k, by simp, hq⟩
      · exact .inr ⟨x, by simp [hx], hq⟩
    · rintro (hq | ⟨x, hx, hq⟩)
      · exact .inl (.inl hq)
      · rcases List.mem_cons.1 hx with hxk | hx
        · exact .inl (.inr (hxk ▸ hq))
        · exact .inr ⟨x, hx, hq⟩
theorem needM_nodup (s : Src) (z : List Int) : ∀ (ks : List Int) (M : List (Int × Int)), M.Nodup → (needM s z ks M).1.Nodup
  | [], M, h => h
  | k :: ks, M, h => by
    unfold needM
    split
    · refine needM_nodup s z ks _ ?_
      split
      · exact addP_nodup _ _ h
      · exact h
    · exact List.nodup_nil
/-- The parts that these lack. -/
def needL (s : Src) (z : List Int) (ks : List Int) : List (Int × Int) := (needM s z ks []).1
theorem needL_nodup (s : Src) (z ks : List Int) : (needL s z ks).Nodup := needM_nodup s z ks [] List.nodup_nil
theorem needR_iff {s : Src} {z ks : List Int} (h : (needR s z ks).2 = 0) : ks.any badK = false ∧ (∀ k ∈ ks, (folK s z k).2.2 = 0) ∧ needR s z ks = (((needL s z ks).length : Int), 0) := by
  unfold needR at h ⊢
  by_cases h1 : ks.any badK = true
  · rw [if_pos h1] at h; simp at h
  · rw [if_neg h1] at h ⊢
    by_cases h2 : (needM s z ks []).2 = 0
    · rw [if_pos h2]
      exact ⟨by simpa using h1, (needM_ok s z ks []).1 h2, rfl⟩
    · rw [if_neg h2] at h; exact absurd h h2
theorem needR_good {s : Src} {z ks : List Int} (h1 : ks.any badK = false) (h2 : ∀ k ∈ ks, (folK s z k).2.2 = 0) : needR s z ks = (((needL s z ks).length : Int), 0) := by
  unfold needR
  rw [if_neg (by rw [h1]; decide), if_pos ((needM_ok s z ks []).2 h2)]
  rfl
theorem needL_mem {s : Src} {z ks : List Int} (h2 : ∀ k ∈ ks, (folK s z k).2.2 = 0) (p : Int × Int) : p ∈ needL s z ks ↔ ∃ k ∈ ks, Miss s z k p := by
  unfold needL
  rw [needM_mem s z ks [] h2 p]
  simp
theorem len_le_of_sub {α : Type} [DecidableEq α] : ∀ (l L : List α), l.Nodup → (∀ x, x ∈ l → x ∈ L) → l.length ≤ L.length
  | [], _, _, _ => Nat.zero_le _
  | x :: l, L, hp, hs => by
    obtain ⟨h1, h2⟩ := List.nodup_cons.1 hp
    have hx : x ∈ L := hs x (by simp)
    have := len_le_of_sub l (L.erase x) h2 (fun y hy => (List.mem_erase_of_ne (fun e => by subst e; exact h1 hy)).2 (hs y (by simp [hy])))
    rw [List.length_erase_of_mem hx] at this
    have := List.length_pos_of_mem hx
    simp
    omega
theorem len_eq_of_same {α : Type} [DecidableEq α] {l L : List α} (h1 : l.Nodup) (h2 : L.Nodup) (h : ∀ x, x ∈ l ↔ x ∈ L) : l.length = L.length :=
  Nat.le_antisymm (len_le_of_sub l L h1 (fun x hx => (h x).1 hx)) (len_le_of_sub L l h2 (fun x hx => (h x).2 hx))

/-- A block's way, by what its tables say. -/
theorem folK_low {s : Src} {z : List Int} {k : Int} (h1 : k < 12) : folK s z k = (z.getD (4 + k.toNat) 0, 0, 0) := by
  unfold folK bgW plW
  rw [if_pos h1, if_pos h1]
  rfl
theorem folK_one {s : Src} {z : List Int} {k : Int} (h1 : ¬ k < 12) (h2 : k < 44) : folK s z k = folW s (z.getD 16 0) [k - 12] 0 := by
  unfold folK bgW plW
  rw [if_neg h1, if_neg h1, if_pos h2, if_pos h2]
theorem folK_two {s : Src} {z : List Int} {k : Int} (h1 : ¬ k < 12) (h2 : ¬ k < 44) : folK s z k = folW s (z.getD 17 0) [(k - 44).tdiv 32, (k - 44) % 32] 0 := by
  unfold folK bgW plW
  rw [if_neg h1, if_neg h1, if_neg h2, if_neg h2]
theorem fol1_gone (s : Src) (n p : Int) (g : Nat) (he : (folW s n [p] g).2.2 = 0) : (folW s n [p] g).2.1 = if n = 0 then (g : Int) else (g + 1 : Nat) := by
  unfold folW at he ⊢
  by_cases h : n = 0
  · rw [if_pos h, if_pos h]
  · rw [if_neg h] at he ⊢
    rw [if_neg h]
    by_cases h2 : (tabS s n).2 = 0
    · rw [if_pos h2]; rfl
    · rw [if_neg h2] at he; exact absurd he h2
theorem fol2_gone (s : Src) (n p q : Int) (he : (folW s n [p, q] 0).2.2 = 0) : (folW s n [p, q] 0).2.1 = if n = 0 then 0 else if (rtabS s n).1.getD p.toNat 0 = 0 then 1 else 2 := by
  have e : folW s n [p, q] 0 = if n = 0 then (0, 0, 0) else if (tabS s n).2 = 0 then folW s ((tabS s n).1.getD p.toNat 0) [q] 1 else (0, 0, (tabS s n).2) := rfl
  rw [e] at he ⊢
  by_cases h : n = 0
  · rw [if_pos h, if_pos h]
  · rw [if_neg h] at he ⊢
    rw [if_neg h, show rtabS s n = tabS s n from if_neg h]
    by_cases h2 : (tabS s n).2 = 0
    · rw [if_pos h2] at he ⊢
      rw [fol1_gone s _ q 1 he]
      rfl
    · rw [if_neg h2] at he; exact absurd he h2
/-- The table of which a far block hangs. -/
def farT (s : Src) (z : List Int) (k : Int) : Int := (rtabS s (z.getD 17 0)).1.getD ((k - 44).tdiv 32).toNat 0
theorem miss_iff {s : Src} {z : List Int} {k : Int} (hk0 : 0 ≤ k) (hk : k < 1068) (he : (folK s z k).2.2 = 0) (p : Int × Int) : Miss s z k p ↔ (folK s z k).1 = 0 ∧ (p = (0, k) ∨ (12 ≤ k ∧ k < 44 ∧ z.getD 16 0 = 0 ∧ p = (1, 12)) ∨ (44 ≤ k ∧ (z.getD 17 0 = 0 ∨ farT s z k = 0) ∧ p = (1, k - (k - 44) % 32)) ∨ (44 ≤ k ∧ z.getD 17 0 = 0 ∧ p = (2, 44))) := by
  unfold Miss
  refine and_congr_right fun h0 => ?_
  by_cases h1 : k < 12
  · have hg : (folK s z k).2.1 = 0 := by rw [folK_low h1]
    rw [hg]
    unfold ptsL
    rw [if_pos h1]
    simp only [Int.toNat_zero, List.drop_zero, List.mem_singleton]
    constructor
    · exact .inl
    · rintro (h | ⟨h, _⟩ | ⟨h, _⟩ | ⟨h, _⟩)
      · exact h
      · omega
      · omega
      · omega
  · by_cases h2 : k < 44
    · rw [folK_one h1 h2] at he
      have hg := fol1_gone s _ _ 0 he
      rw [folK_one h1 h2, hg]
      unfold ptsL
      rw [if_neg h1, if_pos h2]
      by_cases hS : z.getD 16 0 = 0
      · rw [if_pos hS]
        simp only [Int.toNat_natCast, List.drop_zero, List.mem_cons, List.not_mem_nil, or_false]
        constructor
        · rintro (h | h)
          · exact .inr (.inl ⟨by omega, h2, hS, h⟩)
          · exact .inl h
        · rintro (h | ⟨_, _, _, h⟩ | ⟨h, _⟩ | ⟨h, _⟩)
          · exact .inr h
          · exact .inl h
          · omega
          · omega
      · rw [if_neg hS]
        simp only [Int.toNat_natCast, Nat.zero_add, List.drop_succ_cons, List.drop_zero, List.mem_cons, List.not_mem_nil, or_false]
        constructor
        · exact .inl
        · rintro (h | ⟨_, _, h, _⟩ | ⟨h, _⟩ | ⟨h, _⟩)
          · exact h
          · exact absurd h hS
          · omega
          · omega
    · rw [folK_two h1 h2] at he
      have hg := fol2_gone s _ _ _ he
      rw [folK_two h1 h2, hg]
      unfold ptsL
      rw [if_neg h1, if_neg h2]
      by_cases hD : z.getD 17 0 = 0
      · rw [if_pos hD]
        simp only [Int.toNat_zero, List.drop_zero, List.mem_cons, List.not_mem_nil, or_false]
        constructor
        · rintro (h | h | h)
          · exact .inr (.inr (.inr ⟨by omega, hD, h⟩))
          · exact .inr (.inr (.inl ⟨by omega, .inl hD, h⟩))
          · exact .inl h
        · rintro (h | ⟨_, h, _⟩ | ⟨_, _, h⟩ | ⟨_, _, h⟩)
          · exact .inr (.inr h)
          · omega
          · exact .inr (.inl h)
          · exact .inl h
      · rw [if_neg hD]
        by_cases hT : farT s z k = 0
        · rw [if_pos (show (rtabS s (z.getD 17 0)).1.getD ((k - 44).tdiv 32).toNat 0 = 0 from hT)]
          simp only [Int.toNat_one, List.drop_succ_cons, List.drop_zero, List.mem_cons, List.not_mem_nil, or_false]
          constructor
          · rintro (h | h)
            · exact .inr (.inr (.inl ⟨by omega, .inr hT, h⟩))
            · exact .inl h
          · rintro (h | ⟨_, h, _⟩ | ⟨_, _, h⟩ | ⟨_, h, _⟩)
            · exact .inr h
            · omega
            · exact .inl h
            · exact absurd h hD
        · rw [if_neg (show ¬ (rtabS s (z.getD 17 0)).1.getD ((k - 44).tdiv 32).toNat 0 = 0 from hT)]
          rw [show (2 : Int).toNat = 2 from rfl]
          simp only [List.drop_succ_cons, List.drop_zero, List.mem_cons, List.not_mem_nil, or_false]
          constructor
          · exact .inl
          · rintro (h | ⟨_, h, _⟩ | ⟨_, h, _⟩ | ⟨_, h, _⟩)
            · exact h
            · omega
            · rcases h with h | h
              · exact absurd h hD
              · exact absurd h hT
            · exact absurd h hD

end Go.Proofs.Ytjlhmojofjkkdab
