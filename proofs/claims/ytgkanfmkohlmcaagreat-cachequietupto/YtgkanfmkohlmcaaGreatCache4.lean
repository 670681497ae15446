/-
  drain; dirtyOf: those of a list that are dirty, rising, each once.
-/
import Derived.Test.YtgkanfmkohlmcaaGreatCache3
namespace Go.Proofs.YtgkanfmkohlmcaaGreat
open Go.RowKit Go.Sort Go.Lib

variable {w : World} {c p g n : Nat} {ρ : Nat → Option Role} {z : CSt}

theorem comp_spec (d : Array Int) (hs : ∀ i j, i < j → j < d.size → d[i]! ≤ d[j]!) : ∀ m, m ≤ d.size → (compactUpTo d m).Pairwise (· < ·) ∧ ∀ x, x ∈ compactUpTo d m ↔ ∃ j, j < m ∧ d[j]! = x
  | 0, _ => by simp [compactUpTo]
  | m + 1, hm => by
    obtain ⟨h1, h2⟩ := comp_spec d hs m (by omega)
    rw [compactUpTo_succ]
    by_cases hk : keeps d m = true
    · rw [if_pos hk]
      refine ⟨?_, fun x => ?_⟩
      · rw [List.pairwise_append]
        refine ⟨h1, by simp, fun a ha b hb => ?_⟩
        simp at hb
        subst hb
        obtain ⟨j, hj, rfl⟩ := (h2 a).1 ha
        have hk2 : m = 0 ∨ d[m]! ≠ d[m - 1]! := by simpa [keeps] using hk
        rcases hk2 with e | e
        · omega
        · have e1 := hs (m - 1) m (by omega) (by omega)
          by_cases hj2 : j = m - 1
          · subst hj2; omega
          · have e2 := hs j (m - 1) (by omega) (by omega)
            omega
      · rw [List.mem_append, h2]
        simp
        constructor
        · rintro (⟨j, hj, e⟩ | e)
          · exact ⟨j, by omega, e⟩
          · exact ⟨m, by omega, e.symm⟩
        · rintro ⟨j, hj, e⟩
          by_cases hj2 : j = m
          · subst hj2; exact .inr e.symm
          · exact .inl ⟨j, by omega, e⟩
    · rw [if_neg hk, List.append_nil]
      have hk2 : ¬ m = 0 ∧ d[m]! = d[m - 1]! := by simpa [keeps] using hk
      refine ⟨h1, fun x => ?_⟩
      rw [h2]
      constructor
      · rintro ⟨j, hj, e⟩
        exact ⟨j, by omega, e⟩
      · rintro ⟨j, hj, e⟩
        by_cases hj2 : j = m
        · subst hj2
          exact ⟨j - 1, by omega, by rw [← hk2.2]; exact e⟩
        · exact ⟨j, by omega, e⟩
/-- A list that was sorted, each once. -/
def compI (l : List Int) : List Int := compactUpTo (sortI l).toArray (sortI l).length
theorem sortI_le (l : List Int) : (sortI l).Pairwise (· ≤ ·) := by
  have h1 : (sortI l).Pairwise (fun x y => decide (x ≤ y) = true) := List.pairwise_mergeSort (fun a b c h1 h2 => by simp at *; omega) (fun a b => by simp; omega) l
  exact h1.imp fun {a b} h => by simpa using h
theorem compI_spec (l : List Int) : (compI l).Pairwise (· < ·) ∧ ∀ x, x ∈ compI l ↔ x ∈ l := by
  have h := comp_spec (sortI l).toArray (fun i j hij hj => by
    have hj' : j < (sortI l).length := by simpa using hj
    have h := List.pairwise_iff_getElem.1 (sortI_le l) i j (by omega) hj' hij
    simpa [hj', show i < (sortI l).length by omega] using h) (sortI l).length (by simp)
  refine ⟨h.1, fun x => ?_⟩
  unfold compI
  rw [h.2, ← sortI_mem]
  constructor
  · rintro ⟨j, hj, e⟩
    rw [← e]
    simp [hj]
  · intro hx
    obtain ⟨j, hj, e⟩ := List.getElem_of_mem hx
    exact ⟨j, hj, by simp [hj, e]⟩
theorem compactUpTo_len {α : Type} [Inhabited α] [DecidableEq α] (d : Array α) (m : Nat) : (compactUpTo d m).length ≤ m := by
  unfold compactUpTo
  rw [List.length_map]
  refine Nat.le_trans (List.length_filter_le _ _) ?_
  simp

set_option maxRecDepth 100000 in
set_option maxHeartbeats 1000000 in
theorem compact_none (w : World) : Calls Tryz.prog 66 #[.slice none 0 0] w fun e w' => e = .returned (.slice none 0 0) ∧ w' = w := by
  go_enter Tryz.func66, Tryz.ntmps66
  go_wp2
  go_ret
  exact ⟨rfl, rfl⟩
theorem compact_ints (w : World) (base : Nat) (v : Value) (l : List Int) (h : Ints w base v (sortI l)) (hl : l.length ≤ 1000000000000) : Calls Tryz.prog 66 #[v] w fun e w' =>
    ∃ v', e = .returned v' ∧ Ints w' base v' (compI l) ∧ Chg w w' (fun k => v.ownBlock = some k) := by
  have hsl := sortI_len l
  rcases h.2 with ⟨rfl, h0⟩ | ⟨g, cap, cur, rfl, hge, hb, h1, h2, h3, h4⟩
  · refine (compact_none w).mono ?_
    rintro e w' ⟨rfl, rfl⟩
    have e0 : compI l = [] := by
      unfold compI
      rw [h0]
      rfl
    rw [e0]
    exact ⟨_, rfl, World.ownsRow_nil _ _ _ _, Chg.refl _ _⟩
  · have hH : Holds (Value.int .i64) w g 0 (sortI l).toArray := row_holds hb (by rw [← h4, Nat.mul_one])
    have hc := AnyE.slices_Compact layCompact (Value.int .i64) (fun _ => rfl) (EqlAt.intD _ _ _) (NeqAt.intD _ _ _) (0 : Int) Tryz.zeroValue3 g 0 cap (sortI l).toArray w hH (by simp; omega) (by simpa using h1)
    change Calls Tryz.prog 66 _ _ _ at hc
    rw [show (sortI l).toArray.size = (sortI l).length by simp] at hc
    refine hc.mono ?_
    rintro e w' ⟨rfl, q, rfl⟩
    have e1 : compactUpTo (sortI l).toArray (sortI l).length = compI l := rfl
    have e2 := compactUpTo_len (sortI l).toArray (sortI l).length
    rw [e1] at e2 ⊢
    exact ⟨_, rfl, ints_put (q := q) (compI l) (List.replicate ((sortI l).length - (compI l).length) 0) hge hb (by rw [List.length_replicate]; omega) h2 h3, (putRow_chg _).mono fun j _ e => by rw [e]; rfl⟩

end Go.Proofs.YtgkanfmkohlmcaaGreat
