/-
  What a Things that is handed in looks like: 53 numbers and a text.
-/
import Derived.Test.YtligeanfgeajoabOpenP
namespace Go.Proofs.Ytligeanfgeajoab
open Go.ChangeShapes Go.WideShapes Go.ChangeAt Go.RowKit Go.Joins

set_option maxRecDepth 100000
def thL (a b : Int) (z x : List Int) (n : Int) (s : ByteArray) : List Value := [.int .i64 a, .int .i64 b] ++ (z.map (Value.int .i64) ++ (x.map (Value.int .i64) ++ [.int .i64 n, .string s]))

section
variable {H : Type} {enc : TypeId × Value → H} {W : World} {b1 : Nat} {spare : Nat → Bool} {held : Bool}
theorem int_leaf {cs : List Value} {o n : Nat} {y : DataW H × List MemPlace} (h : DataW.trod enc Try.prog W b1 spare held n 3 ((cs.drop o).take 1) = some y) : ∃ v : Int, cs[o]? = some (.int .i64 v) := by
  obtain ⟨v, hv, _, _⟩ := DataW.trod_int Try.underlying3 h
  refine ⟨v, ?_⟩
  have h2 : ((cs.drop o).take 1)[0]? = some (.int .i64 v) := by rw [hv]; rfl
  simpa using h2
theorem sub_get {cs : List Value} {o m i : Nat} {v : Value} (h : ((cs.drop o).take m)[i]? = some v) : cs[o + i]? = some v := by
  rw [List.getElem?_take] at h
  split at h
  · rw [List.getElem?_drop] at h; exact h
  · cases h
theorem some_of {α : Type} {xs : List α} {i k : Nat} (h : xs.length = k) (hi : i < k) : ∃ y, xs[i]? = some y := ⟨_, List.getElem?_eq_getElem (by omega)⟩

theorem things_cells {cs : List Value} {fuel : Nat} {x : DataW H × List MemPlace} (h : DataW.trod enc Try.prog W b1 spare held fuel 32 cs = some x) :
    cs.length = 54 ∧ (∀ i, i < 53 → ∃ v : Int, cs[i]? = some (.int .i64 v)) ∧ ∃ s : ByteArray, cs[53]? = some (.string s) := by
  obtain ⟨xs, n, _, _, hl, hxl, hf⟩ := DataW.trod_struct Try.underlying32 h
  have hl54 : cs.length = 54 := hl.trans (by kernel_rfl)
  refine ⟨hl54, ?_, ?_⟩
  · intro i hi
    by_cases c0 : i < 2
    · obtain ⟨y, hy⟩ := some_of hxl (i := 0) (by decide)
      have h0 := hf 0 _ rfl
      rw [hy] at h0
      obtain ⟨ys, m, _, _, _, hyl, hg⟩ := DataW.trod_struct Try.underlying23 h0
      have key : ∀ j, j < 2 → ∃ v : Int, ((cs.drop 0).take 2)[j]? = some (.int .i64 v) := by
        intro j hj
        obtain ⟨u, hu⟩ := some_of hyl (i := j) hj
        match j, hj with
        | 0, _ => have h1 := hg 0 _ rfl; rw [hu] at h1; exact int_leaf h1
        | 1, _ => have h1 := hg 1 _ rfl; rw [hu] at h1; exact int_leaf h1
      obtain ⟨v, hv⟩ := key i c0
      exact ⟨v, by have := sub_get hv; simpa using this⟩
    by_cases c1 : i < 20
    · obtain ⟨y, hy⟩ := some_of hxl (i := 1) (by decide)
      have h0 := hf 1 _ rfl
      rw [hy] at h0
      obtain ⟨ys, m, _, _, _, hyl, hg⟩ := DataW.trod_struct Try.underlying26 h0
      have arr : ∀ j, j < 12 → ∃ v : Int, ((cs.drop 2).take 18)[4 + j]? = some (.int .i64 v) := by
        intro j hj
        obtain ⟨u, hu⟩ := some_of hyl (i := 4) (by decide)
        have h1 := hg 4 _ rfl
        rw [hu] at h1
        obtain ⟨z, hz, _, he⟩ := ints_of_trod (n := 12) (by kernel_rfl) (by kernel_rfl) h1
        refine ⟨z.getD j 0, ?_⟩
        have h2 : ((((cs.drop 2).take 18).drop 4).take 12)[j]? = some (.int .i64 (z.getD j 0)) := by
          have e : (((cs.drop 2).take 18).drop 4).take 12 = z.map (Value.int .i64) := he
          rw [e, List.getElem?_map, List.getElem?_eq_getElem (by omega)]
          simp [List.getD, List.getElem?_eq_getElem (show j < z.length by omega)]
        exact sub_get h2
      have key : ∀ j, j < 18 → ∃ v : Int, ((cs.drop 2).take 18)[j]? = some (.int .i64 v) := by
        intro j hj
        by_cases d : 4 ≤ j ∧ j < 16
        · obtain ⟨v, hv⟩ := arr (j - 4) (by omega)
          exact ⟨v, by rw [show 4 + (j - 4) = j by omega] at hv; exact hv⟩
        · have hj' : j = 0 ∨ j = 1 ∨ j = 2 ∨ j = 3 ∨ j = 16 ∨ j = 17 := by omega
          rcases hj' with rfl | rfl | rfl | rfl | rfl | rfl
          · obtain ⟨u, hu⟩ := some_of hyl (i := 0) (by decide)
            have h1 := hg 0 _ rfl; rw [hu] at h1; exact int_leaf h1
          · obtain ⟨u, hu⟩ := some_of hyl (i := 1) (by decide)
            have h1 := hg 1 _ rfl; rw [hu] at h1; exact int_leaf h1
          · obtain ⟨u, hu⟩ := some_of hyl (i := 2) (by decide)
            have h1 := hg 2 _ rfl; rw [hu] at h1; exact int_leaf h1
          · obtain ⟨u, hu⟩ := some_of hyl (i := 3) (by decide)
            have h1 := hg 3 _ rfl; rw [hu] at h1; exact int_leaf h1
          · obtain ⟨u, hu⟩ := some_of hyl (i := 5) (by decide)
            have h1 := hg 5 _ rfl; rw [hu] at h1; exact int_leaf h1
          · obtain ⟨u, hu⟩ := some_of hyl (i := 6) (by decide)
            have h1 := hg 6 _ rfl; rw [hu] at h1; exact int_leaf h1
      obtain ⟨v, hv⟩ := key (i - 2) (by omega)
      exact ⟨v, by have := sub_get hv; rw [show 2 + (i - 2) = i by omega] at this; exact this⟩
    by_cases c2 : i < 52
    · obtain ⟨y, hy⟩ := some_of hxl (i := 2) (by decide)
      have h0 := hf 2 _ rfl
      rw [hy] at h0
      obtain ⟨z, hz, _, he⟩ := ints_of_trod (n := 32) (by kernel_rfl) (by kernel_rfl) h0
      refine ⟨z.getD (i - 20) 0, ?_⟩
      have h2 : ((cs.drop 20).take 32)[i - 20]? = some (.int .i64 (z.getD (i - 20) 0)) := by
        have e : (cs.drop 20).take 32 = z.map (Value.int .i64) := he
        rw [e, List.getElem?_map, List.getElem?_eq_getElem (by omega)]
        simp [List.getD, List.getElem?_eq_getElem (show i - 20 < z.length by omega)]
      have := sub_get h2
      rw [show 20 + (i - 20) = i by omega] at this
      exact this
    · obtain rfl : i = 52 := by omega
      obtain ⟨y, hy⟩ := some_of hxl (i := 3) (by decide)
      have h0 := hf 3 _ rfl
      rw [hy] at h0
      obtain ⟨ys, m, _, _, _, hyl, hg⟩ := DataW.trod_struct Try.underlying30 h0
      obtain ⟨u, hu⟩ := some_of hyl (i := 0) (by decide)
      have h1 := hg 0 _ rfl
      rw [hu] at h1
      obtain ⟨v, hv⟩ := int_leaf h1
      exact ⟨v, sub_get hv⟩
  · obtain ⟨y, hy⟩ := some_of hxl (i := 3) (by decide)
    have h0 := hf 3 _ rfl
    rw [hy] at h0
    obtain ⟨ys, m, _, _, _, hyl, hg⟩ := DataW.trod_struct Try.underlying30 h0
    obtain ⟨u, hu⟩ := some_of hyl (i := 1) (by decide)
    have h1 := hg 1 _ rfl
    rw [hu] at h1
    obtain ⟨s, hs, _, _⟩ := DataW.trod_string Try.underlying9 h1
    refine ⟨s, ?_⟩
    have h2 : ((((cs.drop 52).take 2).drop 1).take 1)[0]? = some (.string s) := by
      have e : (((cs.drop 52).take 2).drop 1).take 1 = [.string s] := hs
      rw [e]; rfl
    have h3 := sub_get h2
    exact sub_get h3

theorem open_things {r : Reach} {b0 : Nat} {v : Value} {d : DataW H} {p : List MemPlace}
    (hv : Value.okWide Try.prog W r b0 32 v) (h : DataW.Trod enc Try.prog W b1 spare held 32 v d p) : ∃ (a b : Int) (z x : List Int) (n : Int) (s : ByteArray), z.length = 18 ∧ x.length = 32 ∧ v = .agg (thL a b z x n s).toArray := by
  obtain ⟨cs, rfl, _⟩ := okWide_struct Try.underlying32 hv
  obtain ⟨fuel, hf⟩ := h
  obtain ⟨hl, hi, s, hs⟩ := things_cells hf
  have hcs : Value.cells (.agg cs) = cs := rfl
  rw [hcs] at hl hi hs
  let f : Nat → Int := fun i => match cs.toList[i]? with | some (.int _ y) => y | _ => 0
  have hfi : ∀ i, i < 53 → cs.toList[i]? = some (.int .i64 (f i)) := fun i h => by
    obtain ⟨v, hv⟩ := hi i h
    have : f i = v := by show (match cs.toList[i]? with | some (.int _ y) => y | _ => 0) = v; rw [hv]
    rw [this]; exact hv
  refine ⟨f 0, f 1, (List.range 18).map (fun j => f (2 + j)), (List.range 32).map (fun j => f (20 + j)), f 52, s, by simp, by simp, ?_⟩
  congr 1
  apply Array.toList_inj.1
  apply List.ext_getElem?
  intro i
  unfold thL
  show cs.toList[i]? = _
  by_cases c0 : i < 2
  · rw [hfi i (by omega)]
    have : i = 0 ∨ i = 1 := by omega
    rcases this with rfl | rfl <;> rfl
  rw [List.getElem?_append_right (by simp; omega)]
  simp only [List.length_cons, List.length_nil]
  by_cases c1 : i < 20
  · rw [List.getElem?_append_left (by simp; omega), hfi i (by omega)]
    simp only [List.getElem?_map, List.getElem?_range (show i - (0 + 1 + 1) < 18 by omega), Option.map_some]
    congr 3; omega
  rw [List.getElem?_append_right (by simp; omega)]
  simp only [List.length_map, List.length_range]
  by_cases c2 : i < 52
  · rw [List.getElem?_append_left (by simp; omega), hfi i (by omega)]
    simp only [List.getElem?_map, List.getElem?_range (show i - (0 + 1 + 1) - 18 < 32 by omega), Option.map_some]
    congr 3; omega
  rw [List.getElem?_append_right (by simp; omega)]
  simp only [List.length_map, List.length_range]
  by_cases c3 : i = 52
  · subst c3; rw [hfi 52 (by omega)]; rfl
  by_cases c4 : i = 53
  · subst c4; rw [hs]; rfl
  · rw [List.getElem?_eq_none (by omega), List.getElem?_eq_none (by simp; omega)]
end

end Go.Proofs.Ytligeanfgeajoab
