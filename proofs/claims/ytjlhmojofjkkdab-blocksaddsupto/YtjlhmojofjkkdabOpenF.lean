/-
  What a file that is handed in looks like: an inode, sectors, one that answers an error.
-/
import Derived.Test.YtjlhmojofjkkdabOpenL
import Derived.Test.YtjlhmojofjkkdabF0
import Derived.Deep.Slices
namespace Go.Proofs.Ytjlhmojofjkkdab
open Go.ChangeShapes Go.WideShapes Go.ChangeAt Go.RowKit Go.Joins

set_option maxRecDepth 100000
theorem list_of {α : Type} (d : α) (P : Nat → α → Prop) : ∀ n : Nat, (∀ i, i < n → ∃ x, P i x) → ∃ l : List α, l.length = n ∧ ∀ i, i < n → P i (l.getD i d)
  | 0, _ => ⟨[], rfl, fun i hi => absurd hi (Nat.not_lt_zero i)⟩
  | n + 1, h => by
    obtain ⟨l, hl, hp⟩ := list_of d P n (fun i hi => h i (by omega))
    obtain ⟨x, hx⟩ := h n (by omega)
    refine ⟨l ++ [x], by simp [hl], fun i hi => ?_⟩
    by_cases c : i < n
    · rw [List.getD_eq_getElem?_getD, List.getElem?_append_left (by omega), ← List.getD_eq_getElem?_getD]
      exact hp i c
    · have e : i = n := by omega
      subst e
      rw [List.getD_eq_getElem?_getD, List.getElem?_append_right (by omega), hl, Nat.sub_self]
      exact hx

theorem add_add (a : Addr) (x j : Nat) : (a.add x).add j = a.add (x + j) := by
  unfold Addr.add
  by_cases h1 : x = 0
  · by_cases h2 : j = 0
    · simp [h1, h2]
    · simp [h1, h2]
  · by_cases h2 : j = 0
    · simp [h1, h2]
    · simp [h1, h2, Nat.add_assoc]

theorem secs_of_trod {H : Type} {enc : TypeId × Value → H} {W : World} {fuel : Nat} {cs : List Value} {x : DataW H × List MemPlace} (h : DataW.trod enc Try.prog W 0 (fun _ => true) true fuel 25 cs = some x) :
    ∃ (a : Option Addr) (cap : Nat) (im : List (List Int)), cs = [.slice a im.length cap] ∧ ImgAt W a im ∧ im.length ≤ 9223372036854775807 := by
  rcases DataW.trod_slice Try.underlying25 h with ⟨hcs, _⟩ | ⟨a, l, c, elems, rest, m, _, hcs, hx, hb, hl, hm, hlen, hel, _, _⟩
  · exact ⟨none, 0, [], hcs, ⟨fun s hs => by simp at hs, .inl rfl⟩, by decide⟩
  · rw [cells26] at hel
    have key : ∀ i, i < l → ∃ z : List Int, IsSec z ∧ ∀ j v, (z.map (Value.int .u8))[j]? = some v → W.cell? (a.add (i * 128 + j)) = some v := by
      intro i hi
      have h1 := hel i hi
      rw [List.getElem?_eq_getElem (by omega), Option.bind_eq_some_iff] at h1
      obtain ⟨cs, hcs, ht⟩ := h1
      obtain ⟨z, hz, he⟩ := sec_of_trod ht
      obtain ⟨_, hcl, hcc⟩ := World.cells?_some hcs
      refine ⟨z, hz, fun j v hj => ?_⟩
      have hj128 : j < 128 := by
        have := (List.getElem?_eq_some_iff.1 hj).1
        rw [List.length_map, hz.1] at this
        exact this
      have h2 := hcc j (by omega)
      rw [add_add] at h2
      rw [h2, he]
      exact hj
    obtain ⟨im, him, hP⟩ := list_of Zs _ l key
    have hsec : ∀ s ∈ im, IsSec s := fun s hs => by
      obtain ⟨j, hj, rfl⟩ := List.mem_iff_getElem.1 hs
      have := (hP j (by omega)).1
      rw [List.getD_eq_getElem?_getD, List.getElem?_eq_getElem hj] at this
      exact this
    refine ⟨some a, c, im, by rw [him]; exact hcs, ⟨hsec, ?_⟩, by unfold maxLen at hm; omega⟩
    by_cases h0 : l = 0
    · exact .inl (List.eq_nil_of_length_eq_zero (by omega))
    obtain ⟨b, o, spot⟩ := a
    have hz0 : ∃ v, (((im.getD 0 Zs)).map (Value.int .u8))[0]? = some v := ⟨_, List.getElem?_eq_getElem (by rw [List.length_map, (hP 0 (by omega)).1.1]; decide)⟩
    obtain ⟨v0, hv0⟩ := hz0
    have hc0 := (hP 0 (by omega)).2 0 v0 hv0
    have hspot : spot = none := by simpa [Addr.add] using World.cell?_spot hc0
    subst hspot
    have hblt : b < W.heap.size := by
      rw [addr_add] at hc0
      exact World.block_lt_of_cell? _ _ hc0
    refine .inr ⟨b, o, rfl, hblt, fun j s hj i v hv => ?_⟩
    have hjl := (List.getElem?_eq_some_iff.1 hj).1
    have hs : im.getD j Zs = s := by rw [List.getD_eq_getElem?_getD, hj]; rfl
    have := (hP j (by omega)).2 i v (by rw [hs]; exact hv)
    rw [addr_add, ← Nat.add_assoc] at this
    exact this
theorem inode_list {H : Type} {enc : TypeId × Value → H} {W : World} {b1 : Nat} {spare : Nat → Bool} {held : Bool} {cs : List Value} {fuel : Nat} {x : DataW H × List MemPlace} (h : DataW.trod enc Try.prog W b1 spare held fuel 24 cs = some x) : ∃ z : List Int, z.length = 18 ∧ cs = z.map (Value.int .i64) := by
  obtain ⟨hl, hi⟩ := inode_cells h
  have e := cells_intsI cs (nthI cs) (fun i h => by
    obtain ⟨v, hv⟩ := hi i (by omega)
    have e0 : nthI cs i = v := by unfold nthI; rw [hv]
    rw [e0]
    exact hv)
  exact ⟨(List.range cs.length).map (nthI cs), by rw [List.length_map, List.length_range]; exact hl, e⟩
theorem open_file {H : Type} {enc : TypeId × Value → H} {W : World} {r : Reach} {b0 : Nat} {v : Value} {d : DataW H} {p : List MemPlace}
    (hv : Value.okWide Try.prog W r b0 28 v) (h : DataW.Trod enc Try.prog W 0 (fun _ => true) true 28 v d p) :
    ∃ (z : List Int) (a : Option Addr) (c : Nat) (s : Src), v = .agg (fileV z a c s) ∧ z.length = 18 ∧ ImgAt W a s.im ∧ s.im.length ≤ 9223372036854775807 ∧ I64 s.code := by
  obtain ⟨cs, rfl, _⟩ := okWide_struct Try.underlying28 hv
  obtain ⟨fuel, hf⟩ := h
  obtain ⟨xs, m, _, hx1, hl, hlen, hx⟩ := DataW.trod_struct Try.underlying28 hf
  have hC : Try.prog.cellsOf 28 = 21 := by kernel_rfl
  rw [hC] at hl
  match xs, hlen with
  | [y0, y1, y2, y3], _ =>
    have k0 : Try.prog.cellsOf 24 = 18 := by kernel_rfl
    have k1 : Try.prog.cellsOf 25 = 1 := by kernel_rfl
    have k2 : Try.prog.cellsOf 3 = 1 := by kernel_rfl
    have k3 : Try.prog.cellsOf 26 = 1 := by kernel_rfl
    have q0 : DataW.trod enc Try.prog W 0 (fun _ => true) true m 24 ((cs.toList.drop 0).take (Try.prog.cellsOf 24)) = some y0 := hx 0 _ rfl
    have q1 : DataW.trod enc Try.prog W 0 (fun _ => true) true m 25 ((cs.toList.drop 18).take (Try.prog.cellsOf 25)) = some y1 := hx 1 _ rfl
    have q2 : DataW.trod enc Try.prog W 0 (fun _ => true) true m 3 ((cs.toList.drop 19).take (Try.prog.cellsOf 3)) = some y2 := hx 2 _ rfl
    have q3 : DataW.trod enc Try.prog W 0 (fun _ => true) true m 26 ((cs.toList.drop 20).take (Try.prog.cellsOf 26)) = some y3 := hx 3 _ rfl
    rw [k0] at q0
    rw [k1] at q1
    rw [k2] at q2
    rw [k3] at q3
    obtain ⟨z, hz, e0⟩ := inode_list q0
    obtain ⟨a, c, im, e1, hi, him⟩ := secs_of_trod q1
    obtain ⟨bad, e2, _, _⟩ := DataW.trod_int Try.underlying3 q2
    obtain ⟨code, e3, _, w3⟩ := DataW.trod_int Try.underlying26 q3
    refine ⟨z, a, c, ⟨im, bad, code⟩, ?_, hz, hi, him, bounds_i64 w3⟩
    have hl' : cs.toList.length = 21 := hl
    congr 1
    apply Array.toList_inj.1
    have s1 : cs.toList = cs.toList.take 18 ++ cs.toList.drop 18 := (List.take_append_drop 18 _).symm
    have s2 : cs.toList.drop 18 = (cs.toList.drop 18).take 1 ++ cs.toList.drop 19 := by
      have := (List.take_append_drop 1 (cs.toList.drop 18)).symm
      rwa [List.drop_drop] at this
    have s3 : cs.toList.drop 19 = (cs.toList.drop 19).take 1 ++ cs.toList.drop 20 := by
      have := (List.take_append_drop 1 (cs.toList.drop 19)).symm
      rwa [List.drop_drop] at this
    have s4 : cs.toList.drop 20 = (cs.toList.drop 20).take 1 := (List.take_of_length_le (by rw [List.length_drop]; omega)).symm
    rw [List.drop_zero] at e0
    rw [s1, e0, s2, e1, s3, e2, s4, e3]
    simp [fileV, NA, srcV]

end Go.Proofs.Ytjlhmojofjkkdab
