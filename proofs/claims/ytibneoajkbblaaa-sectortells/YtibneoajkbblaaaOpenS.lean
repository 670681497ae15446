/-
  What a list of steps that is handed in looks like.
-/
import Derived.Test.YtibneoajkbblaaaWTells
import Derived.Test.YtibneoajkbblaaaOpenB
import Derived.Deep.Slices
import Derived.SizedLaws
namespace Go.Proofs.Ytibneoajkbblaaa
open Go.ChangeShapes Go.WideShapes Go.ChangeAt Go.RowKit Go.Joins

theorem weights_all_mem {H : Type} {P : Program} {e : TypeId} : ∀ {ds : List (DataW H)} {j : Nat} {d : DataW H}, ds[j]? = some d → ∀ n ∈ d.weights P e, n ∈ DataW.weightsAll P e ds
  | [], j, d, h => by simp at h
  | c :: ds, 0, d, h => by
    simp at h
    subst h
    intro n hn
    simp [DataW.weightsAll, hn]
  | c :: ds, j + 1, d, h => by
    intro n hn
    have := weights_all_mem (ds := ds) (j := j) (by simpa using h) n hn
    simp [DataW.weightsAll, this]

theorem cells_split (cs : List Value) (h : cs.length = 133) (a p n v d : Value) (S : List Value) (h0 : (cs.drop 0).take 1 = [a]) (h1 : (cs.drop 1).take 128 = S) (h2 : (cs.drop 129).take 1 = [p]) (h3 : (cs.drop 130).take 1 = [n]) (h4 : (cs.drop 131).take 1 = [v]) (h5 : (cs.drop 132).take 1 = [d]) :
    cs = a :: (S ++ [p, n, v, d]) := by
  have e0 : cs = cs.take 1 ++ cs.drop 1 := (List.take_append_drop 1 cs).symm
  have e1 : cs.drop 1 = (cs.drop 1).take 128 ++ cs.drop 129 := by
    have := (List.take_append_drop 128 (cs.drop 1)).symm
    rw [List.drop_drop] at this
    exact this
  have e2 : cs.drop 129 = (cs.drop 129).take 1 ++ cs.drop 130 := by
    have := (List.take_append_drop 1 (cs.drop 129)).symm
    rw [List.drop_drop] at this
    exact this
  have e3 : cs.drop 130 = (cs.drop 130).take 1 ++ cs.drop 131 := by
    have := (List.take_append_drop 1 (cs.drop 130)).symm
    rw [List.drop_drop] at this
    exact this
  have e4 : cs.drop 131 = (cs.drop 131).take 1 ++ cs.drop 132 := by
    have := (List.take_append_drop 1 (cs.drop 131)).symm
    rw [List.drop_drop] at this
    exact this
  have e5 : cs.drop 132 = (cs.drop 132).take 1 := (List.take_of_length_le (by rw [List.length_drop]; omega)).symm
  rw [List.drop_zero] at h0
  rw [e0, h0, e1, h1, e2, h2, e3, h3, e4, h4, e5, h5]
  rfl

theorem step_of_trod {H : Type} {enc : TypeId × Value → H} {W : World} {fuel : Nat} {cs : List Value} {x : DataW H × List MemPlace} (h : DataW.trod enc Try.prog W 0 (fun _ => true) true fuel 29 cs = some x)
    (hw : ∀ n ∈ x.1.weights Try.prog 29, n ≤ reachBytes) :
    ∃ (kd : Int) (s : List Int) (p n v : Int) (ad : Option Addr) (cap : Nat) (zs : List Int), cs = (stepC kd s p n v ad zs.length cap).toList ∧ IsSec s ∧ I64 kd ∧ zs.length ≤ 140737488355328 ∧ BytesAt W ad zs := by
  obtain ⟨xs, m, _, hx1, hl, hlen, hx⟩ := DataW.trod_struct Try.underlying29 h
  have hC : Try.prog.cellsOf 29 = 133 := by kernel_rfl
  rw [hC] at hl
  match xs, hlen with
  | [y0, y1, y2, y3, y4, y5], _ =>
    have k0 : Try.prog.cellsOf 3 = 1 := by kernel_rfl
    have k4 : Try.prog.cellsOf 27 = 1 := by kernel_rfl
    have q0 : DataW.trod enc Try.prog W 0 (fun _ => true) true m 3 ((cs.drop 0).take (Try.prog.cellsOf 3)) = some y0 := hx 0 _ rfl
    have q1 : DataW.trod enc Try.prog W 0 (fun _ => true) true m 26 ((cs.drop 1).take (Try.prog.cellsOf 26)) = some y1 := hx 1 _ rfl
    have q2 : DataW.trod enc Try.prog W 0 (fun _ => true) true m 3 ((cs.drop 129).take (Try.prog.cellsOf 3)) = some y2 := hx 2 _ rfl
    have q3 : DataW.trod enc Try.prog W 0 (fun _ => true) true m 3 ((cs.drop 130).take (Try.prog.cellsOf 3)) = some y3 := hx 3 _ rfl
    have q4 : DataW.trod enc Try.prog W 0 (fun _ => true) true m 3 ((cs.drop 131).take (Try.prog.cellsOf 3)) = some y4 := hx 4 _ rfl
    have q5 : DataW.trod enc Try.prog W 0 (fun _ => true) true m 27 ((cs.drop 132).take (Try.prog.cellsOf 27)) = some y5 := hx 5 _ rfl
    rw [k0] at q0 q2 q3 q4
    rw [cells26] at q1
    rw [k4] at q5
    obtain ⟨kd, e0, _, w0⟩ := DataW.trod_int Try.underlying3 q0
    obtain ⟨s, hs, e1⟩ := sec_of_trod q1
    obtain ⟨p, e2, _, _⟩ := DataW.trod_int Try.underlying3 q2
    obtain ⟨n, e3, _, _⟩ := DataW.trod_int Try.underlying3 q3
    obtain ⟨v, e4, _, _⟩ := DataW.trod_int Try.underlying3 q4
    rcases open_ints Try.underlying27 Try.underlying5 (by kernel_rfl) q5 with ⟨e5, _⟩ | ⟨ad, l, cp, zs, e5, _, hll, hmm, hz, hy, hcell, hwz⟩
    · exact ⟨kd, s, p, n, v, none, 0, [], cells_split cs hl _ _ _ _ _ _ e0 e1 e2 e3 e4 e5, hs, bounds_i64 w0, by simp, .inl rfl⟩
    · have hz' : zs.length = cp := by simpa using hz
      have el : (zs.take l).length = l := by rw [List.length_take]; omega
      have hwt : zs.length ≤ reachBytes := by
        have hb : Try.prog.bytesOf 5 = 1 := by kernel_rfl
        have h1 : x.1 = .agg [y0.1, y1.1, y2.1, y3.1, y4.1, y5.1] := by rw [hx1]; rfl
        have h2 : y5.1 = .slice (lits .u8 (zs.take l)) (lits .u8 (zs.drop l)) := by rw [hy]
        have h3 : ((lits (H := H) .u8 (zs.take l)).length + (lits (H := H) .u8 (zs.drop l)).length) * Try.prog.bytesOf 5 ∈ x.1.weights Try.prog 29 := by
          rw [h1]
          simp only [DataW.weights, Try.underlying29]
          refine DataW.weights_mem_each (j := 5) (t := 27) (d := y5.1) rfl rfl _ ?_
          rw [h2]
          simp [DataW.weights, Try.underlying27]
        have h4 := hw _ h3
        rw [hb] at h4
        simp [lits] at h4
        omega
      refine ⟨kd, s, p, n, v, some ad, cp, zs.take l, ?_, hs, bounds_i64 w0, ?_, bytes_of_ints hll hz' hcell⟩
      · rw [el]
        exact cells_split cs hl _ _ _ _ _ _ e0 e1 e2 e3 e4 e5
      · have := reachBytes_lt
        rw [el]
        omega

theorem open_steps {H : Type} {enc : TypeId × Value → H} {W : World} {r : Reach} {b0 : Nat} {v : Value} {d : DataW H} {pl : List MemPlace}
    (hv : Value.okWide Try.prog W r b0 23 v) (h : DataW.Trod enc Try.prog W 0 (fun _ => true) true 23 v d pl) (hw : ∀ n ∈ d.weights Try.prog 23, n ≤ reachBytes) :
    ∃ (a : Option Addr) (len cap : Nat), v = .slice a len cap ∧ len ≤ 9223372036854775807 ∧ (len = 0 ∨ ∃ b o, a = some ⟨b, o, none⟩ ∧ b < W.heap.size ∧ ∀ i, i < len → ∃ C, StepAt W b (o + i * 133) C) := by
  obtain ⟨a0, len, cap, rfl⟩ := okWide_slice Try.underlying23 hv
  obtain ⟨fuel, hf⟩ := h
  have hC : Try.prog.cellsOf 29 = 133 := by kernel_rfl
  rcases DataW.trod_slice Try.underlying23 hf with ⟨hcs, _⟩ | ⟨a, l, c, elems, rest, m, _, hcs, hx, hb, hl, hm, hlen, hel, _, _⟩
  · simp [Value.cells] at hcs
    obtain ⟨rfl, rfl, rfl⟩ := hcs
    exact ⟨none, 0, 0, rfl, by decide, .inl rfl⟩
  · simp [Value.cells] at hcs
    obtain ⟨rfl, rfl, rfl⟩ := hcs
    have hm' : len ≤ 9223372036854775807 := by unfold maxLen at hm; omega
    refine ⟨some a, len, cap, rfl, hm', ?_⟩
    by_cases h0 : len = 0
    · exact .inl h0
    right
    rw [hC] at hel
    have key : ∀ i, i < len → ∃ cs y, W.cells? 0 (a.add (i * 133)) 133 = some cs ∧ DataW.trod enc Try.prog W 0 (fun _ => true) true m 29 cs = some y ∧ elems[i]? = some y := by
      intro i hi
      have h1 := hel i hi
      rw [List.getElem?_eq_getElem (by omega)] at h1
      rw [Option.bind_eq_some_iff] at h1
      obtain ⟨cs, hcs, ht⟩ := h1
      exact ⟨cs, _, hcs, ht, List.getElem?_eq_getElem (by omega)⟩
    obtain ⟨b, o, spot⟩ := a
    have hspot : spot = none := by
      obtain ⟨cs, y, hcs, _, _⟩ := key 0 (by omega)
      obtain ⟨_, hcl, hcc⟩ := World.cells?_some hcs
      have hc := hcc 0 (by omega)
      rw [List.getElem?_eq_getElem (by omega)] at hc
      simpa [Addr.add] using World.cell?_spot hc
    subst hspot
    have hblt : b < W.heap.size := by
      obtain ⟨cs, y, hcs, _, _⟩ := key 0 (by omega)
      obtain ⟨_, hcl, hcc⟩ := World.cells?_some hcs
      have hc := hcc 0 (by omega)
      rw [List.getElem?_eq_getElem (by omega), addr_add, addr_add] at hc
      exact block_lt_of_cell hc
    refine ⟨b, o, rfl, hblt, fun i hi => ?_⟩
    obtain ⟨cs, y, hcs, ht, hy⟩ := key i hi
    obtain ⟨_, hcl, hcc⟩ := World.cells?_some hcs
    have hwy : ∀ n ∈ y.1.weights Try.prog 29, n ≤ reachBytes := by
      intro n hn
      apply hw
      have hd : d = .slice (elems.map (·.1)) (rest.map (·.1)) := by
        have := congrArg Prod.fst hx
        exact this
      rw [hd]
      simp only [DataW.weights, Try.underlying23]
      refine List.mem_cons_of_mem _ (List.mem_append_left _ ?_)
      refine weights_all_mem (j := i) (d := y.1) ?_ n hn
      rw [List.getElem?_map, hy]
      rfl
    obtain ⟨kd, s, p, n, v, ad, cp, zs, hC2, hs, hk, hzl, hzb⟩ := step_of_trod ht hwy
    refine ⟨_, kd, s, p, n, v, ad, cp, zs, rfl, hs, hk, hzl, hzb, ?_⟩
    rw [← hC2]
    intro j x hj
    have hlt : j < 133 := by
      rcases Nat.lt_or_ge j 133 with k | k
      · exact k
      · rw [List.getElem?_eq_none (by omega)] at hj; cases hj
    have := hcc j hlt
    rw [addr_add, addr_add] at this
    rw [this, hj]

end Go.Proofs.Ytibneoajkbblaaa
