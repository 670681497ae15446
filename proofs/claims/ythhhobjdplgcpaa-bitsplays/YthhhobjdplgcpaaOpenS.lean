/-
  What scripts that are handed in look like.
-/
import Derived.Test.YthhhobjdplgcpaaPInv
import Derived.Test.YthhhobjdplgcpaaOpens
namespace Go.Proofs.Ythhhobjdplgcpaa
open Go.ChangeShapes Go.WideShapes Go.ChangeAt Go.RowKit Go.Joins

set_option maxRecDepth 100000
theorem step_of_trod {H : Type} {enc : TypeId × Value → H} {W : World} {fuel : Nat} {cs : List Value} {x : DataW H × List MemPlace} (h : DataW.trod enc Try.prog W 0 (fun _ => true) true fuel 40 cs = some x) :
    ∃ (o : OpV), cs = o.cells ∧ o.OK := by
  obtain ⟨xs, m, _, hx1, hl, hlen, hx⟩ := DataW.trod_struct Try.underlying40 h
  have hC : Try.prog.cellsOf 40 = 3 := by kernel_rfl
  rw [hC] at hl
  match xs, hlen with
  | [y0, y1, y2], _ =>
    have k0 : Try.prog.cellsOf 3 = 1 := by kernel_rfl
    have q0 : DataW.trod enc Try.prog W 0 (fun _ => true) true m 3 ((cs.drop 0).take (Try.prog.cellsOf 3)) = some y0 := hx 0 _ rfl
    have q1 : DataW.trod enc Try.prog W 0 (fun _ => true) true m 3 ((cs.drop 1).take (Try.prog.cellsOf 3)) = some y1 := hx 1 _ rfl
    have q2 : DataW.trod enc Try.prog W 0 (fun _ => true) true m 3 ((cs.drop 2).take (Try.prog.cellsOf 3)) = some y2 := hx 2 _ rfl
    rw [k0] at q0 q1 q2
    obtain ⟨n0, e0, _, w0⟩ := DataW.trod_int Try.underlying3 q0
    obtain ⟨n1, e1, _, w1⟩ := DataW.trod_int Try.underlying3 q1
    obtain ⟨n2, e2, _, w2⟩ := DataW.trod_int Try.underlying3 q2
    refine ⟨⟨n0, n1, n2⟩, ?_, ⟨wfI w0, wfI w1, wfI w2⟩⟩
    match cs, hl with
    | [c0, c1, c2], _ =>
      simp at e0 e1 e2
      rw [e0, e1, e2]
      rfl

theorem script_of_trod {H : Type} {enc : TypeId × Value → H} {W : World} {fuel : Nat} {cs : List Value} {x : DataW H × List MemPlace} (h : DataW.trod enc Try.prog W 0 (fun _ => true) true fuel 34 cs = some x) (hw : ∀ n ∈ x.1.weights Try.prog 34, n ≤ reachBytes) :
    ∃ (a : Option Addr) (cap : Nat) (ws : List OpV), cs = [.slice a ws.length cap] ∧ ws.length ≤ 140737488355328 ∧ ScriptAt W a ws ∧ ∀ x, x ∈ ws → x.OK := by
  have hC : Try.prog.cellsOf 40 = 3 := by kernel_rfl
  rcases DataW.trod_slice Try.underlying34 h with ⟨hcs, _⟩ | ⟨a, l, c, elems, rest, m, _, hcs, hx, hb, hl, hm, hlen, hel, _, _⟩
  · exact ⟨none, 0, [], hcs, by decide, .inl rfl, by simp⟩
  · rw [hC] at hel
    have key : ∀ i, i < l → ∃ z : OpV, z.OK ∧ ∀ j v, z.cells[j]? = some v → W.cell? (a.add (i * 3 + j)) = some v := by
      intro i hi
      have h1 := hel i hi
      rw [List.getElem?_eq_getElem (by omega), Option.bind_eq_some_iff] at h1
      obtain ⟨cs, hcs, ht⟩ := h1
      obtain ⟨z, hz, hn⟩ := step_of_trod ht
      obtain ⟨_, hcl, hcc⟩ := World.cells?_some hcs
      refine ⟨z, hn, fun j v hj => ?_⟩
      have hj5 : j < 3 := by
        rcases Nat.lt_or_ge j 3 with k | k
        · exact k
        · rw [List.getElem?_eq_none (by simpa [OpV.cells] using k)] at hj; cases hj
      have h2 := hcc j (by omega)
      rw [add_add] at h2
      rw [h2, hz]
      exact hj
    obtain ⟨ws, hws, hP⟩ := list_of OpV.z _ l key
    have hbnd : l ≤ 140737488355328 := by
      have hb : Try.prog.bytesOf 40 = 24 := by kernel_rfl
      have h1 : x.1 = .slice (elems.map (·.1)) (rest.map (·.1)) := congrArg Prod.fst hx
      have h3 : ((elems.map (·.1)).length + (rest.map (·.1)).length) * Try.prog.bytesOf 40 ∈ x.1.weights Try.prog 34 := by
        rw [h1]
        simp [DataW.weights, Try.underlying34]
      have h4 := hw _ h3
      rw [hb] at h4
      simp at h4
      unfold reachBytes at h4
      omega
    refine ⟨some a, c, ws, by rw [hws]; exact hcs, by omega, ?_, ?_⟩
    · by_cases h0 : l = 0
      · exact .inl (List.eq_nil_of_length_eq_zero (by omega))
      obtain ⟨b, o, spot⟩ := a
      have hspot : spot = none := by
        have := (hP 0 (by omega)).2 0 _ rfl
        simpa [Addr.add] using World.cell?_spot this
      subst hspot
      have hblt : b < W.heap.size := by
        have hc := (hP 0 (by omega)).2 0 _ rfl
        rw [addr_add] at hc
        exact block_lt_of_cell hc
      refine .inr ⟨b, o, rfl, hblt, fun j hj i v hi => ?_⟩
      have := (hP j (by omega)).2 i v hi
      rw [addr_add, ← Nat.add_assoc] at this
      exact this
    · intro y hy
      obtain ⟨i, hi, rfl⟩ := List.mem_iff_getElem.1 hy
      have := (hP i (by omega)).1
      rw [List.getD_eq_getElem?_getD, List.getElem?_eq_getElem hi] at this
      exact this
theorem open_script {H : Type} {enc : TypeId × Value → H} {W : World} {r : Go.Reach} {b0 : Nat} {v : Value} {d : DataW H} {p : List MemPlace}
    (hv : Value.okWide Try.prog W r b0 34 v) (h : DataW.Trod enc Try.prog W 0 (fun _ => true) true 34 v d p) (hw : ∀ n ∈ d.weights Try.prog 34, n ≤ reachBytes) :
    ∃ (ws : List OpV) (a : Option Addr) (cap : Nat), v = .slice a ws.length cap ∧ ws.length ≤ 140737488355328 ∧ ScriptAt W a ws ∧ ∀ x, x ∈ ws → x.OK := by
  obtain ⟨a0, len0, cap0, rfl⟩ := okWide_slice Try.underlying34 hv
  obtain ⟨fuel, hf⟩ := h
  obtain ⟨a, cap, ws, hcs, hl, hi, h6⟩ := script_of_trod hf hw
  simp [Value.cells] at hcs
  obtain ⟨rfl, rfl, rfl⟩ := hcs
  exact ⟨ws, _, _, rfl, hl, hi, h6⟩

end Go.Proofs.Ythhhobjdplgcpaa
