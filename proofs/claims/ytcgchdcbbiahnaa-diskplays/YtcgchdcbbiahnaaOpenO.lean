/-
  What scripts that are handed in look like.
-/
import Derived.Test.YtcgchdcbbiahnaaWPlays
import Derived.Test.YtcgchdcbbiahnaaOpenW
namespace Go.Proofs.Ytcgchdcbbiahnaa
open Go.ChangeShapes Go.WideShapes Go.ChangeAt Go.RowKit Go.Joins

theorem op_of_trod {H : Type} {enc : TypeId × Value → H} {W : World} {fuel : Nat} {cs : List Value} {x : DataW H × List MemPlace} (h : DataW.trod enc Try.prog W 0 (fun _ => true) true fuel 54 cs = some x) :
    ∃ (o : OpV) (ad : Option Addr) (cap : Nat), cs = o.cells ad cap ∧ OpOK o ∧ BytesAt W ad o.bs := by
  obtain ⟨xs, m, _, hx1, hl, hlen, hx⟩ := DataW.trod_struct Try.underlying54 h
  have hC : Try.prog.cellsOf 54 = 5 := by kernel_rfl
  rw [hC] at hl
  match xs, hlen with
  | [y0, y1, y2, y3, y4], _ =>
    have k0 : Try.prog.cellsOf 3 = 1 := by kernel_rfl
    have k4 : Try.prog.cellsOf 43 = 1 := by kernel_rfl
    have q0 : DataW.trod enc Try.prog W 0 (fun _ => true) true m 3 ((cs.drop 0).take (Try.prog.cellsOf 3)) = some y0 := hx 0 _ rfl
    have q1 : DataW.trod enc Try.prog W 0 (fun _ => true) true m 3 ((cs.drop 1).take (Try.prog.cellsOf 3)) = some y1 := hx 1 _ rfl
    have q2 : DataW.trod enc Try.prog W 0 (fun _ => true) true m 3 ((cs.drop 2).take (Try.prog.cellsOf 3)) = some y2 := hx 2 _ rfl
    have q3 : DataW.trod enc Try.prog W 0 (fun _ => true) true m 3 ((cs.drop 3).take (Try.prog.cellsOf 3)) = some y3 := hx 3 _ rfl
    have q4 : DataW.trod enc Try.prog W 0 (fun _ => true) true m 43 ((cs.drop 4).take (Try.prog.cellsOf 43)) = some y4 := hx 4 _ rfl
    rw [k0] at q0 q1 q2 q3
    rw [k4] at q4
    obtain ⟨n0, e0, _, w0⟩ := DataW.trod_int Try.underlying3 q0
    obtain ⟨n1, e1, _, w1⟩ := DataW.trod_int Try.underlying3 q1
    obtain ⟨n2, e2, _, w2⟩ := DataW.trod_int Try.underlying3 q2
    obtain ⟨n3, e3, _, w3⟩ := DataW.trod_int Try.underlying3 q3
    obtain ⟨ad, cap, zs, e4, hby⟩ := bytes_of_trod q4
    refine ⟨⟨n0, n1, n2, n3, zs⟩, ad, cap, ?_, ⟨bounds_i64 w1, bounds_i64 w2, bounds_i64 w3⟩, hby⟩
    match cs, hl with
    | [c0, c1, c2, c3, c4], _ =>
      simp at e0 e1 e2 e3 e4
      rw [e0, e1, e2, e3, e4]
      rfl

theorem ops_of_trod {H : Type} {enc : TypeId × Value → H} {W : World} {fuel : Nat} {cs : List Value} {x : DataW H × List MemPlace} (h : DataW.trod enc Try.prog W 0 (fun _ => true) true fuel 44 cs = some x) (hw : ∀ n ∈ x.1.weights Try.prog 44, n ≤ reachBytes) :
    ∃ (a : Option Addr) (cap : Nat) (ws : List OpV), cs = [.slice a ws.length cap] ∧ ws.length ≤ 140737488355328 ∧ OpsAt W a ws ∧ ∀ x, x ∈ ws → OpOK x := by
  have hC : Try.prog.cellsOf 54 = 5 := by kernel_rfl
  rcases DataW.trod_slice Try.underlying44 h with ⟨hcs, _⟩ | ⟨a, l, c, elems, rest, m, _, hcs, hx, hb, hl, hm, hlen, hel, _, _⟩
  · exact ⟨none, 0, [], hcs, by decide, .inl rfl, by simp⟩
  · rw [hC] at hel
    have key : ∀ i, i < l → ∃ z : OpV, OpOK z ∧ ∃ ad cap, (∀ j v, (z.cells ad cap)[j]? = some v → W.cell? (a.add (i * 5 + j)) = some v) ∧ BytesAt W ad z.bs := by
      intro i hi
      have h1 := hel i hi
      rw [List.getElem?_eq_getElem (by omega), Option.bind_eq_some_iff] at h1
      obtain ⟨cs, hcs, ht⟩ := h1
      obtain ⟨z, ad, cap, hz, hn, hby⟩ := op_of_trod ht
      obtain ⟨_, hcl, hcc⟩ := World.cells?_some hcs
      refine ⟨z, hn, ad, cap, fun j v hj => ?_, hby⟩
      have hj5 : j < 5 := by
        rcases Nat.lt_or_ge j 5 with k | k
        · exact k
        · rw [List.getElem?_eq_none (by simpa [OpV.cells] using k)] at hj; cases hj
      have h2 := hcc j (by omega)
      rw [add_add] at h2
      rw [h2, hz]
      exact hj
    obtain ⟨ws, hws, hP⟩ := list_of OpV.z _ l key
    have hbnd : l ≤ 140737488355328 := by
      have hb : Try.prog.bytesOf 54 = 56 := by kernel_rfl
      have h1 : x.1 = .slice (elems.map (·.1)) (rest.map (·.1)) := congrArg Prod.fst hx
      have h3 : ((elems.map (·.1)).length + (rest.map (·.1)).length) * Try.prog.bytesOf 54 ∈ x.1.weights Try.prog 44 := by
        rw [h1]
        simp [DataW.weights, Try.underlying44]
      have h4 := hw _ h3
      rw [hb] at h4
      simp at h4
      unfold reachBytes at h4
      omega
    refine ⟨some a, c, ws, by rw [hws]; exact hcs, by omega, ?_, ?_⟩
    · by_cases h0 : l = 0
      · exact .inl (List.eq_nil_of_length_eq_zero (by omega))
      obtain ⟨b, o, spot⟩ := a
      have hspot : spot = none := by
        obtain ⟨_, ad, cap, hc, _⟩ := hP 0 (by omega)
        have := hc 0 _ rfl
        simpa [Addr.add] using World.cell?_spot this
      subst hspot
      have hblt : b < W.heap.size := by
        obtain ⟨_, ad, cap, hc, _⟩ := hP 0 (by omega)
        have hc := hc 0 _ rfl
        rw [addr_add] at hc
        exact block_lt_of_cell hc
      refine .inr ⟨b, o, rfl, hblt, fun j hj => ?_⟩
      obtain ⟨_, ad, cap, hc, hby⟩ := hP j (by omega)
      refine ⟨ad, cap, fun i v hi => ?_, hby⟩
      have := hc i v hi
      rw [addr_add, ← Nat.add_assoc] at this
      exact this
    · intro y hy
      obtain ⟨i, hi, rfl⟩ := List.mem_iff_getElem.1 hy
      have := (hP i (by omega)).1
      rw [List.getD_eq_getElem?_getD, List.getElem?_eq_getElem hi] at this
      exact this
theorem open_ops {H : Type} {enc : TypeId × Value → H} {W : World} {r : Reach} {b0 : Nat} {v : Value} {d : DataW H} {p : List MemPlace}
    (hv : Value.okWide Try.prog W r b0 44 v) (h : DataW.Trod enc Try.prog W 0 (fun _ => true) true 44 v d p) (hw : ∀ n ∈ d.weights Try.prog 44, n ≤ reachBytes) :
    ∃ (ws : List OpV) (a : Option Addr) (cap : Nat), v = .slice a ws.length cap ∧ ws.length ≤ 140737488355328 ∧ OpsAt W a ws ∧ ∀ x, x ∈ ws → OpOK x := by
  obtain ⟨a0, len0, cap0, rfl⟩ := okWide_slice Try.underlying44 hv
  obtain ⟨fuel, hf⟩ := h
  obtain ⟨a, cap, ws, hcs, hl, hi, h6⟩ := ops_of_trod hf hw
  simp [Value.cells] at hcs
  obtain ⟨rfl, rfl, rfl⟩ := hcs
  exact ⟨ws, _, _, rfl, hl, hi, h6⟩

end Go.Proofs.Ytcgchdcbbiahnaa
