/-
  What scripts that are handed in look like.
-/
import Derived.Test.YtfkommjpofpmbaaLawM
import Derived.ProofKit
import Derived.OpenShut
import Derived.ChangeOld
import Derived.Lib.SmallJoins
namespace Go.Proofs.Ytfkommjpofpmbaa
open Go.ChangeShapes Go.WideShapes Go.ChangeAt Go.RowKit Go.Joins

set_option maxRecDepth 100000
theorem own : ownKnob Try.prog.godebug = none := by kernel_rfl
theorem laidOut : laidOutB Try.prog = true := by kernel_rfl

theorem addr_add (b o j : Nat) : (⟨b, o, none⟩ : Addr).add j = ⟨b, o + j, none⟩ := by unfold Addr.add; split <;> simp_all

theorem step_of_trod {H : Type} {enc : TypeId × Value → H} {W : World} {fuel : Nat} {cs : List Value} {x : DataW H × List MemPlace} (h : DataW.trod enc Try.prog W 0 (fun _ => true) true fuel 35 cs = some x) :
    ∃ (o : StV), cs = o.cells ∧ o.OK := by
  obtain ⟨xs, m, _, hx1, hl, hlen, hx⟩ := DataW.trod_struct Try.underlying35 h
  have hC : Try.prog.cellsOf 35 = 4 := by kernel_rfl
  rw [hC] at hl
  match xs, hlen with
  | [y0, y1, y2, y3], _ =>
    have k0 : Try.prog.cellsOf 3 = 1 := by kernel_rfl
    have q0 : DataW.trod enc Try.prog W 0 (fun _ => true) true m 3 ((cs.drop 0).take (Try.prog.cellsOf 3)) = some y0 := hx 0 _ rfl
    have q1 : DataW.trod enc Try.prog W 0 (fun _ => true) true m 3 ((cs.drop 1).take (Try.prog.cellsOf 3)) = some y1 := hx 1 _ rfl
    have q2 : DataW.trod enc Try.prog W 0 (fun _ => true) true m 3 ((cs.drop 2).take (Try.prog.cellsOf 3)) = some y2 := hx 2 _ rfl
    have q3 : DataW.trod enc Try.prog W 0 (fun _ => true) true m 3 ((cs.drop 3).take (Try.prog.cellsOf 3)) = some y3 := hx 3 _ rfl
    rw [k0] at q0 q1 q2 q3
    obtain ⟨n0, e0, _, w0⟩ := DataW.trod_int Try.underlying3 q0
    obtain ⟨n1, e1, _, w1⟩ := DataW.trod_int Try.underlying3 q1
    obtain ⟨n2, e2, _, w2⟩ := DataW.trod_int Try.underlying3 q2
    obtain ⟨n3, e3, _, w3⟩ := DataW.trod_int Try.underlying3 q3
    refine ⟨⟨n0, n1, n2, n3⟩, ?_, ⟨wfI w0, wfI w1, wfI w2, wfI w3⟩⟩
    match cs, hl with
    | [c0, c1, c2, c3], _ =>
      simp at e0 e1 e2 e3
      rw [e0, e1, e2, e3]
      rfl

theorem list_of {α : Type} (d : α) (P : Nat → α → Prop) : ∀ n : Nat, (∀ i, i < n → ∃ x, P i x) → ∃ l : List α, l.length = n ∧ ∀ i, i < n → P i (l.getD i d)
  | 0, _ => ⟨[], rfl, fun i hi => absurd hi (Nat.not_lt_zero i)⟩
  | n + 1, h => by
    obtain ⟨l, hl, hp⟩ := list_of d P n (fun i hi => h i (by omega))
    obtain ⟨x, hx⟩ := h n (by omega)
    refine ⟨l ++ [x], by simp [hl], fun i hi => ?_⟩
    by_cases c : i < n
    · rw [List.getD_eq_getElem?_getD, List.getElem?_append_left (by omega), ← List.getD_eq_getElem?_getD]
      exact hp i c
    · have e : i = n := by omega
      subst e
      rw [List.getD_eq_getElem?_getD, List.getElem?_append_right (by omega), hl, Nat.sub_self]
      exact hx

theorem add_add (a : Addr) (x j : Nat) : (a.add x).add j = a.add (x + j) := by
  unfold Addr.add
  by_cases h1 : x = 0
  · by_cases h2 : j = 0
    · simp [h1, h2]
    · simp [h1, h2]
  · by_cases h2 : j = 0
    · simp [h1, h2]
    · simp [h1, h2, Nat.add_assoc]

theorem block_lt_of_cell {w : World} {b o : Nat} {v : Value} (h : w.cell? ⟨b, o, none⟩ = some v) : b < w.heap.size := by
  rcases Nat.lt_or_ge b w.heap.size with k | k
  · exact k
  · simp [World.cell?, Array.getElem?_eq_none k] at h

theorem script_of_trod {H : Type} {enc : TypeId × Value → H} {W : World} {fuel : Nat} {cs : List Value} {x : DataW H × List MemPlace} (h : DataW.trod enc Try.prog W 0 (fun _ => true) true fuel 22 cs = some x) (hw : ∀ n ∈ x.1.weights Try.prog 22, n ≤ reachBytes) :
    ∃ (a : Option Addr) (cap : Nat) (ws : List StV), cs = [.slice a ws.length cap] ∧ ws.length ≤ 140737488355328 ∧ ScriptAt W a ws ∧ ∀ x, x ∈ ws → x.OK := by
  have hC : Try.prog.cellsOf 35 = 4 := by kernel_rfl
  rcases DataW.trod_slice Try.underlying22 h with ⟨hcs, _⟩ | ⟨a, l, c, elems, rest, m, _, hcs, hx, hb, hl, hm, hlen, hel, _, _⟩
  · exact ⟨none, 0, [], hcs, by decide, .inl rfl, by simp⟩
  · rw [hC] at hel
    have key : ∀ i, i < l → ∃ z : StV, z.OK ∧ ∀ j v, z.cells[j]? = some v → W.cell? (a.add (i * 4 + j)) = some v := by
      intro i hi
      have h1 := hel i hi
      rw [List.getElem?_eq_getElem (by omega), Option.bind_eq_some_iff] at h1
      obtain ⟨cs, hcs, ht⟩ := h1
      obtain ⟨z, hz, hn⟩ := step_of_trod ht
      obtain ⟨_, hcl, hcc⟩ := World.cells?_some hcs
      refine ⟨z, hn, fun j v hj => ?_⟩
      have hj5 : j < 4 := by
        rcases Nat.lt_or_ge j 4 with k | k
        · exact k
        · rw [List.getElem?_eq_none (by simpa [StV.cells] using k)] at hj; cases hj
      have h2 := hcc j (by omega)
      rw [add_add] at h2
      rw [h2, hz]
      exact hj
    obtain ⟨ws, hws, hP⟩ := list_of StV.z _ l key
    have hbnd : l ≤ 140737488355328 := by
      have hb : Try.prog.bytesOf 35 = 32 := by kernel_rfl
      have h1 : x.1 = .slice (elems.map (·.1)) (rest.map (·.1)) := congrArg Prod.fst hx
      have h3 : ((elems.map (·.1)).length + (rest.map (·.1)).length) * Try.prog.bytesOf 35 ∈ x.1.weights Try.prog 22 := by
        rw [h1]
        simp [DataW.weights, Try.underlying22]
      have h4 := hw _ h3
      rw [hb] at h4
      simp at h4
      unfold reachBytes at h4
      omega
    refine ⟨some a, c, ws, by rw [hws]; exact hcs, by omega, ?_, ?_⟩
    · by_cases h0 : l = 0
      · exact .inl (List.eq_nil_of_length_eq_zero (by omega))
      obtain ⟨b, o, spot⟩ := a
      have hspot : spot = none := by
        have := (hP 0 (by omega)).2 0 _ rfl
        simpa [Addr.add] using World.cell?_spot this
      subst hspot
      have hblt : b < W.heap.size := by
        have hc := (hP 0 (by omega)).2 0 _ rfl
        rw [addr_add] at hc
        exact block_lt_of_cell hc
      refine .inr ⟨b, o, rfl, hblt, fun j hj i v hi => ?_⟩
      have := (hP j (by omega)).2 i v hi
      rw [addr_add, ← Nat.add_assoc] at this
      exact this
    · intro y hy
      obtain ⟨i, hi, rfl⟩ := List.mem_iff_getElem.1 hy
      have := (hP i (by omega)).1
      rw [List.getD_eq_getElem?_getD, List.getElem?_eq_getElem hi] at this
      exact this
theorem open_script {H : Type} {enc : TypeId × Value → H} {W : World} {r : Go.Reach} {b0 : Nat} {v : Value} {d : DataW H} {p : List MemPlace}
    (hv : Value.okWide Try.prog W r b0 22 v) (h : DataW.Trod enc Try.prog W 0 (fun _ => true) true 22 v d p) (hw : ∀ n ∈ d.weights Try.prog 22, n ≤ reachBytes) :
    ∃ (ws : List StV) (a : Option Addr) (cap : Nat), v = .slice a ws.length cap ∧ ws.length ≤ 140737488355328 ∧ ScriptAt W a ws ∧ ∀ x, x ∈ ws → x.OK := by
  obtain ⟨a0, len0, cap0, rfl⟩ := okWide_slice Try.underlying22 hv
  obtain ⟨fuel, hf⟩ := h
  obtain ⟨a, cap, ws, hcs, hl, hi, h6⟩ := script_of_trod hf hw
  simp [Value.cells] at hcs
  obtain ⟨rfl, rfl, rfl⟩ := hcs
  exact ⟨ws, _, _, rfl, hl, hi, h6⟩

end Go.Proofs.Ytfkommjpofpmbaa
