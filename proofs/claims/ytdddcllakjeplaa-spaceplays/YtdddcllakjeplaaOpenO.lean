/-
  What scripts that are handed in look like.
-/
import Derived.Test.YtdddcllakjeplaaPQ
import Derived.Test.YtdddcllakjeplaaOpenB
namespace Go.Proofs.Ytdddcllakjeplaa
open Go.ChangeShapes Go.WideShapes Go.ChangeAt Go.RowKit Go.Joins

set_option maxRecDepth 100000
theorem weights_all_mem {H : Type} {P : Program} {e : TypeId} : ∀ {l : List (DataW H)} {i : Nat} {d : DataW H}, l[i]? = some d → ∀ n ∈ d.weights P e, n ∈ DataW.weightsAll P e l
  | [], i, d, h, _, _ => by simp at h
  | x :: l, 0, d, h, n, hn => by
    simp only [DataW.weightsAll, List.mem_append]
    simp at h
    subst h
    exact .inl hn
  | x :: l, i + 1, d, h, n, hn => by
    simp only [DataW.weightsAll, List.mem_append]
    exact .inr (weights_all_mem (i := i) (by simpa using h) n hn)
theorem op_of_trod {H : Type} {enc : TypeId × Value → H} {W : World} {fuel : Nat} {cs : List Value} {x : DataW H × List MemPlace} (h : DataW.trod enc Try.prog W 0 (fun _ => true) true fuel 50 cs = some x) (hw : ∀ n ∈ x.1.weights Try.prog 50, n ≤ reachBytes) :
    ∃ (s : OpV) (a : Option Addr) (c : Nat), cs = s.cells a c ∧ s.OK ∧ IntsAt W a s.l := by
  obtain ⟨xs, m, _, hx1, hl, hlen, hx⟩ := DataW.trod_struct Try.underlying50 h
  have hC : Try.prog.cellsOf 50 = 4 := by kernel_rfl
  rw [hC] at hl
  match xs, hlen with
  | [y0, y1, y2, y3], _ =>
    have k0 : Try.prog.cellsOf 3 = 1 := by kernel_rfl
    have k1 : Try.prog.cellsOf 24 = 1 := by kernel_rfl
    have q0 : DataW.trod enc Try.prog W 0 (fun _ => true) true m 3 ((cs.drop 0).take (Try.prog.cellsOf 3)) = some y0 := hx 0 _ rfl
    have q1 : DataW.trod enc Try.prog W 0 (fun _ => true) true m 3 ((cs.drop 1).take (Try.prog.cellsOf 3)) = some y1 := hx 1 _ rfl
    have q2 : DataW.trod enc Try.prog W 0 (fun _ => true) true m 3 ((cs.drop 2).take (Try.prog.cellsOf 3)) = some y2 := hx 2 _ rfl
    have q3 : DataW.trod enc Try.prog W 0 (fun _ => true) true m 24 ((cs.drop 3).take (Try.prog.cellsOf 24)) = some y3 := hx 3 _ rfl
    rw [k0] at q0 q1 q2
    rw [k1] at q3
    have hd : x.1 = .agg [y0.1, y1.1, y2.1, y3.1] := congrArg Prod.fst hx1
    have hw3 : ∀ n ∈ y3.1.weights Try.prog 24, n ≤ reachBytes := by
      intro n hn
      apply hw
      rw [hd]
      simp only [DataW.weights, Try.underlying50]
      exact DataW.weights_mem_each (j := 3) (t := 24) (d := y3.1) rfl rfl _ hn
    obtain ⟨n0, e0, _, w0⟩ := DataW.trod_int Try.underlying3 q0
    obtain ⟨n1, e1, _, w1⟩ := DataW.trod_int Try.underlying3 q1
    obtain ⟨n2, e2, _, w2⟩ := DataW.trod_int Try.underlying3 q2
    obtain ⟨a, c, zs, e3, l3, i3, f3⟩ := ints_of_trod43 q3 hw3
    refine ⟨⟨n0, n1, n2, zs⟩, a, c, ?_, ⟨wfI w0, wfI w1, wfI w2, f3, l3⟩, i3⟩
    match cs, hl with
    | [c0, c1, c2, c3], _ =>
      simp at e0 e1 e2 e3
      rw [e0, e1, e2, e3]
      rfl

theorem script_of_trod {H : Type} {enc : TypeId × Value → H} {W : World} {fuel : Nat} {cs : List Value} {x : DataW H × List MemPlace} (h : DataW.trod enc Try.prog W 0 (fun _ => true) true fuel 45 cs = some x) (hw : ∀ n ∈ x.1.weights Try.prog 45, n ≤ reachBytes) :
    ∃ (a : Option Addr) (cap : Nat) (ws : List OpV), cs = [.slice a ws.length cap] ∧ ws.length ≤ 140737488355328 ∧ ScriptAt W a ws ∧ ∀ x, x ∈ ws → x.OK := by
  have hC : Try.prog.cellsOf 50 = 4 := by kernel_rfl
  rcases DataW.trod_slice Try.underlying45 h with ⟨hcs, _⟩ | ⟨a, l, c, elems, rest, m, _, hcs, hx, hb, hl, hm, hlen, hel, _, _⟩
  · exact ⟨none, 0, [], hcs, by decide, .inl rfl, by simp⟩
  · rw [hC] at hel
    have hx0 : x.1 = .slice (elems.map (·.1)) (rest.map (·.1)) := congrArg Prod.fst hx
    have key : ∀ i, i < l → ∃ z : OpV, z.OK ∧ ∃ ad ca, (∀ j v, (z.cells ad ca)[j]? = some v → W.cell? (a.add (i * 4 + j)) = some v) ∧ IntsAt W ad z.l := by
      intro i hi
      have h1 := hel i hi
      have hil : i < elems.length := by omega
      rw [List.getElem?_eq_getElem hil, Option.bind_eq_some_iff] at h1
      obtain ⟨cs, hcs, ht⟩ := h1
      have hwe : ∀ n ∈ (elems[i]).1.weights Try.prog 50, n ≤ reachBytes := by
        intro n hn
        apply hw
        rw [hx0]
        simp only [DataW.weights, Try.underlying45]
        refine List.mem_cons_of_mem _ ?_
        exact List.mem_append_left _ (weights_all_mem (i := i) (d := (elems[i]).1) (by simp [hil]) n hn)
      obtain ⟨z, ad, ca, hz, hn, hby⟩ := op_of_trod ht hwe
      obtain ⟨_, hcl, hcc⟩ := World.cells?_some hcs
      refine ⟨z, hn, ad, ca, fun j v hj => ?_, hby⟩
      have hj5 : j < 4 := by
        rcases Nat.lt_or_ge j 4 with k | k
        · exact k
        · rw [List.getElem?_eq_none (by simpa [OpV.cells] using k)] at hj; cases hj
      have h2 := hcc j (by omega)
      rw [add_add] at h2
      rw [h2, hz]
      exact hj
    obtain ⟨ws, hws, hP⟩ := list_of OpV.z _ l key
    have hbnd : l ≤ 140737488355328 := by
      have hb : Try.prog.bytesOf 50 = 48 := by kernel_rfl
      have h3 : ((elems.map (·.1)).length + (rest.map (·.1)).length) * Try.prog.bytesOf 50 ∈ x.1.weights Try.prog 45 := by
        rw [hx0]
        simp [DataW.weights, Try.underlying45]
      have h4 := hw _ h3
      rw [hb] at h4
      simp at h4
      unfold reachBytes at h4
      omega
    refine ⟨some a, c, ws, by rw [hws]; exact hcs, by omega, ?_, fun x hx => ?_⟩
    · by_cases h0 : l = 0
      · exact .inl (List.eq_nil_of_length_eq_zero (by omega))
      obtain ⟨b, o, spot⟩ := a
      have hspot : spot = none := by
        obtain ⟨_, ad, ca, hc, _⟩ := hP 0 (by omega)
        have := hc 0 _ rfl
        simpa [Addr.add] using World.cell?_spot this
      subst hspot
      have hblt : b < W.heap.size := by
        obtain ⟨_, ad, ca, hc, _⟩ := hP 0 (by omega)
        have hc := hc 0 _ rfl
        rw [addr_add] at hc
        exact block_lt_of_cell hc
      refine .inr ⟨b, o, rfl, hblt, fun j hj => ?_⟩
      obtain ⟨_, ad, ca, hc, hby⟩ := hP j (by omega)
      refine ⟨ad, ca, fun i v hi => ?_, hby⟩
      have := hc i v hi
      rw [addr_add, ← Nat.add_assoc] at this
      exact this
    · obtain ⟨j, hj, rfl⟩ := List.mem_iff_getElem.1 hx
      have := (hP j (by omega)).1
      rw [List.getD_eq_getElem?_getD, List.getElem?_eq_getElem hj] at this
      exact this
theorem open_script {H : Type} {enc : TypeId × Value → H} {W : World} {r : Go.Reach} {b0 : Nat} {v : Value} {d : DataW H} {p : List MemPlace}
    (hv : Value.okWide Try.prog W r b0 45 v) (h : DataW.Trod enc Try.prog W 0 (fun _ => true) true 45 v d p) (hw : ∀ n ∈ d.weights Try.prog 45, n ≤ reachBytes) :
    ∃ (ws : List OpV) (a : Option Addr) (cap : Nat), v = .slice a ws.length cap ∧ ws.length ≤ 140737488355328 ∧ ScriptAt W a ws ∧ ∀ x, x ∈ ws → x.OK := by
  obtain ⟨a0, len0, cap0, rfl⟩ := okWide_slice Try.underlying45 hv
  obtain ⟨fuel, hf⟩ := h
  obtain ⟨a, cap, ws, hcs, hl, hi, h6⟩ := script_of_trod hf hw
  simp [Value.cells] at hcs
  obtain ⟨rfl, rfl, rfl⟩ := hcs
  exact ⟨ws, _, _, rfl, hl, hi, h6⟩

end Go.Proofs.Ytdddcllakjeplaa
