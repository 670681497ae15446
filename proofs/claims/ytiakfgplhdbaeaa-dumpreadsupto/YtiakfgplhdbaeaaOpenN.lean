/-
  What is handed in: a list of nodes.
-/
import Derived.Test.YtiakfgplhdbaeaaLD
import Derived.ProofKit
import Derived.OpenShut
import Derived.ChangeOld
import Derived.Lib.SmallJoins
import Derived.SizedLaws
namespace Go.Proofs.Ytiakfgplhdbaeaa
open Go.ChangeShapes Go.WideShapes Go.ChangeAt Go.RowKit Go.Joins

set_option maxRecDepth 100000
theorem own : ownKnob Try.prog.godebug = none := by kernel_rfl
theorem laidOut : laidOutB Try.prog = true := by kernel_rfl
theorem bounds_i64 {x : Int} (h : (Lit.int .i64 x).wf = true) : I64 x := by
  have h : IntKind.i64.min ≤ x ∧ x ≤ 9223372036854775807 := by simpa [Lit.wf] using h
  exact ⟨h.1, h.2⟩
theorem bounds_u8 {x : Int} (h : (Lit.int .u8 x).wf = true) : 0 ≤ x ∧ x ≤ 255 := by
  have h : IntKind.u8.min ≤ x ∧ x ≤ IntKind.u8.max := by simpa [Lit.wf] using h
  exact ⟨h.1, h.2⟩
theorem weightsAll_mem {H : Type} {P : Program} {e : TypeId} : ∀ {l : List (DataW H)} {d : DataW H}, d ∈ l → ∀ n ∈ d.weights P e, n ∈ DataW.weightsAll P e l
  | [], _, h, _, _ => by cases h
  | x :: l, d, h, n, hn => by
    unfold DataW.weightsAll
    rcases List.mem_cons.1 h with rfl | h
    · exact List.mem_append_left _ hn
    · exact List.mem_append_right _ (weightsAll_mem h n hn)
theorem bytes_of_ints {W : World} {x : Addr} {l c : Nat} {zs : List Int} (hl : l ≤ c) (hz : zs.length = c)
    (hcell : ∀ i, i < zs.length → W.cell? (x.add i) = some (.int .u8 (zs.getD i 0))) : BytesAt W (some x) (zs.take l) := by
  by_cases h0 : l = 0
  · subst h0
    exact .inl (by simp)
  · obtain ⟨b, off, spot⟩ := x
    have hc := hcell 0 (by omega)
    have hspot : spot = none := by simpa [Addr.add] using World.cell?_spot hc
    subst hspot
    have hlt : b < W.heap.size := by
      rw [addr_add] at hc
      exact World.block_lt_of_cell? _ _ hc
    refine .inr ⟨b, off, rfl, hlt, fun j hj => ?_⟩
    rw [List.length_take] at hj
    have h1 := hcell j (by omega)
    rw [addr_add] at h1
    rw [h1]
    simp [show j < l by omega]
theorem bytes_of_trod {H : Type} {enc : TypeId × Value → H} {W : World} {fuel : Nat} {cs : List Value} {x : DataW H × List MemPlace} (h : DataW.trod enc Try.prog W 0 (fun _ => true) true fuel 29 cs = some x) (hw : ∀ n ∈ x.1.weights Try.prog 29, n ≤ reachBytes) :
    ∃ (zs : List Int) (ad : Option Addr) (cap : Nat), cs = [.slice ad zs.length cap] ∧ zs.length ≤ 140737488355328 ∧ BytesAt W ad zs ∧ ∀ x ∈ zs, 0 ≤ x ∧ x ≤ 255 := by
  rcases open_ints Try.underlying29 Try.underlying5 (by kernel_rfl) h with ⟨hcs, _⟩ | ⟨y, l, c, zs, hcs, _, hl, hm, hz, hy, hcell, hwz⟩
  · exact ⟨[], none, 0, hcs, by simp, .inl rfl, by simp⟩
  · have hz' : zs.length = c := by simpa using hz
    have e : (zs.take l).length = l := by rw [List.length_take]; omega
    have hwt : zs.length ≤ reachBytes := by
      have hb : Try.prog.bytesOf 5 = 1 := by kernel_rfl
      have h2 : x.1 = .slice (lits .u8 (zs.take l)) (lits .u8 (zs.drop l)) := congrArg Prod.fst hy
      have h3 : ((lits (H := H) .u8 (zs.take l)).length + (lits (H := H) .u8 (zs.drop l)).length) * Try.prog.bytesOf 5 ∈ x.1.weights Try.prog 29 := by
        rw [h2]
        simp [DataW.weights, Try.underlying29]
      have h4 := hw _ h3
      rw [hb] at h4
      simp [lits] at h4
      omega
    refine ⟨zs.take l, some y, c, by rw [e]; exact hcs, by unfold reachBytes at hwt; omega, bytes_of_ints hl hz' hcell, ?_⟩
    intro y hy
    exact bounds_u8 (hwz y (List.mem_of_mem_take hy))
/-- What is known of a node that is handed in. -/
structure OkN (n : Nod) : Prop where
  k : I64 n.kind
  m : I64 n.made
  p : n.path.size ≤ 140737488355328
  s : n.same.size ≤ 140737488355328
  d : n.data.length ≤ 140737488355328
  b : ∀ x ∈ n.data, 0 ≤ x ∧ x ≤ 255
theorem list_of {α : Type} (d : α) (P : Nat → α → Prop) : ∀ n : Nat, (∀ i, i < n → ∃ x, P i x) → ∃ l : List α, l.length = n ∧ ∀ i, i < n → P i (l.getD i d)
  | 0, _ => ⟨[], rfl, fun i hi => absurd hi (Nat.not_lt_zero _)⟩
  | n + 1, h => by
    obtain ⟨l, h1, h2⟩ := list_of d P n (fun i hi => h i (by omega))
    obtain ⟨x, hx⟩ := h n (by omega)
    refine ⟨l ++ [x], by simp [h1], fun i hi => ?_⟩
    by_cases e : i < n
    · rw [getD_left (by omega)]
      exact h2 i e
    · have e : i = l.length := by omega
      subst e
      rw [getD_last, h1]
      exact hx
theorem add_add (a : Addr) (x j : Nat) : (a.add x).add j = a.add (x + j) := by
  unfold Addr.add
  by_cases h1 : x = 0
  · by_cases h2 : j = 0
    · simp [h1, h2]
    · simp [h1, h2]
  · by_cases h2 : j = 0
    · simp [h1, h2]
    · simp [h1, h2, Nat.add_assoc]
theorem node_of_trod {H : Type} {enc : TypeId × Value → H} {W : World} {fuel : Nat} {cs : List Value} {x : DataW H × List MemPlace} (h : DataW.trod enc Try.prog W 0 (fun _ => true) true fuel 47 cs = some x) (hw : ∀ n ∈ x.1.weights Try.prog 47, n ≤ reachBytes) :
    ∃ n : Nod, cs = (nodA n).toList ∧ OkN n ∧ BytesAt W n.da n.data := by
  obtain ⟨xs, m, _, hx1, hl, hlen, hx⟩ := DataW.trod_struct Try.underlying47 h
  have hC : Try.prog.cellsOf 47 = 5 := by kernel_rfl
  rw [hC] at hl
  match xs, hlen, hx1, hx with
  | [y0, y1, y2, y3, y4], _, hx1, hx =>
    have k0 : Try.prog.cellsOf 3 = 1 := by kernel_rfl
    have k1 : Try.prog.cellsOf 29 = 1 := by kernel_rfl
    have k2 : Try.prog.cellsOf 9 = 1 := by kernel_rfl
    have q0 : DataW.trod enc Try.prog W 0 (fun _ => true) true m 9 ((cs.drop 0).take (Try.prog.cellsOf 9)) = some y0 := hx 0 _ rfl
    have q1 : DataW.trod enc Try.prog W 0 (fun _ => true) true m 3 ((cs.drop 1).take (Try.prog.cellsOf 3)) = some y1 := hx 1 _ rfl
    have q2 : DataW.trod enc Try.prog W 0 (fun _ => true) true m 3 ((cs.drop 2).take (Try.prog.cellsOf 3)) = some y2 := hx 2 _ rfl
    have q3 : DataW.trod enc Try.prog W 0 (fun _ => true) true m 9 ((cs.drop 3).take (Try.prog.cellsOf 9)) = some y3 := hx 3 _ rfl
    have q4 : DataW.trod enc Try.prog W 0 (fun _ => true) true m 29 ((cs.drop 4).take (Try.prog.cellsOf 29)) = some y4 := hx 4 _ rfl
    rw [k0] at q1 q2
    rw [k2] at q0 q3
    rw [k1] at q4
    have hwe : ∀ n, (n ∈ y0.1.weights Try.prog 9 ∨ n ∈ y3.1.weights Try.prog 9 ∨ n ∈ y4.1.weights Try.prog 29) → n ≤ reachBytes := fun n hn => hw n (by
      rw [hx1]
      simp only [DataW.weights, Try.underlying47, List.map_cons, List.map_nil, DataW.weightsEach, List.mem_append]
      rcases hn with hn | hn | hn
      · exact .inl hn
      · exact .inr (.inr (.inr (.inl hn)))
      · exact .inr (.inr (.inr (.inr (.inl hn)))))
    obtain ⟨s0, e0, d0, _⟩ := DataW.trod_string Try.underlying9 q0
    obtain ⟨n1, e1, _, w1⟩ := DataW.trod_int Try.underlying3 q1
    obtain ⟨n2, e2, _, w2⟩ := DataW.trod_int Try.underlying3 q2
    obtain ⟨s3, e3, d3, _⟩ := DataW.trod_string Try.underlying9 q3
    obtain ⟨zs, a, c, e4, l4, b4, f4⟩ := bytes_of_trod q4 (fun n hn => hwe n (.inr (.inr hn)))
    have z0 : s0.size ≤ reachBytes := hwe _ (.inl (by rw [d0]; simp [DataW.weights]))
    have z3 : s3.size ≤ reachBytes := hwe _ (.inr (.inl (by rw [d3]; simp [DataW.weights])))
    unfold reachBytes at z0 z3
    refine ⟨⟨s0, n1, n2, s3, a, zs, c⟩, ?_, ⟨bounds_i64 w1, bounds_i64 w2, by show s0.size ≤ _; omega, by show s3.size ≤ _; omega, l4, f4⟩, b4⟩
    match cs, hl with
    | [c0, c1, c2, c3, c4], _ =>
      simp at e0 e1 e2 e3 e4
      rw [e0, e1, e2, e3, e4]
      rfl
theorem nodes_of_trod {H : Type} {enc : TypeId × Value → H} {W : World} {fuel : Nat} {cs : List Value} {x : DataW H × List MemPlace} (h : DataW.trod enc Try.prog W 0 (fun _ => true) true fuel 22 cs = some x) (hw : ∀ n ∈ x.1.weights Try.prog 22, n ≤ reachBytes) :
    ∃ (a : Option Addr) (cap : Nat) (L : List Nod), cs = [.slice a L.length cap] ∧ L.length ≤ 140737488355328 ∧ L.length ≤ cap ∧ NAt W a L ∧ ∀ i, i < L.length → OkN (L.getD i Nod.z) := by
  have hC : Try.prog.cellsOf 47 = 5 := by kernel_rfl
  rcases DataW.trod_slice Try.underlying22 h with ⟨hcs, _⟩ | ⟨a, l, c, elems, rest, m, _, hcs, hx, hb, hl, hm, hlen, hel, _, _⟩
  · exact ⟨none, 0, [], hcs, by simp, by simp, ⟨.inl rfl, fun i hi => absurd hi (Nat.not_lt_zero _)⟩, fun i hi => absurd hi (Nat.not_lt_zero _)⟩
  · rw [hC] at hel
    have hwa : ∀ i (hi : i < elems.length), ∀ n ∈ (elems[i]).1.weights Try.prog 47, n ≤ reachBytes := fun i hi n hn => hw n (by
      rw [hx]
      simp only [DataW.weights, Try.underlying22, List.mem_cons, List.mem_append]
      exact .inr (.inl (weightsAll_mem (List.mem_map_of_mem (List.getElem_mem hi)) n hn)))
    have hcnt : elems.length * 72 ≤ reachBytes := by
      have hb : Try.prog.bytesOf 47 = 72 := by kernel_rfl
      have h3 : ((elems.map (·.1)).length + (rest.map (·.1)).length) * Try.prog.bytesOf 47 ∈ x.1.weights Try.prog 22 := by
        rw [hx]
        simp [DataW.weights, Try.underlying22]
      have h4 := hw _ h3
      rw [hb] at h4
      simp at h4
      omega
    have key : ∀ i, i < l → ∃ n : Nod, OkN n ∧ (∀ j v, (nodA n).toList[j]? = some v → W.cell? (a.add (i * 5 + j)) = some v) ∧ BytesAt W n.da n.data := by
      intro i hi
      have h1 := hel i hi
      have hil : i < elems.length := by omega
      rw [List.getElem?_eq_getElem hil, Option.bind_eq_some_iff] at h1
      obtain ⟨cs, hcs, ht⟩ := h1
      obtain ⟨n, hz, hn, hby⟩ := node_of_trod ht (hwa i hil)
      obtain ⟨_, hcl, hcc⟩ := World.cells?_some hcs
      refine ⟨n, hn, fun j v hj => ?_, hby⟩
      have hj5 : j < 5 := (List.getElem?_eq_some_iff.1 hj).1
      have h2 := hcc j (by omega)
      rw [add_add] at h2
      rw [h2, hz]
      exact hj
    obtain ⟨L, hL, hP⟩ := list_of Nod.z _ l key
    refine ⟨some a, c, L, by rw [hL]; exact hcs, by unfold reachBytes at hcnt; omega, by omega, ⟨?_, fun i hi => (hP i (by omega)).2.2⟩, fun i hi => (hP i (by omega)).1⟩
    by_cases h0 : l = 0
    · exact .inl (List.eq_nil_of_length_eq_zero (by omega))
    obtain ⟨b, o, spot⟩ := a
    have hc00 := (hP 0 (by omega)).2.1 0 _ rfl
    have hspot : spot = none := by simpa [Addr.add] using World.cell?_spot hc00
    subst hspot
    have hblt : b < W.heap.size := by
      rw [addr_add] at hc00
      exact World.block_lt_of_cell? _ _ hc00
    refine .inr ⟨b, o, rfl, hblt, fun k hk j v hv => ?_⟩
    have := (hP k (by omega)).2.1 j v hv
    rw [addr_add, ← Nat.add_assoc] at this
    exact this
theorem open_nodes {H : Type} {enc : TypeId × Value → H} {W : World} {r : Reach} {b0 : Nat} {v : Value} {d : DataW H} {p : List MemPlace}
    (hv : Value.okWide Try.prog W r b0 22 v) (h : DataW.Trod enc Try.prog W 0 (fun _ => true) true 22 v d p) (hw : ∀ n ∈ d.weights Try.prog 22, n ≤ reachBytes) :
    ∃ (L : List Nod) (a : Option Addr) (cap : Nat), v = .slice a L.length cap ∧ L.length ≤ 140737488355328 ∧ L.length ≤ cap ∧ NAt W a L ∧ ∀ i, i < L.length → OkN (L.getD i Nod.z) := by
  obtain ⟨a0, len0, cap0, rfl⟩ := okWide_slice Try.underlying22 hv
  obtain ⟨fuel, hf⟩ := h
  obtain ⟨a, cap, L, hcs, h1, h2, h3, h4⟩ := nodes_of_trod hf hw
  simp [Value.cells] at hcs
  obtain ⟨rfl, rfl, rfl⟩ := hcs
  exact ⟨L, _, _, rfl, h1, h2, h3, h4⟩
end Go.Proofs.Ytiakfgplhdbaeaa
