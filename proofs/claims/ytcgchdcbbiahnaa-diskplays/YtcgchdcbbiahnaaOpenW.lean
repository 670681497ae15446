/-
  What images and lists of writes that are handed in look like.
-/
import Derived.Test.YtcgchdcbbiahnaaLaw3
import Derived.Test.YtcgchdcbbiahnaaOpens
import Derived.Deep.Slices
import Derived.SizedLaws
namespace Go.Proofs.Ytcgchdcbbiahnaa
open Go.ChangeShapes Go.WideShapes Go.ChangeAt Go.RowKit Go.Joins

theorem list_of {α : Type} (d : α) (P : Nat → α → Prop) : ∀ n : Nat, (∀ i, i < n → ∃ x, P i x) → ∃ l : List α, l.length = n ∧ ∀ i, i < n → P i (l.getD i d)
  | 0, _ => ⟨[], rfl, fun i hi => absurd hi (Nat.not_lt_zero i)⟩
  | n + 1, h => by
    obtain ⟨l, hl, hp⟩ := list_of d P n (fun i hi => h i (by omega))
    obtain ⟨x, hx⟩ := h n (by omega)
    refine ⟨l ++ [x], by simp [hl], fun i hi => ?_⟩
    by_cases c : i < n
    · rw [List.getD_eq_getElem?_getD, List.getElem?_append_left (by omega), ← List.getD_eq_getElem?_getD]
      exact hp i c
    · have e : i = n := by omega
      subst e
      rw [List.getD_eq_getElem?_getD, List.getElem?_append_right (by omega), hl, Nat.sub_self]
      exact hx

theorem add_add (a : Addr) (x j : Nat) : (a.add x).add j = a.add (x + j) := by
  unfold Addr.add
  by_cases h1 : x = 0
  · by_cases h2 : j = 0
    · simp [h1, h2]
    · simp [h1, h2]
  · by_cases h2 : j = 0
    · simp [h1, h2]
    · simp [h1, h2, Nat.add_assoc]

theorem bytes_of_ints {W : World} {x : Addr} {l c : Nat} {zs : List Int} (hl : l ≤ c) (hz : zs.length = c)
    (hcell : ∀ i, i < zs.length → W.cell? (x.add i) = some (.int .u8 (zs.getD i 0))) : BytesAt W (some x) (zs.take l) := by
  by_cases h0 : l = 0
  · subst h0
    exact .inl (by simp)
  · obtain ⟨b, off, spot⟩ := x
    have hc := hcell 0 (by omega)
    have hspot : spot = none := by simpa [Addr.add] using World.cell?_spot hc
    subst hspot
    have hlt : b < W.heap.size := by
      rw [addr_add] at hc
      exact block_lt_of_cell hc
    refine .inr ⟨b, off, rfl, hlt, fun j hj => ?_⟩
    rw [List.length_take] at hj
    have h1 := hcell j (by omega)
    rw [addr_add] at h1
    rw [h1]
    simp [show j < l by omega]

theorem bytes_of_trod {H : Type} {enc : TypeId × Value → H} {W : World} {fuel : Nat} {cs : List Value} {x : DataW H × List MemPlace} (h : DataW.trod enc Try.prog W 0 (fun _ => true) true fuel 43 cs = some x) :
    ∃ (ad : Option Addr) (cap : Nat) (zs : List Int), cs = [.slice ad zs.length cap] ∧ BytesAt W ad zs := by
  rcases open_ints Try.underlying43 Try.underlying5 (by kernel_rfl) h with ⟨e5, _⟩ | ⟨ad, l, cp, zs, e5, _, hll, hmm, hz, hy, hcell, hwz⟩
  · exact ⟨none, 0, [], e5, .inl rfl⟩
  · have hz' : zs.length = cp := by simpa using hz
    have el : (zs.take l).length = l := by rw [List.length_take]; omega
    exact ⟨some ad, cp, zs.take l, by rw [el]; exact e5, bytes_of_ints hll hz' hcell⟩

theorem images_of_trod {H : Type} {enc : TypeId × Value → H} {W : World} {fuel : Nat} {cs : List Value} {x : DataW H × List MemPlace} (h : DataW.trod enc Try.prog W 0 (fun _ => true) true fuel 35 cs = some x) :
    ∃ (a : Option Addr) (cap : Nat) (im : List (List Int)), cs = [.slice a im.length cap] ∧ ImgAt W a im := by
  have hC : Try.prog.cellsOf 43 = 1 := by kernel_rfl
  rcases DataW.trod_slice Try.underlying35 h with ⟨hcs, _⟩ | ⟨a, l, c, elems, rest, m, _, hcs, hx, hb, hl, hm, hlen, hel, _, _⟩
  · exact ⟨none, 0, [], hcs, .inl rfl⟩
  · rw [hC] at hel
    have key : ∀ i, i < l → ∃ z : List Int, ∃ ad cap, W.cell? (a.add i) = some (.slice ad z.length cap) ∧ BytesAt W ad z := by
      intro i hi
      have h1 := hel i hi
      rw [List.getElem?_eq_getElem (by omega), Option.bind_eq_some_iff] at h1
      obtain ⟨cs, hcs, ht⟩ := h1
      obtain ⟨ad, cap, z, hz, hby⟩ := bytes_of_trod ht
      obtain ⟨_, hcl, hcc⟩ := World.cells?_some hcs
      have h2 := hcc 0 (by omega)
      rw [hz] at h2
      refine ⟨z, ad, cap, ?_, hby⟩
      have e : (a.add (i * 1)).add 0 = a.add i := by
        obtain ⟨b, o, s⟩ := a
        cases s <;> simp [Addr.add]
      rw [e] at h2
      rw [h2]
      rfl
    obtain ⟨im, him, hP⟩ := list_of ([] : List Int) _ l key
    refine ⟨some a, c, im, by rw [him]; exact hcs, ?_⟩
    by_cases h0 : l = 0
    · exact .inl (List.eq_nil_of_length_eq_zero (by omega))
    obtain ⟨b, o, spot⟩ := a
    have hspot : spot = none := by
      obtain ⟨ad, cap, hc, _⟩ := hP 0 (by omega)
      simpa [Addr.add] using World.cell?_spot hc
    subst hspot
    have hblt : b < W.heap.size := by
      obtain ⟨ad, cap, hc, _⟩ := hP 0 (by omega)
      rw [addr_add] at hc
      exact block_lt_of_cell hc
    refine .inr ⟨b, o, rfl, hblt, fun j hj => ?_⟩
    obtain ⟨ad, cap, hc, hby⟩ := hP j (by omega)
    rw [addr_add] at hc
    exact ⟨ad, cap, hc, hby⟩
theorem open_images {H : Type} {enc : TypeId × Value → H} {W : World} {r : Reach} {b0 : Nat} {v : Value} {d : DataW H} {p : List MemPlace}
    (hv : Value.okWide Try.prog W r b0 35 v) (h : DataW.Trod enc Try.prog W 0 (fun _ => true) true 35 v d p) :
    ∃ (im : List (List Int)) (a : Option Addr) (cap : Nat), v = .slice a im.length cap ∧ ImgAt W a im := by
  obtain ⟨a0, len0, cap0, rfl⟩ := okWide_slice Try.underlying35 hv
  obtain ⟨fuel, hf⟩ := h
  obtain ⟨a, cap, im, hcs, hi⟩ := images_of_trod hf
  simp [Value.cells] at hcs
  obtain ⟨rfl, rfl, rfl⟩ := hcs
  exact ⟨im, _, _, rfl, hi⟩

theorem write_of_trod {H : Type} {enc : TypeId × Value → H} {W : World} {fuel : Nat} {cs : List Value} {x : DataW H × List MemPlace} (h : DataW.trod enc Try.prog W 0 (fun _ => true) true fuel 61 cs = some x) :
    ∃ (n : Int) (ad : Option Addr) (cap : Nat) (zs : List Int), cs = [.int .i64 n, .slice ad zs.length cap] ∧ I64 n ∧ BytesAt W ad zs := by
  obtain ⟨xs, m, _, hx1, hl, hlen, hx⟩ := DataW.trod_struct Try.underlying61 h
  have hC : Try.prog.cellsOf 61 = 2 := by kernel_rfl
  rw [hC] at hl
  match xs, hlen with
  | [y0, y1], _ =>
    have k0 : Try.prog.cellsOf 3 = 1 := by kernel_rfl
    have k4 : Try.prog.cellsOf 43 = 1 := by kernel_rfl
    have q0 : DataW.trod enc Try.prog W 0 (fun _ => true) true m 3 ((cs.drop 0).take (Try.prog.cellsOf 3)) = some y0 := hx 0 _ rfl
    have q1 : DataW.trod enc Try.prog W 0 (fun _ => true) true m 43 ((cs.drop 1).take (Try.prog.cellsOf 43)) = some y1 := hx 1 _ rfl
    rw [k0] at q0
    rw [k4] at q1
    obtain ⟨n, e0, _, w0⟩ := DataW.trod_int Try.underlying3 q0
    obtain ⟨ad, cap, zs, e1, hby⟩ := bytes_of_trod q1
    refine ⟨n, ad, cap, zs, ?_, bounds_i64 w0, hby⟩
    match cs, hl with
    | [c0, c1], _ =>
      simp at e0 e1
      rw [e0, e1]

theorem writes_of_trod {H : Type} {enc : TypeId × Value → H} {W : World} {fuel : Nat} {cs : List Value} {x : DataW H × List MemPlace} (h : DataW.trod enc Try.prog W 0 (fun _ => true) true fuel 58 cs = some x) (hw : ∀ n ∈ x.1.weights Try.prog 58, n ≤ reachBytes) :
    ∃ (a : Option Addr) (cap : Nat) (ws : List (Int × List Int)), cs = [.slice a ws.length cap] ∧ ws.length ≤ 140737488355328 ∧ WrAt W a ws ∧ ∀ x, x ∈ ws → I64 x.1 := by
  have hC : Try.prog.cellsOf 61 = 2 := by kernel_rfl
  rcases DataW.trod_slice Try.underlying58 h with ⟨hcs, _⟩ | ⟨a, l, c, elems, rest, m, _, hcs, hx, hb, hl, hm, hlen, hel, _, _⟩
  · exact ⟨none, 0, [], hcs, by decide, .inl rfl, by simp⟩
  · rw [hC] at hel
    have key : ∀ i, i < l → ∃ z : Int × List Int, I64 z.1 ∧ ∃ ad cap, W.cell? (a.add (i * 2)) = some (.int .i64 z.1) ∧ W.cell? (a.add (i * 2 + 1)) = some (.slice ad z.2.length cap) ∧ BytesAt W ad z.2 := by
      intro i hi
      have h1 := hel i hi
      rw [List.getElem?_eq_getElem (by omega), Option.bind_eq_some_iff] at h1
      obtain ⟨cs, hcs, ht⟩ := h1
      obtain ⟨n, ad, cap, z, hz, hn, hby⟩ := write_of_trod ht
      obtain ⟨_, hcl, hcc⟩ := World.cells?_some hcs
      have h2 := hcc 0 (by omega)
      have h3 := hcc 1 (by omega)
      rw [hz] at h2 h3
      have e : ∀ j, (a.add (i * 2)).add j = a.add (i * 2 + j) := fun j => add_add a (i * 2) j
      rw [e] at h2 h3
      exact ⟨(n, z), hn, ad, cap, h2, h3, hby⟩
    obtain ⟨ws, hws, hP⟩ := list_of ((0, []) : Int × List Int) _ l key
    have hbnd : l ≤ 140737488355328 := by
      have hb : Try.prog.bytesOf 61 = 32 := by kernel_rfl
      have h1 : x.1 = .slice (elems.map (·.1)) (rest.map (·.1)) := congrArg Prod.fst hx
      have h3 : ((elems.map (·.1)).length + (rest.map (·.1)).length) * Try.prog.bytesOf 61 ∈ x.1.weights Try.prog 58 := by
        rw [h1]
        simp [DataW.weights, Try.underlying58]
      have h4 := hw _ h3
      rw [hb] at h4
      simp at h4
      unfold reachBytes at h4
      omega
    refine ⟨some a, c, ws, by rw [hws]; exact hcs, by omega, ?_, ?_⟩
    · by_cases h0 : l = 0
      · exact .inl (List.eq_nil_of_length_eq_zero (by omega))
      obtain ⟨b, o, spot⟩ := a
      have hspot : spot = none := by
        obtain ⟨_, ad, cap, hc, _, _⟩ := hP 0 (by omega)
        simpa [Addr.add] using World.cell?_spot hc
      subst hspot
      have hblt : b < W.heap.size := by
        obtain ⟨_, ad, cap, hc, _, _⟩ := hP 0 (by omega)
        rw [addr_add] at hc
        exact block_lt_of_cell hc
      refine .inr ⟨b, o, rfl, hblt, fun j hj => ?_⟩
      obtain ⟨_, ad, cap, hc, hc2, hby⟩ := hP j (by omega)
      rw [addr_add] at hc hc2
      exact ⟨ad, cap, hc, hc2, hby⟩
    · intro y hy
      obtain ⟨i, hi, rfl⟩ := List.mem_iff_getElem.1 hy
      have := (hP i (by omega)).1
      rw [List.getD_eq_getElem?_getD, List.getElem?_eq_getElem hi] at this
      exact this
theorem open_writes {H : Type} {enc : TypeId × Value → H} {W : World} {r : Reach} {b0 : Nat} {v : Value} {d : DataW H} {p : List MemPlace}
    (hv : Value.okWide Try.prog W r b0 58 v) (h : DataW.Trod enc Try.prog W 0 (fun _ => true) true 58 v d p) (hw : ∀ n ∈ d.weights Try.prog 58, n ≤ reachBytes) :
    ∃ (ws : List (Int × List Int)) (a : Option Addr) (cap : Nat), v = .slice a ws.length cap ∧ ws.length ≤ 140737488355328 ∧ WrAt W a ws ∧ ∀ x, x ∈ ws → I64 x.1 := by
  obtain ⟨a0, len0, cap0, rfl⟩ := okWide_slice Try.underlying58 hv
  obtain ⟨fuel, hf⟩ := h
  obtain ⟨a, cap, ws, hcs, hl, hi, h6⟩ := writes_of_trod hf hw
  simp [Value.cells] at hcs
  obtain ⟨rfl, rfl, rfl⟩ := hcs
  exact ⟨ws, _, _, rfl, hl, hi, h6⟩

end Go.Proofs.Ytcgchdcbbiahnaa
