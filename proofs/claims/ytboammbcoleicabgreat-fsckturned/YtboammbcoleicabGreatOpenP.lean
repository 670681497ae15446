/-
 What a picture that is handed in looks like.
-/
import Derived.Test.YtboammbcoleicabGreatC1
import Derived.ProofKit
import Derived.OpenShut
import Derived.ChangeOld
import Derived.Lib.SmallJoins
import Derived.Deep.Slices
import Derived.Test.YtboammbcoleicabGreatGA
namespace Go.Proofs.YtboammbcoleicabGreat
open Go.ChangeShapes Go.WideShapes Go.ChangeAt Go.RowKit Go.Joins

theorem own : ownKnob Tryz.prog.godebug = none := by kernel_rfl
theorem laidOut : laidOutB Tryz.prog = true := by kernel_rfl
end Go.Proofs.YtboammbcoleicabGreat

namespace Go.Proofs.YtboammbcoleicabGreat
open Go.ChangeShapes Go.WideShapes Go.ChangeAt Go.RowKit Go.Joins

set_option maxRecDepth 100000
theorem list_of {α : Type} (d : α) (P : Nat → α → Prop) : ∀ n : Nat, (∀ i, i < n → ∃ x, P i x) → ∃ l : List α, l.length = n ∧ ∀ i, i < n → P i (l.getD i d)
 | 0, _ => ⟨[], rfl, fun i hi => absurd hi (Nat.not_lt_zero i)⟩
 | n + 1, h => by
  obtain ⟨l, hl, hp⟩ := list_of d P n (fun i hi => h i (by omega));obtain ⟨x, hx⟩ := h n (by omega);refine ⟨l ++ [x], by simp [hl], fun i hi => ?_⟩
  by_cases c : i < n
  ·rw [List.getD_eq_getElem?_getD, List.getElem?_append_left (by omega), ← List.getD_eq_getElem?_getD]
   exact hp i c
  ·have e : i = n := by omega
   subst e;rw [List.getD_eq_getElem?_getD, List.getElem?_append_right (by omega), hl, Nat.sub_self]
   exact hx

theorem add_add (a : Addr) (x j : Nat) : (a.add x).add j = a.add (x + j) := by
 unfold Addr.add
 by_cases h1 : x = 0
 ·by_cases h2 : j = 0
  ·simp [h1, h2]
  ·simp [h1, h2]
 ·by_cases h2 : j = 0
  ·simp [h1, h2]
  ·simp [h1, h2, Nat.add_assoc]

end Go.Proofs.YtboammbcoleicabGreat

namespace Go.Proofs.YtboammbcoleicabGreat
open Go.ChangeShapes Go.WideShapes Go.ChangeAt Go.RowKit Go.Joins

set_option maxRecDepth 100000
theorem bytes_of_ints {W : World} {x : Addr} {l c : Nat} {zs : List Int} (hl : l ≤ c) (hz : zs.length = c)
  (hcell : ∀ i, i < zs.length → W.cell? (x.add i) = some (.int .u8 (zs.getD i 0))) : D.BytesAt W (some x) (zs.take l) := by
 by_cases h0 : l = 0
 ·subst h0
  exact .inl (by simp)
 ·obtain ⟨b, off, spot⟩ := x
  have hc := hcell 0 (by omega)
  have hspot : spot = none := by simpa [Addr.add] using World.cell?_spot hc
  subst hspot
  have hlt : b < W.heap.size := by
   rw [addr_add] at hc
   exact World.block_lt_of_cell? _ _ hc
  refine .inr ⟨b, off, rfl, hlt, fun j hj => ?_⟩;rw [List.length_take] at hj;have h1 := hcell j (by omega);rw [addr_add] at h1;rw [h1]
  simp [show j < l by omega]
theorem bytes_of_trod {H : Type} {enc : TypeId × Value → H} {W : World} {fuel : Nat} {cs : List Value} {x : DataW H × List MemPlace} (h : DataW.trod enc Tryz.prog W 0 (fun _ => true) true fuel 41 cs = some x) :
  ∃ (zs : List Int) (ad : Option Addr) (cap : Nat), cs = [.slice ad zs.length cap] ∧ zs.length ≤ 9223372036854775807 ∧ D.BytesAt W ad zs ∧ ∀ x ∈ zs, 0 ≤ x ∧ x ≤ 255 := by
 rcases open_ints Tryz.underlying41 Tryz.underlying5 (by kernel_rfl) h with ⟨hcs, _⟩ | ⟨x, l, c, zs, hcs, _, hl, hm, hz, _, hcell, hwz⟩
 ·exact ⟨[], none, 0, hcs, by simp, .inl rfl, by simp⟩
 ·have hz' : zs.length = c := by simpa using hz
  have e : (zs.take l).length = l := by rw [List.length_take]; omega
  refine ⟨zs.take l, some x, c, by rw [e]; exact hcs, by unfold maxLen at hm; omega, bytes_of_ints hl hz' hcell, ?_⟩
  intro y hy
  exact bounds_u8 (hwz y (List.mem_of_mem_take hy))
theorem spot_of_trod {H : Type} {enc : TypeId × Value → H} {W : World} {fuel : Nat} {cs : List Value} {x : DataW H × List MemPlace} (h : DataW.trod enc Tryz.prog W 0 (fun _ => true) true fuel 43 cs = some x) :
  ∃ (s : Spt) (a : Option Addr) (c : Nat), cs = [.int .i64 s.1, .int .i64 s.2.1, .slice a s.2.2.length c] ∧ OkSpt s ∧ D.BytesAt W a s.2.2 := by
 obtain ⟨xs, m, _, hx1, hl, hlen, hx⟩ := DataW.trod_struct Tryz.underlying43 h
 have hC : Tryz.prog.cellsOf 43 = 3 := by kernel_rfl
 rw [hC] at hl
 match xs, hlen with
 | [y0, y1, y2], _ =>
  have k0 : Tryz.prog.cellsOf 3 = 1 := by kernel_rfl
  have k1 : Tryz.prog.cellsOf 41 = 1 := by kernel_rfl
  have q0 : DataW.trod enc Tryz.prog W 0 (fun _ => true) true m 3 ((cs.drop 0).take (Tryz.prog.cellsOf 3)) = some y0 := hx 0 _ rfl;have q1 : DataW.trod enc Tryz.prog W 0 (fun _ => true) true m 3 ((cs.drop 1).take (Tryz.prog.cellsOf 3)) = some y1 := hx 1 _ rfl;have q2 : DataW.trod enc Tryz.prog W 0 (fun _ => true) true m 41 ((cs.drop 2).take (Tryz.prog.cellsOf 41)) = some y2 := hx 2 _ rfl;rw [k0] at q0 q1;rw [k1] at q2;obtain ⟨n0, e0, _, w0⟩ := DataW.trod_int Tryz.underlying3 q0;obtain ⟨n1, e1, _, w1⟩ := DataW.trod_int Tryz.underlying3 q1;obtain ⟨zs, a, c, e2, l2, b2, f2⟩ := bytes_of_trod q2;refine ⟨(n0, n1, zs), a, c, ?_, ⟨bounds_i64 w0, bounds_i64 w1, f2, l2⟩, b2⟩
  match cs, hl with
  | [c0, c1, c2], _ =>
   simp at e0 e1 e2
   rw [e0, e1, e2]
theorem spots_of_trod {H : Type} {enc : TypeId × Value → H} {W : World} {fuel : Nat} {cs : List Value} {x : DataW H × List MemPlace} (h : DataW.trod enc Tryz.prog W 0 (fun _ => true) true fuel 22 cs = some x) :
  ∃ (a : Option Addr) (cap : Nat) (ws : List Spt), cs = [.slice a ws.length cap] ∧ ws.length ≤ 9223372036854775807 ∧ SptsAt W a ws ∧ ∀ x, x ∈ ws → OkSpt x := by
 have hC : Tryz.prog.cellsOf 43 = 3 := by kernel_rfl
 rcases DataW.trod_slice Tryz.underlying22 h with ⟨hcs, _⟩ | ⟨a, l, c, elems, rest, m, _, hcs, hx, hb, hl, hm, hlen, hel, _, _⟩
 ·exact ⟨none, 0, [], hcs, by decide, .inl rfl, by simp⟩
 ·rw [hC] at hel
  have key : ∀ i, i < l → ∃ z : Spt, OkSpt z ∧ ∃ ad ca, (∀ j v, ([Value.int .i64 z.1, .int .i64 z.2.1, .slice ad z.2.2.length ca])[j]? = some v → W.cell? (a.add (i * 3 + j)) = some v) ∧ D.BytesAt W ad z.2.2 := by
   intro i hi
   have h1 := hel i hi
   have hil : i < elems.length := by omega
   rw [List.getElem?_eq_getElem hil, Option.bind_eq_some_iff] at h1;obtain ⟨cs, hcs, ht⟩ := h1;obtain ⟨z, ad, ca, hz, hn, hby⟩ := spot_of_trod ht;obtain ⟨_, hcl, hcc⟩ := World.cells?_some hcs;refine ⟨z, hn, ad, ca, fun j v hj => ?_, hby⟩
   have hj5 : j < 3 := by
    have := (List.getElem?_eq_some_iff.1 hj).1
    simpa using this
   have h2 := hcc j (by omega);rw [add_add] at h2;rw [h2, hz]
   exact hj
  obtain ⟨ws, hws, hP⟩ := list_of ((0, 0, []) : Spt) _ l key;refine ⟨some a, c, ws, by rw [hws]; exact hcs, by unfold maxLen at hm; omega, ?_, fun x hx => ?_⟩
  ·by_cases h0 : l = 0
   ·exact .inl (List.eq_nil_of_length_eq_zero (by omega))
   obtain ⟨b, o, spot⟩ := a;obtain ⟨_, ad0, ca0, hc0, _⟩ := hP 0 (by omega);have hc00 := hc0 0 _ rfl
   have hspot : spot = none := by simpa [Addr.add] using World.cell?_spot hc00
   subst hspot
   have hblt : b < W.heap.size := by
    rw [addr_add] at hc00
    exact World.block_lt_of_cell? _ _ hc00
   refine .inr ⟨b, o, rfl, hblt, fun k x hk => ?_⟩;have hkl := (List.getElem?_eq_some_iff.1 hk).1;obtain ⟨_, ad, ca, hc, hby⟩ := hP k (by omega)
   have e : ws.getD k (0, 0, []) = x := by rw [List.getD_eq_getElem?_getD, hk]; rfl
   rw [e] at hc hby;refine ⟨ad, ca, fun j v hv => ?_, hby⟩;have := hc j v hv;rw [addr_add, ← Nat.add_assoc] at this
   exact this
  ·obtain ⟨k, hk, rfl⟩ := List.mem_iff_getElem.1 hx
   have := (hP k (by omega)).1;rw [List.getD_eq_getElem?_getD, List.getElem?_eq_getElem hk] at this
   exact this
theorem pic_of_trod {H : Type} {enc : TypeId × Value → H} {W : World} {fuel : Nat} {cs : List Value} {x : DataW H × List MemPlace} (h : DataW.trod enc Tryz.prog W 0 (fun _ => true) true fuel 24 cs = some x) :
  ∃ (s : Int) (a : Option Addr) (l : List Spt) (c : Nat), cs = [.int .i64 s, .slice a l.length c] ∧ I64 s ∧ SptsAt W a l ∧ (∀ x ∈ l, OkSpt x) ∧ l.length ≤ 9223372036854775807 := by
 obtain ⟨xs, m, _, hx1, hl, hlen, hx⟩ := DataW.trod_struct Tryz.underlying24 h
 have hC : Tryz.prog.cellsOf 24 = 2 := by kernel_rfl
 rw [hC] at hl
 match xs, hlen with
 | [y0, y1], _ =>
  have k0 : Tryz.prog.cellsOf 3 = 1 := by kernel_rfl
  have k1 : Tryz.prog.cellsOf 22 = 1 := by kernel_rfl
  have q0 : DataW.trod enc Tryz.prog W 0 (fun _ => true) true m 3 ((cs.drop 0).take (Tryz.prog.cellsOf 3)) = some y0 := hx 0 _ rfl;have q1 : DataW.trod enc Tryz.prog W 0 (fun _ => true) true m 22 ((cs.drop 1).take (Tryz.prog.cellsOf 22)) = some y1 := hx 1 _ rfl;rw [k0] at q0;rw [k1] at q1;obtain ⟨n0, e0, _, w0⟩ := DataW.trod_int Tryz.underlying3 q0;obtain ⟨a, c, ws, e1, l1, s1, f1⟩ := spots_of_trod q1;refine ⟨n0, a, ws, c, ?_, bounds_i64 w0, s1, f1, l1⟩
  match cs, hl with
  | [c0, c1], _ =>
   simp at e0 e1
   rw [e0, e1]
theorem okWide_struct2 {P : Program} {w : World} {r : Reach} {base : Nat} {t : TypeId} {fs : Array Field} {v : Value} (ht : P.underlying t = some (.struct fs)) (h : Value.okWide P w r base t v) : ∃ cs, v = .agg cs := by
 simp only [Value.okWide, ht] at h
 obtain ⟨cs, h1, _⟩ := h
 exact ⟨cs, h1⟩
theorem open_pic {H : Type} {enc : TypeId × Value → H} {W : World} {r : Reach} {b0 : Nat} {v : Value} {d : DataW H} {p : List MemPlace}
  (hval : Value.okWide Tryz.prog W r b0 24 v) (hd : DataW.Trod enc Tryz.prog W 0 (fun _ => true) true 24 v d p) :
  ∃ (s : Int) (a : Option Addr) (l : List Spt) (c : Nat), v = .agg #[.int .i64 s, .slice a l.length c] ∧ I64 s ∧ SptsAt W a l ∧ (∀ x ∈ l, OkSpt x) ∧ l.length ≤ 9223372036854775807 := by
 obtain ⟨cs, rfl⟩ := okWide_struct2 Tryz.underlying24 hval;obtain ⟨m, hm⟩ := hd;obtain ⟨s, a, l, c, hcs, h1, h2, h3, h4⟩ := pic_of_trod hm;refine ⟨s, a, l, c, ?_, h1, h2, h3, h4⟩
 simp [Value.cells] at hcs
 rw [← hcs]
end Go.Proofs.YtboammbcoleicabGreat
