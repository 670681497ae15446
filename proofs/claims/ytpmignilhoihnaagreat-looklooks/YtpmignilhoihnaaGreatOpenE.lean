/-
 What a list of sectors that is handed in looks like.
-/
import Derived.Test.YtpmignilhoihnaaGreatC1
import Derived.ProofKit
import Derived.OpenShut
import Derived.ChangeOld
import Derived.Lib.SmallJoins
import Derived.Deep.Slices
namespace Go.Proofs.YtpmignilhoihnaaGreat
open Go.ChangeShapes Go.WideShapes Go.ChangeAt Go.RowKit Go.Joins

theorem own : ownKnob Tryz.prog.godebug = none := by kernel_rfl
theorem laidOut : laidOutB Tryz.prog = true := by kernel_rfl
theorem cells26 : Tryz.prog.cellsOf 33 = 128 := by kernel_rfl

theorem cells_bytes (cs : List Value) (f : Nat → Int) (h : ∀ i, i < cs.length → cs[i]? = some (.int .u8 (f i))) : cs = ((List.range cs.length).map f).map (Value.int .u8) := by
 apply List.ext_getElem (by simp)
 intro i h1 h2
 have := h i h1;rw [List.getElem?_eq_getElem h1] at this
 simpa using this

theorem sec_of_trod {H : Type} {enc : TypeId × Value → H} {W : World} {base : Nat} {spare : Nat → Bool} {held : Bool} {fuel : Nat} {cs : List Value} {x : DataW H × List MemPlace}
  (h : DataW.trod enc Tryz.prog W base spare held fuel 33 cs = some x) : ∃ s, IsSec s ∧ cs = s.map (Value.int .u8) := by
 obtain ⟨xs, m, _, _, hl, hxl, hx⟩ := DataW.trod_array Tryz.underlying33 h;rw [cells26] at hl
 have key : ∀ i, i < 128 → ∃ n : Int, cs[i]? = some (.int .u8 n) ∧ 0 ≤ n ∧ n ≤ 255 := by
  intro i hi
  have h1 := hx i hi;rw [cells5, Nat.mul_one, List.getElem?_eq_getElem (by omega)] at h1;obtain ⟨n, hn, _, hw⟩ := DataW.trod_int Tryz.underlying5 h1;refine ⟨n, ?_, bounds_u8 hw⟩
  have h2 : ((cs.drop i).take 1)[0]? = some (.int .u8 n) := by rw [hn]; rfl
  simpa using h2
 have e := cells_bytes cs (fun i => match cs[i]? with | some (.int _ n) => n | _ => 0) (fun i hi => by
  obtain ⟨n, hn, _⟩ := key i (by omega)
  rw [hn])
 refine ⟨_, ⟨by simp [hl], ?_⟩, e⟩
 intro n hn
 rw [List.mem_map] at hn;obtain ⟨i, hi, rfl⟩ := hn;rw [List.mem_range] at hi;obtain ⟨n, hn, hb⟩ := key i (by omega);rw [hn]
 exact hb

end Go.Proofs.YtpmignilhoihnaaGreat

namespace Go.Proofs.YtpmignilhoihnaaGreat
open Go.ChangeShapes Go.WideShapes Go.ChangeAt Go.RowKit Go.Joins

set_option maxRecDepth 100000
theorem list_of {α : Type} (d : α) (P : Nat → α → Prop) : ∀ n : Nat, (∀ i, i < n → ∃ x, P i x) → ∃ l : List α, l.length = n ∧ ∀ i, i < n → P i (l.getD i d)
 | 0, _ => ⟨[], rfl, fun i hi => absurd hi (Nat.not_lt_zero i)⟩
 | n + 1, h => by
  obtain ⟨l, hl, hp⟩ := list_of d P n (fun i hi => h i (by omega));obtain ⟨x, hx⟩ := h n (by omega);refine ⟨l ++ [x], by simp [hl], fun i hi => ?_⟩
  by_cases c : i < n
  ·rw [List.getD_eq_getElem?_getD, List.getElem?_append_left (by omega), ← List.getD_eq_getElem?_getD]
   exact hp i c
  ·have e : i = n := by omega
   subst e;rw [List.getD_eq_getElem?_getD, List.getElem?_append_right (by omega), hl, Nat.sub_self]
   exact hx

theorem add_add (a : Addr) (x j : Nat) : (a.add x).add j = a.add (x + j) := by
 unfold Addr.add
 by_cases h1 : x = 0
 ·by_cases h2 : j = 0
  ·simp [h1, h2]
  ·simp [h1, h2]
 ·by_cases h2 : j = 0
  ·simp [h1, h2]
  ·simp [h1, h2, Nat.add_assoc]

theorem secs_of_trod {H : Type} {enc : TypeId × Value → H} {W : World} {fuel : Nat} {cs : List Value} {x : DataW H × List MemPlace} (h : DataW.trod enc Tryz.prog W 0 (fun _ => true) true fuel 22 cs = some x) :
  ∃ (a : Option Addr) (cap : Nat) (im : List (List Int)), cs = [.slice a im.length cap] ∧ ImgAt W a im ∧ im.length ≤ 9223372036854775807 := by
 rcases DataW.trod_slice Tryz.underlying22 h with ⟨hcs, _⟩ | ⟨a, l, c, elems, rest, m, _, hcs, hx, hb, hl, hm, hlen, hel, _, _⟩
 ·exact ⟨none, 0, [], hcs, ⟨fun s hs => by simp at hs, .inl rfl⟩, by decide⟩
 ·rw [cells26] at hel
  have key : ∀ i, i < l → ∃ z : List Int, IsSec z ∧ ∀ j v, (z.map (Value.int .u8))[j]? = some v → W.cell? (a.add (i * 128 + j)) = some v := by
   intro i hi
   have h1 := hel i hi;rw [List.getElem?_eq_getElem (by omega), Option.bind_eq_some_iff] at h1;obtain ⟨cs, hcs, ht⟩ := h1;obtain ⟨z, hz, he⟩ := sec_of_trod ht;obtain ⟨_, hcl, hcc⟩ := World.cells?_some hcs;refine ⟨z, hz, fun j v hj => ?_⟩
   have hj128 : j < 128 := by
    have := (List.getElem?_eq_some_iff.1 hj).1;rw [List.length_map, hz.1] at this
    exact this
   have h2 := hcc j (by omega);rw [add_add] at h2;rw [h2, he]
   exact hj
  obtain ⟨im, him, hP⟩ := list_of Zs _ l key
  have hsec : ∀ s ∈ im, IsSec s := fun s hs => by
   obtain ⟨j, hj, rfl⟩ := List.mem_iff_getElem.1 hs;have := (hP j (by omega)).1;rw [List.getD_eq_getElem?_getD, List.getElem?_eq_getElem hj] at this
   exact this
  refine ⟨some a, c, im, by rw [him]; exact hcs, ⟨hsec, ?_⟩, by unfold maxLen at hm; omega⟩
  by_cases h0 : l = 0
  ·exact .inl (List.eq_nil_of_length_eq_zero (by omega))
  obtain ⟨b, o, spot⟩ := a;have hz0 : ∃ v, (((im.getD 0 Zs)).map (Value.int .u8))[0]? = some v := ⟨_, List.getElem?_eq_getElem (by rw [List.length_map, (hP 0 (by omega)).1.1]; decide)⟩;obtain ⟨v0, hv0⟩ := hz0;have hc0 := (hP 0 (by omega)).2 0 v0 hv0
  have hspot : spot = none := by simpa [Addr.add] using World.cell?_spot hc0
  subst hspot
  have hblt : b < W.heap.size := by
   rw [addr_add] at hc0
   exact World.block_lt_of_cell? _ _ hc0
  refine .inr ⟨b, o, rfl, hblt, fun j s hj i v hv => ?_⟩;have hjl := (List.getElem?_eq_some_iff.1 hj).1
  have hs : im.getD j Zs = s := by rw [List.getD_eq_getElem?_getD, hj]; rfl
  have := (hP j (by omega)).2 i v (by rw [hs]; exact hv);rw [addr_add, ← Nat.add_assoc] at this
  exact this
theorem open_secs {H : Type} {enc : TypeId × Value → H} {W : World} {r : Reach} {b0 : Nat} {v : Value} {d : DataW H} {p : List MemPlace}
  (hval : Value.okWide Tryz.prog W r b0 22 v) (hd : DataW.Trod enc Tryz.prog W 0 (fun _ => true) true 22 v d p) : ∃ (a : Option Addr) (cap : Nat) (im : List (List Int)), v = .slice a im.length cap ∧ ImgAt W a im ∧ im.length ≤ 9223372036854775807 := by
 obtain ⟨a0, len0, cap0, rfl⟩ := okWide_slice Tryz.underlying22 hval;obtain ⟨m, hm⟩ := hd;obtain ⟨a, cap, im, hcs, hI, hl⟩ := secs_of_trod hm
 simp [Value.cells] at hcs
 obtain ⟨rfl, rfl, rfl⟩ := hcs
 exact ⟨_, _, im, rfl, hI, hl⟩

end Go.Proofs.YtpmignilhoihnaaGreat
