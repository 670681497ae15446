/-
 What is handed in: lists of deeds.
-/
import Derived.ProofKit
import Derived.OpenShut
import Derived.ChangeOld
import Derived.Lib.SmallJoins
import Derived.SizedLaws
import Derived.ChangeMaps5
import Derived.Carry
import Derived.LaidMore
import Derived.Stop.Joined
import Derived.Test.YtmgfilacepnjlaaGreatDoorVT
namespace Go.Proofs.YtmgfilacepnjlaaGreatDoor
open Go.ChangeShapes Go.WideShapes Go.ChangeAt Go.RowKit

set_option maxRecDepth 100000
theorem bounds_i64 {x : Int} (h : (Lit.int .i64 x).wf = true) : I64 x := by
 have h : IntKind.i64.min ≤ x ∧ x ≤ 9223372036854775807 := by simpa [Lit.wf] using h
 exact ⟨h.1, h.2⟩
theorem own : ownKnob Tryz.prog.godebug = none := by kernel_rfl
theorem laidOut : laidOutB Tryz.prog = true := by kernel_rfl
theorem ub_of_laid {W : World} (h : laidMetH Tryz.prog [("unicode/utf8.acceptRanges", Rows.laid_unicode_utf8_acceptRanges), ("breakwater/plain.usedBy", Rows.laid_breakwater_plain_usedBy), ("unicode/utf8.first", Rows.laid_unicode_utf8_first)] W) : UB W := by
 rw [MakeChecks.laidMetH_plain _ _ _ (by kernel_rfl)] at h
 obtain ⟨ps, ⟨_, _, _, _, _, _, _, _, _, _, ⟨g, t, cs, fuel, p, q, hg, ht, hv, hd, _, _⟩, _⟩, _, _⟩ := h
 obtain rfl := Option.some.inj ((show Tryz.prog.globalNamed "breakwater/plain.usedBy" = some 0 by kernel_rfl).symm.trans hg)
 obtain rfl := Option.some.inj ((show (Tryz.prog.globals[0]?).map (·.type) = some 91 by kernel_rfl).symm.trans ht)
 obtain ⟨xs, m, _, ex, _, hl, hel⟩ := DataW.trod_array Tryz.underlying91 hd
 have c5 : Tryz.prog.cellsOf 89 = 1 := by kernel_rfl
 have hc : ∀ k : Nat, k < 15 → W.cell? ⟨0, k, none⟩ = some (.int .i64 (usedL.getD k 0)) := fun r hr => by
  have hE := hel r hr
  rw [c5, Nat.mul_one, List.getElem?_eq_getElem (by omega)] at hE
  obtain ⟨z, e1, e2, _⟩ := DataW.trod_int Tryz.underlying89 hE
  have hlen : usedL.length = 15 := by kernel_rfl
  have e3 : (xs.map (·.1)) = usedL.map fun n => .lit (.int .i64 n) := (DataW.agg.inj (Prod.mk.inj ex).1).symm
  have e4 : (xs.map (·.1))[r]? = (usedL.map fun n => (DataW.lit (.int .i64 n) : DataW Unit))[r]? := by rw [e3]
  rw [List.getElem?_map, List.getElem?_map, List.getElem?_eq_getElem (by omega : r < xs.length), List.getElem?_eq_getElem (by omega : r < usedL.length), e2] at e4
  have hz : z = usedL.getD r 0 := by
   simp only [Option.map_some, Option.some.injEq, DataW.lit.injEq, Lit.int.injEq, true_and] at e4
   rw [e4, List.getD, List.getElem?_eq_getElem (by omega : r < usedL.length)]; rfl
  rw [World.var?_cell hg hv r, ← hz]
  have : cs.toList[r]? = some (.int .i64 z) := by
   have h0 : ((cs.toList.drop r).take 1)[0]? = some (.int .i64 z) := by rw [e1]; rfl
   simpa using h0
  simpa using this
 exact ⟨World.block_lt_of_cell? _ _ (hc 0 (by decide)), hc⟩
end Go.Proofs.YtmgfilacepnjlaaGreatDoor

namespace Go.Proofs.YtmgfilacepnjlaaGreatDoor
open Go.ChangeShapes Go.WideShapes Go.ChangeAt Go.RowKit Go.Joins

set_option maxRecDepth 100000
theorem bounds_u8 {x : Int} (h : (Lit.int .u8 x).wf = true) : 0 ≤ x ∧ x ≤ 255 := by
 have h : IntKind.u8.min ≤ x ∧ x ≤ IntKind.u8.max := by simpa [Lit.wf] using h
 exact ⟨h.1, h.2⟩
theorem weightsAll_mem {H : Type} {P : Program} {e : TypeId} : ∀ {l : List (DataW H)} {d : DataW H}, d ∈ l → ∀ n ∈ d.weights P e, n ∈ DataW.weightsAll P e l
 | [], _, h, _, _ => by cases h
 | x :: l, d, h, n, hn => by
  unfold DataW.weightsAll
  rcases List.mem_cons.1 h with rfl | h
  ·exact List.mem_append_left _ hn
  ·exact List.mem_append_right _ (weightsAll_mem h n hn)
theorem bytes_of_ints {W : World} {x : Addr} {l c : Nat} {zs : List Int} (hl : l ≤ c) (hz : zs.length = c)
  (hcell : ∀ i, i < zs.length → W.cell? (x.add i) = some (.int .u8 (zs.getD i 0))) : BytesAt W (some x) (zs.take l) := by
 by_cases h0 : l = 0
 ·subst h0
  exact .inl (by simp)
 ·obtain ⟨b, off, spot⟩ := x
  have hc := hcell 0 (by omega)
  have hspot : spot = none := by simpa [Addr.add] using World.cell?_spot hc
  subst hspot
  have hlt : b < W.heap.size := by
   rw [addr_add] at hc
   exact World.block_lt_of_cell? _ _ hc
  refine .inr ⟨b, off, rfl, hlt, fun j hj => ?_⟩
  rw [List.length_take] at hj
  have h1 := hcell j (by omega)
  rw [addr_add] at h1
  rw [h1]
  simp [show j < l by omega]
theorem bytes_of_trod {H : Type} {enc : TypeId × Value → H} {W : World} {fuel : Nat} {cs : List Value} {x : DataW H × List MemPlace} (h : DataW.trod enc Tryz.prog W 0 (fun _ => true) true fuel 32 cs = some x) (hw : ∀ n ∈ x.1.weights Tryz.prog 32, n ≤ reachBytes) :
  ∃ (zs : List Int) (ad : Option Addr) (cap : Nat), cs = [.slice ad zs.length cap] ∧ zs.length ≤ 140737488355328 ∧ BytesAt W ad zs ∧ (∀ x ∈ zs, 0 ≤ x ∧ x ≤ 255) ∧ zs.length ≤ cap ∧ cap ≤ maxLen ∧ (ad = none → zs.length = 0) := by
 rcases open_ints Tryz.underlying32 Tryz.underlying5 (by kernel_rfl) h with ⟨hcs, _⟩ | ⟨y, l, c, zs, hcs, _, hl, hm, hz, hy, hcell, hwz⟩
 ·exact ⟨[], none, 0, hcs, by simp, .inl rfl, by simp, Nat.le_refl _, by decide, fun _ => rfl⟩
 ·have hz' : zs.length = c := by simpa using hz
  have e : (zs.take l).length = l := by rw [List.length_take]; omega
  have hwt : zs.length ≤ reachBytes := by
   have hb : Tryz.prog.bytesOf 5 = 1 := by kernel_rfl
   have h2 : x.1 = .slice (lits .u8 (zs.take l)) (lits .u8 (zs.drop l)) := congrArg Prod.fst hy
   have h3 : ((lits (H := H) .u8 (zs.take l)).length + (lits (H := H) .u8 (zs.drop l)).length) * Tryz.prog.bytesOf 5 ∈ x.1.weights Tryz.prog 32 := by
    rw [h2]
    simp [DataW.weights, Tryz.underlying32]
   have h4 := hw _ h3
   rw [hb] at h4
   simp [lits] at h4
   omega
  refine ⟨zs.take l, some y, c, by rw [e]; exact hcs, by unfold reachBytes at hwt; omega, bytes_of_ints hl hz' hcell, fun y hy => bounds_u8 (hwz y (List.mem_of_mem_take hy)), by omega, hm, fun e => by cases e⟩
theorem list_of {α : Type} (d : α) (P : Nat → α → Prop) : ∀ n : Nat, (∀ i, i < n → ∃ x, P i x) → ∃ l : List α, l.length = n ∧ ∀ i, i < n → P i (l.getD i d)
 | 0, _ => ⟨[], rfl, fun i hi => absurd hi (Nat.not_lt_zero _)⟩
 | n + 1, h => by
  obtain ⟨l, h1, h2⟩ := list_of d P n (fun i hi => h i (by omega))
  obtain ⟨x, hx⟩ := h n (by omega)
  refine ⟨l ++ [x], by simp [h1], fun i hi => ?_⟩
  by_cases e : i < n
  ·rw [List.getD_eq_getElem?_getD, List.getElem?_append_left (by omega), ← List.getD_eq_getElem?_getD]
   exact h2 i e
  ·have e : i = l.length := by omega
   subst e
   rw [List.getD_eq_getElem?_getD, List.getElem?_append_right (Nat.le_refl _), Nat.sub_self, h1]
   exact hx
theorem add_add (a : Addr) (x j : Nat) : (a.add x).add j = a.add (x + j) := by
 unfold Addr.add
 by_cases h1 : x = 0
 ·by_cases h2 : j = 0
  ·simp [h1, h2]
  ·simp [h1, h2]
 ·by_cases h2 : j = 0
  ·simp [h1, h2]
  ·simp [h1, h2, Nat.add_assoc]
theorem deed_of_trod {H : Type} {enc : TypeId × Value → H} {W : World} {fuel : Nat} {cs : List Value} {x : DataW H × List MemPlace} (h : DataW.trod enc Tryz.prog W 0 (fun _ => true) true fuel 36 cs = some x) (hw : ∀ n ∈ x.1.weights Tryz.prog 36, n ≤ reachBytes) :
  ∃ n : Dd, cs = n.A.toList ∧ n.Ok ∧ BytesAt W n.da n.data := by
 obtain ⟨xs, m, _, hx1, hl, hlen, hx⟩ := DataW.trod_struct Tryz.underlying36 h
 have hC : Tryz.prog.cellsOf 36 = 6 := by kernel_rfl
 rw [hC] at hl
 match xs, hlen, hx1, hx with
 | [y0, y1, y2, y3, y4, y5], _, hx1, hx =>
  have k0 : Tryz.prog.cellsOf 3 = 1 := by kernel_rfl
  have k1 : Tryz.prog.cellsOf 32 = 1 := by kernel_rfl
  have k2 : Tryz.prog.cellsOf 9 = 1 := by kernel_rfl
  have q0 : DataW.trod enc Tryz.prog W 0 (fun _ => true) true m 3 ((cs.drop 0).take (Tryz.prog.cellsOf 3)) = some y0 := hx 0 _ rfl
  have q1 : DataW.trod enc Tryz.prog W 0 (fun _ => true) true m 3 ((cs.drop 1).take (Tryz.prog.cellsOf 3)) = some y1 := hx 1 _ rfl
  have q2 : DataW.trod enc Tryz.prog W 0 (fun _ => true) true m 3 ((cs.drop 2).take (Tryz.prog.cellsOf 3)) = some y2 := hx 2 _ rfl
  have q3 : DataW.trod enc Tryz.prog W 0 (fun _ => true) true m 3 ((cs.drop 3).take (Tryz.prog.cellsOf 3)) = some y3 := hx 3 _ rfl
  have q4 : DataW.trod enc Tryz.prog W 0 (fun _ => true) true m 3 ((cs.drop 4).take (Tryz.prog.cellsOf 3)) = some y4 := hx 4 _ rfl
  have q5 : DataW.trod enc Tryz.prog W 0 (fun _ => true) true m 32 ((cs.drop 5).take (Tryz.prog.cellsOf 32)) = some y5 := hx 5 _ rfl
  rw [k0] at q0
  rw [k0] at q1
  rw [k0] at q2
  rw [k0] at q3
  rw [k0] at q4
  rw [k1] at q5
  have hwe : ∀ n, n ∈ y5.1.weights Tryz.prog 32 → n ≤ reachBytes := fun n hn => hw n (by
   rw [hx1]
   simp only [DataW.weights, Tryz.underlying36, List.map_cons, List.map_nil, DataW.weightsEach, List.mem_append]
   exact .inr (.inr (.inr (.inr (.inr (.inl hn))))))
  obtain ⟨n0, e0, _, w0⟩ := DataW.trod_int Tryz.underlying3 q0
  obtain ⟨n1, e1, _, w1⟩ := DataW.trod_int Tryz.underlying3 q1
  obtain ⟨n2, e2, _, w2⟩ := DataW.trod_int Tryz.underlying3 q2
  obtain ⟨n3, e3, _, w3⟩ := DataW.trod_int Tryz.underlying3 q3
  obtain ⟨n4, e4, _, w4⟩ := DataW.trod_int Tryz.underlying3 q4
  obtain ⟨zs, a, c, e5, l4, b4, f4, u1, u2, u3⟩ := bytes_of_trod q5 hwe
  refine ⟨⟨n0, n1, n2, n3, n4, a, zs, c⟩, ?_, ⟨bounds_i64 w0, bounds_i64 w1, bounds_i64 w2, bounds_i64 w3, bounds_i64 w4, u1, u2, u3, f4⟩, b4⟩
  match cs, hl with
  | [c0, c1, c2, c3, c4, c5], _ =>
   simp at e0 e1 e2 e3 e4 e5
   rw [e0, e1, e2, e3, e4, e5]
   rfl
theorem deeds_of_trod {H : Type} {enc : TypeId × Value → H} {W : World} {fuel : Nat} {cs : List Value} {x : DataW H × List MemPlace} (h : DataW.trod enc Tryz.prog W 0 (fun _ => true) true fuel 22 cs = some x) (hw : ∀ n ∈ x.1.weights Tryz.prog 22, n ≤ reachBytes) :
  ∃ (a : Option Addr) (cap : Nat) (L : List Dd), cs = [.slice a L.length cap] ∧ L.length ≤ 140737488355328 ∧ L.length ≤ cap ∧ DdAt W a L ∧ ∀ i, i < L.length → (L.getD i Dd.z).Ok := by
 have hC : Tryz.prog.cellsOf 36 = 6 := by kernel_rfl
 rcases DataW.trod_slice Tryz.underlying22 h with ⟨hcs, _⟩ | ⟨a, l, c, elems, rest, m, _, hcs, hx, hb, hl, hm, hlen, hel, _, _⟩
 ·exact ⟨none, 0, [], hcs, by simp, by simp, ⟨.inl rfl, fun i hi => absurd hi (Nat.not_lt_zero _)⟩, fun i hi => absurd hi (Nat.not_lt_zero _)⟩
 ·rw [hC] at hel
  have hwa : ∀ i (hi : i < elems.length), ∀ n ∈ (elems[i]).1.weights Tryz.prog 36, n ≤ reachBytes := fun i hi n hn => hw n (by
   rw [hx]
   simp only [DataW.weights, Tryz.underlying22, List.mem_cons, List.mem_append]
   exact .inr (.inl (weightsAll_mem (List.mem_map_of_mem (List.getElem_mem hi)) n hn)))
  have hcnt : elems.length * 64 ≤ reachBytes := by
   have hb : Tryz.prog.bytesOf 36 = 64 := by kernel_rfl
   have h3 : ((elems.map (·.1)).length + (rest.map (·.1)).length) * Tryz.prog.bytesOf 36 ∈ x.1.weights Tryz.prog 22 := by
    rw [hx]
    simp [DataW.weights, Tryz.underlying22]
   have h4 := hw _ h3
   rw [hb] at h4
   simp at h4
   omega
  have key : ∀ i, i < l → ∃ n : Dd, n.Ok ∧ (∀ j v, n.A.toList[j]? = some v → W.cell? (a.add (i * 6 + j)) = some v) ∧ BytesAt W n.da n.data := by
   intro i hi
   have h1 := hel i hi
   have hil : i < elems.length := by omega
   rw [List.getElem?_eq_getElem hil, Option.bind_eq_some_iff] at h1
   obtain ⟨cs, hcs, ht⟩ := h1
   obtain ⟨n, hz, hn, hby⟩ := deed_of_trod ht (hwa i hil)
   obtain ⟨_, hcl, hcc⟩ := World.cells?_some hcs
   refine ⟨n, hn, fun j v hj => ?_, hby⟩
   have hj5 : j < 6 := (List.getElem?_eq_some_iff.1 hj).1
   have h2 := hcc j (by omega)
   rw [add_add] at h2
   rw [h2, hz]
   exact hj
  obtain ⟨L, hL, hP⟩ := list_of Dd.z _ l key
  refine ⟨some a, c, L, by rw [hL]; exact hcs, by unfold reachBytes at hcnt; omega, by omega, ⟨?_, fun i hi => (hP i (by omega)).2.2⟩, fun i hi => (hP i (by omega)).1⟩
  by_cases h0 : l = 0
  ·exact .inl (List.eq_nil_of_length_eq_zero (by omega))
  obtain ⟨b, o, spot⟩ := a
  have hc00 := (hP 0 (by omega)).2.1 0 _ rfl
  have hspot : spot = none := by simpa [Addr.add] using World.cell?_spot hc00
  subst hspot
  have hblt : b < W.heap.size := by
   rw [addr_add] at hc00
   exact World.block_lt_of_cell? _ _ hc00
  refine .inr ⟨b, o, rfl, hblt, fun k hk j v hv => ?_⟩
  have := (hP k (by omega)).2.1 j v hv
  rw [addr_add, ← Nat.add_assoc] at this
  exact this
theorem open_deeds {H : Type} {enc : TypeId × Value → H} {W : World} {r : Reach} {b0 : Nat} {v : Value} {d : DataW H} {p : List MemPlace}
  (hv : Value.okWide Tryz.prog W r b0 22 v) (h : DataW.Trod enc Tryz.prog W 0 (fun _ => true) true 22 v d p) (hw : ∀ n ∈ d.weights Tryz.prog 22, n ≤ reachBytes) :
  ∃ (L : List Dd) (a : Option Addr) (cap : Nat), v = .slice a L.length cap ∧ L.length ≤ 140737488355328 ∧ L.length ≤ cap ∧ DdAt W a L ∧ ∀ i, i < L.length → (L.getD i Dd.z).Ok := by
 obtain ⟨a0, len0, cap0, rfl⟩ := okWide_slice Tryz.underlying22 hv
 obtain ⟨fuel, hf⟩ := h
 obtain ⟨a, cap, L, hcs, h1, h2, h3, h4⟩ := deeds_of_trod hf hw
 simp [Value.cells] at hcs
 obtain ⟨rfl, rfl, rfl⟩ := hcs
 exact ⟨L, _, _, rfl, h1, h2, h3, h4⟩
theorem open_deed {H : Type} {enc : TypeId × Value → H} {W : World} {r : Reach} {b0 : Nat} {v : Value} {d : DataW H} {p : List MemPlace}
  (hv : Value.okWide Tryz.prog W r b0 36 v) (h : DataW.Trod enc Tryz.prog W 0 (fun _ => true) true 36 v d p) (hw : ∀ n ∈ d.weights Tryz.prog 36, n ≤ reachBytes) :
  ∃ x : Dd, v = .agg x.A ∧ x.Ok ∧ BytesAt W x.da x.data := by
 obtain ⟨cs, rfl, _⟩ := okWide_struct Tryz.underlying36 hv
 obtain ⟨fuel, hf⟩ := h
 obtain ⟨x, h1, h2, h3⟩ := deed_of_trod hf hw
 have hcs : Value.cells (.agg cs) = cs := rfl
 rw [hcs] at h1
 exact ⟨x, congrArg Value.agg (Array.toList_inj.1 h1), h2, h3⟩
theorem all_deeds {L : List Dd} (h : ∀ i, i < L.length → (L.getD i Dd.z).Ok) : ∀ x ∈ L, x.Ok := fun x hx => by
 obtain ⟨i, hi, e⟩ := List.mem_iff_getElem.1 hx
 have := h i hi
 rw [List.getD_eq_getElem?_getD, List.getElem?_eq_getElem hi] at this
 rw [← e]
 exact this
end Go.Proofs.YtmgfilacepnjlaaGreatDoor
