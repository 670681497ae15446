/-
 PlainQuiet, walked.
-/
import Derived.Test.YtmgfilacepnjlaaGreatDoorVS
import Derived.Test.YtmgfilacepnjlaaGreatDoorVN0
namespace Go.Proofs.YtmgfilacepnjlaaGreatDoor
open Go.RowKit

def BytesAt (w : World) (a : Option Addr) (zs : List Int) : Prop := zs = [] ∨ ∃ b o, a = some ⟨b, o, none⟩ ∧ b < w.heap.size ∧ ∀ j, j < zs.length → w.cell? ⟨b, o + j, none⟩ = some (.int .u8 (zs.getD j 0))
theorem BytesAt.call {w w' : World} {a : Option Addr} {l : List Int} (h : BytesAt w a l) (hc : Chg w w' No) : BytesAt w' a l := by
 rcases h with h | ⟨b, o, e, hb, h⟩
 ·exact .inl h
 ·exact .inr ⟨b, o, e, Nat.lt_of_lt_of_le hb hc.size, fun j hj => by
   have := h j hj
   unfold World.cell? at this ⊢
   rw [hc.block b hb (fun e => e)]
   exact this⟩
theorem BytesAt.dat {w W : World} {a : Option Addr} {l : List Int} {q : PC} (h : BytesAt w a l) (hq : ∀ j, PBlk q j → w.heap.size ≤ j) (hc : Chg w W No) (n dc : Nat) (hn : n ≤ l.length) (hdc : l.length ≤ dc) : DatAt W q a dc (l.take n) := by
 refine ⟨by rw [List.length_take]; omega, fun hne => ?_⟩
 rcases h with e | ⟨b, o, e, hb, h⟩
 ·rw [e] at hne; simp at hne
 ·refine ⟨b, o, e, Nat.lt_of_lt_of_le hb hc.size, fun hp => by have := hq b hp; omega, fun j v hj => ?_⟩
  rw [List.getElem?_map] at hj
  have hjl : j < (l.take n).length := by
   rcases Nat.lt_or_ge j (l.take n).length with k | k
   ·exact k
   ·rw [List.getElem?_eq_none k] at hj; cases hj
  rw [List.length_take] at hjl
  rw [List.getElem?_take, if_pos (by omega), List.getElem?_eq_getElem (by omega)] at hj
  cases hj
  have := h j (by omega)
  rw [List.getD_eq_getElem?_getD, List.getElem?_eq_getElem (by omega)] at this
  rw [addr_add]
  unfold World.cell? at this ⊢
  rw [hc.block b hb (fun e => e)]
  exact this
structure Dd where
 kd : Int
 a : Int
 b : Int
 off : Int
 n : Int
 da : Option Addr
 data : List Int
 dc : Nat
structure Od where
 kind : Int
 path : ByteArray
 tto : ByteArray
 off : Int
 len : Int
 da : Option Addr
 data : List Int
 dc : Nat
 made : Int
 pick : Int
def Dd.A (x : Dd) : Array Value := deedA x.kd x.a x.b x.off x.n x.da x.data.length x.dc
def Od.A (x : Od) : Array Value := opA x.kind x.path x.tto x.off x.len x.da x.data.length x.dc x.made x.pick
def Dd.z : Dd := ⟨0, 0, 0, 0, 0, none, [], 0⟩
def Od.z : Od := ⟨0, ⟨#[]⟩, ⟨#[]⟩, 0, 0, none, [], 0, 0, 0⟩
structure Dd.Ok (x : Dd) : Prop where
 i1 : I64 x.kd
 i2 : I64 x.a
 i3 : I64 x.b
 i4 : I64 x.off
 i5 : I64 x.n
 len : x.data.length ≤ x.dc
 cap : x.dc ≤ maxLen
 nil : x.da = none → x.data.length = 0
 by_ : ∀ c ∈ x.data, 0 ≤ c ∧ c ≤ 255
structure Od.Ok (x : Od) : Prop where
 i1 : I64 x.kind
 len : x.data.length ≤ x.dc
 by_ : ∀ c ∈ x.data, 0 ≤ c ∧ c ≤ 255
structure RAt {α : Type} (w : World) (a : Option Addr) (L : List α) (z : α) (A : α → Array Value) (sz : Nat) (da : α → Option Addr) (data : α → List Int) : Prop where
 at_ : L = [] ∨ ∃ b o, a = some ⟨b, o, none⟩ ∧ b < w.heap.size ∧ ∀ i, i < L.length → ∀ j v, (A (L.getD i z)).toList[j]? = some v → w.cell? ⟨b, o + i * sz + j, none⟩ = some v
 data : ∀ i, i < L.length → BytesAt w (da (L.getD i z)) (data (L.getD i z))
theorem RAt.call {α : Type} {w w' : World} {a : Option Addr} {L : List α} {z : α} {A : α → Array Value} {sz : Nat} {da : α → Option Addr} {data : α → List Int} (h : RAt w a L z A sz da data) (hc : Chg w w' No) : RAt w' a L z A sz da data := by
 refine ⟨?_, fun i hi => (h.data i hi).call hc⟩
 rcases h.at_ with e | ⟨b, o, e, hb, h1⟩
 ·exact .inl e
 ·exact .inr ⟨b, o, e, Nat.lt_of_lt_of_le hb hc.size, fun i hi j v hv => by
   have := h1 i hi j v hv
   unfold World.cell? at this ⊢
   rw [hc.block b hb (fun e => e)]
   exact this⟩
def DdAt (w : World) (a : Option Addr) (L : List Dd) : Prop := RAt w a L Dd.z Dd.A 6 Dd.da Dd.data
def OdAt (w : World) (a : Option Addr) (L : List Od) : Prop := RAt w a L Od.z Od.A 8 Od.da Od.data
theorem szDe : (Tryz.prog.info? 36).map (·.size) = some 6 := by kernel_rfl
theorem DdAt.load {w : World} {a : Option Addr} {L : List Dd} (h : DdAt w a L) {i : Nat} (hi : i < L.length) : ∃ b o, a = some ⟨b, o, none⟩ ∧ ∀ W, Chg w W No → (loadVar 36 ⟨b, o + i * 6, none⟩).run Tryz.prog W = .ok (.agg (L.getD i Dd.z).A) W := by
 rcases h.at_ with e | ⟨b, o, e, hb, h1⟩
 ·rw [e] at hi; exact absurd hi (Nat.not_lt_zero _)
 ·refine ⟨b, o, e, fun W hW => ?_⟩
  have h := run_loadVar_mid (P := Tryz.prog) W b (o + i * 6) 36 (L.getD i Dd.z).A.toList _ (fun j v hv => by
   have := h1 i hi j v hv
   unfold World.cell? at this ⊢
   rw [hW.block b hb (fun e => e)]
   exact this) Tryz.underlying36 rfl (by rw [Array.length_toList]; exact szDe)
  simpa using h
theorem OdAt.load {w : World} {a : Option Addr} {L : List Od} (h : OdAt w a L) {i : Nat} (hi : i < L.length) : ∃ b o, a = some ⟨b, o, none⟩ ∧ (∀ W, Chg w W No → W.cell? ⟨b, o + i * 8, none⟩ = some (.int .i64 (L.getD i Od.z).kind)) ∧ ∀ W, Chg w W No → (loadVar 34 ⟨b, o + i * 8, none⟩).run Tryz.prog W = .ok (.agg (L.getD i Od.z).A) W := by
 rcases h.at_ with e | ⟨b, o, e, hb, h1⟩
 ·rw [e] at hi; exact absurd hi (Nat.not_lt_zero _)
 ·have hk : ∀ W, Chg w W No → ∀ j v, (L.getD i Od.z).A.toList[j]? = some v → W.cell? ⟨b, o + i * 8 + j, none⟩ = some v := fun W hW j v hv => by
   have := h1 i hi j v hv
   unfold World.cell? at this ⊢
   rw [hW.block b hb (fun e => e)]
   exact this
  refine ⟨b, o, e, fun W hW => hk W hW 0 _ rfl, fun W hW => ?_⟩
  have h := run_loadVar_mid (P := Tryz.prog) W b (o + i * 8) 34 (L.getD i Od.z).A.toList _ (hk W hW) Tryz.underlying34 rfl (by rw [Array.length_toList]; exact szOp)
  simpa using h
section
variable {ops : Array Oper} {rest : List Oper} {o : Oper} {a : Act} {w : World} {Q : Exit → Act → World → Prop}
theorem load_of (hgd : o.guard = none) (t : TypeId) (x : Operand) (ho : o.op = .load t x) (ad : Addr) (hx : a.eval x = .pointer (some ad)) (v : Value) (hr : (loadVar t ad).run Tryz.prog w = .ok v w)
  (h : wpList Tryz.prog ops Q rest (a.put o.dst v) w) : wpList Tryz.prog ops Q (o :: rest) a w :=
 wpList_plain hgd fun _ hK => by
  unfold Oper.wp execOp
  simp only [ho, hx, Instr.loadAt, Instr.sureAddr, Sem.run_bind, Sem.run_pure, Result.andThen_ok, hr]
  exact hK _ _ h
end
def Now (w wr : World) (p : Nat) : Prop := ∃ q s, q.p = p ∧ IsPl wr q s ∧ Inv s ∧ (∀ j, PBlk q j → w.heap.size ≤ j) ∧ Chg w wr No
theorem Left.new {q : PC} {s' : PSt} {w wr w' : World} (h : Left q s' wr w') (hc : Chg w wr No) (hq : ∀ j, PBlk q j → w.heap.size ≤ j) : ∃ q', q'.p = q.p ∧ IsPl w' q' s' ∧ (∀ j, PBlk q' j → w.heap.size ≤ j) ∧ Chg w w' No := by
 obtain ⟨⟨q', h1, h2⟩, h3⟩ := h
 refine ⟨q', h2.p, h1, fun j hj => ?_, hc.trans h3 (fun _ _ e => e) (fun j hj e => by have := hq j e; omega)⟩
 rcases h2.blk j hj with e | e
 ·exact hq j e
 ·have := hc.size
  omega
theorem deed_does {w W : World} {p : Nat} {x : Dd} {A : Array Value} (hN : Now w W p) (hx : x.Ok) (hb : BytesAt w x.da x.data) (hA : OpOf x.da x.data.length x.dc A) (hu : UB w) (hm : ML w) :
  Calls Tryz.prog 9 #[.pointer (some ⟨p, 0, none⟩), .agg A] W fun e w' => ∃ B, e = .returned (.agg B) ∧ Now w w' p := by
 obtain ⟨q, s, rfl, h1, h2, h3, h4⟩ := hN
 obtain ⟨k, made, off, path, tto, da', dl', dc', rfl, hd, _⟩ := hA
 have key : ∃ ds : List Int, ds.length = dl' ∧ DatAt W q da' dc' ds ∧ ∀ c ∈ ds, 0 ≤ c ∧ c ≤ 255 := by
  rcases hd with ⟨rfl, rfl⟩ | ⟨rfl, e2, rfl⟩
  ·exact ⟨[], rfl, ⟨Nat.zero_le _, fun e => absurd rfl e⟩, fun c hc => by cases hc⟩
  ·exact ⟨x.data.take dl', by rw [List.length_take]; omega, hb.dat h3 h4 dl' x.dc e2 hx.len, fun c hc => hx.by_ c (List.mem_of_mem_take hc)⟩
 obtain ⟨ds, e1, e2, e3⟩ := key
 have hD := do_any (⟨k, path, tto, off, 0, ds, made, 0⟩ : OpS) da' dc' W h1 h2 (hu.keep h4 (fun e => e)) (hm.call h4) e2
 rw [← e1]
 refine hD.mono ?_
 rintro e w' ⟨B, rfl, _, hL⟩
 obtain ⟨q', g1, g2, g3, g4⟩ := hL.new h4 h3
 exact ⟨B, rfl, q', _, g1, g2, Inv.doS h2 e3, g3, g4⟩
end Go.Proofs.YtmgfilacepnjlaaGreatDoor
