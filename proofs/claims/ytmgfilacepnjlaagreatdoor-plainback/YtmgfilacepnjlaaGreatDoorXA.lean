/-
 A file system in memory that is new, and well; what is asked and done of it.
-/
import Derived.Test.YtmgfilacepnjlaaGreatDoorVT
import Derived.Test.YtmgfilacepnjlaaGreatDoorWA9
namespace Go.Proofs.YtmgfilacepnjlaaGreatDoor
open Go.RowKit

def NowS (w wr : World) (p : Nat) (s : PSt) : Prop := ∃ q, q.p = p ∧ IsPl wr q s ∧ Inv2 s ∧ (∀ j, PBlk q j → w.heap.size ≤ j) ∧ Chg w wr No
theorem NowS.chg {w wr : World} {p : Nat} {s : PSt} (h : NowS w wr p s) : Chg w wr No := by obtain ⟨_, _, _, _, _, h⟩ := h; exact h
theorem NowS.i2 {w wr : World} {p : Nat} {s : PSt} (h : NowS w wr p s) : Inv2 s := by obtain ⟨_, _, _, h, _, _⟩ := h; exact h
theorem NowS.call {w wr w' : World} {p : Nat} {s : PSt} (h : NowS w wr p s) (hc : Chg wr w' No) : NowS w w' p s := by
 obtain ⟨q, h1, h2, h3, h4, h5⟩ := h
 exact ⟨q, h1, h2.call hc, h3, h4, h5.tr hc⟩
def KT (W w' : World) : Prop := ∀ (g : Nat) (A' : Array Value) (T : TypeId), (T ≠ 82 ∧ T ≠ 106 ∧ T ≠ 3) → W.heap[g]? = some (Obj.cells A' T (0, 0)) → w'.heap[g]? = some (Obj.cells A' T (0, 0))
theorem KT.ans {W w' : World} (h : KT W w') (g : Nat) (A' : Array Value) (hg : W.heap[g]? = some (Obj.cells A' 43 (0, 0))) : w'.heap[g]? = some (Obj.cells A' 43 (0, 0)) := h g A' 43 ⟨by decide, by decide, by decide⟩ hg
theorem KT.op {W w' : World} (h : KT W w') (g : Nat) (A' : Array Value) (hg : W.heap[g]? = some (Obj.cells A' 34 (0, 0))) : w'.heap[g]? = some (Obj.cells A' 34 (0, 0)) := h g A' 34 ⟨by decide, by decide, by decide⟩ hg
theorem IsPl.notB {W : World} {q : PC} {s : PSt} (h : IsPl W q s) {g : Nat} {A : Array Value} {T : TypeId} (hT : T ≠ 82 ∧ T ≠ 106 ∧ T ≠ 3) (hg : W.heap[g]? = some (Obj.cells A T (0, 0))) : ¬ PBlk q g := by
 have hmap : ∀ {b : Nat} {t : TypeId} {n : Nat} {D : DataW Value}, W.ownsMap Tryz.prog t decV b n D → g ≠ b := fun {b t n D} hm e => by
  obtain ⟨es, clock, hb, _⟩ := hm
  rw [← e, hg] at hb
  cases hb
 rintro (e | e | ⟨i, c, e1, e2⟩)
 ·have hm := h.me
  rw [← e, hg] at hm
  exact hT.1 (by injection hm with hm; injection hm)
 ·obtain ⟨D, hm, _⟩ := h.mp
  exact hmap hm e
 ·obtain ⟨x, _, hN⟩ := h.nd i c e1
  rcases e2 with e | e | e | e
  ·have hm := hN.me
   rw [← e, hg] at hm
   exact hT.2.1 (by injection hm with hm; injection hm)
  ·obtain ⟨D, hm, _⟩ := hN.bl
   exact hmap hm e
  ·obtain ⟨D, hm, _⟩ := hN.nm
   exact hmap hm e
  ·have hs : W.ownsRow c.B 3 1 c.v x.sl.length (x.sl.map fun z => .int .i64 z) := hN.sl
   rcases hs.2 with ⟨e3, _⟩ | ⟨g', cap, cur, e3, _, hg', _⟩
   ·rw [e3] at e; cases e
   ·rw [e3] at e
    have : g' = g := by simpa [Value.ownBlock] using e
    rw [this, hg] at hg'
    exact hT.2.2 (by injection hg' with hg'; injection hg')
theorem NowS.do_ {w W : World} {p : Nat} {s : PSt} (h : NowS w W p s) (o : OpS) (da : Option Addr) (dc : Nat) (data : List Int) (hb : BytesAt w da data) (hn : o.data.length ≤ data.length) (hdc : data.length ≤ dc) (ho : o.data = data.take o.data.length) (hby : ∀ b ∈ o.data, 0 ≤ b ∧ b ≤ 255) (hu : UB w) (hm : ML w) :
  Calls Tryz.prog 9 #[.pointer (some ⟨p, 0, none⟩), .agg (opA o.kind o.path o.tto o.off o.len da o.data.length dc o.made o.pick)] W fun e w' => ∃ A, e = .returned (.agg A) ∧ AnsIs w' W.heap.size A (doS s o).2 ∧ NowS w w' p (doS s o).1 ∧ KT W w' := by
 obtain ⟨q, rfl, h1, h2, h3, h4⟩ := h
 have hd := hb.dat h3 h4 o.data.length dc hn hdc
 rw [← ho] at hd
 refine (do_any o da dc W h1 h2.inv (hu.keep h4 (fun e => e)) (hm.call h4) hd).mono ?_
 rintro e w' ⟨A, rfl, hA, hL⟩
 obtain ⟨q', g1, g2, g3, g4⟩ := hL.new h4 h3
 exact ⟨A, rfl, hA, ⟨q', g1, g2, h2.doS hby, g3, g4⟩, fun g A' T hT hg => hL.2.keep hg (h1.notB hT hg)⟩
theorem NowS.doP {w W : World} {p : Nat} {s : PSt} (h : NowS w W p s) (k : Int) (t : ByteArray) (hu : UB w) (hm : ML w) :
  Calls Tryz.prog 9 #[.pointer (some ⟨p, 0, none⟩), .agg #[.int .i64 k, .string t, .string ⟨#[]⟩, .int .i64 0, .int .i64 0, .slice none 0 0, .int .i64 0, .int .i64 0]] W fun e w' => ∃ A, e = .returned (.agg A) ∧ AnsIs w' W.heap.size A (doS s (opP k t)).2 ∧ NowS w w' p (doS s (opP k t)).1 ∧ KT W w' :=
 h.do_ (opP k t) none 0 [] (.inl rfl) (Nat.le_refl _) (Nat.le_refl _) rfl (fun b hb => by cases hb) hu hm
theorem NowS.doT {w W : World} {p : Nat} {s : PSt} (h : NowS w W p s) (k : Int) (t u : ByteArray) (hu : UB w) (hm : ML w) :
  Calls Tryz.prog 9 #[.pointer (some ⟨p, 0, none⟩), .agg #[.int .i64 k, .string t, .string u, .int .i64 0, .int .i64 0, .slice none 0 0, .int .i64 0, .int .i64 0]] W fun e w' => ∃ A, e = .returned (.agg A) ∧ AnsIs w' W.heap.size A (doS s (opT k t u)).2 ∧ NowS w w' p (doS s (opT k t u)).1 ∧ KT W w' :=
 h.do_ (opT k t u) none 0 [] (.inl rfl) (Nat.le_refl _) (Nat.le_refl _) rfl (fun b hb => by cases hb) hu hm
theorem NowS.ask {w W : World} {p : Nat} {s : PSt} (h : NowS w W p s) (k n : Int) (t : ByteArray) (hk : (k = 10 ∧ n = 0) ∨ (k = 11 ∧ n = 0) ∨ (k = 9 ∧ n = 131072)) (hu : UB w) (hm : ML w) :
  Calls Tryz.prog 9 #[.pointer (some ⟨p, 0, none⟩), .agg #[.int .i64 k, .string t, .string ⟨#[]⟩, .int .i64 0, .int .i64 n, .slice none 0 0, .int .i64 0, .int .i64 0]] W fun e w' => ∃ A, e = .returned (.agg A) ∧ AnsIs w' W.heap.size A (askS s k t n) ∧ Chg W w' No := by
 obtain ⟨q, rfl, h1, h2, h3, h4⟩ := h
 exact ask_any k t n none 0 W h1 h2.inv (hu.keep h4 (fun e => e)) (hm.call h4) hk
theorem NowS.room {w W : World} {p : Nat} {s : PSt} (h : NowS w W p s) :
  Calls Tryz.prog 13 #[.pointer (some ⟨p, 0, none⟩)] W fun e w' => e = .returned (.agg #[.int .i64 (s.data - (takenN s : Nat)), .int .i64 0, .int .i64 (s.ino - (nodesN s : Nat))]) ∧ Chg W w' No := by
 obtain ⟨q, rfl, h1, h2, h3, h4⟩ := h
 have hnum := InvD.num h2.inv
 exact room_any W h1 ⟨by omega, by omega, by omega, by omega⟩
structure DeedO (x : Dd) (A : Array Value) (o : OpS) : Prop where
 ex : ∃ (da : Option Addr) (dc : Nat), A = opA o.kind o.path o.tto o.off o.len da o.data.length dc o.made o.pick ∧ (o.data = [] ∨ (da = x.da ∧ dc = x.dc ∧ o.data = x.data.take o.data.length ∧ o.data.length ≤ x.data.length))
 is_ : OpIs o.kind o.made o.off o.path o.tto o.data.length
 len : o.len = 0
 pick : o.pick = 0
 by_ : ∀ b ∈ o.data, 0 ≤ b ∧ b ≤ 255
theorem deed_op {x : Dd} {A : Array Value} (hx : x.Ok) (hA : OpOf x.da x.data.length x.dc A) : ∃ o : OpS, DeedO x A o := by
 obtain ⟨k, made, off, path, tto, da', dl', dc', rfl, hd, hI⟩ := hA
 rcases hd with ⟨rfl, rfl⟩ | ⟨rfl, e2, rfl⟩
 ·exact ⟨⟨k, path, tto, off, 0, [], made, 0⟩, ⟨none, dc', rfl, .inl rfl⟩, hI, rfl, rfl, fun b hb => by cases hb⟩
 ·have e3 : (x.data.take dl').length = dl' := by rw [List.length_take]; omega
  have hby : ∀ b ∈ x.data.take dl', 0 ≤ b ∧ b ≤ 255 := fun c hc => hx.by_ c (List.mem_of_mem_take hc)
  refine ⟨⟨k, path, tto, off, 0, x.data.take dl', made, 0⟩, ⟨x.da, x.dc, ?_, .inr ⟨rfl, rfl, ?_, ?_⟩⟩, ?_, rfl, rfl, hby⟩
  ·show opA k path tto off 0 x.da dl' x.dc made 0 = opA k path tto off 0 x.da (x.data.take dl').length x.dc made 0
   rw [e3]
  ·show x.data.take dl' = x.data.take (x.data.take dl').length
   rw [e3]
  ·show (x.data.take dl').length ≤ x.data.length
   omega
  ·show OpIs k made off path tto (x.data.take dl').length
   rw [e3]
   exact hI
theorem NowS.doO {w W : World} {p : Nat} {s : PSt} {x : Dd} {A : Array Value} {o : OpS} (h : NowS w W p s) (hO : DeedO x A o) (hx : x.Ok) (hb : BytesAt w x.da x.data) (hu : UB w) (hm : ML w) :
  Calls Tryz.prog 9 #[.pointer (some ⟨p, 0, none⟩), .agg A] W fun e w' => ∃ B, e = .returned (.agg B) ∧ AnsIs w' W.heap.size B (doS s o).2 ∧ NowS w w' p (doS s o).1 ∧ KT W w' := by
 obtain ⟨⟨da, dc, rfl, hd⟩, _, hl, hp, hby⟩ := hO
 rcases hd with hd | ⟨rfl, rfl, e1, e2⟩
 ·have hD := h.do_ o da dc [] (.inl rfl) (by rw [hd]; exact Nat.le_refl _) (Nat.zero_le _) (by rw [hd]; rfl) hby hu hm
  exact hD
 ·exact h.do_ o x.da x.dc x.data hb e2 hx.len e1 hby hu hm
theorem newBlkS {w : World} {q : PC} (h1 : w.heap.size ≤ q.p) (h2 : w.heap.size ≤ q.mb) (h3 : ∀ i c, q.nc i = some c → ∀ k, BlkN c k → w.heap.size ≤ k) : ∀ j, PBlk q j → w.heap.size ≤ j := fun j hj => by
 rcases hj with e | e | ⟨i, c, e1, e2⟩
 ·rw [e]; exact h1
 ·rw [e]; exact h2
 ·exact h3 i c e1 j e2
theorem small2_any (n : Int) (w : World) (hn : I64 n) : Calls Tryz.prog 6 #[.int .i64 n] w fun e w' => ∃ p, e = .returned (.tuple #[.pointer (some ⟨p, 0, none⟩), .int .i64 (smS n - 1 - smI n), .int .i64 (smI n)]) ∧ NowS w w' p (newS (smS n) (smI n)) := by
 refine (small_any n w hn).mono ?_
 rintro e w1 ⟨q, rfl, h1, h2, h3, h4, h5⟩
 exact ⟨q.p, rfl, q, rfl, h1, inv2_new (inv_new (sm_ok n)), newBlkS h3 h4 h5, h2⟩
section
variable {ops : Array Oper} {rest : List Oper} {o : Oper} {a : Act} {Q : Exit → Act → World → Prop} {w : World}
theorem wp_fieldA (hw : Region.wanted o (yielded ops a.tmps) = true) (x : Operand) (hop : o.op = Op.field 43 x 0) (A : Array Value) (v : Value) (hx : a.eval x = .agg A) (hA : A[0]? = some v)
  (hK : wpList Tryz.prog ops Q rest (a.put o.dst v) w) : wpList Tryz.prog ops Q (o :: rest) a w := by
 refine wpList_want hw fun K' hK' => ?_
 have h : ∀ W, (Instr.field 43 (.agg A) 0).run Tryz.prog W = .ok v W := fun W => by
  unfold Instr.field
  go_simp
  simp only [asAgg, Sem.run_pure, Result.andThen_ok, hA]
 unfold Oper.wp
 simp [execOp, hop, hx, h, Result.andThen]
 exact hK' _ _ hK
theorem wp_fieldV (hw : Region.wanted o (yielded ops a.tmps) = true) (t : TypeId) (k : Nat) (x : Operand) (hop : o.op = Op.field t x k) (A : Array Value) (v : Value) (hx : a.eval x = .agg A) (h : ∀ W, (Instr.field t (.agg A) k).run Tryz.prog W = .ok v W)
  (hK : wpList Tryz.prog ops Q rest (a.put o.dst v) w) : wpList Tryz.prog ops Q (o :: rest) a w := by
 refine wpList_want hw fun K' hK' => ?_
 unfold Oper.wp
 simp [execOp, hop, hx, h, Result.andThen]
 exact hK' _ _ hK
end
theorem room_f (r1 r2 r3 : Int) (W : World) : (Instr.field 50 (.agg #[.int .i64 r1, .int .i64 r2, .int .i64 r3]) 0).run Tryz.prog W = .ok (.int .i64 r1) W ∧ (Instr.field 50 (.agg #[.int .i64 r1, .int .i64 r2, .int .i64 r3]) 2).run Tryz.prog W = .ok (.int .i64 r3) W ∧ (Instr.field 50 (.agg #[.int .i64 r1, .int .i64 r2, .int .i64 r3]) 1).run Tryz.prog W = .ok (.int .i64 r2) W := ⟨by kernel_rfl, by kernel_rfl, by kernel_rfl⟩
end Go.Proofs.YtmgfilacepnjlaaGreatDoor
