/-
 Steps through a statement whose order of evaluation is left open.
-/
import Derived.Test.YtmgfilacepnjlaaGreatDoorRows
import Derived.WalkKit
import Derived.WalkSpells
import Derived.WalkLawsBesides
import Derived.Deep.QuietTactic
import Derived.BigQuiet
import Derived.Deep.WholeRow
import Derived.ChangeKeysEq
import Derived.Deep.RegionHeld3
import Derived.Deep.RegionLaw
namespace Go.Proofs.YtmgfilacepnjlaaGreatDoor
open Go.RowKit

theorem hid {p:Prop} (h:p):Hid p:=h
theorem ret_bool {a b:Bool} (h:a=b):Ending.returned (.bool a)=.returned (.bool b):=by rw [h]
theorem ret_int {k:IntKind} {a b:Int} (h:a=b):Ending.returned (.int k a)=.returned (.int k b):=by rw [h]
def I64 (c:Int):Prop := -9223372036854775808≤c∧c≤9223372036854775807

theorem slt {w:World} {g:Nat} {o:Obj} (h:w.heap[g]? = some o):g < w.heap.size:=by
 rcases Nat.lt_or_ge g w.heap.size with k | k
 ·exact k
 ·rw [Array.getElem?_eq_none k] at h;cases h

structure Chg (w w':World) (ks:Nat→Prop):Prop where
 os:w'.os=w.os
 tape:w'.tape=w.tape
 output:w'.output=w.output
 size:w.heap.size≤w'.heap.size
 block:∀ k,k < w.heap.size→¬ ks k→w'.heap[k]? = w.heap[k]?

def No (_:Nat):Prop:=False

theorem Chg.refl (w:World) (ks:Nat→Prop):Chg w w ks:=⟨rfl,rfl,rfl,Nat.le_refl _,fun _ _ _=>rfl⟩
theorem Chg.of_below {w w':World} (h:Below w.heap.size w w') (ks:Nat→Prop):Chg w w' ks:=⟨h.os,h.tape,h.output,h.size,fun k hk _=>h.block k hk⟩
theorem Chg.below {w w':World} (h:Chg w w' No):Below w.heap.size w w':=⟨h.os,h.tape,h.output,h.size,fun k hk=>h.block k hk (fun h=>h)⟩
theorem Chg.trans {w w1 w2:World} {a b c:Nat→Prop} (h:Chg w w1 a) (k:Chg w1 w2 b) (ha:∀ j,j < w.heap.size→a j→c j) (hb:∀ j,j < w.heap.size→b j→c j):Chg w w2 c :=
 ⟨k.os.trans h.os,k.tape.trans h.tape,k.output.trans h.output,Nat.le_trans h.size k.size,fun j hj hn=>by
  rw [k.block j (Nat.lt_of_lt_of_le hj h.size) (fun e=>hn (hb j hj e)),h.block j hj (fun e=>hn (ha j hj e))]⟩
theorem Chg.mono {w w':World} {a b:Nat→Prop} (h:Chg w w' a) (hs:∀ j,j < w.heap.size→a j→b j):Chg w w' b :=
 ⟨h.os,h.tape,h.output,h.size,fun k hk hn=>h.block k hk (fun e=>hn (hs k hk e))⟩
theorem Chg.drew {w w':World} {a:Nat→Prop} (h:Chg w w' a):Chg w w'.drew a:=⟨h.os,h.tape,h.output,h.size,h.block⟩
theorem Chg.alloc (w:World) (o:Obj) (ks:Nat→Prop):Chg w (w.alloc o) ks:=⟨rfl,rfl,rfl,by simp,fun k hk _=>Below.heap_alloc _ _ _ hk⟩
theorem Chg.grown {w w':World} {row:Option Nat} (h:w.grownBy w' row):Chg w w' (fun k=>some k=row):=⟨h.os,h.tape,h.output,h.size,fun k hk hn=>h.block k hk hn⟩
theorem Chg.setCell {w:World} {g j:Nat} {v:Value}:Chg w (w.setCell ⟨g,j,none⟩ v) (· = g) :=
 ⟨rfl,rfl,rfl,by simp [World.setCell],fun k _ hn=>heap_setCell_other w ⟨g,j,none⟩ k _ hn⟩
theorem Chg.keep {w w':World} {ks:Nat→Prop} (h:Chg w w' ks) {g:Nat} {o:Obj} (hg:w.heap[g]? = some o) (hn : ¬ ks g):w'.heap[g]? = some o:=by
 rw [h.block g (slt hg) hn];exact hg
end Go.Proofs.YtmgfilacepnjlaaGreatDoor

namespace Go.Proofs.YtmgfilacepnjlaaGreatDoor
open Go.RowKit

theorem sS {α:Type}:(∀ (l:List α) (i:Nat) (a:α),l.toArray.setIfInBounds i a=(l.set i a).toArray)∧(∀ (x y:α) (l:List α),(x :: l).set 0 y=y :: l)∧∀ (x y:α) (l:List α) (n:Nat),(x :: l).set (n + 1) y=x :: l.set n y:=⟨fun l i a=>List.setIfInBounds_toArray l i a,fun _ _ _=>rfl,fun _ _ _ _=>rfl⟩
section
variable {ops:Array Oper} {Q:Exit→Act→World→Prop} {S:World→Prop} {fuel:Nat} {listed:Array Bool} {a:Act} {w:World}

theorem takeVal (i d:Nat) (v:Value) {o:Oper} (hop:ops[i]? = some o) (hs:Region.noSelect ops=true) (hf:Region.free .any ops listed i=true) (hr:(Region.ready .any ops listed).contains i=true)
  (hd:o.dst=some d) (hw:Region.wanted o (yielded ops a.tmps)=true) (hQ:∀ c a w,¬ Q (.panic c) a w) (hS:S w)
  (hy:∀ w,S w→(execOp a.eval o).run Tryz.prog w=.ok (.value v) w)
  (h:wpAnyH Tryz.prog .any ops Q S fuel (listed.setIfInBounds i true) { a with tmps:=a.tmps.setIfInBounds d v } w):wpAnyH Tryz.prog .any ops Q S (fuel + 1) listed a w:=by
 refine wpAnyH_take (v:=v) hop hs hf hr (fun c a w k=>absurd k (hQ c _ w)) (.inl ⟨hw,hy⟩) hS ?_;unfold Act.put;rw [hd]
 exact h

theorem takeNot (i d:Nat) {o:Oper} (hop:ops[i]? = some o) (hs:Region.noSelect ops=true) (hf:Region.free .any ops listed i=true) (hr:(Region.ready .any ops listed).contains i=true)
  (hd:o.dst=some d) (hw:Region.wanted o (yielded ops a.tmps)=false) (hQ:∀ c a w,¬ Q (.panic c) a w) (hS:S w)
  (h:wpAnyH Tryz.prog .any ops Q S fuel (listed.setIfInBounds i true) { a with tmps:=a.tmps.setIfInBounds d undef } w):wpAnyH Tryz.prog .any ops Q S (fuel + 1) listed a w:=by
 refine wpAnyH_take (v:=undef) hop hs hf hr (fun c a w k=>absurd k (hQ c _ w)) (.inr ⟨hw,rfl⟩) hS ?_;unfold Act.put;rw [hd]
 exact h

abbrev St (ops:Array Oper) (Q:Exit→Act→World→Prop) (S:World→Prop) (fuel:Nat) (listed:Array Bool) (a:Act) (w:World) (i:Nat):Prop :=
 wpOp Tryz.prog ops Q i (fun a' w'=>S w'∧wpAnyH Tryz.prog .any ops Q S fuel (listed.setIfInBounds i true) a' w') a w

theorem tV (i d:Nat) (v:Value) {o:Oper} (hop:ops[i]? = some o) (hq:(Region.noSelect ops && (Region.free .any ops listed i && (Region.ready .any ops listed).contains i))=true) (hd:o.dst=some d) (hw:Region.wanted o (yielded ops a.tmps)=true) (hS:S w)
 (hy:∀ w,S w→(execOp a.eval o).run Tryz.prog w=.ok (.value v) w)
 (h:wpAnyH Tryz.prog .any ops Q S fuel (listed.setIfInBounds i true) { a with tmps:=a.tmps.setIfInBounds d v } w) (hQ:∀ c a w,¬ Q (.panic c) a w:=by exact fun _ _ _ h=>h):wpAnyH Tryz.prog .any ops Q S (fuel + 1) listed a w:=by
 rw [Bool.and_eq_true,Bool.and_eq_true] at hq
 exact takeVal i d v hop hq.1 hq.2.1 hq.2.2 hd hw hQ hS hy h
theorem step1 (i:Nat) (hr:Region.ready .any ops listed=[i]) (h:St ops Q S fuel listed a w i):wpAnyH Tryz.prog .any ops Q S (fuel + 1) listed a w :=
 wpAnyH_all hr (by simp) fun j hj=>by simp at hj;subst hj;exact h
theorem step2 (i j:Nat) (hr:Region.ready .any ops listed=[i,j]) (h:St ops Q S fuel listed a w i) (k:St ops Q S fuel listed a w j):wpAnyH Tryz.prog .any ops Q S (fuel + 1) listed a w :=
 wpAnyH_all hr (by simp) fun l hl=>by
  simp at hl
  rcases hl with rfl | rfl
  ·exact h
  ·exact k

theorem stCall (i d f:Nat) (args:Array Value) (R:Ending→World→Prop) {o:Oper} (hop:ops[i]? = some o)
  (hd:o.dst=some d) (hw:Region.wanted o (yielded ops a.tmps)=true) (hrun:(execOp a.eval o).run Tryz.prog w=.ok (.enter f args) w) (hc:Calls Tryz.prog f args w R)
  (h:∀ e w',R e w'→∃ v,e=.returned v∧S w'∧wpAnyH Tryz.prog .any ops Q S fuel (listed.setIfInBounds i true) { a with tmps:=a.tmps.setIfInBounds d v } w'):St ops Q S fuel listed a w i:=by
 refine wpOp_step hop (fun K hK => ?_);rw [if_pos hw];unfold Oper.wp;rw [hrun,Oper.upon_enter];refine hc.mono ?_
 intro e w' hR
 obtain ⟨v,rfl,hS,hrest⟩:=h e w' hR;refine hK _ _ ⟨hS,?_⟩;unfold Act.put;rw [hd]
 exact hrest
theorem stVal (i d:Nat) (v:Value) {o:Oper} (hop:ops[i]? = some o) (hd:o.dst=some d) (hw:Region.wanted o (yielded ops a.tmps)=true)
  (hrun:(execOp a.eval o).run Tryz.prog w=.ok (.value v) w) (hS:S w)
  (h:wpAnyH Tryz.prog .any ops Q S fuel (listed.setIfInBounds i true) { a with tmps:=a.tmps.setIfInBounds d v } w):St ops Q S fuel listed a w i:=by
 refine wpOp_step hop (fun K hK => ?_);rw [if_pos hw];unfold Oper.wp;rw [hrun];refine hK _ _ ⟨hS,?_⟩;unfold Act.put;rw [hd]
 exact h
theorem stNew (i d:Nat) (v:Value) (ob:Obj) {o:Oper} (hop:ops[i]? = some o) (hd:o.dst=some d) (hw:Region.wanted o (yielded ops a.tmps)=true)
  (hrun:(execOp a.eval o).run Tryz.prog w=.ok (.value v) (w.alloc ob))
  (h:S (w.alloc ob)∧wpAnyH Tryz.prog .any ops Q S fuel (listed.setIfInBounds i true) { a with tmps:=a.tmps.setIfInBounds d v } (w.alloc ob)):St ops Q S fuel listed a w i:=by
 refine wpOp_step hop (fun K hK => ?_);rw [if_pos hw];unfold Oper.wp;rw [hrun];refine hK _ _ ⟨h.1,?_⟩;unfold Act.put;rw [hd]
 exact h.2
end

theorem wpAnyH_more {ops:Array Oper} {Q:Exit→Act→World→Prop} {S S':World→Prop} (hS:∀ w,S' w→S w):∀ (fuel:Nat) (listed:Array Bool) (a:Act) (w:World),wpAnyH Tryz.prog .any ops Q S' fuel listed a w→wpAnyH Tryz.prog .any ops Q S fuel listed a w
 | 0,_,_,_,h=>h
 | fuel + 1,_,_,_,h=>⟨h.1,fun i hi=>wpOp_mono (fun a' w' hh=>⟨hS w' hh.1,wpAnyH_more hS fuel _ a' w' hh.2⟩) (h.2 i hi)⟩

end Go.Proofs.YtmgfilacepnjlaaGreatDoor
