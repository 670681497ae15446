/-
 package plain: nodes in memory; newNode, isDirectory, length, find.
-/
import Derived.Deep.MidRow
import Derived.Deep.CutRange
import Derived.Deep.DeepCutAuto
import Derived.Maps.AppendAt
import Derived.Deep.WholeRow
import Derived.Lib.SmallJoins
import Derived.Laws.EntriesVeiled
import Derived.Test.YtmgfilacepnjlaaGreatDoorMI
import Derived.StringKeys
namespace Go.Proofs.YtmgfilacepnjlaaGreatDoor
open Go.RowKit

structure PutR (w:World) (g:Nat) (c:Array Value) (t:TypeId) (w':World):Prop where
 here:w'.heap[g]? = some (.cells c t (0,0))
 other:∀ k,k≠g→w'.heap[k]? = w.heap[k]?
 size:w'.heap.size=w.heap.size
 os:w'.os=w.os
 tape:w'.tape=w.tape
 output:w'.output=w.output
theorem putR_setRow {w:World} {g:Nat} {t:TypeId} {old:Array Value} (c:Array Value) (hg:w.heap[g]? = some (.cells old t (0,0))):PutR w g c t (w.setRow g c):=by
 refine ⟨?_,?_,?_,rfl,rfl,rfl⟩
 ·simp [World.setRow,Array.getElem?_modify,hg]
 ·intro k hk
  simp only [World.setRow,Array.getElem?_modify]
  rw [if_neg (fun e=>hk e.symm)]
 ·simp [World.setRow]
theorem run_loadR (w:World) (g:Nat) (t tb:TypeId) (c:Array Value) (d:TypeDesc) (hg:w.heap[g]? = some (.cells c tb (0,0))) (hu:Tryz.prog.underlying t=some d) (hd:d.isRow=true) (hi:(Tryz.prog.info? t).map (·.size)=some c.size) :
  (loadVar t ⟨g,0,none⟩).run Tryz.prog w=.ok (.agg c) w:=by
 have h:=run_loadVar_mid (P:=Tryz.prog) w g 0 t c.toList d (fun j v hv=>by rw [Nat.zero_add,cell_of_row _ _ _ _ tb (0,0) hg];simpa using hv) hu hd (by simpa using hi)
 simpa using h

section
variable {ops:Array Oper} {rest:List Oper} {o:Oper} {a:Act} {w:World} {Q:Exit→Act→World→Prop}
theorem store_R (hgd:o.guard=none) (t:TypeId) (x y:Operand) (ho:o.op=.store t x y) (g:Nat) (c:Array Value) (hx:a.eval x=.pointer (some ⟨g,0,none⟩)) (hy:a.eval y=.agg c)
  (tb:TypeId) (old:Array Value) (hg:w.heap[g]? = some (.cells old tb (0,0))) (hi:(Tryz.prog.info? t).map (·.size)=some c.size) (hs:old.size=c.size) (h1:c.all (·.oneCell')=true)
  (h:∀ w',PutR w g c tb w'→wpList Tryz.prog ops Q rest (a.put o.dst undef) w'):wpList Tryz.prog ops Q (o :: rest) a w :=
 wpList_store_row hgd t x y ho g c hx hy tb old hg hi hs h1 (h _ (putR_setRow c hg))
theorem load_R (hgd:o.guard=none) (t:TypeId) (x:Operand) (ho:o.op=.load t x) (g:Nat) (hx:a.eval x=.pointer (some ⟨g,0,none⟩)) (tb:TypeId) (c:Array Value) (d:TypeDesc) (hg:w.heap[g]? = some (.cells c tb (0,0)))
  (hu:Tryz.prog.underlying t=some d) (hd:d.isRow=true) (hi:(Tryz.prog.info? t).map (·.size)=some c.size)
  (h:wpList Tryz.prog ops Q rest (a.put o.dst (.agg c)) w):wpList Tryz.prog ops Q (o :: rest) a w :=
 wpList_plain hgd fun _ hK=>by
  unfold Oper.wp execOp
  simp only [ho,hx,Instr.loadAt,Instr.sureAddr,Sem.run_bind,Sem.run_pure,Result.andThen_ok,run_loadR w g t tb c d hg hu hd hi]
  exact hK _ _ h
end

section
variable {ops:Array Oper} {rest:List Oper} {o:Oper} {a:Act} {w:World} {Q:Exit→Act→World→Prop}
theorem wpList_want {ops:Array Oper} {rest:List Oper} {o:Oper} {a:Act} {w:World} {Q:Exit→Act→World→Prop} (hw:Region.wanted o (yielded ops a.tmps)=true)
  (h:∀ K:Act→World→Prop,(∀ a w,wpList Tryz.prog ops Q rest a w→K a w)→o.wp Tryz.prog a w K Q):wpList Tryz.prog ops Q (o :: rest) a w :=
 wpList_step fun K hK=>by rw [if_pos hw];exact h K hK
theorem eql_R (hw:Region.wanted o (yielded ops a.tmps)=true) (t:TypeId) (x y:Operand) (ho:o.op=.binOp .eql t x y t) (c c':Array Value) (b:Bool) (hx:a.eval x=.agg c) (hy:a.eval y=.agg c')
  (hq:∀ w,(Op.equalIn 10000 t (.agg c) (.agg c')).run Tryz.prog w=.ok b w) (hg:Tryz.prog.eqGuardType Tryz.prog.depth t=false)
  (h:wpList Tryz.prog ops Q rest (a.put o.dst (.bool b)) w):wpList Tryz.prog ops Q (o :: rest) a w :=
 wpList_want hw fun _ hK=>by
  unfold Oper.wp execOp
  simp only [ho,hx,hy,Sem.run_bind,run_eqGuard_agg _ _ _ _ _ _ _ hg,run_eql_struct,hq,Result.andThen_ok,Sem.run_pure]
  exact hK _ _ h
end

section
variable {ops:Array Oper} {Q:Exit→Act→World→Prop} {S:World→Prop} {fuel:Nat} {listed:Array Bool} {a:Act} {w:World}
theorem stStoreR (i:Nat) (t:TypeId) (x y:Operand) (g:Nat) (c:Array Value) (tb:TypeId) (old:Array Value) {o:Oper} (hop:ops[i]? = some o) (hd:o.dst=none) (hw:Region.wanted o (yielded ops a.tmps)=true) (ho:o.op=.store t x y)
  (hx:a.eval x=.pointer (some ⟨g,0,none⟩)) (hy:a.eval y=.agg c) (hg:w.heap[g]? = some (.cells old tb (0,0))) (hi:(Tryz.prog.info? t).map (·.size)=some c.size) (hs:old.size=c.size) (h1:c.all (·.oneCell')=true)
  (h:∀ w',PutR w g c tb w'→S w'∧wpAnyH Tryz.prog .any ops Q S fuel (listed.setIfInBounds i true) a w'):St ops Q S fuel listed a w i:=by
 refine wpOp_step hop (fun K hK => ?_);rw [if_pos hw];refine wp_store_row t x y ho g c hx hy tb old hg hi hs h1 ?_;have:=h _ (putR_setRow c hg);unfold Act.put;rw [hd]
 exact hK _ _ this
theorem takeR (i d:Nat) (t:TypeId) (x:Operand) (g:Nat) (tb:TypeId) (c:Array Value) (td:TypeDesc) {o:Oper} (hop:ops[i]? = some o) (hs:Region.noSelect ops=true) (hf:Region.free .any ops listed i=true) (hr:(Region.ready .any ops listed).contains i=true)
  (hd:o.dst=some d) (ho:o.op=.load t x) (hx:a.eval x=.pointer (some ⟨g,0,none⟩)) (hu:Tryz.prog.underlying t=some td) (htd:td.isRow=true) (hi:(Tryz.prog.info? t).map (·.size)=some c.size)
  (hw:Region.wanted o (yielded ops a.tmps)=true) (hQ:∀ c a w,¬ Q (.panic c) a w) (hS:S w)
  (hg:∀ w,S w→w.heap[g]? = some (.cells c tb (0,0)))
  (h:wpAnyH Tryz.prog .any ops Q S fuel (listed.setIfInBounds i true) { a with tmps:=a.tmps.setIfInBounds d (.agg c) } w):wpAnyH Tryz.prog .any ops Q S (fuel + 1) listed a w:=by
 refine takeVal i d _ hop hs hf hr hd hw hQ hS (fun w hw' => ?_) h;unfold execOp
 simp only [ho,hx,Instr.loadAt,Instr.sureAddr,Sem.run_bind,Sem.run_pure,Result.andThen_ok,run_loadR w g t tb c td (hg w hw') hu htd hi]
end

theorem kt_new {w w':World} {g:Nat} {c:Array Value} {t:TypeId} (h:PutR w g c t w'):Chg w w' (· = g):=⟨h.os,h.tape,h.output,Nat.le_of_eq h.size.symm,fun k _ hk=>h.other k hk⟩
theorem Chg.tr {w w1 w2:World} (h:Chg w w1 No) (k:Chg w1 w2 No):Chg w w2 No:=h.trans k (fun _ _ e=>e) (fun _ _ e=>e)
theorem chg_drewN (w:World) (n:Nat):Chg w (w.drewN n) No:=⟨rfl,rfl,rfl,Nat.le_refl _,fun _ _ _=>rfl⟩
theorem obj_ne {w:World} {i j:Nat} {x y:Obj} (h:w.heap[i]? = some x) (k:w.heap[j]? = some y) (hn:x≠y):i≠j:=fun e=>by
 subst e;rw [h] at k
 exact hn (Option.some.inj k)
theorem results_R {fn:Func} {p u:Tmp} {t:TypeId} (h:fn.results=#[.cell p t,.tmp u]) (tmps:Array Value) (w:World) (g:Nat) (c:Array Value) (tb:TypeId) (d:TypeDesc) (v:Value)
  (hu:Tryz.prog.underlying t=some d) (hd:d.isRow=true) (hi:(Tryz.prog.info? t).map (·.size)=some c.size)
  (hp:tmps.getD p undef=.pointer (some ⟨g,0,none⟩)) (hv:tmps.getD u undef=v) (hg:w.heap[g]? = some (.cells c tb (0,0))) :
  (results fn tmps).run Tryz.prog w=.ok (.tuple #[.agg c,v]) w:=by
 rw [results_cell_tmp h,hp,hv]
 simp [asAddr,run_loadR w g t tb c d hg hu hd hi]
theorem results_R1 {fn:Func} {p:Tmp} {t:TypeId} (h:fn.results=#[.cell p t]) (tmps:Array Value) (w:World) (g:Nat) (c:Array Value) (tb:TypeId) (d:TypeDesc)
  (hu:Tryz.prog.underlying t=some d) (hd:d.isRow=true) (hi:(Tryz.prog.info? t).map (·.size)=some c.size)
  (hp:tmps.getD p undef=.pointer (some ⟨g,0,none⟩)) (hg:w.heap[g]? = some (.cells c tb (0,0))) :
  (results fn tmps).run Tryz.prog w=.ok (.agg c) w:=by
 have hp':tmps[p]?.getD undef=.pointer (some ⟨g,0,none⟩):=by simpa using hp
 simp [results,h,hp',asAddr,run_loadR w g t tb c d hg hu hd hi]

end Go.Proofs.YtmgfilacepnjlaaGreatDoor

namespace Go.Proofs.YtmgfilacepnjlaaGreatDoor
open Go.RowKit

def cardT (f:Nat→Bool):Nat:=(List.range 1102).countP f
theorem count_put (f:Nat→Bool) (m:Nat):∀ N,m < N→(List.range N).countP (fun x=>if x=m then true else f x)=(List.range N).countP f + (if f m then 0 else 1)
 | 0,h=>absurd h (Nat.not_lt_zero _)
 | N + 1,h=>by
  rw [List.range_succ,List.countP_append,List.countP_append]
  by_cases e:m=N
  ·subst e
   have hs:(List.range m).countP (fun x=>if x=m then true else f x)=(List.range m).countP f:=by
    refine List.countP_congr fun x hx => ?_
    have:x≠m:=by have:=List.mem_range.1 hx;omega
    rw [if_neg this]
   rw [hs]
   simp only [List.countP_singleton]
   cases f m <;> simp
  ·have ih:=count_put f m N (by omega)
   have h1:(if N=m then true else f N)=f N:=if_neg (fun e2=>e e2.symm);rw [ih]
   simp only [List.countP_singleton,h1]
   omega
def putB (f:Nat→Bool) (m:Nat):Nat→Bool:=fun x=>if x=m then true else f x
theorem card_put (f:Nat→Bool) {m:Nat} (h:m < 1102):cardT (putB f m)=cardT f + (if f m then 0 else 1):=count_put f m 1102 h
theorem card_le (f:Nat→Bool):cardT f≤1102:=by
 have:=List.countP_le_length (p:=f) (l:=List.range 1102);unfold cardT
 simpa using this
theorem putB_same {f:Nat→Bool} {m:Nat} (h:f m=true):putB f m=f:=by
 funext x
 unfold putB
 by_cases e:x=m
 ·rw [if_pos e,e,h]
 ·rw [if_neg e]
def TalA (A:Array Value) (f:Nat→Bool):Prop:=A.size=1103∧(∀ i,i < 1102→A[i]? = some (.bool (f i)))∧A[1102]? = some (.int .i64 (cardT f:Nat))
def TalAt (w:World) (g:Nat) (f:Nat→Bool):Prop:=∃ A,w.heap[g]? = some (.cells A 119 (0,0))∧TalA A f
theorem TalAt.keep {w w':World} {g:Nat} {f:Nat→Bool} {ks:Nat→Prop} (h:TalAt w g f) (hc:Chg w w' ks) (hn : ¬ ks g):TalAt w' g f:=by
 obtain ⟨A,h1,h2⟩:=h
 exact ⟨A,hc.keep h1 hn,h2⟩
theorem TalAt.cell {w:World} {g:Nat} {f:Nat→Bool} (h:TalAt w g f) {i:Nat} (hi:i < 1102):w.cell? ⟨g,i,none⟩=some (.bool (f i))∧w.frozen? ⟨g,i,none⟩=false:=by
 obtain ⟨A,h1,h2⟩:=h
 exact ⟨(cell_of_row _ _ _ _ _ _ h1).trans (h2.2.1 i hi),frozen_of_row _ _ _ _ _ h1⟩
theorem TalAt.card {w:World} {g:Nat} {f:Nat→Bool} (h:TalAt w g f):w.cell? ⟨g,1102,none⟩=some (.int .i64 (cardT f:Nat))∧w.frozen? ⟨g,1102,none⟩=false:=by
 obtain ⟨A,h1,h2⟩:=h
 exact ⟨(cell_of_row _ _ _ _ _ _ h1).trans h2.2.2,frozen_of_row _ _ _ _ _ h1⟩
theorem TalAt.put {w:World} {g:Nat} {f:Nat→Bool} (h:TalAt w g f) {m:Nat} (hm:m < 1102) (hf:f m=false):TalAt ((w.setCell ⟨g,m,none⟩ (.bool true)).setCell ⟨g,1102,none⟩ (.int .i64 ((cardT f:Nat) + 1))) g (putB f m):=by
 obtain ⟨A,h1,h2,h3,h4⟩:=h;refine ⟨_,heap_setCell_same _ g 1102 _ _ _ (heap_setCell_same w g m A _ _ h1),?_,fun i hi => ?_,?_⟩
 ·rw [Array.size_setIfInBounds,Array.size_setIfInBounds,h2]
 ·rw [Array.getElem?_setIfInBounds_ne (by omega),Array.getElem?_setIfInBounds]
  unfold putB
  by_cases e:m=i
  ·subst e
   rw [if_pos rfl,if_pos (by omega),if_pos rfl]
  ·rw [if_neg e,if_neg (fun e2=>e e2.symm)]
   exact h3 i hi
 ·rw [Array.getElem?_setIfInBounds_self_of_lt (by rw [Array.size_setIfInBounds,h2];omega),card_put f hm,hf]
  rfl

set_option maxHeartbeats 1000000 in
set_option maxRecDepth 100000 in
theorem count_any {g:Nat} {f:Nat→Bool} (m:Nat) (w:World) (h:TalAt w g f) (hm:m < 1102) :
  Calls Tryz.prog 81 #[.pointer (some ⟨g,0,none⟩),.int .i64 (m:Int)] w fun e w'=>e=.returned (.tuple #[])∧TalAt w' g (putB f m)∧Chg w w' (· = g):=by
 obtain ⟨c1,c2⟩:=h.cell hm;obtain ⟨c3,c4⟩:=h.card
 have k0:(0:Int)≤(m:Int):=by omega
 have k1:(m:Int) < 1102:=by omega
 have kc:=card_le f;have HH:=hid h
 cases hf:f m with
 | true =>
  rw [hf] at c1;have HP:Hid (putB f m=f):=hid (putB_same hf);clear h hf kc
  go_enter Tryz.func81,Tryz.ntmps81
  go_wp2_with fail
  go_end0
  exact ⟨rfl,by rw [HP.out];exact HH.out,Chg.refl _ _⟩
 | false =>
  rw [hf] at c1;have HP:=hid (h.put hm hf);obtain ⟨n,hn⟩:∃ y:Nat,y=cardT f:=⟨_,rfl⟩;rw [←hn] at c3 kc HP
  have q1:(w.setCell ⟨g,m,none⟩ (.bool true)).cell? ⟨g,1102,none⟩=some (.int .i64 (n:Int)):=by
   obtain ⟨A,h1,h2,h3,h4⟩:=HH.out;rw [cell_of_row _ _ _ _ _ _ (heap_setCell_same w g m A _ _ h1),Array.getElem?_setIfInBounds_ne (by omega),h4,←hn]
  have q2:(w.setCell ⟨g,m,none⟩ (.bool true)).frozen? ⟨g,1102,none⟩=false:=by
   obtain ⟨A,h1,_⟩:=HH.out
   exact frozen_of_row _ _ _ _ _ (heap_setCell_same w g m A _ _ h1)
  have kc2:(n:Int)≤1102:=by omega
  clear h hf hn c3 c4
  go_enter Tryz.func81,Tryz.ntmps81
  go_wp2_with fail
  go_end0
  exact ⟨rfl,HP.out,Chg.setCell.trans Chg.setCell (fun _ _ e=>e) (fun _ _ e=>e)⟩
def addB (f:Nat→Bool) (k:Nat):Nat→Bool:=if 44≤k then putB (putB (putB f k) 1069) (1070 + (k - 44) / 32) else if 12≤k then putB (putB f k) 1068 else putB f k

set_option maxHeartbeats 1000000 in
set_option maxRecDepth 100000 in
theorem add_any {g:Nat} {f:Nat→Bool} (k:Nat) (w:World) (h:TalAt w g f) (hk:k < 1068) :
  Calls Tryz.prog 73 #[.pointer (some ⟨g,0,none⟩),.int .i64 (k:Int)] w fun e w'=>e=.returned (.tuple #[])∧TalAt w' g (addB f k)∧Chg w w' (· = g):=by
 have hC:=count_any k w h (by omega);obtain ⟨F,hF⟩:∃ y,y=addB f k:=⟨_,rfl⟩;rw [←hF];have HF:=hid hF;clear hF
 by_cases h44:44≤k
 ·have HFe:Hid (F=putB (putB (putB f k) 1069) (1070 + (k - 44) / 32)):=hid (by rw [HF.out];unfold addB;rw [if_pos h44])
  have i1 : ¬ (k:Int) < 44:=by omega
  have i2:(44:Int)≤(k:Int):=by omega
  have i3:(k:Int) < 1068:=by omega
  obtain ⟨m,hm⟩:∃ y:Nat,y=1070 + (k - 44) / 32:=⟨_,rfl⟩
  have hm1:m < 1102:=by omega
  have hq:((k:Int) - 44).tdiv 32=((k - 44) / 32:Nat):=by
   rw [Int.tdiv_eq_ediv_of_nonneg (by omega)]
   omega
  have hq2:(1070:Int) + ((k - 44) / 32:Nat)=(m:Int):=by omega
  have HH:Hid (∀ W,TalAt W g (putB (putB f k) 1069)→Calls Tryz.prog 81 #[.pointer (some ⟨g,0,none⟩),.int .i64 (1070 + ((k:Int) - 44).tdiv 32)] W fun e w'=>e=.returned (.tuple #[])∧TalAt w' g F∧Chg W w' (· = g)):=hid (fun W hW=>by
   rw [hq,hq2,HFe.out,←hm]
   exact count_any m W hW hm1)
  have hb:((k:Int) - 44).tdiv 32≤1068∧0≤((k:Int) - 44).tdiv 32:=by rw [hq];omega
  obtain ⟨t,ht⟩:∃ y,y=((k:Int) - 44).tdiv 32:=⟨_,rfl⟩;clear hq hq2 hm hm1 h44 h
  go_enter Tryz.func73,Tryz.ntmps73
  go_upto_region 1 with (first
   | (go_at_call 81;go_must (refine hC.mono ?_;rintro e w1 ⟨rfl,h1,hc1⟩))
   | fail)
  have hC2:=count_any 1069 w1 h1 (by omega);rw [show ((1069:Nat):Int)=1069 from rfl] at hC2;have HC1:=hid hc1;clear hC h1 hc1
  go_upto_region 3 with (first
   | (go_at_call 81;go_must (refine hC2.mono ?_;rintro e w2 ⟨rfl,h2,hc2⟩))
   | fail)
  have hC3:=HH.out w2 h2;have HC2:=hid hc2;clear hC2 h2 hc2
  go_wp2_with (first
   | (go_at_call 81;go_must (refine hC3.mono ?_;rintro e w3 ⟨rfl,h3,hc3⟩))
   | fail)
  go_end0
  exact ⟨rfl,h3,(HC1.out.trans HC2.out (c:=(· = g)) (fun _ _ e=>e) (fun _ _ e=>e)).trans hc3 (fun _ _ e=>e) (fun _ _ e=>e)⟩
 ·have i1 : ¬ (44:Int)≤(k:Int):=by omega
  by_cases h12:12≤k
  ·have HFe:Hid (F=putB (putB f k) 1068):=hid (by rw [HF.out];unfold addB;rw [if_neg h44,if_pos h12])
   have i2:(12:Int)≤(k:Int):=by omega
   clear h h44
   go_enter Tryz.func73,Tryz.ntmps73
   go_upto_region 1 with (first
    | (go_at_call 81;go_must (refine hC.mono ?_;rintro e w1 ⟨rfl,h1,hc1⟩))
    | fail)
   have hC2:=count_any 1068 w1 h1 (by omega);rw [show ((1068:Nat):Int)=1068 from rfl,←HFe.out] at hC2;have HC1:=hid hc1;clear hC h1 hc1
   go_wp2_with (first
    | (go_at_call 81;go_must (refine hC2.mono ?_;rintro e w2 ⟨rfl,h2,hc2⟩))
    | fail)
   go_end0
   exact ⟨rfl,h2,HC1.out.trans hc2 (fun _ _ e=>e) (fun _ _ e=>e)⟩
  ·have i2 : ¬ (12:Int)≤(k:Int):=by omega
   have HFe:Hid (F=putB f k):=hid (by rw [HF.out];unfold addB;rw [if_neg h44,if_neg h12]);rw [←HFe.out] at hC;clear h h44 h12
   go_enter Tryz.func73,Tryz.ntmps73
   go_wp2_with (first
    | (go_at_call 81;go_must (refine hC.mono ?_;rintro e w1 ⟨rfl,h1,hc1⟩))
    | fail)
   go_end0
   exact ⟨rfl,h1,hc1⟩
end Go.Proofs.YtmgfilacepnjlaaGreatDoor

namespace Go.Proofs.YtmgfilacepnjlaaGreatDoor
open Go.RowKit

theorem keyS:Maps.Keyed Tryz.prog 9:=Maps.string_keyed Tryz.underlying9
theorem keyOfS {s:ByteArray} (h:s.size≤1000):keyOf Tryz.prog 9 (.string s)=some (.string s.data.toList):=WideMaps.keyOf_string_mk Tryz.underlying9 (by unfold maxLen;omega)
theorem keyLitS (l:List UInt8):WideAt.IsKeyLit (.string l):=trivial
theorem zeroI (w:World):(zeroValue 3).run Tryz.prog w=.ok (.int .i64 0) w:=by kernel_rfl
def MapT (w:World) (b:Nat) (f:ByteArray→Option Int) (n:Nat):Prop :=
 ∃ D:DataW Value,w.ownsMap Tryz.prog 9 decV b (Maps.size D) D∧Maps.size D≤n∧(∀ x:ByteArray,Maps.has D (.string x.data.toList)=(f x).isSome)∧∀ x v,f x=some v→∀ z,D.atKey (.string x.data.toList) z=.held (.int .i64 v)
section
variable {w w':World} {b n:Nat} {f:ByteArray→Option Int}
theorem MapT.lt (h:MapT w b f n):b < w.heap.size:=let ⟨_,h,_⟩:=h;h.lt
theorem MapT.isMap (h:MapT w b f n):∃ es clock,w.heap[b]? = some (.map es clock):=by
 obtain ⟨D,⟨es,clock,h,_⟩,_⟩:=h
 exact ⟨es,clock,h⟩
theorem MapT.keep {ks:Nat→Prop} (h:MapT w b f n) (hc:Chg w w' ks) (hn : ¬ ks b):MapT w' b f n:=by
 obtain ⟨D,⟨es,clock,hb,r⟩,k⟩:=h
 exact ⟨D,⟨es,clock,hc.keep hb hn,r⟩,k⟩
theorem MapT.made (w:World):MapT (w.alloc (.map #[] 0)) w.heap.size (fun _=>none) 0 :=
 ⟨.map [],World.ownsMap_made w Tryz.prog 9 decV,by simp [Maps.size],fun x=>by simp [Maps.has],fun x c h=>by cases h⟩
theorem MapT.look_ok (h:MapT w b f n) {x:ByteArray} (hx:x.size≤1000):(Instr.lookup 104 (.map (some b)) (.string x) true).run Tryz.prog w=.ok (.tuple #[.int .i64 ((f x).getD 0),.bool (f x).isSome]) w:=by
 obtain ⟨D,h,_,hh,ha⟩:=h;obtain ⟨v,ps,hrun,hv⟩:=h.look_ok keyS Tryz.underlying104 (zeroI w) (zd:=.held (.int .i64 0)) (zp:=[]) rfl (keyOfS hx);rw [hrun,hh x]
 have hz:DataW.held v=D.atKey (.string x.data.toList) (.held (.int .i64 0)):=by
  have:decV v=some (.held v,[]):=rfl;rw [this] at hv
  simpa using congrArg (fun o=>o.map Prod.fst) hv
 cases hf:f x with
 | none =>
  have h0:Maps.has D (.string x.data.toList)=false:=by rw [hh x,hf];rfl
  rw [Maps.atKey_of_not_has h0] at hz
  cases hz
  rfl
 | some u =>
  rw [ha x u hf] at hz
  cases hz
  rfl
theorem MapT.look (h:MapT w b f n) {x:ByteArray} (hx:x.size≤1000):(Instr.lookup 104 (.map (some b)) (.string x) false).run Tryz.prog w=.ok (.int .i64 ((f x).getD 0)) w:=by
 obtain ⟨D,h,_,hh,ha⟩:=h;obtain ⟨v,ps,hrun,hv⟩:=h.lookup keyS Tryz.underlying104 (zeroI w) (zd:=.held (.int .i64 0)) (zp:=[]) rfl (keyOfS hx);rw [hrun]
 have hz:DataW.held v=D.atKey (.string x.data.toList) (.held (.int .i64 0)):=by
  have:decV v=some (.held v,[]):=rfl;rw [this] at hv
  simpa using congrArg (fun o=>o.map Prod.fst) hv
 cases hf:f x with
 | none =>
  have h0:Maps.has D (.string x.data.toList)=false:=by rw [hh x,hf];rfl
  rw [Maps.atKey_of_not_has h0] at hz
  cases hz
  rfl
 | some u =>
  rw [ha x u hf] at hz
  cases hz
  rfl
theorem tightT {n:Nat} {D:DataW Value} (h:w.ownsMap Tryz.prog 9 decV b n D):w.ownsMap Tryz.prog 9 decV b (Maps.size D) D:=by
 obtain ⟨es,clock,hb,F,hs,hD⟩:=h;refine ⟨es,clock,hb,F,?_,hD⟩;rw [hD]
 simp [Maps.size,length_sorted]
theorem MapT.store (h:MapT w b f n) {x:ByteArray} (hx:x.size≤1000) (v:Int) (hn:n≤100000) :
  ∃ w',(Instr.mapUpdate 104 (.map (some b)) (.string x) (.int .i64 v)).run Tryz.prog w=.ok () w'∧MapT w' b (fun y=>if y=x then some v else f y) (n + 1)∧Chg w w' (· = b)∧w'.heap.size=w.heap.size:=by
 obtain ⟨D,h,hs,hh,ha⟩:=h;obtain ⟨w',hrun,ho,ht⟩:=h.store keyS Tryz.underlying104 (by unfold maxLen;omega) (keyOfS hx) (d:=.held (.int .i64 v)) (ps:=[]) (val:=.int .i64 v) rfl;obtain ⟨h1,h2⟩:=turned_chg ht;refine ⟨w',hrun,⟨_,tightT ho,?_,fun y => ?_,fun y c hc z => ?_⟩,h1,h2⟩
 ·rw [Maps.size_put (h.tidy keyS)]
  split <;> omega
 ·by_cases hy:y=x
  ·subst hy
   simp [Maps.has_put_same h.isMap (keyLitS y.data.toList)]
  ·rw [Maps.has_put_other (by simpa using fun e=>hy (by cases y;cases x;congr 1)),hh y]
   simp [hy]
 ·by_cases hy:y=x
  ·subst hy
   simp at hc
   rw [Maps.atKey_put_same h.isMap (keyLitS y.data.toList),hc]
  ·rw [Maps.atKey_put_other (by simpa using fun e=>hy (by cases y;cases x;congr 1))]
   simp [hy] at hc
   exact ha y c hc z
end
section
variable {ops:Array Oper} {rest:List Oper} {o:Oper} {a:Act} {Q:Exit→Act→World→Prop} {w:World}
theorem wp_okT (hg:o.guard=none) (m x:Operand) (hop:o.op=Op.lookup 104 m x true) (b n:Nat) (f:ByteArray→Option Int) (k:ByteArray) (hm:a.eval m=.map (some b)) (hx:a.eval x=.string k)
  (h:MapT w b f n) (hk:k.size≤1000) (hK:wpList Tryz.prog ops Q rest (a.put o.dst (.tuple #[.int .i64 ((f k).getD 0),.bool (f k).isSome])) w):wpList Tryz.prog ops Q (o :: rest) a w:=by
 refine wpList_plain hg fun K' hK' => ?_
 unfold Oper.wp
 simp [execOp,hop,hm,hx,h.look_ok hk,Result.andThen]
 exact hK' _ _ hK
end
end Go.Proofs.YtmgfilacepnjlaaGreatDoor

namespace Go.Proofs.YtmgfilacepnjlaaGreatDoor
open Go.RowKit

def IOwn (w:World) (B:Nat) (v:Value) (l:List Int):Prop:=w.ownsRow B 3 1 v l.length (l.map (Value.int .i64))
theorem infoI:∃ i,Tryz.prog.info? 3=some i∧i.zero=some (.int .i64 0)∧i.size=1∧i.bytes=8:=by
 have h:(Tryz.prog.info? 3).map (fun i=>(i.zero,i.size,i.bytes))=some (some (.int .i64 0),1,8):=by kernel_rfl
 cases hq:Tryz.prog.info? 3 with
 | none=>rw [hq] at h;cases h
 | some i =>
  rw [hq] at h;have h:=Option.some.inj h
  simp only [Prod.mk.injEq] at h
  exact ⟨i,rfl,h.1,h.2.1,h.2.2⟩
section
variable {w w':World} {B:Nat} {v:Value} {l:List Int}
theorem IOwn.blk (h:IOwn w B v l) {k:Nat} (e:v.ownBlock=some k):B≤k∧∃ A,w.heap[k]? = some (.cells A 3 (0,0)):=by
 rcases h.2 with ⟨rfl,_⟩ | ⟨g,cap,cur,rfl,hb,hg,_⟩
 ·cases e
 ·have:g=k:=by simpa [Value.ownBlock] using e
  subst this
  exact ⟨hb,cur,hg⟩
theorem IOwn.keep {ks:Nat→Prop} (h:IOwn w B v l) (hc:Chg w w' ks) (hn:∀ k,v.ownBlock=some k→¬ ks k):IOwn w' B v l:=by
 refine ⟨h.1,?_⟩
 rcases h.2 with k | ⟨g,cap,cur,rfl,hb,hg,r⟩
 ·exact .inl k
 ·exact .inr ⟨g,cap,cur,rfl,hb,hc.keep hg (hn g rfl),r⟩
theorem IOwn.shape (h:IOwn w B v l):∃ a c,v=.slice a l.length c:=by
 rcases h.2 with ⟨e,e2⟩ | ⟨g,cap,cur,e,_⟩
 ·exact ⟨none,0,by rw [e,e2]⟩
 ·exact ⟨_,_,e⟩
theorem IOwn.none (w:World) (B:Nat):IOwn w B (.slice none 0 0) []:=⟨rfl,.inl ⟨rfl,rfl⟩⟩
theorem own_cell {a:Option Addr} {n c:Nat} (h:IOwn w B (.slice a n c) l) {j:Nat} (hj:j < l.length):∃ g,a=some ⟨g,0,none⟩∧w.cell? ⟨g,j,none⟩=some (.int .i64 (l.getD j 0)):=by
 rcases h.2 with ⟨e,e2⟩ | ⟨g,cap,cur,e,hb,hg,r⟩
 ·omega
 ·injection e with e1 e3 e4
  refine ⟨g,e1,?_⟩;subst e1 e3 e4
  have hx:(l.map (Value.int .i64))[j]? = some (.int .i64 (l.getD j 0)):=by
   rw [List.getElem?_map,List.getD_eq_getElem?_getD,List.getElem?_eq_getElem hj]
   rfl
  have:=World.ownsRow.cells h (g:=g) rfl j _ hx
  have hadd:(⟨g,0,none⟩:Addr).add j=⟨g,j,none⟩:=by unfold Addr.add;split <;> simp_all
  rw [hadd] at this
  exact this
end
structure Nd where
 kind:Int
 links:Int
 made:Int
 size:Int
 blk:Int→Option Value
 sl:List Int
 nm:ByteArray→Option Int
 cnt:Nat
structure NC where
 p:Nat
 bb:Nat
 nb:Nat
 v:Value
 B:Nat
def ndA (c:NC) (x:Nd):Array Value:=#[.int .i64 x.kind,.int .i64 x.links,.int .i64 x.made,.int .i64 x.size,.map (some c.bb),c.v,.map (some c.nb)]
structure IsN (w:World) (c:NC) (x:Nd):Prop where
 me:w.heap[c.p]? = some (.cells (ndA c x) 106 (0,0))
 bl:MapV w c.bb x.blk
 sl:IOwn w c.B c.v x.sl
 nm:MapT w c.nb x.nm x.cnt
 cn:x.cnt≤5000
 ne:c.bb≠c.nb
 len:x.sl.length≤1068
 dom:∀ k,x.blk k≠none→0≤k∧k < 1068
section
variable {w w':World} {c:NC} {x:Nd}
theorem IsN.call (h:IsN w c x) (hc:Chg w w' No):IsN w' c x :=
 ⟨hc.keep h.me (fun e=>e),h.bl.keep hc (fun e=>e),h.sl.keep hc (fun _ _ e=>e),h.nm.keep hc (fun e=>e),h.cn,h.ne,h.len,h.dom⟩
theorem IsN.c0 (h:IsN w c x):w.cell? ⟨c.p,0,none⟩=some (.int .i64 x.kind):=(cell_of_row _ _ _ _ _ _ h.me).trans rfl
theorem IsN.c1 (h:IsN w c x):w.cell? ⟨c.p,1,none⟩=some (.int .i64 x.links):=(cell_of_row _ _ _ _ _ _ h.me).trans rfl
theorem IsN.c2 (h:IsN w c x):w.cell? ⟨c.p,2,none⟩=some (.int .i64 x.made):=(cell_of_row _ _ _ _ _ _ h.me).trans rfl
theorem IsN.c3 (h:IsN w c x):w.cell? ⟨c.p,3,none⟩=some (.int .i64 x.size):=(cell_of_row _ _ _ _ _ _ h.me).trans rfl
theorem IsN.c4 (h:IsN w c x):w.cell? ⟨c.p,4,none⟩=some (.map (some c.bb)):=(cell_of_row _ _ _ _ _ _ h.me).trans rfl
theorem IsN.c5 (h:IsN w c x):w.cell? ⟨c.p,5,none⟩=some c.v:=(cell_of_row _ _ _ _ _ _ h.me).trans rfl
theorem IsN.c6 (h:IsN w c x):w.cell? ⟨c.p,6,none⟩=some (.map (some c.nb)):=(cell_of_row _ _ _ _ _ _ h.me).trans rfl
end
def newNd (kind made:Int):Nd:=⟨kind,1,made,0,fun _=>none,[],fun _=>none,0⟩

set_option maxHeartbeats 1000000 in
set_option maxRecDepth 100000 in
theorem newNode_any (kind made:Int) (w:World) :
  Calls Tryz.prog 39 #[.int .i64 kind,.int .i64 made] w fun e w'=>∃ c:NC,e=.returned (.pointer (some ⟨c.p,0,none⟩))∧IsN w' c (newNd kind made)∧Chg w w' No∧w.heap.size≤c.p∧w.heap.size≤c.bb∧w.heap.size≤c.nb∧c.v=.slice none 0 0∧c.B=0:=by
 have hmm := @run_makeMap Tryz.prog;have hA1:=Chg.alloc w (.map #[] 0) No;have hA2:=Chg.alloc (w.alloc (.map #[] 0)) (.map #[] 0) No;obtain ⟨w1,hw1⟩:∃ y,y=w.alloc (.map #[] 0):=⟨_,rfl⟩
 have hs1:w1.heap.size=w.heap.size + 1:=by rw [hw1];simp
 have h1:MapV w1 w.heap.size (fun _=>none):=by rw [hw1];exact MapV.made w
 obtain ⟨w2,hw2⟩:∃ y,y=w1.alloc (.map #[] 0):=⟨_,rfl⟩
 have hs2:w2.heap.size=w.heap.size + 2:=by rw [hw2];simp [hs1]
 have h2:MapT w2 (w.heap.size + 1) (fun _=>none) 0:=by rw [hw2,←hs1];exact MapT.made w1
 have hc2:Chg w1 w2 No:=by rw [hw2];exact Chg.alloc _ _ No
 have hc1:Chg w w1 No:=by rw [hw1];exact hA1
 obtain ⟨c,hcd⟩:∃ y:NC,y=⟨w.heap.size + 2,w.heap.size,w.heap.size + 1,.slice none 0 0,0⟩:=⟨_,rfl⟩
 have HN:Hid (∀ W,W=w2.alloc (.cells (ndA c (newNd kind made)) 106)→IsN W c (newNd kind made)∧Chg w W No):=hid (fun W hW=>by
  have hc3:Chg w2 W No:=by rw [hW];exact Chg.alloc _ _ No
  refine ⟨⟨?_,?_,?_,?_,by simp [newNd],?_,by simp [newNd],fun k hk=>absurd rfl hk⟩,(hc1.tr hc2).tr hc3⟩
  ·rw [hW,show c.p=w2.heap.size by rw [hcd,hs2]]
   exact heap_alloc_new _ _
  ·rw [hcd]
   exact (h1.keep hc2 (fun e=>e)).keep hc3 (fun e=>e)
  ·rw [hcd]
   exact IOwn.none _ _
  ·obtain ⟨D,k1,k2,k3⟩:=h2.keep hc3 (fun e=>e)
   rw [hcd]
   exact ⟨D,k1,by omega,k3⟩
  ·rw [hcd]
   show w.heap.size≠w.heap.size + 1
   omega)
 have HC:=hid hcd;have HW2:Hid (w2=(w.alloc (.map #[] 0)).alloc (.map #[] 0)):=hid (by rw [hw2,hw1])
 have hb:∀ W,(Instr.build 106 #[(0,.int .i64 kind),(1,.int .i64 1),(2,.int .i64 made),(4,.map (some w.heap.size)),(6,.map (some (w.heap.size + 1)))]).run Tryz.prog W=.ok (.agg #[.int .i64 kind,.int .i64 1,.int .i64 made,.int .i64 0,.map (some w.heap.size),.slice none 0 0,.map (some (w.heap.size + 1))]) W:=fun W=>by kernel_rfl
 clear hA1 hA2 hw1 hs1 h1 hw2 hs2 h2 hc2 hc1 hcd
 go_enter Tryz.func39,Tryz.ntmps39
 go_wp2_with fail
 go_ret
 obtain ⟨q1,q2⟩:=HN.out (((w.alloc (.map #[] 0)).alloc (.map #[] 0)).alloc (.cells #[.int .i64 kind,.int .i64 1,.int .i64 made,.int .i64 0,.map (some w.heap.size),.slice none 0 0,.map (some (w.heap.size + 1))] 106)) (by rw [HW2.out,HC.out];rfl)
 exact ⟨c,by rw [HC.out];rfl,q1,q2,by rw [HC.out];show w.heap.size≤w.heap.size + 2;omega,by rw [HC.out];exact Nat.le_refl _,by rw [HC.out];show w.heap.size≤w.heap.size + 1;omega,by rw [HC.out],by rw [HC.out]⟩

set_option maxHeartbeats 1000000 in
set_option maxRecDepth 100000 in
theorem isDirectory_any {c:NC} {x:Nd} (w:World) (h:IsN w c x) :
  Calls Tryz.prog 48 #[.pointer (some ⟨c.p,0,none⟩)] w fun e w'=>e=.returned (.bool (decide (x.kind=2)))∧w'=w:=by
 have c0:=h.c0;obtain ⟨K,hK⟩:∃ y,y=x.kind:=⟨_,rfl⟩;rw [←hK] at c0 ⊢;clear h hK
 by_cases hk:K=2
 ·subst hk
  go_enter Tryz.func48,Tryz.ntmps48
  go_wp2_with fail
  go_ret
  exact ⟨rfl,rfl⟩
 ·have h1:(K == 2)=false:=beq_eq_false_iff_ne.2 hk
  have h2:decide (K=2)=false:=decide_eq_false hk;rw [h2];clear hk
  go_enter Tryz.func48,Tryz.ntmps48
  go_wp2_with fail
  go_ret
  exact ⟨by simp,rfl⟩
def lenN (x:Nd):Int:=if x.kind=2 then 128 * x.sl.length else x.size

set_option maxHeartbeats 1000000 in
set_option maxRecDepth 100000 in
theorem length_any {c:NC} {x:Nd} (w:World) (h:IsN w c x) :
  Calls Tryz.prog 67 #[.pointer (some ⟨c.p,0,none⟩)] w fun e w'=>e=.returned (.int .i64 (lenN x))∧w'=w:=by
 have hD:=isDirectory_any w h;have c3:=h.c3;have c5:=h.c5;have hl:=h.len;obtain ⟨a,cp,hv⟩:=h.sl.shape;rw [hv] at c5;obtain ⟨n,hn⟩:∃ y,y=x.sl.length:=⟨_,rfl⟩;rw [←hn] at c5 hl
 by_cases hk:x.kind=2
 ·have HL:Hid (lenN x=(n:Int) * 128):=hid (by unfold lenN;rw [if_pos hk,←hn];omega)
  rw [decide_eq_true hk] at hD;rw [HL.out]
  have i1:(n:Int)≤1068:=by omega
  clear hk hn hv h hl c3
  go_enter Tryz.func67,Tryz.ntmps67
  go_wp2_with (first
   | (go_at_call 48;go_must (refine hD.mono ?_;rintro e w1 ⟨rfl,rfl⟩))
   | fail)
  go_ret
  exact ⟨rfl,rfl⟩
 ·have HL:Hid (lenN x=x.size):=hid (by unfold lenN;rw [if_neg hk])
  rw [decide_eq_false hk] at hD;rw [HL.out];clear hk hn hv h hl c5
  go_enter Tryz.func67,Tryz.ntmps67
  go_wp2_with (first
   | (go_at_call 48;go_must (refine hD.mono ?_;rintro e w1 ⟨rfl,rfl⟩))
   | fail)
  go_ret
  exact ⟨rfl,rfl⟩
def findN (x:Nd) (s:ByteArray):Option Int:=(x.nm s).map fun k=>x.sl.getD k.toNat 0

set_option maxHeartbeats 1000000 in
set_option maxRecDepth 100000 in
theorem find_any {c:NC} {x:Nd} (s:ByteArray) (w:World) (h:IsN w c x) (hs:s.size≤1000) (hr:∀ k,x.nm s=some k→0≤k∧k < x.sl.length) :
  Calls Tryz.prog 54 #[.pointer (some ⟨c.p,0,none⟩),.string s] w fun e w'=>e=.returned (.tuple #[.int .i64 ((findN x s).getD 0),.bool (findN x s).isSome])∧w'=w:=by
 have c5:=h.c5;have c6:=h.c6;have HM:=hid h.nm;obtain ⟨a,cp,hv⟩:=h.sl.shape;rw [hv] at c5;have HS:Hid (IOwn w c.B (.slice a x.sl.length cp) x.sl):=hid (by rw [←hv];exact h.sl)
 cases hq:x.nm s with
 | none =>
  have e1:findN x s=none:=by unfold findN;rw [hq];rfl
  rw [e1];have HQ:=hid hq;clear h hv e1 hr hq
  go_enter Tryz.func54,Tryz.ntmps54
  go_wp2_with (first
   | (refine wp_okT rfl _ _ rfl c.nb x.cnt x.nm s rfl rfl HM.out hs ?_;rw [HQ.out])
   | fail)
  go_ret2
  exact ⟨rfl,rfl⟩
 | some k =>
  obtain ⟨r1,r2⟩:=hr k hq;obtain ⟨m,rfl⟩:∃ m:Nat,k=(m:Int):=⟨k.toNat,by omega⟩
  have e1:findN x s=some (x.sl.getD m 0):=by unfold findN;rw [hq];simp
  rw [e1];have HQ:=hid hq;obtain ⟨g,hga,q5⟩:=own_cell HS.out (j:=m) (by omega);obtain ⟨n,hn⟩:∃ y,y=x.sl.length:=⟨_,rfl⟩;obtain ⟨y,hy⟩:∃ z,z=x.sl.getD m 0:=⟨_,rfl⟩;rw [←hn] at c5 r2;rw [←hy] at q5 ⊢;subst hga;clear h hv e1 hr hq hn hy HS
  go_enter Tryz.func54,Tryz.ntmps54
  go_wp2_with (first
   | (refine wp_okT rfl _ _ rfl c.nb x.cnt x.nm s rfl rfl HM.out hs ?_;rw [HQ.out])
   | fail)
  go_ret2
  exact ⟨rfl,rfl⟩
end Go.Proofs.YtmgfilacepnjlaaGreatDoor
