/-
 Rows of bytes: owned ones that grow, and ones that are read.
-/
import Derived.Test.YtmgfilacepnjlaaGreatDoorVM
import Derived.Maps.AppendAt
import Derived.Test.YtmgfilacepnjlaaGreatDoorVS
import Derived.Lib.AppendStr
import Derived.Laws.IdiomStrings
namespace Go.Proofs.YtmgfilacepnjlaaGreatDoor
open Go.RowKit Go.Shelf

section
variable {ops:Array Oper} {Q:Exit→Act→World→Prop} {S:World→Prop} {fuel:Nat} {listed:Array Bool} {a:Act} {w:World}
end
end Go.Proofs.YtmgfilacepnjlaaGreatDoor

namespace Go.Proofs.YtmgfilacepnjlaaGreatDoor
open Go.RowKit

theorem build_ask (k:Int) (t:ByteArray) (W:World):(Instr.build 34 #[(0,.int .i64 k),(1,.string t)]).run Tryz.prog W=.ok (.agg #[.int .i64 k,.string t,.string ⟨#[]⟩,.int .i64 0,.int .i64 0,.slice none 0 0,.int .i64 0,.int .i64 0]) W:=by kernel_rfl
theorem build_read (k n:Int) (t:ByteArray) (W:World):(Instr.build 34 #[(0,.int .i64 k),(1,.string t),(4,.int .i64 n)]).run Tryz.prog W=.ok (.agg #[.int .i64 k,.string t,.string ⟨#[]⟩,.int .i64 0,.int .i64 n,.slice none 0 0,.int .i64 0,.int .i64 0]) W:=by kernel_rfl
theorem ML.call {w w':World} (h:ML w) (hc:Chg w w' No):ML w':=h.keep hc (fun _ e=>e.elim)
end Go.Proofs.YtmgfilacepnjlaaGreatDoor

namespace Go.Proofs.YtmgfilacepnjlaaGreatDoor
open Go.RowKit

def BytesAt (w:World) (a:Option Addr) (zs:List Int):Prop:=zs=[]∨∃ b o,a=some ⟨b,o,none⟩∧b < w.heap.size∧∀ j,j < zs.length→w.cell? ⟨b,o + j,none⟩=some (.int .u8 (zs.getD j 0))
theorem BytesAt.call {w w':World} {a:Option Addr} {l:List Int} (h:BytesAt w a l) (hc:Chg w w' No):BytesAt w' a l:=by
 rcases h with h | ⟨b,o,e,hb,h⟩
 ·exact .inl h
 ·exact .inr ⟨b,o,e,Nat.lt_of_lt_of_le hb hc.size,fun j hj=>by
   have:=h j hj;unfold World.cell? at this ⊢;rw [hc.block b hb (fun e=>e)]
   exact this⟩
theorem BytesAt.dat {w W:World} {a:Option Addr} {l:List Int} {q:PC} (h:BytesAt w a l) (hq:∀ j,PBlk q j→w.heap.size≤j) (hc:Chg w W No) (n dc:Nat) (hn:n≤l.length) (hdc:l.length≤dc):DatAt W q a dc (l.take n):=by
 refine ⟨by rw [List.length_take];omega,fun hne => ?_⟩
 rcases h with e | ⟨b,o,e,hb,h⟩
 ·rw [e] at hne;simp at hne
 ·refine ⟨b,o,e,Nat.lt_of_lt_of_le hb hc.size,fun hp=>by have:=hq b hp;omega,fun j v hj => ?_⟩
  rw [List.getElem?_map] at hj
  have hjl:j < (l.take n).length:=by
   rcases Nat.lt_or_ge j (l.take n).length with k | k
   ·exact k
   ·rw [List.getElem?_eq_none k] at hj;cases hj
  rw [List.length_take] at hjl;rw [List.getElem?_take,if_pos (by omega),List.getElem?_eq_getElem (by omega)] at hj
  cases hj
  have:=h j (by omega);rw [List.getD_eq_getElem?_getD,List.getElem?_eq_getElem (by omega)] at this;rw [addr_add];unfold World.cell? at this ⊢;rw [hc.block b hb (fun e=>e)]
  exact this
structure Dd where
 kd:Int
 a:Int
 b:Int
 off:Int
 n:Int
 da:Option Addr
 data:List Int
 dc:Nat
def Dd.A (x:Dd):Array Value:=deedA x.kd x.a x.b x.off x.n x.da x.data.length x.dc
def Dd.z:Dd:=⟨0,0,0,0,0,none,[],0⟩
structure Dd.Ok (x:Dd):Prop where
 i1:I64 x.kd
 i2:I64 x.a
 i3:I64 x.b
 i4:I64 x.off
 i5:I64 x.n
 len:x.data.length≤x.dc
 cap:x.dc≤maxLen
 nil:x.da=none→x.data.length=0
 by_:∀ c∈x.data,0≤c∧c≤255
structure RAt {α:Type} (w:World) (a:Option Addr) (L:List α) (z:α) (A:α→Array Value) (sz:Nat) (da:α→Option Addr) (data:α→List Int):Prop where
 at_:L=[]∨∃ b o,a=some ⟨b,o,none⟩∧b < w.heap.size∧∀ i,i < L.length→∀ j v,(A (L.getD i z)).toList[j]? = some v→w.cell? ⟨b,o + i * sz + j,none⟩=some v
 data:∀ i,i < L.length→BytesAt w (da (L.getD i z)) (data (L.getD i z))
def DdAt (w:World) (a:Option Addr) (L:List Dd):Prop:=RAt w a L Dd.z Dd.A 6 Dd.da Dd.data
theorem szDe:(Tryz.prog.info? 36).map (·.size)=some 6:=by kernel_rfl
theorem DdAt.load {w:World} {a:Option Addr} {L:List Dd} (h:DdAt w a L) {i:Nat} (hi:i < L.length):∃ b o,a=some ⟨b,o,none⟩∧∀ W,Chg w W No→(loadVar 36 ⟨b,o + i * 6,none⟩).run Tryz.prog W=.ok (.agg (L.getD i Dd.z).A) W:=by
 rcases h.at_ with e | ⟨b,o,e,hb,h1⟩
 ·rw [e] at hi;exact absurd hi (Nat.not_lt_zero _)
 ·refine ⟨b,o,e,fun W hW => ?_⟩
  have h:=run_loadVar_mid (P:=Tryz.prog) W b (o + i * 6) 36 (L.getD i Dd.z).A.toList _ (fun j v hv=>by
   have:=h1 i hi j v hv;unfold World.cell? at this ⊢;rw [hW.block b hb (fun e=>e)]
   exact this) Tryz.underlying36 rfl (by rw [Array.length_toList];exact szDe)
  simpa using h
section
variable {ops:Array Oper} {rest:List Oper} {o:Oper} {a:Act} {w:World} {Q:Exit→Act→World→Prop}
theorem load_of (hgd:o.guard=none) (t:TypeId) (x:Operand) (ho:o.op=.load t x) (ad:Addr) (hx:a.eval x=.pointer (some ad)) (v:Value) (hr:(loadVar t ad).run Tryz.prog w=.ok v w)
  (h:wpList Tryz.prog ops Q rest (a.put o.dst v) w):wpList Tryz.prog ops Q (o :: rest) a w :=
 wpList_plain hgd fun _ hK=>by
  unfold Oper.wp execOp
  simp only [ho,hx,Instr.loadAt,Instr.sureAddr,Sem.run_bind,Sem.run_pure,Result.andThen_ok,hr]
  exact hK _ _ h
end
theorem Left.new {q:PC} {s':PSt} {w wr w':World} (h:Left q s' wr w') (hc:Chg w wr No) (hq:∀ j,PBlk q j→w.heap.size≤j):∃ q',q'.p=q.p∧IsPl w' q' s'∧(∀ j,PBlk q' j→w.heap.size≤j)∧Chg w w' No:=by
 obtain ⟨⟨q',h1,h2⟩,h3⟩:=h;refine ⟨q',h2.p,h1,fun j hj => ?_,hc.trans h3 (fun _ _ e=>e) (fun j hj e=>by have:=hq j e;omega)⟩
 rcases h2.blk j hj with e | e
 ·exact hq j e
 ·have:=hc.size
  omega
end Go.Proofs.YtmgfilacepnjlaaGreatDoor

namespace Go.Proofs.YtmgfilacepnjlaaGreatDoor
open Go.RowKit

def BOw (w:World) (B:Nat) (v:Value) (l:List Int):Prop:=w.ownsRow B 5 1 v l.length (l.map (Value.int .u8))
def strOf (c:List Int):ByteArray:=⟨(c.map fun n=>UInt8.ofNat n.toNat).toArray⟩
theorem info8:∃ i,Tryz.prog.info? 5=some i∧i.zero=some (.int .u8 0)∧i.size=1∧i.bytes=1:=by
 have h:(Tryz.prog.info? 5).map (fun i=>(i.zero,i.size,i.bytes))=some (some (.int .u8 0),1,1):=by kernel_rfl
 cases hq:Tryz.prog.info? 5 with
 | none=>rw [hq] at h;cases h
 | some i =>
  rw [hq] at h
  simp at h
  exact ⟨i,rfl,h.1,h.2.1,h.2.2⟩
section
variable {w w':World} {B:Nat} {v:Value} {l:List Int} {ks:Nat→Prop}
theorem BOw.keep (h:BOw w B v l) (hc:Chg w w' ks) (hn:∀ k,v.ownBlock=some k→¬ ks k):BOw w' B v l:=by
 refine ⟨h.1,?_⟩
 rcases h.2 with h | ⟨g,cap,cur,rfl,hg,hk,r⟩
 ·exact .inl h
 ·exact .inr ⟨g,cap,cur,rfl,hg,hc.keep hk (hn g rfl),r⟩
theorem BOw.call (h:BOw w B v l) (hc:Chg w w' No):BOw w' B v l:=h.keep hc (fun _ _ e=>e)
theorem BOw.one (h:BOw w B v l):∃ a cp,v=.slice a l.length cp∧BytesAt w a l:=by
 rcases h.2 with ⟨rfl,h0⟩ | ⟨g,cap,cur,rfl,hg,hb,hc,hm,hs,ht⟩
 ·have e:l=[]:=List.length_eq_zero_iff.1 h0
  subst e
  exact ⟨none,0,rfl,.inl rfl⟩
 ·refine ⟨some ⟨g,0,none⟩,cap,rfl,.inr ⟨g,0,rfl,slt hb,fun j hj => ?_⟩⟩
  rw [Nat.zero_add,cell_of_row _ _ _ _ _ _ hb]
  have h1:(cur.toList.take (l.length * 1))[j]? = some (.int .u8 (l.getD j 0)):=by rw [ht];simp [hj]
  rw [List.getElem?_take,if_pos (by omega)] at h1;rw [←Array.getElem?_toList];exact h1
theorem conv_at {a:Option Addr} (h:BytesAt w a l) (cap:Nat):(convert 32 9 (.slice a l.length cap)).run Tryz.prog w=.ok (.string (strOf l)) w:=by
 rw [run_convert_bytes_string w 32 9 5 _ _ _ Tryz.underlying32 Tryz.underlying5 Tryz.underlying9]
 rcases h with rfl | ⟨b,o,rfl,hb,h⟩
 ·cases a <;> simp [Conv.bytesToString,strOf,loadCells,loadCellsFrom] <;> rfl
 ·have hl:=run_loadCells_list (P:=Tryz.prog) w ⟨b,o,none⟩ (l.map (Value.int .u8)) (fun j v hj=>by
   have hlt:j < l.length:=by
    rcases Nat.lt_or_ge j l.length with k | k
    ·exact k
    ·rw [List.getElem?_eq_none (by simpa using k)] at hj;cases hj
   rw [addr_add,h j hlt]
   simp [hlt] at hj
   simp [hlt,hj])
  rw [List.length_map] at hl;rw [run_bytesToString w _ l.length cap l hl]
  have hf:∀ (c:List Int) (r:ByteArray),c.foldl (fun r n=>r.push (UInt8.ofNat n.toNat)) r=⟨r.data ++ (c.map fun n=>UInt8.ofNat n.toNat).toArray⟩:=by
   intro c
   induction c with
   | nil=>intro r;simp
   | cons x c ih =>
    intro r
    rw [List.foldl_cons,ih]
    congr 1
    simp [ByteArray.push]
  rw [hf]
  simp [strOf]
end
section
variable {ops:Array Oper} {rest:List Oper} {o:Oper} {a:Act} {Q:Exit→Act→World→Prop} {w:World}
theorem wp_app8 (hg:o.guard=none) (s x:Operand) (hop:o.op=.call { callee:=.builtin .append,args:=#[s,x],argTypes:=#[32,32] }) (B g c:Nat) (v:Value) (l:List Int) (y:Int) (hs:a.eval s=v) (hx:a.eval x=.slice (some ⟨g,0,none⟩) 1 c)
  (hown:BOw w B v l) (hat:w.cell? ⟨g,0,none⟩=some (.int .u8 y)) (hl:l.length≤1000000000000) (hB:B≤w.heap.size)
  (hK:∀ v' w',BOw w' B v' (l ++ [y])→Chg w w' (fun k=>v.ownBlock=some k)→(v'.ownBlock=v.ownBlock∨v'.ownBlock=some w.heap.size)→wpList Tryz.prog ops Q rest (a.put o.dst v') w'):wpList Tryz.prog ops Q (o :: rest) a w:=by
 obtain ⟨i,hi,hz,hsz,hby⟩:=info8;refine wpList_append_own_at w hg s x 32 hop B 5 i _ 1 1 Tryz.underlying32 hi hz hsz hby rfl (by decide) v l.length (l.map (Value.int .u8)) hs hown ⟨g,0,none⟩ 1 c [.int .u8 y] hx rfl (fun j u hj => ?_) (by simp [Value.oneCell']) (by unfold maxLen;omega) (by omega) hB ?_
 ·cases j with
  | zero=>simp at hj;subst hj;exact hat
  | succ j=>simp at hj
 ·intro v' w' h1 h2 h3 h4
  refine hK v' w' ?_ ((Chg.grown h2).mono fun j _ e=>e.symm) h4;unfold BOw;rw [List.length_append,List.map_append]
  exact h1
end
section
variable {ops:Array Oper} {Q:Exit→Act→World→Prop} {S:World→Prop} {fuel:Nat} {listed:Array Bool} {a:Act} {w:World}
theorem stAppB (i d:Nat) {o:Oper} (hop:ops[i]? = some o) (hd:o.dst=some d) (hw:Region.wanted o (yielded ops a.tmps)=true) (s x:Operand)
  (ho:o.op=.call { callee:=.builtin .append,args:=#[s,x],argTypes:=#[32,32] }) (B:Nat) (v:Value) (l m:List Int) (ad:Option Addr) (ca:Nat) (hs:a.eval s=v) (hx:a.eval x=.slice ad m.length ca)
  (hown:BOw w B v l) (hat:BytesAt w ad m) (hl:l.length + m.length≤1000000000000) (hB:B≤w.heap.size)
  (h:∀ v' w',BOw w' B v' (l ++ m)→Chg w w' (fun k=>v.ownBlock=some k) →
   S w'∧wpAnyH Tryz.prog .any ops Q S fuel (listed.setIfInBounds i true) { a with tmps:=a.tmps.setIfInBounds d v' } w'):St ops Q S fuel listed a w i:=by
 obtain ⟨inf,hi,hz,hsz,hby⟩:=info8
 have key:∃ v' w',(Builtin.append_ #[32,32] o.type #[v,.slice ad m.length ca]).run Tryz.prog w=.ok v' w'∧BOw w' B v' (l ++ m)∧Chg w w' (fun k=>v.ownBlock=some k):=by
  cases ad with
  | none =>
   have hm:m=[]:=by
    rcases hat with e | ⟨_,_,e,_⟩
    ·exact e
    ·cases e
   subst hm;refine ⟨v,w,?_,by simpa using hown,Chg.refl _ _⟩
   rcases hown.2 with ⟨rfl,h0⟩ | ⟨g,cap,cur,rfl,_,_,hle,_⟩
   ·simp [Builtin.append_,run_underlying Tryz.underlying32,sizeOf,typeInfo,hi,Builtin.lenOf,Builtin.firstCells]
   ·simp [Builtin.append_,run_underlying Tryz.underlying32,sizeOf,typeInfo,hi,Builtin.lenOf,Builtin.firstCells,loadCells,storeCells,hle]
  | some ad =>
   obtain ⟨v',w',hr,k2,k3,_,_⟩:=run_append_own_at (P:=Tryz.prog) w B 32 o.type 5 inf _ 1 1 Tryz.underlying32 hi hz hsz hby rfl (by decide) v l.length (l.map (Value.int .u8)) hown ad m.length ca (m.map (Value.int .u8)) (by simp) (fun j u hj=>by
    rcases hat with rfl | ⟨b,o,e,hb,hc⟩
    ·simp at hj
    ·cases e
     have hlt:j < m.length:=by
      rcases Nat.lt_or_ge j m.length with k | k
      ·exact k
      ·rw [List.getElem?_eq_none (by simpa using k)] at hj;cases hj
     rw [addr_add,hc j hlt]
     simp [hlt] at hj
     simp [hlt,hj]) (by
    intro u hu
    obtain ⟨y,_,rfl⟩:=List.mem_map.1 hu
    rfl) (by unfold maxLen;omega) (by omega) hB
   refine ⟨v',w',hr,?_,(Chg.grown k3).mono fun j _ e=>e.symm⟩;unfold BOw;rw [List.length_append,List.map_append]
   exact k2
 obtain ⟨v',w',hr,k2,k3⟩:=key;have hh:=h v' w' k2 k3;refine wpOp_step hop (fun K hK => ?_);rw [if_pos hw];unfold Oper.wp execOp
 simp only [ho,resolve,invoke,builtin,Sem.run_bind,Sem.run_pure,Result.andThen_ok,List.map_toArray,List.map_cons,List.map_nil,hs,hx,hr]
 refine hK _ _ ⟨hh.1,?_⟩;unfold Act.put;rw [hd]
 exact hh.2
end
theorem run_appB {w:World} (ty:TypeId) (B:Nat) (v:Value) (l m:List Int) (ad:Option Addr) (ca:Nat) (hown:BOw w B v l) (hat:BytesAt w ad m) (hl:l.length + m.length≤1000000000000) (hB:B≤w.heap.size) :
  ∃ v' w',(Builtin.append_ #[32,32] ty #[v,.slice ad m.length ca]).run Tryz.prog w=.ok v' w'∧BOw w' B v' (l ++ m)∧Chg w w' (fun k=>v.ownBlock=some k):=by
 obtain ⟨inf,hi,hz,hsz,hby⟩:=info8
 cases ad with
 | none =>
  have hm:m=[]:=by
   rcases hat with e | ⟨_,_,e,_⟩
   ·exact e
   ·cases e
  subst hm;refine ⟨v,w,?_,by simpa using hown,Chg.refl _ _⟩
  rcases hown.2 with ⟨rfl,h0⟩ | ⟨g,cap,cur,rfl,_,_,hle,_⟩
  ·simp [Builtin.append_,run_underlying Tryz.underlying32,sizeOf,typeInfo,hi,Builtin.lenOf,Builtin.firstCells]
  ·simp [Builtin.append_,run_underlying Tryz.underlying32,sizeOf,typeInfo,hi,Builtin.lenOf,Builtin.firstCells,loadCells,storeCells,hle]
 | some ad =>
  obtain ⟨v',w',hr,k2,k3,_,_⟩:=run_append_own_at (P:=Tryz.prog) w B 32 ty 5 inf _ 1 1 Tryz.underlying32 hi hz hsz hby rfl (by decide) v l.length (l.map (Value.int .u8)) hown ad m.length ca (m.map (Value.int .u8)) (by simp) (fun j u hj=>by
   rcases hat with rfl | ⟨b,o,e,hb,hc⟩
   ·simp at hj
   ·cases e
    have hlt:j < m.length:=by
     rcases Nat.lt_or_ge j m.length with k | k
     ·exact k
     ·rw [List.getElem?_eq_none (by simpa using k)] at hj;cases hj
    rw [addr_add,hc j hlt]
    simp [hlt] at hj
    simp [hlt,hj]) (by
   intro u hu
   obtain ⟨y,_,rfl⟩:=List.mem_map.1 hu
   rfl) (by unfold maxLen;omega) (by omega) hB
  refine ⟨v',w',hr,?_,(Chg.grown k3).mono fun j _ e=>e.symm⟩;unfold BOw;rw [List.length_append,List.map_append]
  exact k2
section
variable {ops:Array Oper} {rest:List Oper} {o:Oper} {a:Act} {Q:Exit→Act→World→Prop} {w:World}
theorem wp_appB (hg:o.guard=none) (s x:Operand) (ho:o.op=.call { callee:=.builtin .append,args:=#[s,x],argTypes:=#[32,32] }) (B:Nat) (v:Value) (l m:List Int) (ad:Option Addr) (ca:Nat) (hs:a.eval s=v) (hx:a.eval x=.slice ad m.length ca)
  (hown:BOw w B v l) (hat:BytesAt w ad m) (hl:l.length + m.length≤1000000000000) (hB:B≤w.heap.size)
  (hK:∀ v' w',BOw w' B v' (l ++ m)→Chg w w' (fun k=>v.ownBlock=some k)→wpList Tryz.prog ops Q rest (a.put o.dst v') w'):wpList Tryz.prog ops Q (o :: rest) a w:=by
 refine wpList_plain hg fun K hK' => ?_
 obtain ⟨v',w',hr,k2,k3⟩:=run_appB o.type B v l m ad ca hown hat hl hB;unfold Oper.wp execOp
 simp only [ho,resolve,invoke,builtin,Sem.run_bind,Sem.run_pure,Result.andThen_ok,List.map_toArray,List.map_cons,List.map_nil,hs,hx,hr]
 exact hK' _ _ (hK v' w' k2 k3)
end
end Go.Proofs.YtmgfilacepnjlaaGreatDoor
