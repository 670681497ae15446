/-
 PlainKept's model: what a path leads to, where a thing lies, how many paths lead to it.
-/
import Derived.Test.YtmgfilacepnjlaaGreatDoorWA22
import Derived.Test.YtmgfilacepnjlaaGreatDoorYB
namespace Go.Proofs.YtmgfilacepnjlaaGreatDoor
open Go.RowKit

def NowS (w wr:World) (p:Nat) (s:PSt):Prop:=∃ q,q.p=p∧IsPl wr q s∧Inv2 s∧(∀ j,PBlk q j→w.heap.size≤j)∧Chg w wr No
theorem NowS.chg {w wr:World} {p:Nat} {s:PSt} (h:NowS w wr p s):Chg w wr No:=by obtain ⟨_,_,_,_,_,h⟩:=h;exact h
theorem NowS.call {w wr w':World} {p:Nat} {s:PSt} (h:NowS w wr p s) (hc:Chg wr w' No):NowS w w' p s:=by
 obtain ⟨q,h1,h2,h3,h4,h5⟩:=h
 exact ⟨q,h1,h2.call hc,h3,h4,h5.tr hc⟩
def KT (W w':World):Prop:=∀ (g:Nat) (A':Array Value) (T:TypeId),(T≠82∧T≠106∧T≠3)→W.heap[g]? = some (Obj.cells A' T (0,0))→w'.heap[g]? = some (Obj.cells A' T (0,0))
theorem KT.op {W w':World} (h:KT W w') (g:Nat) (A':Array Value) (hg:W.heap[g]? = some (Obj.cells A' 34 (0,0))):w'.heap[g]? = some (Obj.cells A' 34 (0,0)):=h g A' 34 ⟨by decide,by decide,by decide⟩ hg
theorem IsPl.notB {W:World} {q:PC} {s:PSt} (h:IsPl W q s) {g:Nat} {A:Array Value} {T:TypeId} (hT:T≠82∧T≠106∧T≠3) (hg:W.heap[g]? = some (Obj.cells A T (0,0))) : ¬ PBlk q g:=by
 have hmap:∀ {b:Nat} {t:TypeId} {n:Nat} {D:DataW Value},W.ownsMap Tryz.prog t decV b n D→g≠b:=fun {b t n D} hm e=>by
  obtain ⟨es,clock,hb,_⟩:=hm;rw [←e,hg] at hb
  cases hb
 rintro (e | e | ⟨i,c,e1,e2⟩)
 ·have hm:=h.me
  rw [←e,hg] at hm
  exact hT.1 (by injection hm with hm;injection hm)
 ·obtain ⟨D,hm,_⟩:=h.mp
  exact hmap hm e
 ·obtain ⟨x,_,hN⟩:=h.nd i c e1
  rcases e2 with e | e | e | e
  ·have hm:=hN.me
   rw [←e,hg] at hm
   exact hT.2.1 (by injection hm with hm;injection hm)
  ·obtain ⟨D,hm,_⟩:=hN.bl
   exact hmap hm e
  ·obtain ⟨D,hm,_⟩:=hN.nm
   exact hmap hm e
  ·have hs:W.ownsRow c.B 3 1 c.v x.sl.length (x.sl.map fun z=>.int .i64 z):=hN.sl
   rcases hs.2 with ⟨e3,_⟩ | ⟨g',cap,cur,e3,_,hg',_⟩
   ·rw [e3] at e;cases e
   ·rw [e3] at e
    have:g'=g:=by simpa [Value.ownBlock] using e
    rw [this,hg] at hg'
    exact hT.2.2 (by injection hg' with hg';injection hg')
theorem NowS.do_ {w W:World} {p:Nat} {s:PSt} (h:NowS w W p s) (o:OpS) (da:Option Addr) (dc:Nat) (data:List Int) (hb:BytesAt w da data) (hn:o.data.length≤data.length) (hdc:data.length≤dc) (ho:o.data=data.take o.data.length) (hby:∀ b∈o.data,0≤b∧b≤255) (hu:UB w) (hm:ML w) :
  Calls Tryz.prog 9 #[.pointer (some ⟨p,0,none⟩),.agg (opA o.kind o.path o.tto o.off o.len da o.data.length dc o.made o.pick)] W fun e w'=>∃ A,e=.returned (.agg A)∧AnsIs w' W.heap.size A (doS s o).2∧NowS w w' p (doS s o).1∧KT W w':=by
 obtain ⟨q,rfl,h1,h2,h3,h4⟩:=h;have hd:=hb.dat h3 h4 o.data.length dc hn hdc;rw [←ho] at hd;refine (do_any o da dc W h1 h2.inv (hu.keep h4 (fun e=>e)) (hm.call h4) hd).mono ?_
 rintro e w' ⟨A,rfl,hA,hL⟩
 obtain ⟨q',g1,g2,g3,g4⟩:=hL.new h4 h3
 exact ⟨A,rfl,hA,⟨q',g1,g2,h2.doS hby,g3,g4⟩,fun g A' T hT hg=>hL.2.keep hg (h1.notB hT hg)⟩
theorem NowS.ask {w W:World} {p:Nat} {s:PSt} (h:NowS w W p s) (k n:Int) (t:ByteArray) (hk:(k=10∧n=0)∨(k=11∧n=0)∨(k=9∧n=131072)) (hu:UB w) (hm:ML w) :
  Calls Tryz.prog 9 #[.pointer (some ⟨p,0,none⟩),.agg #[.int .i64 k,.string t,.string ⟨#[]⟩,.int .i64 0,.int .i64 n,.slice none 0 0,.int .i64 0,.int .i64 0]] W fun e w'=>∃ A,e=.returned (.agg A)∧AnsIs w' W.heap.size A (askS s k t n)∧Chg W w' No:=by
 obtain ⟨q,rfl,h1,h2,h3,h4⟩:=h
 exact ask_any k t n none 0 W h1 h2.inv (hu.keep h4 (fun e=>e)) (hm.call h4) hk
structure DeedO (x:Dd) (A:Array Value) (o:OpS):Prop where
 ex:∃ (da:Option Addr) (dc:Nat),A=opA o.kind o.path o.tto o.off o.len da o.data.length dc o.made o.pick∧(o.data=[]∨(da=x.da∧dc=x.dc∧o.data=x.data.take o.data.length∧o.data.length≤x.data.length))
 is_:OpIs o.kind o.made o.off o.path o.tto o.data.length
 len:o.len=0
 pick:o.pick=0
 by_:∀ b∈o.data,0≤b∧b≤255
theorem deed_op {x:Dd} {A:Array Value} (hx:x.Ok) (hA:OpOf x.da x.data.length x.dc A):∃ o:OpS,DeedO x A o:=by
 obtain ⟨k,made,off,path,tto,da',dl',dc',rfl,hd,hI⟩:=hA
 rcases hd with ⟨rfl,rfl⟩ | ⟨rfl,e2,rfl⟩
 ·exact ⟨⟨k,path,tto,off,0,[],made,0⟩,⟨none,dc',rfl,.inl rfl⟩,hI,rfl,rfl,fun b hb=>by cases hb⟩
 ·have e3:(x.data.take dl').length=dl':=by rw [List.length_take];omega
  have hby:∀ b∈x.data.take dl',0≤b∧b≤255:=fun c hc=>hx.by_ c (List.mem_of_mem_take hc)
  refine ⟨⟨k,path,tto,off,0,x.data.take dl',made,0⟩,⟨x.da,x.dc,?_,.inr ⟨rfl,rfl,?_,?_⟩⟩,?_,rfl,rfl,hby⟩
  ·show opA k path tto off 0 x.da dl' x.dc made 0=opA k path tto off 0 x.da (x.data.take dl').length x.dc made 0
   rw [e3]
  ·show x.data.take dl'=x.data.take (x.data.take dl').length
   rw [e3]
  ·show (x.data.take dl').length≤x.data.length
   omega
  ·show OpIs k made off path tto (x.data.take dl').length
   rw [e3]
   exact hI
theorem NowS.doO {w W:World} {p:Nat} {s:PSt} {x:Dd} {A:Array Value} {o:OpS} (h:NowS w W p s) (hO:DeedO x A o) (hx:x.Ok) (hb:BytesAt w x.da x.data) (hu:UB w) (hm:ML w) :
  Calls Tryz.prog 9 #[.pointer (some ⟨p,0,none⟩),.agg A] W fun e w'=>∃ B,e=.returned (.agg B)∧AnsIs w' W.heap.size B (doS s o).2∧NowS w w' p (doS s o).1∧KT W w':=by
 obtain ⟨⟨da,dc,rfl,hd⟩,_,hl,hp,hby⟩:=hO
 rcases hd with hd | ⟨rfl,rfl,e1,e2⟩
 ·have hD:=h.do_ o da dc [] (.inl rfl) (by rw [hd];exact Nat.le_refl _) (Nat.zero_le _) (by rw [hd];rfl) hby hu hm
  exact hD
 ·exact h.do_ o x.da x.dc x.data hb e2 hx.len e1 hby hu hm
theorem newBlkS {w:World} {q:PC} (h1:w.heap.size≤q.p) (h2:w.heap.size≤q.mb) (h3:∀ i c,q.nc i=some c→∀ k,BlkN c k→w.heap.size≤k):∀ j,PBlk q j→w.heap.size≤j:=fun j hj=>by
 rcases hj with e | e | ⟨i,c,e1,e2⟩
 ·rw [e];exact h1
 ·rw [e];exact h2
 ·exact h3 i c e1 j e2
theorem small2_any (n:Int) (w:World) (hn:I64 n):Calls Tryz.prog 6 #[.int .i64 n] w fun e w'=>∃ p,e=.returned (.tuple #[.pointer (some ⟨p,0,none⟩),.int .i64 (smS n - 1 - smI n),.int .i64 (smI n)])∧NowS w w' p (newS (smS n) (smI n)):=by
 refine (small_any n w hn).mono ?_
 rintro e w1 ⟨q,rfl,h1,h2,h3,h4,h5⟩
 exact ⟨q.p,rfl,q,rfl,h1,inv2_new (inv_new (sm_ok n)),newBlkS h3 h4 h5,h2⟩
section
variable {ops:Array Oper} {rest:List Oper} {o:Oper} {a:Act} {Q:Exit→Act→World→Prop} {w:World}
end
end Go.Proofs.YtmgfilacepnjlaaGreatDoor

namespace Go.Proofs.YtmgfilacepnjlaaGreatDoor
open Go.RowKit

def LL (ls:List ByteArray):Prop:=(∀ t∈ls,t∈lets)∧ls.length≤100
def cD (ls:List ByteArray):List UInt8:=ls.flatMap fun t=>47 :: t.data.toList
theorem TP_cD {ls:List ByteArray} (h:ls≠[]):(TP ls).data.toList=cD ls:=by
 rw [TP_data];unfold pathOf cD;rw [if_neg (by simpa using h),List.flatMap_def,List.map_map]
 rfl
theorem let_one {t:ByteArray} (h:t∈lets):∃ b,t.data.toList=[b]∧b≠47:=by
 simp only [lets,List.mem_cons,List.not_mem_nil,or_false] at h
 rcases h with rfl | rfl | rfl | rfl | rfl | rfl | rfl <;> exact ⟨_,rfl,by decide⟩
theorem cD_len:∀ {ls:List ByteArray},(∀ t∈ls,t∈lets)→(cD ls).length=2 * ls.length
 | [],_=>rfl
 | t :: ls,h=>by
  have ih:=cD_len (ls:=ls) fun u hu=>h u (List.mem_cons_of_mem _ hu)
  obtain ⟨b,hb,_⟩:=let_one (h t (List.mem_cons_self ..))
  show (47 :: t.data.toList ++ cD ls).length=_
  rw [List.length_append,ih,hb]
  simp only [List.length_cons,List.length_nil]
  omega
theorem cD_app (a b:List ByteArray):cD (a ++ b)=cD a ++ cD b:=List.flatMap_append
theorem cD_take {ls:List ByteArray} (h:∀ t∈ls,t∈lets) (k:Nat):(cD ls).take (2 * k)=cD (ls.take k):=by
 have e:cD ls=cD (ls.take k) ++ cD (ls.drop k):=by rw [←cD_app,List.take_append_drop]
 have hl:=cD_len (ls:=ls.take k) fun t ht=>h t (List.mem_of_mem_take ht)
 rw [e]
 by_cases c:k≤ls.length
 ·rw [List.take_append_of_le_length (by rw [hl,List.length_take];omega),List.take_of_length_le (by rw [hl,List.length_take];omega)]
 ·rw [List.drop_eq_nil_of_le (by omega)]
  show (cD (ls.take k) ++ []).take (2 * k)=_
  rw [List.append_nil,List.take_of_length_le (by rw [hl,List.length_take];omega)]
theorem cD_drop {ls:List ByteArray} (h:∀ t∈ls,t∈lets) {k:Nat} (hk:k≤ls.length):(cD ls).drop (2 * k)=cD (ls.drop k):=by
 have e:cD ls=cD (ls.take k) ++ cD (ls.drop k):=by rw [←cD_app,List.take_append_drop]
 have hl:=cD_len (ls:=ls.take k) fun t ht=>h t (List.mem_of_mem_take ht)
 rw [e,List.drop_append_of_le_length (by rw [hl,List.length_take];omega),List.drop_eq_nil_of_le (by rw [hl,List.length_take];omega)]
 rfl
theorem cD_even {ls:List ByteArray} (h:∀ t∈ls,t∈lets) {k:Nat} (hk:k < ls.length):(cD ls)[2 * k]? = some 47∧∃ b,(cD ls)[2 * k + 1]? = some b∧b≠47:=by
 have e:(cD ls).drop (2 * k)=cD (ls.drop k):=cD_drop h (by omega);rw [List.drop_eq_getElem_cons hk] at e;obtain ⟨b,hb,hb2⟩:=let_one (h _ (List.getElem_mem hk))
 have e2:cD (ls[k] :: ls.drop (k + 1))=47 :: b :: cD (ls.drop (k + 1)):=by
  show 47 :: ls[k].data.toList ++ cD _=_
  rw [hb]
  rfl
 rw [e2] at e
 have e3:∀ i,((cD ls).drop (2 * k))[i]? = (cD ls)[2 * k + i]?:=fun i=>List.getElem?_drop
 refine ⟨?_,b,?_,hb2⟩
 ·rw [←Nat.add_zero (2 * k),←e3,e];rfl
 ·rw [←e3,e];rfl
theorem TP_size {ls:List ByteArray} (h:LL ls) (hn:ls≠[]):(TP ls).size=2 * ls.length:=by
 have e:(TP ls).size=(TP ls).data.toList.length:=by rw [Array.length_toList];rfl
 rw [e,TP_cD hn,cD_len h.1]
theorem TP_inj {a b:List ByteArray} (ha:LL a) (hb:LL b):TP a=TP b↔a=b:=by
 constructor
 ·intro e
  have h1:=(TP_split (lets_nm ha.1) (by rw [sizes_lets ha.1];have:=ha.2;omega)).2;have h2:=(TP_split (lets_nm hb.1) (by rw [sizes_lets hb.1];have:=hb.2;omega)).2;rw [←h1,←h2,e]
 ·rintro rfl;rfl
theorem TP_head {ls:List ByteArray} (h:LL ls) {k:Nat} (hk:1≤k) (hk2:k≤ls.length):(TP ls).data.toList.take (2 * k)=(TP (ls.take k)).data.toList:=by
 have h1:ls≠[]:=fun c=>by rw [c] at hk2;simp at hk2;omega
 have h2:ls.take k≠[]:=fun c=>by
  have:=congrArg List.length c;rw [List.length_take,List.length_nil] at this
  omega
 rw [TP_cD h1,TP_cD h2,cD_take h.1]
theorem TP_below {a b:List ByteArray} (ha:LL a) (hb:LL b) (hn:a≠[]) (hl:a.length < b.length):((TP b).data.toList.take (2 * a.length)=(TP a).data.toList↔b.take a.length=a)∧(TP b).data.toList[2 * a.length]? = some 47:=by
 have hb0:b≠[]:=fun c=>by rw [c] at hl;simp at hl
 have ha1:=List.length_pos_iff.2 hn;refine ⟨?_,by rw [TP_cD hb0];exact (cD_even hb.1 hl).1⟩;rw [TP_head hb (by omega) (by omega)];have hbt:LL (b.take a.length):=⟨fun t ht=>hb.1 t (List.mem_of_mem_take ht),by rw [List.length_take];have:=hb.2;omega⟩
 constructor
 ·intro e
  exact (TP_inj hbt ha).1 (ba_ext e)
 ·intro e
  rw [e]
theorem TP_join {a b:List ByteArray} (ha:a≠[]) (hb:b≠[]):TP (a ++ b)=TP a ++ TP b:=by
 refine ba_ext ?_;rw [ba_app,TP_cD (by simp [ha]),TP_cD ha,TP_cD hb,cD_app]
theorem LL.init {ls:List ByteArray} (h:LL ls):LL ls.dropLast:=⟨fun t ht=>h.1 t ((List.dropLast_sublist ls).subset ht),by rw [List.length_dropLast];have:=h.2;omega⟩
end Go.Proofs.YtmgfilacepnjlaaGreatDoor

namespace Go.Proofs.YtmgfilacepnjlaaGreatDoor
open Go.RowKit

def thC (x:Th × (Option Addr × Nat)):List Value:=[.int .i64 x.1.id,.bool x.1.dir,.int .i64 x.1.made,.slice x.2.1 x.1.bytes.length x.2.2]
noncomputable def enC (e:List ByteArray × Int):List Value:=[.string (TP e.1),.int .i64 e.2]
structure MC where
 g:Nat
 tv:Value
 pv:Value
 bv:List (Option Addr × Nat)
def BRow (w:World) (b:Option Addr × Nat) (l:List Int):Prop:=BytesAt w b.1 l∧l.length≤b.2∧∀ g o,b.1=some ⟨g,o,none⟩→∃ A,w.heap[g]? = some (.cells A 5 (0,0))
structure IsMo (w:World) (B:Nat) (c:MC) (m:Mo):Prop where
 gB:B≤c.g
 me:w.heap[c.g]? = some (.cells #[c.tv,c.pv,.int .i64 m.next] 31 (0,0))
 bn:c.bv.length=m.things.length
 th:w.ownsRow B 74 4 c.tv m.things.length ((m.things.zip c.bv).flatMap thC)
 pa:w.ownsRow B 76 2 c.pv m.paths.length (m.paths.flatMap enC)
 bt:∀ x∈m.things.zip c.bv,BRow w x.2 x.1.bytes
def MT4 (T:TypeId):Prop:=T=31∨T=74∨T=76∨T=5
theorem row_keep {w w':World} {B k n:Nat} {t:TypeId} {v:Value} {xs:List Value} (h:w.ownsRow B t k v n xs) (hr:∀ (g:Nat) (A:Array Value),w.heap[g]? = some (.cells A t (0,0))→w'.heap[g]? = some (.cells A t (0,0))):w'.ownsRow B t k v n xs:=by
 refine ⟨h.1,?_⟩
 rcases h.2 with e | ⟨g,cap,cur,e,hb,hg,r⟩
 ·exact .inl e
 ·exact .inr ⟨g,cap,cur,e,hb,hr g cur hg,r⟩
theorem BRow.rows {w w':World} {b:Option Addr × Nat} {l:List Int} (h:BRow w b l) (hs:w.heap.size≤w'.heap.size) (hr:∀ (g:Nat) (A:Array Value),w.heap[g]? = some (.cells A 5 (0,0))→w'.heap[g]? = some (.cells A 5 (0,0))):BRow w' b l:=by
 obtain ⟨h1,h2,h3⟩:=h;refine ⟨?_,h2,fun g o e=>by obtain ⟨A,hA⟩:=h3 g o e;exact ⟨A,hr g A hA⟩⟩
 rcases h1 with e | ⟨g,o,e,hb,h⟩
 ·exact .inl e
 ·obtain ⟨A,hA⟩:=h3 g o e
  refine .inr ⟨g,o,e,Nat.lt_of_lt_of_le hb hs,fun j hj => ?_⟩;have:=h j hj;rw [cell_of_row _ _ _ _ _ _ hA] at this;rw [cell_of_row _ _ _ _ _ _ (hr g A hA)]
  exact this
theorem IsMo.rows {w w':World} {B:Nat} {c:MC} {m:Mo} (h:IsMo w B c m) (hs:w.heap.size≤w'.heap.size) (hr:∀ (g:Nat) (A:Array Value) (T:TypeId),MT4 T→w.heap[g]? = some (.cells A T (0,0))→w'.heap[g]? = some (.cells A T (0,0))):IsMo w' B c m :=
 ⟨h.gB,hr _ _ _ (.inl rfl) h.me,h.bn,row_keep h.th fun g A=>hr g A _ (.inr (.inl rfl)),row_keep h.pa fun g A=>hr g A _ (.inr (.inr (.inl rfl))),fun x hx=>(h.bt x hx).rows hs fun g A=>hr g A _ (.inr (.inr (.inr rfl)))⟩
theorem IsMo.call {w w':World} {B:Nat} {c:MC} {m:Mo} (h:IsMo w B c m) (hc:Chg w w' No):IsMo w' B c m:=h.rows hc.size fun _ _ _ _ hg=>hc.keep hg (fun e=>e)
theorem flat_get {α:Type} (f:α→List Value) (k:Nat) (hk:∀ x,(f x).length=k):∀ {l:List α} {j i:Nat} {x:α},l[j]? = some x→i < k→(l.flatMap f)[j * k + i]? = (f x)[i]?
 | [],_,_,_,h,_=>by cases h
 | e :: l,0,i,x,h,hi=>by
  cases h
  rw [List.flatMap_cons,Nat.zero_mul,Nat.zero_add,List.getElem?_append_left (by rw [hk];exact hi)]
 | e :: l,j + 1,i,x,h,hi=>by
  rw [List.flatMap_cons,List.getElem?_append_right (by rw [hk,Nat.add_mul];omega),hk,show (j + 1) * k + i - k=j * k + i by rw [Nat.add_mul];omega]
  exact flat_get f k hk (l:=l) h hi
theorem row_cellS {α:Type} {w:World} {B n k:Nat} {t:TypeId} {v:Value} {l:List α} (f:α→List Value) (hk:∀ x,(f x).length=k) (h:w.ownsRow B t k v n (l.flatMap f)) (hn:n=l.length) {j:Nat} {x:α} (hj:l[j]? = some x):∃ g cp,v=.slice (some ⟨g,0,none⟩) n cp∧B≤g∧(∃ A,w.heap[g]? = some (.cells A t (0,0)))∧∀ i,i < k→w.cell? ⟨g,j * k + i,none⟩=(f x)[i]?:=by
 rcases h.2 with ⟨e,e2⟩ | ⟨g,cap,cur,e,hb,hg,r⟩
 ·have h0:l=[]:=List.length_eq_zero_iff.1 (by omega)
  rw [h0] at hj
  cases hj
 ·refine ⟨g,cap,e,hb,⟨cur,hg⟩,fun i hi => ?_⟩
  have hx:=flat_get f k hk hj hi
  cases hq:(f x)[i]? with
  | none=>exact absurd hq (by rw [List.getElem?_eq_getElem (by rw [hk];exact hi)];exact fun c=>by cases c)
  | some u =>
   rw [hq] at hx;subst e;have:=World.ownsRow.cells h (g:=g) rfl (j * k + i) _ hx;rw [addr_add,Nat.zero_add] at this
   exact this
theorem row_sh {w:World} {B n k:Nat} {t:TypeId} {v:Value} {xs:List Value} (h:w.ownsRow B t k v n xs):∃ a cp,v=.slice a n cp:=by
 rcases h.2 with ⟨e,e2⟩ | ⟨g,cap,cur,e,_⟩
 ·exact ⟨none,0,by rw [e,e2]⟩
 ·exact ⟨_,cap,e⟩
theorem IsMo.path {w:World} {B:Nat} {c:MC} {m:Mo} (h:IsMo w B c m) {j:Nat} {e:List ByteArray × Int} (hj:m.paths[j]? = some e):∃ g cp,c.pv=.slice (some ⟨g,0,none⟩) m.paths.length cp∧B≤g∧(∃ A,w.heap[g]? = some (.cells A 76 (0,0)))∧w.cell? ⟨g,j * 2,none⟩=some (.string (TP e.1))∧w.cell? ⟨g,j * 2 + 1,none⟩=some (.int .i64 e.2):=by
 obtain ⟨g,cp,h1,h2,h3,h4⟩:=row_cellS enC (fun _=>rfl) h.pa rfl hj
 exact ⟨g,cp,h1,h2,h3,h4 0 (by decide),h4 1 (by decide)⟩
theorem IsMo.zip {w:World} {B:Nat} {c:MC} {m:Mo} (h:IsMo w B c m) {j:Nat} {t:Th} (hj:m.things[j]? = some t):∃ b,c.bv[j]? = some b∧(m.things.zip c.bv)[j]? = some (t,b):=by
 have hl:j < c.bv.length:=by rw [h.bn];exact (List.getElem?_eq_some_iff.1 hj).1
 refine ⟨_,List.getElem?_eq_getElem hl,?_⟩;rw [List.getElem?_zip_eq_some]
 exact ⟨hj,List.getElem?_eq_getElem hl⟩
theorem IsMo.thing {w:World} {B:Nat} {c:MC} {m:Mo} (h:IsMo w B c m) {j:Nat} {t:Th} (hj:m.things[j]? = some t):∃ g cp b,c.tv=.slice (some ⟨g,0,none⟩) m.things.length cp∧B≤g∧(∃ A,w.heap[g]? = some (.cells A 74 (0,0)))∧c.bv[j]? = some b∧BRow w b t.bytes∧w.cell? ⟨g,j * 4,none⟩=some (.int .i64 t.id)∧w.cell? ⟨g,j * 4 + 1,none⟩=some (.bool t.dir)∧w.cell? ⟨g,j * 4 + 2,none⟩=some (.int .i64 t.made)∧w.cell? ⟨g,j * 4 + 3,none⟩=some (.slice b.1 t.bytes.length b.2):=by
 obtain ⟨b,hb,hz⟩:=h.zip hj;obtain ⟨g,cp,h1,h2,h3,h4⟩:=row_cellS thC (fun _=>rfl) h.th (by rw [List.length_zip,h.bn,Nat.min_self]) hz
 exact ⟨g,cp,b,h1,h2,h3,hb,h.bt _ (List.mem_of_getElem? hz),h4 0 (by decide),h4 1 (by decide),h4 2 (by decide),h4 3 (by decide)⟩
theorem IsMo.shape {w:World} {B:Nat} {c:MC} {m:Mo} (h:IsMo w B c m):(∃ a cp,c.tv=.slice a m.things.length cp)∧(∃ a cp,c.pv=.slice a m.paths.length cp):=⟨row_sh h.th,row_sh h.pa⟩
theorem IsMo.cells {w:World} {B:Nat} {c:MC} {m:Mo} (h:IsMo w B c m):w.cell? ⟨c.g,0,none⟩=some c.tv∧w.cell? ⟨c.g,1,none⟩=some c.pv∧w.cell? ⟨c.g,2,none⟩=some (.int .i64 m.next):=⟨(cell_of_row _ _ _ _ _ _ h.me).trans rfl,(cell_of_row _ _ _ _ _ _ h.me).trans rfl,(cell_of_row _ _ _ _ _ _ h.me).trans rfl⟩
end Go.Proofs.YtmgfilacepnjlaaGreatDoor

namespace Go.Proofs.YtmgfilacepnjlaaGreatDoor
open Go.RowKit

structure MoOk (m:Mo):Prop where
 np:m.paths.length≤2199023255552
 nt:m.things.length≤2199023255552
 nx:0≤m.next∧m.next≤2199023255552
 ll:∀ e∈m.paths,LL e.1∧e.1≠[]
theorem ba_ne {s t:ByteArray} (h : ¬ s=t):(s.toList == t.toList)=false:=beq_eq_false_iff_ne.2 fun e=>h (data_inj (by rw [←tl,←tl];exact e))
theorem drop_cons {α:Type} {l:List α} {i:Nat} {x:α} (h:l[i]? = some x):l.drop i=x :: l.drop (i + 1):=by
 obtain ⟨hl,rfl⟩:=List.getElem?_eq_some_iff.1 h
 exact List.drop_eq_getElem_cons hl
set_option maxHeartbeats 4000000 in
set_option maxRecDepth 100000 in
theorem mo_at {B:Nat} {c:MC} {m:Mo} {ls:List ByteArray} (w:World) (h:IsMo w B c m) (hk:MoOk m) (hl:LL ls):Calls Tryz.prog 28 #[.pointer (some ⟨c.g,0,none⟩),.string (TP ls)] w fun e w'=>e=.returned (.int .i64 (atL m.paths ls))∧w'=w:=by
 obtain ⟨R,hR⟩:∃ y,y=atL m.paths ls:=⟨_,rfl⟩;rw [←hR];obtain ⟨n,hn⟩:∃ y,y=m.paths.length:=⟨_,rfl⟩;obtain ⟨_,a,cp,hpv⟩:=h.shape;obtain ⟨_,q1,_⟩:=h.cells;rw [hpv,←hn] at q1;obtain ⟨t,ht⟩:∃ y,y=TP ls:=⟨_,rfl⟩;rw [←ht]
 have n1:(n:Int)≤2199023255552:=by have:=hk.np;omega
 have HR:=hid hR;have HN:=hid hn;have HT:=hid ht;have H:=hid h;have HK:=hid hk;have HL:=hid hl;have HPv:=hid hpv;obtain ⟨g,hg⟩:∃ y,y=c.g:=⟨_,rfl⟩;rw [←hg] at q1 ⊢;clear hR hn ht h hk hl hpv hg
 go_enter Tryz.func28,Tryz.ntmps28
 go_upto_region 2 with fail
 go_loopw [5] (fun x5 wr=>∃ i:Nat,x5=.int .i64 (i:Int)∧i≤n∧wr=w∧Hid (atL (m.paths.drop i) ls=R)) (fun x5 _=>n - (intOf x5).toNat)
 case atStart=>exact ⟨0,rfl,Nat.zero_le _,rfl,hid (by rw [List.drop_zero];exact HR.out.symm)⟩
 case round =>
  obtain ⟨i,rfl,hi,rfl,HA⟩:=hrel
  have i0:(0:Int)≤(i:Int):=by omega
  by_cases hlt:i < n
  ·have i1:(i:Int) < (n:Int):=by omega
   obtain ⟨e,he⟩:∃ e,m.paths[i]? = some e:=⟨_,List.getElem?_eq_getElem (by rw [←HN.out];exact hlt)⟩;obtain ⟨ga,cp2,h1,_,_,p1,p2⟩:=H.out.path he;rw [HPv.out] at h1
   cases h1
   have HE:=hid he;have HLe:=hid (HK.out.ll e (List.mem_of_getElem? he)).1;obtain ⟨s,hs⟩:∃ y,y=TP e.1:=⟨_,rfl⟩;rw [←hs] at p1;have HS:=hid hs;obtain ⟨id,hid1⟩:∃ y,y=e.2:=⟨_,rfl⟩;rw [←hid1] at p2;have HId:=hid hid1
   have HAt:Hid (R=if e.1=ls then id else atL (m.paths.drop (i + 1)) ls):=hid (by
    rw [←HA.out,drop_cons he,HId.out]
    rfl)
   clear he hs hid1
   by_cases hst:s=t
   ·have HRi:Hid (R=id):=hid (by rw [HAt.out,if_pos ((TP_inj HLe.out HL.out).1 (by rw [←HS.out,←HT.out];exact hst))])
    subst hst
    go_wp2_with fail
    go_ret
    exact ⟨by rw [HRi.out];rfl,rfl⟩
   ·have HRn:Hid (atL (m.paths.drop (i + 1)) ls=R):=hid (by rw [HAt.out,if_neg (fun e1=>hst (by rw [HS.out,HT.out,e1]))])
    have z1:=ba_ne hst
    go_wp2_with fail
    exact ⟨⟨i + 1,by go_num,by omega,trivial,HRn⟩,by simp [intOf];omega⟩
  ·have i1 : ¬ (i:Int) < (n:Int):=by omega
   have HRn:Hid (R = -1):=hid (by
    rw [←HA.out,List.drop_of_length_le (by rw [←HN.out];omega)]
    rfl)
   go_wp2_with fail
   go_ret
   exact ⟨by rw [HRn.out];rfl,rfl⟩
set_option maxHeartbeats 4000000 in
set_option maxRecDepth 100000 in
theorem mo_thing {B:Nat} {c:MC} {m:Mo} {id:Int} (w:World) (h:IsMo w B c m) (hk:MoOk m):Calls Tryz.prog 29 #[.pointer (some ⟨c.g,0,none⟩),.int .i64 id] w fun e w'=>e=.returned (.int .i64 (thK m.things id 0))∧w'=w:=by
 obtain ⟨R,hR⟩:∃ y,y=thK m.things id 0:=⟨_,rfl⟩;rw [←hR];obtain ⟨n,hn⟩:∃ y,y=m.things.length:=⟨_,rfl⟩;obtain ⟨⟨a,cp,hpv⟩,_⟩:=h.shape;obtain ⟨q1,_,_⟩:=h.cells;rw [hpv,←hn] at q1
 have n1:(n:Int)≤2199023255552:=by have:=hk.nt;omega
 have HR:=hid hR;have HN:=hid hn;have H:=hid h;have HK:=hid hk;have HPv:=hid hpv;obtain ⟨g,hg⟩:∃ y,y=c.g:=⟨_,rfl⟩;rw [←hg] at q1 ⊢;clear hR hn h hk hpv hg
 go_enter Tryz.func29,Tryz.ntmps29
 go_upto_region 2 with fail
 go_loopw [5] (fun x5 wr=>∃ i:Nat,x5=.int .i64 (i:Int)∧i≤n∧wr=w∧Hid (thK (m.things.drop i) id i=R)) (fun x5 _=>n - (intOf x5).toNat)
 case atStart=>exact ⟨0,rfl,Nat.zero_le _,rfl,hid (by rw [List.drop_zero];exact HR.out.symm)⟩
 case round =>
  obtain ⟨i,rfl,hi,rfl,HA⟩:=hrel
  have i0:(0:Int)≤(i:Int):=by omega
  by_cases hlt:i < n
  ·have i1:(i:Int) < (n:Int):=by omega
   obtain ⟨t,he⟩:∃ e,m.things[i]? = some e:=⟨_,List.getElem?_eq_getElem (by rw [←HN.out];exact hlt)⟩;obtain ⟨ga,cp2,bb,h1,_,_,_,_,p1,_⟩:=H.out.thing he;rw [HPv.out] at h1
   cases h1
   obtain ⟨j,hj⟩:∃ y,y=t.id:=⟨_,rfl⟩;rw [←hj] at p1
   have HAt:Hid (R=if j=id then (i:Int) else thK (m.things.drop (i + 1)) id (i + 1)):=hid (by
    rw [←HA.out,drop_cons he,hj]
    rfl)
   clear he hj
   by_cases hst:j=id
   ·have HRi:Hid (R=(i:Int)):=hid (by rw [HAt.out,if_pos hst])
    subst hst
    go_wp2_with fail
    go_ret
    exact ⟨by rw [HRi.out];rfl,rfl⟩
   ·have HRn:Hid (thK (m.things.drop (i + 1)) id (i + 1)=R):=hid (by rw [HAt.out,if_neg hst])
    go_wp2_with fail
    exact ⟨⟨i + 1,by go_num,by omega,trivial,HRn⟩,by simp [intOf];omega⟩
  ·have i1 : ¬ (i:Int) < (n:Int):=by omega
   have HRn:Hid (R = -1):=hid (by
    rw [←HA.out,List.drop_of_length_le (by rw [←HN.out];omega)]
    rfl)
   go_wp2_with fail
   go_ret
   exact ⟨by rw [HRn.out];rfl,rfl⟩
open Classical in
noncomputable def cntL (id:Int) (l:List (List ByteArray × Int)):Nat:=l.countP fun e=>decide (e.2=id)
set_option maxHeartbeats 4000000 in
set_option maxRecDepth 100000 in
theorem mo_links {B:Nat} {c:MC} {m:Mo} {id:Int} (w:World) (h:IsMo w B c m) (hk:MoOk m):Calls Tryz.prog 34 #[.pointer (some ⟨c.g,0,none⟩),.int .i64 id] w fun e w'=>e=.returned (.int .i64 (linksM m id:Nat))∧w'=w:=by
 obtain ⟨R,hR⟩:∃ y,y=linksM m id:=⟨_,rfl⟩;rw [←hR];obtain ⟨n,hn⟩:∃ y,y=m.paths.length:=⟨_,rfl⟩;obtain ⟨_,a,cp,hpv⟩:=h.shape;obtain ⟨_,q1,_⟩:=h.cells;rw [hpv,←hn] at q1
 have n1:(n:Int)≤2199023255552:=by have:=hk.np;omega
 have HR:=hid hR;have HN:=hid hn;have H:=hid h;have HK:=hid hk;have HPv:=hid hpv;obtain ⟨g,hg⟩:∃ y,y=c.g:=⟨_,rfl⟩;rw [←hg] at q1 ⊢;clear hR hn h hk hpv hg
 go_enter Tryz.func34,Tryz.ntmps34
 go_upto_region 3 with fail
 go_loopw [5,6] (fun x5 x6 wr=>∃ b i:Nat,x5=.int .i64 (b:Int)∧x6=.int .i64 (i:Int)∧i≤n∧b≤i∧wr=w∧Hid (b + cntL id (m.paths.drop i)=R)) (fun _ x6 _=>n - (intOf x6).toNat)
 case atStart=>exact ⟨0,0,rfl,rfl,Nat.zero_le _,Nat.le_refl _,rfl,hid (by rw [List.drop_zero,HR.out,Nat.zero_add];rfl)⟩
 case round =>
  obtain ⟨b,i,rfl,rfl,hi,hb,rfl,HA⟩:=hrel
  have i0:(0:Int)≤(i:Int):=by omega
  have b0:(0:Int)≤(b:Int):=by omega
  have b1:(b:Int)≤(i:Int):=by omega
  by_cases hlt:i < n
  ·have i1:(i:Int) < (n:Int):=by omega
   obtain ⟨e,he⟩:∃ e,m.paths[i]? = some e:=⟨_,List.getElem?_eq_getElem (by rw [←HN.out];exact hlt)⟩;obtain ⟨ga,cp2,h1,_,_,p1,p2⟩:=H.out.path he;rw [HPv.out] at h1
   cases h1
   obtain ⟨j,hj⟩:∃ y,y=e.2:=⟨_,rfl⟩;rw [←hj] at p2
   have HAt:Hid (R=b + (if j=id then 1 else 0) + cntL id (m.paths.drop (i + 1))):=hid (by
    rw [←HA.out,drop_cons he,hj];unfold cntL;rw [List.countP_cons]
    by_cases c1:e.2=id
    ·rw [if_pos c1,decide_eq_true c1,if_pos rfl];omega
    ·rw [if_neg c1,decide_eq_false c1,if_neg (by decide)];omega)
   clear he hj
   by_cases hst:j=id
   ·have HRn:Hid (b + 1 + cntL id (m.paths.drop (i + 1))=R):=hid (by rw [HAt.out,if_pos hst])
    subst hst
    go_wp2_with fail
    exact ⟨⟨b + 1,i + 1,by go_num,by go_num,by omega,by omega,trivial,HRn⟩,by simp [intOf];omega⟩
   ·have HRn:Hid (b + cntL id (m.paths.drop (i + 1))=R):=hid (by have e1:=HAt.out;rw [if_neg hst] at e1;omega)
    go_wp2_with fail
    exact ⟨⟨b,i + 1,rfl,by go_num,by omega,by omega,trivial,HRn⟩,by simp [intOf];omega⟩
  ·have i1 : ¬ (i:Int) < (n:Int):=by omega
   have HRn:Hid (R=b):=hid (by
    rw [←HA.out,List.drop_of_length_le (by rw [←HN.out];omega)]
    rfl)
   go_wp2_with fail
   go_ret
   exact ⟨by rw [HRn.out];rfl,rfl⟩
end Go.Proofs.YtmgfilacepnjlaaGreatDoor
