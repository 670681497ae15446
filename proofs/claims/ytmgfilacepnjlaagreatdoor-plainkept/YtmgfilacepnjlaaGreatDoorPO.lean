/-
 package plain: a file or a directory is made.
-/
import Derived.Test.YtmgfilacepnjlaaGreatDoorPB
namespace Go.Proofs.YtmgfilacepnjlaaGreatDoor
open Go.RowKit

set_option maxHeartbeats 2000000 in
set_option maxRecDepth 100000 in
theorem splitO_any (kk:Nat) (path tto:ByteArray) (off len:Int) (da:Option Addr) (dl dc:Nat) (made pick:Int) (w:World) (hu:UB w) (hm:ML w) (h2:kk≤14) (hb1:bits .and .i64 (usedL.getD kk 0) 1=1) (hb2:bits .and .i64 (usedL.getD kk 0) 2=0) (hs:(splitR path.data.toList).2=0) :
  Calls Tryz.prog 20 #[.agg (opA (kk:Nat) path tto off len da dl dc made pick)] w fun e w'=>∃ (a:Option Addr) (ls:List ByteArray),e=.returned (.tuple #[.slice a ls.length ls.length,.slice none 0 0,.int .i64 0])∧datas ls=(splitR path.data.toList).1∧LAt w' a ls∧Chg w w' No:=by
 obtain ⟨w1,hw1⟩:∃ y,y=w.alloc (.cells (opA (kk:Nat) path tto off len da dl dc made pick) 34):=⟨_,rfl⟩
 have hbl:Below w.heap.size w w1:=by rw [hw1];exact (Below.refl _ w).alloc (Nat.le_refl _) _
 have hc1:Chg w w1 No:=by rw [hw1];exact Chg.alloc w _ No
 have hop:w1.heap[w.heap.size]? = some (.cells (opA (kk:Nat) path tto off len da dl dc made pick) 34 (0,0)):=by rw [hw1];exact heap_alloc_new w _
 have hu1:=hu.keep hc1 (fun e=>e);have hSp:=split_any path w1 (hm.below hbl);rw [hs] at hSp
 have HOp:Hid (∀ W,Below w1.heap.size w1 W→W.cell? ⟨w.heap.size,0,none⟩=some (.int .i64 (kk:Nat))∧W.cell? ⟨0,kk,none⟩=some (.int .i64 (usedL.getD kk 0))∧Chg w W No):=hid (fun W hW=>by
  have hC:=Chg.of_below hW No
  exact ⟨(cell_of_row _ _ _ _ _ _ (hC.keep hop (fun e=>e))).trans rfl,(hu1.keep hC (fun e=>e)).2 kk (by omega),hc1.tr hC⟩)
 have q0:w1.cell? ⟨w.heap.size,0,none⟩=some (.int .i64 (kk:Nat)):=(cell_of_row _ _ _ _ _ _ hop).trans rfl;have q1:w1.cell? ⟨w.heap.size,1,none⟩=some (.string path):=(cell_of_row _ _ _ _ _ _ hop).trans rfl;have qu:=hu1.2 kk (by omega);obtain ⟨uk,huk⟩:∃ y,y=usedL.getD kk 0:=⟨_,rfl⟩;rw [←huk] at hb1 hb2 qu HOp
 have k3:(kk:Int)≤14:=by omega
 unfold opA at hw1 ⊢;rw [hw1] at hSp HOp q0 q1 qu;clear hop hc1 hw1 hu hu1 huk hbl hm hs
 go_enter Tryz.func20,Tryz.ntmps20
 go_upto_region 3 with (first
  | (go_at_call 41;go_must (refine hSp.mono ?_;rintro e w2 ⟨a,ls,rfl,hd2,ho2,hb2c⟩;have HD:=hid hd2;have HO:=hid ho2.at;obtain ⟨r0,ru,hcc⟩:=HOp.out w2 hb2c;have HC:=hid hcc;clear hd2 ho2 hb2c hcc q0 q1 qu))
  | fail)
 go_wp2_with fail
 exact bodyPost_ret (results_tmp3 Tryz.results20 _ _ _) rfl ⟨a,ls,rfl,HD.out,HO.out,HC.out⟩
end Go.Proofs.YtmgfilacepnjlaaGreatDoor

namespace Go.Proofs.YtmgfilacepnjlaaGreatDoor
open Go.RowKit

section
variable {w w' w1 w2:World} {c c':NC} {x x':Nd} {q:PC} {s:PSt}
theorem IsN.lt (h:IsN w c x) {k:Nat} (hk:BlkN c k):k < w.heap.size:=by
 rcases hk with rfl | rfl | rfl | e
 ·exact slt h.me
 ·exact h.bl.lt
 ·exact h.nm.lt
 ·obtain ⟨_,A,hA⟩:=h.sl.blk e
  exact slt hA
theorem IsN.keep {ks:Nat→Prop} (h:IsN w c x) (hc:Chg w w' ks) (hn:∀ k,BlkN c k→¬ ks k):IsN w' c x :=
 ⟨hc.keep h.me (hn _ (.inl rfl)),h.bl.keep hc (hn _ (.inr (.inl rfl))),h.sl.keep hc (fun k e=>hn k (.inr (.inr (.inr e)))),h.nm.keep hc (hn _ (.inr (.inr (.inl rfl)))),h.cn,h.ne,h.len,h.dom⟩
theorem IsPl.mapNe (h:IsPl w q s) {i:Int} (hq:q.nc i=some c) {k:Nat} (hk:BlkN c k):k≠q.mb:=by
 obtain ⟨x,_,hN⟩:=h.nd i c hq;obtain ⟨es,cl,hm⟩:=h.mp.isMap
 rcases hk with rfl | rfl | rfl | e
 ·exact obj_ne hN.me hm (by intro e;cases e)
 ·exact (h.mne i c hq).1
 ·exact (h.mne i c hq).2
 ·obtain ⟨_,A,hA⟩:=hN.sl.blk e
  exact obj_ne hA hm (by intro e;cases e)
theorem IsPl.meNe (h:IsPl w q s) {i:Int} (hq:q.nc i=some c) {k:Nat} (hk:BlkN c k):k≠q.p:=by
 obtain ⟨x,_,hN⟩:=h.nd i c hq
 rcases hk with rfl | rfl | rfl | e
 ·exact obj_ne hN.me h.me (by intro e;simp at e)
 ·obtain ⟨es,cl,hm⟩:=hN.bl.isMap
  exact obj_ne hm h.me (by intro e;cases e)
 ·obtain ⟨es,cl,hm⟩:=hN.nm.isMap
  exact obj_ne hm h.me (by intro e;cases e)
 ·obtain ⟨_,A,hA⟩:=hN.sl.blk e
  exact obj_ne hA h.me (by intro e;simp at e)
theorem IsPl.pNe (h:IsPl w q s):q.p≠q.mb:=by
 obtain ⟨es,cl,hm⟩:=h.mp.isMap
 exact obj_ne h.me hm (by intro e;cases e)
def PC.put (q:PC) (i:Int) (c:NC):PC:={ q with nc:=fun j=>if j=i then some c else q.nc j }
def PSt.put (s:PSt) (i:Int) (x:Nd):PSt:={ s with nd:=fun j=>if j=i then some x else s.nd j }
theorem PC.put_at (q:PC) (i:Int) (c:NC):(q.put i c).nc i=some c:=if_pos rfl
theorem PC.put_ne (q:PC) {i j:Int} (c:NC) (h:j≠i):(q.put i c).nc j=q.nc j:=if_neg h
theorem PSt.put_at (s:PSt) (i:Int) (x:Nd):(s.put i x).nd i=some x:=if_pos rfl
theorem PSt.put_ne (s:PSt) {i j:Int} (x:Nd) (h:j≠i):(s.put i x).nd j=s.nd j:=if_neg h
theorem IsPl.with (h:IsPl w q s) {i:Int} (hr:1≤i∧i≤512) (hN:IsN w' c x) (hme:w'.heap[q.p]? = w.heap[q.p]?) (hM:MapV w' q.mb (fun y=>if y=i then some (ptrN c) else (q.nc y).map ptrN))
  (hk:∀ j d y,j≠i→q.nc j=some d→s.nd j=some y→IsN w d y→IsN w' d y) (hap:∀ j d,j≠i→q.nc j=some d→∀ k,BlkN d k→¬ BlkN c k) (hm:c.bb≠q.mb∧c.nb≠q.mb) (hB:c.B=0):IsPl w' (q.put i c) (s.put i x):=by
 refine ⟨?_,?_,?_,?_,?_,?_,?_,?_⟩
 ·show w'.heap[q.p]? = _
  rw [hme]
  exact h.me
 ·refine hM.cong fun y => ?_
  by_cases e:y=i
  ·rw [e,PC.put_at,if_pos rfl];rfl
  ·rw [PC.put_ne q c e,if_neg e]
 ·intro j d hd
  by_cases e:j=i
  ·rw [e,PC.put_at] at hd
   cases hd
   exact ⟨x,by rw [e,PSt.put_at],hN⟩
  ·rw [PC.put_ne q c e] at hd
   obtain ⟨y,h1,h2⟩:=h.nd j d hd
   exact ⟨y,by rw [PSt.put_ne s x e];exact h1,hk j d y e hd h1 h2⟩
 ·intro j hj
  by_cases e:j=i
  ·rw [e,PC.put_at] at hj;cases hj
  ·rw [PC.put_ne q c e] at hj
   rw [PSt.put_ne s x e]
   exact h.dom j hj
 ·intro j hj
  by_cases e:j=i
  ·rw [e];exact hr
  ·rw [PC.put_ne q c e] at hj
   exact h.rng j hj
 ·intro j1 j2 d1 d2 e1 e2 hne k b1 b2
  by_cases a1:j1=i
  ·have a2:j2≠i:=fun e=>hne (a1.trans e.symm)
   rw [a1,PC.put_at] at e1
   cases e1
   rw [PC.put_ne q c a2] at e2
   exact hap j2 d2 a2 e2 k b2 b1
  ·rw [PC.put_ne q c a1] at e1
   by_cases a2:j2=i
   ·rw [a2,PC.put_at] at e2
    cases e2
    exact hap j1 d1 a1 e1 k b1 b2
   ·rw [PC.put_ne q c a2] at e2
    exact h.ap j1 j2 d1 d2 e1 e2 hne k b1 b2
 ·intro j d hd
  by_cases e:j=i
  ·rw [e,PC.put_at] at hd
   cases hd
   exact hm
  ·rw [PC.put_ne q c e] at hd
   exact h.mne j d hd
 ·intro j d hd
  by_cases e:j=i
  ·rw [e,PC.put_at] at hd
   cases hd
   exact hB
  ·rw [PC.put_ne q c e] at hd
   exact h.bs j d hd
theorem IsPl.more (h:IsPl w q s) {i:Int} (hr:1≤i∧i≤512) (hc1:Chg w w1 No) (hN:IsN w1 c x) (hp:w.heap.size≤c.p) (hb:w.heap.size≤c.bb) (hn:w.heap.size≤c.nb) (hv:c.v=.slice none 0 0) (hB:c.B=0)
  (hc2:Chg w1 w2 (· = q.mb)) (hM:MapV w2 q.mb (fun y=>if y=i then some (ptrN c) else (q.nc y).map ptrN)):IsPl w2 (q.put i c) (s.put i x)∧Chg w w2 (· = q.mb):=by
 have hmb:=h.mp.lt
 have hge:∀ k,BlkN c k→w.heap.size≤k:=fun k hk=>by
  rcases hk with rfl | rfl | rfl | e
  ·exact hp
  ·exact hb
  ·exact hn
  ·rw [hv] at e;cases e
 have hC:Chg w w2 (· = q.mb):=hc1.trans hc2 (fun _ _ e=>e.elim) (fun _ _ e=>e);refine ⟨h.with hr (hN.keep hc2 (fun k hk e=>by have:=hge k hk;omega)) (hC.block _ (slt h.me) h.pNe) hM (fun j d y hj hd hy hNd=>hNd.keep hC (fun k hk=>h.mapNe hd hk)) (fun j d hj hd k hk hk2 => ?_) ⟨by omega,by omega⟩ hB,hC⟩;obtain ⟨y,_,hNd⟩:=h.nd j d hd;have:=hNd.lt hk;have:=hge k hk2
 omega
theorem IsPl.turn (h:IsPl w q s) {i:Int} (hq:q.nc i=some c) (hN:IsN w' c' x') (hp:c'.p=c.p) (hb:c'.bb=c.bb) (hn:c'.nb=c.nb) (hB:c'.B=c.B) (hv:c'.v.ownBlock=c.v.ownBlock∨∃ b,c'.v.ownBlock=some b∧w.heap.size≤b) (hc:Chg w w' (BlkN c)):IsPl w' (q.put i c') (s.put i x'):=by
 have hin:∀ k,BlkN c' k→BlkN c k∨w.heap.size≤k:=fun k hk=>by
  rcases hk with e | e | e | e
  ·exact .inl (.inl (e.trans hp))
  ·exact .inl (.inr (.inl (e.trans hb)))
  ·exact .inl (.inr (.inr (.inl (e.trans hn))))
  ·rcases hv with e2 | ⟨b,e2,hb2⟩
   ·rw [e2] at e;exact .inl (.inr (.inr (.inr e)))
   ·rw [e2] at e
    have:=Option.some.inj e
    exact .inr (by omega)
 refine h.with (h.rng i (by rw [hq];intro e;cases e)) hN (hc.block _ (slt h.me) (fun e=>h.meNe hq e rfl)) ((h.mp.keep hc (fun e=>h.mapNe hq e rfl)).cong fun y => ?_) (fun j d y hj hd hy hNd=>hNd.keep hc (fun k hk=>h.ap j i d c hd hq hj k hk)) (fun j d hj hd k hk hk2 => ?_) (by rw [hb,hn];exact h.mne i c hq) (hB.trans (h.bs i c hq))
 ·by_cases e:y=i
  ·rw [e,hq,if_pos rfl]
   show some (ptrN c)=some (ptrN c')
   unfold ptrN;rw [hp]
  ·rw [if_neg e]
 ·rcases hin k hk2 with e | e
  ·exact h.ap j i d c hd hq hj k hk e
  ·obtain ⟨y,_,hNd⟩:=h.nd j d hd
   have:=hNd.lt hk
   omega
end
end Go.Proofs.YtmgfilacepnjlaaGreatDoor

namespace Go.Proofs.YtmgfilacepnjlaaGreatDoor
open Go.RowKit

theorem szAn:(Tryz.prog.info? 43).map (·.size)=some 10:=by kernel_rfl
def ansE (e:Int):Array Value:=#[.int .i64 e,.int .i64 0,.int .i64 0,.int .i64 0,.int .i64 0,.int .i64 0,.int .i64 0,.slice none 0 0,.slice none 0 0,.bool false]
theorem putR_keep {w w':World} {g k:Nat} {c:Array Value} {t:TypeId} {o:Obj} (h:PutR w g c t w') (hk:w.heap[k]? = some o) (hn:k≠g):w'.heap[k]? = some o:=by rw [h.other k hn];exact hk

set_option maxHeartbeats 2000000 in
set_option maxRecDepth 100000 in
theorem makeOne_bad {q:PC} {s:PSt} (ls:List ByteArray) (a:Option Addr) (kind made:Int) (w:World) (h:IsPl w q s) (ho:OkS s) (hl:LAt w a ls) (hb:ls.length≤1000) (hn:∀ x∈ls,x.size≤1000) (hE:lastE s ls≠0) :
  Calls Tryz.prog 21 #[.pointer (some ⟨q.p,0,none⟩),.slice a ls.length ls.length,.int .i64 kind,.int .i64 made] w fun e w'=>e=.returned (.agg (ansE (lastE s ls)))∧Chg w w' No:=by
 obtain ⟨w1,hw1⟩:∃ y,y=w.alloc (.cells (ansE 0) 43):=⟨_,rfl⟩
 have hc1:Chg w w1 No:=by rw [hw1];exact Chg.alloc w _ No
 have HQs:Hid (w1.heap[w.heap.size]? = some (.cells (ansE 0) 43 (0,0))):=hid (by rw [hw1];exact heap_alloc_new w _);have HC1:=hid hc1
 have hl1:LAt w1 a ls:=by
  rcases hl with e | ⟨g,k1,k2,k3⟩
  ·exact .inl e
  ·exact .inr ⟨g,k1,Nat.lt_of_lt_of_le k2 hc1.size,fun j x hj=>by
    have:=k3 j x hj;unfold World.cell? at this ⊢;rw [hc1.block _ k2 (fun e=>e)]
    exact this⟩
 have hW:=wlast_bad ls a w1 (h.call hc1) ho hl1 hb hn hE;obtain ⟨E,hEE⟩:∃ y,y=lastE s ls:=⟨_,rfl⟩;rw [←hEE] at hW hE ⊢;obtain ⟨n,hnn⟩:∃ y,y=ls.length:=⟨_,rfl⟩;rw [←hnn] at hW ⊢;have b1:(E == 0)=false:=beq_eq_false_iff_ne.2 hE;unfold ansE at hw1 HQs ⊢;rw [hw1] at hW HQs HC1;clear h ho hl hl1 hb hn hEE hnn hw1 hc1
 go_enter Tryz.func21,Tryz.ntmps21
 go_wp2_with (first
  | (go_at_call 42;go_must (refine hW.mono ?_;rintro e w2 ⟨rfl,hc2⟩;have HC2:=hid hc2;clear hc2))
  | (refine store_R rfl 95 _ _ rfl w2.heap.size zSpot rfl rfl 95 _ (heap_alloc_new _ _) (by rw [szSp];rfl) rfl (by simp [zSpot,Value.oneCell']) ?_;intro w3 hw3;have HQ3:=hid (putR_keep hw3 ((Chg.alloc w2 _ No).keep (HC2.out.keep HQs.out (fun e=>e)) (fun e=>e)) (by have:=HC2.out.size;simp at this;omega));have HC3:=hid ((HC1.out.tr HC2.out).tr (Chg.alloc w2 (.cells zSpot 95) No) |>.trans (kt_new hw3) (fun _ _ e=>e) (fun j hj e=>by have:=(HC1.out.tr HC2.out).size;omega));clear hw3)
  | (refine store_R rfl 43 _ _ rfl w.heap.size #[.int .i64 E,.int .i64 0,.int .i64 0,.int .i64 0,.int .i64 0,.int .i64 0,.int .i64 0,.slice none 0 0,.slice none 0 0,.bool false] rfl rfl 43 _ HQ3.out (by rw [szAn];rfl) rfl (by simp [Value.oneCell']) ?_;intro w6 hw6)
  | fail)
 exact bodyPost_ret (v:=.agg #[.int .i64 E,.int .i64 0,.int .i64 0,.int .i64 0,.int .i64 0,.int .i64 0,.int .i64 0,.slice none 0 0,.slice none 0 0,.bool false]) (results_R1 Tryz.results21 _ _ w.heap.size _ 43 _ Tryz.underlying43 rfl (by rw [szAn];rfl) rfl hw6.here) rfl ⟨rfl,HC3.out.trans (kt_new hw6) (fun _ _ e=>e) (fun j hj e=>by omega)⟩
end Go.Proofs.YtmgfilacepnjlaaGreatDoor

namespace Go.Proofs.YtmgfilacepnjlaaGreatDoor
open Go.RowKit

section
variable {ops:Array Oper} {Q:Exit→Act→World→Prop} {S:World→Prop} {fuel:Nat} {listed:Array Bool} {a:Act} {w:World}
theorem stPutN (i:Nat) (m x v:Operand) (b:Nat) (f:Int→Option Value) (k:Int) (d:Value) {o:Oper} (hop:ops[i]? = some o) (hd:o.dst=none) (hw:Region.wanted o (yielded ops a.tmps)=true) (ho:o.op=Op.mapUpdate 80 m x v)
  (hm:a.eval m=.map (some b)) (hx:a.eval x=.int .i64 k) (hv:a.eval v=d) (h:MapV w b f) (hk:I64 k) (hf:∃ L:List Int,L.length≤5000∧∀ x,(f x).isSome=true→x∈L)
  (hK:∀ w',MapV w' b (fun y=>if y=k then some d else f y)→Chg w w' (· = b)→w'.heap.size=w.heap.size→S w'∧wpAnyH Tryz.prog .any ops Q S fuel (listed.setIfInBounds i true) a w'):St ops Q S fuel listed a w i:=by
 obtain ⟨w',hrun,r1,r2,r3⟩:=h.storeN hk d hf;have hh:=hK w' r1 r2 r3;refine wpOp_step hop (fun K hK => ?_);rw [if_pos hw];unfold Oper.wp
 simp [execOp,ho,hm,hx,hv,hrun,Result.andThen]
 refine hK _ _ ⟨hh.1,?_⟩;unfold Act.put;rw [hd]
 exact hh.2
end
structure MB (w W:World) (gs:Nat) (r:Array Value):Prop where
 an:W.heap[w.heap.size]? = some (.cells (ansE 0) 43 (0,0))
 sp:W.heap[gs]? = some (.cells r 95 (0,0))
 ge:w.heap.size < gs
theorem MB.keep {w W W':World} {gs:Nat} {r:Array Value} {ks:Nat→Prop} (h:MB w W gs r) (hc:Chg W W' ks) (hn:∀ k,ks k→k < w.heap.size):MB w W' gs r :=
 ⟨hc.keep h.an (fun e=>Nat.lt_irrefl _ (hn _ e)),hc.keep h.sp (fun e=>by have:=hn _ e;have:=h.ge;omega),h.ge⟩
theorem MB.c0 {w W:World} {gs:Nat} {u v:Value} (h:MB w W gs #[u,v]):W.cell? ⟨gs,0,none⟩=some u:=(cell_of_row _ _ _ _ _ _ h.sp).trans rfl
theorem MB.c1 {w W:World} {gs:Nat} {u v:Value} (h:MB w W gs #[u,v]):W.cell? ⟨gs,1,none⟩=some v:=(cell_of_row _ _ _ _ _ _ h.sp).trans rfl
noncomputable def ansS (i:Int) (x:Nd):Array Value:=#[.int .i64 0,.int .i64 i,.int .i64 x.kind,.int .i64 x.links,.int .i64 (lenN x),.int .i64 x.made,.int .i64 (cardN x:Nat),.slice none 0 0,.slice none 0 0,.bool false]
def makeS (s:PSt) (d:Int) (x:Nd) (k:Nat) (nm:ByteArray) (fi kind made:Int):PSt:=(s.put fi (newNd kind made)).put d (entN x k nm fi)
theorem IsPl.small {w:World} {q:PC} {s:PSt} (h:IsPl w q s):∃ L:List Int,L.length≤5000∧∀ x,((q.nc x).map ptrN).isSome=true→x∈L:=by
 refine ⟨(List.range 513).map (fun i:Nat=>(i:Int)),by simp,fun x hx => ?_⟩;rw [h.some_iff] at hx;have:=h.rg hx
 exact List.mem_map.2 ⟨x.toNat,List.mem_range.2 (by omega),by omega⟩

theorem IsPl.putR {w w':World} {q:PC} {s:PSt} {g:Nat} {r o:Array Value} (h:IsPl w q s) (hp:PutR w g r 43 w') (hg:w.heap[g]? = some (.cells o 43 (0,0))):IsPl w' q s:=by
 have hc:=kt_new hp;have n1:q.p≠g:=obj_ne h.me hg (by intro e;simp at e)
 have n2:q.mb≠g:=by obtain ⟨es,cl,hm⟩:=h.mp.isMap;exact obj_ne hm hg (by intro e;cases e)
 refine ⟨hc.keep h.me n1,h.mp.keep hc n2,fun i c e => ?_,h.dom,h.rng,h.ap,h.mne,h.bs⟩;obtain ⟨x,h1,h2⟩:=h.nd i c e;refine ⟨x,h1,h2.keep hc (fun k hk e => ?_)⟩;subst e
 rcases hk with rfl | rfl | rfl | e
 ·exact obj_ne h2.me hg (by intro e;simp at e) rfl
 ·obtain ⟨es,cl,hm⟩:=h2.bl.isMap
  exact obj_ne hm hg (by intro e;cases e) rfl
 ·obtain ⟨es,cl,hm⟩:=h2.nm.isMap
  exact obj_ne hm hg (by intro e;cases e) rfl
 ·obtain ⟨_,A,hA⟩:=h2.sl.blk e
  exact obj_ne hA hg (by intro e;simp at e) rfl

set_option maxHeartbeats 4000000 in
set_option maxRecDepth 100000 in
theorem makeOne_good {q:PC} {s:PSt} {c:NC} {x:Nd} (ls:List ByteArray) (a:Option Addr) (kind made:Int) (k:Nat) (w:World) (h:IsPl w q s) (ho:OkS s) (hl:LAt w a ls) (hb:ls.length≤1000) (hn:∀ x∈ls,x.size≤1000) (hE:lastE s ls=0) (hqc:q.nc (lastD s ls)=some c) (hsx:s.nd (lastD s ls)=some x)
  (hns:(lastN ls).size≤1000) (hfd:findN x (lastN ls)=none) (hln:(nodesN s:Int)≠s.ino) (hpl:placeL s x=((k:Int),0)) (hk:k≤x.sl.length) (hk2:k < 1068) (hcn:x.cnt < 5000) (hf1:1≤freeI s) (hf2:freeI s≤512) (hfr:s.nd (freeI s:Nat)=none) :
  Calls Tryz.prog 21 #[.pointer (some ⟨q.p,0,none⟩),.slice a ls.length ls.length,.int .i64 kind,.int .i64 made] w fun e w'=>(∃ q',e=.returned (.agg (ansS (freeI s:Nat) (newNd kind made)))∧IsPl w' q' (makeS s (lastD s ls) x k (lastN ls) (freeI s:Nat) kind made)∧q'.p=q.p∧∀ c2,q'.nc (freeI s:Nat)=some c2→∀ k,BlkN c2 k→w.heap.size≤k)∧Chg w w' (fun j=>j=q.mb∨BlkN c j):=by
 obtain ⟨w1,hw1⟩:∃ y,y=w.alloc (.cells (ansE 0) 43):=⟨_,rfl⟩
 have hc1:Chg w w1 No:=by rw [hw1];exact Chg.alloc w _ No
 have hs1:w1.heap.size=w.heap.size + 1:=by rw [hw1];simp
 have HQs:Hid (w1.heap[w.heap.size]? = some (.cells (ansE 0) 43 (0,0))):=hid (by rw [hw1];exact heap_alloc_new w _);have HC1:=hid hc1
 have hl1:LAt w1 a ls:=by
  rcases hl with e | ⟨g,k1,k2,k3⟩
  ·exact .inl e
  ·exact .inr ⟨g,k1,Nat.lt_of_lt_of_le k2 hc1.size,fun j x hj=>by
    have:=k3 j x hj;unfold World.cell? at this ⊢;rw [hc1.block _ k2 (fun e=>e)]
    exact this⟩
 have hN:IsN w c x:=by
  obtain ⟨x',h1,h2⟩:=h.nd _ c hqc;rw [hsx] at h1
  cases h1
  exact h2
 have hW:=wlast_good ls a w1 (h.call hc1) ho hl1 hb hn hE hqc
 have hfi:q.nc (freeI s:Nat)=none:=by
  cases hq:q.nc (freeI s:Nat) with
  | none=>rfl
  | some c' =>
   obtain ⟨x',h1,_⟩:=h.nd _ c' hq;rw [hfr] at h1
   cases h1
 have hdf : ¬ lastD s ls=(freeI s:Nat):=fun e=>by rw [e,hfi] at hqc;cases hqc
 have HP:=hid h;have HN:=hid hN
 have HFd:Hid (∀ W,Chg w W No→Calls Tryz.prog 43 #[.agg #[.pointer (some ⟨c.p,0,none⟩),.string (lastN ls)]] W fun e w'=>e=.returned (.tuple #[.int .i64 0,.bool false])∧Chg W w' No):=hid (fun W hW=>by
  have:=spotfind_any (lastN ls) W (hN.call hW) hns (fun k hk=>by have:=ho.nm _ x _ k hsx hk;exact ⟨this.1,this.2.1⟩);rw [hfd] at this
  exact this)
 have HPl:Hid (∀ W,Chg w W No→Calls Tryz.prog 44 #[.pointer (some ⟨q.p,0,none⟩),.pointer (some ⟨c.p,0,none⟩)] W fun e w'=>e=.returned (.tuple #[.int .i64 (k:Int),.int .i64 0])∧Chg W w' No):=hid (fun W hW=>by
  have:=place_any W (h.call hW) (hN.call hW);rw [hpl] at this
  exact this)
 have HFr:Hid (∀ W,Chg w W No→Calls Tryz.prog 45 #[.pointer (some ⟨q.p,0,none⟩)] W fun e w'=>e=.returned (.int .i64 (freeI s:Nat))∧w'=W):=hid (fun W hW=>freeInode_any W (h.call hW));have HLen:Hid (∀ (W:World),Chg w W No→∀ (o:Oper) (a:Act) (x:Operand),o.op=Op.call { callee:=Callee.builtin Builtin.len,args:=#[x],argTypes:=#[80] }→a.eval x=.map (some q.mb)→(execOp a.eval o).run Tryz.prog W=.ok (.value (.int .i64 (nodesN s:Nat))) W):=hid (fun W hW o a x hop hm=>len_runN x hop hm (h.call hW));have HQ1:Hid (∀ W,Chg w W No→W.cell? ⟨q.p,1,none⟩=some (.int .i64 s.ino)):=hid (fun W hW=>(h.call hW).c1);have HQ2:Hid (∀ W,Chg w W (· = q.mb)→W.cell? ⟨q.p,2,none⟩=some (.map (some q.mb))):=hid (fun W hW=>(cell_of_row _ _ _ _ _ _ (hW.keep h.me h.pNe)).trans rfl);have HLt:Hid (q.mb < w.heap.size∧∀ j,BlkN c j→j < w.heap.size):=hid ⟨h.mp.lt,fun j hj=>hN.lt hj⟩;obtain ⟨D,hD⟩:∃ y,y=lastD s ls:=⟨_,rfl⟩;obtain ⟨nm,hnm⟩:∃ y,y=lastN ls:=⟨_,rfl⟩;obtain ⟨fi,hfi0⟩:∃ y,y=freeI s:=⟨_,rfl⟩;obtain ⟨nn,hnn0⟩:∃ y,y=nodesN s:=⟨_,rfl⟩;obtain ⟨im,him⟩:∃ y,y=s.ino:=⟨_,rfl⟩;rw [←hD] at hqc hsx hdf;rw [←hnm] at hW hns HFd;rw [←hfi0] at hf1 hf2 hfr hfi hdf HFr;rw [←hnn0] at hln HLen;rw [←him] at hln HQ1;rw [←hD,←hnm,←hfi0];have HQc:=hid hqc;have HSx:=hid hsx;have HFi:=hid hfi;have HDf:=hid hdf;obtain ⟨n,hnn⟩:∃ y,y=ls.length:=⟨_,rfl⟩;rw [←hnn] at hW ⊢;have b1:((nn:Int) == im)=false:=beq_eq_false_iff_ne.2 hln;have b2:decide ((nn:Int)=im)=false:=decide_eq_false hln;have hI:I64 (fi:Int):=⟨by omega,by omega⟩;have HR:Hid (1≤(fi:Int)∧(fi:Int)≤512):=hid ⟨by omega,by omega⟩;obtain ⟨AN,hAN⟩:∃ y,y=ansS (fi:Nat) (newNd kind made):=⟨_,rfl⟩;rw [←hAN];have HAN:=hid hAN;clear hAN;unfold ansE at hw1;have HS1:=hid hs1;rw [hw1] at hW HQs HC1 HS1;clear h ho hl hl1 hb hn hE hqc hsx hfd hpl hfr hfi hdf hD hnm hfi0 hnn0 him hnn hw1 hc1 hs1 hN hf1 hf2
 go_enter Tryz.func21,Tryz.ntmps21
 go_upto_region 4 with (first
  | (go_at_call 42;go_must (refine hW.mono ?_;rintro e w2 ⟨rfl,hc2⟩;have HC2:=hid hc2;clear hc2))
  | (refine store_R rfl 95 _ _ rfl w2.heap.size #[.pointer (some ⟨c.p,0,none⟩),.string nm] rfl rfl 95 _ (heap_alloc_new _ _) (by rw [szSp];rfl) rfl (by simp [Value.oneCell']) ?_;intro w3 hw3;have HMB:Hid (MB w w3 w2.heap.size #[.pointer (some ⟨c.p,0,none⟩),.string nm]):=hid ⟨putR_keep hw3 ((Chg.alloc w2 _ No).keep (HC2.out.keep HQs.out (fun e=>e)) (fun e=>e)) (by have:=HC2.out.size;have:=HS1.out;omega),hw3.here,by have:=HC2.out.size;have:=HS1.out;omega⟩;have HC3:Hid (Chg w w3 No):=hid ((HC1.out.tr HC2.out).tr (Chg.alloc w2 (.cells #[.pointer none,.string ⟨#[]⟩] 95) No) |>.trans (kt_new hw3) (fun _ _ e=>e) (fun j hj e=>by have:=(HC1.out.tr HC2.out).size;omega));clear hw3)
  | fail)
 obtain ⟨gs,hgs⟩:∃ y,y=w2.heap.size:=⟨_,rfl⟩;rw [←hgs] at HMB ⊢;clear hgs HC2 HC1 HQs HS1 hW;have hF:=HFd.out w3 HC3.out
 go_upto_region 7 with (first
  | (refine load_R rfl 95 _ rfl gs rfl 95 #[.pointer (some ⟨c.p,0,none⟩),.string nm] _ HMB.out.sp Tryz.underlying95 rfl (by rw [szSp];rfl) ?_)
  | (go_at_call 43;go_must (refine hF.mono ?_;rintro e w4 ⟨rfl,hc4⟩;have HC4:=hid (HC3.out.tr hc4);have HM4:=hid (HMB.out.keep hc4 (fun _ e=>e.elim));clear hc4))
  | fail)
 clear hF HC3 HMB HFd;refine wp_region_noPanic ?_;refine wp_region_held_drew (S:=fun w'=>w'=w4.drew) (by kernel_rfl) rfl (fun hH => ?_);have HC5:Hid (Chg w w4.drew No):=hid HC4.out.drew;refine tV 0 32 (.pointer (some ⟨q.p,0,none⟩)) rfl (by kernel_rfl) rfl (by rfl) hH (fun W' hw'=>rfl) ?_;simp only [sS];refine tV 1 33 (.pointer (some ⟨q.p,0,none⟩)) rfl (by kernel_rfl) rfl (by rfl) hH (fun W' hw'=>by go_simp) ?_;simp only [sS];refine tV 2 34 (.pointer (some ⟨q.p,2,none⟩)) rfl (by kernel_rfl) rfl (by rfl) hH (fun W' hw'=>by go_simp) ?_;simp only [sS];refine tV 3 35 (.map (some q.mb)) rfl (by kernel_rfl) rfl (by rfl) hH (fun W' hw'=>by subst hw';have hc:=HQ2.out _ (HC5.out.mono fun _ _ e=>e.elim);go_simp) ?_;simp only [sS];refine tV 4 36 (.int .i64 (nn:Nat)) rfl (by kernel_rfl) rfl (by rfl) hH (fun W' hw'=>by subst hw';exact HLen.out _ HC5.out _ _ (.tmp 35) rfl rfl) ?_;simp only [sS];refine tV 5 37 (.pointer (some ⟨q.p,0,none⟩)) rfl (by kernel_rfl) rfl (by rfl) hH (fun W' hw'=>rfl) ?_;simp only [sS];refine tV 6 38 (.pointer (some ⟨q.p,0,none⟩)) rfl (by kernel_rfl) rfl (by rfl) hH (fun W' hw'=>by go_simp) ?_;simp only [sS];refine tV 7 39 (.pointer (some ⟨q.p,1,none⟩)) rfl (by kernel_rfl) rfl (by rfl) hH (fun W' hw'=>by go_simp) ?_;simp only [sS];refine tV 8 40 (.int .i64 im) rfl (by kernel_rfl) rfl (by rfl) hH (fun W' hw'=>by subst hw';have hc:=HQ1.out _ HC5.out;go_simp) ?_;simp only [sS];refine tV 9 41 (.bool false) rfl (by kernel_rfl) rfl (by rfl) hH (fun W' hw'=>by go_simp) ?_;simp only [sS];refine wpAnyH_done (by kernel_rfl) ?_ _;refine NoPanic.normal ?_;have HM5:Hid (MB w w4.drew gs #[.pointer (some ⟨c.p,0,none⟩),.string nm]):=hid (HM4.out.keep (Chg.refl w4 No).drew (fun _ e=>e.elim));clear hH HC4 HM4 HLen HQ1 b1 b2;obtain ⟨w5,hw5⟩:∃ y,y=w4.drew:=⟨_,rfl⟩;rw [←hw5] at HC5 HM5 ⊢;clear hw5;have q0:=HM5.out.c0;have hP:=HPl.out w5 HC5.out
 go_upto_region 13 with (first
  | (go_at_call 44;go_must (refine hP.mono ?_;rintro e w6 ⟨rfl,hc6⟩;have HC6:=hid (HC5.out.tr hc6);have HM6:=hid (HM5.out.keep hc6 (fun _ e=>e.elim));clear hc6;have hF:=HFr.out w6 HC6.out))
  | (go_at_call 45;go_must (refine hF.mono ?_;rintro e w7 ⟨rfl,rfl⟩))
  | fail)
 clear hP q0 HC5 HM5 HPl HFr hF;refine wp_region_noPanic ?_;refine wp_region_held_drew (S:=fun w'=>Chg w w' (· = q.mb)) (by kernel_rfl) ((HC6.out.mono fun _ _ e=>e.elim).drew) (fun hH => ?_);have HC7:Hid (Chg w w7.drew No):=hid HC6.out.drew;have HM7:Hid (MB w w7.drew gs #[.pointer (some ⟨c.p,0,none⟩),.string nm]):=hid (HM6.out.keep (Chg.refl w7 No).drew (fun _ e=>e.elim));refine tV 0 56 (.pointer (some ⟨q.p,0,none⟩)) rfl (by kernel_rfl) rfl (by rfl) hH (fun W' hw'=>rfl) ?_;simp only [sS];refine tV 1 57 (.pointer (some ⟨q.p,0,none⟩)) rfl (by kernel_rfl) rfl (by rfl) hH (fun W' hw'=>by go_simp) ?_;simp only [sS];refine tV 2 58 (.pointer (some ⟨q.p,2,none⟩)) rfl (by kernel_rfl) rfl (by rfl) hH (fun W' hw'=>by go_simp) ?_;simp only [sS];refine tV 3 59 (.map (some q.mb)) rfl (by kernel_rfl) rfl (by rfl) hH (fun W' hw'=>by have hc:=HQ2.out W' hw';go_simp) ?_;simp only [sS];refine tV 4 60 (.int .i64 (fi:Nat)) rfl (by kernel_rfl) rfl (by rfl) hH (fun W' hw'=>rfl) ?_;simp only [sS];refine tV 5 61 (.int .i64 kind) rfl (by kernel_rfl) rfl (by rfl) hH (fun W' hw'=>rfl) ?_;simp only [sS];refine tV 6 62 (.int .i64 made) rfl (by kernel_rfl) rfl (by rfl) hH (fun W' hw'=>rfl) ?_;simp only [sS];refine step1 7 (by kernel_rfl) ?_;refine stCall 7 63 39 #[.int .i64 kind,.int .i64 made] _ rfl rfl (by rfl) (by go_simp) (newNode_any kind made _) ?_
 rintro e w8 ⟨c',rfl,hN8,hc8,p1,p2,p3,p4,p5⟩
 have hn8:Chg w w8 No:=HC7.out.tr hc8
 have hH8:Chg w w8 (· = q.mb):=hn8.mono fun _ _ e=>e.elim
 refine ⟨_,rfl,hH8,?_⟩;simp only [sS];refine step1 8 (by kernel_rfl) ?_;refine stPutN 8 (.tmp 59) (.tmp 60) (.tmp 63) q.mb (fun y=>(q.nc y).map ptrN) (fi:Int) (.pointer (some ⟨c'.p,0,none⟩)) rfl rfl (by rfl) rfl rfl rfl rfl (HP.out.call hn8).mp hI HP.out.small ?_
 intro w9 hm9 hc9 hz9
 have hH9:Chg w w9 (· = q.mb):=hH8.trans hc9 (fun _ _ e=>e) (fun _ _ e=>e);refine ⟨hH9,?_⟩;refine wpAnyH_done (by kernel_rfl) ?_ _;refine NoPanic.normal ?_;have hI7:=HP.out.call HC7.out;obtain ⟨hP9,_⟩:=hI7.more HR.out hc8 hN8 p1 p2 p3 p4 p5 hc9 hm9;have HP9:=hid hP9
 have HBl:Hid (∀ k,BlkN c' k→w.heap.size≤k):=hid (fun k hk=>by
  have z7:=HC7.out.size
  rcases hk with e | e | e | e
  ·rw [e];omega
  ·rw [e];omega
  ·rw [e];omega
  ·rw [p4] at e;cases e)
 have HC9:=hid hH9;have HM9:=hid ((HM7.out.keep hc8 (fun _ e=>e.elim)).keep hc9 (fun k e=>by rw [e];exact HLt.out.1));have hne : ¬ D=(fi:Int):=HDf.out
 have hq9:(q.put (fi:Int) c').nc D=some c:=by rw [PC.put_ne q c' hne];exact HQc.out
 have hN9:IsN w9 c x:=by
  obtain ⟨y,h1,h2⟩:=HP9.out.nd D c hq9;rw [PSt.put_ne s _ hne,HSx.out] at h1
  cases h1
  exact h2
 have hEn:=enter_any k nm (fi:Int) w9 hN9 hk hk2 hcn hns (by rw [HP9.out.bs D c hq9];omega);have HQ9:=hid hq9;have q0:=HM9.out.c0;have q1:=HM9.out.c1;clear hH hn8 hH8 hH9 hI7 hP9 hc8 hc9 hm9 hz9 hN8 p1 p2 p3 p4 p5 HC7 HM7 HC6 HM6 HQ2 hne hq9 hN9
 go_upto_region 15 with (first
  | (go_at_call 46;go_must (refine hEn.mono ?_;rintro e w10 ⟨rfl,hE10,hc10⟩;have HE10:=hid hE10;have HC10:=hid hc10;clear hE10 hc10))
  | fail)
 obtain ⟨v',hN10,ho10⟩:=HE10.out;have hP10:=HP9.out.turn HQ9.out hN10 rfl rfl rfl rfl ho10 HC10.out;have HP10:=hid hP10;have HQ10:Hid (((q.put (fi:Int) c').put D { c with v:=v' }).nc (fi:Int)=some c'):=hid (by rw [PC.put_ne _ _ (fun e=>HDf.out e.symm),PC.put_at])
 have hq10:((q.put (fi:Int) c').put D { c with v:=v' }).nc (fi:Int)=some c':=by rw [PC.put_ne _ _ (fun e=>HDf.out e.symm),PC.put_at]
 have hs10:((s.put (fi:Int) (newNd kind made)).put D (entN x k nm (fi:Int))).nd (fi:Int)=some (newNd kind made):=by rw [PSt.put_ne _ _ (fun e=>HDf.out e.symm),PSt.put_at]
 have hSt:=stat_any (fi:Int) w10 hP10 hq10 hs10;have HM10:=hid (HM9.out.keep HC10.out HLt.out.2);have HCf:Hid (Chg w w10 (fun j=>j=q.mb∨BlkN c j)):=hid (HC9.out.trans HC10.out (fun _ _ e=>.inl e) (fun _ _ e=>.inr e));unfold statA at hSt;obtain ⟨z1,hz1⟩:∃ y,y=(newNd kind made).kind:=⟨_,rfl⟩;obtain ⟨z2,hz2⟩:∃ y,y=(newNd kind made).links:=⟨_,rfl⟩;obtain ⟨z3,hz3⟩:∃ y,y=lenN (newNd kind made):=⟨_,rfl⟩;obtain ⟨z4,hz4⟩:∃ y,y=(newNd kind made).made:=⟨_,rfl⟩;obtain ⟨z5,hz5⟩:∃ y,y=cardN (newNd kind made):=⟨_,rfl⟩;rw [←hz1,←hz2,←hz3,←hz4,←hz5] at hSt;have HRow:Hid (#[.int .i64 0,.int .i64 (fi:Int),.int .i64 z1,.int .i64 z2,.int .i64 z3,.int .i64 z4,.int .i64 (z5:Nat),.slice none 0 0,.slice none 0 0,.bool false]=AN):=hid (by rw [HAN.out,hz1,hz2,hz3,hz4,hz5];rfl);clear hP10 hq10 hs10 hz1 hz2 hz3 hz4 hz5 hN10 ho10 HE10 hEn q0 q1 HM9
 go_wp2_with (first
  | (go_at_call 47;go_must (refine hSt.mono ?_;rintro e w11 ⟨rfl,hc11⟩;have HM11:=hid (HM10.out.keep hc11 (fun _ e=>e.elim));have HC11:=hid (HCf.out.trans hc11 (fun _ _ e=>e) (fun _ _ e=>e.elim));have HP11:=hid (HP10.out.call hc11);clear hc11))
  | (refine store_R rfl 43 _ _ rfl w.heap.size #[.int .i64 0,.int .i64 (fi:Int),.int .i64 z1,.int .i64 z2,.int .i64 z3,.int .i64 z4,.int .i64 (z5:Nat),.slice none 0 0,.slice none 0 0,.bool false] rfl rfl 43 _ HM11.out.an (by rw [szAn];rfl) rfl (by simp [Value.oneCell']) ?_;intro w12 hw12)
  | fail)
 have hH12:=hw12.here;rw [HRow.out] at hH12
 have hsz:(Tryz.prog.info? 43).map (·.size)=some AN.size:=by rw [szAn,←HRow.out];rfl
 have hx12:Chg w w12 (fun j=>j=q.mb∨BlkN c j):=HC11.out.trans (kt_new hw12) (fun _ _ e=>e) (fun j hj e=>by omega);have hP12:IsPl w12 ((q.put (fi:Int) c').put D { c with v:=v' }) (makeS s D x k nm (fi:Int) kind made):=HP11.out.putR hw12 HM11.out.an
 exact bodyPost_ret (v:=.agg AN) (results_R1 Tryz.results21 _ _ w.heap.size _ 43 _ Tryz.underlying43 rfl hsz rfl hH12) rfl ⟨⟨_,rfl,hP12,rfl,fun c2 e2 k hk=>by rw [HQ10.out] at e2;cases e2;exact HBl.out k hk⟩,hx12⟩
end Go.Proofs.YtmgfilacepnjlaaGreatDoor
