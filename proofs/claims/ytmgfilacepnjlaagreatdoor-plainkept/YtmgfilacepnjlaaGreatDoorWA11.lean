/-
 package plain, as functions: all that is reached.
-/
import Derived.Test.YtmgfilacepnjlaaGreatDoorWA6
namespace Go.Proofs.YtmgfilacepnjlaaGreatDoor
open Go.RowKit

theorem Ed_move {s:PSt} {d1 d2:Int} {n1 n2:ByteArray} {x2 x1':Nd} {k m:Nat} {i:Int} (h2:s.nd d2=some x2) (hN2:NdOk x2) (hf:Free x2.sl k) (b1:(s.put d2 (entN x2 k n2 i)).nd d1=some x1') (hN1:NdOk x1') (b2:x1'.nm n1=some (m:Int)) {d t j}:Ed ((s.put d2 (entN x2 k n2 i)).put d1 (leaN x1' m n1)) d t j↔(if d=d2∧t=n2 then i=j else Ed s d t j)∧¬ (d=d1∧t=n1):=by
 rw [Ed_lea b1 hN1 b2,Ed_ent h2 hN2 hf]
theorem Same.move {s:PSt} {d1 d2:Int} {n1 n2:ByteArray} {x2 x1':Nd} {k m:Nat} {i:Int} (h2:s.nd d2=some x2) (b1:(s.put d2 (entN x2 k n2 i)).nd d1=some x1'):Same s ((s.put d2 (entN x2 k n2 i)).put d1 (leaN x1' m n1)) :=
 (Same.put (y:=entN x2 k n2 i) h2 ⟨rfl,rfl,rfl,rfl⟩).trans (Same.put (y:=leaN x1' m n1) b1 ⟨rfl,rfl,rfl,rfl⟩)
theorem move_all {s:PSt} {d1 d2:Int} {n1 n2:ByteArray} {x1 x2:Nd} {i:Int} (h:Inv s) (h1:s.nd d1=some x1) (h2:s.nd d2=some x2) (k1:x1.kind=2) (k2:x2.kind=2) (f1:findN x1 n1=some i) (f2:findN x2 n2=none) (hp:(placeL s x2).2=0) (hn:NmOk n2) :
  Same s (moveS s d1 d2 n1 n2 x2 i)∧(∀ d t j,Ed (moveS s d1 d2 n1 n2 x2 i) d t j↔(if d=d2∧t=n2 then i=j else Ed s d t j)∧¬ (d=d1∧t=n1))∧∃ X1,(moveS s d1 d2 n1 n2 x2 i).nd d1=some X1∧least0 X1.sl < X1.sl.length:=by
 obtain ⟨x1',m,b1,b2,b3,em,hI⟩:=Inv.moveS h h1 h2 k1 k2 f1 f2 hp hn;have hN1:=InvD.nd h _ x1 h1;have hN2:=InvD.nd h _ x2 h2;have hre:=(Ed.ref h ⟨x1,h1,f1⟩).1;have hN2':NdOk (entN x2 (least0 x2.sl) n2 i):=hN2.ent k2 (find_none f2) (free_least _) (hN2.place hp) hre hn;have hx1':=put_some h1 b1
 have hN1':NdOk x1':=by rw [hx1'];split <;> assumption
 rw [em];refine ⟨Same.move h2 b1,fun d t j=>Ed_move h2 hN2 (free_least _) b1 hN1' b2,leaN x1' m n1,PSt.put_at _ _ _,?_⟩
 show least0 (x1'.sl.set m 0) < (x1'.sl.set m 0).length
 have:∀ (l:List Int) (m:Nat),m < l.length→l.getD m 0=0→least0 l < l.length:=fun l=>by
  induction l with
  | nil=>exact fun m hm _=>absurd hm (Nat.not_lt_zero _)
  | cons y l ih =>
   intro m hm he
   unfold least0
   by_cases c:y=0
   ·rw [if_pos c];simp
   ·rw [if_neg c]
    cases m with
    | zero=>exact absurd he c
    | succ m =>
     have:=ih m (by simpa using hm) he
     simpa using this
 exact this _ m (by rw [List.length_set];exact b3) (set_at b3)
end Go.Proofs.YtmgfilacepnjlaaGreatDoor

namespace Go.Proofs.YtmgfilacepnjlaaGreatDoor
open Go.RowKit

theorem inv2_new {n m:Int} (h:Inv (⟨n - 1 - m,m,fun i=>if i=1 then some (newNd 2 0) else none⟩:PSt)):Inv2 ⟨n - 1 - m,m,fun i=>if i=1 then some (newNd 2 0) else none⟩:=by
 have hnd:∀ i x,(if i=(1:Int) then some (newNd 2 0) else none)=some x→i=1∧x=newNd 2 0:=fun i x hx=>by
  by_cases e:i=1
  ·rw [if_pos e] at hx;cases hx;exact ⟨e,rfl⟩
  ·rw [if_neg e] at hx;cases hx
 refine ⟨h,fun i x hx => ?_,?_,⟨fun _=>0,fun d t j e => ?_⟩⟩
 ·rw [(hnd i x hx).2]
  exact ⟨fun _=>rfl,fun y hy=>absurd rfl hy⟩
 ·have h0:takenN (⟨n - 1 - m,m,fun i=>if i=1 then some (newNd 2 0) else none⟩:PSt)=0:=by
   have e:=taken_new (s:=(⟨n - 1 - m,m,fun _=>none⟩:PSt)) (i:=1) (x':=newNd 2 0) rfl (by omega) (by omega);rw [card_new] at e
   have z:∀ k:Nat,sumN (⟨n - 1 - m,m,fun _=>none⟩:PSt) (fun i=>(⟨n - 1 - m,m,fun _=>none⟩:PSt).nd i≠none) k=0:=fun k=>by
    induction k with
    | zero=>rfl
    | succ k ih=>unfold sumN;rw [ih,if_neg (fun c=>c rfl)]
   have e2:takenN (⟨n - 1 - m,m,fun _=>none⟩:PSt)=0:=z 513;rw [e2] at e
   exact e
  rw [h0]
  exact h.num.1.1
 ·obtain ⟨x,hx,hf⟩:=e
  rw [(hnd d x hx).2] at hf
  cases hf
end Go.Proofs.YtmgfilacepnjlaaGreatDoor

namespace Go.Proofs.YtmgfilacepnjlaaGreatDoor
open Go.RowKit

def SameN (s u:PSt):Prop:=u.data=s.data∧u.ino=s.ino
theorem lose_num (s:PSt) (i:Int) (x:Nd):SameN s (loseS s i x):=lose_data s i x
theorem make_num (s:PSt) (ls:List ByteArray) (kind made:Int):SameN s (makeOp s ls kind made).1:=by
 unfold makeOp
 repeat' split
 all_goals exact ⟨rfl,rfl⟩
theorem link_num (s:PSt) (ls ts:List ByteArray):SameN s (linkOp s ls ts).1:=by
 unfold linkOp
 repeat' split
 all_goals exact ⟨rfl,rfl⟩
theorem move_num (s:PSt) (d1 d2:Int) (n1 n2:ByteArray) (x2:Nd) (i:Int):SameN s (moveS s d1 d2 n1 n2 x2 i):=by
 unfold moveS
 split
 all_goals exact ⟨rfl,rfl⟩
theorem repl_num (s:PSt) (d1 d2:Int) (n1 n2:ByteArray) (x2:Nd) (k2:Nat) (i j:Int):SameN s (replS s d1 d2 n1 n2 x2 k2 i j):=by
 unfold replS
 repeat' split
 all_goals first | exact ⟨rfl,rfl⟩ | exact lose_num ((s.put _ _).put _ _) _ _
theorem rename_num (s:PSt) (ls ts:List ByteArray):SameN s (renameOp s ls ts).1:=by
 unfold renameOp
 repeat' split
 all_goals first | exact ⟨rfl,rfl⟩ | exact repl_num s _ _ _ _ _ _ _ _ | exact move_num s _ _ _ _ _ _
end Go.Proofs.YtmgfilacepnjlaaGreatDoor

namespace Go.Proofs.YtmgfilacepnjlaaGreatDoor
open Go.RowKit

theorem nodup_le {α:Type} [DecidableEq α]:∀ (m l:List α),l.Nodup→(∀ x∈l,x∈m)→l.length≤m.length
 | [],l,_,h=>by
  cases l with
  | nil=>exact Nat.le_refl _
  | cons x l=>exact absurd (h x (List.mem_cons_self ..)) (by simp)
 | y :: m,l,hn,h=>by
  have h1:(l.erase y).Nodup:=hn.erase y
  have h2:=nodup_le m (l.erase y) h1 (fun x hx=>by
   have hx':=(hn.mem_erase_iff).1 hx
   rcases List.mem_cons.1 (h x hx'.2) with e | e
   ·exact absurd e hx'.1
   ·exact e)
  have h3:l.length≤(l.erase y).length + 1:=by
   rw [List.length_erase]
   split <;> omega
  simp only [List.length_cons]
  omega
def lets:List ByteArray:=[⟨#[97]⟩,⟨#[98]⟩,⟨#[99]⟩,⟨#[100]⟩,⟨#[101]⟩,⟨#[102]⟩,⟨#[103]⟩]
def PL (x:Nd):Prop:=∀ t,x.nm t≠none→t∈lets
def AllL (s:PSt):Prop:=∀ i x,s.nd i=some x→PL x
theorem AllL.put {s:PSt} {i:Int} {x:Nd} (h:AllL s) (hx:PL x):AllL (s.put i x):=fun j y hy=>by
 by_cases e:j=i
 ·rw [e,PSt.put_at] at hy;cases hy;exact hx
 ·rw [PSt.put_ne _ _ e] at hy;exact h j y hy
theorem AllL.del {s:PSt} {i:Int} (h:AllL s):AllL (s.del i):=fun j y hy=>by
 by_cases e:j=i
 ·rw [e,PSt.del_at] at hy;cases hy
 ·rw [PSt.del_ne _ e] at hy;exact h j y hy
theorem AllL.lose {s:PSt} {i:Int} {x:Nd} (h:AllL s) (hx:PL x):AllL (loseS s i x):=by
 unfold loseS
 by_cases e:x.links=1
 ·rw [if_pos e];exact h.del
 ·rw [if_neg e];exact h.put hx
theorem PL.ent {x:Nd} {k:Nat} {t:ByteArray} {i:Int} (h:PL x) (ht:t∈lets):PL (entN x k t i):=fun u hu=>by
 have hu:(if u=t then some (k:Int) else x.nm u)≠none:=hu
 by_cases e:u=t
 ·rw [e];exact ht
 ·rw [if_neg e] at hu;exact h u hu
theorem PL.lea {x:Nd} {k:Nat} {t:ByteArray} (h:PL x):PL (leaN x k t):=fun u hu=>by
 have hu:(if u=t then none else x.nm u)≠none:=hu
 by_cases e:u=t
 ·rw [if_pos e] at hu;exact absurd rfl hu
 ·rw [if_neg e] at hu;exact h u hu
theorem PL.old {x:Nd} {k:Nat} {t:ByteArray} {i:Int} (h:PL x) (ht:t∈lets):PL (entO x k t i):=PL.ent (x:=x) (k:=k) (i:=i) h ht
theorem PL.new (kind made:Int):PL (newNd kind made):=fun _ h=>absurd rfl h
theorem make_all {s:PSt} {ls:List ByteArray} {kind made:Int} (h:AllL s) (hn:lastN ls∈lets):AllL (makeOp s ls kind made).1:=by
 unfold makeOp
 split
 ·exact h
 ·split
  ·exact h
  ·next x hx =>
   repeat' split
   all_goals first | exact h | exact (h.put (PL.new _ _)).put ((h _ x hx).ent hn)
theorem link_all {s:PSt} {ls ts:List ByteArray} (h:AllL s) (hn:lastN ts∈lets):AllL (linkOp s ls ts).1:=by
 unfold linkOp
 split
 ·exact h
 ·split
  ·exact h
  ·split
   ·next x y hx hy =>
    repeat' split
    all_goals first | exact h | exact (h.put (x:={ y with links:=y.links + 1 }) (h _ y hy)).put ((h _ x hx).ent hn)
   ·exact h
theorem move_all' {s:PSt} {d1 d2:Int} {n1 n2:ByteArray} {x2:Nd} {i:Int} (h:AllL s) (h2:PL x2) (hn:n2∈lets):AllL (moveS s d1 d2 n1 n2 x2 i):=by
 unfold moveS;have h1:=h.put (i:=d2) (h2.ent (k:=least0 x2.sl) (i:=i) hn)
 split
 ·exact h
 ·next x hx=>exact h1.put (h1 _ x hx).lea
theorem repl_all {s:PSt} {d1 d2:Int} {n1 n2:ByteArray} {x2:Nd} {k2:Nat} {i j:Int} (h:AllL s) (h2:PL x2) (hn:n2∈lets):AllL (replS s d1 d2 n1 n2 x2 k2 i j):=by
 unfold replS;have h1:=h.put (i:=d2) (h2.old (k:=k2) (i:=i) hn)
 split
 ·exact h
 ·next x hx =>
  have h3:=h1.put (i:=d1) (h1 _ x hx).lea (x:=leaN x ((x.nm n1).getD 0).toNat n1)
  split
  ·exact h
  ·next y hy=>exact h3.lose (h3 _ y hy)
theorem rename_all {s:PSt} {ls ts:List ByteArray} (h:AllL s) (hn:lastN ts∈lets):AllL (renameOp s ls ts).1:=by
 unfold renameOp
 split
 ·exact h
 ·split
  ·exact h
  ·split
   ·next x1 x2 h1 h2 =>
    repeat' split
    all_goals first | exact h | exact move_all' h (h _ x2 h2) hn | exact repl_all h (h _ x2 h2) hn
   ·exact h
def TP (ls:List ByteArray):ByteArray:=⟨(pathOf (ls.map (·.data.toList))).toArray⟩
theorem ba_ext {a b:ByteArray} (h:a.data.toList=b.data.toList):a=b:=by
 cases a;cases b
 congr 1
 exact Array.toList_inj.1 h
theorem TP_data (ls:List ByteArray):(TP ls).data.toList=pathOf (ls.map (·.data.toList)):=rfl
theorem ba_app (a b:ByteArray):(a ++ b).data.toList=a.data.toList ++ b.data.toList:=by
 rw [ByteArray.data_append,Array.toList_append]
theorem TP_ne {ls:List ByteArray} (h:ls≠[]) (hn:∀ t∈ls,NmOk t):TP ls≠⟨#[47]⟩:=fun e=>by
 have h1:(TP ls).data.toList.length=1:=by rw [e];rfl
 rw [TP_data,path_len,if_neg (by simpa using h)] at h1
 cases ls with
 | nil=>exact h rfl
 | cons t ls =>
  rw [List.map_cons,sizes_cons] at h1;have:=hn t (List.mem_cons_self ..);unfold NmOk okName at this
  simp only [Bool.and_eq_true,decide_eq_true_eq] at this
  omega
theorem TP_bel {ls:List ByteArray} {n:ByteArray} (hn:∀ t∈ls,NmOk t):belN (TP ls) n=TP (ls ++ [n]):=by
 refine ba_ext ?_;rw [TP_data,List.map_append,List.map_cons,List.map_nil,path_more];unfold belN
 by_cases h:ls=[]
 ·rw [if_pos (by rw [h];rfl),if_pos (by rw [h];rfl),ba_app]
  rfl
 ·rw [if_neg (TP_ne h hn),if_neg (by simpa using h),ba_app,ba_app,TP_data,List.append_assoc]
  rfl
theorem TP_split {ls:List ByteArray} (hn:∀ t∈ls,NmOk t) (hs:sizes (ls.map (·.data.toList))≤400):(splitR (TP ls).data.toList).2=0∧namesOf (TP ls)=ls:=by
 have h:=split_join (ls.map (·.data.toList)) (by
  rw [List.all_eq_true]
  intro x hx
  obtain ⟨t,ht,e⟩:=List.mem_map.1 hx;rw [←e]
  exact hn t ht) hs
 rw [TP_data,h];refine ⟨rfl,?_⟩;unfold namesOf;rw [TP_data,h,List.map_map]
 conv=>rhs;rw [←List.map_id ls]
 exact List.map_congr_left fun t _=>ba_ext rfl
theorem lets_ok:∀ t∈lets,NmOk t∧t.data.toList.length=1:=by
 intro t ht
 simp only [lets,List.mem_cons,List.not_mem_nil,or_false] at ht
 rcases ht with rfl | rfl | rfl | rfl | rfl | rfl | rfl <;> exact ⟨by unfold NmOk;decide,rfl⟩
theorem walk_lets {s:PSt} (h:Inv s) (ha:AllL s):∀ (ls:List ByteArray) (i j:Int),walkL s ls i=(j,0)→∀ t∈ls,t∈lets
 | [],_,_,_,t,ht=>by cases ht
 | n :: l,i,j,e,t,ht=>by
  obtain ⟨k,⟨x,hx,hf⟩,h2⟩:=(walk_iff h).1 e
  rcases List.mem_cons.1 ht with rfl | ht
  ·exact ha i x hx t ((find_iff t).1 (by rw [hf];exact fun c=>by cases c))
  ·exact walk_lets h ha l k j h2 t ht
theorem depth {s:PSt} (h:Inv s) (hr:Rank s) {ls:List ByteArray} {i j:Int} (e:walkL s ls i=(j,0)):(ls.length:Int)≤s.ino:=by
 obtain ⟨r,hr⟩:=hr
 have key:∀ (ls:List ByteArray) (i j:Int),walkL s ls i=(j,0)→∃ vs:List Int,vs.length=ls.length∧vs.Nodup∧∀ v∈vs,r i < r v∧∃ y,s.nd v=some y:=fun ls=>by
  induction ls with
  | nil=>exact fun _ _ _=>⟨[],rfl,List.nodup_nil,fun _ h=>by cases h⟩
  | cons n l ih =>
   intro i j e
   obtain ⟨k,hE,h2⟩:=(walk_iff h).1 e;obtain ⟨vs,h3,h4,h5⟩:=ih k j h2;refine ⟨k :: vs,by rw [List.length_cons,List.length_cons,h3],List.nodup_cons.2 ⟨fun c=>Nat.lt_irrefl _ (h5 k c).1,h4⟩,fun v hv => ?_⟩
   rcases List.mem_cons.1 hv with rfl | hv
   ·exact ⟨hr _ _ _ hE,(Ed.ref h hE).2⟩
   ·exact ⟨Nat.lt_trans (hr _ _ _ hE) (h5 v hv).1,(h5 v hv).2⟩
 obtain ⟨vs,h1,h2,h3⟩:=key ls i j e;have hnum:=h.num
 have:=nodup_le ((List.range s.ino.toNat).map fun n:Nat=>(n:Int) + 1) vs h2 (fun v hv=>by
  obtain ⟨_,y,hy⟩:=h3 v hv;have:=h.rng v y hy
  exact List.mem_map.2 ⟨(v - 1).toNat,List.mem_range.2 (by omega),by omega⟩)
 rw [List.length_map,List.length_range] at this
 omega
theorem sizes_lets:∀ {ls:List ByteArray},(∀ t∈ls,t∈lets)→sizes (ls.map (·.data.toList))=2 * ls.length
 | [],_=>rfl
 | t :: ls,h=>by
  rw [List.map_cons,sizes_cons,sizes_lets (fun u hu=>h u (List.mem_cons_of_mem _ hu)),(lets_ok t (h t (List.mem_cons_self ..))).2,List.length_cons]
  omega
theorem path_ok {s:PSt} (h:Inv2 s) (ha:AllL s) (hi:s.ino≤11) {ls:List ByteArray} {j:Int} (e:walkL s ls 1=(j,0)):(splitR (TP ls).data.toList).2=0∧namesOf (TP ls)=ls∧(∀ t∈ls,t∈lets)∧ls.length≤11:=by
 have h1:=walk_lets h.inv ha ls 1 j e;have h2:=depth h.inv h.rank e;obtain ⟨h3,h4⟩:=TP_split (fun t ht=>(lets_ok t (h1 t ht)).1) (by rw [sizes_lets h1];omega)
 exact ⟨h3,h4,h1,by omega⟩
end Go.Proofs.YtmgfilacepnjlaaGreatDoor

namespace Go.Proofs.YtmgfilacepnjlaaGreatDoor
open Go.RowKit

def nmF (x:Nd):List ByteArray:=lets.filter fun t=>(x.nm t).isSome
theorem nmF_names {x:Nd} (h:PL x):namesL x=(nmF x).map (·.data.toList):=by
 refine namesL_is ⟨?_,fun t => ?_⟩
 ·have h0:(lets.map (·.data.toList)).Pairwise (fun a b=>a≤b∧a≠b):=by decide
  exact List.Pairwise.sublist (List.Sublist.map _ (List.filter_sublist)) h0
 ·constructor
  ·intro ht
   obtain ⟨u,hu,e⟩:=List.mem_map.1 ht;have:=(List.mem_filter.1 hu).2;have e2:(⟨t.toArray⟩:ByteArray)=u:=ba_ext (by rw [←e]);rw [e2]
   intro c
   rw [c] at this
   cases this
  ·intro ht
   refine List.mem_map.2 ⟨⟨t.toArray⟩,List.mem_filter.2 ⟨h _ ht,?_⟩,rfl⟩
   cases hq:x.nm ⟨t.toArray⟩ with
   | none=>exact absurd hq ht
   | some k=>rfl
theorem nmF_len (x:Nd):(nmF x).length≤7:=by
 have:(nmF x).length≤lets.length:=List.length_filter_le _ _
 exact this
theorem nmF_mem {x:Nd} (h:PL x) {t:ByteArray}:t∈nmF x↔findN x t≠none:=by
 rw [find_iff]
 constructor
 ·intro ht c
  have:=(List.mem_filter.1 ht).2;rw [c] at this
  cases this
 ·intro ht
  refine List.mem_filter.2 ⟨h _ ht,?_⟩
  cases hq:x.nm t with
  | none=>exact absurd hq ht
  | some k=>rfl
theorem listS_names {s:PSt} {x:Nd} (h:PL x):(listS s x).map (·.1)=nmF x:=by
 unfold listS;rw [nmF_names h,List.map_map,List.map_map]
 conv=>rhs;rw [←List.map_id (nmF x)]
 exact List.map_congr_left fun t _=>ba_ext rfl
end Go.Proofs.YtmgfilacepnjlaaGreatDoor
