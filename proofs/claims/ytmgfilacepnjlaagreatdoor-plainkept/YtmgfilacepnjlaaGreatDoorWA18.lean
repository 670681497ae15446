/-
 package plain, as functions: linked, taken away.
-/
import Derived.Test.YtmgfilacepnjlaaGreatDoorWA16
namespace Go.Proofs.YtmgfilacepnjlaaGreatDoor
open Go.RowKit

theorem Z1.same {x y:Nd} (h:Z1 x) (hb:y.blk=x.blk) (hs:y.size=x.size):Z1 y:=by
 have e:rowsN y=rowsN x:=by funext b;exact rows_eq (by rw [hb])
 unfold Z1;rw [e,hs]
 exact h
theorem Cont.same {x y:Nd} {bs:List Int} (h:Cont x bs) (hb:y.blk=x.blk) (hs:y.size=x.size):Cont y bs:=by
 have e:rowsN y=rowsN x:=by funext b;exact rows_eq (by rw [hb])
 unfold Cont;rw [e,hs]
 exact h
theorem AllZ.del {s:PSt} {i:Int} (h:AllZ s):AllZ (s.del i):=fun j y hy=>by
 by_cases e:j=i
 ·rw [e,PSt.del_at] at hy;cases hy
 ·rw [PSt.del_ne _ e] at hy;exact h j y hy
theorem AllZ.lose {s:PSt} {i:Int} {x:Nd} (h:AllZ s) (hx:Z1 x):AllZ (loseS s i x):=by
 unfold loseS
 by_cases e:x.links=1
 ·rw [if_pos e];exact h.del
 ·rw [if_neg e];exact h.put (hx.same rfl rfl)
theorem Rel.trans {m m':Mo} {s u:PSt} (h:Rel m s) (hi:Inv2 u) (ha:AllL u) (hz:AllZ u) (hin:u.ino=s.ino) (hlen:m'.things.length=m.things.length) (hids:∀ (k:Nat) t,m'.things[k]? = some t→t.id=(k:Int) + 1) (hnx:m'.next=m.next) (hnd:(m'.paths.map (·.1)).Nodup)
  (src:∀ e'∈m'.paths,e'.1≠[]∧∃ e∈m.paths,e.2=e'.2∧∃ j,walkL s e.1 1=(j,0)∧walkL u e'.1 1=(j,0)) (has:∀ ls j,ls≠[]→walkL u ls 1=(j,0)→∃ id,(ls,id)∈m'.paths)
  (node:∀ e∈m.paths,(∃ e'∈m'.paths,e'.2=e.2)→∀ j y t y',walkL s e.1 1=(j,0)→s.nd j=some y→u.nd j=some y'→m.things[(e.2 - 1).toNat]? = some t→(t.dir=true↔y.kind=2)→t.made=y.made→(y.kind=1→Cont y t.bytes)→(linksM m e.2:Int)=y.links→∃ t',m'.things[(e.2 - 1).toNat]? = some t'∧(t'.dir=true↔y'.kind=2)∧t'.made=y'.made∧(y'.kind=1→Cont y' t'.bytes)∧(linksM m' e.2:Int)=y'.links):Rel m' u:=by
 refine ⟨hi,ha,hz,by rw [hin];exact h.ino,by rw [hnx,h.nx,hlen],hids,hnd,fun e' he' => ?_,has,fun e1 h1 e2 h2 j1 j2 w1 w2 => ?_,fun e' he' j y' hj hy' => ?_⟩
 ·obtain ⟨hne,e,he,e1,j,_,w2⟩:=src e' he'
  have:=(h.ok e he).2.1;rw [e1] at this
  exact ⟨hne,by rw [hnx];exact this,j,w2⟩
 ·obtain ⟨_,a1,b1,c1,k1,v1,u1⟩:=src e1 h1
  obtain ⟨_,a2,b2,c2,k2,v2,u2⟩:=src e2 h2;rw [u1] at w1;rw [u2] at w2;rw [←c1,←c2,←(Prod.mk.inj w1).1,←(Prod.mk.inj w2).1]
  exact h.same a1 b1 a2 b2 k1 k2 v1 v2
 ·obtain ⟨_,e,he,e1,k,w1,w2⟩:=src e' he'
  rw [w2] at hj;have ek:=(Prod.mk.inj hj).1;subst ek;obtain ⟨y,hy⟩:=Inv.walk h.inv.inv (ls:=e.1) (by rw [w1]);rw [w1] at hy;obtain ⟨t,t1,t2,t3,t4,t5⟩:=h.th e he k y w1 hy;obtain ⟨t',r1,r2⟩:=node e he ⟨e',he',e1.symm⟩ k y t y' w1 hy hy' t1 t2 t3 t4 t5;rw [e1] at r1 r2
  exact ⟨t',r1,r2⟩
theorem fst_in {l:List (List ByteArray × Int)} {ls:List ByteArray}:ls∈l.map (·.1)↔∃ id,(ls,id)∈l:=by
 constructor
 ·intro h
  obtain ⟨e,he,rfl⟩:=List.mem_map.1 h
  exact ⟨e.2,he⟩
 ·rintro ⟨id,h⟩
  exact List.mem_map.2 ⟨_,h,rfl⟩
theorem make_ok {s:PSt} {ls:List ByteArray} {kind made:Int} (hc:codeA (makeOp s ls kind made).2=0):∃ x,lastE s ls=0∧s.nd (lastD s ls)=some x∧x.kind=2∧findN x (lastN ls)=none∧(nodesN s:Int)≠s.ino∧(placeL s x).2=0∧(makeOp s ls kind made).1=makeS s (lastD s ls) x (least0 x.sl) (lastN ls) (freeI s:Nat) kind made:=by
 obtain ⟨R,hR⟩:∃ R,R=makeOp s ls kind made:=⟨_,rfl⟩;rw [←hR] at hc ⊢;unfold makeOp at hR
 by_cases e:lastE s ls=0
 ·rw [if_neg (fun c=>c e)] at hR
  obtain ⟨x,hx,hx2⟩:=lastE_dir e;rw [hx] at hR
  simp only at hR
  cases hf:findN x (lastN ls) with
  | some i=>rw [hf] at hR;rw [hR] at hc;cases hc
  | none =>
   rw [hf,if_neg (by simp)] at hR
   by_cases hcc:(nodesN s:Int)=s.ino
   ·rw [if_pos hcc] at hR;rw [hR] at hc;cases hc
   ·rw [if_neg hcc] at hR
    by_cases hp:(placeL s x).2=0
    ·rw [if_neg (fun c=>c hp)] at hR
     exact ⟨x,e,hx,hx2,hf,hcc,hp,by rw [hR]⟩
    ·rw [if_pos hp] at hR
     rw [hR] at hc
     exact absurd hc hp
 ·rw [if_pos e] at hR
  rw [hR] at hc
  exact absurd hc e
noncomputable def makeM (m:Mo) (ls:List ByteArray) (dir:Bool) (made:Int):Mo:=⟨m.things ++ [⟨m.next + 1,dir,made,[]⟩],m.paths ++ [(ls,m.next + 1)],m.next + 1⟩
theorem links_app (l:List (List ByteArray × Int)) (e:List ByteArray × Int) (t:List Th) (n id:Int):linksM ⟨t,l ++ [e],n⟩ id=linksM ⟨t,l,n⟩ id + if e.2=id then 1 else 0:=by
 unfold linksM;rw [List.countP_append,List.countP_singleton]
 by_cases c:e.2=id
 ·rw [if_pos c,if_pos (decide_eq_true c)]
 ·rw [if_neg c,if_neg (by rw [decide_eq_false c];decide)]
theorem Rel.make {m:Mo} {s:PSt} (h:Rel m s) {ls:List ByteArray} {kind made:Int} (hl:ls≠[]) (hn:∀ t∈ls,NmOk t) (hlet:lastN ls∈lets) (hk:kind=1∨kind=2) (hm:0≤made∧made≤1099511627776) (hc:codeA (makeOp s ls kind made).2=0):Rel (makeM m ls (decide (kind=2)) made) (makeOp s ls kind made).1:=by
 have hI:=h.inv.inv;have hU:=(Keep2.makeOp (ls:=ls) (kind:=kind) (made:=made) h.inv).mk (Inv.makeOp hI hn hk hm);have hA:=make_all (ls:=ls) (kind:=kind) (made:=made) h.all hlet;have hin:=make_num s ls kind made;obtain ⟨x,e,hx,hx2,hf,hcc,hp,hR⟩:=make_ok hc;rw [hR] at hU hA hin ⊢;obtain ⟨f1,f2,f3⟩:=Inv.free hI hcc;have hN:=hI.nd _ x hx
 have hne:lastD s ls≠(freeI s:Nat):=fun e=>by rw [e,f1] at hx;cases hx
 have hd:(s.put (freeI s:Nat) (newNd kind made)).nd (lastD s ls)=some x:=by
  rw [PSt.put_ne _ _ hne];exact hx
 have hfr:=free_least x.sl
 have hno:∀ j,walkL s ls 1≠(j,0):=fun j hj=>by rw [(walk_last hI e hx).1 hj] at hf;cases hf
 have hE:∀ d' t j,Ed (makeS s (lastD s ls) x (least0 x.sl) (lastN ls) (freeI s:Nat) kind made) d' t j↔if d'=lastD s ls∧t=lastN ls then ((freeI s:Nat):Int)=j else Ed s d' t j:=fun d' t j=>by
  show Ed ((s.put (freeI s:Nat) (newNd kind made)).put (lastD s ls) (entN x (least0 x.sl) (lastN ls) (freeI s:Nat))) d' t j↔_
  rw [Ed_ent hd hN hfr]
  by_cases c:d'=lastD s ls∧t=lastN ls
  ·rw [if_pos c,if_pos c]
  ·rw [if_neg c,if_neg c,Ed_put]
   by_cases c2:d'=(freeI s:Nat)
   ·rw [if_pos c2]
    refine ⟨fun q=>(by cases q),fun ⟨z,z1,_⟩ => ?_⟩;rw [c2,f1] at z1
    cases z1
   ·rw [if_neg c2]
 obtain ⟨u,hu⟩:∃ u,u=makeS s (lastD s ls) x (least0 x.sl) (lastN ls) (freeI s:Nat) kind made:=⟨_,rfl⟩;rw [←hu] at hU hA hin hE ⊢;have hu2:u=(s.put (freeI s:Nat) (newNd kind made)).put (lastD s ls) (entN x (least0 x.sl) (lastN ls) (freeI s:Nat)):=hu;have hW:=walk_more hI hU.inv h.inv.q (f:=(freeI s:Nat)) (n:=lastN ls) hx hx2 (lastE_walk e) hE (fun t j ⟨z,z1,_⟩=>by rw [f1] at z1;cases z1) (Ne.symm hne) (fun j q=>by rw [Ed_at hx,hf] at q;cases q);rw [last_snoc hl] at hW
 have hZ:AllZ u:=by
  rw [hu2]
  exact (h.z.put (Z1.new kind made)).put ((h.z _ x hx).same rfl rfl)
 have uF:u.nd (freeI s:Nat)=some (newNd kind made):=by
  rw [hu2,PSt.put_ne _ _ (Ne.symm hne),PSt.put_at]
 have uo:∀ j y,s.nd j=some y→∃ y',u.nd j=some y'∧y'.kind=y.kind∧y'.made=y.made∧y'.links=y.links∧y'.blk=y.blk∧y'.size=y.size:=fun j y hy=>by
  rw [hu2]
  by_cases c:j=lastD s ls
  ·rw [c,hx] at hy
   cases hy
   exact ⟨entN x (least0 x.sl) (lastN ls) (freeI s:Nat),by rw [c,PSt.put_at],rfl,rfl,rfl,rfl,rfl⟩
  ·exact ⟨y,by rw [PSt.put_ne _ _ c,PSt.put_ne _ _ (fun q=>by rw [q,f1] at hy;cases hy)];exact hy,rfl,rfl,rfl,rfl,rfl⟩
 obtain ⟨F,hF⟩:∃ F:Int,F=(freeI s:Nat):=⟨_,rfl⟩;rw [←hF] at hW f1 uF;have hnx:=h.nx
 have hnop:∀ id,(ls,id) ∉ m.paths:=fun id q=>by
  obtain ⟨j,hj⟩:=(h.ok _ q).2.2
  exact hno j hj
 have old:∀ e∈m.paths,∀ j,walkL u e.1 1=(j,0)→walkL s e.1 1=(j,0)∧j≠F:=fun e he j hj=>by
  rcases (hW e.1 j).1 hj with q | ⟨q,_⟩
  ·refine ⟨q,fun c => ?_⟩
   obtain ⟨y,hy⟩:=Inv.walk hI (ls:=e.1) (by rw [q]);rw [q,c] at hy;have hy:s.nd F=some y:=hy;rw [f1] at hy
   cases hy
  ·exact absurd (by rw [←q];exact he) (hnop e.2)
 have new:∀ j,walkL u ls 1=(j,0)→j=F:=fun j hj=>by
  rcases (hW ls j).1 hj with q | ⟨_,q⟩
  ·exact absurd q (hno j)
  ·exact q
 have hids:∀ (k:Nat) t,(m.things ++ [⟨m.next + 1,decide (kind=2),made,[]⟩])[k]? = some t→t.id=(k:Int) + 1:=fun k t ht=>by
  by_cases c:k < m.things.length
  ·rw [List.getElem?_append_left c] at ht
   exact h.ids k t ht
  ·rw [List.getElem?_append_right (by omega)] at ht
   have c2:k - m.things.length=0:=by
    rcases Nat.eq_zero_or_pos (k - m.things.length) with q | q
    ·exact q
    ·rw [List.getElem?_eq_none (by simp;omega)] at ht
     cases ht
   rw [c2] at ht
   cases ht
   show m.next + 1=_
   omega
 refine ⟨hU,hA,hZ,by rw [hin.2];exact h.ino,?_,hids,?_,fun e he => ?_,fun l j hl hj => ?_,fun e1 h1 e2 h2 j1 j2 w1 w2 => ?_,fun e he j y hj hy => ?_⟩
 ·show m.next + 1=_
  unfold makeM;rw [List.length_append,hnx]
  rfl
 ·show ((m.paths ++ [(ls,m.next + 1)]).map (·.1)).Nodup
  rw [List.map_append];refine List.nodup_append.2 ⟨h.nd,by simp,fun a ha b hb => ?_⟩
  have hb:b=ls:=by simpa using hb
  obtain ⟨id,q⟩:=fst_in.1 ha;rw [hb]
  intro c
  rw [c] at q
  exact hnop id q
 ·rcases List.mem_append.1 he with he | he
  ·obtain ⟨q1,q2,j,q3⟩:=h.ok e he
   exact ⟨q1,⟨q2.1,by show e.2≤m.next + 1;omega⟩,j,(hW e.1 j).2 (.inl q3)⟩
  ·rw [List.mem_singleton.1 he]
   exact ⟨hl,⟨by show 1≤m.next + 1;omega,Int.le_refl _⟩,F,(hW ls F).2 (.inr ⟨rfl,rfl⟩)⟩
 ·rcases (hW l j).1 hj with q | ⟨q,_⟩
  ·obtain ⟨id,q2⟩:=h.has l j hl q
   exact ⟨id,List.mem_append_left _ q2⟩
  ·exact ⟨m.next + 1,by rw [q];exact List.mem_append_right _ (List.mem_singleton.2 rfl)⟩
 ·rcases List.mem_append.1 h1 with h1 | h1
  ·have o1:=old e1 h1 j1 w1
   have l1:=(h.ok e1 h1).2.1
   rcases List.mem_append.1 h2 with h2 | h2
   ·exact h.same e1 h1 e2 h2 j1 j2 o1.1 (old e2 h2 j2 w2).1
   ·rw [List.mem_singleton.1 h2] at w2 ⊢
    rw [new j2 w2]
    exact ⟨fun c=>by have c:e1.2=m.next + 1:=c;omega,fun c=>absurd c o1.2⟩
  ·rw [List.mem_singleton.1 h1] at w1 ⊢
   rcases List.mem_append.1 h2 with h2 | h2
   ·have l2:=(h.ok e2 h2).2.1
    rw [new j1 w1]
    exact ⟨fun c=>by have c:m.next + 1=e2.2:=c;omega,fun c=>absurd c.symm (old e2 h2 j2 w2).2⟩
   ·rw [List.mem_singleton.1 h2] at w2 ⊢
    rw [new j1 w1,new j2 w2]
    exact ⟨fun _=>rfl,fun _=>rfl⟩
 ·rcases List.mem_append.1 he with he | he
  ·have o1:=old e he j hj
   have l1:=(h.ok e he).2.1;obtain ⟨y0,hy0⟩:=Inv.walk hI (ls:=e.1) (by rw [o1.1]);rw [o1.1] at hy0;obtain ⟨t,t1,t2,t3,t4,t5⟩:=h.th e he j y0 o1.1 hy0;obtain ⟨y',q0,q1,q2,q3,q4,q5⟩:=uo j y0 hy0;rw [hy] at q0
   cases q0
   refine ⟨t,?_,by rw [q1];exact t2,by rw [q2];exact t3,fun c=>(t4 (by rw [←q1];exact c)).same q4 q5,?_⟩
   ·show (m.things ++ _)[(e.2 - 1).toNat]? = some t
    rw [List.getElem?_append_left (by omega)]
    exact t1
   ·show (linksM ⟨_,m.paths ++ [(ls,m.next + 1)],_⟩ e.2:Int)=_
    rw [links_app,if_neg (fun c=>by have c:m.next + 1=e.2:=c;omega),q3,←t5]
    rfl
  ·rw [List.mem_singleton.1 he] at hj ⊢
   rw [new j hj,uF] at hy
   cases hy
   refine ⟨⟨m.next + 1,decide (kind=2),made,[]⟩,?_,?_,rfl,fun _=>Cont.new kind made,?_⟩
   ·show (m.things ++ _)[(m.next + 1 - 1).toNat]? = _
    rw [List.getElem?_append_right (by omega),show (m.next + 1 - 1).toNat - m.things.length=0 by omega]
    rfl
   ·show decide (kind=2)=true↔kind=2
    exact decide_eq_true_iff
   ·show (linksM ⟨_,m.paths ++ [(ls,m.next + 1)],_⟩ (m.next + 1):Int)=1
    rw [links_app,if_pos rfl]
    have:linksM ⟨m.things ++ [⟨m.next + 1,decide (kind=2),made,[]⟩],m.paths,m.next + 1⟩ (m.next + 1)=0:=by
     unfold linksM;rw [List.countP_eq_zero]
     intro e he c
     have:=(h.ok e he).2.1;have c:e.2=m.next + 1:=of_decide_eq_true c
     omega
    rw [this]
    rfl
end Go.Proofs.YtmgfilacepnjlaaGreatDoor

namespace Go.Proofs.YtmgfilacepnjlaaGreatDoor
open Go.RowKit

noncomputable def linkM (m:Mo) (ls ts:List ByteArray):Mo:={ m with paths:=m.paths ++ [(ts,atL m.paths ls)] }
open Classical in
noncomputable def dropL (l:List (List ByteArray × Int)) (ls:List ByteArray):List (List ByteArray × Int):=l.filter fun e=>decide (e.1≠ls)
noncomputable def dropM (m:Mo) (ls:List ByteArray):Mo:={ m with paths:=dropL m.paths ls }
open Classical in
noncomputable def mvE (ls ts:List ByteArray) (e:List ByteArray × Int):List ByteArray × Int:=if ls <+: e.1 then (ts ++ e.1.drop ls.length,e.2) else e
noncomputable def movedM (m:Mo) (ls ts:List ByteArray):Mo:=if atL m.paths ls=atL m.paths ts then m else { m with paths:=(dropL m.paths ts).map (mvE ls ts) }
theorem mem_drop {l:List (List ByteArray × Int)} {ls:List ByteArray} {e:List ByteArray × Int}:e∈dropL l ls↔e∈l∧e.1≠ls:=by
 unfold dropL;rw [List.mem_filter,decide_eq_true_iff]
theorem nodup_drop {l:List (List ByteArray × Int)} {ls:List ByteArray} (h:(l.map (·.1)).Nodup):((dropL l ls).map (·.1)).Nodup :=
 List.Nodup.sublist (List.Sublist.map _ (List.filter_sublist)) h
theorem links_drop {l:List (List ByteArray × Int)} {ls:List ByteArray} {k:Int} (hn:(l.map (·.1)).Nodup) (hk:(ls,k)∈l) (t:List Th) (n id:Int):linksM ⟨t,l,n⟩ id=linksM ⟨t,dropL l ls,n⟩ id + if k=id then 1 else 0:=by
 unfold linksM
 induction l with
 | nil=>cases hk
 | cons e l ih =>
  rw [List.map_cons,List.nodup_cons] at hn
  show List.countP _ (e :: l)=List.countP _ (dropL (e :: l) ls) + _
  rcases List.mem_cons.1 hk with hk | hk
  ·have e1:dropL (e :: l) ls=l:=by
    unfold dropL;rw [List.filter_cons,if_neg (by rw [←hk];simp)]
    refine List.filter_eq_self.2 fun b hb=>decide_eq_true fun c=>hn.1 ?_
    rw [←hk]
    exact List.mem_map.2 ⟨b,hb,c⟩
   rw [e1,List.countP_cons,←hk]
   by_cases c:k=id
   ·rw [if_pos c,if_pos (decide_eq_true c)]
   ·rw [if_neg c,if_neg (by rw [decide_eq_false c];decide)]
  ·have hne:e.1≠ls:=fun c=>hn.1 (by rw [c];exact List.mem_map.2 ⟨_,hk,rfl⟩)
   have e1:dropL (e :: l) ls=e :: dropL l ls:=by
    unfold dropL;rw [List.filter_cons,if_pos (decide_eq_true hne)]
   have:=ih hn.2 hk;rw [e1,List.countP_cons,List.countP_cons]
   have this:List.countP (fun e=>decide (e.2=id)) l=List.countP (fun e=>decide (e.2=id)) (dropL l ls) + if k=id then 1 else 0:=this
   omega
theorem link_ok {s:PSt} (hI:Inv s) {ls ts:List ByteArray} (hc:(linkOp s ls ts).2=0):∃ x y i,walkL s ls 1=(i,0)∧s.nd i=some y∧y.kind≠2∧lastE s ts=0∧s.nd (lastD s ts)=some x∧x.kind=2∧findN x (lastN ts)=none∧(linkOp s ls ts).1=(s.put i { y with links:=y.links + 1 }).put (lastD s ts) (entN x (least0 x.sl) (lastN ts) i):=by
 obtain ⟨R,hR⟩:∃ R,R=linkOp s ls ts:=⟨_,rfl⟩;rw [←hR] at hc ⊢;unfold linkOp at hR
 by_cases e1:(walkL s ls 1).2=0
 ·rw [if_neg (fun c=>c e1)] at hR
  by_cases e:lastE s ts=0
  ·rw [if_neg (fun c=>c e)] at hR
   obtain ⟨x,hx,hx2⟩:=lastE_dir e;obtain ⟨y,hy⟩:=Inv.walk hI e1;rw [hx,hy] at hR
   simp only at hR
   cases hf:findN x (lastN ts) with
   | some i=>rw [hf] at hR;rw [hR] at hc;cases hc
   | none =>
    rw [hf,if_neg (by simp)] at hR
    by_cases hk:y.kind=2
    ·rw [if_pos hk] at hR;rw [hR] at hc;cases hc
    ·rw [if_neg hk] at hR
     by_cases hl:y.links=100
     ·rw [if_pos hl] at hR;rw [hR] at hc;cases hc
     ·rw [if_neg hl] at hR
      by_cases hp:(placeL s x).2=0
      ·rw [if_neg (fun c=>c hp)] at hR
       exact ⟨x,y,(walkL s ls 1).1,by rw [←e1],hy,hk,e,hx,hx2,hf,by rw [hR]⟩
      ·rw [if_pos hp] at hR
       rw [hR] at hc
       exact absurd hc hp
  ·rw [if_pos e] at hR
   rw [hR] at hc
   exact absurd hc e
 ·rw [if_pos e1] at hR
  rw [hR] at hc
  exact absurd hc e1
theorem nodup_app {l:List (List ByteArray × Int)} {ts:List ByteArray} {k:Int} (h:(l.map (·.1)).Nodup) (hn:∀ id,(ts,id) ∉ l):((l ++ [(ts,k)]).map (·.1)).Nodup:=by
 rw [List.map_append];refine List.nodup_append.2 ⟨h,by simp,fun a ha b hb => ?_⟩
 have hb:b=ts:=by simpa using hb
 obtain ⟨id,q⟩:=fst_in.1 ha;rw [hb]
 intro c
 rw [c] at q
 exact hn id q
theorem Rel.link {m:Mo} {s:PSt} (h:Rel m s) {ls ts:List ByteArray} (hl:ls≠[]) (ht:ts≠[]) (hn:∀ t∈ts,NmOk t) (hlet:lastN ts∈lets) (hc:(linkOp s ls ts).2=0):Rel (linkM m ls ts) (linkOp s ls ts).1:=by
 have hI:=h.inv.inv;have hU:=(Keep2.linkOp (ls:=ls) (ts:=ts) h.inv).mk (Inv.linkOp hI hn);have hA:=link_all (ls:=ls) (ts:=ts) h.all hlet;have hin:=link_num s ls ts;obtain ⟨x,y,i,hw,hy,hk,e,hx,hx2,hf,hR⟩:=link_ok hI hc;obtain ⟨u,hu⟩:∃ u,u=(linkOp s ls ts).1:=⟨_,rfl⟩;rw [←hu] at hU hA hin hR ⊢;have hN:=hI.nd _ x hx;have hNy:=hI.nd _ y hy
 have hne:lastD s ts≠i:=fun c=>by rw [c,hy] at hx;cases hx;exact hk hx2
 have hd:(s.put i { y with links:=y.links + 1 }).nd (lastD s ts)=some x:=by rw [PSt.put_ne _ _ hne];exact hx
 have hfr:=free_least x.sl
 have hno:∀ j,walkL s ts 1≠(j,0):=fun j hj=>by rw [(walk_last hI e hx).1 hj] at hf;cases hf
 have hfile:∀ t j,¬ Ed s i t j:=fun t j q=>by rw [Ed_at hy] at q;exact hk (find_dir hNy q)
 have hE:∀ d' t j,Ed u d' t j↔if d'=lastD s ts∧t=lastN ts then i=j else Ed s d' t j:=fun d' t j=>by
  rw [hR,Ed_ent hd hN hfr]
  by_cases c:d'=lastD s ts∧t=lastN ts
  ·rw [if_pos c,if_pos c]
  ·rw [if_neg c,if_neg c,Ed_put]
   by_cases c2:d'=i
   ·rw [if_pos c2,c2,Ed_at hy]
    exact Iff.rfl
   ·rw [if_neg c2]
 have hW:=walk_more hI hU.inv h.inv.q (f:=i) (n:=lastN ts) hx hx2 (lastE_walk e) hE hfile (Ne.symm hne) (fun j q=>by rw [Ed_at hx,hf] at q;cases q);rw [last_snoc ht] at hW
 have hZ:AllZ u:=by
  rw [hR]
  exact (h.z.put ((h.z _ y hy).same (y:={ y with links:=y.links + 1 }) rfl rfl)).put ((h.z _ x hx).same rfl rfl)
 have ui:u.nd i=some { y with links:=y.links + 1 }:=by rw [hR,PSt.put_ne _ _ (Ne.symm hne),PSt.put_at]
 have uo:∀ j z,j≠i→s.nd j=some z→∃ z',u.nd j=some z'∧z'.kind=z.kind∧z'.made=z.made∧z'.links=z.links∧z'.blk=z.blk∧z'.size=z.size:=fun j z hj hz=>by
  rw [hR]
  by_cases c:j=lastD s ts
  ·rw [c,hx] at hz
   cases hz
   exact ⟨entN x (least0 x.sl) (lastN ts) i,by rw [c,PSt.put_at],rfl,rfl,rfl,rfl,rfl⟩
  ·exact ⟨z,by rw [PSt.put_ne _ _ c,PSt.put_ne _ _ hj];exact hz,rfl,rfl,rfl,rfl,rfl⟩
 have hnop:∀ id,(ts,id) ∉ m.paths:=fun id q=>by
  obtain ⟨j,hj⟩:=(h.ok _ q).2.2
  exact hno j hj
 obtain ⟨id,y0,t0,hid,hat,_⟩:=h.at_in hl hw
 have eP:(linkM m ls ts).paths=m.paths ++ [(ts,id)]:=by show m.paths ++ [(ts,atL m.paths ls)]=_;rw [hat]
 refine h.trans hU hA hZ hin.2 rfl h.ids rfl (by rw [eP];exact nodup_app h.nd hnop) (fun e' he' => ?_) (fun l j hl2 hj => ?_) (fun e he _ j z t z' w1 hz hz' t1 t2 t3 t4 t5 => ?_)
 ·rw [eP] at he'
  rcases List.mem_append.1 he' with he' | he'
  ·obtain ⟨q1,_,j,q3⟩:=h.ok e' he'
   exact ⟨q1,e',he',rfl,j,q3,(hW e'.1 j).2 (.inl q3)⟩
  ·rw [List.mem_singleton.1 he']
   exact ⟨ht,(ls,id),hid,rfl,i,hw,(hW ts i).2 (.inr ⟨rfl,rfl⟩)⟩
 ·rw [eP]
  rcases (hW l j).1 hj with q | ⟨q,_⟩
  ·obtain ⟨id',q2⟩:=h.has l j hl2 q
   exact ⟨id',List.mem_append_left _ q2⟩
  ·exact ⟨id,by rw [q];exact List.mem_append_right _ (List.mem_singleton.2 rfl)⟩
 ·have eL:linksM (linkM m ls ts) e.2=linksM m e.2 + if id=e.2 then 1 else 0:=by
   unfold linkM;rw [hat]
   exact links_app m.paths (ts,id) m.things m.next e.2
  have hs:=h.same e he (ls,id) hid j i w1 hw
  by_cases c:j=i
  ·rw [c,hy] at hz
   cases hz
   rw [c,ui] at hz'
   cases hz'
   refine ⟨t,t1,t2,t3,fun q=>(t4 q).same rfl rfl,?_⟩;rw [eL,if_pos (hs.2 c).symm]
   show ((linksM m e.2 + 1:Nat):Int)=y.links + 1
   omega
  ·obtain ⟨z2,q0,q1,q2,q3,q4,q5⟩:=uo j z c hz
   rw [hz'] at q0
   cases q0
   refine ⟨t,t1,by rw [q1];exact t2,by rw [q2];exact t3,fun q=>(t4 (by rw [←q1];exact q)).same q4 q5,?_⟩;rw [eL,if_neg (fun q=>c (hs.1 q.symm)),q3]
   exact t5
theorem Rel.take {m:Mo} {s u:PSt} (h:Rel m s) {ls:List ByteArray} (hl:ls≠[]) {x y:Nd} {i:Int} {k:Nat} (e:lastE s ls=0) (hx:s.nd (lastD s ls)=some x) (hk:x.kind=2) (hnm:x.nm (lastN ls)=some (k:Int)) (hi:x.sl.getD k 0=i) (hy:s.nd i=some y) (hz:∀ t,y.nm t=none) (hu:u=loseS (s.put (lastD s ls) (leaN x k (lastN ls))) i y) (hU:Inv2 u):Rel (dropM m ls) u:=by
 have hI:=h.inv.inv;have hN:=hI.nd _ x hx
 have hf:findN x (lastN ls)=some i:=by rw [find_eq hnm,hi]
 have hw:walkL s ls 1=(i,0):=(walk_last hI e hx).2 hf
 have hno:∀ t j,¬ Ed s i t j:=fun t j q=>by rw [Ed_at hy,find_no (hz t)] at q;cases q
 have hne:i≠lastD s ls:=fun c=>by
  rw [c,hx] at hy
  cases hy
  rw [hz] at hnm
  cases hnm
 have hy2:(s.put (lastD s ls) (leaN x k (lastN ls))).nd i=some y:=by rw [PSt.put_ne _ _ hne];exact hy
 have hA:AllL u:=by rw [hu];exact (h.all.put (h.all _ x hx).lea).lose (h.all _ y hy)
 have hZ:AllZ u:=by rw [hu];exact (h.z.put ((h.z _ x hx).same (y:=leaN x k (lastN ls)) rfl rfl)).lose (h.z _ y hy)
 have hin:u.ino=s.ino:=by rw [hu];exact (lose_num _ _ _).2
 have hE:∀ d' t j,Ed u d' t j↔Ed s d' t j∧¬ (d'=lastD s ls∧t=lastN ls):=fun d' t j=>by
  rw [←Ed_lea hx hN hnm,hu]
  constructor
  ·exact fun q=>q.of_lose hy2
  ·intro q
   have hd:d'≠i:=fun c=>by
    have:=(Ed_lea hx hN hnm).1 q;rw [c] at this
    exact hno t j this.1
   unfold loseS
   by_cases c:y.links=1
   ·rw [if_pos c]
    obtain ⟨z,z1,z2⟩:=q
    exact ⟨z,by rw [PSt.del_ne _ hd];exact z1,z2⟩
   ·rw [if_neg c,Ed_put,if_neg hd]
    exact q
 have hW:=walk_less hI hU.inv h.inv.q hx hk (lastE_walk e) hE ⟨x,hx,hf⟩ hno;rw [last_snoc hl] at hW;obtain ⟨id,y0,t0,hid,hat,_⟩:=h.at_in hl hw
 have uo:∀ j z,j≠i→s.nd j=some z→∃ z',u.nd j=some z'∧z'.kind=z.kind∧z'.made=z.made∧z'.links=z.links∧z'.blk=z.blk∧z'.size=z.size:=fun j z hj hz=>by
  have key:∃ z',(s.put (lastD s ls) (leaN x k (lastN ls))).nd j=some z'∧z'.kind=z.kind∧z'.made=z.made∧z'.links=z.links∧z'.blk=z.blk∧z'.size=z.size:=by
   by_cases c:j=lastD s ls
   ·rw [c,hx] at hz
    cases hz
    exact ⟨leaN x k (lastN ls),by rw [c,PSt.put_at],rfl,rfl,rfl,rfl,rfl⟩
   ·exact ⟨z,by rw [PSt.put_ne _ _ c];exact hz,rfl,rfl,rfl,rfl,rfl⟩
  obtain ⟨z',q0,q1⟩:=key;refine ⟨z',?_,q1⟩;rw [hu];unfold loseS
  by_cases c:y.links=1
  ·rw [if_pos c,PSt.del_ne _ hj];exact q0
  ·rw [if_neg c,PSt.put_ne _ _ hj];exact q0
 refine h.trans hU hA hZ hin rfl h.ids rfl (nodup_drop h.nd) (fun e' he' => ?_) (fun l j hl2 hj => ?_) (fun e he _ j z t z' w1 hz1 hz' t1 t2 t3 t4 t5 => ?_)
 ·obtain ⟨he1,he2⟩:=mem_drop.1 he'
  obtain ⟨q1,_,j,q3⟩:=h.ok e' he1
  exact ⟨q1,e',he1,rfl,j,q3,(hW e'.1 j).2 ⟨q3,he2⟩⟩
 ·obtain ⟨q1,q2⟩:=(hW l j).1 hj
  obtain ⟨id',q3⟩:=h.has l j hl2 q1
  exact ⟨id',mem_drop.2 ⟨q3,q2⟩⟩
 ·have eL:linksM m e.2=linksM (dropM m ls) e.2 + if id=e.2 then 1 else 0:=links_drop h.nd hid m.things m.next e.2
  have hs:=h.same e he (ls,id) hid j i w1 hw
  by_cases c:j=i
  ·rw [c,hy] at hz1
   cases hz1
   have hl1:y.links≠1:=fun q=>by
    rw [c,hu] at hz';unfold loseS at hz';rw [if_pos q,PSt.del_at] at hz'
    cases hz'
   have hz2:u.nd i=some { y with links:=y.links - 1 }:=by
    rw [hu];unfold loseS;rw [if_neg hl1,PSt.put_at]
   rw [c,hz2] at hz'
   cases hz'
   refine ⟨t,t1,t2,t3,fun q=>(t4 q).same rfl rfl,?_⟩;rw [if_pos (hs.2 c).symm] at eL
   show (linksM (dropM m ls) e.2:Int)=y.links - 1
   omega
  ·obtain ⟨z2,q0,q1,q2,q3,q4,q5⟩:=uo j z c hz1
   rw [hz'] at q0
   cases q0
   refine ⟨t,t1,by rw [q1];exact t2,by rw [q2];exact t3,fun q=>(t4 (by rw [←q1];exact q)).same q4 q5,?_⟩;rw [if_neg (fun q=>c (hs.1 q.symm))] at eL;rw [q3,←t5,eL]
   rfl
theorem Rel.unlink {m:Mo} {s:PSt} (h:Rel m s) {ls:List ByteArray} (hl:ls≠[]) (hc:(unlinkOp s ls).2=0) (hf:∃ j y,walkL s ls 1=(j,0)∧s.nd j=some y):Rel (dropM m ls) (unlinkOp s ls).1:=by
 have hI:=h.inv.inv;have hU:=(Keep2.unlinkOp (ls:=ls) h.inv).mk (Inv.unlinkOp hI);obtain ⟨j,y,hj,hy⟩:=hf;obtain ⟨u,hu⟩:∃ u,u=(unlinkOp s ls).1:=⟨_,rfl⟩;rw [←hu] at hU ⊢;obtain ⟨R,hR⟩:∃ R,R=unlinkOp s ls:=⟨_,rfl⟩;rw [←hR] at hc hu;unfold unlinkOp at hR
 by_cases e:lastE s ls=0
 ·rw [if_neg (fun c=>c e)] at hR
  obtain ⟨x,hx,hx2⟩:=lastE_dir e;obtain ⟨k,a1,a2,a3,a4⟩:=find_some (hI.nd _ x hx) ((walk_last hI e hx).1 hj);rw [hx] at hR
  simp only at hR
  rw [a1] at hR
  simp only [Int.toNat_natCast] at hR
  rw [a2,hy] at hR
  simp only at hR
  by_cases c:y.kind=2
  ·rw [if_pos c] at hR;rw [hR] at hc;cases hc
  ·rw [if_neg c] at hR
   exact h.take hl e hx hx2 a1 a2 hy (fun t=>((hI.nd _ y hy).file (by have:=(hI.nd _ y hy).kind;omega)).2 t) (by rw [hu,hR]) hU
 ·rw [if_pos e] at hR
  rw [hR] at hc
  exact absurd hc e
theorem Rel.rmdir {m:Mo} {s:PSt} (h:Rel m s) {ls:List ByteArray} (hl:ls≠[]) (hc:(rmdirOp s ls).2=0) (hf:∃ j y,walkL s ls 1=(j,0)∧s.nd j=some y):Rel (dropM m ls) (rmdirOp s ls).1:=by
 have hI:=h.inv.inv;have hU:=(Keep2.rmdirOp (ls:=ls) h.inv).mk (Inv.rmdirOp hI);obtain ⟨j,y,hj,hy⟩:=hf;obtain ⟨u,hu⟩:∃ u,u=(rmdirOp s ls).1:=⟨_,rfl⟩;rw [←hu] at hU ⊢;obtain ⟨R,hR⟩:∃ R,R=rmdirOp s ls:=⟨_,rfl⟩;rw [←hR] at hc hu;unfold rmdirOp at hR
 by_cases e:lastE s ls=0
 ·rw [if_neg (fun c=>c e)] at hR
  obtain ⟨x,hx,hx2⟩:=lastE_dir e;obtain ⟨k,a1,a2,a3,a4⟩:=find_some (hI.nd _ x hx) ((walk_last hI e hx).1 hj);rw [hx] at hR
  simp only at hR
  rw [a1] at hR
  simp only [Int.toNat_natCast] at hR
  rw [a2,hy] at hR
  simp only at hR
  by_cases c:y.kind=2
  ·rw [if_neg (fun d=>d c)] at hR
   by_cases c2:∃ t,y.nm t≠none
   ·rw [if_pos c2] at hR;rw [hR] at hc;cases hc
   ·rw [if_neg c2] at hR
    exact h.take hl e hx hx2 a1 a2 hy (fun t=>Classical.byContradiction fun q=>c2 ⟨t,q⟩) (by rw [hu,hR]) hU
  ·rw [if_pos c] at hR;rw [hR] at hc;cases hc
 ·rw [if_pos e] at hR
  rw [hR] at hc
  exact absurd hc e
end Go.Proofs.YtmgfilacepnjlaaGreatDoor
