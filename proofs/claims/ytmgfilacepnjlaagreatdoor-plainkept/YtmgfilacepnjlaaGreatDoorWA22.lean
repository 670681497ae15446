/-
 package plain, as functions: what is told in the end.
-/
import Derived.Test.YtmgfilacepnjlaaGreatDoorWA18
namespace Go.Proofs.YtmgfilacepnjlaaGreatDoor
open Go.RowKit

theorem rename_ok {s:PSt} (hI:Inv s) {ls ts:List ByteArray} (hc:(renameOp s ls ts).2=0):∃ x1 x2 i yi,lastE s ls=0∧lastE s ts=0∧s.nd (lastD s ls)=some x1∧s.nd (lastD s ts)=some x2∧x1.kind=2∧x2.kind=2∧findN x1 (lastN ls)=some i∧s.nd i=some yi ∧
  ((lastD s ts=lastD s ls∧lastN ts=lastN ls)∧(renameOp s ls ts).1=s∨¬ (lastD s ts=lastD s ls∧lastN ts=lastN ls) ∧
   ((findN x2 (lastN ts)=none∧¬ (yi.kind=2∧belowB ts ls=true)∧(placeL s x2).2=0∧(renameOp s ls ts).1=moveS s (lastD s ls) (lastD s ts) (lastN ls) (lastN ts) x2 i) ∨
    ∃ j yj,findN x2 (lastN ts)=some j∧s.nd j=some yj∧yi.kind≠2∧yj.kind≠2∧(j=i∧(renameOp s ls ts).1=s∨j≠i∧(renameOp s ls ts).1=replS s (lastD s ls) (lastD s ts) (lastN ls) (lastN ts) x2 ((x2.nm (lastN ts)).getD 0).toNat i j))):=by
 obtain ⟨R,hR⟩:∃ R,R=renameOp s ls ts:=⟨_,rfl⟩;rw [←hR] at hc ⊢;unfold renameOp at hR
 by_cases e1:lastE s ls=0
 ·rw [if_neg (fun c=>c e1)] at hR
  by_cases e2:lastE s ts=0
  ·rw [if_neg (fun c=>c e2)] at hR
   obtain ⟨x1,hx1,hk1⟩:=lastE_dir e1;obtain ⟨x2,hx2,hk2⟩:=lastE_dir e2;rw [hx1,hx2] at hR
   simp only at hR
   cases f1:findN x1 (lastN ls) with
   | none=>rw [f1] at hR;rw [hR] at hc;cases hc
   | some i =>
    rw [f1] at hR
    simp only at hR
    obtain ⟨yi,hyi⟩:=Inv.find hI hx1 f1;refine ⟨x1,x2,i,yi,e1,e2,hx1,hx2,hk1,hk2,f1,hyi,?_⟩
    by_cases hs:lastD s ts=lastD s ls∧lastN ts=lastN ls
    ·rw [if_pos hs] at hR
     exact .inl ⟨hs,by rw [hR]⟩
    ·rw [if_neg hs,hyi] at hR
     simp only at hR
     refine .inr ⟨hs,?_⟩
     cases f2:findN x2 (lastN ts) with
     | none =>
      rw [f2] at hR
      simp only at hR
      by_cases c1:yi.kind=2∧belowB ts ls=true
      ·rw [if_pos c1] at hR;rw [hR] at hc;cases hc
      ·rw [if_neg c1] at hR
       by_cases c2:yi.links=100
       ·rw [if_pos c2] at hR;rw [hR] at hc;cases hc
       ·rw [if_neg c2] at hR
        by_cases hp:(placeL s x2).2=0
        ·rw [if_neg (fun c=>c hp)] at hR
         exact .inl ⟨rfl,c1,hp,by rw [hR]⟩
        ·rw [if_pos hp] at hR
         rw [hR] at hc
         exact absurd hc hp
     | some j =>
      obtain ⟨yj,hyj⟩:=Inv.find hI hx2 f2;rw [f2] at hR
      simp only at hR
      rw [hyj] at hR
      simp only at hR
      by_cases c1:yi.kind=2∨yj.kind=2
      ·rw [if_pos c1] at hR;rw [hR] at hc;cases hc
      ·rw [if_neg c1] at hR
       refine .inr ⟨j,yj,rfl,hyj,fun c=>c1 (.inl c),fun c=>c1 (.inr c),?_⟩
       by_cases c3:j=i
       ·rw [if_pos c3] at hR;exact .inl ⟨c3,by rw [hR]⟩
       ·rw [if_neg c3] at hR
        by_cases c2:yi.links=100
        ·rw [if_pos c2] at hR;rw [hR] at hc;cases hc
        ·rw [if_neg c2] at hR
         exact .inr ⟨c3,by rw [hR]⟩
  ·rw [if_pos e2] at hR
   rw [hR] at hc
   exact absurd hc e2
 ·rw [if_pos e1] at hR
  rw [hR] at hc
  exact absurd hc e1
theorem mvE_in {ls ts:List ByteArray} {e:List ByteArray × Int} (h:ls <+: e.1):mvE ls ts e=(ts ++ e.1.drop ls.length,e.2):=if_pos h
theorem mvE_out {ls ts:List ByteArray} {e:List ByteArray × Int} (h : ¬ ls <+: e.1):mvE ls ts e=e:=if_neg h
theorem mvE_id (ls ts:List ByteArray) (e:List ByteArray × Int):(mvE ls ts e).2=e.2:=by
 by_cases h:ls <+: e.1
 ·rw [mvE_in h]
 ·rw [mvE_out h]
theorem pre_drop {ls l:List ByteArray} (h:ls <+: l):l=ls ++ l.drop ls.length:=by
 obtain ⟨r,rfl⟩:=h
 simp
theorem links_map (l:List (List ByteArray × Int)) (ls ts:List ByteArray) (t:List Th) (n id:Int):linksM ⟨t,l.map (mvE ls ts),n⟩ id=linksM ⟨t,l,n⟩ id:=by
 unfold linksM
 show List.countP _ (l.map (mvE ls ts))=_
 rw [List.countP_map]
 refine List.countP_congr fun e _ => ?_
 show decide ((mvE ls ts e).2=id)=true↔_
 rw [mvE_id]
theorem Rel.move {m:Mo} {s u:PSt} (h:Rel m s) {ls ts:List ByteArray} (hl:ls≠[]) (ht:ts≠[]) {i:Int} (e1:lastE s ls=0) (e2:lastE s ts=0) {x1 x2:Nd} (hx1:s.nd (lastD s ls)=some x1) (hx2:s.nd (lastD s ts)=some x2) (k1:x1.kind=2) (k2:x2.kind=2) (f1:findN x1 (lastN ls)=some i) (hne:ls≠ts)
  (hU:Inv2 u) (hA:AllL u) (hZ:AllZ u) (hin:u.ino=s.ino) (hE:∀ d t j,Ed u d t j↔(if d=lastD s ts∧t=lastN ts then i=j else Ed s d t j)∧¬ (d=lastD s ls∧t=lastN ls)) (ho:∀ j,Ed s (lastD s ts) (lastN ts) j→(∀ t k,¬ Ed s j t k)∧j≠i) (hnb:∀ a,walkL s a i≠(lastD s ts,0))
  (uo:∀ j z z',s.nd j=some z→u.nd j=some z'→z'.kind=z.kind∧z'.made=z.made∧z'.blk=z.blk∧z'.size=z.size∧z'.links=z.links - if findN x2 (lastN ts)=some j then 1 else 0):Rel (movedM m ls ts) u:=by
 have hI:=h.inv.inv;have wls:walkL s ls 1=(i,0):=(walk_last hI e1 hx1).2 f1;obtain ⟨id,y0,t0,hid,hat,_⟩:=h.at_in hl wls
 have hs' : ¬ (lastD s ts=lastD s ls∧lastN ts=lastN ls):=fun c=>hne ((last_same hI h.inv.q e1 e2).1 c)
 have hW:=walk_moved hI hU.inv h.inv.q hx1 hx2 k1 k2 (lastE_walk e1) (lastE_walk e2) ⟨x1,hx1,f1⟩ hs' hE (fun j q=>(ho j q).1) hnb;rw [last_snoc hl,last_snoc ht] at hW
 have hats:atL m.paths ls≠atL m.paths ts:=by
  rcases walk_or s ts with ⟨j,hj⟩ | hj
  ·obtain ⟨id2,_,_,hid2,hat2,_⟩:=h.at_in ht hj
   rw [hat,hat2]
   intro c
   have:=(h.same _ hid _ hid2 i j wls hj).1 c;have hE2:Ed s (lastD s ts) (lastN ts) j:=⟨x2,hx2,(walk_last hI e2 hx2).1 hj⟩
   exact (ho j hE2).2 this.symm
  ·rw [(h.at_out hj).1,hat]
   have:=(h.ok _ hid).2.1;have this:1≤id∧id≤m.next:=this
   omega
 have eP:(movedM m ls ts).paths=(dropL m.paths ts).map (mvE ls ts):=by unfold movedM;rw [if_neg hats]
 have eT:(movedM m ls ts).things=m.things:=by unfold movedM;rw [if_neg hats]
 have eN:(movedM m ls ts).next=m.next:=by unfold movedM;rw [if_neg hats]
 -- what was below the place is none
 have hbt:∀ r,r≠[]→∀ j,walkL s (ts ++ r) 1≠(j,0):=fun r hr j hj=>by
  obtain ⟨k,q1,q2⟩:=(walk_app hI).1 hj;have hE2:Ed s (lastD s ts) (lastN ts) k:=⟨x2,hx2,(walk_last hI e2 hx2).1 q1⟩
  cases r with
  | nil=>exact hr rfl
  | cons t r =>
   obtain ⟨k2,q3,_⟩:=(walk_iff hI).1 q2
   exact (ho k hE2).1 t k2 q3
 have hnd:((movedM m ls ts).paths.map (·.1)).Nodup:=by
  rw [eP,List.map_map]
  refine nodup_map (g:=(·.1)) (nodup_drop h.nd) fun e he e' he' q => ?_
  have q:(mvE ls ts e).1=(mvE ls ts e').1:=q;obtain ⟨a1,a2⟩:=mem_drop.1 he;obtain ⟨b1,b2⟩:=mem_drop.1 he'
  have mixed:∀ e e':List ByteArray × Int,e'∈m.paths→e'.1≠ts→ls <+: e.1→¬ ls <+: e'.1→(mvE ls ts e).1=(mvE ls ts e').1→False:=fun e e' b1 b2 c1 c2 q=>by
   rw [mvE_in c1,mvE_out c2] at q;have q:ts ++ e.1.drop ls.length=e'.1:=q;obtain ⟨j,hj⟩:=(h.ok e' b1).2.2;rw [←q] at hj
   by_cases cr:e.1.drop ls.length=[]
   ·rw [cr,List.append_nil] at q
    exact b2 q.symm
   ·exact hbt _ cr j hj
  by_cases c1:ls <+: e.1
  ·by_cases c2:ls <+: e'.1
   ·rw [mvE_in c1,mvE_in c2] at q
    have q:=List.append_cancel_left q
    show e.1=e'.1
    rw [pre_drop c1,pre_drop c2,q]
   ·exact (mixed e e' b1 b2 c1 c2 q).elim
  ·by_cases c2:ls <+: e'.1
   ·exact (mixed e' e a1 a2 c2 c1 q.symm).elim
   ·rw [mvE_out c1,mvE_out c2] at q
    exact q
 have eL:∀ k,linksM (movedM m ls ts) k=linksM ⟨m.things,dropL m.paths ts,m.next⟩ k:=fun k=>by
  rw [←links_map (dropL m.paths ts) ls ts];unfold linksM;rw [eP]
 refine h.trans hU hA hZ hin (by rw [eT]) (by rw [eT];exact h.ids) eN hnd (fun e' he' => ?_) (fun l j hl2 hj => ?_) (fun e he he3 j z t z' w1 hz hz' t1 t2 t3 t4 t5 => ?_)
 ·rw [eP] at he'
  obtain ⟨e,he,rfl⟩:=List.mem_map.1 he';obtain ⟨a1,a2⟩:=mem_drop.1 he;obtain ⟨q1,_,j,q3⟩:=h.ok e a1
  by_cases c:ls <+: e.1
  ·rw [mvE_in c]
   refine ⟨?_,e,a1,rfl,j,q3,(hW _ j).2 (.inr ⟨e.1.drop ls.length,rfl,by rw [←pre_drop c];exact q3⟩)⟩
   show ts ++ _≠[]
   simp [ht]
  ·rw [mvE_out c]
   exact ⟨q1,e,a1,rfl,j,q3,(hW _ j).2 (.inl ⟨q3,c,a2⟩)⟩
 ·rw [eP]
  rcases (hW l j).1 hj with ⟨q1,q2,q3⟩ | ⟨r,q1,q2⟩
  ·obtain ⟨id',q4⟩:=h.has l j hl2 q1
   exact ⟨id',List.mem_map.2 ⟨(l,id'),mem_drop.2 ⟨q4,q3⟩,mvE_out q2⟩⟩
  ·obtain ⟨id',q4⟩:=h.has (ls ++ r) j (by simp [hl]) q2
   refine ⟨id',List.mem_map.2 ⟨(ls ++ r,id'),mem_drop.2 ⟨q4,fun c => ?_⟩,?_⟩⟩
   ·have c:ls ++ r=ts:=c
    rw [c] at q2
    have hr:r≠[]:=fun d=>hne (by rw [d,List.append_nil] at c;exact c)
    have c2:=(walk_app hI).1 (by rw [←c] at q2;exact q2:walkL s (ls ++ r) 1=(j,0));obtain ⟨k,w2,w3⟩:=c2;rw [wls] at w2;rw [←(Prod.mk.inj w2).1] at w3;have e3:=List.dropLast_concat_getLast hr;rw [←e3] at w3;obtain ⟨d,w4,_⟩:=(walk_snoc hI).1 w3
    have e4:ts.dropLast=ls ++ r.dropLast:=by rw [←c,List.dropLast_append_of_ne_nil hr]
    have w5:walkL s ts.dropLast 1=(d,0):=by rw [e4];exact (walk_app hI).2 ⟨i,wls,w4⟩
    rw [lastE_walk e2] at w5;rw [←(Prod.mk.inj w5).1] at w4
    exact hnb _ w4
   ·rw [mvE_in (List.prefix_append ls r),q1]
    simp
 ·obtain ⟨z1,z2,z3,z4,z5⟩:=uo j z z' hz hz'
  refine ⟨t,by rw [eT];exact t1,by rw [z1];exact t2,by rw [z2];exact t3,fun q=>(t4 (by rw [←z1];exact q)).same z3 z4,?_⟩;rw [eL]
  rcases walk_or s ts with ⟨k,hk⟩ | hk
  ·obtain ⟨id2,_,_,hid2,hat2,_⟩:=h.at_in ht hk
   have eD:linksM m e.2=linksM ⟨m.things,dropL m.paths ts,m.next⟩ e.2 + if id2=e.2 then 1 else 0:=links_drop h.nd hid2 m.things m.next e.2
   have hs:=h.same e he _ hid2 j k w1 hk;have hf2:=(walk_last hI e2 hx2).1 hk;rw [hf2] at z5
   by_cases c:j=k
   ·rw [if_pos (by rw [c])] at z5
    rw [if_pos (hs.2 c).symm] at eD
    omega
   ·rw [if_neg (fun q=>c (Option.some.inj q).symm)] at z5
    rw [if_neg (fun q=>c (hs.1 q.symm))] at eD
    omega
  ·have hf2:∀ k,findN x2 (lastN ts)≠some k:=fun k q=>hk k ((walk_last hI e2 hx2).2 q)
   rw [if_neg (hf2 j)] at z5
   have eD:dropL m.paths ts=m.paths:=List.filter_eq_self.2 fun b hb=>decide_eq_true fun c=>by
    obtain ⟨j',hj'⟩:=(h.ok b hb).2.2;rw [c] at hj'
    exact hk j' hj'
   rw [eD,z5,Int.sub_zero]
   exact t5
end Go.Proofs.YtmgfilacepnjlaaGreatDoor

namespace Go.Proofs.YtmgfilacepnjlaaGreatDoor
open Go.RowKit

def DatN (x y:Nd):Prop:=y.kind=x.kind∧y.made=x.made∧y.blk=x.blk∧y.size=x.size∧y.links=x.links
theorem data_put {s:PSt} {i:Int} {x x':Nd} (hx:s.nd i=some x) (h:DatN x x') {j:Int} {z z':Nd} (hz:s.nd j=some z) (hz':(s.put i x').nd j=some z'):DatN z z':=by
 by_cases c:j=i
 ·rw [c,hx] at hz
  cases hz
  rw [c,PSt.put_at] at hz'
  cases hz'
  exact h
 ·rw [PSt.put_ne _ _ c,hz] at hz'
  cases hz'
  exact ⟨rfl,rfl,rfl,rfl,rfl⟩
theorem put_nd {s:PSt} {i j:Int} {x' z:Nd} (hz:s.nd j=some z):∃ z',(s.put i x').nd j=some z':=by
 by_cases c:j=i
 ·exact ⟨x',by rw [c,PSt.put_at]⟩
 ·exact ⟨z,by rw [PSt.put_ne _ _ c];exact hz⟩
theorem Ed_old {s:PSt} {d i:Int} {x:Nd} {k:Nat} {n:ByteArray} (hx:s.nd d=some x) (hN:NdOk x) (hn:x.nm n=some (k:Int)) {d' j:Int} {t:ByteArray}:Ed (s.put d (entO x k n i)) d' t j↔if d'=d∧t=n then i=j else Ed s d' t j:=by
 rw [Ed_put,find_old hN hn]
 by_cases e:d'=d
 ·subst e
  rw [if_pos rfl]
  by_cases c:t=n
  ·rw [if_pos c,if_pos ⟨rfl,c⟩];exact ⟨Option.some.inj,fun e=>by rw [e]⟩
  ·rw [if_neg c,if_neg (fun h=>c h.2),Ed_at hx]
 ·rw [if_neg e,if_neg (fun h=>e h.1)]
theorem movedM_same {m:Mo} {ls ts:List ByteArray} (h:atL m.paths ls=atL m.paths ts):movedM m ls ts=m:=if_pos h
theorem Rel.rename {m:Mo} {s:PSt} (h:Rel m s) {ls ts:List ByteArray} (hl:ls≠[]) (ht:ts≠[]) (hn:∀ t∈ts,NmOk t) (hlet:lastN ts∈lets) (hc:(renameOp s ls ts).2=0):Rel (movedM m ls ts) (renameOp s ls ts).1:=by
 have hI:=h.inv.inv;have hU:=(Keep2.renameOp (ls:=ls) (ts:=ts) h.inv hn).mk (Inv.renameOp hI hn);have hA:=rename_all (ls:=ls) (ts:=ts) h.all hlet;have hin:=rename_num s ls ts;obtain ⟨x1,x2,i,yi,e1,e2,hx1,hx2,k1,k2,f1,hyi,hcase⟩:=rename_ok hI hc;obtain ⟨u,hu⟩:∃ u,u=(renameOp s ls ts).1:=⟨_,rfl⟩;rw [←hu] at hU hA hin hcase ⊢;have hN1:=hI.nd _ x1 hx1;have hN2:=hI.nd _ x2 hx2;have wls:walkL s ls 1=(i,0):=(walk_last hI e1 hx1).2 f1;obtain ⟨id,y0,t0,hid,hat,_⟩:=h.at_in hl wls;have hre:=(Ed.ref hI ⟨x1,hx1,f1⟩).1
 rcases hcase with ⟨hs,hR⟩ | ⟨hs,⟨f2,hb,hp,hR⟩ | ⟨j,yj,f2,hyj,ki,kj,⟨hji,hR⟩ | ⟨hji,hR⟩⟩⟩
 ·rw [hR,(last_same hI h.inv.q e1 e2).1 hs,movedM_same rfl]
  exact h
 ·have hne:ls≠ts:=fun c=>hs ((last_same hI h.inv.q e1 e2).2 c)
  obtain ⟨x1',m1,b1,b2,b3,em,_⟩:=Inv.moveS hI hx1 hx2 k1 k2 f1 f2 hp (hn _ (lastN_mem (lastE_ne e2)));obtain ⟨_,hE,_⟩:=move_all hI hx1 hx2 k1 k2 f1 f2 hp (hn _ (lastN_mem (lastE_ne e2)));rw [←hR] at hE em;have hx1':=put_some hx1 b1
  have hZ:AllZ u:=by
   rw [em];have hz1:=h.z.put (i:=lastD s ts) ((h.z _ x2 hx2).same (y:=entN x2 (least0 x2.sl) (lastN ts) i) rfl rfl)
   exact hz1.put ((hz1 _ x1' b1).same (y:=leaN x1' m1 (lastN ls)) rfl rfl)
  refine h.move hl ht e1 e2 hx1 hx2 k1 k2 f1 hne hU hA hZ hin.2 hE (fun j q=>by rw [Ed_at hx2,f2] at q;cases q) (not_below h.inv e1 e2 hx1 hx2 k2 f1 hyi hb) (fun j z z' hz hz' => ?_);rw [em] at hz';obtain ⟨z1,hz1⟩:=put_nd (i:=lastD s ts) (x':=entN x2 (least0 x2.sl) (lastN ts) i) hz;have d1:=data_put (x':=entN x2 (least0 x2.sl) (lastN ts) i) hx2 ⟨rfl,rfl,rfl,rfl,rfl⟩ hz hz1;have d2:=data_put (x':=leaN x1' m1 (lastN ls)) b1 ⟨rfl,rfl,rfl,rfl,rfl⟩ hz1 hz';rw [f2,if_neg (fun q=>by cases q),Int.sub_zero]
  exact ⟨d2.1.trans d1.1,d2.2.1.trans d1.2.1,d2.2.2.1.trans d1.2.2.1,d2.2.2.2.1.trans d1.2.2.2.1,d2.2.2.2.2.trans d1.2.2.2.2⟩
 ·have wts:walkL s ts 1=(j,0):=(walk_last hI e2 hx2).2 f2
  obtain ⟨id2,_,_,hid2,hat2,_⟩:=h.at_in ht wts;have hid':=(h.same _ hid _ hid2 i j wls wts).2 hji.symm;have hid':id=id2:=hid';rw [hR,movedM_same (by rw [hat,hat2,hid'])]
  exact h
 ·have hne:ls≠ts:=fun c=>hs ((last_same hI h.inv.q e1 e2).2 c)
  obtain ⟨x1',m1,m2,c1,c3,b1,b2,b3,b6,em,_⟩:=Inv.replS hI hx1 hx2 k1 k2 f1 f2 hyj kj hji hs;rw [←hR] at em;have hx1':=put_some hx1 b1;have hN2':NdOk (entO x2 m2 (lastN ts) i):=hN2.old k2 c1 hre
  have hN1':NdOk x1':=by rw [hx1'];split <;> assumption
  have hNj:=hI.nd _ yj hyj
  have hnoj:∀ t k,¬ Ed s j t k:=fun t k q=>by rw [Ed_at hyj] at q;exact kj (find_dir hNj q)
  have hj1:j≠lastD s ls:=fun c=>by rw [c,hx1] at hyj;cases hyj;exact kj k1
  have hj2:j≠lastD s ts:=fun c=>by rw [c,hx2] at hyj;cases hyj;exact kj k2
  have hE:∀ d t j',Ed u d t j'↔(if d=lastD s ts∧t=lastN ts then i=j' else Ed s d t j')∧¬ (d=lastD s ls∧t=lastN ls):=fun d t j'=>by
   rw [←Ed_old (i:=i) hx2 hN2 c1,←Ed_lea b1 hN1' b2,em]
   constructor
   ·exact fun q=>q.of_lose b6
   ·intro q
    have hd:d≠j:=fun c=>by
     rw [c] at q;have q1:=((Ed_lea b1 hN1' b2).1 q).1;rw [Ed_old hx2 hN2 c1,if_neg (fun c=>hj2 c.1)] at q1
     exact hnoj _ _ q1
    unfold loseS
    by_cases c:yj.links=1
    ·rw [if_pos c]
     obtain ⟨z,z1,z2⟩:=q
     exact ⟨z,by rw [PSt.del_ne _ hd];exact z1,z2⟩
    ·rw [if_neg c,Ed_put,if_neg hd]
     exact q
  have hZ:AllZ u:=by
   rw [em];have hz1:=h.z.put (i:=lastD s ts) ((h.z _ x2 hx2).same (y:=entO x2 m2 (lastN ts) i) rfl rfl)
   exact (hz1.put ((hz1 _ x1' b1).same (y:=leaN x1' m1 (lastN ls)) rfl rfl)).lose (h.z _ yj hyj)
  refine h.move hl ht e1 e2 hx1 hx2 k1 k2 f1 hne hU hA hZ hin.2 hE (fun j' q => ?_) (not_desc hI (fun q => ?_) (fun z hz=>by rw [hyi] at hz;cases hz;exact ki)) (fun j' z z' hz hz' => ?_)
  ·rw [Ed_at hx2,f2] at q
   cases q
   exact ⟨hnoj,hji⟩
  ·rw [q,hyi] at hx2
   cases hx2
   exact ki k2
  ·obtain ⟨z1,hz1⟩:=put_nd (i:=lastD s ts) (x':=entO x2 m2 (lastN ts) i) hz
   have d1:=data_put (x':=entO x2 m2 (lastN ts) i) hx2 ⟨rfl,rfl,rfl,rfl,rfl⟩ hz hz1;obtain ⟨z2,hz2⟩:=put_nd (i:=lastD s ls) (x':=leaN x1' m1 (lastN ls)) hz1;have d2:=data_put (x':=leaN x1' m1 (lastN ls)) b1 ⟨rfl,rfl,rfl,rfl,rfl⟩ hz1 hz2;have d3:DatN z z2:=⟨d2.1.trans d1.1,d2.2.1.trans d1.2.1,d2.2.2.1.trans d1.2.2.1,d2.2.2.2.1.trans d1.2.2.2.1,d2.2.2.2.2.trans d1.2.2.2.2⟩;rw [f2];rw [em] at hz';unfold loseS at hz'
   by_cases c:yj.links=1
   ·rw [if_pos c] at hz'
    by_cases cj:j'=j
    ·rw [cj,PSt.del_at] at hz';cases hz'
    ·rw [PSt.del_ne _ cj,hz2] at hz'
     cases hz'
     rw [if_neg (fun q=>cj (Option.some.inj q).symm),Int.sub_zero]
     exact d3
   ·rw [if_neg c] at hz'
    by_cases cj:j'=j
    ·rw [cj,PSt.put_at] at hz'
     cases hz'
     rw [cj,b6] at hz2
     cases hz2
     rw [if_pos (by rw [cj])];refine ⟨d3.1,d3.2.1,d3.2.2.1,d3.2.2.2.1,?_⟩
     show yj.links - 1=z.links - 1
     rw [d3.2.2.2.2]
    ·rw [PSt.put_ne _ _ cj,hz2] at hz'
     cases hz'
     rw [if_neg (fun q=>cj (Option.some.inj q).symm),Int.sub_zero]
     exact d3
noncomputable def bytesM (m:Mo) (ls:List ByteArray) (f:List Int→List Int):Mo:=match m.things[(thK m.things (atL m.paths ls) 0).toNat]? with
 | some t=>{ m with things:=m.things.set (thK m.things (atL m.paths ls) 0).toNat { t with bytes:=f t.bytes } }
 | none=>m
theorem Rel.bytes {m:Mo} {s:PSt} (h:Rel m s) {ls:List ByteArray} (hl:ls≠[]) {i:Int} {x x':Nd} (hw:walkL s ls 1=(i,0)) (hx:s.nd i=some x) (hk:x.kind=1) (f:List Int→List Int) (hU:Inv2 (s.put i x')) (hA:AllL (s.put i x')) (hz:Z1 x') (hd:x'.kind=x.kind∧x'.made=x.made∧x'.links=x.links∧∀ t,findN x' t=findN x t) (hc:∀ bs,Cont x bs→Cont x' (f bs)):Rel (bytesM m ls f) (s.put i x'):=by
 have hI:=h.inv.inv;obtain ⟨id,y0,t0,hid,hat,hr,e0,ht0,_,hdir,hmade,hcont,hlinks,hthk⟩:=h.at_in hl hw;rw [hx] at e0
 cases e0
 have hE:∀ d t j,Ed (s.put i x') d t j↔Ed s d t j:=fun d t j=>by
  rw [Ed_put]
  by_cases c:d=i
  ·rw [if_pos c,c,Ed_at hx,hd.2.2.2]
  ·rw [if_neg c]
 have hW:∀ l j,walkL (s.put i x') l 1=(j,0)↔walkL s l 1=(j,0):=fun l j=>⟨walk_keep hU.inv hI (fun d t k q=>(hE d t k).1 q) l 1 j,walk_keep hI hU.inv (fun d t k q=>(hE d t k).2 q) l 1 j⟩
 have eM:bytesM m ls f={ m with things:=m.things.set (id - 1).toNat { t0 with bytes:=f t0.bytes } }:=by
  unfold bytesM;rw [hthk,ht0]
 rw [eM];have hlt:(id - 1).toNat < m.things.length:=(List.getElem?_eq_some_iff.1 ht0).1;refine h.trans hU hA (h.z.put hz) rfl (by show (m.things.set _ _).length=_;rw [List.length_set]) (fun k t ht => ?_) rfl h.nd (fun e' he' => ?_) (fun l j hl2 hj=>h.has l j hl2 ((hW l j).1 hj)) (fun e he _ j z t z' w1 hz1 hz' t1 t2 t3 t4 t5 => ?_)
 ·have ht:(m.things.set (id - 1).toNat { t0 with bytes:=f t0.bytes })[k]? = some t:=ht
  by_cases c:(id - 1).toNat=k
  ·rw [←c,List.getElem?_set_self hlt] at ht
   cases ht
   show t0.id=_
   rw [←c]
   exact h.ids _ t0 ht0
  ·rw [List.getElem?_set_ne c] at ht
   exact h.ids k t ht
 ·obtain ⟨q1,_,j,q3⟩:=h.ok e' he'
  exact ⟨q1,e',he',rfl,j,q3,(hW e'.1 j).2 q3⟩
 ·show ∃ t',(m.things.set (id - 1).toNat { t0 with bytes:=f t0.bytes })[(e.2 - 1).toNat]? = some t'∧_
  have hs:=h.same e he _ hid j i w1 hw;have hre:=(h.ok e he).2.1;have hri:=(h.ok _ hid).2.1
  by_cases c:j=i
  ·rw [c,hx] at hz1
   cases hz1
   rw [c,PSt.put_at] at hz'
   cases hz'
   have eid:e.2=id:=hs.2 c;rw [eid,List.getElem?_set_self hlt];rw [eid,ht0] at t1
   cases t1
   refine ⟨_,rfl,by rw [hd.1];exact t2,by rw [hd.2.1];exact t3,fun _=>hc _ (hcont hk),?_⟩;rw [hd.2.2.1,←hlinks]
   rfl
  ·rw [PSt.put_ne _ _ c,hz1] at hz'
   cases hz'
   have hne : ¬ (id - 1).toNat=(e.2 - 1).toNat:=fun q=>c (hs.1 (by have hri:1≤id∧id≤m.next:=hri;show e.2=id;omega))
   rw [List.getElem?_set_ne hne]
   exact ⟨t,t1,t2,t3,t4,t5⟩
theorem Rel.write {m:Mo} {s:PSt} (h:Rel m s) {ls:List ByteArray} (hl:ls≠[]) {i:Int} {x:Nd} (hw:walkL s ls 1=(i,0)) (hx:s.nd i=some x) (hk:x.kind=1) {off:Int} {ds:List Int} (h0:0≤off) (h1:off≤20299) (h3:ds.length≤3000) (hd:∀ b∈ds,0≤b∧b≤255) (hc:(writeOp s i x off ds).2=0):Rel (bytesM m ls fun bs=>writeB bs off.toNat ds) (writeOp s i x off ds).1:=by
 have hs:=(h.inv.inv.nd i x hx).size;obtain ⟨R,hR⟩:∃ R,R=writeOp s i x off ds:=⟨_,rfl⟩;rw [←hR] at hc ⊢;unfold writeOp at hR;rw [if_neg (by omega)] at hR
 by_cases c:ds=[]
 ·rw [if_pos c] at hR
  rw [hR]
  have e1:∀ bs,writeB bs off.toNat ds=bs:=fun bs=>if_pos c
  have:=h.bytes hl hw hx hk (fun bs=>writeB bs off.toNat ds) (x':=x) (by
   have e:s.put i x=s:=by
    unfold PSt.put
    congr 1
    funext j
    by_cases q:j=i
    ·rw [if_pos q,q,hx]
    ·rw [if_neg q]
   rw [e];exact h.inv) (h.all.put (h.all i x hx)) (h.z i x hx) ⟨rfl,rfl,rfl,fun _=>rfl⟩ (fun bs hb=>by rw [e1];exact hb)
  have e:s.put i x=s:=by
   unfold PSt.put
   congr 1
   funext j
   by_cases q:j=i
   ·rw [if_pos q,q,hx]
   ·rw [if_neg q]
  rw [e] at this
  exact this
 ·rw [if_neg c] at hR
  by_cases c2:roomB s x (off.toNat / 128) ((off.toNat + ds.length - 1) / 128 + 1)=true
  ·rw [if_pos c2] at hR
   rw [hR]
   exact h.bytes hl hw hx hk (fun bs=>writeB bs off.toNat ds) ((Keep2.wrote h.inv hx (by omega) _ _ _ c c2).mk (Inv.wrote h.inv.inv hx (by omega) _ _ (by omega) hd)) (h.all.put (h.all i x hx)) ((h.z i x hx).wrote (by omega)) ⟨rfl,rfl,rfl,fun _=>rfl⟩ (fun bs hb=>hb.wrote (h.z i x hx) hs.1 c)
  ·rw [if_neg c2] at hR
   rw [hR] at hc
   cases hc
theorem Rel.trunc {m:Mo} {s:PSt} (h:Rel m s) {ls:List ByteArray} (hl:ls≠[]) {i:Int} {x:Nd} (hw:walkL s ls 1=(i,0)) (hx:s.nd i=some x) (hk:x.kind=1) {off:Int} (h0:0≤off) (h1:off≤20299):Rel (bytesM m ls fun bs=>truncB bs off.toNat) (truncOp s i x off).1:=by
 have hs:=(h.inv.inv.nd i x hx).size;unfold truncOp;rw [if_neg (by omega)];have hf:=cut_facts x off;refine h.bytes hl hw hx hk (fun bs=>truncB bs off.toNat) ((Keep2.cut h.inv hx off).mk (Inv.cut h.inv.inv hx (by omega) off h0 (by omega))) (h.all.put (fun t ht=>h.all i x hx t (by rw [hf.2.2.2.1] at ht;exact ht))) (Z1.cut (by omega)) ⟨hf.1,hf.2.2.2.2.2.1,hf.2.1,fun t=>find_same hf.2.2.1 hf.2.2.2.1 t⟩ (fun bs hb=>hb.cut (h.z i x hx) hs.1)
end Go.Proofs.YtmgfilacepnjlaaGreatDoor

namespace Go.Proofs.YtmgfilacepnjlaaGreatDoor
open Go.RowKit

structure Dp (o:OpS) (ls ts:List ByteArray):Prop where
 ok:okOp o
 p:(splitR o.path.data.toList).2=0∧namesOf o.path=ls∧ls≠[]∧∀ t∈ls,t∈lets
 t:(o.kind=3∨o.kind=6)→(splitR o.tto.data.toList).2=0∧namesOf o.tto=ts∧ts≠[]∧∀ t∈ts,t∈lets
 k:1≤o.kind∧o.kind≤8
 made:0≤o.made∧o.made≤1099511627776
 off:(o.kind=7∨o.kind=8)→0≤o.off∧o.off≤20299
 len:o.data.length≤3000
 by_:∀ b∈o.data,0≤b∧b≤255
noncomputable def doneM (m:Mo) (o:OpS) (ls ts:List ByteArray):Mo :=
 if o.kind=1∨o.kind=2 then makeM m ls (decide (o.kind=2)) o.made
 else if o.kind=3 then linkM m ls ts else if o.kind=4∨o.kind=5 then dropM m ls else if o.kind=6 then movedM m ls ts
 else if o.kind=7 then bytesM m ls (fun bs=>writeB bs o.off.toNat o.data) else bytesM m ls (fun bs=>truncB bs o.off.toNat)
theorem lets_nm {ls:List ByteArray} (h:∀ t∈ls,t∈lets):∀ t∈ls,NmOk t:=fun t ht=>(lets_ok t (h t ht)).1
theorem doS_at {s:PSt} {o:OpS} (hok:okOp o) (hk:o.kind=7∨o.kind=8) (hp:(splitR o.path.data.toList).2=0):doS s o=if (walkL s (namesOf o.path) 1).2≠0 then (s,.err (walkL s (namesOf o.path) 1).2) else atOp s (walkL s (namesOf o.path) 1).1 o:=by
 unfold doS;rw [if_neg (fun c=>c hok),if_neg (by omega),if_neg (fun c=>c hp),if_neg (by omega),if_neg (by omega),if_neg (by omega),if_neg (by omega),if_neg (by omega),if_neg (by omega),if_neg (by omega)]
theorem doS_kinds {s:PSt} {o:OpS} {ls ts:List ByteArray} (h:Dp o ls ts):(o.kind=1∨o.kind=2→doS s o=makeOp s ls o.kind o.made)∧(o.kind=3→doS s o=((linkOp s ls ts).1,.err (linkOp s ls ts).2))∧(o.kind=4→doS s o=((unlinkOp s ls).1,.err (unlinkOp s ls).2))∧(o.kind=5→doS s o=((rmdirOp s ls).1,.err (rmdirOp s ls).2))∧(o.kind=6→doS s o=((renameOp s ls ts).1,.err (renameOp s ls ts).2)):=by
 obtain ⟨p1,p2,_,_⟩:=h.p;refine ⟨fun hk => ?_,fun hk => ?_,fun hk => ?_,fun hk => ?_,fun hk => ?_⟩
 ·unfold doS
  rw [if_neg (fun c=>c h.ok),if_neg (by omega),if_neg (fun c=>c p1),if_neg (by omega),p2]
  rcases hk with hk | hk
  ·rw [if_pos hk,hk]
  ·rw [if_neg (by omega),if_pos hk,hk]
 ·obtain ⟨t1,t2,_,_⟩:=h.t (.inl hk)
  unfold doS;rw [if_neg (fun c=>c h.ok),if_neg (by omega),if_neg (fun c=>c p1),if_neg (fun c=>c.2 t1),if_neg (by omega),if_neg (by omega),if_pos hk,p2,t2]
 ·unfold doS
  rw [if_neg (fun c=>c h.ok),if_neg (by omega),if_neg (fun c=>c p1),if_neg (by omega),if_neg (by omega),if_neg (by omega),if_neg (by omega),if_pos hk,p2]
 ·unfold doS
  rw [if_neg (fun c=>c h.ok),if_neg (by omega),if_neg (fun c=>c p1),if_neg (by omega),if_neg (by omega),if_neg (by omega),if_neg (by omega),if_neg (by omega),if_pos hk,p2]
 ·obtain ⟨t1,t2,_,_⟩:=h.t (.inr hk)
  unfold doS;rw [if_neg (fun c=>c h.ok),if_neg (by omega),if_neg (fun c=>c p1),if_neg (fun c=>c.2 t1),if_neg (by omega),if_neg (by omega),if_neg (by omega),if_neg (by omega),if_neg (by omega),if_pos hk,p2,t2]
theorem Rel.says {m:Mo} {s:PSt} (h:Rel m s) {o:OpS} {ls ts:List ByteArray} (hd:Dp o ls ts):Says (codeA (doS s o).2) (fitsP m o.kind ls ts):=by
 obtain ⟨k1,k2,k3,k4,k5⟩:=doS_kinds (s:=s) hd;obtain ⟨p1,p2,p3,p4⟩:=hd.p;have hkr:=hd.k;unfold fitsP
 by_cases c1:o.kind=1∨o.kind=2
 ·rw [k1 c1,if_pos c1]
  exact h.says_make p3 _ _
 ·rw [if_neg c1]
  by_cases c3:o.kind=3
  ·rw [k2 c3,if_pos c3]
   exact h.says_link p3 (hd.t (.inl c3)).2.2.1
  ·rw [if_neg c3]
   by_cases c4:o.kind=4
   ·rw [k3 c4,if_pos c4]
    exact h.says_unlink p3
   ·rw [if_neg c4]
    by_cases c5:o.kind=5
    ·rw [k4 c5,if_pos c5]
     exact h.says_rmdir p3
    ·rw [if_neg c5]
     by_cases c6:o.kind=6
     ·rw [k5 c6,if_pos c6]
      exact h.says_rename p3 (hd.t (.inr c6)).2.2.1
     ·rw [if_neg c6,doS_at hd.ok (by omega) p1,p2]
      rcases walk_or s ls with ⟨j,hj⟩ | hj
      ·obtain ⟨y,hy⟩:=Inv.walk h.inv.inv (ls:=ls) (by rw [hj])
       rw [hj] at hy ⊢;have hy:s.nd j=some y:=hy;have hkd:=h.kind p3 hj hy;rw [if_neg (fun c=>c rfl),hkd.2.1]
       show Says (codeA (atOp s j o).2) (y.kind≠2)
       unfold atOp
       simp only [hy]
       rw [if_neg (by omega),if_neg (by omega)]
       by_cases ck:y.kind=2
       ·rw [if_pos ck]
        exact Says.no (c:=102) (by decide) (by decide) (by decide) fun c=>c ck
       ·rw [if_neg ck]
        have ho:=hd.off (by omega);have hlen:=hd.len
        by_cases c7:o.kind=7
        ·rw [if_pos c7]
         refine Says.yes ?_ ck
         show (writeOp s j y o.off o.data).2=0∨(writeOp s j y o.off o.data).2=80∨(writeOp s j y o.off o.data).2=81
         unfold writeOp;rw [if_neg (by omega)]
         split
         ·exact .inl rfl
         ·split
          ·exact .inl rfl
          ·exact .inr (.inl rfl)
        ·rw [if_neg c7,if_pos (by omega)]
         refine Says.yes (.inl ?_) ck
         show (truncOp s j y o.off).2=0
         unfold truncOp;rw [if_neg (by omega)]
      ·have hn:=no_walk.2 hj
       rw [if_pos hn];have:=walk_code s ls 1
       exact Says.no hn (by show (walkL s ls 1).2≠80;omega) (by show (walkL s ls 1).2≠81;omega) fun c=>(h.nofile p3 hj).1 c
theorem Rel.step {m:Mo} {s:PSt} (h:Rel m s) {o:OpS} {ls ts:List ByteArray} (hd:Dp o ls ts) (hc:codeA (doS s o).2=0):Rel (doneM m o ls ts) (doS s o).1:=by
 have hI:=h.inv.inv;have hsay:=(h.says hd).2 (by omega) (by omega);have hfit:=hsay.1 hc;obtain ⟨k1,k2,k3,k4,k5⟩:=doS_kinds (s:=s) hd;obtain ⟨p1,p2,p3,p4⟩:=hd.p;have hkr:=hd.k;have pl:lastN ls∈lets:=p4 _ (lastN_mem p3);unfold fitsP at hfit;unfold doneM
 by_cases c1:o.kind=1∨o.kind=2
 ·rw [k1 c1] at hc ⊢
  rw [if_pos c1]
  exact h.make p3 (lets_nm p4) pl c1 hd.made hc
 ·rw [if_neg c1] at hfit ⊢
  by_cases c3:o.kind=3
  ·obtain ⟨t1,t2,t3,t4⟩:=hd.t (.inl c3)
   rw [k2 c3] at hc ⊢;rw [if_pos c3]
   exact h.link p3 t3 (lets_nm t4) (t4 _ (lastN_mem t3)) hc
  ·rw [if_neg c3] at hfit ⊢
   have there:∀ A:Option Th,A≠none→A=thAt m ls→∃ j y,walkL s ls 1=(j,0)∧s.nd j=some y:=fun A hA e=>by
    rcases walk_or s ls with ⟨j,hj⟩ | hj
    ·obtain ⟨y,hy⟩:=Inv.walk hI (ls:=ls) (by rw [hj])
     rw [hj] at hy
     exact ⟨j,y,hj,hy⟩
    ·exact absurd (e.trans (h.at_out hj).2.1) hA
   have file:fileT (thAt m ls)→∃ j y,walkL s ls 1=(j,0)∧s.nd j=some y∧y.kind=1:=fun hf=>by
    obtain ⟨t,e1,e2⟩:=hf;obtain ⟨j,y,hj,hy⟩:=there (some t) (fun c=>by cases c) e1.symm;have:=(h.kind p3 hj hy).2.1.1 ⟨t,e1,e2⟩;have hk:=(hI.nd j y hy).kind
    exact ⟨j,y,hj,hy,by omega⟩
   by_cases c4:o.kind=4
   ·rw [if_pos c4] at hfit
    rw [k3 c4] at hc ⊢;rw [if_pos (.inl c4)];obtain ⟨j,y,hj,hy,_⟩:=file hfit
    exact h.unlink p3 hc ⟨j,y,hj,hy⟩
   ·rw [if_neg c4] at hfit
    by_cases c5:o.kind=5
    ·rw [if_pos c5] at hfit
     rw [k4 c5] at hc ⊢;rw [if_pos (.inr c5)];refine h.rmdir p3 hc (there (thAt m ls) (fun c => ?_) rfl);rw [c] at hfit
     cases hfit.1
    ·rw [if_neg c5] at hfit
     rw [if_neg (by omega)]
     by_cases c6:o.kind=6
     ·obtain ⟨t1,t2,t3,t4⟩:=hd.t (.inr c6)
      rw [k5 c6] at hc ⊢;rw [if_pos c6]
      exact h.rename p3 t3 (lets_nm t4) (t4 _ (lastN_mem t3)) hc
     ·rw [if_neg c6] at hfit ⊢
      obtain ⟨j,y,hj,hy,hk⟩:=file hfit;have ho:=hd.off (by omega)
      have e0:doS s o=atOp s j o:=by
       rw [doS_at hd.ok (by omega) p1,p2,hj,if_neg (fun c=>c rfl)]
      rw [e0] at hc ⊢
      by_cases c7:o.kind=7
      ·have e1:atOp s j o=((writeOp s j y o.off o.data).1,.err (writeOp s j y o.off o.data).2):=by
        unfold atOp
        simp only [hy]
        rw [if_neg (by omega),if_neg (by omega),if_neg (by omega),if_pos c7]
       rw [e1] at hc ⊢;rw [if_pos c7]
       exact h.write p3 hj hy hk ho.1 ho.2 hd.len hd.by_ hc
      ·have e1:atOp s j o=((truncOp s j y o.off).1,.err (truncOp s j y o.off).2):=by
        unfold atOp
        simp only [hy]
        rw [if_neg (by omega),if_neg (by omega),if_neg (by omega),if_neg c7,if_pos (by omega)]
       rw [e1];rw [if_neg c7]
       exact h.trunc p3 hj hy hk ho.1 ho.2
theorem Rel.asked {m:Mo} {s:PSt} (h:Rel m s) {ls:List ByteArray} (hl:ls≠[]) (hlet:∀ t∈ls,t∈lets) (hlen:ls.length≤100) :
  (atL m.paths ls < 0∧(codeA (askS s 10 (TP ls) 0)=110∨codeA (askS s 10 (TP ls) 0)=113)) ∨
  ∃ id j y t,(ls,id)∈m.paths∧atL m.paths ls=id∧(1≤id∧id≤m.next)∧walkL s ls 1=(j,0)∧s.nd j=some y∧m.things[(id - 1).toNat]? = some t∧askS s 10 (TP ls) 0=.stat j y∧(t.dir=true↔y.kind=2)∧t.made=y.made∧(linksM m id:Int)=y.links∧(t.dir=true→codeA (askS s 9 (TP ls) 131072)=102)∧(t.dir=false→codeA (askS s 9 (TP ls) 131072)=0∧datA (askS s 9 (TP ls) 131072)=t.bytes∧y.size=t.bytes.length):=by
 obtain ⟨s1,s2⟩:=TP_split (lets_nm hlet) (by rw [sizes_lets hlet];omega)
 rcases walk_or s ls with ⟨j,hj⟩ | hj
 ·obtain ⟨id,y,t,a1,a2,a3,a4,a5,a6,a7,a8,a9,a10,_⟩:=h.at_in hl hj
  have hN:=h.inv.inv.nd j y a4;refine .inr ⟨id,j,y,t,a1,a2,a3,hj,a4,a5,?_,a7,a8,a10,fun hd => ?_,fun hd => ?_⟩
  ·rw [ask_eq s 10 _ 0 (.inl ⟨rfl,rfl⟩),if_neg (fun c=>c s1),s2,hj]
   simp only
   rw [if_neg (fun c=>c rfl),at_eq a4 10 _ 0 (.inl ⟨rfl,rfl⟩),if_pos rfl]
  ·rw [ask_eq s 9 _ 131072 (.inr (.inr ⟨rfl,rfl⟩)),if_neg (fun c=>c s1),s2,hj]
   simp only
   rw [if_neg (fun c=>c rfl),at_eq a4 9 _ 131072 (.inr (.inr ⟨rfl,rfl⟩)),if_neg (by decide),if_neg (by decide),if_pos (a7.1 hd)]
   rfl
  ·have hk:y.kind=1:=by
    rcases hN.kind with q | q
    ·exact q
    ·rw [a7.2 q] at hd;cases hd
   have hc:=a9 hk;have hr:=hc.read (h.z j y a4);rw [ask_eq s 9 _ 131072 (.inr (.inr ⟨rfl,rfl⟩)),if_neg (fun c=>c s1),s2,hj]
   simp only
   rw [if_neg (fun c=>c rfl),at_eq a4 9 _ 131072 (.inr (.inr ⟨rfl,rfl⟩)),if_neg (by decide),if_neg (by decide),if_neg (by omega)];refine ⟨hr.2,hr.1,?_⟩;have:=hc.1;have:=hN.size
   omega
 ·refine .inl ⟨by rw [(h.at_out hj).1];decide,?_⟩
  have hn:=no_walk.2 hj;rw [ask_eq s 10 _ 0 (.inl ⟨rfl,rfl⟩),if_neg (fun c=>c s1),s2,if_pos hn];have:=walk_code s ls 1
  show (walkL s ls 1).2=110∨(walkL s ls 1).2=113
  omega
end Go.Proofs.YtmgfilacepnjlaaGreatDoor

namespace Go.Proofs.YtmgfilacepnjlaaGreatDoor
open Go.RowKit

theorem nmF_nodup (x:Nd):(nmF x).Nodup:=by
 have h:(lets.map (·.data.toList)).Nodup:=by decide
 have h2:lets.Nodup:=by
  have:=nodup_map (f:=id) (g:=fun t:ByteArray=>t.data.toList) h (fun a _ b _ e=>by rw [show a=b from e])
  rwa [List.map_id] at this
 exact List.Pairwise.filter _ h2
open Classical in
theorem count_one {α:Type} {l:List α} (hn:l.Nodup) (p:α→Prop) [DecidablePred p] (hp:∀ a b,p a→p b→a=b):l.countP (fun a=>decide (p a))=if ∃ a∈l,p a then 1 else 0:=by
 induction l with
 | nil=>rw [if_neg (fun ⟨a,h,_⟩=>by cases h)];rfl
 | cons x l ih =>
  rw [List.nodup_cons] at hn;have ih:=ih hn.2;rw [List.countP_cons]
  by_cases c:p x
  ·have h1 : ¬ ∃ a∈l,p a:=fun ⟨a,h,q⟩=>hn.1 (by rw [hp x a c q];exact h)
   rw [if_neg h1] at ih;rw [ih,if_pos (decide_eq_true c),if_pos ⟨x,List.mem_cons_self ..,c⟩]
  ·have h0 : ¬ decide (p x)=true:=by rw [decide_eq_false c];decide
   rw [ih,if_neg h0]
   by_cases c2:∃ a∈l,p a
   ·obtain ⟨a,h,q⟩:=c2
    rw [if_pos ⟨a,h,q⟩,if_pos ⟨a,List.mem_cons_of_mem _ h,q⟩]
   ·rw [if_neg c2,if_neg (fun ⟨a,h,q⟩=>by
     rcases List.mem_cons.1 h with h | h
     ·rw [h] at q;exact c q
     ·exact c2 ⟨a,h,q⟩)]
open Classical in
noncomputable def inN (m:Mo) (D:List ByteArray):Nat:=m.paths.countP fun e=>decide (e.1.dropLast=D)
open Classical in
theorem Rel.listed {m:Mo} {s:PSt} (h:Rel m s) {D:List ByteArray} (hlet:∀ t∈D,t∈lets) (hlen:D.length≤100) :
  (codeA (askS s 11 (TP D) 0)≠0∧D≠[]∧(thAt m D=none∧Go.Proofs.YtmgfilacepnjlaaGreatDoor.thK m.things (atL m.paths D) 0 < 0∨∃ t k,thAt m D=some t∧Go.Proofs.YtmgfilacepnjlaaGreatDoor.thK m.things (atL m.paths D) 0=(k:Nat)∧m.things[k]? = some t∧t.dir=false∧codeA (askS s 11 (TP D) 0)=113)) ∨
  ∃ L:List ByteArray,codeA (askS s 11 (TP D) 0)=0∧(entA (askS s 11 (TP D) 0)).map (·.1)=L∧L.length≤7∧(∀ n∈L,n∈lets∧0≤atL m.paths (D ++ [n]))∧(L.map (·.data.toList)).Pairwise (fun a b=>a≤b∧a≠b)∧inN m D=L.length∧∀ e∈m.paths,L.countP (fun n=>decide (D ++ [n]=e.1))=if e.1.dropLast=D then 1 else 0:=by
 have hI:=h.inv.inv;obtain ⟨s1,s2⟩:=TP_split (lets_nm hlet) (by rw [sizes_lets hlet];omega)
 rcases walk_or s D with ⟨j,hj⟩ | hj
 ·obtain ⟨y,hy⟩:=Inv.walk hI (ls:=D) (by rw [hj])
  rw [hj] at hy;have hy:s.nd j=some y:=hy
  have eA:askS s 11 (TP D) 0=if y.kind=2 then .list (listS s y) else .err 113:=by
   rw [ask_eq s 11 _ 0 (.inr (.inl ⟨rfl,rfl⟩)),if_neg (fun c=>c s1),s2,hj]
   simp only
   rw [if_neg (fun c=>c rfl),at_eq hy 11 _ 0 (.inr (.inl ⟨rfl,rfl⟩)),if_neg (by decide),if_pos rfl]
  by_cases hk:y.kind=2
  ·rw [if_pos hk] at eA
   refine .inr ⟨nmF y,by rw [eA];rfl,by rw [eA];exact listS_names (h.all j y hy),nmF_len y,fun n hn => ?_,?_,?_,fun e he => ?_⟩
   ·refine ⟨(List.mem_filter.1 hn).1,?_⟩
    obtain ⟨k,hk2⟩:=Option.ne_none_iff_exists'.1 ((nmF_mem (h.all j y hy)).1 hn);obtain ⟨id,_,_,_,e1,e2,_⟩:=h.at_in (ls:=D ++ [n]) (by simp) ((walk_snoc hI).2 ⟨j,hj,y,hy,hk2⟩)
    omega
   ·have h0:(lets.map (·.data.toList)).Pairwise (fun a b=>a≤b∧a≠b):=by decide
    exact List.Pairwise.sublist (List.Sublist.map _ (List.filter_sublist)) h0
   ·have e1:(inN m D)=((m.paths.filter fun e=>decide (e.1.dropLast=D)).map fun e=>(lastN e.1).data.toList).length:=by
     unfold inN;rw [List.length_map,List.countP_eq_length_filter]
    have n1:((m.paths.filter fun e=>decide (e.1.dropLast=D)).map fun e=>(lastN e.1).data.toList).Nodup:=by
     refine nodup_map (g:=(·.1)) (List.Nodup.sublist (List.Sublist.map _ (List.filter_sublist)) h.nd) fun a ha b hb q => ?_
     have a1:=of_decide_eq_true (List.mem_filter.1 ha).2;have b1:=of_decide_eq_true (List.mem_filter.1 hb).2;have a2:=(h.ok a (List.mem_filter.1 ha).1).1;have b2:=(h.ok b (List.mem_filter.1 hb).1).1;rw [←last_snoc a2,←last_snoc b2,a1,b1,ba_ext q]
    have n2:((nmF y).map (·.data.toList)).Nodup:=nodup_map (g:=id) (by rw [List.map_id];exact nmF_nodup y) fun a _ b _ q=>ba_ext q
    rw [e1];refine Nat.le_antisymm ?_ ?_
    ·have:=nodup_le ((nmF y).map (·.data.toList)) _ n1 fun q hq=>by
      obtain ⟨e,he,rfl⟩:=List.mem_map.1 hq;obtain ⟨he1,he2⟩:=List.mem_filter.1 he;have he2:=of_decide_eq_true he2;obtain ⟨q1,_,k,q3⟩:=h.ok e he1;rw [←last_snoc q1,he2] at q3;obtain ⟨k2,q4,x,q5,q6⟩:=(walk_snoc hI).1 q3;rw [hj] at q4;rw [←(Prod.mk.inj q4).1,hy] at q5
      cases q5
      exact List.mem_map.2 ⟨_,(nmF_mem (h.all j y hy)).2 (by rw [q6];exact fun c=>by cases c),rfl⟩
     rw [List.length_map] at this;rw [List.length_map] at this ⊢
     exact this
    ·have:=nodup_le ((m.paths.filter fun e=>decide (e.1.dropLast=D)).map fun e=>(lastN e.1).data.toList) ((nmF y).map (·.data.toList)) n2 fun q hq=>by
      obtain ⟨n,hn,rfl⟩:=List.mem_map.1 hq;obtain ⟨k,hk2⟩:=Option.ne_none_iff_exists'.1 ((nmF_mem (h.all j y hy)).1 hn);obtain ⟨id,hid⟩:=h.has (D ++ [n]) k (by simp) ((walk_snoc hI).2 ⟨j,hj,y,hy,hk2⟩);refine List.mem_map.2 ⟨(D ++ [n],id),List.mem_filter.2 ⟨hid,decide_eq_true (by show (D ++ [n]).dropLast=D;simp)⟩,?_⟩
      show (lastN (D ++ [n])).data.toList=_
      rw [lastN_snoc]
     rw [List.length_map] at this
     exact this
   ·rw [count_one (nmF_nodup y) (fun n=>D ++ [n]=e.1) (fun a b qa qb=>by
     have q:=qa.trans qb.symm;have:=List.append_cancel_left q
     simpa using this)]
    have hne:=(h.ok e he).1
    by_cases c:e.1.dropLast=D
    ·rw [if_pos c,if_pos]
     obtain ⟨_,_,k,q3⟩:=h.ok e he;rw [←last_snoc hne,c] at q3;obtain ⟨k2,q4,x,q5,q6⟩:=(walk_snoc hI).1 q3;rw [hj] at q4;rw [←(Prod.mk.inj q4).1,hy] at q5
     cases q5
     refine ⟨lastN e.1,(nmF_mem (h.all j y hy)).2 (by rw [q6];exact fun c=>by cases c),?_⟩;rw [←c,last_snoc hne]
    ·rw [if_neg c,if_neg (fun ⟨n,_,q⟩=>c (by rw [←q];simp))]
  ·rw [if_neg hk] at eA
   have hD:D≠[]:=fun c=>by
    obtain ⟨x,hx,hx2,_⟩:=hI.root;rw [c] at hj;rw [←walk_nil.1 hj,hx] at hy
    cases hy
    exact hk hx2
   obtain ⟨id,y',t,a1,a2,a3,a4,a5,a6,a7,_,_,_,a11⟩:=h.at_in hD hj;rw [hy] at a4
   cases a4
   refine .inl ⟨by rw [eA];show (113:Int)≠0;decide,hD,.inr ⟨t,(id - 1).toNat,a6,by rw [a11];omega,a5,?_,by rw [eA];rfl⟩⟩
   cases hd:t.dir with
   | false=>rfl
   | true=>exact absurd (a7.1 hd) hk
 ·have hn:=no_walk.2 hj
  have hD:D≠[]:=fun c=>by rw [c] at hj;exact hj 1 rfl
  have eA:askS s 11 (TP D) 0=.err (walkL s D 1).2:=by rw [ask_eq s 11 _ 0 (.inr (.inl ⟨rfl,rfl⟩)),if_neg (fun c=>c s1),s2,if_pos hn]
  have ho:=h.at_out hj
  exact .inl ⟨by rw [eA];exact hn,hD,.inl ⟨ho.2.1,by rw [ho.2.2];decide⟩⟩
def SeenK (m:Mo) (s:PSt) (g:Nat→Int):Prop:=∀ k:Nat,g k≠0→∃ ls,(ls,(k:Int))∈m.paths∧walkL s ls 1=(g k,0)
theorem SeenK.fresh {m:Mo} {s:PSt} (h:Rel m s) {g:Nat→Int} (hg:SeenK m s g) {ls:List ByteArray} {id j:Int} (hid:(ls,id)∈m.paths) (hj:walkL s ls 1=(j,0)):(g id.toNat=0∨g id.toNat=j)∧(∀ k:Nat,(k:Int)≠id→g k≠j)∧SeenK m s (fun k=>if (k:Int)=id then j else g k):=by
 have hI:=h.inv.inv;have hr:=(h.ok _ hid).2.1;have hr:1≤id∧id≤m.next:=hr;obtain ⟨y,hy⟩:=Inv.walk hI (ls:=ls) (by rw [hj]);rw [hj] at hy
 have j0:j≠0:=by have:=hI.rng j y hy;omega
 refine ⟨?_,fun k hk c => ?_,fun k hk => ?_⟩
 ·by_cases c:g id.toNat=0
  ·exact .inl c
  ·obtain ⟨l,h1,h2⟩:=hg _ c
   have h1:(l,((id.toNat:Nat):Int))∈m.paths:=h1;rw [show ((id.toNat:Nat):Int)=id by omega] at h1
   exact .inr ((h.same _ h1 _ hid _ _ h2 hj).1 rfl)
 ·obtain ⟨l,h1,h2⟩:=hg k (by rw [c];exact j0)
  rw [c] at h2
  exact hk ((h.same _ h1 _ hid _ _ h2 hj).2 rfl)
 ·show ∃ ls',(ls',(k:Int))∈m.paths∧walkL s ls' 1=(if (k:Int)=id then j else g k,0)
  have hk:(if (k:Int)=id then j else g k)≠0:=hk
  by_cases c:(k:Int)=id
  ·rw [if_pos c,c]
   exact ⟨ls,hid,hj⟩
  ·rw [if_neg c] at hk ⊢
   exact hg k hk
end Go.Proofs.YtmgfilacepnjlaaGreatDoor
