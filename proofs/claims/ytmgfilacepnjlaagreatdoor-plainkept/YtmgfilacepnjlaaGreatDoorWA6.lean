/-
 package plain, as functions: made and taken away; linked and unlinked.
-/
import Derived.Test.YtmgfilacepnjlaaGreatDoorWA3
import Derived.Test.YtmgfilacepnjlaaGreatDoorVM
namespace Go.Proofs.YtmgfilacepnjlaaGreatDoor
open Go.RowKit

theorem Keep2.wrote {s:PSt} {i:Int} {x:Nd} (h:Inv2 s) (hx:s.nd i=some x) (hf:x.kind≠2) (R:Nat→List Int) (o:Nat) (ds:List Int) (hd:ds≠[]) (hr:roomB s x (o / 128) ((o + ds.length - 1) / 128 + 1)=true):Keep2 (s.put i (wroteM x R o ds)):=by
 have hI:=h.inv;have hri:=InvD.rng hI _ x hx;have hnum:=InvD.num hI;have hl:0 < ds.length:=List.length_pos_iff.2 hd
 have hb:∀ y:Int,(wroteM x R o ds).blk y≠none↔(x.blk y≠none∨(((o / 128:Nat):Int)≤y∧128 * y < (o:Int) + ds.length)):=fun y=>by
  show (if 0 < ds.length∧((o / 128:Nat):Int)≤y∧128 * y < (o:Int) + ds.length then some (Value.agg _) else x.blk y)≠none↔_
  by_cases c:0 < ds.length∧((o / 128:Nat):Int)≤y∧128 * y < (o:Int) + ds.length
  ·rw [if_pos c]
   exact ⟨fun _=>.inr c.2,fun _ e=>by cases e⟩
  ·rw [if_neg c]
   exact ⟨.inl,fun e=>e.resolve_right fun e=>c ⟨hl,e⟩⟩
 refine ⟨h.q.put ⟨fun c=>absurd c hf,fun y hy => ?_⟩,?_,Rank.sub h.rank fun d' t' j' e => ?_⟩
 ·show 128 * y < max x.size ((o:Int) + ds.length)
  rcases (hb y).1 hy with c | c
  ·have:=(h.q _ x hx).2 y c
   omega
  ·omega
 ·have t1:=taken_put (x':=wroteM x R o ds) hx (by omega) (by omega)
  have t2:cardN (wroteM x R o ds)=cardQ x (o / 128) ((o + ds.length - 1) / 128 + 1):=cardQ_eq fun m=>by
   unfold TalQ TalP
   constructor
   ·rintro (⟨k,h1,h2⟩ | h1)
    ·rcases (hb k).1 h1 with c | c
     ·exact .inl (.inl ⟨k,c,h2⟩)
     ·exact .inr ⟨k,by omega,by omega,h2⟩
    ·exact .inl (.inr h1)
   ·rintro ((⟨k,h1,h2⟩ | h1) | ⟨k,h1,h2,h3⟩)
    ·exact .inl ⟨k,(hb k).2 (.inl h1),h2⟩
    ·exact .inr h1
    ·exact .inl ⟨k,(hb k).2 (.inr ⟨by omega,by omega⟩),h3⟩
  have:=room_le hr
  show _≤s.data
  omega
 ·rcases Ed.of_put e with ⟨e1,e2⟩ | ⟨_,e2⟩
  ·exact ⟨x,by rw [e1];exact hx,e2⟩
  ·exact e2
theorem cut_facts (x:Nd) (n:Int):(cutN x n).kind=x.kind∧(cutN x n).links=x.links∧(cutN x n).sl=x.sl∧(cutN x n).nm=x.nm∧(cutN x n).size=n∧(cutN x n).made=x.made∧(∀ y,(cutN x n).blk y≠none→x.blk y≠none∧128 * y < n):=by
 unfold cutN
 by_cases c:x.blk (n / 128)=none∨n % 128=0
 ·rw [if_pos c]
  refine ⟨rfl,rfl,rfl,rfl,rfl,rfl,fun y hy => ?_⟩;have hy:(if n≤y * 128 then none else x.blk y)≠none:=hy
  by_cases c2:n≤y * 128
  ·rw [if_pos c2] at hy;exact absurd rfl hy
  ·rw [if_neg c2] at hy;exact ⟨hy,by omega⟩
 ·rw [if_neg c]
  refine ⟨rfl,rfl,rfl,rfl,rfl,rfl,fun y hy => ?_⟩;have hy:(if y=n / 128 then some (Value.agg (SA (cutL (rowsN x (n / 128).toNat) (n % 128).toNat))) else if n≤y * 128 then none else x.blk y)≠none:=hy
  by_cases c1:y=n / 128
  ·have a1:x.blk (n / 128)≠none:=fun e=>c (.inl e)
   have a2:n % 128≠0:=fun e=>c (.inr e)
   rw [c1]
   exact ⟨a1,by omega⟩
  ·rw [if_neg c1] at hy
   by_cases c2:n≤y * 128
   ·rw [if_pos c2] at hy;exact absurd rfl hy
   ·rw [if_neg c2] at hy;exact ⟨hy,by omega⟩
theorem find_same {x y:Nd} (h1:y.sl=x.sl) (h2:y.nm=x.nm) (t:ByteArray):findN y t=findN x t:=by
 unfold findN;rw [h1,h2]
theorem Keep2.cut {s:PSt} {i:Int} {x:Nd} (h:Inv2 s) (hx:s.nd i=some x) (n:Int):Keep2 (s.put i (cutN x n)):=by
 have hI:=h.inv;have hri:=InvD.rng hI _ x hx;have hnum:=InvD.num hI;obtain ⟨c1,c2,c3,c4,c5,_,c6⟩:=cut_facts x n;refine ⟨h.q.put ⟨fun c=>by rw [c2];exact (h.q _ x hx).1 (by rw [←c1];exact c),fun y hy=>by rw [c5];exact (c6 y hy).2⟩,?_,Rank.sub h.rank fun d' t' j' e => ?_⟩
 ·have t1:=taken_put (x':=cutN x n) hx (by omega) (by omega)
  have t2:cardN (cutN x n)≤cardN x:=card_mono fun m=>by
   unfold TalP;rw [c3]
   rintro (⟨k,h1,h2⟩ | h1)
   ·exact .inl ⟨k,(c6 _ h1).1,h2⟩
   ·exact .inr h1
  have:=h.tak
  show _≤s.data
  omega
 ·rcases Ed.of_put e with ⟨e1,e2⟩ | ⟨_,e2⟩
  ·exact ⟨x,by rw [e1];exact hx,by rw [find_same c3 c4] at e2;exact e2⟩
  ·exact e2
theorem Keep2.atOp {s:PSt} {i:Int} {o:OpS} (h:Inv2 s):Keep2 (atOp s i o).1:=by
 unfold Go.Proofs.YtmgfilacepnjlaaGreatDoor.atOp
 cases hx:s.nd i with
 | none=>exact h.keep
 | some x =>
  simp only
  by_cases c1:o.kind=10
  ·rw [if_pos c1];exact h.keep
  ·rw [if_neg c1]
   by_cases c2:o.kind=11
   ·rw [if_pos c2]
    by_cases c3:x.kind=2
    ·rw [if_pos c3];exact h.keep
    ·rw [if_neg c3];exact h.keep
   ·rw [if_neg c2]
    by_cases c3:x.kind=2
    ·rw [if_pos c3];exact h.keep
    ·rw [if_neg c3]
     by_cases c4:o.kind=7
     ·rw [if_pos c4]
      show Keep2 (writeOp s i x o.off o.data).1
      unfold writeOp
      by_cases d1:o.off < 0∨131072 < o.data.length∨136704 - (o.data.length:Int) < o.off
      ·rw [if_pos d1];exact h.keep
      ·rw [if_neg d1]
       by_cases d2:o.data=[]
       ·rw [if_pos d2];exact h.keep
       ·rw [if_neg d2]
        by_cases d3:roomB s x (o.off.toNat / 128) ((o.off.toNat + o.data.length - 1) / 128 + 1)=true
        ·rw [if_pos d3]
         exact Keep2.wrote h hx c3 _ _ _ d2 d3
        ·rw [if_neg d3];exact h.keep
     ·rw [if_neg c4]
      by_cases c5:o.kind=8
      ·rw [if_pos c5]
       show Keep2 (truncOp s i x o.off).1
       unfold truncOp
       by_cases d1:o.off < 0∨136704 < o.off
       ·rw [if_pos d1];exact h.keep
       ·rw [if_neg d1]
        exact Keep2.cut h hx _
      ·rw [if_neg c5]
       by_cases c6:o.kind=9
       ·rw [if_pos c6];exact h.keep
       ·rw [if_neg c6];exact h.keep
theorem Keep2.doS {s:PSt} {o:OpS} (h:Inv2 s):Keep2 (doS s o).1:=by
 unfold Go.Proofs.YtmgfilacepnjlaaGreatDoor.doS
 by_cases e0:okOp o
 ·rw [if_neg (fun c=>c e0)]
  by_cases e1:o.kind=12∨o.kind=14
  ·rw [if_pos e1];exact h.keep
  ·rw [if_neg e1]
   by_cases e2:(splitR o.path.data.toList).2=0
   ·rw [if_neg (fun c=>c e2)]
    by_cases e3:(o.kind=3∨o.kind=6)∧(splitR o.tto.data.toList).2≠0
    ·rw [if_pos e3];exact h.keep
    ·rw [if_neg e3]
     by_cases k1:o.kind=1
     ·rw [if_pos k1];exact Keep2.makeOp h
     ·rw [if_neg k1]
      by_cases k2:o.kind=2
      ·rw [if_pos k2];exact Keep2.makeOp h
      ·rw [if_neg k2]
       by_cases k3:o.kind=3
       ·rw [if_pos k3];exact Keep2.linkOp h
       ·rw [if_neg k3]
        by_cases k4:o.kind=4
        ·rw [if_pos k4];exact Keep2.unlinkOp h
        ·rw [if_neg k4]
         by_cases k5:o.kind=5
         ·rw [if_pos k5];exact Keep2.rmdirOp h
         ·rw [if_neg k5]
          by_cases k6:o.kind=6
          ·rw [if_pos k6]
           exact Keep2.renameOp h (namesOf_ok (Classical.byContradiction fun c=>e3 ⟨.inr k6,c⟩))
          ·rw [if_neg k6]
           by_cases kw:(walkL s (namesOf o.path) 1).2=0
           ·rw [if_neg (fun c=>c kw)];exact Keep2.atOp h
           ·rw [if_pos kw];exact h.keep
   ·rw [if_pos e2];exact h.keep
 ·rw [if_pos e0];exact h.keep
theorem Inv2.doS {s:PSt} {o:OpS} (h:Inv2 s) (hd:∀ b∈o.data,0≤b∧b≤255):Inv2 (doS s o).1:=(Keep2.doS h).mk (Inv.doS h.inv hd)
theorem find_iff {x:Nd} (t:ByteArray):findN x t≠none↔x.nm t≠none:=by
 unfold findN
 cases x.nm t <;> simp
end Go.Proofs.YtmgfilacepnjlaaGreatDoor

namespace Go.Proofs.YtmgfilacepnjlaaGreatDoor
open Go.RowKit

theorem ask_eq (s:PSt) (k:Int) (p:ByteArray) (n:Int) (hk:(k=10∧n=0)∨(k=11∧n=0)∨(k=9∧n=131072)):askS s k p n=if (splitR p.data.toList).2≠0 then .err (splitR p.data.toList).2 else if (walkL s (namesOf p) 1).2≠0 then .err (walkL s (namesOf p) 1).2 else (atOp s (walkL s (namesOf p) 1).1 (askO k p n)).2:=by
 unfold askS;have e0:=ask_ok k p n hk;have hp:(askO k p n).path=p:=rfl;have e1:(askO k p n).kind=k:=rfl;obtain ⟨o,ho⟩:∃ o,o=askO k p n:=⟨_,rfl⟩;rw [←ho] at e0 hp e1 ⊢;unfold doS;rw [if_neg (fun c=>c e0),if_neg (by omega),hp]
 by_cases c2:(splitR p.data.toList).2=0
 ·have hs : ¬ (splitR p.data.toList).2≠0:=fun c=>c c2
  rw [if_neg hs,if_neg (by omega),if_neg (by omega),if_neg (by omega),if_neg (by omega),if_neg (by omega),if_neg (by omega),if_neg (by omega),if_neg hs]
  by_cases kw:(walkL s (namesOf p) 1).2≠0
  ·rw [if_pos kw,if_pos kw]
  ·rw [if_neg kw,if_neg kw]
 ·have hs:(splitR p.data.toList).2≠0:=c2
  rw [if_pos hs,if_pos hs]
theorem at_eq {s:PSt} {i:Int} {x:Nd} (hx:s.nd i=some x) (k:Int) (p:ByteArray) (n:Int) (hk:(k=10∧n=0)∨(k=11∧n=0)∨(k=9∧n=131072)):(atOp s i (askO k p n)).2=if k=10 then .stat i x else if k=11 then (if x.kind=2 then .list (listS s x) else .err 113) else if x.kind=2 then .err 102 else readOp x 0 n:=by
 have e1:(askO k p n).kind=k:=rfl;have e2:(askO k p n).off=0∧(askO k p n).len=n:=⟨rfl,rfl⟩;obtain ⟨o,ho⟩:∃ o,o=askO k p n:=⟨_,rfl⟩;rw [←ho] at e1 e2 ⊢;unfold atOp;rw [hx]
 simp only
 rw [e1,e2.1,e2.2]
 by_cases c10:k=10
 ·rw [if_pos c10,if_pos c10]
 ·rw [if_neg c10,if_neg c10]
  by_cases c11:k=11
  ·rw [if_pos c11,if_pos c11]
   by_cases c:x.kind=2
   ·rw [if_pos c,if_pos c]
   ·rw [if_neg c,if_neg c]
  ·rw [if_neg c11,if_neg c11]
   by_cases c:x.kind=2
   ·rw [if_pos c,if_pos c]
   ·rw [if_neg c,if_neg c,if_neg (by omega),if_neg (by omega),if_pos (by omega)]
def Same (s u:PSt):Prop:=(∀ i,s.nd i=none→u.nd i=none)∧∀ i x,s.nd i=some x→∃ y,u.nd i=some y∧y.kind=x.kind∧y.links=x.links∧y.size=x.size∧y.blk=x.blk
theorem Same.trans {s u v:PSt} (h:Same s u) (k:Same u v):Same s v :=
 ⟨fun i e=>k.1 i (h.1 i e),fun i x e=>by
  obtain ⟨y,h1,h2,h3,h4,h5⟩:=h.2 i x e;obtain ⟨z,k1,k2,k3,k4,k5⟩:=k.2 i y h1
  exact ⟨z,k1,k2.trans h2,k3.trans h3,k4.trans h4,k5.trans h5⟩⟩
theorem Same.put {s:PSt} {i:Int} {x y:Nd} (hx:s.nd i=some x) (h:y.kind=x.kind∧y.links=x.links∧y.size=x.size∧y.blk=x.blk):Same s (s.put i y) :=
 ⟨fun j e=>by rw [PSt.put_ne _ _ (fun c=>by rw [c,hx] at e;cases e)];exact e,fun j z e=>by
  by_cases c:j=i
  ·rw [c,hx] at e
   cases e
   exact ⟨y,by rw [c,PSt.put_at],h⟩
  ·exact ⟨z,by rw [PSt.put_ne _ _ c];exact e,rfl,rfl,rfl,rfl⟩⟩
theorem Ed_put {s:PSt} {i:Int} {x':Nd} {d j:Int} {t:ByteArray}:Ed (s.put i x') d t j↔if d=i then findN x' t=some j else Ed s d t j:=by
 constructor
 ·intro h
  rcases h.of_put with ⟨e,f⟩ | ⟨e,f⟩
  ·rw [if_pos e];exact f
  ·rw [if_neg e];exact f
 ·intro h
  by_cases e:d=i
  ·rw [if_pos e] at h;exact ⟨x',by rw [e,PSt.put_at],h⟩
  ·rw [if_neg e] at h
   obtain ⟨x,h1,h2⟩:=h
   exact ⟨x,by rw [PSt.put_ne _ _ e];exact h1,h2⟩
theorem Ed_at {s:PSt} {i:Int} {x:Nd} (hx:s.nd i=some x) {j:Int} {t:ByteArray}:Ed s i t j↔findN x t=some j :=
 ⟨fun ⟨y,h1,h2⟩=>by rw [hx] at h1;cases h1;exact h2,fun h=>⟨x,hx,h⟩⟩
theorem Ed_ent {s:PSt} {d i:Int} {x:Nd} {k:Nat} {n:ByteArray} (hx:s.nd d=some x) (hN:NdOk x) (hf:Free x.sl k) {d' j:Int} {t:ByteArray}:Ed (s.put d (entN x k n i)) d' t j↔if d'=d∧t=n then i=j else Ed s d' t j:=by
 rw [Ed_put,find_ent hN hf]
 by_cases e:d'=d
 ·subst e
  rw [if_pos rfl]
  by_cases c:t=n
  ·rw [if_pos c,if_pos ⟨rfl,c⟩];exact ⟨Option.some.inj,fun e=>by rw [e]⟩
  ·rw [if_neg c,if_neg (fun h=>c h.2),Ed_at hx]
 ·rw [if_neg e,if_neg (fun h=>e h.1)]
theorem Ed_lea {s:PSt} {d:Int} {x:Nd} {k:Nat} {n:ByteArray} (hx:s.nd d=some x) (hN:NdOk x) (hn:x.nm n=some (k:Int)) {d' j:Int} {t:ByteArray}:Ed (s.put d (leaN x k n)) d' t j↔Ed s d' t j∧¬ (d'=d∧t=n):=by
 rw [Ed_put,find_lea hN hn]
 by_cases e:d'=d
 ·subst e
  rw [if_pos rfl]
  by_cases c:t=n
  ·rw [if_pos c];exact ⟨fun e=>(by cases e),fun h=>absurd ⟨rfl,c⟩ h.2⟩
  ·rw [if_neg c,Ed_at hx];exact ⟨fun h=>⟨h,fun h=>c h.2⟩,fun h=>h.1⟩
 ·rw [if_neg e];exact ⟨fun h=>⟨h,fun h=>e h.1⟩,fun h=>h.1⟩
end Go.Proofs.YtmgfilacepnjlaaGreatDoor

namespace Go.Proofs.YtmgfilacepnjlaaGreatDoor
open Go.RowKit

theorem lastE_of {s:PSt} {ls:List ByteArray} {d:Int} {x:Nd} (hn:ls≠[]) (hw:walkL s ls.dropLast 1=(d,0)) (hx:s.nd d=some x) (hk:x.kind=2):lastE s ls=0∧lastD s ls=d:=by
 have h1:lastD s ls=d:=by unfold lastD;rw [hw]
 refine ⟨?_,h1⟩;unfold lastE;rw [if_neg hn,if_pos (by rw [hw]),h1,hx]
 simp only
 rw [if_pos hk]
theorem walk_keep {s u:PSt} (h:Inv s) (h':Inv u) (hE:∀ d t j,Ed s d t j→Ed u d t j) (l:List ByteArray):∀ i j,walkL s l i=(j,0)→walkL u l i=(j,0):=by
 induction l with
 | nil=>exact fun i j e=>e
 | cons n l ih =>
  intro i j e
  obtain ⟨k,h1,h2⟩:=(walk_iff h).1 e
  exact (walk_iff h').2 ⟨k,hE _ _ _ h1,ih k j h2⟩
end Go.Proofs.YtmgfilacepnjlaaGreatDoor
