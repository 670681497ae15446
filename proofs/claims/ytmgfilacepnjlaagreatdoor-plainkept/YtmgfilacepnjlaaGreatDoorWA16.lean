/-
 package plain, as functions: what may be.
-/
import Derived.Test.YtmgfilacepnjlaaGreatDoorWA13
namespace Go.Proofs.YtmgfilacepnjlaaGreatDoor
open Go.RowKit

theorem walk_more {s u:PSt} (h:Inv s) (h':Inv u) (hq:AllQ s) {d f:Int} {x:Nd} {n:ByteArray} {pre:List ByteArray} (hx:s.nd d=some x) (hk:x.kind=2) (hp:walkL s pre 1=(d,0)) (hE:∀ d' t j,Ed u d' t j↔if d'=d∧t=n then f=j else Ed s d' t j) (hf:∀ t j,¬ Ed s f t j) (hfd:f≠d) (hno:∀ j,¬ Ed s d n j) (l:List ByteArray):∀ j,walkL u l 1=(j,0)↔walkL s l 1=(j,0)∨(l=pre ++ [n]∧j=f):=by
 refine snoc_ind (P:=fun l=>∀ j,walkL u l 1=(j,0)↔walkL s l 1=(j,0)∨(l=pre ++ [n]∧j=f)) (fun j => ?_) (fun a t ih j => ?_) l
 ·rw [walk_nil,walk_nil]
  exact ⟨.inl,fun e=>e.resolve_right fun c=>by simp at c⟩
 ·rw [walk_snoc h',walk_snoc h]
  constructor
  ·rintro ⟨k,h1,h2⟩
   rcases (ih k).1 h1 with h3 | ⟨_,h4⟩
   ·by_cases c:k=d∧t=n
    ·rw [hE,if_pos c] at h2
     rw [c.1] at h3;have:=path_one h hq a pre d x hx hk h3 hp
     exact .inr ⟨by rw [this,c.2],h2.symm⟩
    ·rw [hE,if_neg c] at h2
     exact .inl ⟨k,h3,h2⟩
   ·rw [hE,if_neg (fun c=>hfd (by rw [←h4];exact c.1)),h4] at h2
    exact absurd h2 (hf t j)
  ·rintro (⟨k,h1,h2⟩ | ⟨h1,h2⟩)
   ·refine ⟨k,(ih k).2 (.inl h1),?_⟩
    rw [hE,if_neg (fun c=>by rw [c.1,c.2] at h2;exact hno j h2)]
    exact h2
   ·have e:=List.append_inj' h1 rfl
    refine ⟨d,(ih d).2 (.inl (by rw [e.1];exact hp)),?_⟩
    have et:t=n:=by simpa using e.2
    rw [hE,if_pos ⟨rfl,et⟩]
    exact h2.symm
theorem walk_less {s u:PSt} (h:Inv s) (h':Inv u) (hq:AllQ s) {d f:Int} {x:Nd} {n:ByteArray} {pre:List ByteArray} (hx:s.nd d=some x) (hk:x.kind=2) (hp:walkL s pre 1=(d,0)) (hE:∀ d' t j,Ed u d' t j↔Ed s d' t j∧¬ (d'=d∧t=n)) (hf:Ed s d n f) (hno:∀ t j,¬ Ed s f t j) (l:List ByteArray):∀ j,walkL u l 1=(j,0)↔walkL s l 1=(j,0)∧l≠pre ++ [n]:=by
 refine snoc_ind (P:=fun l=>∀ j,walkL u l 1=(j,0)↔walkL s l 1=(j,0)∧l≠pre ++ [n]) (fun j => ?_) (fun a t ih j => ?_) l
 ·rw [walk_nil,walk_nil]
  exact ⟨fun e=>⟨e,by simp⟩,fun e=>e.1⟩
 ·rw [walk_snoc h',walk_snoc h]
  constructor
  ·rintro ⟨k,h1,h2⟩
   obtain ⟨h3,h4⟩:=(ih k).1 h1;rw [hE] at h2;refine ⟨⟨k,h3,h2.1⟩,fun e=>h2.2 ?_⟩;have e:=List.append_inj' e rfl
   have et:t=n:=by simpa using e.2
   rw [e.1,hp] at h3
   exact ⟨(Prod.mk.inj h3).1.symm,et⟩
  ·rintro ⟨⟨k,h1,h2⟩,h3⟩
   have hne:a≠pre ++ [n]:=fun e=>by
    rw [e] at h1;obtain ⟨m,m1,m2⟩:=(walk_snoc h).1 h1;rw [hp] at m1;have em:=(Prod.mk.inj m1).1;rw [←em] at m2;rw [Ed.one m2 hf] at h2
    exact hno t j h2
   refine ⟨k,(ih k).2 ⟨h1,hne⟩,(hE _ _ _).2 ⟨h2,fun c=>h3 ?_⟩⟩;rw [c.1] at h1;rw [path_one h hq a pre d x hx hk h1 hp,c.2]
theorem pre_snoc {a b:List ByteArray} {t:ByteArray}:a <+: b ++ [t]↔a <+: b∨a=b ++ [t]:=by
 constructor
 ·rintro ⟨r,hr⟩
  by_cases c:r=[]
  ·rw [c,List.append_nil] at hr;exact .inr hr
  ·rw [←List.dropLast_concat_getLast c,←List.append_assoc] at hr
   have e:=List.append_inj' hr rfl
   exact .inl ⟨_,e.1⟩
 ·rintro (⟨r,hr⟩ | e)
  ·exact ⟨r ++ [t],by rw [←List.append_assoc,hr]⟩
  ·rw [e];exact List.prefix_refl _
theorem walk_moved {s u:PSt} (h:Inv s) (h':Inv u) (hq:AllQ s) {d1 d2 i:Int} {x1 x2:Nd} {n1 n2:ByteArray} {p1 p2:List ByteArray} (h1:s.nd d1=some x1) (h2:s.nd d2=some x2) (k1:x1.kind=2) (k2:x2.kind=2) (w1:walkL s p1 1=(d1,0)) (w2:walkL s p2 1=(d2,0)) (f1:Ed s d1 n1 i) (hne : ¬ (d2=d1∧n2=n1))
  (hE:∀ d t j,Ed u d t j↔(if d=d2∧t=n2 then i=j else Ed s d t j)∧¬ (d=d1∧t=n1)) (ho:∀ j,Ed s d2 n2 j→∀ t k,¬ Ed s j t k) (hnb:∀ a,walkL s a i≠(d2,0)) (l:List ByteArray):∀ j,walkL u l 1=(j,0)↔(walkL s l 1=(j,0)∧¬ p1 ++ [n1] <+: l∧l≠p2 ++ [n2])∨∃ r,l=p2 ++ [n2] ++ r∧walkL s (p1 ++ [n1] ++ r) 1=(j,0):=by
 have wi:walkL s (p1 ++ [n1]) 1=(i,0):=(walk_snoc h).2 ⟨d1,w1,f1⟩
 have hp2 : ¬ p1 ++ [n1] <+: p2:=fun ⟨r,hr⟩=>by
  rw [←hr] at w2;obtain ⟨k,q1,q2⟩:=(walk_app h).1 w2;rw [wi] at q1;rw [←(Prod.mk.inj q1).1] at q2
  exact hnb r q2
 have hp1 : ¬ p1 ++ [n1] <+: p1:=fun ⟨r,hr⟩=>by
  have:=congrArg List.length hr
  simp at this
 refine snoc_ind (P:=fun l=>∀ j,walkL u l 1=(j,0)↔(walkL s l 1=(j,0)∧¬ p1 ++ [n1] <+: l∧l≠p2 ++ [n2])∨∃ r,l=p2 ++ [n2] ++ r∧walkL s (p1 ++ [n1] ++ r) 1=(j,0)) (fun j => ?_) (fun a t ih j => ?_) l
 ·rw [walk_nil,walk_nil]
  constructor
  ·intro e
   refine .inl ⟨e,fun ⟨r,hr⟩=>by simp at hr,by simp⟩
  ·rintro (e | ⟨r,hr,_⟩)
   ·exact e.1
   ·simp at hr
 ·rw [walk_snoc h']
  constructor
  ·rintro ⟨k,q1,q2⟩
   rw [hE] at q2
   rcases (ih k).1 q1 with ⟨q3,q4,q5⟩ | ⟨r,q3,q4⟩
   ·by_cases c:k=d2∧t=n2
    ·rw [if_pos c] at q2
     rw [c.1] at q3;have:=path_one h hq a p2 d2 x2 h2 k2 q3 w2;refine .inr ⟨[],by rw [this,c.2,List.append_nil],?_⟩;rw [List.append_nil,wi,q2.1]
    ·rw [if_neg c] at q2
     refine .inl ⟨(walk_snoc h).2 ⟨k,q3,q2.1⟩,fun hc => ?_,fun hc => ?_⟩
     ·rcases pre_snoc.1 hc with hc | hc
      ·exact q4 hc
      ·have e:=List.append_inj' hc rfl
       have et:n1=t:=by simpa using e.2
       rw [←e.1,w1] at q3
       exact q2.2 ⟨(Prod.mk.inj q3).1.symm,et.symm⟩
     ·have e:=List.append_inj' hc rfl
      have et:t=n2:=by simpa using e.2
      rw [e.1,w2] at q3
      exact c ⟨(Prod.mk.inj q3).1.symm,et⟩
   ·have hk:∀ d x,s.nd d=some x→x.kind=2→∀ p,walkL s p 1=(d,0)→¬ p1 ++ [n1] <+: p→k≠d:=fun d x hd hkd p hp hnp e=>by
     rw [e] at q4;have:=path_one h hq _ _ d x hd hkd q4 hp
     exact hnp ⟨r,this⟩
    have c : ¬ (k=d2∧t=n2):=fun c=>hk d2 x2 h2 k2 p2 w2 hp2 c.1
    rw [if_neg c] at q2
    exact .inr ⟨r ++ [t],by rw [q3,List.append_assoc,List.append_assoc],by rw [←List.append_assoc];exact (walk_snoc h).2 ⟨k,q4,q2.1⟩⟩
  ·rintro (⟨q1,q2,q3⟩ | ⟨r,q1,q2⟩)
   ·obtain ⟨k,q4,q5⟩:=(walk_snoc h).1 q1
    have n1' : ¬ p1 ++ [n1] <+: a:=fun c=>q2 (pre_snoc.2 (.inl c))
    have n2':a≠p2 ++ [n2]:=fun c=>by
     rw [c] at q4;obtain ⟨m,m1,m2⟩:=(walk_snoc h).1 q4;rw [w2] at m1;rw [←(Prod.mk.inj m1).1] at m2
     exact ho k m2 t j q5
    refine ⟨k,(ih k).2 (.inl ⟨q4,n1',n2'⟩),(hE _ _ _).2 ⟨?_,fun c => ?_⟩⟩
    ·rw [if_neg (fun c => ?_)]
     ·exact q5
     ·rw [c.1] at q4
      exact q3 (by rw [path_one h hq a p2 d2 x2 h2 k2 q4 w2,c.2])
    ·rw [c.1] at q4
     refine q2 (pre_snoc.2 (.inr ?_));rw [path_one h hq a p1 d1 x1 h1 k1 q4 w1,c.2]
   ·by_cases cr:r=[]
    ·rw [cr,List.append_nil] at q1 q2
     have e:=List.append_inj' q1 rfl
     have et:t=n2:=by simpa using e.2
     refine ⟨d2,(ih d2).2 (.inl ⟨by rw [e.1];exact w2,by rw [e.1];exact hp2,by rw [e.1];exact fun c=>by simp at c⟩),(hE _ _ _).2 ⟨?_,fun c=>hne ⟨c.1,by rw [←et];exact c.2⟩⟩⟩;rw [if_pos ⟨rfl,et⟩];rw [wi] at q2
     exact (Prod.mk.inj q2).1
    ·have er:=List.dropLast_concat_getLast cr
     rw [←er,←List.append_assoc] at q1 q2;have e:=List.append_inj' q1 rfl
     have et:t=r.getLast cr:=by simpa using e.2
     obtain ⟨k,q3,q4⟩:=(walk_snoc h).1 q2
     have hk:∀ d x,s.nd d=some x→x.kind=2→∀ p,walkL s p 1=(d,0)→¬ p1 ++ [n1] <+: p→k≠d:=fun d x hd hkd p hp hnp e=>by
      rw [e] at q3;have:=path_one h hq _ _ d x hd hkd q3 hp
      exact hnp ⟨_,this⟩
     refine ⟨k,(ih k).2 (.inr ⟨r.dropLast,e.1,q3⟩),(hE _ _ _).2 ⟨?_,fun c=>hk d1 x1 h1 k1 p1 w1 hp1 c.1⟩⟩;rw [if_neg (fun c=>hk d2 x2 h2 k2 p2 w2 hp2 c.1),et]
     exact q4
end Go.Proofs.YtmgfilacepnjlaaGreatDoor

namespace Go.Proofs.YtmgfilacepnjlaaGreatDoor
open Go.RowKit

structure Th where
 id:Int
 dir:Bool
 made:Int
 bytes:List Int
structure Mo where
 things:List Th
 paths:List (List ByteArray × Int)
 next:Int
open Classical in
noncomputable def atL:List (List ByteArray × Int)→List ByteArray→Int
 | [],_ => -1
 | e :: l,ls=>if e.1=ls then e.2 else atL l ls
def thK:List Th→Int→Nat→Int
 | [],_,_ => -1
 | t :: l,id,k=>if t.id=id then (k:Int) else thK l id (k + 1)
noncomputable def thAt (m:Mo) (ls:List ByteArray):Option Th:=if 0≤thK m.things (atL m.paths ls) 0 then m.things[(thK m.things (atL m.paths ls) 0).toNat]? else none
def dirT (o:Option Th):Bool:=match o with | some t=>t.dir | none=>false
noncomputable def dirM (m:Mo) (ls:List ByteArray):Bool:=if ls.length=1 then true else dirT (thAt m ls.dropLast)
open Classical in
noncomputable def fullM (m:Mo) (ls:List ByteArray):Bool:=m.paths.any fun e=>decide (ls.length < e.1.length∧e.1.take ls.length=ls)
open Classical in
noncomputable def linksM (m:Mo) (id:Int):Nat:=m.paths.countP fun e=>decide (e.2=id)
theorem atL_in:∀ {l:List (List ByteArray × Int)} {ls:List ByteArray} {id:Int},(l.map (·.1)).Nodup→(ls,id)∈l→atL l ls=id
 | e :: l,ls,id,hn,h=>by
  rw [List.map_cons,List.nodup_cons] at hn;unfold atL
  rcases List.mem_cons.1 h with h | h
  ·rw [←h,if_pos rfl]
  ·rw [if_neg (fun c=>hn.1 (by rw [c];exact List.mem_map.2 ⟨_,h,rfl⟩))]
   exact atL_in hn.2 h
theorem atL_out:∀ {l:List (List ByteArray × Int)} {ls:List ByteArray},(∀ id,(ls,id) ∉ l)→atL l ls = -1
 | [],_,_=>rfl
 | e :: l,ls,h=>by
  unfold atL;rw [if_neg (fun c=>h e.2 (by rw [←c];exact List.mem_cons_self ..))]
  exact atL_out fun id c=>h id (List.mem_cons_of_mem _ c)
theorem thK_is:∀ (l:List Th) (id:Int) (k:Nat),(∀ (i:Nat) t,l[i]? = some t→t.id=((k + i:Nat):Int) + 1)→thK l id k=if (k:Int) + 1≤id∧id≤(k:Int) + l.length then id - 1 else -1
 | [],id,k,_=>by
  unfold thK;rw [if_neg (by simp;omega)]
 | t :: l,id,k,h=>by
  have h0:=h 0 t rfl
  have ih:=thK_is l id (k + 1) (fun i u hu=>by
   have:=h (i + 1) u hu;rw [this]
   congr 2
   omega)
  unfold thK
  by_cases c:t.id=id
  ·rw [if_pos c,if_pos (by simp only [List.length_cons];omega)]
   omega
  ·rw [if_neg c,ih]
   by_cases c2:((k + 1:Nat):Int) + 1≤id∧id≤((k + 1:Nat):Int) + l.length
   ·rw [if_pos c2,if_pos (by simp only [List.length_cons];omega)]
   ·rw [if_neg c2,if_neg (by simp only [List.length_cons];omega)]
structure Rel (m:Mo) (s:PSt):Prop where
 inv:Inv2 s
 all:AllL s
 z:AllZ s
 ino:s.ino≤11
 nx:m.next=m.things.length
 ids:∀ (k:Nat) t,m.things[k]? = some t→t.id=(k:Int) + 1
 nd:(m.paths.map (·.1)).Nodup
 ok:∀ e∈m.paths,e.1≠[]∧(1≤e.2∧e.2≤m.next)∧∃ j,walkL s e.1 1=(j,0)
 has:∀ ls j,ls≠[]→walkL s ls 1=(j,0)→∃ id,(ls,id)∈m.paths
 same:∀ e∈m.paths,∀ e'∈m.paths,∀ j j',walkL s e.1 1=(j,0)→walkL s e'.1 1=(j',0)→(e.2=e'.2↔j=j')
 th:∀ e∈m.paths,∀ j y,walkL s e.1 1=(j,0)→s.nd j=some y→∃ t,m.things[(e.2 - 1).toNat]? = some t∧(t.dir=true↔y.kind=2)∧t.made=y.made∧(y.kind=1→Cont y t.bytes)∧(linksM m e.2:Int)=y.links
theorem Rel.thK {m:Mo} {s:PSt} (h:Rel m s) (id:Int):thK m.things id 0=if 1≤id∧id≤m.next then id - 1 else -1:=by
 rw [thK_is m.things id 0 (fun i t ht=>by rw [h.ids i t ht,Nat.zero_add]),h.nx]
 simp
theorem Rel.at_in {m:Mo} {s:PSt} (h:Rel m s) {ls:List ByteArray} (hl:ls≠[]) {j:Int} (hj:walkL s ls 1=(j,0)):∃ id y t,(ls,id)∈m.paths∧atL m.paths ls=id∧(1≤id∧id≤m.next)∧s.nd j=some y∧m.things[(id - 1).toNat]? = some t∧thAt m ls=some t∧(t.dir=true↔y.kind=2)∧t.made=y.made∧(y.kind=1→Cont y t.bytes)∧(linksM m id:Int)=y.links∧Go.Proofs.YtmgfilacepnjlaaGreatDoor.thK m.things (atL m.paths ls) 0=id - 1:=by
 obtain ⟨id,hid⟩:=h.has ls j hl hj;obtain ⟨y,hy⟩:=Inv.walk h.inv.inv (ls:=ls) (by rw [hj]);rw [hj] at hy;obtain ⟨t,h1,h2,h3,h4,h5⟩:=h.th _ hid j y hj hy;have hr:=(h.ok _ hid).2.1;have ha:=atL_in h.nd hid
 have hk:Go.Proofs.YtmgfilacepnjlaaGreatDoor.thK m.things (atL m.paths ls) 0=id - 1:=by rw [ha,h.thK,if_pos hr]
 refine ⟨id,y,t,hid,ha,hr,hy,h1,?_,h2,h3,h4,h5,hk⟩;unfold thAt;rw [hk];have hr:1≤id∧id≤m.next:=hr;rw [if_pos (by omega)]
 exact h1
theorem Rel.at_out {m:Mo} {s:PSt} (h:Rel m s) {ls:List ByteArray} (hj:∀ j,walkL s ls 1≠(j,0)):atL m.paths ls = -1∧thAt m ls=none∧Go.Proofs.YtmgfilacepnjlaaGreatDoor.thK m.things (atL m.paths ls) 0 = -1:=by
 have ha:atL m.paths ls = -1:=atL_out fun id c=>by
  obtain ⟨j,h1⟩:=(h.ok _ c).2.2
  exact hj j h1
 have hk:Go.Proofs.YtmgfilacepnjlaaGreatDoor.thK m.things (atL m.paths ls) 0 = -1:=by rw [ha,h.thK,if_neg (by omega)]
 refine ⟨ha,?_,hk⟩;unfold thAt;rw [hk,if_neg (by omega)]
theorem nodup_map {α β γ:Type} {f:α→β} {g:α→γ}:∀ {l:List α},(l.map g).Nodup→(∀ a∈l,∀ b∈l,f a=f b→g a=g b)→(l.map f).Nodup
 | [],_,_=>List.nodup_nil
 | x :: l,h,hi=>by
  rw [List.map_cons,List.nodup_cons] at h ⊢;refine ⟨fun c => ?_,nodup_map h.2 fun a ha b hb=>hi a (List.mem_cons_of_mem _ ha) b (List.mem_cons_of_mem _ hb)⟩;obtain ⟨y,hy,e⟩:=List.mem_map.1 c
  exact h.1 (List.mem_map.2 ⟨y,hy,hi y (List.mem_cons_of_mem _ hy) x (List.mem_cons_self ..) e⟩)
theorem lastN_snoc (a:List ByteArray) (t:ByteArray):lastN (a ++ [t])=t:=by
 unfold lastN
 simp
theorem Rel.few {m:Mo} {s:PSt} (h:Rel m s):m.paths.length≤77:=by
 have hI:=h.inv.inv;have hnum:=hI.num
 have hd:∀ e∈m.paths,∃ a t d x,e.1=a ++ [t]∧walkL s a 1=(d,0)∧s.nd d=some x∧x.kind=2∧t∈lets:=fun e he=>by
  obtain ⟨h1,_,j,h3⟩:=h.ok e he;rw [←last_snoc h1] at h3;obtain ⟨d,q1,x,q2,q3⟩:=(walk_snoc hI).1 h3
  exact ⟨_,_,d,x,(last_snoc h1).symm,q1,q2,find_dir (hI.nd d x q2) q3,h.all d x q2 _ ((find_iff _).1 (by rw [q3];exact fun c=>by cases c))⟩
 let f:List ByteArray × Int→Nat × List UInt8:=fun e=>((walkL s e.1.dropLast 1).1.toNat,(lastN e.1).data.toList)
 have hn:(m.paths.map f).Nodup:=nodup_map (g:=(·.1)) h.nd fun e he e' he' hf=>by
  obtain ⟨a,t,d,x,q1,q2,q3,q4,q5⟩:=hd e he;obtain ⟨a',t',d',x',r1,r2,r3,r4,r5⟩:=hd e' he';have hf:((walkL s e.1.dropLast 1).1.toNat,(lastN e.1).data.toList)=((walkL s e'.1.dropLast 1).1.toNat,(lastN e'.1).data.toList):=hf;rw [q1,r1,List.dropLast_concat,List.dropLast_concat,q2,r2,lastN_snoc,lastN_snoc] at hf;have hf1:d.toNat=d'.toNat:=(Prod.mk.inj hf).1;have hf2:=ba_ext (Prod.mk.inj hf).2;have g1:=hI.rng d x q3;have g2:=hI.rng d' x' r3
  have e1:d=d':=by omega
  rw [e1] at q2 q3
  show e.1=e'.1
  rw [q1,r1,hf2,path_one hI h.inv.q a a' d' x q3 q4 q2 r2]
 have hsub:=nodup_le ((List.range 12).flatMap fun d=>if 1≤d then lets.map fun t=>(d,t.data.toList) else []) (m.paths.map f) hn (fun y hy=>by
  obtain ⟨e,he,rfl⟩:=List.mem_map.1 hy;obtain ⟨a,t,d,x,q1,q2,q3,q4,q5⟩:=hd e he;have g1:=hI.rng d x q3;have hio:=h.ino;refine List.mem_flatMap.2 ⟨d.toNat,List.mem_range.2 (by omega),?_⟩;rw [if_pos (by omega)];refine List.mem_map.2 ⟨t,q5,?_⟩
  show _=((walkL s e.1.dropLast 1).1.toNat,(lastN e.1).data.toList)
  rw [q1,List.dropLast_concat,q2,lastN_snoc])
 rw [List.length_map] at hsub
 have hc:((List.range 12).flatMap fun d=>if 1≤d then lets.map fun t=>(d,t.data.toList) else []).length=77:=by decide
 omega
theorem Rel.names {m:Mo} {s:PSt} (h:Rel m s):∀ e∈m.paths,(∀ t∈e.1,t∈lets)∧e.1.length≤11:=fun e he=>by
 obtain ⟨_,_,j,hj⟩:=h.ok e he;obtain ⟨_,_,h3,h4⟩:=path_ok h.inv h.all h.ino hj
 exact ⟨h3,h4⟩
theorem least0_ne:∀ (l:List Int) (k:Nat),k < least0 l→l.getD k 0≠0
 | [],k,h=>absurd h (Nat.not_lt_zero _)
 | x :: l,k,h=>by
  unfold least0 at h
  by_cases c:x=0
  ·rw [if_pos c] at h;exact absurd h (Nat.not_lt_zero _)
  ·rw [if_neg c] at h
   cases k with
   | zero=>exact c
   | succ k=>exact least0_ne l k (by omega)
theorem least_few {x:Nd} (hN:NdOk x) (h:PL x):least0 x.sl≤7:=by
 have key:∀ n,n≤least0 x.sl→∃ L:List ByteArray,L.length=n∧L.Nodup∧(∀ t∈L,t∈lets)∧∀ t∈L,∃ k:Nat,k < n∧x.nm t=some (k:Int):=fun n=>by
  induction n with
  | zero=>exact fun _=>⟨[],rfl,List.nodup_nil,(fun _ h=>by cases h),fun _ h=>by cases h⟩
  | succ n ih =>
   intro hn
   obtain ⟨L,h1,h2,h3,h4⟩:=ih (by omega);have hl:=least0_le x.sl;obtain ⟨t,ht⟩:=hN.sur n (by omega) (least0_ne _ n (by omega));refine ⟨t :: L,by rw [List.length_cons,h1],List.nodup_cons.2 ⟨fun c => ?_,h2⟩,fun u hu => ?_,fun u hu => ?_⟩
   ·obtain ⟨k,k1,k2⟩:=h4 t c
    rw [ht] at k2;have:=Option.some.inj k2
    omega
   ·rcases List.mem_cons.1 hu with rfl | hu
    ·exact h u (by rw [ht];exact fun c=>by cases c)
    ·exact h3 u hu
   ·rcases List.mem_cons.1 hu with rfl | hu
    ·exact ⟨n,Nat.lt_succ_self n,ht⟩
    ·obtain ⟨k,k1,k2⟩:=h4 u hu
     exact ⟨k,by omega,k2⟩
 obtain ⟨L,h1,h2,h3,_⟩:=key (least0 x.sl) (Nat.le_refl _)
 have e:(L.map (·.data.toList)).Nodup:=nodup_map (g:=id) (by rw [List.map_id];exact h2) fun a _ b _ e=>ba_ext e
 have:=nodup_le (lets.map (·.data.toList)) (L.map (·.data.toList)) e (fun y hy=>by
  obtain ⟨t,ht,rfl⟩:=List.mem_map.1 hy
  exact List.mem_map.2 ⟨t,h3 t ht,rfl⟩)
 rw [List.length_map,List.length_map] at this;rw [←h1]
 exact this
theorem Rel.place {m:Mo} {s:PSt} (h:Rel m s) {d:Int} {x:Nd} (hx:s.nd d=some x):(placeL s x).2=0∨(placeL s x).2=80:=by
 have:=least_few (h.inv.inv.nd d x hx) (h.all d x hx);unfold placeL;rw [if_neg (by omega)]
 split
 ·exact .inl rfl
 ·exact .inr rfl
theorem Rel.links {m:Mo} {s:PSt} (h:Rel m s) {ls:List ByteArray} (hl:ls≠[]) {j:Int} {y:Nd} (hj:walkL s ls 1=(j,0)) (hy:s.nd j=some y):y.links≠100:=by
 obtain ⟨id,y',t,_,_,_,e1,_,_,_,_,_,e2,_⟩:=h.at_in hl hj;rw [hy] at e1
 cases e1
 have h1:linksM m id≤m.paths.length:=List.countP_le_length;have:=h.few
 omega
end Go.Proofs.YtmgfilacepnjlaaGreatDoor

namespace Go.Proofs.YtmgfilacepnjlaaGreatDoor
open Go.RowKit

def fileT (o:Option Th):Prop:=∃ t,o=some t∧t.dir=false
def fitsP (m:Mo) (k:Int) (ls ts:List ByteArray):Prop :=
 if k=1∨k=2 then thAt m ls=none∧dirM m ls=true
 else if k=3 then fileT (thAt m ls)∧atL m.paths ts < 0∧dirM m ts=true
 else if k=4 then fileT (thAt m ls)
 else if k=5 then dirT (thAt m ls)=true∧fullM m ls=false
 else if k=6 then (thAt m ls≠none∧dirM m ts=true)∧(ls=ts∨if dirT (thAt m ls)=true then thAt m ts=none∧belowB ts ls=false else thAt m ts=none∨fileT (thAt m ts))
 else fileT (thAt m ls)
theorem no_walk {s:PSt} {ls:List ByteArray}:(walkL s ls 1).2≠0↔∀ j,walkL s ls 1≠(j,0) :=
 ⟨fun h j e=>h (by rw [e]),fun h e=>h (walkL s ls 1).1 (by rw [←e])⟩
theorem walk_or (s:PSt) (ls:List ByteArray):(∃ j,walkL s ls 1=(j,0))∨∀ j,walkL s ls 1≠(j,0):=by
 by_cases c:(walkL s ls 1).2=0
 ·exact .inl ⟨(walkL s ls 1).1,by rw [←c]⟩
 ·exact .inr (no_walk.1 c)
theorem Rel.none_iff {m:Mo} {s:PSt} (h:Rel m s) {ls:List ByteArray} (hl:ls≠[]):thAt m ls=none↔∀ j,walkL s ls 1≠(j,0):=by
 constructor
 ·intro e j hj
  obtain ⟨_,_,t,_,_,_,_,_,e2,_⟩:=h.at_in hl hj;rw [e] at e2
  cases e2
 ·exact fun e=>(h.at_out e).2.1
theorem Rel.at_neg {m:Mo} {s:PSt} (h:Rel m s) {ls:List ByteArray} (hl:ls≠[]):atL m.paths ls < 0↔∀ j,walkL s ls 1≠(j,0):=by
 constructor
 ·intro e j hj
  obtain ⟨id,_,_,_,e1,e2,_⟩:=h.at_in hl hj
  omega
 ·intro e
  rw [(h.at_out e).1]
  omega
theorem Rel.kind {m:Mo} {s:PSt} (h:Rel m s) {ls:List ByteArray} (hl:ls≠[]) {j:Int} {y:Nd} (hj:walkL s ls 1=(j,0)) (hy:s.nd j=some y):(dirT (thAt m ls)=true↔y.kind=2)∧(fileT (thAt m ls)↔y.kind≠2)∧thAt m ls≠none:=by
 obtain ⟨id,y',t,_,_,_,e1,_,e2,e3,_⟩:=h.at_in hl hj;rw [hy] at e1
 cases e1
 rw [e2];refine ⟨e3,?_,fun c=>by cases c⟩
 constructor
 ·rintro ⟨t',h1,h2⟩ c
  cases h1
  rw [e3.2 c] at h2
  cases h2
 ·intro c
  refine ⟨t,rfl,?_⟩
  cases hd:t.dir with
  | false=>rfl
  | true=>exact absurd (e3.1 hd) c
theorem Rel.nofile {m:Mo} {s:PSt} (h:Rel m s) {ls:List ByteArray} (hl:ls≠[]) (hj:∀ j,walkL s ls 1≠(j,0)) : ¬ fileT (thAt m ls)∧dirT (thAt m ls)=false∧thAt m ls=none:=by
 have e:=(h.none_iff hl).2 hj;rw [e]
 exact ⟨fun ⟨t,h1,_⟩=>(by cases h1),rfl,rfl⟩
theorem Rel.dir_iff {m:Mo} {s:PSt} (h:Rel m s) {ls:List ByteArray} (hl:ls≠[]):dirM m ls=true↔lastE s ls=0:=by
 have hI:=h.inv.inv;unfold dirM
 by_cases c:ls.length=1
 ·rw [if_pos c]
  refine ⟨fun _ => ?_,fun _=>rfl⟩;obtain ⟨x,hx,hk,_⟩:=hI.root;have e:ls.dropLast=[]:=List.length_eq_zero_iff.1 (by rw [List.length_dropLast];omega)
  exact (lastE_of hl (by rw [e];rfl) hx hk).1
 ·rw [if_neg c]
  have hd:ls.dropLast≠[]:=fun e=>by
   have:=congrArg List.length e;rw [List.length_dropLast] at this;have:=List.length_pos_iff.2 hl
   simp at *
   omega
  rcases walk_or s ls.dropLast with ⟨j,hj⟩ | hj
  ·obtain ⟨y,hy⟩:=Inv.walk hI (ls:=ls.dropLast) (by rw [hj])
   rw [hj] at hy;have hk:=h.kind hd hj hy;rw [hk.1]
   constructor
   ·exact fun e=>(lastE_of hl hj hy e).1
   ·intro e
    obtain ⟨x,hx,hx2⟩:=lastE_dir e;have:=lastE_walk e;rw [hj] at this;rw [←(Prod.mk.inj this).1] at hx;rw [hx] at hy
    cases hy
    exact hx2
  ·rw [(h.nofile hd hj).2.1]
   refine ⟨fun e=>(by cases e),fun e=>absurd (lastE_walk e) (hj _)⟩
theorem Rel.full_iff {m:Mo} {s:PSt} (h:Rel m s) {ls:List ByteArray} {j:Int} {y:Nd} (hj:walkL s ls 1=(j,0)) (hy:s.nd j=some y):fullM m ls=true↔∃ t,y.nm t≠none:=by
 have hI:=h.inv.inv;unfold fullM;rw [List.any_eq_true]
 constructor
 ·rintro ⟨e,he,hd⟩
  obtain ⟨h1,h2⟩:=of_decide_eq_true hd;obtain ⟨k,hk⟩:=(h.ok e he).2.2
  have e1:e.1=ls ++ e.1.drop ls.length:=by
   have:=List.take_append_drop ls.length e.1;rw [h2] at this
   exact this.symm
  rw [e1] at hk;obtain ⟨k2,q1,q2⟩:=(walk_app hI).1 hk;rw [hj] at q1;rw [←(Prod.mk.inj q1).1] at q2
  cases hr:e.1.drop ls.length with
  | nil =>
   have:=congrArg List.length hr;rw [List.length_drop] at this
   simp at this
   omega
  | cons t r =>
   rw [hr] at q2;obtain ⟨k3,⟨x,hx,hf⟩,_⟩:=(walk_iff hI).1 q2;rw [hy] at hx
   cases hx
   exact ⟨t,(find_iff t).1 (by rw [hf];exact fun c=>by cases c)⟩
 ·rintro ⟨t,ht⟩
  obtain ⟨k,hk⟩:=Option.ne_none_iff_exists'.1 ((find_iff t).2 ht);obtain ⟨id,hid⟩:=h.has (ls ++ [t]) k (by simp) ((walk_snoc hI).2 ⟨j,hj,y,hy,hk⟩)
  exact ⟨_,hid,decide_eq_true ⟨by simp,by simp⟩⟩
def Says (c:Int) (f:Prop):Prop:=(c=80∨c=81→f)∧(c≠80→c≠81→(c=0↔f))
theorem Says.no {c:Int} {f:Prop} (h0:c≠0) (h1:c≠80) (h2:c≠81) (hf : ¬ f):Says c f:=⟨fun e=>by omega,fun _ _=>⟨fun e=>absurd e h0,fun e=>absurd e hf⟩⟩
theorem Says.yes {c:Int} {f:Prop} (h:c=0∨c=80∨c=81) (hf:f):Says c f:=⟨fun _=>hf,fun h1 h2=>⟨fun _=>hf,fun _=>by omega⟩⟩
theorem Rel.says_make {m:Mo} {s:PSt} (h:Rel m s) {ls:List ByteArray} (hl:ls≠[]) (kind made:Int):Says (codeA (makeOp s ls kind made).2) (thAt m ls=none∧dirM m ls=true):=by
 have hI:=h.inv.inv;rw [h.dir_iff hl,h.none_iff hl];unfold makeOp
 by_cases e:lastE s ls=0
 ·rw [if_neg (fun c=>c e)]
  obtain ⟨x,hx,hx2⟩:=lastE_dir e;rw [hx]
  simp only
  have hw:=fun i=>walk_last hI e hx (i:=i)
  cases hf:findN x (lastN ls) with
  | some i =>
   rw [if_pos (show (some i).isSome=true from rfl)]
   exact Says.no (c:=111) (by decide) (by decide) (by decide) fun c=>c.1 i ((hw i).2 hf)
  | none =>
   rw [if_neg (by simp)];have hyes:(∀ j,walkL s ls 1≠(j,0))∧lastE s ls=0:=⟨(fun j c=>by rw [(hw j).1 c] at hf;cases hf),e⟩
   by_cases hc:(nodesN s:Int)=s.ino
   ·rw [if_pos hc];exact Says.yes (.inr (.inr rfl)) hyes
   ·rw [if_neg hc]
    rcases h.place hx with hp | hp
    ·rw [if_neg (fun c=>c hp)];exact Says.yes (.inl rfl) hyes
    ·rw [if_pos (by rw [hp];decide)]
     exact Says.yes (.inr (.inl hp)) hyes
 ·rw [if_pos e]
  have:=lastE_code s ls
  exact Says.no e (by show lastE s ls≠80;omega) (by show lastE s ls≠81;omega) fun c=>e c.2
theorem Rel.says_link {m:Mo} {s:PSt} (h:Rel m s) {ls ts:List ByteArray} (hl:ls≠[]) (ht:ts≠[]):Says (linkOp s ls ts).2 (fileT (thAt m ls)∧atL m.paths ts < 0∧dirM m ts=true):=by
 have hI:=h.inv.inv;rw [h.dir_iff ht,h.at_neg ht];unfold linkOp
 rcases walk_or s ls with ⟨j,hj⟩ | hj
 ·obtain ⟨y,hy⟩:=Inv.walk hI (ls:=ls) (by rw [hj])
  rw [hj] at hy ⊢;rw [if_neg (fun c=>c rfl)];have hk:=h.kind hl hj hy;rw [hk.2.1]
  by_cases e:lastE s ts=0
  ·rw [if_neg (fun c=>c e)]
   obtain ⟨x,hx,hx2⟩:=lastE_dir e;rw [hx,hy]
   simp only
   have hw:=fun i=>walk_last hI e hx (i:=i)
   cases hf:findN x (lastN ts) with
   | some i =>
    rw [if_pos (show (some i).isSome=true from rfl)]
    exact Says.no (c:=111) (by decide) (by decide) (by decide) fun c=>c.2.1 i ((hw i).2 hf)
   | none =>
    rw [if_neg (by simp)]
    by_cases hk2:y.kind=2
    ·rw [if_pos hk2];exact Says.no (c:=102) (by decide) (by decide) (by decide) fun c=>c.1 hk2
    ·rw [if_neg hk2,if_neg (h.links hl hj hy)]
     have hyes:y.kind≠2∧(∀ j,walkL s ts 1≠(j,0))∧lastE s ts=0:=⟨hk2,(fun j c=>by rw [(hw j).1 c] at hf;cases hf),e⟩
     rcases h.place hx with hp | hp
     ·rw [if_neg (fun c=>c hp)];exact Says.yes (.inl rfl) hyes
     ·rw [if_pos (by rw [hp];decide)]
      exact Says.yes (.inr (.inl hp)) hyes
  ·rw [if_pos e]
   have:=lastE_code s ts
   exact Says.no e (by show lastE s ts≠80;omega) (by show lastE s ts≠81;omega) fun c=>e c.2.2
 ·have hn:=no_walk.2 hj
  rw [if_pos hn];have:=walk_code s ls 1
  exact Says.no hn (by show (walkL s ls 1).2≠80;omega) (by show (walkL s ls 1).2≠81;omega) fun c=>(h.nofile hl hj).1 c.1
theorem Rel.says_unlink {m:Mo} {s:PSt} (h:Rel m s) {ls:List ByteArray} (hl:ls≠[]):Says (unlinkOp s ls).2 (fileT (thAt m ls)):=by
 have hI:=h.inv.inv;unfold unlinkOp
 by_cases e:lastE s ls=0
 ·rw [if_neg (fun c=>c e)]
  obtain ⟨x,hx,hx2⟩:=lastE_dir e;rw [hx]
  simp only
  have hw:=fun i=>walk_last hI e hx (i:=i)
  have hN:=hI.nd _ x hx
  cases hk:x.nm (lastN ls) with
  | none =>
   exact Says.no (c:=110) (by decide) (by decide) (by decide) fun c=>(h.nofile hl fun j cj=>(by have:=(hw j).1 cj;rw [find_no hk] at this;cases this)).1 c
  | some k =>
   have hf:findN x (lastN ls)=some (x.sl.getD k.toNat 0):=find_eq (nm_nat hN hk);have hj:=(hw _).2 hf;obtain ⟨y,hy⟩:=Inv.walk hI (ls:=ls) (by rw [hj]);rw [hj] at hy
   simp only
   rw [hy]
   simp only
   have hkd:=h.kind hl hj hy;rw [hkd.2.1]
   by_cases c:y.kind=2
   ·rw [if_pos c];exact Says.no (c:=102) (by decide) (by decide) (by decide) fun d=>d c
   ·rw [if_neg c];exact Says.yes (.inl rfl) c
 ·rw [if_pos e]
  have:=lastE_code s ls
  refine Says.no e (by show lastE s ls≠80;omega) (by show lastE s ls≠81;omega) fun c => ?_
  rcases walk_or s ls with ⟨j,hj⟩ | hj
  ·rw [←last_snoc hl] at hj
   obtain ⟨k,q1,x,q2,q3⟩:=(walk_snoc hI).1 hj
   exact e (lastE_of hl q1 q2 (find_dir (hI.nd k x q2) q3)).1
  ·exact (h.nofile hl hj).1 c
theorem Rel.says_rmdir {m:Mo} {s:PSt} (h:Rel m s) {ls:List ByteArray} (hl:ls≠[]):Says (rmdirOp s ls).2 (dirT (thAt m ls)=true∧fullM m ls=false):=by
 have hI:=h.inv.inv;unfold rmdirOp
 by_cases e:lastE s ls=0
 ·rw [if_neg (fun c=>c e)]
  obtain ⟨x,hx,hx2⟩:=lastE_dir e;rw [hx]
  simp only
  have hw:=fun i=>walk_last hI e hx (i:=i)
  have hN:=hI.nd _ x hx
  cases hk:x.nm (lastN ls) with
  | none =>
   refine Says.no (c:=110) (by decide) (by decide) (by decide) fun c => ?_
   rw [(h.nofile hl fun j cj=>by have:=(hw j).1 cj;rw [find_no hk] at this;cases this).2.1] at c
   cases c.1
  | some k =>
   have hf:findN x (lastN ls)=some (x.sl.getD k.toNat 0):=find_eq (nm_nat hN hk);have hj:=(hw _).2 hf;obtain ⟨y,hy⟩:=Inv.walk hI (ls:=ls) (by rw [hj]);rw [hj] at hy
   simp only
   rw [hy]
   simp only
   have hkd:=h.kind hl hj hy;rw [hkd.1]
   by_cases c:y.kind=2
   ·rw [if_neg (fun d=>d c)]
    have hfl:=h.full_iff hj hy
    by_cases c2:∃ t,y.nm t≠none
    ·rw [if_pos c2]
     exact Says.no (c:=140) (by decide) (by decide) (by decide) fun d=>by rw [hfl.2 c2] at d;cases d.2
    ·rw [if_neg c2]
     refine Says.yes (.inl rfl) ⟨c,?_⟩
     cases hb:fullM m ls with
     | false=>rfl
     | true=>exact absurd (hfl.1 hb) c2
   ·rw [if_pos c];exact Says.no (c:=113) (by decide) (by decide) (by decide) fun d=>c d.1
 ·rw [if_pos e]
  have:=lastE_code s ls
  refine Says.no e (by show lastE s ls≠80;omega) (by show lastE s ls≠81;omega) fun c => ?_
  rcases walk_or s ls with ⟨j,hj⟩ | hj
  ·rw [←last_snoc hl] at hj
   obtain ⟨k,q1,x,q2,q3⟩:=(walk_snoc hI).1 hj
   exact e (lastE_of hl q1 q2 (find_dir (hI.nd k x q2) q3)).1
  ·rw [(h.nofile hl hj).2.1] at c
   cases c.1
theorem last_same {s:PSt} (h:Inv s) (hq:AllQ s) {ls ts:List ByteArray} (e1:lastE s ls=0) (e2:lastE s ts=0):(lastD s ts=lastD s ls∧lastN ts=lastN ls)↔ls=ts:=by
 constructor
 ·rintro ⟨a,b⟩
  obtain ⟨x,hx,hk⟩:=lastE_dir e1;have w2:=lastE_walk e2;rw [a] at w2;have:=path_one h hq _ _ _ x hx hk (lastE_walk e1) w2;rw [←last_snoc (lastE_ne e1),←last_snoc (lastE_ne e2),this,b]
 ·rintro rfl
  exact ⟨rfl,rfl⟩
theorem Rel.says_rename {m:Mo} {s:PSt} (h:Rel m s) {ls ts:List ByteArray} (hl:ls≠[]) (ht:ts≠[]):Says (renameOp s ls ts).2 ((thAt m ls≠none∧dirM m ts=true)∧(ls=ts∨if dirT (thAt m ls)=true then thAt m ts=none∧belowB ts ls=false else thAt m ts=none∨fileT (thAt m ts))):=by
 have hI:=h.inv.inv;rw [h.dir_iff ht];unfold renameOp
 by_cases e1:lastE s ls=0
 ·rw [if_neg (fun c=>c e1)]
  obtain ⟨x1,hx1,hk1⟩:=lastE_dir e1
  have hw1:=fun i=>walk_last hI e1 hx1 (i:=i)
  by_cases e2:lastE s ts=0
  ·rw [if_neg (fun c=>c e2)]
   obtain ⟨x2,hx2,hk2⟩:=lastE_dir e2
   have hw2:=fun i=>walk_last hI e2 hx2 (i:=i)
   rw [hx1,hx2]
   simp only
   cases f1:findN x1 (lastN ls) with
   | none =>
    exact Says.no (c:=110) (by decide) (by decide) (by decide) fun c=>c.1.1 (h.nofile hl fun j cj=>by have:=(hw1 j).1 cj;rw [f1] at this;cases this).2.2
   | some i =>
    simp only
    have hj:=(hw1 i).2 f1;obtain ⟨yi,hyi⟩:=Inv.find hI hx1 f1;have hkd:=h.kind hl hj hyi
    by_cases hs:lastD s ts=lastD s ls∧lastN ts=lastN ls
    ·rw [if_pos hs]
     exact Says.yes (.inl rfl) ⟨⟨hkd.2.2,e2⟩,.inl ((last_same hI h.inv.q e1 e2).1 hs)⟩
    ·rw [if_neg hs,hyi]
     simp only
     have hne:ls≠ts:=fun c=>hs ((last_same hI h.inv.q e1 e2).2 c)
     cases f2:findN x2 (lastN ts) with
     | none =>
      simp only
      have hn:∀ j,walkL s ts 1≠(j,0):=fun j cj=>by have:=(hw2 j).1 cj;rw [f2] at this;cases this
      have hnf:=h.nofile ht hn
      by_cases c1:yi.kind=2∧belowB ts ls=true
      ·rw [if_pos c1]
       refine Says.no (c:=141) (by decide) (by decide) (by decide) fun c => ?_
       rcases c.2 with c | c
       ·exact hne c
       ·rw [if_pos (hkd.1.2 c1.1),c1.2] at c
        cases c.2
      ·rw [if_neg c1,if_neg (h.links hl hj hyi)]
       have hyes:(thAt m ls≠none∧lastE s ts=0)∧(ls=ts∨if dirT (thAt m ls)=true then thAt m ts=none∧belowB ts ls=false else thAt m ts=none∨fileT (thAt m ts)):=by
        refine ⟨⟨hkd.2.2,e2⟩,.inr ?_⟩
        by_cases c:dirT (thAt m ls)=true
        ·rw [if_pos c]
         refine ⟨hnf.2.2,?_⟩
         cases hb:belowB ts ls with
         | false=>rfl
         | true=>exact absurd ⟨hkd.1.1 c,hb⟩ c1
        ·rw [if_neg c];exact .inl hnf.2.2
       rcases h.place hx2 with hp | hp
       ·rw [if_neg (fun c=>c hp)];exact Says.yes (.inl rfl) hyes
       ·rw [if_pos (by rw [hp];decide)]
        exact Says.yes (.inr (.inl hp)) hyes
     | some j =>
      simp only
      have hj2:=(hw2 j).2 f2;obtain ⟨yj,hyj⟩:=Inv.find hI hx2 f2;have hkj:=h.kind ht hj2 hyj;rw [hyj]
      simp only
      by_cases c1:yi.kind=2∨yj.kind=2
      ·rw [if_pos c1]
       refine Says.no (c:=111) (by decide) (by decide) (by decide) fun c => ?_
       rcases c.2 with c | c
       ·exact hne c
       ·by_cases cd:dirT (thAt m ls)=true
        ·rw [if_pos cd] at c
         exact hkj.2.2 c.1
        ·rw [if_neg cd] at c
         rcases c with c | c
         ·exact hkj.2.2 c
         ·rcases c1 with c1 | c1
          ·exact cd (hkd.1.2 c1)
          ·exact (hkj.2.1.1 c) c1
      ·rw [if_neg c1]
       have hyes:(thAt m ls≠none∧lastE s ts=0)∧(ls=ts∨if dirT (thAt m ls)=true then thAt m ts=none∧belowB ts ls=false else thAt m ts=none∨fileT (thAt m ts)):=by
        refine ⟨⟨hkd.2.2,e2⟩,.inr ?_⟩;rw [if_neg (fun c=>c1 (.inl (hkd.1.1 c)))]
        exact .inr (hkj.2.1.2 fun c=>c1 (.inr c))
       by_cases c3:j=i
       ·rw [if_pos c3];exact Says.yes (.inl rfl) hyes
       ·rw [if_neg c3,if_neg (h.links hl hj hyi)];exact Says.yes (.inl rfl) hyes
  ·rw [if_pos e2]
   have:=lastE_code s ts
   exact Says.no e2 (by show lastE s ts≠80;omega) (by show lastE s ts≠81;omega) fun c=>e2 c.1.2
 ·rw [if_pos e1]
  have:=lastE_code s ls
  refine Says.no e1 (by show lastE s ls≠80;omega) (by show lastE s ls≠81;omega) fun c => ?_
  rcases walk_or s ls with ⟨j,hj⟩ | hj
  ·rw [←last_snoc hl] at hj
   obtain ⟨k,q1,x,q2,q3⟩:=(walk_snoc hI).1 hj
   exact e1 (lastE_of hl q1 q2 (find_dir (hI.nd k x q2) q3)).1
  ·exact c.1.1 (h.nofile hl hj).2.2
end Go.Proofs.YtmgfilacepnjlaaGreatDoor
