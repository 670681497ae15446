/-
 PlainKept: paths of deeds; where the model begins.
-/
import Derived.Test.YtmgfilacepnjlaaGreatDoorYC
namespace Go.Proofs.YtmgfilacepnjlaaGreatDoor
open Go.RowKit

theorem giv_all (b c d e f:Bool) :
  bits .andNot .i64 (markV false (markV f (markV false (markV false (markV false (markV false (markV b 0 1) 2) 4) 8) 16) 32) 64) 33=0 ∧
  bits .andNot .i64 (markV false (markV false (markV false (markV false (markV false (markV c (markV b 0 1) 2) 4) 8) 16) 32) 64) 3=0 ∧
  bits .andNot .i64 (markV false (markV false (markV false (markV false (markV false (markV false (markV b 0 1) 2) 4) 8) 16) 32) 64) 1=0 ∧
  bits .andNot .i64 (markV false (markV false (markV e (markV false (markV d (markV false (markV b 0 1) 2) 4) 8) 16) 32) 64) 21=0 ∧
  bits .andNot .i64 (markV false (markV false (markV false (markV false (markV d (markV false (markV b 0 1) 2) 4) 8) 16) 32) 64) 5=0:=by
 cases b <;> cases c <;> cases d <;> cases e <;> cases f <;> exact ⟨by decide,by decide,by decide,by decide,by decide⟩
theorem okOf {o:OpS} (h:OpIs o.kind o.made o.off o.path o.tto o.data.length) (hl:o.len=0) (hp:o.pick=0):okOp o:=by
 have z0:(!decide ((0:Int)=0))=false:=rfl;have z1:decide (0 < 0)=false:=rfl
 have z2:(!(⟨#[]⟩:ByteArray).toList.isEmpty)=false:=by
  have h0:ByteArray.empty.toList.isEmpty=true:=by kernel_rfl
  have e:(⟨#[]⟩:ByteArray)=ByteArray.empty:=rfl;rw [e,h0]
  rfl
 obtain ⟨_,hc⟩:=h;unfold okOp
 rcases hc with ⟨hk,ht,ho,hd,hm⟩ | ⟨hk,_,ho,hd,hm⟩ | ⟨hk,ht,ho,hd,hm⟩ | ⟨hk,ht,ho,hd,hm⟩ | ⟨hk,ht,ho,hd,hm⟩
 ·refine ⟨by omega,?_,by omega⟩
  rw [ht,ho,hl,hd,hp];unfold givF;rw [z0,z1,z2]
  rcases hk with hk | hk <;> rw [hk] <;> exact (giv_all _ false false false _).1
 ·refine ⟨by omega,?_,by omega⟩
  rw [ho,hl,hd,hp,hm];unfold givF;rw [z0,z1]
  rcases hk with hk | hk <;> rw [hk] <;> exact (giv_all _ _ false false false).2.1
 ·refine ⟨by omega,?_,by omega⟩
  rw [ht,ho,hl,hd,hp,hm];unfold givF;rw [z0,z1,z2]
  rcases hk with hk | hk <;> rw [hk] <;> exact (giv_all _ false false false false).2.2.1
 ·refine ⟨by omega,?_,by omega⟩
  rw [ht,hl,hp,hm];unfold givF;rw [z0,z2,hk]
  exact (giv_all _ false _ _ false).2.2.2.1
 ·refine ⟨by omega,?_,by omega⟩
  rw [ht,hl,hd,hp,hm];unfold givF;rw [z0,z1,z2,hk]
  exact (giv_all _ false _ false false).2.2.2.2
theorem text_all:textL.all (fun p=>decide ((splitR p.data.toList).2=0) && decide ((lastN (namesOf p)).data.toList∈lets.map (·.data.toList)))=true:=by decide +kernel
theorem text_facts {p:ByteArray} (h:p∈textL):(splitR p.data.toList).2=0∧lastN (namesOf p)∈lets:=by
 have h:=List.all_eq_true.1 text_all p h;rw [Bool.and_eq_true,decide_eq_true_iff,decide_eq_true_iff] at h;refine ⟨h.1,?_⟩;obtain ⟨t,ht,e⟩:=List.mem_map.1 h.2;rw [←ba_ext e]
 exact ht
theorem DeedO.ok {x:Dd} {A:Array Value} {o:OpS} (h:DeedO x A o):okOp o:=okOf h.is_ h.len h.pick
end Go.Proofs.YtmgfilacepnjlaaGreatDoor

namespace Go.Proofs.YtmgfilacepnjlaaGreatDoor
open Go.RowKit

theorem Rel.begin {s:PSt} (h:Inv2 s) (ha:AllL s) (hz:AllZ s) (hi:s.ino≤11) (hr:∀ x,s.nd 1=some x→∀ t,x.nm t=none):Rel ⟨[],[],0⟩ s:=by
 refine ⟨h,ha,hz,hi,rfl,fun k t e => ?_,List.nodup_nil,fun e he => ?_,fun ls j hl hj => ?_,fun e he => ?_,fun e he => ?_⟩
 ·cases e
 ·cases he
 ·exfalso
  cases ls with
  | nil=>exact hl rfl
  | cons t r =>
   obtain ⟨k,⟨x,hx,hf⟩,_⟩:=(walk_iff h.inv).1 hj
   exact (find_iff t).1 (by rw [hf];exact fun c=>by cases c) (hr x hx t)
 ·cases he
 ·cases he
theorem rel_new (n:Int):Rel ⟨[],[],0⟩ (newS (smS n) (smI n)):=by
 have hI:smI n≤11:=by
  have:=pickN_bd n (n:=9) (by omega);unfold smI
  omega
 have hnd:∀ i x,(newS (smS n) (smI n)).nd i=some x→x=newNd 2 0:=fun i x hx=>by
  have hx:(if i=1 then some (newNd 2 0) else none)=some x:=hx
  by_cases e:i=1
  ·rw [if_pos e] at hx
   cases hx
   rfl
  ·rw [if_neg e] at hx;cases hx
 refine Rel.begin (inv2_new (inv_new (sm_ok n))) (fun i x hx => ?_) (fun i x hx => ?_) hI (fun x hx t => ?_)
 ·rw [hnd i x hx];exact PL.new 2 0
 ·rw [hnd i x hx];exact Z1.new 2 0
 ·rw [hnd 1 x hx];rfl
theorem text_all2:textL.all (fun p=>decide ((TP (namesOf p)).data.toList=p.data.toList) && (!(namesOf p).isEmpty) && (namesOf p).all (fun t=>decide (t.data.toList∈lets.map (·.data.toList))) && decide ((namesOf p).length≤4))=true:=by decide +kernel
theorem text_path {p:ByteArray} (h:p∈textL):LL (namesOf p)∧namesOf p≠[]∧p=TP (namesOf p):=by
 have h:=List.all_eq_true.1 text_all2 p h;rw [Bool.and_eq_true,Bool.and_eq_true,Bool.and_eq_true,decide_eq_true_iff,decide_eq_true_iff] at h;obtain ⟨⟨⟨h1,h2⟩,h3⟩,h4⟩:=h;refine ⟨⟨fun t ht => ?_,by omega⟩,fun c => ?_,ba_ext h1.symm⟩
 ·have h5:=of_decide_eq_true (List.all_eq_true.1 h3 t ht)
  obtain ⟨u,hu,e⟩:=List.mem_map.1 h5;rw [←ba_ext e]
  exact hu
 ·rw [c] at h2
  exact absurd h2 (by decide)
theorem DeedO.dp {x:Dd} {A:Array Value} {o:OpS} (h:DeedO x A o):Dp o (namesOf o.path) (namesOf o.tto):=by
 have hp:=text_path h.is_.1;refine ⟨h.ok,⟨(text_facts h.is_.1).1,rfl,hp.2.1,hp.1.1⟩,fun hk => ?_,?_,?_,fun hk => ?_,?_,h.by_⟩
 ·have ht:o.tto∈textL:=by
   rcases h.is_.2 with c | c | c | c | c
   ·omega
   ·exact c.2.1
   ·omega
   ·omega
   ·omega
  have hq:=text_path ht
  exact ⟨(text_facts ht).1,rfl,hq.2.1,hq.1.1⟩
 ·rcases h.is_.2 with c | c | c | c | c <;> omega
 ·rcases h.is_.2 with c | c | c | c | c <;> omega
 ·rcases h.is_.2 with c | c | c | c | c <;> omega
 ·rcases h.is_.2 with c | c | c | c | c <;> omega
theorem Rel.moOk {m:Mo} {s:PSt} (h:Rel m s) (hn:m.things.length≤2199023255552):MoOk m:=by
 have h1:=h.few;have h2:=h.nx
 exact ⟨by omega,hn,⟨by omega,by omega⟩,fun e he=>⟨⟨(h.names e he).1,by have:=(h.names e he).2;omega⟩,(h.ok e he).1⟩⟩
theorem done_len (m:Mo) (o:OpS) (ls ts:List ByteArray):(doneM m o ls ts).things.length≤m.things.length + 1:=by
 unfold doneM
 by_cases c1:o.kind=1∨o.kind=2
 ·rw [if_pos c1]
  show (m.things ++ [_]).length≤_
  rw [List.length_append]
  exact Nat.le_refl _
 ·rw [if_neg c1]
  by_cases c3:o.kind=3
  ·rw [if_pos c3];exact Nat.le_succ _
  ·rw [if_neg c3]
   by_cases c4:o.kind=4∨o.kind=5
   ·rw [if_pos c4];exact Nat.le_succ _
   ·rw [if_neg c4]
    have hb:∀ f,(bytesM m ls f).things.length≤m.things.length + 1:=fun f=>by
     unfold bytesM
     split
     ·show (m.things.set _ _).length≤_
      rw [List.length_set];exact Nat.le_succ _
     ·exact Nat.le_succ _
    by_cases c6:o.kind=6
    ·rw [if_pos c6]
     unfold movedM
     split <;> exact Nat.le_succ _
    ·rw [if_neg c6]
     by_cases c7:o.kind=7
     ·rw [if_pos c7];exact hb _
     ·rw [if_neg c7];exact hb _
end Go.Proofs.YtmgfilacepnjlaaGreatDoor
