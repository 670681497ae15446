/-
 package plain, as functions: an operation, as a function; what is quiet.
-/
import Derived.Test.YtmgfilacepnjlaaGreatDoorVA2
namespace Go.Proofs.YtmgfilacepnjlaaGreatDoor
open Go.RowKit

def rowV:Value→List Int
 | .agg a=>a.toList.map fun | .int _ n=>n | _=>0
 | _=>Zs
def rowsN (x:Nd) (b:Nat):List Int:=match x.blk (b:Int) with | some v=>rowV v | none=>Zs
theorem rowV_SA (l:List Int):rowV (.agg (SA l))=l:=by
 unfold rowV SA
 simp only [List.map_map]
 exact (List.map_congr_left (g:=id) fun _ _=>rfl).trans (List.map_id _)
theorem NdOk.rows {x:Nd} (h:NdOk x) (b:Nat):(match x.blk (b:Int) with | some v=>v | none=>Value.agg (SA Zs))=.agg (SA (rowsN x b))∧(rowsN x b).length=128∧∀ c∈rowsN x b,0≤c∧c≤255:=by
 unfold rowsN
 cases hb:x.blk (b:Int) with
 | none=>exact ⟨rfl,by simp [Zs],fun c hc=>by have:=List.eq_of_mem_replicate hc;omega⟩
 | some v =>
  obtain ⟨_,l,rfl,h1,h2⟩:=h.blk _ v hb
  show Value.agg (SA l)=.agg (SA (rowV (.agg (SA l))))∧(rowV (.agg (SA l))).length=128∧∀ c∈rowV (.agg (SA l)),0≤c∧c≤255
  rw [rowV_SA]
  exact ⟨rfl,h1,h2⟩
theorem mem_byte {R:Nat→List Int} (hR:∀ b,∀ c∈R b,0≤c∧c≤255) (b k:Nat):0≤(R b).getD k 0∧(R b).getD k 0≤255:=by
 rw [List.getD_eq_getElem?_getD]
 by_cases h:k < (R b).length
 ·rw [List.getElem?_eq_getElem h]
  exact hR b _ (List.getElem_mem h)
 ·rw [List.getElem?_eq_none (by omega)]
  simp
theorem Inv.wrote {s:PSt} {i:Int} {x:Nd} (h:Inv s) (hx:s.nd i=some x) (hf:x.kind≠2) (o:Nat) (ds:List Int) (ho:o + ds.length≤136704) (hd:∀ b∈ds,0≤b∧b≤255):Inv (s.put i (wroteM x (rowsN x) o ds)):=by
 have hN:=InvD.nd h i x hx;refine InvD.file h hx hf rfl rfl rfl rfl rfl rfl ?_ ?_
 ·have:=hN.size
  show 0≤max x.size ((o:Int) + ds.length)∧max x.size ((o:Int) + ds.length)≤136704
  omega
 ·intro y v hv
  have hv:wblk x.blk (rowsN x) o ds ds.length y=some v:=hv;unfold wblk at hv
  by_cases hc:0 < ds.length∧((o / 128:Nat):Int)≤y∧128 * y < (o:Int) + ds.length
  ·rw [if_pos hc] at hv
   cases hv
   refine ⟨by omega,_,rfl,by simp [ovR],fun b hb => ?_⟩;unfold ovR at hb;obtain ⟨k,hk,rfl⟩:=List.mem_map.1 hb
   split
   ·exact mem_byte (R:=fun _=>ds) (fun _=>hd) 0 _
   ·exact mem_byte (fun b=>(hN.rows b).2.2) _ _
  ·rw [if_neg hc] at hv
   exact hN.blk y v hv
def cutN (x:Nd) (size:Int):Nd :=
 if x.blk (size / 128)=none∨size % 128=0 then { x with blk:=fun y=>if size≤y * 128 then none else x.blk y,size:=size }
 else { x with blk:=fun y=>if y=size / 128 then some (.agg (SA (cutL (rowsN x (size / 128).toNat) (size % 128).toNat))) else if size≤y * 128 then none else x.blk y,size:=size }
theorem Inv.cut {s:PSt} {i:Int} {x:Nd} (h:Inv s) (hx:s.nd i=some x) (hf:x.kind≠2) (n:Int) (h0:0≤n) (h1:n≤136704):Inv (s.put i (cutN x n)):=by
 have hN:=InvD.nd h i x hx;unfold cutN
 by_cases e:x.blk (n / 128)=none∨n % 128=0
 ·rw [if_pos e]
  refine InvD.file h hx hf rfl rfl rfl rfl rfl rfl ⟨h0,h1⟩ fun y v hv => ?_
  have hv:(if n≤y * 128 then none else x.blk y)=some v:=hv
  by_cases c:n≤y * 128
  ·rw [if_pos c] at hv;cases hv
  ·rw [if_neg c] at hv;exact hN.blk y v hv
 ·rw [if_neg e]
  refine InvD.file h hx hf rfl rfl rfl rfl rfl rfl ⟨h0,h1⟩ fun y v hv => ?_
  have hv:(if y=n / 128 then some (Value.agg (SA (cutL (rowsN x (n / 128).toNat) (n % 128).toNat))) else if n≤y * 128 then none else x.blk y)=some v:=hv
  by_cases c:y=n / 128
  ·rw [if_pos c] at hv
   cases hv
   have hr:=(hN.rows (n / 128).toNat).2
   have hb:x.blk (n / 128)≠none:=fun e2=>e (.inl e2)
   obtain ⟨u,hu⟩:=Option.ne_none_iff_exists'.1 hb;have:=(hN.blk _ u hu).1;refine ⟨by omega,_,rfl,?_,fun b hb => ?_⟩
   ·unfold cutL
    rw [List.length_append,List.length_take,List.length_replicate,hr.1]
    omega
   ·unfold cutL at hb
    rcases List.mem_append.1 hb with hb | hb
    ·exact hr.2 b (List.mem_of_mem_take hb)
    ·have:=List.eq_of_mem_replicate hb
     omega
  ·rw [if_neg c] at hv
   by_cases c2:n≤y * 128
   ·rw [if_pos c2] at hv;cases hv
   ·rw [if_neg c2] at hv;exact hN.blk y v hv
theorem freeFrom_at {s:PSt}:∀ (n i j:Nat),i≤j→j < i + n→s.nd (j:Int)=none→s.nd (freeFrom s n i:Nat)=none∧i≤freeFrom s n i∧freeFrom s n i≤j
 | 0,i,j,h1,h2,_=>by omega
 | n + 1,i,j,h1,h2,hj=>by
  unfold freeFrom
  cases hi:s.nd (i:Int) with
  | none=>exact ⟨hi,Nat.le_refl _,h1⟩
  | some x =>
   have hne:i≠j:=fun e=>by rw [e,hj] at hi;cases hi
   have:=freeFrom_at (s:=s) n (i + 1) j (by omega) (by omega) hj
   simp only [Option.isSome_some,if_true]
   exact ⟨this.1,by omega,this.2.2⟩
theorem count_upto (m:Nat):∀ n:Nat,m < n→((List.range n).filter fun i=>decide (1≤i∧i≤m)).length=m
 | 0,h=>by omega
 | n + 1,h=>by
  rw [List.range_succ,List.filter_append,List.length_append]
  by_cases e:m=n
  ·subst e
   have:((List.range m).filter fun i=>decide (1≤i∧i≤m))=(List.range m).filter fun i=>decide (1≤i):=List.filter_congr fun i hi=>by
    have:=List.mem_range.1 hi
    simp
    omega
   rw [this]
   have h2:∀ k:Nat,((List.range k).filter fun i=>decide (1≤i)).length=k - 1:=fun k=>by
    induction k with
    | zero=>rfl
    | succ k ih =>
     rw [List.range_succ,List.filter_append,List.length_append,ih]
     by_cases h0:1≤k
     ·simp [h0]
     ·have:k=0:=by omega
      subst this
      rfl
   rw [h2]
   by_cases h0:1≤m
   ·simp [h0]
   ·have:m=0:=by omega
    subst this
    rfl
  ·rw [count_upto m n (by omega)]
   have : ¬ n≤m:=by omega
   simp [this]
theorem Inv.few {s:PSt} (h:Inv s):(nodesN s:Int)≤s.ino:=by
 obtain ⟨m,hm⟩:∃ m:Nat,s.ino=(m:Int):=⟨s.ino.toNat,by have:=InvD.num h;omega⟩;have h1:=count_upto m 513 (by have:=InvD.num h;omega)
 have h2:nodesN s≤((List.range 513).filter fun i=>decide (1≤i∧i≤m)).length:=by
  unfold nodesN;rw [←List.countP_eq_length_filter,←List.countP_eq_length_filter]
  refine List.countP_mono_left fun i _ hi => ?_
  obtain ⟨x,hx⟩:=Option.isSome_iff_exists.1 hi;have:=InvD.rng h _ x hx
  simp
  omega
 omega
theorem Inv.free {s:PSt} (h:Inv s) (hn:(nodesN s:Int)≠s.ino):s.nd (freeI s:Nat)=none∧2≤freeI s∧(freeI s:Int)≤s.ino:=by
 obtain ⟨m,hm⟩:∃ m:Nat,s.ino=(m:Int):=⟨s.ino.toNat,by have:=InvD.num h;omega⟩
 have hm2:m≤512:=by have:=InvD.num h;omega
 have hex:∃ j:Nat,1≤j∧j≤m∧s.nd (j:Int)=none:=by
  refine Classical.byContradiction fun hc=>hn ?_
  have h1:=count_upto m 513 (by omega)
  have:nodesN s=((List.range 513).filter fun i=>decide (1≤i∧i≤m)).length:=by
   unfold nodesN;refine congrArg List.length (List.filter_congr fun i hi => ?_)
   by_cases hr:1≤i∧i≤m
   ·have:s.nd (i:Int)≠none:=fun e=>hc ⟨i,hr.1,hr.2,e⟩
    rw [decide_eq_true hr]
    exact Option.isSome_iff_ne_none.2 this
   ·rw [decide_eq_false hr]
    cases hx:s.nd (i:Int) with
    | none=>rfl
    | some x =>
     have:=InvD.rng h _ x hx
     exact absurd ⟨by omega,by omega⟩ hr
  omega
 obtain ⟨j,h1,h2,h3⟩:=hex;obtain ⟨a1,a2,a3⟩:=freeFrom_at 512 1 j h1 (by omega) h3;have a0:freeI s=freeFrom s 512 1:=rfl;rw [a0];refine ⟨a1,?_,by omega⟩;obtain ⟨x,hx,_⟩:=InvD.root h
 rcases Nat.lt_or_ge 1 (freeFrom s 512 1) with h | h
 ·exact h
 ·have:freeFrom s 512 1=1:=by omega
  rw [this] at a1;rw [show ((1:Nat):Int)=1 from rfl,hx] at a1
  cases a1
end Go.Proofs.YtmgfilacepnjlaaGreatDoor

namespace Go.Proofs.YtmgfilacepnjlaaGreatDoor
open Go.RowKit

inductive Ans where
 | err (e:Int)
 | stat (i:Int) (x:Nd)
 | data (ds:List Int)
 | list (es:List (ByteArray × Int × Int))
noncomputable def makeOp (s:PSt) (ls:List ByteArray) (kind made:Int):PSt × Ans :=
 if lastE s ls≠0 then (s,.err (lastE s ls)) else match s.nd (lastD s ls) with
  | none=>(s,.err 0)
  | some x=>if (findN x (lastN ls)).isSome then (s,.err 111) else if (nodesN s:Int)=s.ino then (s,.err 81) else if (placeL s x).2≠0 then (s,.err (placeL s x).2)
   else (makeS s (lastD s ls) x (least0 x.sl) (lastN ls) (freeI s:Nat) kind made,.stat (freeI s:Nat) (newNd kind made))
noncomputable def linkOp (s:PSt) (ls ts:List ByteArray):PSt × Int :=
 if (walkL s ls 1).2≠0 then (s,(walkL s ls 1).2) else if lastE s ts≠0 then (s,lastE s ts) else match s.nd (lastD s ts),s.nd (walkL s ls 1).1 with
  | some x,some y=>if (findN x (lastN ts)).isSome then (s,111) else if y.kind=2 then (s,102) else if y.links=100 then (s,142) else if (placeL s x).2≠0 then (s,(placeL s x).2)
   else ((s.put (walkL s ls 1).1 { y with links:=y.links + 1 }).put (lastD s ts) (entN x (least0 x.sl) (lastN ts) (walkL s ls 1).1),0)
  | _,_=>(s,0)
def unlinkOp (s:PSt) (ls:List ByteArray):PSt × Int :=
 if lastE s ls≠0 then (s,lastE s ls) else match s.nd (lastD s ls) with
  | none=>(s,0)
  | some x=>match x.nm (lastN ls) with
   | none=>(s,110)
   | some k=>match s.nd (x.sl.getD k.toNat 0) with
    | none=>(s,0)
    | some y=>if y.kind=2 then (s,102) else (loseS (s.put (lastD s ls) (leaN x k.toNat (lastN ls))) (x.sl.getD k.toNat 0) y,0)
open Classical in
noncomputable def rmdirOp (s:PSt) (ls:List ByteArray):PSt × Int :=
 if lastE s ls≠0 then (s,lastE s ls) else match s.nd (lastD s ls) with
  | none=>(s,0)
  | some x=>match x.nm (lastN ls) with
   | none=>(s,110)
   | some k=>match s.nd (x.sl.getD k.toNat 0) with
    | none=>(s,0)
    | some y=>if y.kind≠2 then (s,113) else if ∃ t,y.nm t≠none then (s,140) else (loseS (s.put (lastD s ls) (leaN x k.toNat (lastN ls))) (x.sl.getD k.toNat 0) y,0)
def replS (s:PSt) (d1 d2:Int) (n1 n2:ByteArray) (x2:Nd) (k2:Nat) (i j:Int):PSt :=
 match (s.put d2 (entO x2 k2 n2 i)).nd d1 with
 | none=>s
 | some x1=>match ((s.put d2 (entO x2 k2 n2 i)).put d1 (leaN x1 ((x1.nm n1).getD 0).toNat n1)).nd j with
  | none=>s
  | some y=>loseS ((s.put d2 (entO x2 k2 n2 i)).put d1 (leaN x1 ((x1.nm n1).getD 0).toNat n1)) j y
def moveS (s:PSt) (d1 d2:Int) (n1 n2:ByteArray) (x2:Nd) (i:Int):PSt :=
 match (s.put d2 (entN x2 (least0 x2.sl) n2 i)).nd d1 with
 | none=>s
 | some x1=>(s.put d2 (entN x2 (least0 x2.sl) n2 i)).put d1 (leaN x1 ((x1.nm n1).getD 0).toNat n1)
noncomputable def renameOp (s:PSt) (ls ts:List ByteArray):PSt × Int :=
 if lastE s ls≠0 then (s,lastE s ls) else if lastE s ts≠0 then (s,lastE s ts) else match s.nd (lastD s ls),s.nd (lastD s ts) with
  | some x1,some x2=>match findN x1 (lastN ls) with
   | none=>(s,110)
   | some i=>if lastD s ts=lastD s ls∧lastN ts=lastN ls then (s,0) else match s.nd i with
    | none=>(s,0)
    | some yi=>match findN x2 (lastN ts) with
     | some j=>match s.nd j with
      | none=>(s,0)
      | some yj=>if yi.kind=2∨yj.kind=2 then (s,111) else if j=i then (s,0) else if yi.links=100 then (s,142) else (replS s (lastD s ls) (lastD s ts) (lastN ls) (lastN ts) x2 ((x2.nm (lastN ts)).getD 0).toNat i j,0)
     | none=>if yi.kind=2∧belowB ts ls=true then (s,141) else if yi.links=100 then (s,142) else if (placeL s x2).2≠0 then (s,(placeL s x2).2) else (moveS s (lastD s ls) (lastD s ts) (lastN ls) (lastN ts) x2 i,0)
  | _,_=>(s,0)
theorem place_ok {s:PSt} {x:Nd} (h:(placeL s x).2=0):placeL s x=(((least0 x.sl:Nat):Int),0)∧(least0 x.sl≠1068):=by
 unfold placeL at h ⊢
 by_cases e:least0 x.sl=1068
 ·rw [if_pos e] at h;exact absurd h (by decide)
 ·rw [if_neg e] at h ⊢
  by_cases e2:roomB s x (least0 x.sl) (least0 x.sl + 1)=true
  ·rw [if_pos e2];exact ⟨rfl,e⟩
  ·rw [if_neg e2] at h;exact absurd h (by decide)
theorem NdOk.place {s:PSt} {x:Nd} (h:NdOk x) (hp:(placeL s x).2=0):least0 x.sl < 1068:=by
 have:=(place_ok hp).2;have:=least0_le x.sl;have:=h.len
 omega
theorem lastE_ne {s:PSt} {ls:List ByteArray} (h:lastE s ls=0):ls≠[]:=by
 intro e
 unfold lastE at h;rw [if_pos e] at h
 exact absurd h (by decide)
theorem lastN_mem {ls:List ByteArray} (h:ls≠[]):lastN ls∈ls:=by
 have:=List.length_pos_iff.2 h;unfold lastN;rw [List.getD_eq_getElem?_getD,List.getElem?_eq_getElem (by omega)]
 exact List.getElem_mem _
theorem find_none {x:Nd} {t:ByteArray} (h:findN x t=none):x.nm t=none:=by
 unfold findN at h
 cases hn:x.nm t with
 | none=>rfl
 | some k=>rw [hn] at h;cases h
theorem find_some {x:Nd} {t:ByteArray} {i:Int} (hN:NdOk x) (h:findN x t=some i):∃ k:Nat,x.nm t=some (k:Int)∧x.sl.getD k 0=i∧k < x.sl.length∧i≠0:=by
 unfold findN at h
 cases hn:x.nm t with
 | none=>rw [hn] at h;cases h
 | some k =>
  rw [hn] at h;have h:x.sl.getD k.toNat 0=i:=Option.some.inj h;obtain ⟨a1,a2,a3⟩:=hN.nm t k hn;refine ⟨k.toNat,?_,h,by omega,?_⟩
  ·congr 1;omega
  ·rw [←h];exact a3
theorem Inv.makeOp {s:PSt} {ls:List ByteArray} {kind made:Int} (h:Inv s) (hn:∀ t∈ls,NmOk t) (hk:kind=1∨kind=2) (hm:0≤made∧made≤1099511627776):Inv (makeOp s ls kind made).1:=by
 unfold Go.Proofs.YtmgfilacepnjlaaGreatDoor.makeOp
 by_cases e:lastE s ls=0
 ·rw [if_neg (fun c=>c e)]
  obtain ⟨x,hx,hx2⟩:=lastE_dir e;rw [hx]
  simp only
  cases hf:findN x (lastN ls) with
  | some i=>exact h
  | none =>
   rw [if_neg (by simp)]
   by_cases hc:(nodesN s:Int)=s.ino
   ·rw [if_pos hc];exact h
   ·rw [if_neg hc]
    by_cases hp:(placeL s x).2=0
    ·rw [if_neg (fun c=>c hp)]
     obtain ⟨f1,f2,f3⟩:=Inv.free h hc;have hN:=InvD.nd h _ x hx;have h1:=InvD.new h f1 (by omega) f3 hk hm
     have hd:(s.put (freeI s:Nat) (newNd kind made)).nd (lastD s ls)=some x:=by
      rw [PSt.put_ne _ _ (fun e=>by rw [e,f1] at hx;cases hx)]
      exact hx
     have h2:=h1.enter (i:=(freeI s:Nat)) hd hx2 (find_none hf) (free_least x.sl) (hN.place hp) (by omega) (by rw [PSt.put_at];exact fun e=>by cases e) (hn _ (lastN_mem (lastE_ne e)))
     exact h2.cong fun j=>by
      by_cases c:((freeI s:Nat):Int)=j
      ·rw [if_pos c,if_pos c];rfl
      ·rw [if_neg c,if_neg c]
    ·rw [if_pos hp];exact h
 ·rw [if_pos e];exact h
theorem Inv.walk {s:PSt} (h:Inv s) {ls:List ByteArray} (e:(walkL s ls 1).2=0):∃ y,s.nd (walkL s ls 1).1=some y :=
 Option.ne_none_iff_exists'.1 (walkL_some (InvD.okS h) ls 1 (InvD.okS h).root e)
theorem Inv.linkOp {s:PSt} {ls ts:List ByteArray} (h:Inv s) (hn:∀ t∈ts,NmOk t):Inv (linkOp s ls ts).1:=by
 unfold Go.Proofs.YtmgfilacepnjlaaGreatDoor.linkOp
 by_cases e1:(walkL s ls 1).2=0
 ·rw [if_neg (fun c=>c e1)]
  by_cases e:lastE s ts=0
  ·rw [if_neg (fun c=>c e)]
   obtain ⟨x,hx,hx2⟩:=lastE_dir e;obtain ⟨y,hy⟩:=Inv.walk h e1;rw [hx,hy]
   simp only
   cases hf:findN x (lastN ts) with
   | some i=>exact h
   | none =>
    rw [if_neg (by simp)]
    by_cases hk:y.kind=2
    ·rw [if_pos hk];exact h
    ·rw [if_neg hk]
     by_cases hl:y.links=100
     ·rw [if_pos hl];exact h
     ·rw [if_neg hl]
      by_cases hp:(placeL s x).2=0
      ·rw [if_neg (fun c=>c hp)]
       have hN:=InvD.nd h _ x hx;have hNy:=InvD.nd h _ y hy;have hri:=InvD.rng h _ y hy
       have hi1:(walkL s ls 1).1≠1:=fun c=>by
        obtain ⟨r,hr,hr2⟩:=InvD.root h;rw [c,hr] at hy
        cases hy
        exact hk hr2.1
       have h1:=InvD.linked (y.links + 1) h hy (by omega) (by have:=hNy.links;omega)
       have hne:lastD s ts≠(walkL s ls 1).1:=fun c=>by
        rw [c,hy] at hx
        cases hx
        exact hk hx2
       have hd:(s.put (walkL s ls 1).1 { y with links:=y.links + 1 }).nd (lastD s ts)=some x:=by rw [PSt.put_ne _ _ hne];exact hx
       have h2:=h1.enter (i:=(walkL s ls 1).1) hd hx2 (find_none hf) (free_least x.sl) (hN.place hp) (by omega) (by rw [PSt.put_at];exact fun e=>by cases e) (hn _ (lastN_mem (lastE_ne e)))
       exact h2.cong fun j=>by
        by_cases c:(walkL s ls 1).1=j
        ·rw [if_pos c,if_pos c];omega
        ·rw [if_neg c,if_neg c]
      ·rw [if_pos hp];exact h
  ·rw [if_pos e];exact h
 ·rw [if_pos e1];exact h
theorem Inv.takes {s:PSt} {d:Int} {x y:Nd} {t:ByteArray} {k:Nat} (h:Inv s) (hx:s.nd d=some x) (hk:x.kind=2) (hn:x.nm t=some (k:Int)) (hy:s.nd (x.sl.getD k 0)=some y) (hz:∀ u,y.nm u=none):Inv (loseS (s.put d (leaN x k t)) (x.sl.getD k 0) y):=by
 have hN:=InvD.nd h d x hx;obtain ⟨n1,n2,n3⟩:=hN.nm t k hn;rw [Int.toNat_natCast] at n3;have h1:=InvD.leave h hx hk hn
 have hne:x.sl.getD k 0≠d:=fun e=>by
  rw [e,hx] at hy
  cases hy
  rw [hz] at hn
  cases hn
 have hr:=InvD.ref h d x _ hx (getD_mem (l:=x.sl) (k:=k) (by omega)) n3
 have hy2:(s.put d (leaN x k t)).nd (x.sl.getD k 0)=some y:=by rw [PSt.put_ne _ _ hne];exact hy
 have hNy:=InvD.nd h _ y hy
 have h2:=h1.lose hy2 hr.1 (by show (0:Int) + (if x.sl.getD k 0=x.sl.getD k 0 then 1 else 0)=1;rw [if_pos rfl];rfl) (fun _ j hj=>by
  refine Classical.byContradiction fun hj0 => ?_
  obtain ⟨m,hm1,hm2⟩:=mem_getD hj;obtain ⟨u,hu⟩:=hNy.sur m hm1 (by rw [hm2];exact hj0);rw [hz] at hu
  cases hu)
 exact h2.cong fun j=>by
  by_cases c:x.sl.getD k 0=j
  ·rw [if_pos c,if_pos c];rfl
  ·rw [if_neg c,if_neg c];rfl
theorem Inv.unlinkOp {s:PSt} {ls:List ByteArray} (h:Inv s):Inv (unlinkOp s ls).1:=by
 unfold Go.Proofs.YtmgfilacepnjlaaGreatDoor.unlinkOp
 by_cases e:lastE s ls=0
 ·rw [if_neg (fun c=>c e)]
  obtain ⟨x,hx,hx2⟩:=lastE_dir e;rw [hx]
  simp only
  cases hk:x.nm (lastN ls) with
  | none=>exact h
  | some k =>
   simp only
   cases hy:s.nd (x.sl.getD k.toNat 0) with
   | none=>exact h
   | some y =>
    simp only
    by_cases hy2:y.kind=2
    ·rw [if_pos hy2];exact h
    ·rw [if_neg hy2]
     have hN:=InvD.nd h _ x hx;have hNy:=InvD.nd h _ y hy
     exact Inv.takes h hx hx2 (by rw [hk];congr 1;have:=(hN.nm _ k hk).1;omega) hy (hNy.file (by have:=hNy.kind;omega)).2
 ·rw [if_pos e];exact h
theorem Inv.rmdirOp {s:PSt} {ls:List ByteArray} (h:Inv s):Inv (rmdirOp s ls).1:=by
 unfold Go.Proofs.YtmgfilacepnjlaaGreatDoor.rmdirOp
 by_cases e:lastE s ls=0
 ·rw [if_neg (fun c=>c e)]
  obtain ⟨x,hx,hx2⟩:=lastE_dir e;rw [hx]
  simp only
  cases hk:x.nm (lastN ls) with
  | none=>exact h
  | some k =>
   simp only
   cases hy:s.nd (x.sl.getD k.toNat 0) with
   | none=>exact h
   | some y =>
    simp only
    by_cases hy2:y.kind=2
    ·rw [if_neg (fun c=>c hy2)]
     by_cases hz:∃ t,y.nm t≠none
     ·rw [if_pos hz];exact h
     ·rw [if_neg hz]
      have hN:=InvD.nd h _ x hx
      exact Inv.takes h hx hx2 (by rw [hk];congr 1;have:=(hN.nm _ k hk).1;omega) hy (fun u=>Classical.byContradiction fun c=>hz ⟨u,c⟩)
    ·rw [if_pos hy2];exact h
 ·rw [if_pos e];exact h
end Go.Proofs.YtmgfilacepnjlaaGreatDoor

namespace Go.Proofs.YtmgfilacepnjlaaGreatDoor
open Go.RowKit

theorem split_ok1 {l:List UInt8} (h:(splitR l).2=0):(splitR l).1.all okName=true:=(split_ok (xs:=(splitR l).1) (by rw [←h])).1
theorem Inv.moveS {s:PSt} {d1 d2:Int} {n1 n2:ByteArray} {x1 x2:Nd} {i:Int} (h:Inv s) (h1:s.nd d1=some x1) (h2:s.nd d2=some x2) (k1:x1.kind=2) (k2:x2.kind=2) (f1:findN x1 n1=some i) (f2:findN x2 n2=none) (hp:(placeL s x2).2=0) (hn:NmOk n2) :
  ∃ (x1':Nd) (m:Nat),(s.put d2 (entN x2 (least0 x2.sl) n2 i)).nd d1=some x1'∧x1'.nm n1=some (m:Int)∧m < x1'.sl.length∧moveS s d1 d2 n1 n2 x2 i=(s.put d2 (entN x2 (least0 x2.sl) n2 i)).put d1 (leaN x1' m n1)∧Inv (moveS s d1 d2 n1 n2 x2 i):=by
 have hN1:=InvD.nd h _ x1 h1;have hN2:=InvD.nd h _ x2 h2;obtain ⟨m,a1,a2,a3,a4⟩:=find_some hN1 f1;have hr:=InvD.ref h d1 x1 i h1 (by rw [←a2];exact getD_mem a3) a4;have e1:=InvD.enter (i:=i) h h2 k2 (find_none f2) (free_least x2.sl) (hN2.place hp) hr.1 hr.2 hn
 have hex:∃ x1':Nd,(s.put d2 (entN x2 (least0 x2.sl) n2 i)).nd d1=some x1'∧x1'.kind=2∧x1'.nm n1=some (m:Int)∧x1'.sl.getD m 0=i∧m < x1'.sl.length:=by
  by_cases e:d1=d2
  ·have ex:x1=x2:=by rw [e,h2] at h1;exact (Option.some.inj h1).symm
   subst ex;refine ⟨entN x1 (least0 x1.sl) n2 i,by rw [e,PSt.put_at],k2,?_,?_,?_⟩
   ·show (if n1=n2 then _ else x1.nm n1)=_
    rw [if_neg (fun c=>by rw [c,find_none f2] at a1;cases a1)]
    exact a1
   ·show (slK x1.sl (least0 x1.sl) i).getD m 0=i
    rw [slK_ne]
    ·exact a2
    ·intro c
     have:=(free_least x1.sl).2;rw [←c,a2] at this
     exact a4 this
   ·show m < (slK x1.sl (least0 x1.sl) i).length
    have:=(slK_len' (i:=i) (free_least x1.sl).1).1
    omega
  ·exact ⟨x1,by rw [PSt.put_ne _ _ e];exact h1,k1,a1,a2,a3⟩
 obtain ⟨x1',b1,b2,b3,b4,b5⟩:=hex
 have em:Go.Proofs.YtmgfilacepnjlaaGreatDoor.moveS s d1 d2 n1 n2 x2 i=(s.put d2 (entN x2 (least0 x2.sl) n2 i)).put d1 (leaN x1' m n1):=by
  unfold Go.Proofs.YtmgfilacepnjlaaGreatDoor.moveS;rw [b1]
  simp only [b3,Option.getD_some,Int.toNat_natCast]
 refine ⟨x1',m,b1,b3,b5,em,?_⟩;rw [em]
 refine (e1.leave b1 b2 b3).cong fun j => ?_
 rw [b4]
 by_cases c:i=j
 ·rw [if_pos c,if_pos c];rfl
 ·rw [if_neg c,if_neg c];rfl
theorem Inv.replS {s:PSt} {d1 d2:Int} {n1 n2:ByteArray} {x1 x2 yj:Nd} {i j:Int} (h:Inv s) (h1:s.nd d1=some x1) (h2:s.nd d2=some x2) (k1:x1.kind=2) (k2:x2.kind=2) (f1:findN x1 n1=some i) (f2:findN x2 n2=some j) (hy:s.nd j=some yj) (ky:yj.kind≠2) (hij:j≠i) (hne : ¬ (d2=d1∧n2=n1)) :
  ∃ (x1':Nd) (m m2:Nat),x2.nm n2=some (m2:Int)∧m2 < x2.sl.length∧(s.put d2 (entO x2 m2 n2 i)).nd d1=some x1'∧x1'.nm n1=some (m:Int)∧m < x1'.sl.length∧((s.put d2 (entO x2 m2 n2 i)).put d1 (leaN x1' m n1)).nd j=some yj∧Go.Proofs.YtmgfilacepnjlaaGreatDoor.replS s d1 d2 n1 n2 x2 ((x2.nm n2).getD 0).toNat i j=loseS ((s.put d2 (entO x2 m2 n2 i)).put d1 (leaN x1' m n1)) j yj∧Inv (Go.Proofs.YtmgfilacepnjlaaGreatDoor.replS s d1 d2 n1 n2 x2 ((x2.nm n2).getD 0).toNat i j):=by
 have hN1:=InvD.nd h _ x1 h1;have hN2:=InvD.nd h _ x2 h2;obtain ⟨m,a1,a2,a3,a4⟩:=find_some hN1 f1;obtain ⟨m2,c1,c2,c3,c4⟩:=find_some hN2 f2;have hr:=InvD.ref h d1 x1 i h1 (by rw [←a2];exact getD_mem a3) a4;have hrj:=InvD.ref h d2 x2 j h2 (by rw [←c2];exact getD_mem c3) c4;have e1:=InvD.old (i:=i) h h2 k2 c1 hr.1 hr.2
 have e0:slK x2.sl m2 i=x2.sl.set m2 i:=by unfold slK;rw [if_neg (by omega)]
 have hex:∃ x1':Nd,(s.put d2 (entO x2 m2 n2 i)).nd d1=some x1'∧x1'.kind=2∧x1'.nm n1=some (m:Int)∧x1'.sl.getD m 0=i∧m < x1'.sl.length:=by
  by_cases e:d1=d2
  ·have ex:x1=x2:=by rw [e,h2] at h1;exact (Option.some.inj h1).symm
   subst ex
   have hnn:n1≠n2:=fun c=>hne ⟨e.symm,c.symm⟩
   refine ⟨entO x1 m2 n2 i,by rw [e,PSt.put_at],k2,?_,?_,?_⟩
   ·show (if n1=n2 then _ else x1.nm n1)=_
    rw [if_neg hnn]
    exact a1
   ·show (slK x1.sl m2 i).getD m 0=i
    rw [slK_ne]
    ·exact a2
    ·intro c
     rw [c] at a1
     exact hnn (hN1.inj _ _ _ a1 c1)
   ·show m < (slK x1.sl m2 i).length
    rw [e0,List.length_set]
    exact a3
  ·exact ⟨x1,by rw [PSt.put_ne _ _ e];exact h1,k1,a1,a2,a3⟩
 obtain ⟨x1',b1,b2,b3,b4,b5⟩:=hex
 have hj1:j≠d1:=fun c=>by rw [c,h1] at hy;cases hy;exact ky k1
 have hj2:j≠d2:=fun c=>by rw [c,h2] at hy;cases hy;exact ky k2
 have b6:((s.put d2 (entO x2 m2 n2 i)).put d1 (leaN x1' m n1)).nd j=some yj:=by rw [PSt.put_ne _ _ hj1,PSt.put_ne _ _ hj2];exact hy
 have em:Go.Proofs.YtmgfilacepnjlaaGreatDoor.replS s d1 d2 n1 n2 x2 ((x2.nm n2).getD 0).toNat i j=loseS ((s.put d2 (entO x2 m2 n2 i)).put d1 (leaN x1' m n1)) j yj:=by
  unfold Go.Proofs.YtmgfilacepnjlaaGreatDoor.replS
  simp only [c1,Option.getD_some,Int.toNat_natCast]
  rw [b1]
  simp only [b3,Option.getD_some,Int.toNat_natCast]
  rw [b6]
 refine ⟨x1',m,m2,c1,c3,b1,b3,b5,b6,em,?_⟩;rw [em];have hNy:=InvD.nd h _ yj hy
 refine ((e1.leave b1 b2 b3).lose b6 hrj.1 ?_ (fun _ t ht => ?_)).cong fun t => ?_
 ·show (0:Int) + (if x2.sl.getD m2 0=j then 1 else 0) - (if i=j then 1 else 0) + (if x1'.sl.getD m 0=j then 1 else 0)=1
  rw [b4,c2,if_pos rfl,if_neg (Ne.symm hij)]
  rfl
 ·rw [(hNy.file (by have:=hNy.kind;omega)).1] at ht
  cases ht
 ·rw [b4,c2]
  by_cases q1:j=t
  ·rw [if_pos q1,if_pos q1,if_neg (fun c=>hij (q1.trans c.symm))];rfl
  ·rw [if_neg q1,if_neg q1]
   by_cases q2:i=t
   ·rw [if_pos q2];rfl
   ·rw [if_neg q2];rfl
theorem Inv.find {s:PSt} {d i:Int} {x:Nd} {t:ByteArray} (h:Inv s) (hx:s.nd d=some x) (f:findN x t=some i):∃ y,s.nd i=some y:=by
 obtain ⟨m,a1,a2,a3,a4⟩:=find_some (InvD.nd h _ x hx) f
 exact Option.ne_none_iff_exists'.1 (InvD.ref h d x i hx (by rw [←a2];exact getD_mem a3) a4).2
theorem Inv.renameOp {s:PSt} {ls ts:List ByteArray} (h:Inv s) (hn:∀ t∈ts,NmOk t):Inv (renameOp s ls ts).1:=by
 unfold Go.Proofs.YtmgfilacepnjlaaGreatDoor.renameOp
 by_cases e1:lastE s ls=0
 ·rw [if_neg (fun c=>c e1)]
  by_cases e2:lastE s ts=0
  ·rw [if_neg (fun c=>c e2)]
   obtain ⟨x1,hx1,hk1⟩:=lastE_dir e1;obtain ⟨x2,hx2,hk2⟩:=lastE_dir e2;rw [hx1,hx2]
   simp only
   cases f1:findN x1 (lastN ls) with
   | none=>exact h
   | some i =>
    simp only
    by_cases hs:lastD s ts=lastD s ls∧lastN ts=lastN ls
    ·rw [if_pos hs];exact h
    ·rw [if_neg hs]
     obtain ⟨yi,hyi⟩:=Inv.find h hx1 f1;rw [hyi]
     simp only
     cases f2:findN x2 (lastN ts) with
     | none =>
      simp only
      by_cases c1:yi.kind=2∧belowB ts ls=true
      ·rw [if_pos c1];exact h
      ·rw [if_neg c1]
       by_cases c2:yi.links=100
       ·rw [if_pos c2];exact h
       ·rw [if_neg c2]
        by_cases hp:(placeL s x2).2=0
        ·rw [if_neg (fun c=>c hp)]
         obtain ⟨_,_,_,_,_,_,r⟩:=Inv.moveS h hx1 hx2 hk1 hk2 f1 f2 hp (hn _ (lastN_mem (lastE_ne e2)))
         exact r
        ·rw [if_pos hp];exact h
     | some j =>
      simp only
      obtain ⟨yj,hyj⟩:=Inv.find h hx2 f2;rw [hyj]
      simp only
      by_cases c1:yi.kind=2∨yj.kind=2
      ·rw [if_pos c1];exact h
      ·rw [if_neg c1]
       by_cases c3:j=i
       ·rw [if_pos c3];exact h
       ·rw [if_neg c3]
        by_cases c2:yi.links=100
        ·rw [if_pos c2];exact h
        ·rw [if_neg c2]
         obtain ⟨_,_,_,_,_,_,_,_,_,_,r⟩:=Inv.replS h hx1 hx2 hk1 hk2 f1 f2 hyj (fun c=>c1 (.inr c)) c3 hs
         exact r
  ·rw [if_pos e2];exact h
 ·rw [if_pos e1];exact h
def NamesIs (x:Nd) (L:List (List UInt8)):Prop:=L.Pairwise (fun a b=>a≤b∧a≠b)∧∀ t:List UInt8,t∈L↔x.nm ⟨t.toArray⟩≠none
theorem NamesIs.one {x:Nd} {L L':List (List UInt8)} (h:NamesIs x L) (h':NamesIs x L'):L=L':=by
 have hp:L.Perm L':=(List.perm_ext_iff_of_nodup (h.1.imp fun e=>e.2) (h'.1.imp fun e=>e.2)).2 fun t=>(h.2 t).trans (h'.2 t).symm
 exact hp.eq_of_pairwise (fun a b _ _ h1 h2=>List.le_antisymm h1.1 h2.1) h.1 h'.1
open Classical in
noncomputable def namesL (x:Nd):List (List UInt8):=if h:∃ L,NamesIs x L then h.choose else []
theorem namesL_is {x:Nd} {L:List (List UInt8)} (h:NamesIs x L):namesL x=L:=by
 unfold namesL;have hx:∃ L,NamesIs x L:=⟨L,h⟩;rw [dif_pos hx]
 exact hx.choose_spec.one h
def entOf (s:PSt) (x:Nd) (t:List UInt8):ByteArray × Int × Int :=
 (⟨t.toArray⟩,x.sl.getD ((x.nm ⟨t.toArray⟩).getD 0).toNat 0,match s.nd (x.sl.getD ((x.nm ⟨t.toArray⟩).getD 0).toNat 0) with | some y=>y.kind | none=>0)
noncomputable def listS (s:PSt) (x:Nd):List (ByteArray × Int × Int):=(namesL x).map (entOf s x)
noncomputable def writeOp (s:PSt) (i:Int) (x:Nd) (off:Int) (ds:List Int):PSt × Int :=
 if off < 0∨131072 < ds.length∨136704 - (ds.length:Int) < off then (s,101) else if ds=[] then (s,0)
 else if roomB s x (off.toNat / 128) ((off.toNat + ds.length - 1) / 128 + 1)=true then (s.put i (wroteM x (rowsN x) off.toNat ds),0) else (s,80)
def truncOp (s:PSt) (i:Int) (x:Nd) (n:Int):PSt × Int:=if n < 0∨136704 < n then (s,101) else (s.put i (cutN x n),0)
def readOp (x:Nd) (off len:Int):Ans :=
 if off < 0∨len < 0∨131072 < len then .err 101 else if x.size≤off then .err 0 else .data (BY (rowsN x) off.toNat (min len (x.size - off)).toNat)
structure OpS where
 kind:Int
 path:ByteArray
 tto:ByteArray
 off:Int
 len:Int
 data:List Int
 made:Int
 pick:Int
noncomputable def atOp (s:PSt) (i:Int) (o:OpS):PSt × Ans:=match s.nd i with
 | none=>(s,.err 0)
 | some x =>
  if o.kind=10 then (s,.stat i x) else if o.kind=11 then (if x.kind=2 then (s,.list (listS s x)) else (s,.err 113))
  else if x.kind=2 then (s,.err 102) else if o.kind=7 then ((writeOp s i x o.off o.data).1,.err (writeOp s i x o.off o.data).2)
  else if o.kind=8 then ((truncOp s i x o.off).1,.err (truncOp s i x o.off).2) else if o.kind=9 then (s,readOp x o.off o.len) else (s,.err 0)
def namesOf (p:ByteArray):List ByteArray:=(splitR p.data.toList).1.map fun l=>⟨l.toArray⟩
theorem namesOf_ok {p:ByteArray} (h:(splitR p.data.toList).2=0):∀ t∈namesOf p,NmOk t:=by
 intro t ht
 obtain ⟨l,hl,rfl⟩:=List.mem_map.1 ht;have:=List.all_eq_true.1 (split_ok1 h) l hl;unfold NmOk
 simpa using this
end Go.Proofs.YtmgfilacepnjlaaGreatDoor

namespace Go.Proofs.YtmgfilacepnjlaaGreatDoor
open Go.RowKit

def okOp (o:OpS):Prop:=(1≤o.kind∧o.kind≤14)∧bits .andNot .i64 (givF o.path o.tto o.off o.len o.data.length o.made o.pick) (usedL.getD o.kind.toNat 0)=0∧0≤o.made∧o.made≤1099511627776
theorem okOp_made {o:OpS} (h:okOp o):0≤o.made∧o.made≤1099511627776:=h.2.2
open Classical in
noncomputable def doS (s:PSt) (o:OpS):PSt × Ans :=
 if ¬ okOp o then (s,.err 150) else if o.kind=12∨o.kind=14 then (s,.err 0)
 else if (splitR o.path.data.toList).2≠0 then (s,.err (splitR o.path.data.toList).2)
 else if (o.kind=3∨o.kind=6)∧(splitR o.tto.data.toList).2≠0 then (s,.err (splitR o.tto.data.toList).2)
 else if o.kind=1 then makeOp s (namesOf o.path) 1 o.made else if o.kind=2 then makeOp s (namesOf o.path) 2 o.made
 else if o.kind=3 then ((linkOp s (namesOf o.path) (namesOf o.tto)).1,.err (linkOp s (namesOf o.path) (namesOf o.tto)).2)
 else if o.kind=4 then ((unlinkOp s (namesOf o.path)).1,.err (unlinkOp s (namesOf o.path)).2)
 else if o.kind=5 then ((rmdirOp s (namesOf o.path)).1,.err (rmdirOp s (namesOf o.path)).2)
 else if o.kind=6 then ((renameOp s (namesOf o.path) (namesOf o.tto)).1,.err (renameOp s (namesOf o.path) (namesOf o.tto)).2)
 else if (walkL s (namesOf o.path) 1).2≠0 then (s,.err (walkL s (namesOf o.path) 1).2)
 else atOp s (walkL s (namesOf o.path) 1).1 o
def codeA:Ans→Int
 | .err e=>e
 | _=>0
theorem Inv.atOp {s:PSt} {i:Int} {o:OpS} (h:Inv s) (hd:∀ b∈o.data,0≤b∧b≤255):Inv (atOp s i o).1:=by
 unfold Go.Proofs.YtmgfilacepnjlaaGreatDoor.atOp
 cases hx:s.nd i with
 | none=>exact h
 | some x =>
  simp only
  by_cases c1:o.kind=10
  ·rw [if_pos c1];exact h
  ·rw [if_neg c1]
   by_cases c2:o.kind=11
   ·rw [if_pos c2]
    by_cases c3:x.kind=2
    ·rw [if_pos c3];exact h
    ·rw [if_neg c3];exact h
   ·rw [if_neg c2]
    by_cases c3:x.kind=2
    ·rw [if_pos c3];exact h
    ·rw [if_neg c3]
     by_cases c4:o.kind=7
     ·rw [if_pos c4]
      show Inv (writeOp s i x o.off o.data).1
      unfold writeOp
      by_cases d1:o.off < 0∨131072 < o.data.length∨136704 - (o.data.length:Int) < o.off
      ·rw [if_pos d1];exact h
      ·rw [if_neg d1]
       by_cases d2:o.data=[]
       ·rw [if_pos d2];exact h
       ·rw [if_neg d2]
        by_cases d3:roomB s x (o.off.toNat / 128) ((o.off.toNat + o.data.length - 1) / 128 + 1)=true
        ·rw [if_pos d3]
         exact Inv.wrote h hx c3 _ _ (by omega) hd
        ·rw [if_neg d3];exact h
     ·rw [if_neg c4]
      by_cases c5:o.kind=8
      ·rw [if_pos c5]
       show Inv (truncOp s i x o.off).1
       unfold truncOp
       by_cases d1:o.off < 0∨136704 < o.off
       ·rw [if_pos d1];exact h
       ·rw [if_neg d1]
        exact Inv.cut h hx c3 _ (by omega) (by omega)
      ·rw [if_neg c5]
       by_cases c6:o.kind=9
       ·rw [if_pos c6];exact h
       ·rw [if_neg c6];exact h
theorem Inv.doS {s:PSt} {o:OpS} (h:Inv s) (hd:∀ b∈o.data,0≤b∧b≤255):Inv (doS s o).1:=by
 unfold Go.Proofs.YtmgfilacepnjlaaGreatDoor.doS
 by_cases e0:okOp o
 ·rw [if_neg (fun c=>c e0)]
  by_cases e1:o.kind=12∨o.kind=14
  ·rw [if_pos e1];exact h
  ·rw [if_neg e1]
   by_cases e2:(splitR o.path.data.toList).2=0
   ·rw [if_neg (fun c=>c e2)]
    have n1:=namesOf_ok e2
    by_cases e3:(o.kind=3∨o.kind=6)∧(splitR o.tto.data.toList).2≠0
    ·rw [if_pos e3];exact h
    ·rw [if_neg e3]
     have n2:o.kind=3∨o.kind=6→∀ t∈namesOf o.tto,NmOk t:=fun c=>namesOf_ok (Classical.byContradiction fun c2=>e3 ⟨c,c2⟩)
     by_cases k1:o.kind=1
     ·rw [if_pos k1];exact Inv.makeOp h n1 (.inl rfl) (okOp_made e0)
     rw [if_neg k1]
     by_cases k2:o.kind=2
     ·rw [if_pos k2];exact Inv.makeOp h n1 (.inr rfl) (okOp_made e0)
     rw [if_neg k2]
     by_cases k3:o.kind=3
     ·rw [if_pos k3];exact Inv.linkOp h (n2 (.inl k3))
     rw [if_neg k3]
     by_cases k4:o.kind=4
     ·rw [if_pos k4];exact Inv.unlinkOp h
     rw [if_neg k4]
     by_cases k5:o.kind=5
     ·rw [if_pos k5];exact Inv.rmdirOp h
     rw [if_neg k5]
     by_cases k6:o.kind=6
     ·rw [if_pos k6];exact Inv.renameOp h (n2 (.inr k6))
     rw [if_neg k6]
     by_cases kw:(walkL s (namesOf o.path) 1).2=0
     ·rw [if_neg (fun c=>c kw)];exact Inv.atOp h hd
     ·rw [if_pos kw];exact h
   ·rw [if_pos e2];exact h
 ·rw [if_pos e0];exact h
theorem makeOp_quiet {s:PSt} {ls:List ByteArray} {kind made:Int} (h:codeA (makeOp s ls kind made).2≠0):(makeOp s ls kind made).1=s:=by
 unfold makeOp at h ⊢
 by_cases c1:lastE s ls≠0
 ·rw [if_pos c1]
 ·rw [if_neg c1] at h ⊢
  cases hx:s.nd (lastD s ls) with
  | none=>rfl
  | some x =>
   rw [hx] at h
   simp only at h ⊢
   by_cases c2:(findN x (lastN ls)).isSome=true
   ·rw [if_pos c2]
   ·rw [if_neg c2] at h ⊢
    by_cases c3:(nodesN s:Int)=s.ino
    ·rw [if_pos c3]
    ·rw [if_neg c3] at h ⊢
     by_cases c4:(placeL s x).2≠0
     ·rw [if_pos c4]
     ·rw [if_neg c4] at h;exact absurd rfl h
theorem linkOp_q (s:PSt) (ls ts:List ByteArray):(linkOp s ls ts).1=s∨(linkOp s ls ts).2=0:=by
 unfold linkOp
 repeat' split
 all_goals first | exact .inl rfl | exact .inr rfl
theorem unlinkOp_q (s:PSt) (ls:List ByteArray):(unlinkOp s ls).1=s∨(unlinkOp s ls).2=0:=by
 unfold unlinkOp
 repeat' split
 all_goals first | exact .inl rfl | exact .inr rfl
theorem rmdirOp_q (s:PSt) (ls:List ByteArray):(rmdirOp s ls).1=s∨(rmdirOp s ls).2=0:=by
 unfold rmdirOp
 repeat' split
 all_goals first | exact .inl rfl | exact .inr rfl
theorem renameOp_q (s:PSt) (ls ts:List ByteArray):(renameOp s ls ts).1=s∨(renameOp s ls ts).2=0:=by
 unfold renameOp
 repeat' split
 all_goals first | exact .inl rfl | exact .inr rfl
theorem writeOp_q (s:PSt) (i:Int) (x:Nd) (off:Int) (ds:List Int):(writeOp s i x off ds).1=s∨(writeOp s i x off ds).2=0:=by
 unfold writeOp
 repeat' split
 all_goals first | exact .inl rfl | exact .inr rfl
theorem truncOp_q (s:PSt) (i:Int) (x:Nd) (n:Int):(truncOp s i x n).1=s∨(truncOp s i x n).2=0:=by
 unfold truncOp
 repeat' split
 all_goals first | exact .inl rfl | exact .inr rfl
theorem atOp_q (s:PSt) (i:Int) (o:OpS):(atOp s i o).1=s∨codeA (atOp s i o).2=0∧o.kind < 9:=by
 unfold atOp
 cases hx:s.nd i with
 | none=>exact .inl rfl
 | some x =>
  simp only
  by_cases c1:o.kind=10
  ·rw [if_pos c1];exact .inl rfl
  rw [if_neg c1]
  by_cases c2:o.kind=11
  ·rw [if_pos c2];split <;> exact .inl rfl
  rw [if_neg c2]
  by_cases c3:x.kind=2
  ·rw [if_pos c3];exact .inl rfl
  rw [if_neg c3]
  by_cases c4:o.kind=7
  ·rw [if_pos c4];exact (writeOp_q s i x o.off o.data).imp_right fun e=>⟨e,by omega⟩
  rw [if_neg c4]
  by_cases c5:o.kind=8
  ·rw [if_pos c5];exact (truncOp_q s i x o.off).imp_right fun e=>⟨e,by omega⟩
  rw [if_neg c5]
  by_cases c6:o.kind=9
  ·rw [if_pos c6];exact .inl rfl
  rw [if_neg c6];exact .inl rfl
theorem doS_quiet {s:PSt} {o:OpS} (h:codeA (doS s o).2≠0∨9≤o.kind):(doS s o).1=s:=by
 unfold doS at h ⊢
 by_cases e0:okOp o
 ·rw [if_neg (fun c=>c e0)] at h ⊢
  by_cases e1:o.kind=12∨o.kind=14
  ·rw [if_pos e1]
  rw [if_neg e1] at h ⊢
  by_cases e2:(splitR o.path.data.toList).2≠0
  ·rw [if_pos e2]
  rw [if_neg e2] at h ⊢
  by_cases e3:(o.kind=3∨o.kind=6)∧(splitR o.tto.data.toList).2≠0
  ·rw [if_pos e3]
  rw [if_neg e3] at h ⊢
  by_cases k1:o.kind=1
  ·rw [if_pos k1] at h ⊢;exact makeOp_quiet (h.resolve_right (by omega))
  rw [if_neg k1] at h ⊢
  by_cases k2:o.kind=2
  ·rw [if_pos k2] at h ⊢;exact makeOp_quiet (h.resolve_right (by omega))
  rw [if_neg k2] at h ⊢
  by_cases k3:o.kind=3
  ·rw [if_pos k3] at h ⊢;exact (linkOp_q _ _ _).resolve_right (h.resolve_right (by omega))
  rw [if_neg k3] at h ⊢
  by_cases k4:o.kind=4
  ·rw [if_pos k4] at h ⊢;exact (unlinkOp_q _ _).resolve_right (h.resolve_right (by omega))
  rw [if_neg k4] at h ⊢
  by_cases k5:o.kind=5
  ·rw [if_pos k5] at h ⊢;exact (rmdirOp_q _ _).resolve_right (h.resolve_right (by omega))
  rw [if_neg k5] at h ⊢
  by_cases k6:o.kind=6
  ·rw [if_pos k6] at h ⊢;exact (renameOp_q _ _ _).resolve_right (h.resolve_right (by omega))
  rw [if_neg k6] at h ⊢
  by_cases kw:(walkL s (namesOf o.path) 1).2≠0
  ·rw [if_pos kw]
  rw [if_neg kw] at h ⊢
  rcases atOp_q s (walkL s (namesOf o.path) 1).1 o with e | ⟨e,e'⟩
  ·exact e
  ·exact absurd e (h.resolve_right (by omega))
 ·rw [if_pos e0]
end Go.Proofs.YtmgfilacepnjlaaGreatDoor
