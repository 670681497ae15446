/-
 package plain, as functions: steps that keep it.
-/
import Derived.Test.YtmgfilacepnjlaaGreatDoorRV
import Derived.Test.YtmgfilacepnjlaaGreatDoorRI
namespace Go.Proofs.YtmgfilacepnjlaaGreatDoor
open Go.RowKit

theorem least0_zero:∀ {l:List Int},least0 l < l.length→l.getD (least0 l) 0=0
 | [],h=>absurd h (Nat.not_lt_zero _)
 | x :: l,h=>by
  unfold least0 at h ⊢
  by_cases hx:x=0
  ·rw [if_pos hx];exact hx
  ·rw [if_neg hx] at h ⊢
   exact least0_zero (l:=l) (by simpa using h)
def Free (l:List Int) (k:Nat):Prop:=k≤l.length∧l.getD k 0=0
theorem free_least (l:List Int):Free l (least0 l):=by
 refine ⟨least0_le l,?_⟩
 by_cases h:least0 l < l.length
 ·exact least0_zero h
 ·rw [List.getD_eq_getElem?_getD,List.getElem?_eq_none (by omega)];rfl
theorem count_set {l:List Int} {k:Nat} {i j:Int} (h:k < l.length):(l.set k i).count j + (if l.getD k 0=j then 1 else 0)=l.count j + (if i=j then 1 else 0):=by
 rw [List.count_set h]
 have e1:l.getD k 0=l[k]:=by rw [List.getD_eq_getElem?_getD,List.getElem?_eq_getElem h];rfl
 rw [e1]
 have hp:(if l[k]=j then 1 else 0)≤l.count j:=by
  split
  ·next e=>exact List.count_pos_iff.2 (e ▸ List.getElem_mem h)
  ·exact Nat.zero_le _
 have e2:(if (l[k] == j)=true then 1 else 0)=if l[k]=j then 1 else 0:=by simp
 have e3:(if (i == j)=true then 1 else 0)=if i=j then 1 else 0:=by simp
 rw [e2,e3]
 omega
theorem slK_count {l:List Int} {k:Nat} {i j:Int} (hf:Free l k) (hj:j≠0):(slK l k i).count j=l.count j + (if i=j then 1 else 0):=by
 unfold slK
 by_cases e:k=l.length
 ·rw [if_pos e]
  have:=count_set (l:=l ++ [0]) (k:=k) (i:=i) (j:=j) (by simp;omega)
  have e1:(l ++ [0]).getD k 0=0:=by rw [e];simp
  rw [e1,if_neg (Ne.symm hj)] at this
  have e2:(l ++ [0]).count j=l.count j:=by rw [List.count_append];simp [hj.symm]
  rw [e2] at this
  omega
 ·rw [if_neg e]
  have:=count_set (l:=l) (k:=k) (i:=i) (j:=j) (by have:=hf.1;omega);rw [hf.2,if_neg (Ne.symm hj)] at this
  omega
theorem slK_len' {l:List Int} {k:Nat} {i:Int} (hf:k≤l.length):l.length≤(slK l k i).length∧k < (slK l k i).length∧((slK l k i).length=l.length∨(k=l.length∧(slK l k i).length=l.length + 1)):=by
 unfold slK;rw [List.length_set]
 by_cases e:k=l.length
 ·rw [if_pos e];simp;omega
 ·rw [if_neg e];omega
theorem slK_at {l:List Int} {k:Nat} {i:Int} (hf:k≤l.length):(slK l k i).getD k 0=i:=by
 have:=(slK_len' (i:=i) hf).2.1;rw [List.getD_eq_getElem?_getD,List.getElem?_eq_getElem this]
 simp [slK]
theorem slK_ne {l:List Int} {k m:Nat} {i:Int} (hm:m≠k):(slK l k i).getD m 0=l.getD m 0:=by
 unfold slK;rw [List.getD_eq_getElem?_getD,List.getElem?_set_ne (Ne.symm hm)]
 by_cases e:k=l.length
 ·rw [if_pos e]
  by_cases h:m < l.length
  ·rw [List.getElem?_append_left h,List.getD_eq_getElem?_getD]
  ·rw [List.getElem?_eq_none (by simp;omega),List.getD_eq_getElem?_getD,List.getElem?_eq_none (by omega)]
 ·rw [if_neg e,List.getD_eq_getElem?_getD]
theorem slK_zero {l:List Int} {k:Nat} {i:Int} (hf:Free l k) (hi:i≠0):(slK l k i).length + l.count 0=(slK l k i).count 0 + l.length + 1:=by
 unfold slK;rw [List.length_set]
 by_cases e:k=l.length
 ·rw [if_pos e]
  have:=count_set (l:=l ++ [0]) (k:=k) (i:=i) (j:=0) (by simp;omega)
  have e1:(l ++ [0]).getD k 0=0:=by rw [e];simp
  rw [e1,if_pos rfl,if_neg hi] at this
  have e2:(l ++ [0]).count 0=l.count 0 + 1:=by rw [List.count_append];simp
  rw [e2] at this
  simp
  omega
 ·rw [if_neg e]
  have:=count_set (l:=l) (k:=k) (i:=i) (j:=0) (by have:=hf.1;omega);rw [hf.2,if_pos rfl,if_neg hi] at this
  omega
theorem getD_mem {l:List Int} {k:Nat} (h:k < l.length):l.getD k 0∈l:=by
 rw [List.getD_eq_getElem?_getD,List.getElem?_eq_getElem h];exact List.getElem_mem h
theorem mem_getD {l:List Int} {j:Int} (h:j∈l):∃ k,k < l.length∧l.getD k 0=j:=by
 obtain ⟨k,hk,e⟩:=List.mem_iff_getElem.1 h
 exact ⟨k,hk,by rw [List.getD_eq_getElem?_getD,List.getElem?_eq_getElem hk];exact e⟩
theorem slK_mem {l:List Int} {k:Nat} {i j:Int} (h:j∈slK l k i):j=i∨j=0∨j∈l:=by
 unfold slK at h
 rcases List.mem_or_eq_of_mem_set h with h | h
 ·by_cases e:k=l.length
  ·rw [if_pos e] at h
   rcases List.mem_append.1 h with h | h
   ·exact .inr (.inr h)
   ·exact .inr (.inl (by simpa using h))
  ·rw [if_neg e] at h
   exact .inr (.inr h)
 ·exact .inl h

def cntS (s:PSt) (j:Int):Nat→Nat
 | 0=>0
 | n + 1=>cntS s j n + (match s.nd ((n:Int) + 1) with | some x=>x.sl.count j | none=>0)
def refs (s:PSt) (j:Int):Nat:=cntS s j 512
theorem cntS_cong {s s':PSt} {j:Int}:∀ n:Nat,(∀ i:Int,1≤i→i≤n→s.nd i=s'.nd i)→cntS s j n=cntS s' j n
 | 0,_=>rfl
 | n + 1,h=>by
  unfold cntS;rw [cntS_cong n (fun i h1 h2=>h i h1 (by omega)),h ((n:Int) + 1) (by omega) (by omega)]
theorem cntS_put {s:PSt} {i j:Int} {x x':Nd} (hx:s.nd i=some x) (h1:1≤i):∀ n:Nat,i≤n→cntS (s.put i x') j n + x.sl.count j=cntS s j n + x'.sl.count j
 | 0,h=>by omega
 | n + 1,h=>by
  unfold cntS
  by_cases e:i=(n:Int) + 1
  ·rw [←e,PSt.put_at,hx,cntS_cong (s':=s) n (fun k k1 k2=>PSt.put_ne _ _ (by omega))]
   simp only
   omega
  ·rw [PSt.put_ne _ _ (Ne.symm e)]
   have:=cntS_put (j:=j) (x':=x') hx h1 n (by omega)
   omega
theorem cntS_new {s:PSt} {i j:Int} {x':Nd} (hx:s.nd i=none) (h1:1≤i):∀ n:Nat,i≤n→cntS (s.put i x') j n=cntS s j n + x'.sl.count j
 | 0,h=>by omega
 | n + 1,h=>by
  unfold cntS
  by_cases e:i=(n:Int) + 1
  ·rw [←e,PSt.put_at,hx,cntS_cong (s':=s) n (fun k k1 k2=>PSt.put_ne _ _ (by omega))]
   simp only
   omega
  ·rw [PSt.put_ne _ _ (Ne.symm e),cntS_new hx h1 n (by omega)]
   omega
theorem cntS_del {s:PSt} {i j:Int} {x:Nd} (hx:s.nd i=some x) (h1:1≤i):∀ n:Nat,i≤n→cntS (s.del i) j n + x.sl.count j=cntS s j n
 | 0,h=>by omega
 | n + 1,h=>by
  unfold cntS
  by_cases e:i=(n:Int) + 1
  ·rw [←e,PSt.del_at,hx,cntS_cong (s':=s) n (fun k k1 k2=>PSt.del_ne _ (by omega))]
   simp only
   omega
  ·rw [PSt.del_ne _ (Ne.symm e)]
   have:=cntS_del (j:=j) hx h1 n (by omega)
   omega
theorem cntS_pos {s:PSt} {i j:Int} {x:Nd} (hx:s.nd i=some x) (h1:1≤i) (hj:j∈x.sl):∀ n:Nat,i≤n→0 < cntS s j n
 | 0,h=>by omega
 | n + 1,h=>by
  unfold cntS
  by_cases e:i=(n:Int) + 1
  ·rw [←e,hx]
   have:=List.count_pos_iff.2 hj
   simp only
   omega
  ·have:=cntS_pos hx h1 hj n (by omega)
   omega
theorem cntS_zero {s:PSt} {j:Int}:∀ n:Nat,(∀ (i:Int) x,s.nd i=some x→j ∉ x.sl)→cntS s j n=0
 | 0,_=>rfl
 | n + 1,h=>by
  unfold cntS;rw [cntS_zero n h]
  cases hx:s.nd ((n:Int) + 1) with
  | none=>rfl
  | some x =>
   simp only
   rw [List.count_eq_zero.2 (h _ x hx)]
def NmOk (t:ByteArray):Prop:=okName t.data.toList=true
structure NdOk (x:Nd):Prop where
 kind:x.kind=1∨x.kind=2
 links:1≤x.links∧x.links≤100
 made:0≤x.made∧x.made≤1099511627776
 size:0≤x.size∧x.size≤136704
 blk:∀ y v,x.blk y=some v→(0≤y∧y < 1068)∧∃ l:List Int,v=.agg (SA l)∧l.length=128∧∀ b∈l,0≤b∧b≤255
 file:x.kind=1→x.sl=[]∧∀ t,x.nm t=none
 dir:x.kind=2→x.size=0∧∀ y,x.blk y=none
 len:x.sl.length≤1068
 nm:∀ t k,x.nm t=some k→0≤k∧k < x.sl.length∧x.sl.getD k.toNat 0≠0
 inj:∀ t t' k,x.nm t=some k→x.nm t'=some k→t=t'
 sur:∀ k:Nat,k < x.sl.length→x.sl.getD k 0≠0→∃ t,x.nm t=some (k:Int)
 cnt:x.cnt + x.sl.count 0≤x.sl.length
 ok:∀ t,x.nm t≠none→NmOk t
structure InvD (s:PSt) (d:Int→Int):Prop where
 num:(0≤s.data∧s.data≤4096)∧1≤s.ino∧s.ino≤512
 root:∃ x,s.nd 1=some x∧x.kind=2∧x.links=1
 rng:∀ i x,s.nd i=some x→1≤i∧i≤s.ino
 nd:∀ i x,s.nd i=some x→NdOk x
 ref:∀ i x j,s.nd i=some x→j∈x.sl→j≠0→2≤j∧s.nd j≠none
 lk:∀ j x,s.nd j=some x→j≠1→x.links=(refs s j:Int) + d j
def Inv (s:PSt):Prop:=InvD s fun _=>0
theorem InvD.okS {s:PSt} {d:Int→Int} (h:InvD s d):OkS s:=by
 refine ⟨?_,fun i x n k hx hn => ?_⟩
 ·obtain ⟨x,hx,_⟩:=h.root
  rw [hx]
  exact fun e=>by cases e
 ·obtain ⟨h1,h2,h3⟩:=(h.nd i x hx).nm n k hn
  exact ⟨h1,h2,(h.ref i x _ hx (getD_mem (by omega)) h3).2⟩
theorem InvD.cong {s:PSt} {d d':Int→Int} (h:InvD s d) (e:∀ j,d j=d' j):InvD s d':=by
 have:d=d':=funext e
 exact this ▸ h
end Go.Proofs.YtmgfilacepnjlaaGreatDoor

namespace Go.Proofs.YtmgfilacepnjlaaGreatDoor
open Go.RowKit

theorem NdOk.ent {x:Nd} {k:Nat} {t:ByteArray} {i:Int} (h:NdOk x) (hk:x.kind=2) (hn:x.nm t=none) (hf:Free x.sl k) (hk2:k < 1068) (hi:2≤i) (ht:NmOk t):NdOk (entN x k t i):=by
 obtain ⟨l1,l2,l3⟩:=slK_len' (i:=i) hf.1;refine ⟨h.kind,h.links,h.made,h.size,h.blk,fun e=>absurd (hk.symm.trans e) (by decide),h.dir,?_,?_,?_,?_,?_,?_⟩
 ·show (slK x.sl k i).length≤1068
  have:=h.len
  omega
 ·intro u m hm
  show 0≤m∧m < (slK x.sl k i).length∧(slK x.sl k i).getD m.toNat 0≠0
  have hm:(if u=t then some (k:Int) else x.nm u)=some m:=hm
  by_cases e:u=t
  ·rw [if_pos e] at hm
   cases hm
   refine ⟨by omega,by omega,?_⟩;rw [Int.toNat_natCast,slK_at hf.1]
   omega
  ·rw [if_neg e] at hm
   obtain ⟨a1,a2,a3⟩:=h.nm u m hm;refine ⟨a1,by omega,?_⟩;rw [slK_ne]
   ·exact a3
   ·intro e2
    rw [e2] at a3
    exact a3 hf.2
 ·intro u u' m h1 h2
  have h1:(if u=t then some (k:Int) else x.nm u)=some m:=h1;have h2:(if u'=t then some (k:Int) else x.nm u')=some m:=h2
  by_cases e:u=t
  ·by_cases e':u'=t
   ·rw [e,e']
   ·rw [if_pos e] at h1
    rw [if_neg e'] at h2
    cases h1
    have:=(h.nm u' _ h2).2.2;rw [Int.toNat_natCast] at this
    exact absurd hf.2 this
  ·rw [if_neg e] at h1
   by_cases e':u'=t
   ·rw [if_pos e'] at h2
    cases h2
    have:=(h.nm u _ h1).2.2;rw [Int.toNat_natCast] at this
    exact absurd hf.2 this
   ·rw [if_neg e'] at h2
    exact h.inj u u' m h1 h2
 ·intro m hm hz
  have hm:m < (slK x.sl k i).length:=hm;have hz:(slK x.sl k i).getD m 0≠0:=hz
  show ∃ u,(if u=t then some (k:Int) else x.nm u)=some (m:Int)
  by_cases e:m=k
  ·exact ⟨t,by rw [if_pos rfl,e]⟩
  ·rw [slK_ne e] at hz
   have hm2:m < x.sl.length:=by
    by_cases h2:m < x.sl.length
    ·exact h2
    ·rw [List.getD_eq_getElem?_getD,List.getElem?_eq_none (by omega)] at hz
     exact absurd rfl hz
   obtain ⟨u,hu⟩:=h.sur m hm2 hz;refine ⟨u,?_⟩;rw [if_neg (fun e2=>by rw [e2,hn] at hu;cases hu)]
   exact hu
 ·show x.cnt + 1 + (slK x.sl k i).count 0≤(slK x.sl k i).length
  have:=slK_zero (i:=i) hf (by omega);have:=h.cnt
  omega
 ·intro u hu
  have hu:(if u=t then some (k:Int) else x.nm u)≠none:=hu
  by_cases e:u=t
  ·rw [e];exact ht
  ·rw [if_neg e] at hu
   exact h.ok u hu
theorem NdOk.old {x:Nd} {k:Nat} {t:ByteArray} {i:Int} (h:NdOk x) (hk:x.kind=2) (hn:x.nm t=some (k:Int)) (hi:2≤i):NdOk (entO x k t i):=by
 obtain ⟨n1,n2,n3⟩:=h.nm t k hn;rw [Int.toNat_natCast] at n3
 have e0:slK x.sl k i=x.sl.set k i:=by unfold slK;rw [if_neg (by omega)]
 have e1:∀ u,(if u=t then some (k:Int) else x.nm u)=x.nm u:=fun u=>by
  by_cases e:u=t
  ·rw [if_pos e,e,hn]
  ·rw [if_neg e]
 refine ⟨h.kind,h.links,h.made,h.size,h.blk,fun e=>absurd (hk.symm.trans e) (by decide),h.dir,?_,?_,?_,?_,?_,?_⟩
 ·show (slK x.sl k i).length≤1068
  rw [e0,List.length_set]
  exact h.len
 ·intro u m hm
  show 0≤m∧m < (slK x.sl k i).length∧(slK x.sl k i).getD m.toNat 0≠0
  have hm:(if u=t then some (k:Int) else x.nm u)=some m:=hm;rw [e1] at hm;obtain ⟨a1,a2,a3⟩:=h.nm u m hm;refine ⟨a1,by rw [e0,List.length_set];exact a2,?_⟩
  by_cases e:m.toNat=k
  ·rw [e,slK_at (by omega)];omega
  ·rw [slK_ne e];exact a3
 ·intro u u' m h1 h2
  have h1:(if u=t then some (k:Int) else x.nm u)=some m:=h1;have h2:(if u'=t then some (k:Int) else x.nm u')=some m:=h2;rw [e1] at h1 h2
  exact h.inj u u' m h1 h2
 ·intro m hm hz
  have hm:m < (slK x.sl k i).length:=hm;have hz:(slK x.sl k i).getD m 0≠0:=hz
  show ∃ u,(if u=t then some (k:Int) else x.nm u)=some (m:Int)
  by_cases e:m=k
  ·exact ⟨t,by rw [if_pos rfl,e]⟩
  ·rw [slK_ne e] at hz
   obtain ⟨u,hu⟩:=h.sur m (by rw [e0,List.length_set] at hm;exact hm) hz
   exact ⟨u,by rw [e1];exact hu⟩
 ·show x.cnt + (slK x.sl k i).count 0≤(slK x.sl k i).length
  rw [e0,List.length_set];have:=count_set (l:=x.sl) (k:=k) (i:=i) (j:=0) (by omega);rw [if_neg n3,if_neg (by omega)] at this;have:=h.cnt
  omega
 ·intro u hu
  have hu:(if u=t then some (k:Int) else x.nm u)≠none:=hu;rw [e1] at hu
  exact h.ok u hu
theorem set_at {l:List Int} {k:Nat} {i:Int} (h:k < l.length):(l.set k i).getD k 0=i:=by
 rw [List.getD_eq_getElem?_getD,List.getElem?_set_self h];rfl
theorem set_ne {l:List Int} {k m:Nat} {i:Int} (h:m≠k):(l.set k i).getD m 0=l.getD m 0:=by
 rw [List.getD_eq_getElem?_getD,List.getElem?_set_ne (Ne.symm h),List.getD_eq_getElem?_getD]
theorem NdOk.lea {x:Nd} {k:Nat} {t:ByteArray} (h:NdOk x) (hk:x.kind=2) (hn:x.nm t=some (k:Int)):NdOk (leaN x k t):=by
 obtain ⟨n1,n2,n3⟩:=h.nm t k hn;rw [Int.toNat_natCast] at n3;refine ⟨h.kind,h.links,h.made,h.size,h.blk,fun e=>absurd (hk.symm.trans e) (by decide),h.dir,?_,?_,?_,?_,?_,?_⟩
 ·show (x.sl.set k 0).length≤1068
  rw [List.length_set]
  exact h.len
 ·intro u m hm
  show 0≤m∧m < (x.sl.set k 0).length∧(x.sl.set k 0).getD m.toNat 0≠0
  have hm:(if u=t then none else x.nm u)=some m:=hm
  by_cases e:u=t
  ·rw [if_pos e] at hm;cases hm
  ·rw [if_neg e] at hm
   obtain ⟨a1,a2,a3⟩:=h.nm u m hm;refine ⟨a1,by rw [List.length_set];exact a2,?_⟩;rw [set_ne]
   ·exact a3
   ·intro e2
    refine e (h.inj u t m hm ?_);rw [hn,←e2]
    congr 1
    omega
 ·intro u u' m h1 h2
  have h1:(if u=t then none else x.nm u)=some m:=h1;have h2:(if u'=t then none else x.nm u')=some m:=h2
  by_cases e:u=t
  ·rw [if_pos e] at h1;cases h1
  ·by_cases e':u'=t
   ·rw [if_pos e'] at h2;cases h2
   ·rw [if_neg e] at h1
    rw [if_neg e'] at h2
    exact h.inj u u' m h1 h2
 ·intro m hm hz
  have hm:m < (x.sl.set k 0).length:=hm;have hz:(x.sl.set k 0).getD m 0≠0:=hz
  show ∃ u,(if u=t then none else x.nm u)=some (m:Int)
  by_cases e:m=k
  ·rw [e,set_at (by omega)] at hz
   exact absurd rfl hz
  ·rw [set_ne e] at hz
   obtain ⟨u,hu⟩:=h.sur m (by rw [List.length_set] at hm;exact hm) hz;refine ⟨u,?_⟩;rw [if_neg (fun e2=>by rw [e2,hn] at hu;exact e (by have:=Option.some.inj hu;omega))]
   exact hu
 ·show x.cnt - 1 + (x.sl.set k 0).count 0≤(x.sl.set k 0).length
  rw [List.length_set];have:=count_set (l:=x.sl) (k:=k) (i:=0) (j:=0) (by omega);rw [if_neg n3,if_pos rfl] at this;have h3:=h.cnt
  have h4:x.sl.count 0 < x.sl.length:=by
   rcases Nat.lt_or_ge (x.sl.count 0) x.sl.length with h | h
   ·exact h
   ·exfalso
    have h5:x.sl.count 0=x.sl.length:=Nat.le_antisymm List.count_le_length h;have:=(List.count_eq_length.1 h5) _ (getD_mem (l:=x.sl) (k:=k) (by omega))
    exact n3 this.symm
  omega
 ·intro u hu
  have hu:(if u=t then none else x.nm u)≠none:=hu
  by_cases e:u=t
  ·rw [if_pos e] at hu;exact absurd rfl hu
  ·rw [if_neg e] at hu
   exact h.ok u hu
theorem InvD.turn {s:PSt} {d d':Int→Int} {i:Int} {x x':Nd} (h:InvD s d) (hx:s.nd i=some x) (hN:NdOk x') (hk:x'.kind=x.kind) (hl:i=1→x'.links=1) (hr:∀ j,j∈x'.sl→j≠0→2≤j∧s.nd j≠none) (hd:∀ j,j≠0→j≠i→(x.sl.count j:Int) + d j=(x'.sl.count j:Int) + d' j) (hi:i≠1→x'.links - x.links=(x'.sl.count i:Int) - (x.sl.count i:Int) + d' i - d i):InvD (s.put i x') d':=by
 have hri:=h.rng i x hx
 have hne:∀ j,s.nd j≠none→(s.put i x').nd j≠none:=fun j hj=>by
  by_cases e:j=i
  ·rw [e,PSt.put_at];exact fun e=>by cases e
  ·rw [PSt.put_ne _ _ e];exact hj
 refine ⟨h.num,?_,?_,?_,?_,?_⟩
 ·obtain ⟨y,hy,hy2⟩:=h.root
  by_cases e:(1:Int)=i
  ·have e0:(s.put i x').nd 1=some x':=by rw [e,PSt.put_at]
   rw [←e,hy] at hx
   cases hx
   exact ⟨x',e0,by rw [hk];exact hy2.1,hl e.symm⟩
  ·exact ⟨y,by rw [PSt.put_ne _ _ e];exact hy,hy2⟩
 ·intro j y hy
  by_cases e:j=i
  ·rw [e];exact hri
  ·rw [PSt.put_ne _ _ e] at hy;exact h.rng j y hy
 ·intro j y hy
  by_cases e:j=i
  ·rw [e,PSt.put_at] at hy;cases hy;exact hN
  ·rw [PSt.put_ne _ _ e] at hy;exact h.nd j y hy
 ·intro j y m hy hm h0
  by_cases e:j=i
  ·rw [e,PSt.put_at] at hy
   cases hy
   exact ⟨(hr m hm h0).1,hne m (hr m hm h0).2⟩
  ·rw [PSt.put_ne _ _ e] at hy
   exact ⟨(h.ref j y m hy hm h0).1,hne m (h.ref j y m hy hm h0).2⟩
 ·intro j y hy hj1
  have hc:=cntS_put (j:=j) (x':=x') hx hri.1 512 (by have:=h.num;omega)
  have hj0:j≠0:=by
   intro e
   by_cases e2:j=i
   ·omega
   ·rw [PSt.put_ne _ _ e2] at hy
    have:=h.rng j y hy
    omega
  show y.links=(cntS (s.put i x') j 512:Int) + d' j
  by_cases e:j=i
  ·rw [e,PSt.put_at] at hy
   cases hy
   have h1:x.links=(cntS s i 512:Int) + d i:=h.lk i x hx (by omega);have h2:=hi (by omega);rw [e] at hc ⊢
   omega
  ·rw [PSt.put_ne _ _ e] at hy
   have h1:y.links=(cntS s j 512:Int) + d j:=h.lk j y hy hj1;have h2:=hd j hj0 e
   omega
theorem ite_nn (p:Prop) [Decidable p]:(((if p then 1 else 0:Nat)):Int)=if p then 1 else 0:=by split <;> rfl
theorem InvD.enter {s:PSt} {d:Int→Int} {a i:Int} {x:Nd} {t:ByteArray} {k:Nat} (h:InvD s d) (hx:s.nd a=some x) (hk:x.kind=2) (hn:x.nm t=none) (hf:Free x.sl k) (hk2:k < 1068) (hi:2≤i) (he:s.nd i≠none) (ht:NmOk t):InvD (s.put a (entN x k t i)) (fun j=>if i=j then d j - 1 else d j):=by
 have hc:∀ j:Int,j≠0→(((entN x k t i).sl.count j:Nat):Int)=(x.sl.count j:Int) + if i=j then 1 else 0:=fun j hj=>by
  have:=slK_count (i:=i) hf hj
  show ((slK x.sl k i).count j:Int)=_
  rw [this]
  split <;> simp
 refine h.turn hx ((h.nd a x hx).ent hk hn hf hk2 hi ht) rfl (fun e => ?_) ?_ ?_ ?_
 ·obtain ⟨y,hy,hy2⟩:=h.root
  rw [e,hy] at hx
  cases hx
  exact hy2.2
 ·intro j hj h0
  rcases slK_mem hj with e | e | e
  ·rw [e];exact ⟨hi,he⟩
  ·exact absurd e h0
  ·exact h.ref a x j hx e h0
 ·intro j h0 _
  rw [hc j h0]
  show _=_ + _ + (if i=j then d j - 1 else d j)
  by_cases e:i=j
  ·rw [if_pos e,if_pos e];omega
  ·rw [if_neg e,if_neg e];omega
 ·intro h1
  have:=h.rng a x hx;rw [hc a (by omega)]
  show x.links - x.links=_ - _ + (if i=a then d a - 1 else d a) - _
  by_cases e:i=a
  ·rw [if_pos e,if_pos e];omega
  ·rw [if_neg e,if_neg e];omega
theorem InvD.old {s:PSt} {d:Int→Int} {a i:Int} {x:Nd} {t:ByteArray} {k:Nat} (h:InvD s d) (hx:s.nd a=some x) (hk:x.kind=2) (hn:x.nm t=some (k:Int)) (hi:2≤i) (he:s.nd i≠none):InvD (s.put a (entO x k t i)) (fun j=>d j + (if x.sl.getD k 0=j then 1 else 0) - (if i=j then 1 else 0)):=by
 obtain ⟨n1,n2,n3⟩:=(h.nd a x hx).nm t k hn
 have e0:slK x.sl k i=x.sl.set k i:=by unfold slK;rw [if_neg (by omega)]
 have hc:∀ j:Int,(((entO x k t i).sl.count j:Nat):Int) + (if x.sl.getD k 0=j then 1 else 0)=(x.sl.count j:Int) + if i=j then 1 else 0:=fun j=>by
  have:=count_set (l:=x.sl) (k:=k) (i:=i) (j:=j) (by omega)
  show ((slK x.sl k i).count j:Int) + _=_
  rw [e0]
  have h2:(((x.sl.set k i).count j + (if x.sl.getD k 0=j then 1 else 0):Nat):Int)=((x.sl.count j + (if i=j then 1 else 0):Nat):Int):=by rw [this]
  rw [Int.natCast_add,Int.natCast_add,ite_nn,ite_nn] at h2
  exact h2
 refine h.turn hx ((h.nd a x hx).old hk hn hi) rfl (fun e => ?_) ?_ ?_ ?_
 ·obtain ⟨y,hy,hy2⟩:=h.root
  rw [e,hy] at hx
  cases hx
  exact hy2.2
 ·intro j hj h0
  rcases slK_mem hj with e | e | e
  ·rw [e];exact ⟨hi,he⟩
  ·exact absurd e h0
  ·exact h.ref a x j hx e h0
 ·intro j h0 _
  have:=hc j
  omega
 ·intro h1
  have:=hc a
  show x.links - x.links=_ - _ + _ - _
  omega
theorem InvD.leave {s:PSt} {d:Int→Int} {a:Int} {x:Nd} {t:ByteArray} {k:Nat} (h:InvD s d) (hx:s.nd a=some x) (hk:x.kind=2) (hn:x.nm t=some (k:Int)):InvD (s.put a (leaN x k t)) (fun j=>d j + (if x.sl.getD k 0=j then 1 else 0)):=by
 obtain ⟨n1,n2,n3⟩:=(h.nd a x hx).nm t k hn
 have hc:∀ j:Int,j≠0→(((leaN x k t).sl.count j:Nat):Int) + (if x.sl.getD k 0=j then 1 else 0)=(x.sl.count j:Int):=fun j hj=>by
  have:=count_set (l:=x.sl) (k:=k) (i:=0) (j:=j) (by omega)
  show ((x.sl.set k 0).count j:Int) + _=_
  rw [if_neg (c:=(0:Int)=j) (Ne.symm hj)] at this
  have h2:(((x.sl.set k 0).count j + (if x.sl.getD k 0=j then 1 else 0):Nat):Int)=((x.sl.count j + 0:Nat):Int):=by rw [this]
  rw [Int.natCast_add,ite_nn] at h2
  exact h2
 refine h.turn hx ((h.nd a x hx).lea hk hn) rfl (fun e => ?_) ?_ ?_ ?_
 ·obtain ⟨y,hy,hy2⟩:=h.root
  rw [e,hy] at hx
  cases hx
  exact hy2.2
 ·intro j hj h0
  rcases List.mem_or_eq_of_mem_set hj with e | e
  ·exact h.ref a x j hx e h0
  ·exact absurd e h0
 ·intro j h0 _
  have:=hc j h0
  omega
 ·intro h1
  have:=h.rng a x hx;have:=hc a (by omega)
  show x.links - x.links=_ - _ + _ - _
  omega
theorem InvD.linked {s:PSt} {d:Int→Int} {i:Int} {x:Nd} (n:Int) (h:InvD s d) (hx:s.nd i=some x) (hi:2≤i) (hl:1≤n∧n≤100):InvD (s.put i { x with links:=n }) (fun j=>if i=j then d j + (n - x.links) else d j):=by
 have hN:=h.nd i x hx;refine h.turn hx ⟨hN.kind,hl,hN.made,hN.size,hN.blk,hN.file,hN.dir,hN.len,hN.nm,hN.inj,hN.sur,hN.cnt,hN.ok⟩ rfl (fun e=>by omega) (fun j hj h0=>h.ref i x j hx hj h0) (fun j _ hj => ?_) (fun _ => ?_)
 ·show _=_ + (if i=j then _ else _)
  rw [if_neg (Ne.symm hj)]
 ·show n - x.links=_ - _ + (if i=i then _ else _) - _
  rw [if_pos rfl];have e0:((({ x with links:=n }:Nd).sl.count i:Nat):Int)=(x.sl.count i:Int):=rfl
  omega
theorem InvD.lose {s:PSt} {d:Int→Int} {i:Int} {x:Nd} (h:InvD s d) (hx:s.nd i=some x) (hi:2≤i) (hd:d i=1) (hz:x.links=1→∀ j∈x.sl,j=0):InvD (loseS s i x) (fun j=>if i=j then d j - 1 else d j):=by
 have hN:=h.nd i x hx;unfold loseS
 by_cases e:x.links=1
 ·rw [if_pos e]
  have hr:(refs s i:Int)=0:=by
   have:=h.lk i x hx (by omega)
   omega
  have hr0:refs s i=0:=by omega
  have hri:=h.rng i x hx
  have hno:∀ j y,s.nd j=some y→i ∉ y.sl:=fun j y hy hm=>by
   have:=cntS_pos hy (h.rng j y hy).1 hm 512 (by have:=h.rng j y hy;have:=h.num;omega);unfold refs at hr0
   omega
  refine ⟨h.num,?_,?_,?_,?_,?_⟩
  ·obtain ⟨y,hy,hy2⟩:=h.root
   exact ⟨y,by rw [PSt.del_ne _ (by omega)];exact hy,hy2⟩
  ·intro j y hy
   by_cases e2:j=i
   ·rw [e2,PSt.del_at] at hy;cases hy
   ·rw [PSt.del_ne _ e2] at hy;exact h.rng j y hy
  ·intro j y hy
   by_cases e2:j=i
   ·rw [e2,PSt.del_at] at hy;cases hy
   ·rw [PSt.del_ne _ e2] at hy;exact h.nd j y hy
  ·intro j y m hy hm h0
   by_cases e2:j=i
   ·rw [e2,PSt.del_at] at hy;cases hy
   ·rw [PSt.del_ne _ e2] at hy
    have:=h.ref j y m hy hm h0;refine ⟨this.1,?_⟩;rw [PSt.del_ne _ (fun e3=>hno j y hy (by rw [←e3];exact hm))]
    exact this.2
  ·intro j y hy hj1
   by_cases e2:j=i
   ·rw [e2,PSt.del_at] at hy;cases hy
   ·rw [PSt.del_ne _ e2] at hy
    have hc:=cntS_del (j:=j) hx hri.1 512 (by have:=h.num;omega)
    have h0:x.sl.count j=0:=List.count_eq_zero.2 (fun hm=>by
     have:=hz e j hm;have:=h.rng j y hy
     omega)
    have h1:y.links=(cntS s j 512:Int) + d j:=h.lk j y hy hj1
    show y.links=(cntS (s.del i) j 512:Int) + (if i=j then d j - 1 else d j)
    rw [if_neg (Ne.symm e2)]
    omega
 ·rw [if_neg e]
  have:=h.linked (x.links - 1) hx hi (by have:=hN.links;omega)
  refine this.cong fun j => ?_
  by_cases e2:i=j
  ·rw [if_pos e2,if_pos e2];omega
  ·rw [if_neg e2,if_neg e2]
theorem InvD.new {s:PSt} {d:Int→Int} {i kind made:Int} (h:InvD s d) (hx:s.nd i=none) (hi:2≤i) (hio:i≤s.ino) (hk:kind=1∨kind=2) (hm:0≤made∧made≤1099511627776):InvD (s.put i (newNd kind made)) (fun j=>if i=j then 1 else d j):=by
 have hr:∀ j,cntS (s.put i (newNd kind made)) j 512=cntS s j 512:=fun j=>by
  rw [cntS_new hx (by omega) 512 (by have:=h.num;omega)];have e0:(newNd kind made).sl.count j=0:=rfl;rw [e0,Nat.add_zero]
 have hne:∀ j,s.nd j≠none→(s.put i (newNd kind made)).nd j≠none:=fun j hj=>by
  by_cases e:j=i
  ·rw [e,PSt.put_at];exact fun e=>by cases e
  ·rw [PSt.put_ne _ _ e];exact hj
 refine ⟨h.num,?_,?_,?_,?_,?_⟩
 ·obtain ⟨y,hy,hy2⟩:=h.root
  exact ⟨y,by rw [PSt.put_ne _ _ (by omega)];exact hy,hy2⟩
 ·intro j y hy
  by_cases e:j=i
  ·rw [e];exact ⟨by omega,hio⟩
  ·rw [PSt.put_ne _ _ e] at hy;exact h.rng j y hy
 ·intro j y hy
  by_cases e:j=i
  ·rw [e,PSt.put_at] at hy
   cases hy
   exact ⟨hk,⟨by simp [newNd],by simp [newNd]⟩,hm,⟨by simp [newNd],by simp [newNd]⟩,(fun _ _ e=>by cases e),fun _=>⟨rfl,fun _=>rfl⟩,fun _=>⟨rfl,fun _=>rfl⟩,by simp [newNd],(fun _ _ e=>by cases e),(fun _ _ _ e _=>by cases e),fun k hk=>absurd hk (by simp [newNd]),by simp [newNd],fun _ e=>absurd rfl e⟩
  ·rw [PSt.put_ne _ _ e] at hy;exact h.nd j y hy
 ·intro j y m hy hm h0
  by_cases e:j=i
  ·rw [e,PSt.put_at] at hy
   cases hy
   cases hm
  ·rw [PSt.put_ne _ _ e] at hy
   exact ⟨(h.ref j y m hy hm h0).1,hne m (h.ref j y m hy hm h0).2⟩
 ·intro j y hy hj1
  show y.links=(cntS (s.put i (newNd kind made)) j 512:Int) + (if i=j then 1 else d j)
  rw [hr]
  by_cases e:j=i
  ·rw [e,PSt.put_at] at hy
   cases hy
   rw [if_pos e.symm]
   have:cntS s j 512=0:=cntS_zero 512 (fun k y hy hm=>by
    have:=(h.ref k y j hy hm (by omega)).2;rw [e] at this
    exact this hx)
   rw [this]
   rfl
  ·rw [PSt.put_ne _ _ e] at hy
   rw [if_neg (Ne.symm e)]
   exact h.lk j y hy hj1
theorem InvD.file {s:PSt} {d:Int→Int} {i:Int} {x x':Nd} (h:InvD s d) (hx:s.nd i=some x) (hf:x.kind≠2) (hk:x'.kind=x.kind) (hl:x'.links=x.links) (hm:x'.made=x.made) (hs:x'.sl=x.sl) (hn:x'.nm=x.nm) (hc:x'.cnt=x.cnt) (hz:0≤x'.size∧x'.size≤136704) (hb:∀ y v,x'.blk y=some v→(0≤y∧y < 1068)∧∃ l:List Int,v=.agg (SA l)∧l.length=128∧∀ b∈l,0≤b∧b≤255):InvD (s.put i x') d:=by
 have hN:=h.nd i x hx
 refine h.turn hx ⟨by rw [hk];exact hN.kind,by rw [hl];exact hN.links,by rw [hm];exact hN.made,hz,hb,by rw [hk,hs,hn];exact hN.file,fun e=>absurd (hk.symm.trans e) hf,by rw [hs];exact hN.len,by rw [hn,hs];exact hN.nm,by rw [hn];exact hN.inj,by rw [hn,hs];exact hN.sur,by rw [hs,hc];exact hN.cnt,by rw [hn];exact hN.ok⟩ hk (fun e => ?_) (fun j hj h0=>h.ref i x j hx (hs ▸ hj) h0) (fun j _ _=>by rw [hs]) (fun _=>by rw [hs,hl];omega)
 obtain ⟨y,hy,hy2⟩:=h.root;rw [e,hy] at hx
 cases hx
 exact absurd hy2.1 hf
end Go.Proofs.YtmgfilacepnjlaaGreatDoor
