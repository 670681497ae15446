/-
 package plain, as functions: operations keep it (names).
-/
import Derived.Test.YtmgfilacepnjlaaGreatDoorVA6
namespace Go.Proofs.YtmgfilacepnjlaaGreatDoor
open Go.RowKit

theorem find_eq {x:Nd} {t:ByteArray} {k:Nat} (h:x.nm t=some (k:Int)):findN x t=some (x.sl.getD k 0):=by
 unfold findN;rw [h]
 show some (x.sl.getD ((k:Int)).toNat 0)=_
 rw [Int.toNat_natCast]
theorem find_no {x:Nd} {t:ByteArray} (h:x.nm t=none):findN x t=none:=by
 unfold findN;rw [h]
 rfl
theorem nm_nat {x:Nd} (hN:NdOk x) {t:ByteArray} {k:Int} (h:x.nm t=some k):x.nm t=some ((k.toNat:Nat):Int):=by
 rw [h,Int.toNat_of_nonneg (hN.nm t k h).1]
theorem find_ent {x:Nd} {k:Nat} {t:ByteArray} {i:Int} (hN:NdOk x) (hf:Free x.sl k) (u:ByteArray):findN (entN x k t i) u=if u=t then some i else findN x u:=by
 by_cases e:u=t
 ·rw [if_pos e]
  have h:(entN x k t i).nm u=some (k:Int):=if_pos e;rw [find_eq h]
  show some ((slK x.sl k i).getD k 0)=_
  rw [slK_at hf.1]
 ·rw [if_neg e]
  have h:(entN x k t i).nm u=x.nm u:=if_neg e
  cases hn:x.nm u with
  | none=>rw [find_no hn,find_no (h.trans hn)]
  | some m =>
   have hn':=nm_nat hN hn
   have hne:m.toNat≠k:=fun c=>(hN.nm u m hn).2.2 (by rw [c];exact hf.2)
   rw [find_eq hn',find_eq (h.trans hn')]
   show some ((slK x.sl k i).getD m.toNat 0)=_
   rw [slK_ne hne]
theorem find_old {x:Nd} {k:Nat} {t:ByteArray} {i:Int} (hN:NdOk x) (ht:x.nm t=some (k:Int)) (u:ByteArray):findN (entO x k t i) u=if u=t then some i else findN x u:=by
 have hk:k < x.sl.length:=by have:=(hN.nm t k ht).2.1;omega
 by_cases e:u=t
 ·rw [if_pos e]
  have h:(entO x k t i).nm u=some (k:Int):=if_pos e;rw [find_eq h]
  show some ((slK x.sl k i).getD k 0)=_
  rw [slK_at (Nat.le_of_lt hk)]
 ·rw [if_neg e]
  have h:(entO x k t i).nm u=x.nm u:=if_neg e
  cases hn:x.nm u with
  | none=>rw [find_no hn,find_no (h.trans hn)]
  | some m =>
   have hn':=nm_nat hN hn
   have hne:m.toNat≠k:=fun c=>e (hN.inj u t k (by rw [←c];exact hn') ht)
   rw [find_eq hn',find_eq (h.trans hn')]
   show some ((slK x.sl k i).getD m.toNat 0)=_
   rw [slK_ne hne]
theorem find_lea {x:Nd} {k:Nat} {t:ByteArray} (hN:NdOk x) (ht:x.nm t=some (k:Int)) (u:ByteArray):findN (leaN x k t) u=if u=t then none else findN x u:=by
 by_cases e:u=t
 ·rw [if_pos e]
  exact find_no (if_pos e)
 ·rw [if_neg e]
  have h:(leaN x k t).nm u=x.nm u:=if_neg e
  cases hn:x.nm u with
  | none=>rw [find_no hn,find_no (h.trans hn)]
  | some m =>
   have hn':=nm_nat hN hn
   have hne:m.toNat≠k:=fun c=>e (hN.inj u t k (by rw [←c];exact hn') ht)
   rw [find_eq hn',find_eq (h.trans hn')]
   show some ((x.sl.set k 0).getD m.toNat 0)=_
   rw [set_ne hne]
theorem find_mem {x:Nd} (hN:NdOk x) {t:ByteArray} {j:Int} (h:findN x t=some j):j∈x.sl∧j≠0:=by
 obtain ⟨k,a1,a2,a3,a4⟩:=find_some hN h
 exact ⟨by rw [←a2];exact getD_mem a3,a4⟩
theorem find_dir {x:Nd} (hN:NdOk x) {t:ByteArray} {j:Int} (h:findN x t=some j):x.kind=2:=by
 obtain ⟨k,a1,_⟩:=find_some hN h
 rcases hN.kind with e | e
 ·rw [(hN.file e).2 t] at a1;cases a1
 ·exact e

def Q1 (x:Nd):Prop:=(x.kind=2→x.links=1)∧∀ y,x.blk y≠none→128 * y < x.size
def AllQ (s:PSt):Prop:=∀ i x,s.nd i=some x→Q1 x
theorem AllQ.put {s:PSt} {i:Int} {x:Nd} (h:AllQ s) (hx:Q1 x):AllQ (s.put i x):=fun j y hy=>by
 by_cases e:j=i
 ·rw [e,PSt.put_at] at hy;cases hy;exact hx
 ·rw [PSt.put_ne _ _ e] at hy;exact h j y hy
theorem AllQ.del {s:PSt} {i:Int} (h:AllQ s):AllQ (s.del i):=fun j y hy=>by
 by_cases e:j=i
 ·rw [e,PSt.del_at] at hy;cases hy
 ·rw [PSt.del_ne _ e] at hy;exact h j y hy
theorem AllQ.lose {s:PSt} {i:Int} {x:Nd} (h:AllQ s) (hx:Q1 x):AllQ (loseS s i x):=by
 unfold loseS
 by_cases e:x.links=1
 ·rw [if_pos e];exact h.del
 ·rw [if_neg e];exact h.put ⟨fun c=>absurd (hx.1 c) e,hx.2⟩

theorem sumN_cong {s u:PSt} {P Q:Int→Prop}:∀ n:Nat,(∀ i:Nat,i < n→(P (i:Int)↔Q (i:Int))∧s.nd (i:Int)=u.nd (i:Int))→sumN s P n=sumN u Q n
 | 0,_=>rfl
 | n + 1,h=>by
  unfold sumN;rw [sumN_cong n (fun i hi=>h i (by omega)),(h n (by omega)).2]
  by_cases c:P (n:Int)
  ·rw [if_pos c,if_pos ((h n (by omega)).1.1 c)]
  ·rw [if_neg c,if_neg (fun e=>c ((h n (by omega)).1.2 e))]
theorem sum_put {s:PSt} {i:Int} {x x':Nd} (hx:s.nd i=some x) (h0:0≤i):∀ n:Nat,i < n→sumN (s.put i x') (fun j=>(s.put i x').nd j≠none) n + cardN x=sumN s (fun j=>s.nd j≠none) n + cardN x'
 | 0,h=>by omega
 | n + 1,h=>by
  unfold sumN
  by_cases e:i=(n:Int)
  ·have e1:=sumN_cong (s:=s.put i x') (u:=s) (P:=fun j=>(s.put i x').nd j≠none) (Q:=fun j=>s.nd j≠none) n (fun j hj=>by
    have:(s.put i x').nd (j:Int)=s.nd (j:Int):=PSt.put_ne _ _ (by omega)
    exact ⟨by show _≠_↔_≠_;rw [this],this⟩)
   rw [e1,←e,PSt.put_at,hx,if_pos (fun c=>by cases c),if_pos (fun c=>by cases c)]
   simp only
   omega
  ·have:=sum_put (x':=x') hx h0 n (by omega)
   rw [PSt.put_ne _ _ (Ne.symm e)]
   omega
theorem sum_new {s:PSt} {i:Int} {x':Nd} (hx:s.nd i=none) (h0:0≤i):∀ n:Nat,i < n→sumN (s.put i x') (fun j=>(s.put i x').nd j≠none) n=sumN s (fun j=>s.nd j≠none) n + cardN x'
 | 0,h=>by omega
 | n + 1,h=>by
  unfold sumN
  by_cases e:i=(n:Int)
  ·have e1:=sumN_cong (s:=s.put i x') (u:=s) (P:=fun j=>(s.put i x').nd j≠none) (Q:=fun j=>s.nd j≠none) n (fun j hj=>by
    have:(s.put i x').nd (j:Int)=s.nd (j:Int):=PSt.put_ne _ _ (by omega)
    exact ⟨by show _≠_↔_≠_;rw [this],this⟩)
   rw [e1,←e,PSt.put_at,hx,if_pos (fun c=>by cases c),if_neg (fun c=>c rfl)]
   simp only
   omega
  ·have:=sum_new (x':=x') hx h0 n (by omega)
   rw [PSt.put_ne _ _ (Ne.symm e)]
   omega
theorem sum_del {s:PSt} {i:Int} {x:Nd} (hx:s.nd i=some x) (h0:0≤i):∀ n:Nat,i < n→sumN (s.del i) (fun j=>(s.del i).nd j≠none) n + cardN x=sumN s (fun j=>s.nd j≠none) n
 | 0,h=>by omega
 | n + 1,h=>by
  unfold sumN
  by_cases e:i=(n:Int)
  ·have e1:=sumN_cong (s:=s.del i) (u:=s) (P:=fun j=>(s.del i).nd j≠none) (Q:=fun j=>s.nd j≠none) n (fun j hj=>by
    have:(s.del i).nd (j:Int)=s.nd (j:Int):=PSt.del_ne _ (by omega)
    exact ⟨by show _≠_↔_≠_;rw [this],this⟩)
   rw [e1,←e,PSt.del_at,hx,if_neg (fun c=>c rfl),if_pos (fun c=>by cases c)]
   simp only
   omega
  ·have:=sum_del hx h0 n (by omega)
   rw [PSt.del_ne _ (Ne.symm e)]
   omega
theorem taken_put {s:PSt} {i:Int} {x x':Nd} (hx:s.nd i=some x) (h0:0≤i) (h1:i≤512):takenN (s.put i x') + cardN x=takenN s + cardN x':=sum_put hx h0 513 (by omega)
theorem taken_new {s:PSt} {i:Int} {x':Nd} (hx:s.nd i=none) (h0:0≤i) (h1:i≤512):takenN (s.put i x')=takenN s + cardN x':=sum_new hx h0 513 (by omega)
theorem taken_del {s:PSt} {i:Int} {x:Nd} (hx:s.nd i=some x) (h0:0≤i) (h1:i≤512):takenN (s.del i) + cardN x=takenN s:=sum_del hx h0 513 (by omega)
theorem card_cong {x y:Nd} (hb:∀ k,x.blk k≠none↔y.blk k≠none) (hl:x.sl.length=y.sl.length):cardN x=cardN y:=by
 unfold cardN
 congr 1
 funext i
 unfold talB TalP
 congr 1
 rw [hl];refine propext (or_congr ⟨?_,?_⟩ Iff.rfl)
 ·rintro ⟨k,h1,h2⟩;exact ⟨k,(hb _).1 h1,h2⟩
 ·rintro ⟨k,h1,h2⟩;exact ⟨k,(hb _).2 h1,h2⟩
open Classical in
theorem card_mono {x y:Nd} (h:∀ i,TalP x i→TalP y i):cardN x≤cardN y:=by
 unfold cardN cardT
 refine List.countP_mono_left fun i _ hi => ?_
 unfold talB at hi ⊢
 exact decide_eq_true (h i (of_decide_eq_true hi))
open Classical in
theorem cardQ_eq {x y:Nd} {a b:Nat} (h:∀ i,TalP y i↔TalQ x a b i):cardN y=cardQ x a b:=by
 rw [←cardQ_of (x:=x) (F:=fun i=>talB y i) (fun i=>by
  unfold talB;rw [decide_eq_true_iff]
  exact h i)]
 rfl
theorem card_ent {x:Nd} {k:Nat} {t:ByteArray} {i:Int} (hf:k≤x.sl.length):cardN (entN x k t i)=cardQ x k (k + 1):=by
 refine cardQ_eq fun m => ?_
 obtain ⟨l1,l2,l3⟩:=slK_len' (i:=i) hf;unfold TalQ TalP
 show (_∨∃ j,j < (slK x.sl k i).length∧_)↔_
 constructor
 ·rintro (h | ⟨j,hj,hm⟩)
  ·exact .inl (.inl h)
  ·by_cases e:j < x.sl.length
   ·exact .inl (.inr ⟨j,e,hm⟩)
   ·exact .inr ⟨j,by omega,by omega,hm⟩
 ·rintro ((h | ⟨j,hj,hm⟩) | ⟨j,h1,h2,hm⟩)
  ·exact .inl h
  ·exact .inr ⟨j,by omega,hm⟩
  ·exact .inr ⟨j,by omega,hm⟩
open Classical in
theorem card_new (kind made:Int):cardN (newNd kind made)=0:=by
 unfold cardN cardT;rw [List.countP_eq_zero]
 intro i _ hi
 unfold talB at hi
 rcases of_decide_eq_true hi with ⟨k,h,_⟩ | ⟨k,h,_⟩
 ·exact h rfl
 ·exact absurd h (Nat.not_lt_zero _)
end Go.Proofs.YtmgfilacepnjlaaGreatDoor

namespace Go.Proofs.YtmgfilacepnjlaaGreatDoor
open Go.RowKit

def Ed (s:PSt) (d:Int) (t:ByteArray) (j:Int):Prop:=∃ x,s.nd d=some x∧findN x t=some j
theorem Ed.one {s:PSt} {d j j':Int} {t:ByteArray} (h:Ed s d t j) (h':Ed s d t j'):j=j':=by
 obtain ⟨x,h1,h2⟩:=h;obtain ⟨x',h3,h4⟩:=h';rw [h1] at h3
 cases h3
 rw [h2] at h4
 exact Option.some.inj h4
theorem walk_iff {s:PSt} (h:Inv s) {n:ByteArray} {l:List ByteArray} {i j:Int}:walkL s (n :: l) i=(j,0)↔∃ k,Ed s i n k∧walkL s l k=(j,0):=by
 constructor
 ·intro e
  cases hx:s.nd i with
  | none =>
   have:walkL s (n :: l) i=(0,110):=by show (match s.nd i with | none=>_ | some x=>_)=_;rw [hx]
   rw [this] at e
   cases e
  | some x =>
   rw [walkL_step hx] at e
   by_cases hk:x.kind=2
   ·rw [if_pos hk] at e
    cases hf:findN x n with
    | none=>rw [hf] at e;cases e
    | some k=>rw [hf] at e;exact ⟨k,⟨x,hx,hf⟩,e⟩
   ·rw [if_neg hk] at e;cases e
 ·rintro ⟨k,⟨x,hx,hf⟩,e⟩
  rw [walkL_step hx,if_pos (find_dir (InvD.nd h i x hx) hf),hf]
  exact e
theorem walk_nil {s:PSt} {i j:Int}:walkL s [] i=(j,0)↔i=j:=by
 show ((i,(0:Int))=(j,0))↔_
 exact ⟨fun e=>(Prod.mk.inj e).1,fun e=>by rw [e]⟩
theorem walk_app {s:PSt} (h:Inv s) {b:List ByteArray} {j:Int}:∀ {a:List ByteArray} {i:Int},walkL s (a ++ b) i=(j,0)↔∃ k,walkL s a i=(k,0)∧walkL s b k=(j,0)
 | [],i=>⟨fun e=>⟨i,rfl,e⟩,fun ⟨k,h1,h2⟩=>by rw [walk_nil.1 h1];exact h2⟩
 | n :: a,i=>by
  rw [List.cons_append,walk_iff h]
  constructor
  ·rintro ⟨m,h1,h2⟩
   obtain ⟨k,h3,h4⟩:=(walk_app h (a:=a)).1 h2
   exact ⟨k,(walk_iff h).2 ⟨m,h1,h3⟩,h4⟩
  ·rintro ⟨k,h1,h2⟩
   obtain ⟨m,h3,h4⟩:=(walk_iff h).1 h1
   exact ⟨m,h3,(walk_app h (a:=a)).2 ⟨k,h4,h2⟩⟩
theorem walk_one {s:PSt} (h:Inv s) {n:ByteArray} {i j:Int}:walkL s [n] i=(j,0)↔Ed s i n j:=by
 rw [walk_iff h]
 exact ⟨fun ⟨k,h1,h2⟩=>by rw [←walk_nil.1 h2];exact h1,fun e=>⟨j,e,rfl⟩⟩
theorem walk_snoc {s:PSt} (h:Inv s) {a:List ByteArray} {n:ByteArray} {i j:Int}:walkL s (a ++ [n]) i=(j,0)↔∃ k,walkL s a i=(k,0)∧Ed s k n j:=by
 rw [walk_app h]
 exact ⟨fun ⟨k,h1,h2⟩=>⟨k,h1,(walk_one h).1 h2⟩,fun ⟨k,h1,h2⟩=>⟨k,h1,(walk_one h).2 h2⟩⟩
theorem Ed.ref {s:PSt} (h:Inv s) {d j:Int} {t:ByteArray} (e:Ed s d t j):2≤j∧∃ y,s.nd j=some y:=by
 obtain ⟨x,h1,h2⟩:=e;obtain ⟨m1,m2⟩:=find_mem (InvD.nd h d x h1) h2;have:=InvD.ref h d x j h1 m1 m2
 exact ⟨this.1,Option.ne_none_iff_exists'.1 this.2⟩
theorem Inv.single {s:PSt} (h:Inv s) {j:Int} {y:Nd} (hy:s.nd j=some y) (hl:y.links=1) {p q:Int} {n m:ByteArray} (h1:Ed s p n j) (h2:Ed s q m j):p=q∧n=m:=by
 obtain ⟨x,hx,hf⟩:=h1;have hN:=InvD.nd h p x hx;obtain ⟨k,a1,a2,a3,a4⟩:=find_some hN hf;have hj:=(Ed.ref h h2).1
 have hr:refs s j=1:=by have:=InvD.lk h j y hy (by omega);omega
 have hrp:=InvD.rng h p x hx;have hnum:=InvD.num h;have hc:=cntS_put (j:=j) (x':=leaN x k n) hx hrp.1 512 (by omega);have hs:=count_set (l:=x.sl) (k:=k) (i:=0) (j:=j) a3;rw [if_pos a2,if_neg (fun e=>a4 e.symm)] at hs;have e1:(leaN x k n).sl=x.sl.set k 0:=rfl;rw [e1] at hc
 have hz:cntS (s.put p (leaN x k n)) j 512=0:=by unfold refs at hr;omega
 obtain ⟨x2,hx2,hf2⟩:=h2
 refine Classical.byContradiction fun hne => ?_
 have hE:∃ z,(s.put p (leaN x k n)).nd q=some z∧j∈z.sl:=by
  by_cases e:q=p
  ·subst e
   rw [hx] at hx2
   cases hx2
   refine ⟨_,PSt.put_at _ _ _,?_⟩;obtain ⟨k2,b1,b2,b3,b4⟩:=find_some hN hf2
   have hk:k2≠k:=fun c=>hne ⟨rfl,hN.inj n m _ a1 (by rw [←c];exact b1)⟩
   have:(x.sl.set k 0).getD k2 0=j:=by rw [set_ne hk];exact b2
   show j∈x.sl.set k 0
   rw [←this]
   exact getD_mem (by rw [List.length_set];exact b3)
  ·exact ⟨x2,by rw [PSt.put_ne _ _ e];exact hx2,(find_mem (InvD.nd h q x2 hx2) hf2).1⟩
 obtain ⟨z,hz1,hz2⟩:=hE;have hrq:=InvD.rng h q x2 hx2;have:=cntS_pos hz1 hrq.1 hz2 512 (by omega)
 omega
theorem snoc_ind {P:List ByteArray→Prop} (h0:P []) (h1:∀ a n,P a→P (a ++ [n])) (l:List ByteArray):P l:=by
 have:∀ r:List ByteArray,P r.reverse:=fun r=>by
  induction r with
  | nil=>exact h0
  | cons n r ih=>rw [List.reverse_cons];exact h1 _ _ ih
 have:=this l.reverse
 rwa [List.reverse_reverse] at this
theorem path_one {s:PSt} (h:Inv s) (hq:AllQ s) (a:List ByteArray):∀ (b:List ByteArray) (d:Int) (y:Nd),s.nd d=some y→y.kind=2→walkL s a 1=(d,0)→walkL s b 1=(d,0)→a=b:=by
 have key:∀ (b:List ByteArray) (d:Int),walkL s b 1=(d,0)→b≠[]→∃ b' m k,b=b' ++ [m]∧walkL s b' 1=(k,0)∧Ed s k m d:=fun b d hb hne=>by
  have e:=List.dropLast_concat_getLast hne;rw [←e] at hb;obtain ⟨k,h1,h2⟩:=(walk_snoc h).1 hb
  exact ⟨_,_,k,e.symm,h1,h2⟩
 refine snoc_ind (P:=fun a=>∀ (b:List ByteArray) (d:Int) (y:Nd),s.nd d=some y→y.kind=2→walkL s a 1=(d,0)→walkL s b 1=(d,0)→a=b) ?_ ?_ a
 ·intro b d y hy hk ha hb
  have e:=walk_nil.1 ha
  by_cases hne:b=[]
  ·exact hne.symm
  ·obtain ⟨b',m,k,_,_,hE⟩:=key b d hb hne
   have:=(Ed.ref h hE).1
   omega
 ·intro a n ih b d y hy hk ha hb
  obtain ⟨p,h1,h2⟩:=(walk_snoc h).1 ha
  by_cases hne:b=[]
  ·rw [hne] at hb
   have e:=walk_nil.1 hb;have:=(Ed.ref h h2).1
   omega
  ·obtain ⟨b',m,k,e,h3,h4⟩:=key b d hb hne
   obtain ⟨e1,e2⟩:=Inv.single h hy ((hq d y hy).1 hk) h2 h4;subst e1 e2;obtain ⟨x,hx,hf⟩:=h2;rw [e,ih b' p x hx (find_dir (InvD.nd h p x hx) hf) h1 h3]
def Rank (s:PSt):Prop:=∃ r:Int→Nat,∀ d t j,Ed s d t j→r d < r j
theorem Rank.sub {s s':PSt} (h:Rank s) (hE:∀ d t j,Ed s' d t j→Ed s d t j):Rank s':=by
 obtain ⟨r,hr⟩:=h
 exact ⟨r,fun d t j e=>hr d t j (hE d t j e)⟩
open Classical in
theorem Rank.add {s s':PSt} (hI:Inv s) (h:Rank s) {d i:Int} (hE:∀ d' t' j',Ed s' d' t' j'→Ed s d' t' j'∨(d'=d∧j'=i)) (hD:∀ a,walkL s a i≠(d,0)):Rank s':=by
 obtain ⟨r,hr⟩:=h;refine ⟨fun v=>if ∃ a,walkL s a i=(v,0) then r v + (r d + 1) else r v,fun d' t' j' e => ?_⟩
 have hd : ¬ ∃ a,walkL s a i=(d,0):=fun ⟨a,ha⟩=>hD a ha
 have hi:∃ a,walkL s a i=(i,0):=⟨[],rfl⟩
 show (if _ then _ else _) < (if _ then _ else _)
 rcases hE d' t' j' e with e | ⟨e1,e2⟩
 ·have hlt:=hr d' t' j' e
  by_cases c:∃ a,walkL s a i=(d',0)
  ·obtain ⟨a,ha⟩:=c
   rw [if_pos ⟨a,ha⟩,if_pos ⟨a ++ [t'],(walk_snoc hI).2 ⟨d',ha,e⟩⟩]
   omega
  ·rw [if_neg c]
   by_cases c2:∃ a,walkL s a i=(j',0)
   ·rw [if_pos c2];exact Nat.lt_of_lt_of_le hlt (Nat.le_add_right _ _)
   ·rw [if_neg c2];exact hlt
 ·rw [e1,e2,if_neg hd,if_pos hi]
  omega
structure Inv2 (s:PSt):Prop where
 inv:Inv s
 q:AllQ s
 tak:(takenN s:Int)≤s.data
 rank:Rank s
end Go.Proofs.YtmgfilacepnjlaaGreatDoor

namespace Go.Proofs.YtmgfilacepnjlaaGreatDoor
open Go.RowKit

theorem lastE_walk {s:PSt} {ls:List ByteArray} (h:lastE s ls=0):walkL s ls.dropLast 1=(lastD s ls,0):=by
 have h':=h;unfold lastE at h';rw [if_neg (lastE_ne h)] at h'
 by_cases c:(walkL s ls.dropLast 1).2=0
 ·unfold lastD
  rw [←c]
 ·rw [if_neg c] at h'
  exact absurd h' c
theorem last_snoc {ls:List ByteArray} (h:ls≠[]):ls.dropLast ++ [lastN ls]=ls:=by
 have e:=List.dropLast_concat_getLast h
 have:lastN ls=ls.getLast h:=by
  unfold lastN;rw [List.getLast_eq_getElem,List.getD_eq_getElem?_getD,List.getElem?_eq_getElem (by have:=List.length_pos_iff.2 h;omega)]
  rfl
 rw [this]
 exact e
theorem walk_last {s:PSt} (h:Inv s) {ls:List ByteArray} (e:lastE s ls=0) {x:Nd} (hx:s.nd (lastD s ls)=some x) {i:Int}:walkL s ls 1=(i,0)↔findN x (lastN ls)=some i:=by
 rw [←last_snoc (lastE_ne e),walk_snoc h,last_snoc (lastE_ne e)]
 constructor
 ·rintro ⟨k,h1,x',h2,h3⟩
  rw [lastE_walk e] at h1;have:lastD s ls=k:=(Prod.mk.inj h1).1;subst this;rw [hx] at h2
  cases h2
  exact h3
 ·exact fun hf=>⟨_,lastE_walk e,x,hx,hf⟩
theorem Ed.of_put {s:PSt} {i:Int} {x':Nd} {d j:Int} {t:ByteArray} (h:Ed (s.put i x') d t j):(d=i∧findN x' t=some j)∨(d≠i∧Ed s d t j):=by
 obtain ⟨y,h1,h2⟩:=h
 by_cases e:d=i
 ·rw [e,PSt.put_at] at h1;cases h1;exact .inl ⟨e,h2⟩
 ·rw [PSt.put_ne _ _ e] at h1;exact .inr ⟨e,y,h1,h2⟩
theorem Ed.of_del {s:PSt} {i:Int} {d j:Int} {t:ByteArray} (h:Ed (s.del i) d t j):d≠i∧Ed s d t j:=by
 obtain ⟨y,h1,h2⟩:=h
 by_cases e:d=i
 ·rw [e,PSt.del_at] at h1;cases h1
 ·rw [PSt.del_ne _ e] at h1;exact ⟨e,y,h1,h2⟩
theorem Ed.of_lose {s:PSt} {i:Int} {x:Nd} (hx:s.nd i=some x) {d j:Int} {t:ByteArray} (h:Ed (loseS s i x) d t j):Ed s d t j:=by
 unfold loseS at h
 by_cases c:x.links=1
 ·rw [if_pos c] at h;exact h.of_del.2
 ·rw [if_neg c] at h
  rcases h.of_put with ⟨e,hf⟩ | ⟨_,e⟩
  ·exact ⟨x,by rw [e];exact hx,hf⟩
  ·exact e
theorem place_room {s:PSt} {x:Nd} (h:(placeL s x).2=0):roomB s x (least0 x.sl) (least0 x.sl + 1)=true:=by
 unfold placeL at h
 split at h
 ·cases h
 ·split at h
  ·assumption
  ·cases h
theorem room_le {s:PSt} {x:Nd} {a b:Nat} (h:roomB s x a b=true):(takenN s:Int) - (cardN x:Int) + (cardQ x a b:Int)≤s.data:=of_decide_eq_true h
def Keep2 (s:PSt):Prop:=AllQ s∧(takenN s:Int)≤s.data∧Rank s
theorem Inv2.keep {s:PSt} (h:Inv2 s):Keep2 s:=⟨h.q,h.tak,h.rank⟩
theorem Keep2.mk {s:PSt} (h:Keep2 s) (hi:Inv s):Inv2 s:=⟨hi,h.1,h.2.1,h.2.2⟩
theorem Q1.ent {x:Nd} {k:Nat} {t:ByteArray} {i:Int} (h:Q1 x):Q1 (entN x k t i):=h
theorem Q1.lea {x:Nd} {k:Nat} {t:ByteArray} (h:Q1 x):Q1 (leaN x k t):=h
theorem Q1.old {x:Nd} {k:Nat} {t:ByteArray} {i:Int} (h:Q1 x):Q1 (entO x k t i):=h
theorem not_desc {s:PSt} (h:Inv s) {i d:Int} (hd:d≠i) (hi:∀ y,s.nd i=some y→y.kind≠2) (a:List ByteArray):walkL s a i≠(d,0):=by
 cases a with
 | nil=>exact fun e=>hd (walk_nil.1 e).symm
 | cons n l =>
  intro e
  obtain ⟨k,⟨x,hx,hf⟩,_⟩:=(walk_iff h).1 e
  exact hi x hx (find_dir (InvD.nd h i x hx) hf)
theorem Keep2.makeOp {s:PSt} {ls:List ByteArray} {kind made:Int} (h:Inv2 s):Keep2 (makeOp s ls kind made).1:=by
 have hI:=h.inv;unfold Go.Proofs.YtmgfilacepnjlaaGreatDoor.makeOp
 by_cases e:lastE s ls=0
 ·rw [if_neg (fun c=>c e)]
  obtain ⟨x,hx,hx2⟩:=lastE_dir e;rw [hx]
  simp only
  cases hf:findN x (lastN ls) with
  | some i=>exact h.keep
  | none =>
   rw [if_neg (by simp)]
   by_cases hc:(nodesN s:Int)=s.ino
   ·rw [if_pos hc];exact h.keep
   ·rw [if_neg hc]
    by_cases hp:(placeL s x).2=0
    ·rw [if_neg (fun c=>c hp)]
     obtain ⟨f1,f2,f3⟩:=Inv.free hI hc;have hN:=InvD.nd hI _ x hx;have hri:=InvD.rng hI _ x hx;have hnum:=InvD.num hI
     have hne:lastD s ls≠(freeI s:Nat):=fun e=>by rw [e,f1] at hx;cases hx
     have hd:(s.put (freeI s:Nat) (newNd kind made)).nd (lastD s ls)=some x:=by
      rw [PSt.put_ne _ _ hne]
      exact hx
     refine ⟨?_,?_,?_⟩
     ·exact (h.q.put ⟨fun _=>rfl,fun y hy=>absurd rfl hy⟩).put (h.q _ x hx).ent
     ·have t1:=taken_new (x':=newNd kind made) f1 (by omega) (by omega)
      have t2:=taken_put (x':=entN x (least0 x.sl) (lastN ls) (freeI s:Nat)) hd (by omega) (by omega);rw [card_new] at t1;rw [card_ent (least0_le _)] at t2;have:=room_le (place_room hp)
      show ((takenN ((s.put (freeI s:Nat) (newNd kind made)).put (lastD s ls) (entN x (least0 x.sl) (lastN ls) (freeI s:Nat))):Nat):Int)≤s.data
      omega
     ·refine Rank.add hI h.rank (d:=lastD s ls) (i:=(freeI s:Nat)) (fun d' t' j' e' => ?_) (not_desc hI hne (fun y hy=>by rw [f1] at hy;cases hy))
      rcases Ed.of_put e' with ⟨e1,e2⟩ | ⟨_,e2⟩
      ·rw [find_ent hN (free_least _)] at e2
       by_cases c:t'=lastN ls
       ·rw [if_pos c] at e2
        exact .inr ⟨e1,(Option.some.inj e2).symm⟩
       ·rw [if_neg c] at e2
        exact .inl ⟨x,by rw [e1];exact hx,e2⟩
      ·rcases Ed.of_put e2 with ⟨_,e4⟩ | ⟨_,e4⟩
       ·cases e4
       ·exact .inl e4
    ·rw [if_pos hp];exact h.keep
 ·rw [if_pos e];exact h.keep
theorem Keep2.linkOp {s:PSt} {ls ts:List ByteArray} (h:Inv2 s):Keep2 (linkOp s ls ts).1:=by
 have hI:=h.inv;unfold Go.Proofs.YtmgfilacepnjlaaGreatDoor.linkOp
 by_cases e1:(walkL s ls 1).2=0
 ·rw [if_neg (fun c=>c e1)]
  by_cases e:lastE s ts=0
  ·rw [if_neg (fun c=>c e)]
   obtain ⟨x,hx,hx2⟩:=lastE_dir e;obtain ⟨y,hy⟩:=Inv.walk hI e1;rw [hx,hy]
   simp only
   cases hf:findN x (lastN ts) with
   | some i=>exact h.keep
   | none =>
    rw [if_neg (by simp)]
    by_cases hk:y.kind=2
    ·rw [if_pos hk];exact h.keep
    ·rw [if_neg hk]
     by_cases hl:y.links=100
     ·rw [if_pos hl];exact h.keep
     ·rw [if_neg hl]
      by_cases hp:(placeL s x).2=0
      ·rw [if_neg (fun c=>c hp)]
       have hN:=InvD.nd hI _ x hx;have hri:=InvD.rng hI _ x hx;have hrj:=InvD.rng hI _ y hy;have hnum:=InvD.num hI
       have hne:lastD s ts≠(walkL s ls 1).1:=fun c=>by
        rw [c,hy] at hx
        cases hx
        exact hk hx2
       have hd:(s.put (walkL s ls 1).1 { y with links:=y.links + 1 }).nd (lastD s ts)=some x:=by rw [PSt.put_ne _ _ hne];exact hx
       refine ⟨?_,?_,?_⟩
       ·exact (h.q.put (x:={ y with links:=y.links + 1 }) ⟨fun c=>absurd c hk,(h.q _ y hy).2⟩).put (h.q _ x hx).ent
       ·have t1:=taken_put (x':={ y with links:=y.links + 1 }) hy (by omega) (by omega)
        have t2:=taken_put (x':=entN x (least0 x.sl) (lastN ts) (walkL s ls 1).1) hd (by omega) (by omega);have t3:cardN y=cardN { y with links:=y.links + 1 }:=card_cong (fun _=>Iff.rfl) rfl;rw [card_ent (least0_le _)] at t2;have:=room_le (place_room hp)
        show ((takenN ((s.put (walkL s ls 1).1 { y with links:=y.links + 1 }).put (lastD s ts) (entN x (least0 x.sl) (lastN ts) (walkL s ls 1).1)):Nat):Int)≤s.data
        omega
       ·refine Rank.add hI h.rank (d:=lastD s ts) (i:=(walkL s ls 1).1) (fun d' t' j' e' => ?_) (not_desc hI hne (fun z hz=>by rw [hy] at hz;cases hz;exact hk))
        rcases Ed.of_put e' with ⟨e1,e2⟩ | ⟨_,e2⟩
        ·rw [find_ent hN (free_least _)] at e2
         by_cases c:t'=lastN ts
         ·rw [if_pos c] at e2
          exact .inr ⟨e1,(Option.some.inj e2).symm⟩
         ·rw [if_neg c] at e2
          exact .inl ⟨x,by rw [e1];exact hx,e2⟩
        ·rcases Ed.of_put e2 with ⟨e3,e4⟩ | ⟨_,e4⟩
         ·exact .inl ⟨y,by rw [e3];exact hy,e4⟩
         ·exact .inl e4
      ·rw [if_pos hp];exact h.keep
  ·rw [if_pos e];exact h.keep
 ·rw [if_pos e1];exact h.keep
theorem taken_lose {s:PSt} {i:Int} {x:Nd} (hx:s.nd i=some x) (h0:0≤i) (h1:i≤512):takenN (loseS s i x)≤takenN s:=by
 unfold loseS
 by_cases c:x.links=1
 ·rw [if_pos c]
  have:=taken_del hx h0 h1
  omega
 ·rw [if_neg c]
  have t1:=taken_put (x':={ x with links:=x.links - 1 }) hx h0 h1;have t3:cardN x=cardN { x with links:=x.links - 1 }:=card_cong (fun _=>Iff.rfl) rfl
  omega
theorem lose_data (s:PSt) (i:Int) (x:Nd):(loseS s i x).data=s.data∧(loseS s i x).ino=s.ino:=by
 unfold loseS
 split <;> exact ⟨rfl,rfl⟩
theorem card_lea {x:Nd} {k:Nat} {t:ByteArray}:cardN (leaN x k t)=cardN x :=
 card_cong (fun _=>Iff.rfl) (by show (x.sl.set k 0).length=_;rw [List.length_set])
theorem card_old {x:Nd} {k:Nat} {t:ByteArray} {i:Int} (hk:k < x.sl.length):cardN (entO x k t i)=cardN x :=
 card_cong (fun _=>Iff.rfl) (by show (slK x.sl k i).length=_;unfold slK;rw [if_neg (by omega),List.length_set])
theorem Keep2.takes {s:PSt} {d:Int} {x y:Nd} {t:ByteArray} {k:Nat} (h:Inv2 s) (hx:s.nd d=some x) (hn:x.nm t=some (k:Int)) (hy:s.nd (x.sl.getD k 0)=some y) (hz:∀ u,y.nm u=none):Keep2 (loseS (s.put d (leaN x k t)) (x.sl.getD k 0) y):=by
 have hI:=h.inv;have hN:=InvD.nd hI d x hx;have hri:=InvD.rng hI _ x hx;have hrj:=InvD.rng hI _ y hy;have hnum:=InvD.num hI
 have hne:x.sl.getD k 0≠d:=fun e=>by
  rw [e,hx] at hy
  cases hy
  rw [hz] at hn
  cases hn
 have hy2:(s.put d (leaN x k t)).nd (x.sl.getD k 0)=some y:=by rw [PSt.put_ne _ _ hne];exact hy
 refine ⟨(h.q.put (h.q _ x hx).lea).lose (h.q _ y hy),?_,Rank.sub h.rank fun d' t' j' e => ?_⟩
 ·rw [(lose_data _ _ _).1]
  have t1:=taken_put (x':=leaN x k t) hx (by omega) (by omega);have t2:=taken_lose hy2 (by omega) (by omega);rw [card_lea] at t1;have:=h.tak
  show _≤s.data
  omega
 ·rcases Ed.of_put (e.of_lose hy2) with ⟨e1,e2⟩ | ⟨_,e2⟩
  ·rw [find_lea hN hn] at e2
   by_cases c:t'=t
   ·rw [if_pos c] at e2;cases e2
   ·rw [if_neg c] at e2
    exact ⟨x,by rw [e1];exact hx,e2⟩
  ·exact e2
theorem Keep2.unlinkOp {s:PSt} {ls:List ByteArray} (h:Inv2 s):Keep2 (unlinkOp s ls).1:=by
 have hI:=h.inv;unfold Go.Proofs.YtmgfilacepnjlaaGreatDoor.unlinkOp
 by_cases e:lastE s ls=0
 ·rw [if_neg (fun c=>c e)]
  obtain ⟨x,hx,hx2⟩:=lastE_dir e;rw [hx]
  simp only
  cases hk:x.nm (lastN ls) with
  | none=>exact h.keep
  | some k =>
   simp only
   cases hy:s.nd (x.sl.getD k.toNat 0) with
   | none=>exact h.keep
   | some y =>
    simp only
    by_cases hy2:y.kind=2
    ·rw [if_pos hy2];exact h.keep
    ·rw [if_neg hy2]
     have hN:=InvD.nd hI _ x hx;have hNy:=InvD.nd hI _ y hy
     exact Keep2.takes h hx (nm_nat hN hk) hy (hNy.file (by have:=hNy.kind;omega)).2
 ·rw [if_pos e];exact h.keep
theorem Keep2.rmdirOp {s:PSt} {ls:List ByteArray} (h:Inv2 s):Keep2 (rmdirOp s ls).1:=by
 have hI:=h.inv;unfold Go.Proofs.YtmgfilacepnjlaaGreatDoor.rmdirOp
 by_cases e:lastE s ls=0
 ·rw [if_neg (fun c=>c e)]
  obtain ⟨x,hx,hx2⟩:=lastE_dir e;rw [hx]
  simp only
  cases hk:x.nm (lastN ls) with
  | none=>exact h.keep
  | some k =>
   simp only
   cases hy:s.nd (x.sl.getD k.toNat 0) with
   | none=>exact h.keep
   | some y =>
    simp only
    by_cases hy2:y.kind=2
    ·rw [if_neg (fun c=>c hy2)]
     by_cases hz:∃ t,y.nm t≠none
     ·rw [if_pos hz];exact h.keep
     ·rw [if_neg hz]
      have hN:=InvD.nd hI _ x hx
      exact Keep2.takes h hx (nm_nat hN hk) hy (fun u=>Classical.byContradiction fun c=>hz ⟨u,c⟩)
    ·rw [if_pos hy2];exact h.keep
 ·rw [if_pos e];exact h.keep
theorem not_below {s:PSt} (h:Inv2 s) {ls ts:List ByteArray} {x1 x2 yi:Nd} {i:Int} (e1:lastE s ls=0) (e2:lastE s ts=0) (h1:s.nd (lastD s ls)=some x1) (h2:s.nd (lastD s ts)=some x2) (k2:x2.kind=2) (f1:findN x1 (lastN ls)=some i) (hyi:s.nd i=some yi) (hb : ¬ (yi.kind=2∧belowB ts ls=true)) (a:List ByteArray):walkL s a i≠(lastD s ts,0):=by
 have hI:=h.inv
 by_cases hk:yi.kind=2
 ·intro e
  have w1:walkL s ls 1=(i,0):=(walk_last hI e1 h1).2 f1;have w2:walkL s (ls ++ a) 1=(lastD s ts,0):=(walk_app hI).2 ⟨i,w1,e⟩;have w3:=path_one hI h.q _ _ _ x2 h2 k2 (lastE_walk e2) w2;have hl:=last_snoc (lastE_ne e2);rw [w3] at hl;refine hb ⟨hk,?_⟩;unfold belowB;refine decide_eq_true ?_;rw [←hl]
  exact ⟨by simp,by simp [List.append_assoc]⟩
 ·refine not_desc hI (fun e => ?_) (fun y hy=>by rw [hyi] at hy;cases hy;exact hk) a
  rw [e,hyi] at h2
  cases h2
  exact hk k2
theorem Ed.move {s:PSt} {d1 d2:Int} {n1 n2:ByteArray} {x2 x1' x2':Nd} {i:Int} {m:Nat} (h2:s.nd d2=some x2) (hx2:∀ t,findN x2' t=if t=n2 then some i else findN x2 t) (b1:(s.put d2 x2').nd d1=some x1') (hf1:∀ t,findN (leaN x1' m n1) t=if t=n1 then none else findN x1' t) {d' j':Int} {t':ByteArray} (e:Ed ((s.put d2 x2').put d1 (leaN x1' m n1)) d' t' j'):Ed s d' t' j'∨(d'=d2∧j'=i):=by
 have key:Ed (s.put d2 x2') d' t' j'→Ed s d' t' j'∨(d'=d2∧j'=i):=fun e=>by
  rcases Ed.of_put e with ⟨e1,e2⟩ | ⟨_,e2⟩
  ·rw [hx2] at e2
   by_cases c:t'=n2
   ·rw [if_pos c] at e2;exact .inr ⟨e1,(Option.some.inj e2).symm⟩
   ·rw [if_neg c] at e2;exact .inl ⟨x2,by rw [e1];exact h2,e2⟩
  ·exact .inl e2
 rcases Ed.of_put e with ⟨e1,e2⟩ | ⟨_,e2⟩
 ·rw [hf1] at e2
  by_cases c:t'=n1
  ·rw [if_pos c] at e2;cases e2
  ·rw [if_neg c] at e2
   exact key ⟨x1',by rw [e1];exact b1,e2⟩
 ·exact key e2
theorem put_some {s:PSt} {d1 d2:Int} {x1 x2' x1':Nd} (h1:s.nd d1=some x1) (b1:(s.put d2 x2').nd d1=some x1'):x1'=if d1=d2 then x2' else x1:=by
 by_cases e:d1=d2
 ·rw [e,PSt.put_at] at b1
  rw [if_pos e]
  exact (Option.some.inj b1).symm
 ·rw [PSt.put_ne _ _ e,h1] at b1
  rw [if_neg e]
  exact (Option.some.inj b1).symm
theorem Keep2.moveS {s:PSt} {ls ts:List ByteArray} {x1 x2 yi:Nd} {i:Int} (h:Inv2 s) (e1:lastE s ls=0) (e2:lastE s ts=0) (h1:s.nd (lastD s ls)=some x1) (h2:s.nd (lastD s ts)=some x2) (k1:x1.kind=2) (k2:x2.kind=2) (f1:findN x1 (lastN ls)=some i) (f2:findN x2 (lastN ts)=none) (hyi:s.nd i=some yi) (hb : ¬ (yi.kind=2∧belowB ts ls=true)) (hp:(placeL s x2).2=0) (hn:NmOk (lastN ts)):Keep2 (moveS s (lastD s ls) (lastD s ts) (lastN ls) (lastN ts) x2 i):=by
 have hI:=h.inv;obtain ⟨x1',m,b1,b2,b3,em,_⟩:=Inv.moveS hI h1 h2 k1 k2 f1 f2 hp hn;rw [em];have hN1:=InvD.nd hI _ x1 h1;have hN2:=InvD.nd hI _ x2 h2;have hr1:=InvD.rng hI _ x1 h1;have hr2:=InvD.rng hI _ x2 h2;have hnum:=InvD.num hI;have hre:=(Ed.ref hI ⟨x1,h1,f1⟩).1;have hN2':NdOk (entN x2 (least0 x2.sl) (lastN ts) i):=hN2.ent k2 (find_none f2) (free_least _) (hN2.place hp) hre hn;have hx1':=put_some h1 b1
 have hN1':NdOk x1':=by rw [hx1'];split <;> assumption
 have hQ1':Q1 x1':=by rw [hx1'];split <;> first | exact (h.q _ x2 h2).ent | exact h.q _ x1 h1
 refine ⟨(h.q.put (h.q _ x2 h2).ent).put hQ1'.lea,?_,?_⟩
 ·have t1:=taken_put (x':=entN x2 (least0 x2.sl) (lastN ts) i) h2 (by omega) (by omega)
  have t2:=taken_put (x':=leaN x1' m (lastN ls)) b1 (by omega) (by omega);rw [card_ent (least0_le _)] at t1;rw [card_lea] at t2;have:=room_le (place_room hp)
  show ((takenN ((s.put (lastD s ts) (entN x2 (least0 x2.sl) (lastN ts) i)).put (lastD s ls) (leaN x1' m (lastN ls))):Nat):Int)≤s.data
  omega
 ·exact Rank.add hI h.rank (fun d' t' j' e=>Ed.move h2 (find_ent hN2 (free_least _)) b1 (find_lea hN1' b2) e) (not_below h e1 e2 h1 h2 k2 f1 hyi hb)
theorem Keep2.replS {s:PSt} {ls ts:List ByteArray} {x1 x2 yi yj:Nd} {i j:Int} (h:Inv2 s) (h1:s.nd (lastD s ls)=some x1) (h2:s.nd (lastD s ts)=some x2) (k1:x1.kind=2) (k2:x2.kind=2) (f1:findN x1 (lastN ls)=some i) (f2:findN x2 (lastN ts)=some j) (hyi:s.nd i=some yi) (ki:yi.kind≠2) (hy:s.nd j=some yj) (ky:yj.kind≠2) (hij:j≠i) (hne : ¬ (lastD s ts=lastD s ls∧lastN ts=lastN ls)):Keep2 (replS s (lastD s ls) (lastD s ts) (lastN ls) (lastN ts) x2 ((x2.nm (lastN ts)).getD 0).toNat i j):=by
 have hI:=h.inv;obtain ⟨x1',m,m2,c1,c3,b1,b2,b3,b6,em,_⟩:=Inv.replS hI h1 h2 k1 k2 f1 f2 hy ky hij hne;rw [em];have hN1:=InvD.nd hI _ x1 h1;have hN2:=InvD.nd hI _ x2 h2;have hr1:=InvD.rng hI _ x1 h1;have hr2:=InvD.rng hI _ x2 h2;have hrj:=InvD.rng hI _ yj hy;have hnum:=InvD.num hI;have hre:=(Ed.ref hI ⟨x1,h1,f1⟩).1;have hN2':NdOk (entO x2 m2 (lastN ts) i):=hN2.old k2 c1 hre;have hx1':=put_some h1 b1
 have hN1':NdOk x1':=by rw [hx1'];split <;> assumption
 have hQ1':Q1 x1':=by rw [hx1'];split <;> first | exact (h.q _ x2 h2).old | exact h.q _ x1 h1
 refine ⟨((h.q.put (h.q _ x2 h2).old).put hQ1'.lea).lose (h.q _ yj hy),?_,?_⟩
 ·rw [(lose_data _ _ _).1]
  have t1:=taken_put (x':=entO x2 m2 (lastN ts) i) h2 (by omega) (by omega);have t2:=taken_put (x':=leaN x1' m (lastN ls)) b1 (by omega) (by omega);have t3:=taken_lose b6 (by omega) (by omega);rw [card_old c3] at t1;rw [card_lea] at t2;have:=h.tak
  show _≤s.data
  omega
 ·refine Rank.add hI h.rank (d:=lastD s ts) (i:=i) (fun d' t' j' e=>Ed.move h2 (find_old hN2 c1) b1 (find_lea hN1' b2) (e.of_lose b6)) (not_desc hI (fun e => ?_) (fun y hy=>by rw [hyi] at hy;cases hy;exact ki))
  rw [e,hyi] at h2
  cases h2
  exact ki k2
theorem Keep2.renameOp {s:PSt} {ls ts:List ByteArray} (h:Inv2 s) (hn:∀ t∈ts,NmOk t):Keep2 (renameOp s ls ts).1:=by
 have hI:=h.inv;unfold Go.Proofs.YtmgfilacepnjlaaGreatDoor.renameOp
 by_cases e1:lastE s ls=0
 ·rw [if_neg (fun c=>c e1)]
  by_cases e2:lastE s ts=0
  ·rw [if_neg (fun c=>c e2)]
   obtain ⟨x1,hx1,hk1⟩:=lastE_dir e1;obtain ⟨x2,hx2,hk2⟩:=lastE_dir e2;rw [hx1,hx2]
   simp only
   cases f1:findN x1 (lastN ls) with
   | none=>exact h.keep
   | some i =>
    simp only
    by_cases hs:lastD s ts=lastD s ls∧lastN ts=lastN ls
    ·rw [if_pos hs];exact h.keep
    ·rw [if_neg hs]
     obtain ⟨yi,hyi⟩:=Inv.find hI hx1 f1;rw [hyi]
     simp only
     cases f2:findN x2 (lastN ts) with
     | none =>
      simp only
      by_cases c1:yi.kind=2∧belowB ts ls=true
      ·rw [if_pos c1];exact h.keep
      ·rw [if_neg c1]
       by_cases c2:yi.links=100
       ·rw [if_pos c2];exact h.keep
       ·rw [if_neg c2]
        by_cases hp:(placeL s x2).2=0
        ·rw [if_neg (fun c=>c hp)]
         exact Keep2.moveS h e1 e2 hx1 hx2 hk1 hk2 f1 f2 hyi c1 hp (hn _ (lastN_mem (lastE_ne e2)))
        ·rw [if_pos hp];exact h.keep
     | some j =>
      simp only
      obtain ⟨yj,hyj⟩:=Inv.find hI hx2 f2;rw [hyj]
      simp only
      by_cases c1:yi.kind=2∨yj.kind=2
      ·rw [if_pos c1];exact h.keep
      ·rw [if_neg c1]
       by_cases c3:j=i
       ·rw [if_pos c3];exact h.keep
       ·rw [if_neg c3]
        by_cases c2:yi.links=100
        ·rw [if_pos c2];exact h.keep
        ·rw [if_neg c2]
         exact Keep2.replS h hx1 hx2 hk1 hk2 f1 f2 hyi (fun c=>c1 (.inl c)) hyj (fun c=>c1 (.inr c)) c3 hs
  ·rw [if_pos e2];exact h.keep
 ·rw [if_pos e1];exact h.keep
end Go.Proofs.YtmgfilacepnjlaaGreatDoor
