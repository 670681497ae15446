/-
 package plain: entries are appended to a list of them.
-/
import Derived.Test.YtmgfilacepnjlaaGreatDoorShelfK
import Derived.Shelf.AbstractIn
import Derived.Shelf.Slices.In.SortNone
import Derived.Test.YtmgfilacepnjlaaGreatDoorRV
import Derived.Maps.AppendAt
namespace Go.Proofs.YtmgfilacepnjlaaGreatDoor
open Go.RowKit

theorem sumN_false (s:PSt):∀ n,sumN s (fun _=>False) n=0
 | 0=>rfl
 | n + 1=>by unfold sumN;rw [sumN_false s n,if_neg (fun e=>e)]
theorem taken_one {s:PSt} {i:Nat} {x:Nd} (hi:i < 513) (hx:s.nd (i:Int)=some x) (ho:∀ j:Nat,j < 513→j≠i→s.nd (j:Int)=none):takenN s=cardN x:=by
 unfold takenN;rw [sumN_congr (Q:=fun k=>False∨k=(i:Int)) 513 (fun j hj=>⟨fun e => ?_,fun e => ?_⟩),sumN_put hx (fun e=>e) 513 hi,sumN_false]
 ·omega
 ·by_cases h:j=i
  ·exact .inr (by rw [h])
  ·exact absurd (ho j hj h) e
 ·have:j=i:=by rcases e with e | e;exact e.elim;omega
  rw [this,hx]
  intro e
  cases e
theorem taken_two {s:PSt} {i k:Nat} {x y:Nd} (hi:i < 513) (hk:k < 513) (hne:i≠k) (hx:s.nd (i:Int)=some x) (hy:s.nd (k:Int)=some y) (ho:∀ j:Nat,j < 513→j≠i→j≠k→s.nd (j:Int)=none):takenN s=cardN x + cardN y:=by
 unfold takenN;rw [sumN_congr (Q:=fun z=>(False∨z=(i:Int))∨z=(k:Int)) 513 (fun j hj=>⟨fun e => ?_,fun e => ?_⟩),sumN_put (P:=fun z=>False∨z=(i:Int)) hy (fun e=>by rcases e with e | e;exact e;omega) 513 hk,sumN_put (P:=fun _=>False) hx (fun e=>e) 513 hi,sumN_false]
 ·omega
 ·by_cases h:j=i
  ·exact .inl (.inr (by rw [h]))
  ·by_cases h2:j=k
   ·exact .inr (by rw [h2])
   ·exact absurd (ho j hj h h2) e
 ·rcases e with (e | e) | e
  ·exact e.elim
  ·rw [show j=i by omega,hx];intro e;cases e
  ·rw [show j=k by omega,hy];intro e;cases e
theorem cardT_none:cardT (fun _=>false)=0:=by simp [cardT]
theorem cardT_is {k:Nat} (hk:k < 1102):cardT (fun i=>decide (i=k))=1:=by
 have h:=count_put (fun _=>false) k 1102 hk
 have e:(fun i=>decide (i=k))=(fun x=>if x=k then true else false):=by
  funext i
  by_cases e:i=k
  ·rw [decide_eq_true e,if_pos e]
  ·rw [decide_eq_false e,if_neg e]
 unfold cardT;rw [e,h]
 simp
theorem cardN_none {x:Nd} (hb:∀ k:Nat,x.blk (k:Int)=none) (hs:x.sl=[]):cardN x=0:=by
 rw [←cardN_of (F:=fun _=>false) (x:=x) (fun i=>Iff.intro (fun e=>nomatch e) (fun e => ?_)),cardT_none]
 rcases e with ⟨k,k1,_⟩ | ⟨k,k1,_⟩
 ·exact absurd (hb k) k1
 ·rw [hs] at k1
  exact absurd k1 (Nat.not_lt_zero _)
theorem cardN_is {x:Nd} {k:Nat} (hk:k < 1102) (h:∀ i,TalP x i↔i=k):cardN x=1:=by
 rw [←cardN_of (F:=fun i=>decide (i=k)) (x:=x) (fun i=>⟨fun e=>(h i).2 (of_decide_eq_true e),fun e=>decide_eq_true ((h i).1 e)⟩),cardT_is hk]
theorem cardQ_is {x:Nd} {a b k:Nat} (hk:k < 1102) (h:∀ i,TalQ x a b i↔i=k):cardQ x a b=1:=by
 rw [←cardQ_of (F:=fun i=>decide (i=k)) (x:=x) (fun i=>⟨fun e=>(h i).2 (of_decide_eq_true e),fun e=>decide_eq_true ((h i).1 e)⟩),cardT_is hk]
theorem nums_low {k:Nat} (hk:k < 12):numsOf k=[k]:=by
 unfold numsOf;rw [if_neg (by omega),if_neg (by omega)]
theorem card_dir {x:Nd} (hb:∀ k:Nat,x.blk (k:Int)=none) (hs:x.sl.length=1):cardN x=1 :=
 cardN_is (k:=0) (by omega) fun i=>by
  constructor
  ·rintro (⟨k,k1,_⟩ | ⟨k,k1,k2⟩)
   ·exact absurd (hb k) k1
   ·obtain rfl:k=0:=by omega
    rw [nums_low (by omega)] at k2
    simpa using k2
  ·rintro rfl
   exact .inr ⟨0,by omega,by rw [nums_low (by omega)];simp⟩
theorem card_file {x:Nd} {b:Nat} (hb12:b < 12) (hb:∀ k:Nat,x.blk (k:Int)≠none↔k=b) (hs:x.sl=[]):cardN x=1 :=
 cardN_is (k:=b) (by omega) fun i=>by
  constructor
  ·rintro (⟨k,k1,k2⟩ | ⟨k,k1,_⟩)
   ·have:=(hb k).1 k1
    subst this;rw [nums_low hb12] at k2
    simpa using k2
   ·rw [hs] at k1
    exact absurd k1 (Nat.not_lt_zero _)
  ·rintro rfl
   exact .inl ⟨i,(hb i).2 rfl,by rw [nums_low hb12];simp⟩
theorem cardQ_first {x:Nd} {b:Nat} (hb12:b < 12) (hb:∀ k:Nat,x.blk (k:Int)=none) (hs:x.sl=[]):cardQ x b (b + 1)=1 :=
 cardQ_is (k:=b) (by omega) fun i=>by
  constructor
  ·rintro ((⟨k,k1,_⟩ | ⟨k,k1,_⟩) | ⟨k,k1,k2,k3⟩)
   ·exact absurd (hb k) k1
   ·rw [hs] at k1
    exact absurd k1 (Nat.not_lt_zero _)
   ·obtain rfl:k=b:=by omega
    rw [nums_low hb12] at k3
    simpa using k3
  ·rintro rfl
   exact .inr ⟨i,Nat.le_refl _,by omega,by rw [nums_low hb12];simp⟩
end Go.Proofs.YtmgfilacepnjlaaGreatDoor

namespace Go.Proofs.YtmgfilacepnjlaaGreatDoor
open Go.RowKit

def nA:ByteArray:=⟨#[97]⟩
def nB:ByteArray:=⟨#[98]⟩
def pA:ByteArray:=⟨#[47,97]⟩
def pAB:ByteArray:=⟨#[47,97,47,98]⟩
theorem split_A:splitR pA.data.toList=([[97]],0):=by kernel_rfl
theorem split_AB:splitR pAB.data.toList=([[97],[98]],0):=by kernel_rfl
theorem ls_A {ls:List ByteArray} (h:datas ls=(splitR pA.data.toList).1):ls=[nA]:=datas_inj (h.trans (by rw [split_A];rfl))
theorem ls_AB {ls:List ByteArray} (h:datas ls=(splitR pAB.data.toList).1):ls=[nA,nB]:=datas_inj (h.trans (by rw [split_AB];rfl))
def dX:List Int:=[120,121,122]
def K0:PSt:=newS 40 8
def rootK:Nd:=entN (newNd 2 0) 0 nA 2
def fileK:Nd:=wroteN (newNd 1 5) 1 2 Zs dX
def K1:PSt:=makeS K0 1 (newNd 2 0) 0 nA 2 1 5
def K2:PSt:=K1.put 2 fileK
theorem K0_1:K0.nd 1=some (newNd 2 0):=rfl
theorem K0_o {j:Int} (h:j≠1):K0.nd j=none:=if_neg h
theorem K1_1:K1.nd 1=some rootK:=PSt.put_at _ _ _
theorem K1_2:K1.nd 2=some (newNd 1 5):=(PSt.put_ne _ _ (by decide)).trans (PSt.put_at _ _ _)
theorem K1_o {j:Int} (h:j≠1) (h2:j≠2):K1.nd j=none:=(PSt.put_ne _ _ h).trans ((PSt.put_ne _ _ h2).trans (K0_o h))
theorem K2_1:K2.nd 1=some rootK:=(PSt.put_ne _ _ (by decide)).trans K1_1
theorem K2_2:K2.nd 2=some fileK:=PSt.put_at _ _ _
theorem K2_o {j:Int} (h:j≠1) (h2:j≠2):K2.nd j=none:=(PSt.put_ne _ _ h2).trans (K1_o h h2)
theorem rootK_nm {n:ByteArray} {k:Int} (h:rootK.nm n=some k):n=nA∧k=0:=by
 have h:(if n=nA then some ((0:Nat):Int) else none)=some k:=h
 by_cases e:n=nA
 ·rw [if_pos e] at h
  cases h
  exact ⟨e,rfl⟩
 ·rw [if_neg e] at h
  cases h
theorem rootK_sl:rootK.sl=[2]:=rfl
theorem okK0:OkS K0:=⟨(by rw [K0_1];intro e;cases e),fun i x n k hx hn=>by
 by_cases e:i=1
 ·subst e
  rw [K0_1] at hx
  cases hx
  cases hn
 ·rw [K0_o e] at hx
  cases hx⟩
theorem okK1:OkS K1:=⟨(by rw [K1_1];intro e;cases e),fun i x n k hx hn=>by
 by_cases e:i=1
 ·subst e
  rw [K1_1] at hx
  cases hx
  obtain ⟨_,rfl⟩:=rootK_nm hn;refine ⟨by decide,by rw [rootK_sl];decide,?_⟩
  show K1.nd 2≠none
  rw [K1_2]
  intro e
  cases e
 ·by_cases e2:i=2
  ·subst e2
   rw [K1_2] at hx
   cases hx
   cases hn
  ·rw [K1_o e e2] at hx
   cases hx⟩
theorem okK2:OkS K2:=⟨(by rw [K2_1];intro e;cases e),fun i x n k hx hn=>by
 by_cases e:i=1
 ·subst e
  rw [K2_1] at hx
  cases hx
  obtain ⟨_,rfl⟩:=rootK_nm hn;refine ⟨by decide,by rw [rootK_sl];decide,?_⟩
  show K2.nd 2≠none
  rw [K2_2]
  intro e
  cases e
 ·by_cases e2:i=2
  ·subst e2
   rw [K2_2] at hx
   cases hx
   cases hn
  ·rw [K2_o e e2] at hx
   cases hx⟩
theorem walk_K1:walkL K1 [nA] 1=(2,0):=by rw [walkL_step K1_1];rfl
theorem walk_K2:walkL K2 [nA] 1=(2,0):=by rw [walkL_step K2_1];rfl
theorem lastD_K0:lastD K0 [nA]=1:=rfl
theorem lastE_K0:lastE K0 [nA]=0:=by
 unfold lastE;rw [if_neg (by intro e;cases e),lastD_K0,K0_1]
 rfl
theorem lastE_K2:lastE K2 [nA,nB]=113:=by
 have h:(walkL K2 ([nA,nB]:List ByteArray).dropLast 1)=(2,0):=walk_K2
 have hd:lastD K2 [nA,nB]=2:=by unfold lastD;rw [h]
 unfold lastE;rw [if_neg (by intro e;cases e),hd,h,K2_2]
 rfl
theorem blk_new (a b:Int) (k:Nat):(newNd a b).blk (k:Int)=none:=rfl
theorem blk_rootK (k:Nat):rootK.blk (k:Int)=none:=rfl
theorem taken_K0:takenN K0=0:=by
 rw [taken_one (i:=1) (x:=newNd 2 0) (by decide) K0_1 (fun j _ hj=>K0_o (by omega))]
 exact cardN_none (blk_new 2 0) rfl
theorem taken_K1:takenN K1=1:=by
 rw [taken_two (i:=1) (k:=2) (x:=rootK) (y:=newNd 1 5) (by decide) (by decide) (by decide) K1_1 K1_2 (fun j _ h1 h2=>K1_o (by omega) (by omega)),card_dir blk_rootK rfl,cardN_none (blk_new 1 5) rfl]
theorem blk_fileK (k:Nat):fileK.blk (k:Int)≠none↔k=1:=by
 have h:fileK.blk (k:Int)=if (k:Int)=((1:Nat):Int) then some (.agg (SA (laidL Zs 2 dX))) else none:=rfl
 rw [h]
 by_cases e:k=1
 ·rw [if_pos (by omega)]
  exact ⟨fun _=>e,fun _ e=>by cases e⟩
 ·rw [if_neg (by omega)]
  exact ⟨fun h=>absurd rfl h,fun h=>absurd h e⟩
theorem taken_K2:takenN K2=2:=by
 rw [taken_two (i:=1) (k:=2) (x:=rootK) (y:=fileK) (by decide) (by decide) (by decide) K2_1 K2_2 (fun j _ h1 h2=>K2_o (by omega) (by omega)),card_dir blk_rootK rfl,card_file (b:=1) (by decide) blk_fileK rfl]
theorem nodes_K0:nodesN K0=1:=by kernel_rfl
theorem nodes_K2:nodesN K2=2:=by kernel_rfl
theorem room_K0:roomB K0 (newNd 2 0) 0 1=true:=by
 unfold roomB;rw [taken_K0,cardN_none (blk_new 2 0) rfl,cardQ_first (b:=0) (by decide) (blk_new 2 0) rfl]
 rfl
theorem place_K0:placeL K0 (newNd 2 0)=(((0:Nat):Int),0):=by
 unfold placeL;have h:least0 (newNd 2 0).sl=0:=rfl;rw [h,if_neg (by decide),if_pos room_K0]
theorem free_K0:freeI K0=2:=by kernel_rfl
theorem room_K1:roomB K1 (newNd 1 5) 1 2=true:=by
 unfold roomB;rw [taken_K1,cardN_none (blk_new 1 5) rfl,cardQ_first (b:=1) (by decide) (blk_new 1 5) rfl]
 rfl
theorem ans_K0:ansS 2 (newNd 1 5)=#[.int .i64 0,.int .i64 2,.int .i64 1,.int .i64 1,.int .i64 0,.int .i64 5,.int .i64 0,.slice none 0 0,.slice none 0 0,.bool false]:=by
 unfold ansS;rw [cardN_none (blk_new 1 5) rfl]
 rfl
theorem num_K2:NumP K2:=⟨by decide,by decide,by decide,by decide⟩
theorem read_K2:((laidL Zs 2 dX).drop 0).take 5=[0,0,120,121,122]:=by kernel_rfl
end Go.Proofs.YtmgfilacepnjlaaGreatDoor

namespace Go.Proofs.YtmgfilacepnjlaaGreatDoor
open Go.RowKit

def sZ:ByteArray:=⟨#[]⟩
structure KQ (w0 w:World) (q:PC) (s:PSt):Prop where
 pl:IsPl w q s
 ch:Chg w0 w No
 mb:w0.heap.size≤q.mb
 bl:∀ c,q.nc 1=some c→∀ k,BlkN c k→w0.heap.size≤k
theorem ML.keep {w w':World} {ks:Nat→Prop} (h:ML w) (hc:Chg w w' ks) (hn:∀ k,ks k→w.heap.size≤k):ML w':=by
 obtain ⟨m,h⟩:=h;refine ⟨m,?_⟩;have hlt:=World.block_lt_of_cell? _ _ h;unfold World.cell? at h ⊢;rw [hc.block _ hlt (fun e=>by have:=hn _ e;exact absurd hlt (by omega))]
 exact h
theorem names_le {x:ByteArray} (hx:x∈[nA]):x.size≤1000:=by
 obtain rfl:x=nA:=by simpa using hx
 decide
theorem names_le2 {x:ByteArray} (hx:x∈[nA,nB]):x.size≤1000:=by
 rcases (by simpa using hx:x=nA∨x=nB) with rfl | rfl
 ·decide
 ·decide
theorem ansS_ok:(ansS 2 (newNd 1 5)).size=10∧(ansS 2 (newNd 1 5)).all (·.oneCell')=true:=by
 rw [ans_K0]
 exact ⟨rfl,by simp [Value.oneCell']⟩
theorem ansE_ok (e:Int):(ansE e).size=10∧(ansE e).all (·.oneCell')=true:=⟨rfl,by simp [ansE,Value.oneCell']⟩
theorem ansD_ok (e:Int) (a:Option Addr) (n m:Nat):(ansD e a n m).size=10∧(ansD e a n m).all (·.oneCell')=true:=⟨rfl,by simp [ansD,Value.oneCell']⟩

theorem k_create {w0 w:World} {q:PC} (h:KQ w0 w q K0) (hu:UB w0) (hm:ML w0) :
  Calls Tryz.prog 9 #[.pointer (some ⟨q.p,0,none⟩),.agg (opA 1 pA sZ 0 0 none 0 0 5 0)] w fun e w'=>e=.returned (.agg (ansS 2 (newNd 1 5)))∧∃ q',q'.p=q.p∧IsPl w' q' K1∧(∀ c2,q'.nc 2=some c2→∀ k,BlkN c2 k→w0.heap.size≤k)∧Chg w0 w' No:=by
 have hP:=h.pl;obtain ⟨c,x,hqc,hsx,hN,_,_⟩:=hP.at_ (i:=1) (by rw [K0_1];intro e;cases e);rw [K0_1] at hsx
 cases hsx
 have hks:∀ k,(k=q.mb∨BlkN c k)→k < w.heap.size:=fun k hk=>by
  rcases hk with rfl | hk
  ·exact hP.mp.lt
  ·exact hN.lt hk
 refine (do_create (q:=q) pA sZ 0 0 none 0 0 5 0 w (fun A w'=>A=ansS 2 (newNd 1 5)∧∃ q',q'.p=q.p∧IsPl w' q' K1∧∀ c2,q'.nc 2=some c2→∀ k,BlkN c2 k→w0.heap.size≤k) (fun k=>k=q.mb∨BlkN c k) hks (hu.keep h.ch (fun e=>e)) (hm.keep h.ch (fun _ e=>e.elim)) (by kernel_rfl) (by decide) (by decide) (by rw [split_A]) ?_ ?_).mono ?_
 ·intro W a ls hc hd hl
  obtain rfl:=ls_A hd;have hg:=makeOne_good (c:=c) (x:=newNd 2 0) [nA] a 1 5 0 W (hP.call hc) okK0 hl (by decide) (fun _=>names_le) lastE_K0 hqc K0_1 (by decide) rfl (by rw [nodes_K0];decide) place_K0 (Nat.zero_le _) (by decide) (by decide) (by rw [free_K0];decide) (by rw [free_K0];decide) (by rw [free_K0];rfl);rw [free_K0] at hg;refine hg.mono ?_
  rintro e w' ⟨⟨q',rfl,hp,hq,hb⟩,hc'⟩
  refine ⟨_,rfl,ansS_ok.1,ansS_ok.2,⟨rfl,q',hq,hp,fun c2 e2 k hk => ?_⟩,hc'⟩;have:=hb c2 e2 k hk;have:=(h.ch.tr hc).size
  omega
 ·rintro A w1 w2 r o ⟨rfl,q',h1,h2,h3⟩ ho hp
  exact ⟨rfl,q',h1,h2.putR hp ho,h3⟩
 ·rintro e w' ⟨A,rfl,⟨rfl,q',h1,h2,h3⟩,hc⟩
  exact ⟨rfl,q',h1,h2,h3,h.ch.trans hc (fun _ _ e=>e) (fun j hj e=>by
   rcases e with rfl | e
   ·have:=h.mb;omega
   ·have:=h.bl c hqc j e;omega)⟩

theorem k_write {w0 w:World} {q:PC} (gd:Nat) (h:IsPl w q K1) (hb:∀ c2,q.nc 2=some c2→∀ k,BlkN c2 k→w0.heap.size≤k) (hch:Chg w0 w No) (hu:UB w0) (hm:ML w0) (t:TypeId) (fr:Nat × Nat) (hd:w.heap[gd]? = some (.cells (SA dX) t fr)) :
  Calls Tryz.prog 9 #[.pointer (some ⟨q.p,0,none⟩),.agg (opA 7 pA sZ 130 0 (some ⟨gd,0,none⟩) 3 3 0 0)] w fun e w'=>e=.returned (.agg (ansE 0))∧∃ q',q'.p=q.p∧IsPl w' q' K2∧Chg w0 w' No∧Chg w w' (fun k=>∃ c,q.nc 2=some c∧BlkN c k):=by
 obtain ⟨c,x,hqc,hsx,hN,_,_⟩:=h.at_ (i:=2) (by rw [K1_2];intro e;cases e);rw [K1_2] at hsx
 cases hsx
 refine (do_atK (q:=q) 7 (by decide) (by decide) (by decide) pA sZ 130 0 (some ⟨gd,0,none⟩) 3 3 0 0 2 w (fun A w'=>A=ansE 0∧∃ q',q'.p=q.p∧IsPl w' q' K2) (BlkN c) (fun k hk=>hN.lt hk) (hu.keep hch (fun e=>e)) (hm.keep hch (fun _ e=>e.elim)) (by kernel_rfl) (by decide) (by decide) (by rw [split_A]) ?_ ?_ ?_).mono ?_
 ·intro W a ls hc hd hl
  obtain rfl:=ls_A hd;have hg:=walk_any [nA] a ([nA]:List ByteArray).length W (h.call hc) okK1 hl (by decide) (fun _=>names_le);rw [walk_K1] at hg
  exact hg
 ·intro W hc
  have hW:=h.call hc;refine (doAt_write (c:=c) (x:=newNd 1 5) 2 pA sZ 130 0 (some ⟨gd,0,none⟩) 3 3 0 0 W 0 (fun w'=>∃ q',q'.p=q.p∧IsPl w' q' K2) (BlkN c) (fun k hk=>(hN.call hc).lt hk) hW hqc K1_2 (by decide) ?_ ?_).mono ?_
  ·intro W2 hc2
   have hW2:=hW.call hc2;have hN2:=(hN.call hc).call hc2;refine (write_one (s:=K1) (c:=c) (x:=newNd 1 5) 1 2 Zs dX gd 0 3 W2 hW2 hN2 (by decide) (by decide) (by decide) rfl rfl room_K1 ?_ (by decide)).mono ?_
   ·intro W3 hc3 j v hj
    have hcell:W3.heap[gd]? = some (.cells (SA dX) t fr):=((hc.tr hc2).tr hc3).keep hd (fun e=>e);rw [addr_add];refine (cell_of_row _ _ _ _ _ _ hcell).trans ?_
    show (SA dX)[0 + j]? = some v
    rw [Nat.zero_add];unfold SA
    simpa using hj
   ·rintro e w' ⟨rfl,hn,hc'⟩
    exact ⟨rfl,⟨q.put 2 c,rfl,hW2.turn hqc hn rfl rfl rfl rfl (.inl rfl) hc'⟩,hc'⟩
  ·rintro w1 w2 r o ⟨q',h1,h2⟩ ho hp
   exact ⟨q',h1,h2.putR hp ho⟩
  ·rintro e w' ⟨rfl,hr,hc'⟩
   exact ⟨_,rfl,(ansE_ok 0).1,(ansE_ok 0).2,⟨rfl,hr⟩,hc'⟩
 ·rintro A w1 w2 r o ⟨rfl,q',h1,h2⟩ ho hp
  exact ⟨rfl,q',h1,h2.putR hp ho⟩
 ·rintro e w' ⟨A,rfl,⟨rfl,q',h1,h2⟩,hc⟩
  exact ⟨rfl,q',h1,h2,hch.trans hc (fun _ _ e=>e) (fun j hj e=>by have:=hb c hqc j e;omega),hc.mono fun _ _ e=>⟨c,hqc,e⟩⟩

theorem k_read {w0 w:World} {q:PC} (h:IsPl w q K2) (hch:Chg w0 w No) (hu:UB w0) (hm:ML w0) :
  Calls Tryz.prog 9 #[.pointer (some ⟨q.p,0,none⟩),.agg (opA 9 pA sZ 128 99 none 0 0 0 0)] w fun e w'=>∃ g,e=.returned (.agg (ansD 0 (some ⟨g,0,none⟩) 5 5))∧w'.heap[g]? = some (.cells (SA [0,0,120,121,122]) 5 (0,0))∧Chg w w' No:=by
 obtain ⟨c,x,hqc,hsx,hN,_,_⟩:=h.at_ (i:=2) (by rw [K2_2];intro e;cases e);rw [K2_2] at hsx
 cases hsx
 refine (do_atK (q:=q) 9 (by decide) (by decide) (by decide) pA sZ 128 99 none 0 0 0 0 2 w (fun A w'=>∃ g,A=ansD 0 (some ⟨g,0,none⟩) 5 5∧w'.heap[g]? = some (.cells (SA [0,0,120,121,122]) 5 (0,0))) No (fun _ e=>e.elim) (hu.keep hch (fun e=>e)) (hm.keep hch (fun _ e=>e.elim)) (by kernel_rfl) (by decide) (by decide) (by rw [split_A]) ?_ ?_ ?_).mono ?_
 ·intro W a ls hc hd hl
  obtain rfl:=ls_A hd;have hg:=walk_any [nA] a ([nA]:List ByteArray).length W (h.call hc) okK2 hl (by decide) (fun _=>names_le);rw [walk_K2] at hg
  exact hg
 ·intro W hc
  have hW:=h.call hc;refine (doAt_read (c:=c) (x:=fileK) 2 pA sZ 128 99 none 0 0 0 0 W 5 (SA [0,0,120,121,122]) hW hqc K2_2 (by decide) ?_).mono ?_
  ·intro W2 hc2
   have hN2:=(hN.call hc).call hc2;have hr:=read_one (c:=c) (x:=fileK) 1 0 5 99 (laidL Zs 2 dX) W2 hN2 (by decide) (by decide) (by decide) (by kernel_rfl) rfl (by decide) (by decide) (by decide) (by decide);rw [read_K2] at hr
   exact hr
  ·rintro e w' ⟨g,rfl,h1,h2,_⟩
   exact ⟨_,rfl,(ansD_ok _ _ _ _).1,(ansD_ok _ _ _ _).2,⟨g,rfl,h1⟩,h2⟩
 ·rintro A w1 w2 r o ⟨g,rfl,h1⟩ ho hp
  refine ⟨g,rfl,putR_keep hp h1 fun e => ?_⟩;rw [e,ho] at h1
  cases h1
 ·rintro e w' ⟨A,rfl,⟨g,rfl,h1⟩,hc⟩
  exact ⟨g,rfl,h1,hc⟩

theorem k_mkdir {w0 w:World} {q:PC} (h:IsPl w q K2) (hch:Chg w0 w No) (hu:UB w0) (hm:ML w0) :
  Calls Tryz.prog 9 #[.pointer (some ⟨q.p,0,none⟩),.agg (opA 2 pAB sZ 0 0 none 0 0 0 0)] w fun e w'=>e=.returned (.agg (ansE 113))∧Chg w w' No:=by
 refine (do_mkdir (q:=q) pAB sZ 0 0 none 0 0 0 0 w (fun A _=>A=ansE 113) No (fun _ e=>e.elim) (hu.keep hch (fun e=>e)) (hm.keep hch (fun _ e=>e.elim)) (by kernel_rfl) (by decide) (by decide) (by rw [split_AB]) ?_ ?_).mono ?_
 ·intro W a ls hc hd hl
  obtain rfl:=ls_AB hd;have hg:=makeOne_bad [nA,nB] a 2 0 W (h.call hc) okK2 hl (by decide) (fun _=>names_le2) (by rw [lastE_K2];decide);rw [lastE_K2] at hg;refine hg.mono ?_
  rintro e w' ⟨rfl,hc'⟩
  exact ⟨_,rfl,(ansE_ok 113).1,(ansE_ok 113).2,rfl,hc'⟩
 ·rintro A w1 w2 r o rfl ho hp
  rfl
 ·rintro e w' ⟨A,rfl,rfl,hc⟩
  exact ⟨rfl,hc⟩

theorem k_room {w:World} {q:PC} (h:IsPl w q K2) :
  Calls Tryz.prog 13 #[.pointer (some ⟨q.p,0,none⟩)] w fun e w'=>e=.returned (.agg #[.int .i64 29,.int .i64 0,.int .i64 6])∧Chg w w' No:=by
 have hr:=room_any w h num_K2;rw [taken_K2,nodes_K2] at hr
 exact hr
end Go.Proofs.YtmgfilacepnjlaaGreatDoor

namespace Go.Proofs.YtmgfilacepnjlaaGreatDoor
open Go.RowKit

section
variable {ops:Array Oper} {rest:List Oper} {o:Oper} {a:Act} {w:World} {Q:Exit→Act→World→Prop}
theorem conv_G (hw:Region.wanted o (yielded ops a.tmps)=true) (t1 t2:TypeId) (x:Operand) (ho:o.op=.convert t1 t2 x) (v v':Value) (w':World) (hx:a.eval x=v)
  (hr:(convert t1 t2 v).run Tryz.prog w=.ok v' w') (h:wpList Tryz.prog ops Q rest (a.put o.dst v') w'):wpList Tryz.prog ops Q (o :: rest) a w :=
 wpList_want hw fun _ hK=>by
  unfold Oper.wp execOp
  simp only [ho,hx,Sem.run_bind,hr,Result.andThen_ok,Sem.run_pure]
  exact hK _ _ h
theorem load_part (hgd:o.guard=none) (t:TypeId) (x:Operand) (ho:o.op=.load t x) (g off:Nat) (hx:a.eval x=.pointer (some ⟨g,off,none⟩)) (tb:TypeId) (c xs:Array Value) (d:TypeDesc) (hg:w.heap[g]? = some (.cells c tb (0,0))) (hxs:∀ (j:Nat) v,xs[j]? = some v→c[off + j]? = some v)
  (hu:Tryz.prog.underlying t=some d) (hd:d.isRow=true) (hi:(Tryz.prog.info? t).map (·.size)=some xs.size)
  (h:wpList Tryz.prog ops Q rest (a.put o.dst (.agg xs)) w):wpList Tryz.prog ops Q (o :: rest) a w :=
 wpList_plain hgd fun _ hK=>by
  have hp:(loadVar t ⟨g,off,none⟩).run Tryz.prog w=.ok (.agg xs) w:=by
   have h:=run_loadVar_mid (P:=Tryz.prog) w g off t xs.toList d (fun j v hv=>by rw [cell_of_row _ _ _ _ tb (0,0) hg];exact hxs j v (by simpa using hv)) hu hd (by simpa using hi)
   simpa using h
  unfold Oper.wp execOp
  simp only [ho,hx,Instr.loadAt,Instr.sureAddr,Sem.run_bind,Sem.run_pure,Result.andThen_ok,hp]
  exact hK _ _ h
end
theorem conv_read (w:World) (g:Nat) (h:w.heap[g]? = some (.cells (SA [0,0,120,121,122]) 5 (0,0))):(convert 32 9 (.slice (some ⟨g,0,none⟩) 5 5)).run Tryz.prog w=.ok (.string ⟨#[0,0,120,121,122]⟩) w:=by
 rw [run_convert_bytes_string w 32 9 5 _ _ _ Tryz.underlying32 Tryz.underlying5 Tryz.underlying9]
 have hl:=run_loadCells_list (P:=Tryz.prog) w ⟨g,0,none⟩ (([0,0,120,121,122]:List Int).map (Value.int .u8)) (fun j v hj=>by
  rw [addr_add,cell_of_row _ _ _ _ _ _ h]
  show (SA [0,0,120,121,122])[0 + j]? = some v
  rw [Nat.zero_add]
  simpa [SA] using hj)
 exact run_bytesToString w _ 5 5 [0,0,120,121,122] hl
theorem conv_same (w:World) (C:Array Value) (n c:Nat):(convert 32 32 (.slice (some ⟨w.heap.size,0,none⟩) n c)).run Tryz.prog (w.alloc (.cells C 5))=.ok (.slice (some ⟨w.heap.size,0,none⟩) n c) (w.alloc (.cells C 5 (C.size,C.size + 1))) :=
 Lib.run_convert_bytes_const w 32 5 C n c Tryz.underlying32 Tryz.underlying5
theorem laid_answer {w0 w1 w2:World} {q:PC} {s:PSt} {A Z:Array Value} (h:IsPl w1 q s) (hc:Chg w0 w1 No) (hp:PutR (w1.alloc (.cells Z 43)) w1.heap.size A 43 w2):IsPl w2 q s∧Chg w0 w2 No∧Chg w1 w2 No:=by
 have ha:Chg w1 (w1.alloc (.cells Z 43)) No:=Chg.alloc _ _ No;have h12:Chg w1 w2 No:=ha.trans (kt_new hp) (fun _ _ e=>e) (fun j hj e=>by omega)
 exact ⟨h.call h12,hc.tr h12,h12⟩

theorem part_ok (j:Nat) (v:Value) (hj:(#[.int .i64 2,.int .i64 1,.int .i64 1,.int .i64 0,.int .i64 5,.int .i64 0]:Array Value)[j]? = some v) :
  (#[.int .i64 0,.int .i64 2,.int .i64 1,.int .i64 1,.int .i64 0,.int .i64 5,.int .i64 0,.slice none 0 0,.slice none 0 0,.bool false]:Array Value)[1 + j]? = some v:=by
 match j,hj with
 | 0,h=>exact h
 | 1,h=>exact h
 | 2,h=>exact h
 | 3,h=>exact h
 | 4,h=>exact h
 | 5,h=>exact h
 | n + 6,h=>simp at h
theorem IsPl.notAns {w:World} {q:PC} {s:PSt} {g:Nat} {A:Array Value} {c:NC} {i:Int} (h:IsPl w q s) (hg:w.heap[g]? = some (.cells A 43 (0,0))) (hq:q.nc i=some c) (hb:BlkN c g):False:=by
 obtain ⟨x,_,hN⟩:=h.nd i c hq
 rcases hb with e | e | e | e
 ·rw [e,hN.me] at hg;cases hg
 ·obtain ⟨_,_,m⟩:=hN.bl.isMap;rw [e,m] at hg;cases hg
 ·obtain ⟨_,_,m⟩:=hN.nm.isMap;rw [e,m] at hg;cases hg
 ·obtain ⟨_,B,hB⟩:=hN.sl.blk e;rw [hB] at hg;cases hg

set_option maxHeartbeats 4000000 in
set_option maxRecDepth 100000 in
theorem known_any (w:World) (hu:UB w) (hm:ML w):Calls Tryz.prog 7 #[] w fun e w'=>e=.returned (.bool true)∧Chg w w' No:=by
 have hNew:=new_good 40 8 w ⟨by decide,by decide,by decide,by decide,by decide⟩;have HU:=hid hu;have HM:=hid hm
 have hb1:∀ W,(Instr.build 34 #[(0,.int .i64 1),(1,.string ⟨#[47,97]⟩),(6,.int .i64 5)]).run Tryz.prog W=.ok (.agg #[.int .i64 1,.string ⟨#[47,97]⟩,.string ⟨#[]⟩,.int .i64 0,.int .i64 0,.slice none 0 0,.int .i64 5,.int .i64 0]) W:=fun W=>by kernel_rfl
 have hb2:∀ W g,(Instr.build 34 #[(0,.int .i64 7),(1,.string ⟨#[47,97]⟩),(3,.int .i64 130),(5,.slice (some ⟨g,0,none⟩) 3 3)]).run Tryz.prog W=.ok (.agg #[.int .i64 7,.string ⟨#[47,97]⟩,.string ⟨#[]⟩,.int .i64 130,.int .i64 0,.slice (some ⟨g,0,none⟩) 3 3,.int .i64 0,.int .i64 0]) W:=fun W g=>by kernel_rfl
 have hb3:∀ W,(Instr.build 34 #[(0,.int .i64 9),(1,.string ⟨#[47,97]⟩),(3,.int .i64 128),(4,.int .i64 99)]).run Tryz.prog W=.ok (.agg #[.int .i64 9,.string ⟨#[47,97]⟩,.string ⟨#[]⟩,.int .i64 128,.int .i64 99,.slice none 0 0,.int .i64 0,.int .i64 0]) W:=fun W=>by kernel_rfl
 have hb4:∀ W,(Instr.build 34 #[(0,.int .i64 2),(1,.string ⟨#[47,97,47,98]⟩)]).run Tryz.prog W=.ok (.agg #[.int .i64 2,.string ⟨#[47,97,47,98]⟩,.string ⟨#[]⟩,.int .i64 0,.int .i64 0,.slice none 0 0,.int .i64 0,.int .i64 0]) W:=fun W=>by kernel_rfl
 have hb5:∀ W,(Instr.build 40 #[(0,.int .i64 2),(1,.int .i64 1),(2,.int .i64 1),(4,.int .i64 5)]).run Tryz.prog W=.ok (.agg #[.int .i64 2,.int .i64 1,.int .i64 1,.int .i64 0,.int .i64 5,.int .i64 0]) W:=fun W=>by kernel_rfl
 have hb6:∀ W,(Instr.build 50 #[(0,.int .i64 29),(2,.int .i64 6)]).run Tryz.prog W=.ok (.agg #[.int .i64 29,.int .i64 0,.int .i64 6]) W:=fun W=>by kernel_rfl
 clear hu hm
 go_enter Tryz.func7,Tryz.ntmps7
 go_upto_region 4 with (first
  | (go_at_call 18;go_must (refine hNew.mono ?_;rintro e w1 ⟨q,rfl,hP1,hc1,_,hmb,hbl⟩;have HK1:Hid (KQ w w1 q K0):=hid ⟨hP1,hc1,hmb,hbl 1⟩;clear hP1 hc1 hmb hbl))
  | fail)
 have hCr:=k_create HK1.out HU.out HM.out;rw [ans_K0] at hCr;unfold opA pA sZ at hCr;clear hNew
 go_upto_region 5 with (first
  | (go_at_call 9;go_must (refine hCr.mono ?_;rintro e w2 ⟨rfl,q2,hq2,hP2,hB2,hc2⟩;have HP2:=hid hP2;have HB2:=hid hB2;have HC2:=hid hc2;have HQ2:=hid hq2;clear hP2 hB2 hc2 hq2))
  | (refine store_R rfl 43 _ _ rfl w2.heap.size #[.int .i64 0,.int .i64 2,.int .i64 1,.int .i64 1,.int .i64 0,.int .i64 5,.int .i64 0,.slice none 0 0,.slice none 0 0,.bool false] rfl rfl 43 _ (heap_alloc_new _ _) (by rw [szAn];rfl) rfl (by simp [Value.oneCell']) ?_;intro w3 hw3)
  | fail)
 obtain ⟨hP3,hC3,h23⟩:=laid_answer HP2.out HC2.out hw3;have HA3:=hid hw3.here;obtain ⟨g3,hg3⟩:∃ y,y=w2.heap.size:=⟨_,rfl⟩;rw [←hg3] at HA3 ⊢;have HP3:=hid hP3;have HC3:=hid hC3;clear hP3 hC3 h23 hw3 hCr HK1 hg3;obtain ⟨wx,hwx⟩:∃ y,y=w3.alloc (.cells #[.int .u8 120,.int .u8 121,.int .u8 122] 5 (3,4)):=⟨_,rfl⟩
 have hcx:Chg w3 wx No:=by rw [hwx];exact Chg.alloc _ _ No
 have hbx:wx.heap[w3.heap.size]? = some (.cells (SA dX) 5 (3,4)):=by rw [hwx];exact heap_alloc_new w3 _
 have hWr:=k_write (w0:=w) w3.heap.size (HP3.out.call hcx) HB2.out (HC3.out.tr hcx) HU.out HM.out 5 (3,4) hbx;rw [HQ2.out] at hWr;have HPx:=hid (HP3.out.call hcx);have HAx:=hid (hcx.keep HA3.out (fun e=>e));have HXc:Hid (∀ n c:Nat,(convert 32 32 (.slice (some ⟨w3.heap.size,0,none⟩) n c)).run Tryz.prog (w3.alloc (.cells #[.int .u8 120,.int .u8 121,.int .u8 122] 5))=.ok (.slice (some ⟨w3.heap.size,0,none⟩) n c) wx):=hid (fun n c=>by rw [hwx];exact conv_same w3 _ n c);unfold opA pA sZ ansE at hWr;clear hcx hbx hwx HA3
 go_upto_region 6 with (first
  | (refine conv_G (by rfl) 32 32 _ rfl (.slice (some ⟨w3.heap.size,0,none⟩) 3 3) _ _ rfl (HXc.out 3 3) ?_)
  | (go_at_call 9;go_must (refine hWr.mono ?_;rintro e w4 ⟨rfl,q4,hq4,hP4,hc4,hk4⟩;have HP4:=hid hP4;have HC4:=hid hc4;have HQ4:=hid hq4;have HK4:=hid hk4;clear hP4 hc4 hk4 hq4))
  | (refine store_R rfl 43 _ _ rfl w4.heap.size #[.int .i64 0,.int .i64 0,.int .i64 0,.int .i64 0,.int .i64 0,.int .i64 0,.int .i64 0,.slice none 0 0,.slice none 0 0,.bool false] rfl rfl 43 _ (heap_alloc_new _ _) (by rw [szAn];rfl) rfl (by simp [Value.oneCell']) ?_;intro w5 hw5)
  | fail)
 obtain ⟨hP5,hC5,h45⟩:=laid_answer HP4.out HC4.out hw5;have HB5:=hid hw5.here;obtain ⟨g5,hg5⟩:∃ y,y=w4.heap.size:=⟨_,rfl⟩;rw [←hg5] at HB5 ⊢;have HA5:=hid (h45.keep (HK4.out.keep HAx.out (fun ⟨c,e1,e2⟩=>HPx.out.notAns HAx.out e1 e2)) (fun e=>e));have HP5:=hid hP5;have HC5:=hid hC5;have hRd:=k_read HP5.out HC5.out HU.out HM.out;rw [HQ4.out] at hRd;unfold opA pA sZ ansD at hRd;clear hP5 hC5 h45 hw5 hg5 hWr HXc HAx HPx HK4 HP4 HC4 HP3 HC3 HP2 HC2 HB2 HQ2
 go_upto_region 7 with (first
  | (go_at_call 9;go_must (refine hRd.mono ?_;rintro e w6 ⟨g,rfl,hG6,hc6⟩;have HG6:=hid hG6;have HC6:=hid hc6;clear hG6 hc6))
  | (refine store_R rfl 43 _ _ rfl w6.heap.size #[.int .i64 0,.int .i64 0,.int .i64 0,.int .i64 0,.int .i64 0,.int .i64 0,.int .i64 0,.slice (some ⟨g,0,none⟩) 5 5,.slice none 0 0,.bool false] rfl rfl 43 _ (heap_alloc_new _ _) (by rw [szAn];rfl) rfl (by simp [Value.oneCell']) ?_;intro w7 hw7)
  | fail)
 obtain ⟨hP7,hC7,h67⟩:=laid_answer (HP5.out.call HC6.out) (HC5.out.tr HC6.out) hw7;have HD7:=hid hw7.here;obtain ⟨g7,hg7⟩:∃ y,y=w6.heap.size:=⟨_,rfl⟩;rw [←hg7] at HD7 ⊢;have HA7:=hid ((HC6.out.tr h67).keep HA5.out (fun e=>e));have HB7:=hid ((HC6.out.tr h67).keep HB5.out (fun e=>e));have HG7:=hid (h67.keep HG6.out (fun e=>e));have HP7:=hid hP7;have HC7:=hid hC7;have hMk:=k_mkdir HP7.out HC7.out HU.out HM.out;rw [HQ4.out] at hMk;unfold opA pAB sZ ansE at hMk;clear hP7 hC7 h67 hw7 hg7 hRd HA5 HB5 HP5 HC5 HG6 HC6
 go_upto_region 8 with (first
  | (go_at_call 9;go_must (refine hMk.mono ?_;rintro e w8 ⟨rfl,hc8⟩;have HC8:=hid hc8;clear hc8))
  | (refine store_R rfl 43 _ _ rfl w8.heap.size #[.int .i64 113,.int .i64 0,.int .i64 0,.int .i64 0,.int .i64 0,.int .i64 0,.int .i64 0,.slice none 0 0,.slice none 0 0,.bool false] rfl rfl 43 _ (heap_alloc_new _ _) (by rw [szAn];rfl) rfl (by simp [Value.oneCell']) ?_;intro w9 hw9)
  | fail)
 obtain ⟨hP9,hC9,h89⟩:=laid_answer (HP7.out.call HC8.out) (HC7.out.tr HC8.out) hw9;have HE9:=hid hw9.here;obtain ⟨g9,hg9⟩:∃ y,y=w8.heap.size:=⟨_,rfl⟩;rw [←hg9] at HE9 ⊢;have HA9:=hid ((HC8.out.tr h89).keep HA7.out (fun e=>e));have HB9:=hid ((HC8.out.tr h89).keep HB7.out (fun e=>e));have HD9:=hid ((HC8.out.tr h89).keep HD7.out (fun e=>e));have HG9:=hid ((HC8.out.tr h89).keep HG7.out (fun e=>e));have HC9:=hid hC9;have hRm:=k_room hP9;rw [HQ4.out] at hRm;have q5:w9.cell? ⟨g5,0,none⟩=some (.int .i64 0):=(cell_of_row _ _ _ _ _ _ HB9.out).trans rfl;have q7:w9.cell? ⟨g7,7,none⟩=some (.slice (some ⟨g,0,none⟩) 5 5):=(cell_of_row _ _ _ _ _ _ HD9.out).trans rfl;have q9:w9.cell? ⟨g9,0,none⟩=some (.int .i64 113):=(cell_of_row _ _ _ _ _ _ HE9.out).trans rfl;clear hP9 hC9 h89 hw9 hg9 hMk HA7 HB7 HD7 HG7 HP7 HC7 HC8 HB9 HD9 HE9
 go_wp2_with (first
  | (refine load_part rfl 40 _ rfl g3 1 rfl 43 _ #[.int .i64 2,.int .i64 1,.int .i64 1,.int .i64 0,.int .i64 5,.int .i64 0] _ HA9.out part_ok Tryz.underlying40 rfl (by rw [szSt];rfl) ?_)
  | (refine conv_G (by rfl) 32 9 _ rfl _ _ _ rfl (conv_read _ _ HG9.out) ?_)
  | (refine eql_R (by rfl) 40 _ _ rfl _ _ true rfl rfl (fun w=>by kernel_rfl) (by kernel_rfl) ?_)
  | (go_at_call 13;go_must (refine hRm.mono ?_;rintro e w10 ⟨rfl,hc10⟩;have HC10:=hid hc10;clear hc10))
  | (refine eql_R (by rfl) 50 _ _ rfl _ _ true rfl rfl (fun w=>by kernel_rfl) (by kernel_rfl) ?_)
  | fail)
 go_ret
 exact ⟨rfl,HC9.out.tr HC10.out⟩
end Go.Proofs.YtmgfilacepnjlaaGreatDoor

namespace Go.Proofs.YtmgfilacepnjlaaGreatDoor
open Go.RowKit

set_option maxHeartbeats 2000000 in
set_option maxRecDepth 100000 in
theorem doAt_stat {q:PC} {s:PSt} {c:NC} {x:Nd} (i:Int) (path tto:ByteArray) (off len:Int) (da:Option Addr) (dl dc:Nat) (made pick:Int) (w:World) (h:IsPl w q s) (hqc:q.nc i=some c) (hsx:s.nd i=some x) :
  Calls Tryz.prog 27 #[.pointer (some ⟨q.p,0,none⟩),.int .i64 i,.agg (opA 10 path tto off len da dl dc made pick)] w fun e w'=>e=.returned (.agg (ansS i x))∧Chg w w' No:=by
 obtain ⟨w1,hw1⟩:∃ y,y=(w.alloc (.cells (opA 10 path tto off len da dl dc made pick) 34)).alloc (.cells (ansE 0) 43):=⟨_,rfl⟩;have hcA:Chg w (w.alloc (.cells (opA 10 path tto off len da dl dc made pick) 34)) No:=Chg.alloc w _ No
 have hc1:Chg w w1 No:=by rw [hw1];exact hcA.tr (Chg.alloc _ _ No)
 have hO:w1.heap[w.heap.size]? = some (.cells #[.int .i64 10,.string path,.string tto,.int .i64 off,.int .i64 len,.slice da dl dc,.int .i64 made,.int .i64 pick] 34 (0,0)):=by rw [hw1];exact (Chg.alloc _ _ No).keep (heap_alloc_new w _) (fun e=>e)
 have hA1:w1.heap[w.heap.size + 1]? = some (.cells (ansE 0) 43 (0,0)):=by
  have:=heap_alloc_new (w.alloc (.cells (opA 10 path tto off len da dl dc made pick) 34)) (.cells (ansE 0) 43);rw [show (w.alloc (.cells (opA 10 path tto off len da dl dc made pick) 34)).heap.size=w.heap.size + 1 by simp] at this;rw [hw1]
  exact this
 have HA:Hid (∀ W,Chg w1 W No→W.heap[w.heap.size + 1]? = some (.cells (ansE 0) 43 (0,0))):=hid (fun W hW=>hW.keep hA1 (fun e=>e))
 have hN:IsN w c x:=by
  obtain ⟨x',h1,h2⟩:=h.nd i c hqc;rw [hsx] at h1
  cases h1
  exact h2
 have hrg:=h.rng i (by rw [hqc];intro e;cases e);have hI:I64 i:=⟨by omega,by omega⟩;have c2:=(h.call hc1).c2;obtain ⟨fm,hfm⟩:∃ y,y=(fun i=>(q.nc i).map ptrN):=⟨_,rfl⟩;have HM:Hid (MapV w1 q.mb fm):=hid (by rw [hfm];exact (h.call hc1).mp);have HFi:Hid ((match fm i with | some v=>v | none=>Value.pointer none)=.pointer (some ⟨c.p,0,none⟩)):=hid (by rw [hfm];simp only [hqc,Option.map_some];rfl);have q0:w1.cell? ⟨w.heap.size,0,none⟩=some (.int .i64 10):=(cell_of_row _ _ _ _ _ _ hO).trans rfl;have hSt:=stat_any i w1 (h.call hc1) hqc hsx;unfold statA at hSt;obtain ⟨AN,hAN⟩:∃ y,y=ansS i x:=⟨_,rfl⟩;rw [←hAN];obtain ⟨z1,hz1⟩:∃ y,y=x.kind:=⟨_,rfl⟩;obtain ⟨z2,hz2⟩:∃ y,y=x.links:=⟨_,rfl⟩;obtain ⟨z3,hz3⟩:∃ y,y=lenN x:=⟨_,rfl⟩;obtain ⟨z4,hz4⟩:∃ y,y=x.made:=⟨_,rfl⟩;obtain ⟨z5,hz5⟩:∃ y,y=cardN x:=⟨_,rfl⟩;rw [←hz1,←hz2,←hz3,←hz4,←hz5] at hSt;have HRow:Hid (#[.int .i64 0,.int .i64 i,.int .i64 z1,.int .i64 z2,.int .i64 z3,.int .i64 z4,.int .i64 (z5:Nat),.slice none 0 0,.slice none 0 0,.bool false]=AN):=hid (by rw [hAN,hz1,hz2,hz3,hz4,hz5];rfl)
 have hb:∀ W,(Instr.build 43 #[(1,.agg #[.int .i64 i,.int .i64 z1,.int .i64 z2,.int .i64 z3,.int .i64 z4,.int .i64 (z5:Nat)])]).run Tryz.prog W=.ok (.agg #[.int .i64 0,.int .i64 i,.int .i64 z1,.int .i64 z2,.int .i64 z3,.int .i64 z4,.int .i64 (z5:Nat),.slice none 0 0,.slice none 0 0,.bool false]) W:=fun W=>by kernel_rfl
 have HC1:=hid hc1;unfold opA at hw1 ⊢;unfold ansE at hw1;have e1:=hw1;clear hcA hc1 hO hA1 h hqc hsx hfm hrg hN hw1 hAN hz1 hz2 hz3 hz4 hz5
 go_enter Tryz.func27,Tryz.ntmps27
 go_upto_region 1 with fail
 rw [←e1];clear e1
 go_wp2_with (first
  | (at_lookup;go_must (refine wp_lookVN rfl _ _ rfl q.mb fm i _ HFi.out rfl rfl HM.out hI ?_))
  | (go_at_call 47;go_must (refine hSt.mono ?_;rintro e w4 ⟨rfl,hc4⟩;have HC4:=hid hc4;have HA4:=hid (HA.out w4 hc4);clear hc4))
  | (refine store_R rfl 43 _ _ rfl (w.heap.size + 1) #[.int .i64 0,.int .i64 i,.int .i64 z1,.int .i64 z2,.int .i64 z3,.int .i64 z4,.int .i64 (z5:Nat),.slice none 0 0,.slice none 0 0,.bool false] rfl rfl 43 _ HA4.out (by rw [szAn];rfl) rfl (by simp [Value.oneCell']) ?_;intro w5 hw5)
  | fail)
 exact bodyPost_ret (v:=.agg #[.int .i64 0,.int .i64 i,.int .i64 z1,.int .i64 z2,.int .i64 z3,.int .i64 z4,.int .i64 (z5:Nat),.slice none 0 0,.slice none 0 0,.bool false]) (results_R1 Tryz.results27 _ _ (w.heap.size + 1) _ 43 _ Tryz.underlying43 rfl (by rw [szAn];rfl) rfl hw5.here) rfl ⟨by rw [HRow.out],(HC1.out.tr HC4.out).trans (kt_new hw5) (fun _ _ e=>e) (fun j hj e=>by omega)⟩

end Go.Proofs.YtmgfilacepnjlaaGreatDoor

namespace Go.Proofs.YtmgfilacepnjlaaGreatDoor
open Go.RowKit Go.Sort Go.Lib Go.Maps Go.Shelf

theorem sortsS (m:Nat):AnyZ.SortsIn Tryz.prog laySortedS_ren Fence.wide m :=
 ⟨fun blk off cap ss W hH hblk hsz=>callsIn_wide.2 (Any.slices_Sort_string laySortS blk off cap ss W hH hblk hsz),
  fun p cap W=>callsIn_wide.2 (Any.slices_Sort_string_none laySortS p cap W)⟩
theorem keys_call (mb:Nat) (W:World):Calls Tryz.prog 70 #[.map (some mb)] W fun e w'=>e=.returned (.func (.func 80) #[] #[.pointer (some ⟨W.heap.size,0,none⟩)])∧w'=W.alloc (.cells #[.map (some mb)] 104) :=
 (callsIn_wide (n:=5)).1 (AnyZ.keys_in layKeysS Fence.wide 5 trivial rfl (some mb) W)
end Go.Proofs.YtmgfilacepnjlaaGreatDoor

namespace Go.Proofs.YtmgfilacepnjlaaGreatDoor
open Go.RowKit Go.Sort Go.Lib Go.Maps Go.Shelf

end Go.Proofs.YtmgfilacepnjlaaGreatDoor

namespace Go.Proofs.YtmgfilacepnjlaaGreatDoor
open Go.RowKit

def entC (e:ByteArray × Int × Int):List Value:=[.string e.1,.int .i64 e.2.1,.int .i64 e.2.2]
theorem infoEn:∃ i,Tryz.prog.info? 86=some i∧i.zero=some (.agg #[.string ⟨#[]⟩,.int .i64 0,.int .i64 0])∧i.size=3∧i.bytes=32:=by
 have h:(Tryz.prog.info? 86).map (fun i=>(i.zero,i.size,i.bytes))=some (some (.agg #[.string ⟨#[]⟩,.int .i64 0,.int .i64 0]),3,32):=by kernel_rfl
 cases hq:Tryz.prog.info? 86 with
 | none=>rw [hq] at h;cases h
 | some i =>
  rw [hq] at h;have h:=Option.some.inj h
  simp only [Prod.mk.injEq] at h
  exact ⟨i,rfl,h.1,h.2.1,h.2.2⟩
def EOw (w:World) (B:Nat) (v:Value) (es:List (ByteArray × Int × Int)):Prop:=w.ownsRow B 86 3 v es.length (es.flatMap entC)
section
variable {ops:Array Oper} {rest:List Oper} {o:Oper} {a:Act} {Q:Exit→Act→World→Prop} {w:World}
theorem wp_appE (hg:o.guard=none) (s x:Operand) (hop:o.op=.call { callee:=.builtin .append,args:=#[s,x],argTypes:=#[41,41] }) (B g c:Nat) (v:Value) (es:List (ByteArray × Int × Int)) (e:ByteArray × Int × Int) (hs:a.eval s=v) (hx:a.eval x=.slice (some ⟨g,0,none⟩) 1 c)
  (hown:EOw w B v es) (hat:w.heap[g]? = some (.cells (entC e).toArray 86 (0,0))) (hl:es.length≤1000000) (hB:B≤w.heap.size)
  (hK:∀ v' w',EOw w' B v' (es ++ [e])→Chg w w' (fun k=>v.ownBlock=some k)→wpList Tryz.prog ops Q rest (a.put o.dst v') w'):wpList Tryz.prog ops Q (o :: rest) a w:=by
 obtain ⟨i,hi,hz,hsz,hby⟩:=infoEn;refine wpList_append_own_at w hg s x 41 hop B 86 i _ 3 32 Tryz.underlying41 hi hz hsz hby rfl (by decide) v es.length (es.flatMap entC) hs hown ⟨g,0,none⟩ 1 c (entC e) hx rfl (fun j u hj => ?_) (fun u hu => ?_) (by unfold maxLen;omega) (by omega) hB ?_
 ·rw [addr_add,Nat.zero_add,cell_of_row _ _ _ _ _ _ hat]
  simpa using hj
 ·simp only [entC,List.mem_cons,List.not_mem_nil,or_false] at hu
  rcases hu with rfl | rfl | rfl <;> rfl
 ·intro v' w' h1 h2 _ _
  refine hK v' w' ?_ ((Chg.grown h2).mono fun j _ e=>e.symm);unfold EOw;rw [List.length_append,List.flatMap_append]
  simpa using h1
end
end Go.Proofs.YtmgfilacepnjlaaGreatDoor
