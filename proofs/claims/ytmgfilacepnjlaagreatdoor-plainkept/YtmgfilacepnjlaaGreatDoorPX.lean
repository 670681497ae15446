/-
 package plain: the least place of a directory; is there room?; the least inode that is free.
-/
import Derived.Test.YtmgfilacepnjlaaGreatDoorND
import Derived.Test.YtmgfilacepnjlaaGreatDoorPH
-- may lack
namespace Go.Proofs.YtmgfilacepnjlaaGreatDoor
open Go.RowKit

def numsOf (k:Nat):List Nat:=k :: (if 44≤k then [1069,1070 + (k - 44) / 32] else if 12≤k then [1068] else [])
theorem putB_iff (f:Nat→Bool) (m i:Nat):putB f m i=true↔f i=true∨i=m:=by
 unfold putB
 by_cases e:i=m
 ·rw [if_pos e];exact ⟨fun _=>.inr e,fun _=>rfl⟩
 ·rw [if_neg e];exact ⟨.inl,fun h=>h.resolve_right e⟩
theorem addB_iff (f:Nat→Bool) (k i:Nat):addB f k i=true↔f i=true∨i∈numsOf k:=by
 unfold addB numsOf
 by_cases h1:44≤k
 ·rw [if_pos h1,if_pos h1,putB_iff,putB_iff,putB_iff]
  simp [or_assoc]
 ·rw [if_neg h1,if_neg h1]
  by_cases h2:12≤k
  ·rw [if_pos h2,if_pos h2,putB_iff,putB_iff]
   simp [or_assoc]
  ·rw [if_neg h2,if_neg h2,putB_iff]
   simp
def TZ:Array Value:=Array.replicate 1102 (.bool false) ++ #[.int .i64 0]
theorem zero_tal (w:World):(zeroValue 119).run Tryz.prog w=.ok (.agg TZ) w:=by kernel_rfl
theorem szT:(Tryz.prog.info? 119).map (·.size)=some 1103:=by kernel_rfl
theorem card_none:cardT (fun _=>false)=0:=by
 unfold cardT
 simp
theorem TZ_is:TalA TZ (fun _=>false):=by
 refine ⟨by simp [TZ],fun i hi => ?_,?_⟩
 ·unfold TZ
  rw [Array.getElem?_append_left (by simpa using hi)]
  simp [hi]
 ·rw [card_none]
  unfold TZ;rw [Array.getElem?_append_right (by simp)]
  simp
theorem TalA_one {A:Array Value} {f:Nat→Bool} (h:TalA A f):A.all (·.oneCell')=true:=by
 rw [Array.all_eq_true]
 intro i hi
 rcases Nat.lt_or_ge i 1102 with k | k
 ·have:=h.2.1 i k
  rw [Array.getElem?_eq_getElem hi] at this;rw [Option.some.inj this]
  rfl
 ·have e:i=1102:=by have:=h.1;omega
  subst e;have:=h.2.2;rw [Array.getElem?_eq_getElem hi] at this;rw [Option.some.inj this]
  rfl
def TalP (x:Nd) (i:Nat):Prop:=(∃ k:Nat,x.blk (k:Int)≠none∧i∈numsOf k)∨∃ k,k < x.sl.length∧i∈numsOf k
def TW (w wr:World) (gt r:Nat) (f:Nat→Bool):Prop:=TalAt wr gt f∧Chg w wr No∧w.heap.size < gt∧gt < r∧wr.heap[w.heap.size]? = some (.cells TZ 119 (0,0))
theorem TW.call {w wr wq:World} {gt r:Nat} {f:Nat→Bool} (h:TW w wr gt r f) (hc:Chg wr wq (· = r)) (hr:w.heap.size≤r):TW w wq gt r f :=
 ⟨h.1.keep hc (by have:=h.2.2.2.1;omega),h.2.1.trans hc (fun _ _ e=>e) (fun j hj e=>by omega),h.2.2.1,h.2.2.2.1,hc.keep h.2.2.2.2 (by have:=h.2.2.1;have:=h.2.2.2.1;omega)⟩
theorem TW.add {w wr wq:World} {gt r:Nat} {f g:Nat→Bool} (h:TW w wr gt r f) (hg:TalAt wq gt g) (hc:Chg wr wq (· = gt)):TW w wq gt r g :=
 ⟨hg,h.2.1.trans hc (fun _ _ e=>e) (fun j hj e=>by have:=h.2.2.1;omega),h.2.2.1,h.2.2.2.1,hc.keep h.2.2.2.2 (by have:=h.2.2.1;omega)⟩

set_option maxHeartbeats 2000000 in
set_option maxRecDepth 100000 in
theorem tally_any {c:NC} {x:Nd} (w:World) (h:IsN w c x) :
  Calls Tryz.prog 59 #[.pointer (some ⟨c.p,0,none⟩)] w fun e w'=>(∃ A,e=.returned (.agg A)∧∃ F,TalA A F∧∀ i,F i=true↔TalP x i)∧Chg w w' No:=by
 have HN:=hid h;obtain ⟨Z,hZ⟩:∃ y,y=TZ:=⟨_,rfl⟩;have hz:=zero_tal;have HZ:=hid hZ;rw [←hZ] at hz;have HZ4:Hid (Z.size=1103):=hid (by rw [hZ];exact TZ_is.1);obtain ⟨w1,hw1⟩:∃ y,y=(w.alloc (.cells Z 119)).alloc (.cells Z 119):=⟨_,rfl⟩
 have h1:Chg w w1 No:=by rw [hw1];exact (Chg.alloc _ _ No).tr (Chg.alloc _ _ No)
 have hg1:w1.heap[w.heap.size]? = some (.cells Z 119 (0,0)):=by rw [hw1];exact (Chg.alloc _ _ No).keep (heap_alloc_new _ _) (fun e=>e)
 have hg2:w1.heap[w.heap.size + 1]? = some (.cells Z 119 (0,0)):=by
  have:=heap_alloc_new (w.alloc (.cells Z 119)) (.cells Z 119);rw [World.size_alloc] at this;rw [hw1];exact this
 have hs1:w1.heap.size=w.heap.size + 2:=by rw [hw1];simp
 have HS1:=hid hs1;have c4:=(h.call h1).c4;have HB1:=hid (h.call h1).bl;have H1:=hid h1;have HG1:=hid hg1;have HG2:=hid hg2;have HE:Hid (w1=(w.alloc (.cells Z 119)).alloc (.cells Z 119)):=hid hw1;clear h h1 hg1 hg2 hs1 hZ hw1
 go_enter Tryz.func59,Tryz.ntmps59
 go_upto_region 2 with fail
 rw [←HE.out];clear HE
 go_wp2_with (first
  | (at_range;go_must (refine wp_rangeV 103 131 Tryz.underlying103 rfl _ rfl c.bb x.blk rfl HB1.out ?_;intro w2 cnt0 hr0 hc0 hz0))
  | fail)
 go_frame
 have HR0:=hid hr0;have HC0:=hid hc0;obtain ⟨r,hrr⟩:∃ y,y=w1.heap.size:=⟨_,rfl⟩;rw [←hrr] at HR0 ⊢;have HRr:Hid (r=w.heap.size + 2):=hid (by rw [hrr];exact HS1.out);have G0:Hid (TW w w2 (w.heap.size + 1) r (fun _=>false)):=hid ⟨⟨_,HC0.out.keep HG2.out (fun e=>e),by rw [HZ.out];exact TZ_is⟩,H1.out.tr HC0.out,by omega,by have:=HRr.out;omega,by have:=HC0.out.keep HG1.out (fun e=>e);rw [HZ.out] at this;exact this⟩;clear hr0 hc0 hz0 hrr HG1 HG2 HC0 c4 HB1;have HBr:Hid (c.bb≠r∧c.bb≠w.heap.size + 1):=hid (by have:=HN.out.bl.lt;have:=HRr.out;exact ⟨by omega,by omega⟩)
 go_loopw [4] (fun _ wr=>∃ (left:Int→Prop) (cnt:Nat),Hid (RangeV wr c.bb r x.blk left cnt)∧Hid (∃ f,TW w wr (w.heap.size + 1) r f∧∀ i,f i=true↔∃ k:Nat,x.blk (k:Int)≠none∧¬ left (k:Int)∧i∈numsOf k)) (fun _ wr=>wr.rangeLeft c.bb r)
 case atStart=>exact ⟨_,_,HR0,hid ⟨_,G0.out,fun i=>⟨fun e=>(by cases e),fun ⟨k,k1,k2,_⟩=>absurd (by cases hq:x.blk (k:Int) with | none=>exact absurd hq k1 | some _=>rfl) k2⟩⟩⟩
 case round =>
  obtain ⟨left,cnt,HR,HT⟩:=hrel;clear G0 HR0;obtain ⟨f,hT,hI⟩:=HT.out;have HT1:=hid hT;have HI1:=hid hI;have hcn:=HR.out.leftN;have HCn:=hid hcn;clear HT hT hI hcn
  go_wp2_with (first
   | (at_next;go_must (refine wp_nextV rfl _ rfl c.bb r x.blk left cnt rfl HR.out ?_ ?_))
   | fail)
  ·intro hl
   have HA:Hid (∀ i,f i=true↔∃ k:Nat,x.blk (k:Int)≠none∧i∈numsOf k):=hid (fun i=>by
    rw [HI1.out i]
    exact ⟨fun ⟨k,k1,_,k3⟩=>⟨k,k1,k3⟩,fun ⟨k,k1,k3⟩=>⟨k,k1,hl _,k3⟩⟩)
   have hk:=HN.out.call HT1.out.2.1;have c5:=hk.c5;obtain ⟨sa,sc,hv⟩:=hk.sl.shape;rw [hv] at c5;have hlen:=HN.out.len;obtain ⟨n,hn⟩:∃ y,y=x.sl.length:=⟨_,rfl⟩;rw [←hn] at c5 hlen;have HNn:=hid hn
   have nb:(n:Int)≤1068:=by omega
   clear hl hk hv hn HI1 HR HCn
   go_wp2_with fail
   go_loopw [22] (fun x22 wr=>∃ j:Nat,j≤n∧x22=.int .i64 (j:Int)∧Hid (∃ f,TW w wr (w.heap.size + 1) r f∧∀ i,f i=true↔(∃ k:Nat,x.blk (k:Int)≠none∧i∈numsOf k)∨∃ k,k < j∧i∈numsOf k)) (fun x22 _=>n - (intOf x22).toNat)
   case atStart=>exact ⟨0,by omega,rfl,hid ⟨f,HT1.out,fun i=>by
    rw [HA.out i]
    exact ⟨.inl,fun q=>q.resolve_right (fun ⟨k,k1,_⟩=>absurd k1 (Nat.not_lt_zero _))⟩⟩⟩
   case round =>
    obtain ⟨j,hj,rfl,HX⟩:=hrel;clear HT1 HA;obtain ⟨f2,hT,hI⟩:=HX.out;have HT2:=hid hT;have HI2:=hid hI;clear HX hT hI
    by_cases hlt:j < n
    ·have j1:(j:Int) < (n:Int):=by omega
     have j2:(j:Int)≤1068:=by omega
     have hAd:=add_any j wr HT2.out.1 (by omega)
     go_wp2_with (first
      | (go_at_call 73;go_must (refine hAd.mono ?_;rintro e w4 ⟨rfl,h4,hc4⟩))
      | fail)
     refine ⟨⟨j + 1,by omega,by go_num,hid ⟨_,HT2.out.add h4 hc4,fun i => ?_⟩⟩,by simp [intOf];omega⟩;rw [addB_iff,HI2.out i,or_assoc];refine or_congr Iff.rfl ⟨?_,?_⟩
     ·rintro (⟨k,k1,k2⟩ | k2)
      ·exact ⟨k,by omega,k2⟩
      ·exact ⟨j,by omega,k2⟩
     ·rintro ⟨k,k1,k2⟩
      by_cases e:k=j
      ·exact .inr (e ▸ k2)
      ·exact .inl ⟨k,by omega,k2⟩
    ·have j1 : ¬ (j:Int) < (n:Int):=by omega
     obtain ⟨A,hA1,hA2⟩:=HT2.out.1;have HA1:=hid hA1;have HA2:=hid hA2;have HA3:=hid (TalA_one hA2);have HAz:=hid hA2.1
     have HJ:Hid (∀ i,f2 i=true↔TalP x i):=hid (fun i=>by
      rw [HI2.out i];unfold TalP
      have:j=x.sl.length:=by have:=HNn.out;omega
      rw [this])
     clear hA1 hA2 HI2
     go_wp2_with (first
      | (refine load_R rfl 119 _ rfl (w.heap.size + 1) rfl 119 _ _ HA1.out Tryz.underlying119 rfl (by rw [szT,HAz.out]) ?_)
      | (refine store_R rfl 119 _ _ rfl w.heap.size A rfl rfl 119 _ HT2.out.2.2.2.2 (by rw [szT,HAz.out]) (by rw [HAz.out];exact TZ_is.1) HA3.out ?_;intro w6 hw6)
      | fail)
     exact bodyPost_ret (v:=.agg A) (results_R1 Tryz.results59 _ _ w.heap.size _ 119 _ Tryz.underlying119 rfl (by rw [szT,HAz.out]) rfl hw6.here) rfl ⟨⟨A,rfl,f2,HA2.out,HJ.out⟩,HT2.out.2.1.trans (kt_new hw6) (fun _ _ e=>e) (fun j hj e=>by omega)⟩
  ·intro y d w3 cnt3 hl hx hIy hr3 hlt hc3 hz3 hen
   have hd:=HN.out.dom y (by rw [hx];intro e;cases e);obtain ⟨k,rfl⟩:∃ k:Nat,y=(k:Int):=⟨y.toNat,by omega⟩
   have hk:k < 1068:=by omega
   have HT3:=hid (HT1.out.call hc3 (by have:=HRr.out;omega));have hAd:=add_any k w3 HT3.out.1 hk;have HR3:=hid hr3;have HLt:=hid hlt;have HX:=hid hx;clear hr3 hlt hc3 hz3 hl hIy hd hx
   go_wp2_with (first
    | (go_at_call 73;go_must (refine hAd.mono ?_;rintro e w4 ⟨rfl,h4,hc4⟩))
    | fail)
   have hR4:=HR3.out.keep hc4 HBr.out.2 (by have:=HRr.out;omega);refine ⟨⟨_,_,hid hR4,hid ⟨_,HT3.out.add h4 hc4,fun i => ?_⟩⟩,?_⟩
   ·rw [addB_iff,HI1.out i]
    constructor
    ·rintro (⟨j,j1,j2,j3⟩ | j3)
     ·exact ⟨j,j1,fun e=>j2 e.1,j3⟩
     ·exact ⟨k,(fun e=>by rw [HX.out] at e;cases e),fun e=>e.2 rfl,j3⟩
    ·rintro ⟨j,j1,j2,j3⟩
     by_cases e:j=k
     ·exact .inr (e ▸ j3)
     ·exact .inl ⟨j,j1,fun q=>j2 ⟨q,by omega⟩,j3⟩
   ·rw [hR4.leftN,HCn.out]
    exact HLt.out
end Go.Proofs.YtmgfilacepnjlaaGreatDoor

namespace Go.Proofs.YtmgfilacepnjlaaGreatDoor
open Go.RowKit

structure PSt where
 data:Int
 ino:Int
 nd:Int→Option Nd
structure PC where
 p:Nat
 mb:Nat
 nc:Int→Option NC
def ptrN (c:NC):Value:=.pointer (some ⟨c.p,0,none⟩)
def BlkN (c:NC) (k:Nat):Prop:=k=c.p∨k=c.bb∨k=c.nb∨c.v.ownBlock=some k
structure IsPl (w:World) (q:PC) (s:PSt):Prop where
 me:w.heap[q.p]? = some (.cells #[.int .i64 s.data,.int .i64 s.ino,.map (some q.mb)] 82 (0,0))
 mp:MapV w q.mb (fun i=>(q.nc i).map ptrN)
 nd:∀ i c,q.nc i=some c→∃ x,s.nd i=some x∧IsN w c x
 dom:∀ i,q.nc i=none→s.nd i=none
 rng:∀ i,q.nc i≠none→1≤i∧i≤512
 ap:∀ i j c d,q.nc i=some c→q.nc j=some d→i≠j→∀ k,BlkN c k→¬ BlkN d k
 mne:∀ i c,q.nc i=some c→c.bb≠q.mb∧c.nb≠q.mb
 bs:∀ i c,q.nc i=some c→c.B=0
section
variable {w w':World} {q:PC} {s:PSt}
theorem IsPl.call (h:IsPl w q s) (hc:Chg w w' No):IsPl w' q s :=
 ⟨hc.keep h.me (fun e=>e),h.mp.keep hc (fun e=>e),fun i c e=>by obtain ⟨x,h1,h2⟩:=h.nd i c e;exact ⟨x,h1,h2.call hc⟩,h.dom,h.rng,h.ap,h.mne,h.bs⟩
theorem IsPl.c0 (h:IsPl w q s):w.cell? ⟨q.p,0,none⟩=some (.int .i64 s.data):=(cell_of_row _ _ _ _ _ _ h.me).trans rfl
theorem IsPl.c1 (h:IsPl w q s):w.cell? ⟨q.p,1,none⟩=some (.int .i64 s.ino):=(cell_of_row _ _ _ _ _ _ h.me).trans rfl
theorem IsPl.c2 (h:IsPl w q s):w.cell? ⟨q.p,2,none⟩=some (.map (some q.mb)):=(cell_of_row _ _ _ _ _ _ h.me).trans rfl
end
open Classical in
noncomputable def talB (x:Nd) (i:Nat):Bool:=decide (TalP x i)
noncomputable def cardN (x:Nd):Nat:=cardT (talB x)
open Classical in
theorem cardN_of {x:Nd} {F:Nat→Bool} (h:∀ i,F i=true↔TalP x i):cardT F=cardN x:=by
 have:F=talB x:=by
  funext i
  unfold talB
  cases hf:F i with
  | true=>exact (decide_eq_true ((h i).1 hf)).symm
  | false=>exact (decide_eq_false (fun e=>by rw [(h i).2 e] at hf;cases hf)).symm
 unfold cardN;rw [this]
open Classical in
noncomputable def sumN (s:PSt) (P:Int→Prop):Nat→Nat
 | 0=>0
 | n + 1=>sumN s P n + if P (n:Int) then (match s.nd (n:Int) with | some x=>cardN x | none=>0) else 0
theorem sumN_congr {s:PSt} {P Q:Int→Prop}:∀ n:Nat,(∀ i:Nat,i < n→(P (i:Int)↔Q (i:Int)))→sumN s P n=sumN s Q n
 | 0,_=>rfl
 | n + 1,h=>by
  unfold sumN;rw [sumN_congr n (fun i hi=>h i (by omega))];have:=h n (by omega)
  by_cases e:P (n:Int)
  ·rw [if_pos e,if_pos (this.1 e)]
  ·rw [if_neg e,if_neg (fun q=>e (this.2 q))]
theorem sumN_put {s:PSt} {P:Int→Prop} {m:Nat} {x:Nd} (hx:s.nd (m:Int)=some x) (hP : ¬ P (m:Int)):∀ n:Nat,m < n→sumN s (fun i=>P i∨i=(m:Int)) n=sumN s P n + cardN x
 | 0,h=>absurd h (Nat.not_lt_zero _)
 | n + 1,h=>by
  unfold sumN
  by_cases e:m=n
  ·subst e
   have hs:sumN s (fun i=>P i∨i=(m:Int)) m=sumN s P m:=sumN_congr m (fun i hi=>⟨fun q=>q.resolve_right (by omega),.inl⟩);rw [hs,if_pos (.inr rfl),if_neg hP]
   simp only [hx]
   omega
  ·rw [sumN_put hx hP n (by omega)]
   have:(P (n:Int)∨(n:Int)=(m:Int))↔P (n:Int):=⟨fun q=>q.resolve_right (by omega),.inl⟩
   by_cases e2:P (n:Int)
   ·rw [if_pos (this.2 e2),if_pos e2];omega
   ·rw [if_neg (fun q=>e2 (this.1 q)),if_neg e2];omega
theorem sumN_le (s:PSt) (P:Int→Prop):∀ n,sumN s P n≤1102 * n
 | 0=>Nat.le_refl _
 | n + 1=>by
  have:=sumN_le s P n;unfold sumN
  split
  ·split
   ·have:=card_le (talB ‹Nd›)
    unfold cardN
    omega
   ·omega
  ·omega
noncomputable def takenN (s:PSt):Nat:=sumN s (fun i=>s.nd i≠none) 513
theorem field_tal {A:Array Value} {F:Nat→Bool} (h:TalA A F) (W:World):(Instr.field 119 (.agg A) 1).run Tryz.prog W=.ok (.int .i64 (cardT F:Nat)) W:=by
 have h2:=h.2.2;unfold Instr.field
 go_simp
 simp only [asAgg,Sem.run_pure,Result.andThen_ok,h2]
section
variable {ops:Array Oper} {rest:List Oper} {o:Oper} {a:Act} {Q:Exit→Act→World→Prop} {w:World}
theorem wp_fieldT (hg:o.guard=none) (x:Operand) (hop:o.op=Op.field 119 x 1) (A:Array Value) (n:Int) (hx:a.eval x=.agg A) (h:∀ W,(Instr.field 119 (.agg A) 1).run Tryz.prog W=.ok (.int .i64 n) W)
  (hK:wpList Tryz.prog ops Q rest (a.put o.dst (.int .i64 n)) w):wpList Tryz.prog ops Q (o :: rest) a w:=by
 refine wpList_plain hg fun K' hK' => ?_
 unfold Oper.wp
 simp [execOp,hop,hx,h,Result.andThen]
 exact hK' _ _ hK
end

set_option maxHeartbeats 2000000 in
set_option maxRecDepth 100000 in
theorem taken_any {q:PC} {s:PSt} (w:World) (h:IsPl w q s) :
  Calls Tryz.prog 36 #[.pointer (some ⟨q.p,0,none⟩)] w fun e w'=>e=.returned (.int .i64 (takenN s:Nat))∧Chg w w' No:=by
 have HP:=hid h;have c2:=h.c2;obtain ⟨fm,hfm⟩:∃ y,y=(fun i=>(q.nc i).map ptrN):=⟨_,rfl⟩;have HM:Hid (MapV w q.mb fm):=hid (by rw [hfm];exact h.mp);have HFm:=hid hfm;obtain ⟨N,hN⟩:∃ y:Nat,y=takenN s:=⟨_,rfl⟩;have HNn:=hid hN;rw [←hN];clear h hN hfm
 go_enter Tryz.func36,Tryz.ntmps36
 go_wp2_with (first
  | (at_range;go_must (refine wp_rangeV 80 87 Tryz.underlying80 rfl _ rfl q.mb _ rfl HM.out ?_;intro w2 cnt0 hr0 hc0 hz0))
  | fail)
 go_frame
 have HR0:=hid hr0;have HC0:=hid hc0;obtain ⟨r,hrr⟩:∃ y,y=w.heap.size:=⟨_,rfl⟩;rw [←hrr] at HR0 ⊢;have HRr:=hid hrr;clear hr0 hc0 hz0 hrr c2;have HBr:Hid (q.mb≠r):=hid (by have:=HP.out.mp.lt;have:=HRr.out;omega)
 go_loopw [3] (fun x3 wr=>∃ (n:Nat) (left:Int→Prop) (cnt:Nat),x3=.int .i64 (n:Int)∧Hid (RangeV wr q.mb r fm left cnt)∧Hid (n=sumN s (fun i=>s.nd i≠none∧¬ left i) 513)∧Hid (Chg w wr No)) (fun _ wr=>wr.rangeLeft q.mb r)
 case atStart=>exact ⟨0,_,_,rfl,HR0,hid (by
  have hz:∀ n,sumN s (fun _=>False) n=0:=by
   intro n
   induction n with
   | zero=>rfl
   | succ n ih=>unfold sumN;rw [ih,if_neg (fun e=>e)]
  rw [←hz 513];refine (sumN_congr 513 fun i _=>⟨fun e=>e.elim,fun ⟨e1,e2⟩=>e2 ?_⟩)
  cases hq:q.nc (i:Int) with
  | none=>exact absurd (HP.out.dom _ hq) e1
  | some c=>rw [HFm.out];show ((q.nc (i:Int)).map ptrN).isSome=true;rw [hq];rfl),HC0⟩
 case round =>
  obtain ⟨n,left,cnt,rfl,HR,HS,HC⟩:=hrel;clear HR0 HC0;have hcn:=HR.out.leftN;have HCn:=hid hcn;have hnb:=sumN_le s (fun i=>s.nd i≠none∧¬ left i) 513;rw [←HS.out] at hnb
  have n0:(0:Int)≤(n:Int):=by omega
  have n1:(n:Int)≤600000:=by omega
  clear hcn hnb
  go_wp2_with (first
   | (at_next;go_must (refine wp_nextV rfl _ rfl q.mb r _ left cnt rfl HR.out ?_ ?_))
   | fail)
  ·intro hl
   have HF:Hid (n=N):=hid (by
    rw [HS.out,HNn.out];unfold takenN
    exact sumN_congr 513 fun i _=>⟨fun e=>e.1,fun e=>⟨e,hl _⟩⟩)
   obtain rfl:=HF.out;clear hl HR HS HCn
   go_wp2_with fail
   go_ret
   exact ⟨rfl,HC.out⟩
  ·intro y d w3 cnt3 hl hx hIy hr3 hlt hc3 hz3 hen
   have hx2:(q.nc y).map ptrN=some d:=by rw [HFm.out] at hx;exact hx
   obtain ⟨c,hqc,rfl⟩:∃ c,q.nc y=some c∧ptrN c=d:=by
    cases hq:q.nc y with
    | none=>rw [hq] at hx2;cases hx2
    | some c=>rw [hq] at hx2;exact ⟨c,rfl,Option.some.inj hx2⟩
   have hrg:=HP.out.rng y (by rw [hqc];intro e;cases e);obtain ⟨m,rfl⟩:∃ m:Nat,y=(m:Int):=⟨y.toNat,by omega⟩;obtain ⟨x,hsx,_⟩:=HP.out.nd _ c hqc;have HC3:Hid (Chg w w3 No):=hid (HC.out.trans hc3 (fun _ _ e=>e) (fun j hj e=>by have:=HRr.out;omega))
   have hTl:Calls Tryz.prog 59 #[.pointer (some ⟨c.p,0,none⟩)] w3 fun e w'=>(∃ A,e=.returned (.agg A)∧∀ W,(Instr.field 119 (.agg A) 1).run Tryz.prog W=.ok (.int .i64 (cardN x:Nat)) W)∧Chg w3 w' No:=by
    obtain ⟨x',h1,h2⟩:=HP.out.nd _ c hqc;rw [hsx] at h1
    cases h1
    refine (tally_any w3 (h2.call HC3.out)).mono ?_
    rintro e w' ⟨⟨A,rfl,F,hA,hF⟩,hc⟩
    refine ⟨⟨A,rfl,fun W => ?_⟩,hc⟩;rw [field_tal hA,cardN_of hF]
   have hcb:cardN x≤1102:=card_le _;obtain ⟨cn,hcn⟩:∃ z:Nat,z=cardN x:=⟨_,rfl⟩;rw [←hcn] at hTl hcb;have HSx:=hid hsx;have HcN:=hid hcn;have HR3:=hid hr3;have HLt:=hid hlt;have HL:=hid hl
   have k1:(cn:Int)≤1102:=by omega
   have hrg2:=hrg.2;clear hr3 hlt hc3 hz3 hl hIy hx hx2 hqc hsx hcn hrg;unfold ptrN at hen ⊢
   go_wp2_with (first
    | (go_at_call 59;go_must (refine hTl.mono ?_;rintro e w4 ⟨⟨A,rfl,hA⟩,hc4⟩))
    | (refine wp_fieldT rfl _ rfl A (cn:Int) rfl hA ?_)
    | fail)
   have hR4:=HR3.out.keep hc4 (fun e=>e) (fun e=>e);refine ⟨⟨n + cn,_,_,by go_num,hid hR4,hid ?_,hid (HC3.out.tr hc4)⟩,?_⟩
   ·rw [HS.out,HcN.out,←sumN_put (P:=fun i=>s.nd i≠none∧¬ left i) (m:=m) HSx.out (fun e=>e.2 HL.out) 513 (by omega)]
    refine sumN_congr 513 fun i _=>⟨?_,?_⟩
    ·rintro (⟨e1,e2⟩ | e)
     ·exact ⟨e1,fun q=>e2 q.1⟩
     ·rw [e]
      exact ⟨(fun e=>by rw [HSx.out] at e;cases e),fun q=>q.2 rfl⟩
    ·rintro ⟨e1,e2⟩
     by_cases e:(i:Int)=(m:Int)
     ·exact .inr e
     ·exact .inl ⟨e1,fun q=>e2 ⟨q,e⟩⟩
   ·rw [hR4.leftN,HCn.out]
    exact HLt.out
end Go.Proofs.YtmgfilacepnjlaaGreatDoor

namespace Go.Proofs.YtmgfilacepnjlaaGreatDoor
open Go.RowKit

def LAt (w:World) (a:Option Addr) (ls:List ByteArray):Prop:=ls=[]∨∃ g,a=some ⟨g,0,none⟩∧g < w.heap.size∧∀ (j:Nat) x,ls[j]? = some x→w.cell? ⟨g,j,none⟩=some (.string x)
theorem addr_add (b o j:Nat):(⟨b,o,none⟩:Addr).add j=⟨b,o + j,none⟩:=by unfold Addr.add;split <;> simp_all
theorem cell_below {w w':World} {a:Addr} {v:Value} (hb:Below w.heap.size w w') (ha:a.block < w.heap.size) (h:w.cell? a=some v):w'.cell? a=some v:=by
 unfold World.cell? at h ⊢;rw [hb.block _ ha];exact h
theorem LAt.below {w w':World} {a:Option Addr} {ls:List ByteArray} (h:LAt w a ls) (hb:Below w.heap.size w w'):LAt w' a ls:=by
 rcases h with h | ⟨g,rfl,hg,h⟩
 ·exact .inl h
 ·exact .inr ⟨g,rfl,Nat.lt_of_lt_of_le hg hb.size,fun j x hx=>cell_below hb hg (h j x hx)⟩
theorem getS {ls:List ByteArray} {k:Nat} (h:k < ls.length):ls[k]? = some (ls.getD k ByteArray.empty):=by
 rw [List.getElem?_eq_getElem h];simp [List.getD,List.getElem?_eq_getElem h]

def datas (ls:List ByteArray):List (List UInt8):=ls.map fun s=>s.data.toList
theorem datas_len (ls:List ByteArray):(datas ls).length=ls.length:=by simp [datas]
theorem data_inj {a b:ByteArray} (h:a.data.toList=b.data.toList):a=b:=by
 cases a;cases b
 simp only [Array.toList_inj] at h
 subst h;rfl
theorem datas_inj:∀ {a b:List ByteArray},datas a=datas b→a=b
 | [],[],_=>rfl
 | [],b :: bs,h=>by simp [datas] at h
 | a :: r,[],h=>by simp [datas] at h
 | a :: r,b :: bs,h=>by
  simp only [datas,List.map_cons,List.cons.injEq] at h
  rw [data_inj h.1,datas_inj (show datas r=datas bs from h.2)]

end Go.Proofs.YtmgfilacepnjlaaGreatDoor

namespace Go.Proofs.YtmgfilacepnjlaaGreatDoor
open Go.RowKit Go.Shelf

def ML (w:World):Prop:=∃ m:Int,w.cell? ⟨laySplit_ren.g 1,0,none⟩=some (.int .i64 m)
theorem ML.below {w w':World} (h:ML w) (hb:Below w.heap.size w w'):ML w':=by
 obtain ⟨m,h⟩:=h
 exact ⟨m,cell_below hb (World.block_lt_of_cell? _ _ h) h⟩
def Own (B:Nat) (w:World) (a:Option Addr) (ls:List ByteArray):Prop:=(a=none∧ls=[])∨∃ g,a=some ⟨g,0,none⟩∧B≤g∧w.heap[g]? = some (.cells (ls.map Value.string).toArray 9)
theorem Own.at {B:Nat} {w:World} {a:Option Addr} {ls:List ByteArray} (h:Own B w a ls):LAt w a ls:=by
 rcases h with h | ⟨g,rfl,hg,h⟩
 ·exact .inl h.2
 ·refine .inr ⟨g,rfl,slt h,fun j x hx => ?_⟩
  rw [cell_of_row _ _ _ _ _ _ h]
  simp [hx]

theorem info9:(Tryz.prog.info? 9).map (fun i=>(i.zero,i.size,i.bytes))=some (some (.string ByteArray.empty),1,16):=by kernel_rfl
theorem pieces_datas (s:ByteArray):datas (Lib.splitB ⟨#[47]⟩ 0 (Lib.countB s ⟨#[47]⟩) s)=pieces s.data.toList:=by
 unfold datas;rw [Lib.splitB_data]
 exact splitK_pieces _ _ rfl
theorem cut_any (s:ByteArray) (w:World) (hs:s.size≤400) (hm:ML w):Calls Tryz.prog 62 #[.string s,.string ⟨#[47]⟩] w fun e w' =>
  ∃ ls:List ByteArray,e=.returned (.slice (some ⟨w.heap.size,0,none⟩) ls.length ls.length)∧datas ls=pieces s.data.toList∧w'=w.alloc (.cells (ls.map Value.string).toArray 9):=by
 obtain ⟨m,hm⟩:=hm;refine (Any.strings_Split (P:=Tryz.prog) (ρ:=laySplit_ren) { laySplit with } info9 s ⟨#[47]⟩ m w (by omega) hm (by decide)).mono ?_
 rintro e w' ⟨rfl,hw⟩
 refine ⟨Lib.splitB ⟨#[47]⟩ 0 (Lib.countB s ⟨#[47]⟩) s,?_,pieces_datas s,hw⟩;rw [Lib.splitB_all ⟨#[47]⟩ (by decide) 0 _ s rfl]
theorem tail_data (s:ByteArray):(s.extract 1 s.size).data.toList=s.data.toList.tail:=by
 rw [Lib.extract_to_end]
 simp

theorem alls {ls:List ByteArray} {m k:Nat} (hm:ls.length=m) (h:∀ j,j < k→okName (ls.getD j ByteArray.empty).data.toList=true) (hk:m≤k):(datas ls).all okName=true:=by
 rw [List.all_eq_true]
 intro x hx
 obtain ⟨s,hs,rfl⟩:=List.mem_map.1 hx;obtain ⟨j,hj,e⟩:=List.mem_iff_getElem.1 hs;have:=h j (by omega);rw [List.getD,List.getElem?_eq_getElem hj] at this
 simpa [e] using this
theorem notall {ls:List ByteArray} {k:Nat} (hk:k < ls.length) (h : ¬ okName (ls.getD k ByteArray.empty).data.toList=true):(datas ls).all okName=false:=by
 cases e:(datas ls).all okName
 ·rfl
 ·refine absurd (List.all_eq_true.1 e _ ?_) h
  refine List.mem_map.2 ⟨_,?_,rfl⟩
  exact List.mem_of_getElem? (getS hk)

set_option maxRecDepth 100000 in
set_option maxHeartbeats 2000000 in
theorem split_any (s:ByteArray) (w:World) (hm:ML w) :
  Calls Tryz.prog 41 #[.string s] w fun e w'=>∃ (a:Option Addr) (ls:List ByteArray),e=.returned (.tuple #[.slice a ls.length ls.length,.int .i64 (splitR s.data.toList).2])∧datas ls=(splitR s.data.toList).1∧Own w.heap.size w' a ls∧Below w.heap.size w w':=by
 have e1:=toList_stroke;have hf:=hasForm_any s w
 cases hF:formed s.data.toList
 case false =>
  rw [hF] at hf;have HV:=hid (split_not hF)
  go_enter Tryz.func41,Tryz.ntmps41
  go_wp2_with (go_at_call 61;refine hf.mono ?_;rintro e w2 ⟨rfl,hb2⟩)
  go_ret2
  exact ⟨none,[],by rw [HV.out];rfl,by rw [HV.out];rfl,.inl ⟨rfl,rfl⟩,hb2⟩
 rw [hF] at hf
 have hsz:s.size≤400:=by
  simp only [formed,Bool.and_eq_true,decide_eq_true_eq] at hF
  have:=hF.1.1;rw [len_eq] at this;exact this
 have hs1:1≤s.size:=by
  simp only [formed,Bool.and_eq_true,decide_eq_true_eq,beq_iff_eq] at hF
  have h:=hF.1.2
  rcases Nat.eq_zero_or_pos s.size with e | e
  ·rw [←len_eq] at e
   rw [List.length_eq_zero_iff.1 e] at h;cases h
  ·exact e
 cases k1:(s.toList == [47])
 case true =>
  have HV:Hid (splitR s.data.toList=([],0)):=by
   show _=_
   unfold splitR;rw [if_pos hF,if_pos (by rw [←tl];exact eq_of_beq k1)]
  clear hF
  go_enter Tryz.func41,Tryz.ntmps41
  go_wp2_with (go_at_call 61;refine hf.mono ?_;rintro e w2 ⟨rfl,hb2⟩)
  go_ret2
  exact ⟨none,[],by rw [HV.out];rfl,by rw [HV.out];rfl,.inl ⟨rfl,rfl⟩,hb2⟩
 have HV:Hid (splitR s.data.toList=if (pieces s.data.toList.tail).all okName then (pieces s.data.toList.tail,0) else ([],71)):=by
  show _=_
  unfold splitR;rw [if_pos hF,if_neg (by intro e;rw [tl,e] at k1;exact absurd k1 (by decide))]
 have HM:=hid hm;have HE:=hid (tail_data s)
 have hcut:∀ w',ML w'→_:=fun w' hm'=>cut_any (s.extract 1 s.size) w' (by simp;omega) hm'
 have hb1:(1:Int)≤(s.size:Int):=by omega
 clear hF hm hs1
 go_enter Tryz.func41,Tryz.ntmps41
 go_wp2_with (first | (go_at_call 61;go_must (refine hf.mono ?_;rintro e w2 ⟨rfl,hb2⟩)) | (go_at_call 62;go_must (refine (hcut _ (HM.out.below hb2)).mono ?_;rintro e w3 ⟨ls,rfl,hls,hw3⟩;have Hw3:=hid hw3;have HLS:=hid hls;clear hw3 hls)) | fail)
 have HB:Hid (Below w.heap.size w w3):=by show Below _ _ _;rw [Hw3.out];exact hb2.alloc hb2.size _
 have HO:Hid (w3.heap[w2.heap.size]? = some (.cells (ls.map Value.string).toArray 9)):=by show _=_;rw [Hw3.out];exact heap_alloc_new _ _
 have hz2:=hb2.size;clear Hw3 hf hcut k1 e1 hb1;obtain ⟨g,hg⟩:∃ g,g=w2.heap.size:=⟨_,rfl⟩;rw [←hg] at HO ⊢ hz2;clear hg hb2
 generalize hlen:ls.length=m at *
 have HLen:=hid hlen
 have hmb:Hid (m≤401):=by
  show _≤_
  have h1:=congrArg List.length HLS.out;rw [datas_len,HE.out] at h1
  have h2:∀ l:List UInt8,(pieces l).length≤l.length + 1:=by
   intro l
   have h3:=flat_length (pieces l);rw [pieces_flat] at h3;have:=sizes_len (pieces l)
   simp at h3;omega
  have h3:=h2 s.data.toList.tail
  simp at h3
  omega
 have hm4:=hmb.out;clear hlen
 go_loopw [18] (fun i wr=>∃ k:Nat,k≤m∧i=.int .i64 k∧Below w3.heap.size w3 wr∧Hid (∀ j,j < k→okName (ls.getD j ByteArray.empty).data.toList=true)) (fun i _=>m - (intOf i).toNat)
 case atStart=>exact ⟨0,by omega,rfl,Below.refl _ _,fun j hj=>by omega⟩
 case round =>
  obtain ⟨k,hk,rfl,hbr,HK⟩:=hrel
  by_cases hlt:k < m
  ·have HO2:wr.heap[g]? = some (.cells (ls.map Value.string).toArray 9):=by rw [hbr.block _ (slt HO.out)];exact HO.out
   have p1:wr.cell? ⟨g,k,none⟩=some (.string (ls.getD k ByteArray.empty)):=by
    rw [cell_of_row _ _ _ _ _ _ HO2];rw [List.getElem?_toArray,List.getElem?_map,getS (ls:=ls) (k:=k) (by have:=HLen.out;omega)]
    rfl
   have HU:Hid (okName (ls.getD k ByteArray.empty).data.toList=true∨¬ okName (ls.getD k ByteArray.empty).data.toList=true):=by
    rcases Classical.em (okName (ls.getD k ByteArray.empty).data.toList=true) with h | h
    ·exact .inl h
    ·exact .inr h
   have hck:=fun w'=>check_any (ls.getD k ByteArray.empty) w'
   obtain ⟨u,hu⟩:∃ u,u=ls.getD k ByteArray.empty:=⟨_,rfl⟩;rw [←hu] at p1 hck HU;have HQ:=hid hu
   have hi0:(0:Int)≤(k:Int):=by omega
   have hi1:(k:Int) < (m:Int):=by omega
   clear hu HO2
   rcases HU.out with hok | hno
   ·rw [chk_ok hok] at hck
    have HK2:Hid (∀ j,j < k + 1→okName (ls.getD j ByteArray.empty).data.toList=true):=by
     intro j hj
     rcases Nat.lt_or_ge j k with g | g
     ·exact HK.out j g
     ·obtain rfl:j=k:=by omega
      rw [←HQ.out];exact hok
    clear hok HU
    go_wp2_with (go_at_call 63;refine (hck _).mono ?_;rintro e w5 ⟨rfl,hb5⟩)
    exact ⟨⟨k + 1,by omega,by go_num,btr hbr hb5 hbr.size,HK2⟩,by simp [intOf];omega⟩
   ·rw [chk_bad hno] at hck
    have HR:Hid (splitR s.data.toList=([],71)):=by
     show _=_
     rw [HV.out,if_neg];rw [←HE.out,←HLS.out,notall (k:=k) (by have:=HLen.out;omega) (by rw [←HQ.out];exact hno)]
     simp
    clear hno HU
    go_wp2_with (go_at_call 63;refine (hck _).mono ?_;rintro e w5 ⟨rfl,hb5⟩)
    go_ret2
    exact ⟨none,[],by rw [HR.out];rfl,by rw [HR.out];rfl,.inl ⟨rfl,rfl⟩,btr (btr HB.out hbr HB.out.size) hb5 (btr HB.out hbr HB.out.size).size⟩
  ·have HR:Hid (splitR s.data.toList=(datas ls,0)):=by
    show _=_
    have:=alls HLen.out HK.out (by omega);rw [HV.out,←HE.out,←HLS.out,if_pos this]
   go_wp2_with fail
   go_ret2
   exact ⟨some ⟨g,0,none⟩,ls,by rw [HR.out,HLen.out];rfl,by rw [HR.out],.inr ⟨g,rfl,hz2,by rw [hbr.block _ (slt HO.out)];exact HO.out⟩,btr HB.out hbr HB.out.size⟩

end Go.Proofs.YtmgfilacepnjlaaGreatDoor

namespace Go.Proofs.YtmgfilacepnjlaaGreatDoor
open Go.RowKit

structure OkS (s:PSt):Prop where
 root:s.nd 1≠none
 nm:∀ i x n k,s.nd i=some x→x.nm n=some k→0≤k∧k < x.sl.length∧s.nd (x.sl.getD k.toNat 0)≠none
def walkL (s:PSt):List ByteArray→Int→Int × Int
 | [],i=>(i,0)
 | n :: l,i=>match s.nd i with
  | none=>(0,110)
  | some x=>if x.kind=2 then (match findN x n with | none=>(0,110) | some j=>walkL s l j) else (0,113)
theorem walkL_step {s:PSt} {n:ByteArray} {l:List ByteArray} {i:Int} {x:Nd} (hx:s.nd i=some x):walkL s (n :: l) i=if x.kind=2 then (match findN x n with | none=>(0,110) | some j=>walkL s l j) else (0,113):=by
 show (match s.nd i with | none=>_ | some x=>_)=_
 rw [hx]
theorem drop_getD {l:List ByteArray} {j:Nat} (h:j < l.length):l.drop j=l.getD j ByteArray.empty :: l.drop (j + 1):=by
 rw [List.drop_eq_getElem_cons h,List.getD_eq_getElem?_getD,List.getElem?_eq_getElem h]
 rfl
section
variable {w:World} {q:PC} {s:PSt}
theorem IsPl.at_ (h:IsPl w q s) {i:Int} (hi:s.nd i≠none):∃ c x,q.nc i=some c∧s.nd i=some x∧IsN w c x∧1≤i∧i≤512:=by
 cases hq:q.nc i with
 | none=>exact absurd (h.dom i hq) hi
 | some c =>
  obtain ⟨x,h1,h2⟩:=h.nd i c hq;have:=h.rng i (by rw [hq];intro e;cases e)
  exact ⟨c,x,rfl,h1,h2,this.1,this.2⟩
end

set_option maxHeartbeats 2000000 in
set_option maxRecDepth 100000 in
theorem walk_any {q:PC} {s:PSt} (ls:List ByteArray) (a:Option Addr) (cp:Nat) (w:World) (h:IsPl w q s) (ho:OkS s) (hl:LAt w a ls) (hb:ls.length≤1000) (hn:∀ x∈ls,x.size≤1000) :
  Calls Tryz.prog 26 #[.pointer (some ⟨q.p,0,none⟩),.slice a ls.length cp] w fun e w'=>e=.returned (.tuple #[.int .i64 (walkL s ls 1).1,.int .i64 (walkL s ls 1).2])∧w'=w:=by
 have HP:=hid h;have HO:=hid ho;have HL:=hid hl;have HNs:=hid hn;have c2:=h.c2;obtain ⟨fm,hfm⟩:∃ y,y=(fun i=>(q.nc i).map ptrN):=⟨_,rfl⟩;have HM:Hid (MapV w q.mb fm):=hid (by rw [hfm];exact h.mp);have HFm:=hid hfm;obtain ⟨R,hR⟩:∃ y,y=walkL s ls 1:=⟨_,rfl⟩;have HR:Hid (R=walkL s ls 1):=hid hR;obtain ⟨R1,R2⟩:=R;rw [←hR];obtain ⟨n,hnn⟩:∃ y,y=ls.length:=⟨_,rfl⟩;have HN:=hid hnn;rw [←hnn] at hb ⊢;have G0:Hid (s.nd 1≠none∧(R1,R2)=walkL s (ls.drop 0) 1):=hid ⟨ho.root,HR.out⟩;clear h ho hl hn hfm hR hnn HR
 go_enter Tryz.func26,Tryz.ntmps26
 go_wp2_with fail
 go_loopw [6,13] (fun x6 x13 wr=>∃ (i:Int) (j:Nat),x6=.int .i64 i∧x13=.int .i64 (j:Int)∧j≤n∧wr=w∧Hid (s.nd i≠none∧(R1,R2)=walkL s (ls.drop j) i)) (fun _ x13 _=>n - (intOf x13).toNat)
 case atStart=>exact ⟨1,0,rfl,rfl,by omega,rfl,G0⟩
 case round =>
  obtain ⟨i,j,rfl,rfl,hj,rfl,HX⟩:=hrel;clear G0
  by_cases hlt:j < n
  ·have j0:(0:Int)≤(j:Int):=by omega
   have j1:(j:Int) < (n:Int):=by omega
   have j2:(j:Int)≤1000:=by omega
   have hjl:j < ls.length:=by rw [←HN.out];exact hlt
   obtain ⟨g,hga,q5⟩:∃ g,a=some ⟨g,0,none⟩∧wr.cell? ⟨g,j,none⟩=some (.string (ls.getD j ByteArray.empty)):=by
    rcases HL.out with e | ⟨g,e1,_,e3⟩
    ·rw [e] at hjl;simp at hjl
    ·exact ⟨g,e1,e3 j _ (getS hjl)⟩
   have HD:=hid (drop_getD hjl);have hnz:(ls.getD j ByteArray.empty).size≤1000:=HNs.out _ (by rw [List.getD_eq_getElem?_getD,List.getElem?_eq_getElem hjl];exact List.getElem_mem hjl);obtain ⟨nm,hnm⟩:∃ y,y=ls.getD j ByteArray.empty:=⟨_,rfl⟩;rw [←hnm] at q5 HD hnz;subst hga;obtain ⟨c,x,hqc,hsx,hIN,r1,r2⟩:=HP.out.at_ HX.out.1;have hI:I64 i:=⟨by omega,by omega⟩;have HFi:Hid ((match fm i with | some v=>v | none=>Value.pointer none)=.pointer (some ⟨c.p,0,none⟩)):=hid (by rw [HFm.out];simp only [hqc,Option.map_some];rfl);have hDr:=isDirectory_any wr hIN;have hFd:=find_any nm wr hIN hnz (fun k hk=>by have:=HO.out.nm i x nm k hsx hk;exact ⟨this.1,this.2.1⟩);have HW:Hid ((R1,R2)=if x.kind=2 then (match findN x nm with | none=>(0,110) | some z=>walkL s (ls.drop (j + 1)) z) else (0,113)):=hid (by rw [HX.out.2,HD.out];exact walkL_step hsx)
   have HFz:Hid (∀ z,findN x nm=some z→s.nd z≠none):=hid (fun z hz=>by
    unfold findN at hz
    cases hk:x.nm nm with
    | none=>rw [hk] at hz;cases hz
    | some k =>
     rw [hk] at hz;have e:x.sl.getD k.toNat 0=z:=Option.some.inj hz;rw [←e]
     exact (HO.out.nm i x nm k hsx hk).2.2)
   obtain ⟨fo,hfo⟩:∃ y,y=findN x nm:=⟨_,rfl⟩;rw [←hfo] at hFd HW HFz;clear hqc hsx hIN hnm hfo HX r1 r2 hjl HD HNs
   by_cases hk:x.kind=2
   ·rw [decide_eq_true hk] at hDr
    rw [if_pos hk] at HW;clear hk
    cases fo with
    | none =>
     have e1:R1=0:=congrArg Prod.fst HW.out;have e2:R2=110:=congrArg Prod.snd HW.out;subst e1 e2;clear HW HFz
     go_wp2_with (first
      | (at_lookup;go_must (refine wp_lookVN rfl _ _ rfl q.mb fm i _ HFi.out rfl rfl HM.out hI ?_))
      | (go_at_call 48;go_must (refine hDr.mono ?_;rintro e w1 ⟨rfl,rfl⟩))
      | (go_at_call 54;go_must (refine hFd.mono ?_;rintro e w1 ⟨rfl,rfl⟩))
      | fail)
     go_ret2
     exact ⟨rfl,rfl⟩
    | some z =>
     have HNx:Hid (s.nd z≠none∧(R1,R2)=walkL s (ls.drop (j + 1)) z):=hid ⟨HFz.out z rfl,HW.out⟩;clear HW HFz
     go_wp2_with (first
      | (at_lookup;go_must (refine wp_lookVN rfl _ _ rfl q.mb fm i _ HFi.out rfl rfl HM.out hI ?_))
      | (go_at_call 48;go_must (refine hDr.mono ?_;rintro e w1 ⟨rfl,rfl⟩))
      | (go_at_call 54;go_must (refine hFd.mono ?_;rintro e w1 ⟨rfl,rfl⟩))
      | fail)
     exact ⟨⟨z,j + 1,rfl,by go_num,by omega,by trivial,HNx⟩,by simp [intOf];omega⟩
   ·rw [decide_eq_false hk] at hDr
    rw [if_neg hk] at HW;have e1:R1=0:=congrArg Prod.fst HW.out;have e2:R2=113:=congrArg Prod.snd HW.out;subst e1 e2;clear hk HW HFz
    go_wp2_with (first
     | (at_lookup;go_must (refine wp_lookVN rfl _ _ rfl q.mb fm i _ HFi.out rfl rfl HM.out hI ?_))
     | (go_at_call 48;go_must (refine hDr.mono ?_;rintro e w1 ⟨rfl,rfl⟩))
     | fail)
    go_ret2
    exact ⟨rfl,rfl⟩
  ·have j1 : ¬ (j:Int) < (n:Int):=by omega
   have hdr:ls.drop j=[]:=List.drop_eq_nil_of_le (by have:=HN.out;omega);have hW:=HX.out.2;rw [hdr] at hW;have e1:R1=i:=congrArg Prod.fst hW;have e2:R2=0:=congrArg Prod.snd hW;subst e1 e2;clear hW hdr HX
   go_wp2_with fail
   go_ret2
   exact ⟨rfl,rfl⟩
end Go.Proofs.YtmgfilacepnjlaaGreatDoor

namespace Go.Proofs.YtmgfilacepnjlaaGreatDoor
open Go.RowKit

def least0:List Int→Nat
 | []=>0
 | x :: l=>if x=0 then 0 else least0 l + 1
theorem least0_le:∀ l:List Int,least0 l≤l.length
 | []=>Nat.le_refl _
 | x :: l=>by
  unfold least0
  split
  ·omega
  ·have:=least0_le l
   simp only [List.length_cons]
   omega
theorem least0_at:∀ {l:List Int} {j:Nat},j < l.length→(∀ k,k < j→l.getD k 0≠0)→l.getD j 0=0→least0 l=j
 | [],j,h,_,_=>absurd h (Nat.not_lt_zero _)
 | x :: l,0,_,_,h0=>by
  have h0:x=0:=h0;unfold least0;rw [if_pos h0]
 | x :: l,j + 1,h,hk,h0=>by
  have hx : ¬ x=0:=hk 0 (by omega);have:=least0_at (l:=l) (j:=j) (by simpa using h) (fun k hkj=>hk (k + 1) (by omega)) h0;unfold least0;rw [if_neg hx,this]
theorem least0_none:∀ {l:List Int},(∀ k,k < l.length→l.getD k 0≠0)→least0 l=l.length
 | [],_=>rfl
 | x :: l,hk=>by
  have hx : ¬ x=0:=hk 0 (by simp);have:=least0_none (l:=l) (fun k hkl=>hk (k + 1) (by simpa using hkl));unfold least0;rw [if_neg hx,this]
  rfl

set_option maxHeartbeats 1000000 in
set_option maxRecDepth 100000 in
theorem index_any {B:Nat} (l:List Int) (a:Option Addr) (cp:Nat) (w:World) (h:IOwn w B (.slice a l.length cp) l) (hl:l.length≤5000) :
  Calls Tryz.prog 76 #[.slice a l.length cp,.int .i64 0] w fun e w'=>e=.returned (.int .i64 (if least0 l < l.length then ((least0 l:Nat):Int) else -1))∧w'=w:=by
 have HI:=hid h;obtain ⟨R,hR⟩:∃ y:Int,y=(if least0 l < l.length then ((least0 l:Nat):Int) else -1):=⟨_,rfl⟩;rw [←hR];have HR:=hid hR;obtain ⟨n,hn⟩:∃ y,y=l.length:=⟨_,rfl⟩;have HN:=hid hn;rw [←hn] at hl ⊢;clear h hR hn
 go_enter Tryz.func76,Tryz.ntmps76
 go_wp2_with fail
 go_loopw [8] (fun x8 wr=>∃ j:Nat,x8=.int .i64 (j:Int)∧j≤n∧wr=w∧Hid (∀ k,k < j→l.getD k 0≠0)) (fun x8 _=>n - (intOf x8).toNat)
 case atStart=>exact ⟨0,rfl,by omega,rfl,hid (fun k hk=>absurd hk (Nat.not_lt_zero _))⟩
 case round =>
  obtain ⟨j,rfl,hj,rfl,HX⟩:=hrel
  by_cases hlt:j < n
  ·have j0:(0:Int)≤(j:Int):=by omega
   have j1:(j:Int) < (n:Int):=by omega
   have j2:(j:Int)≤5000:=by omega
   have hjl:j < l.length:=by rw [←HN.out];exact hlt
   have hcell:∃ g,a=some ⟨g,0,none⟩∧wr.cell? ⟨g,j,none⟩=some (.int .i64 (l.getD j 0)):=own_cell HI.out hjl;obtain ⟨g,rfl,q5⟩:=hcell;obtain ⟨y,hy⟩:∃ z,z=l.getD j 0:=⟨_,rfl⟩;rw [←hy] at q5
   by_cases h0:y=0
   ·have e:R=(j:Int):=by
     have:=least0_at hjl HX.out (hy.symm.trans h0);rw [HR.out,this,if_pos hjl]
    subst e h0;clear hy hjl HX HR
    go_wp2_with fail
    go_ret
    exact ⟨rfl,rfl⟩
   ·have b1:((0:Int) == y)=false:=beq_eq_false_iff_ne.2 (fun e=>h0 e.symm)
    have b2:decide ((0:Int)=y)=false:=decide_eq_false (fun e=>h0 e.symm)
    have HNx:Hid (∀ k,k < j + 1→l.getD k 0≠0):=hid (fun k hk=>by
     by_cases e:k=j
     ·rw [e,←hy];exact h0
     ·exact HX.out k (by omega))
    clear hy hjl HX h0
    go_wp2_with fail
    exact ⟨⟨j + 1,by go_num,by omega,by trivial,HNx⟩,by simp [intOf];omega⟩
  ·have j1 : ¬ (j:Int) < (n:Int):=by omega
   have e:R = -1:=by
    have:=least0_none (l:=l) (fun k hk=>HX.out k (by have:=HN.out;omega));rw [HR.out,this,if_neg (Nat.lt_irrefl _)]
   subst e;clear HX HR
   go_wp2_with fail
   go_ret
   exact ⟨rfl,rfl⟩

set_option maxHeartbeats 1000000 in
set_option maxRecDepth 100000 in
theorem leastPlace_any {c:NC} {x:Nd} (w:World) (h:IsN w c x) :
  Calls Tryz.prog 64 #[.pointer (some ⟨c.p,0,none⟩)] w fun e w'=>e=.returned (.int .i64 (least0 x.sl:Nat))∧w'=w:=by
 have c5:=h.c5;obtain ⟨a,cp,hv⟩:=h.sl.shape;rw [hv] at c5;have hs:=h.sl;rw [hv] at hs;have hIx:=index_any x.sl a cp w hs (by have:=h.len;omega);have hle:=least0_le x.sl;obtain ⟨n,hn⟩:∃ y,y=x.sl.length:=⟨_,rfl⟩;obtain ⟨m,hm⟩:∃ y,y=least0 x.sl:=⟨_,rfl⟩;rw [←hn] at c5 hIx hle;rw [←hm] at hIx hle ⊢;clear h hv hs hn hm
 by_cases hlt:m < n
 ·rw [if_pos hlt] at hIx
  have i1:(0:Int)≤(m:Int):=by omega
  clear hle hlt
  go_enter Tryz.func64,Tryz.ntmps64
  go_wp2_with (first
   | (go_at_call 76;go_must (refine hIx.mono ?_;rintro e w1 ⟨rfl,rfl⟩))
   | fail)
  go_ret
  exact ⟨rfl,rfl⟩
 ·rw [if_neg hlt] at hIx
  obtain rfl:m=n:=by omega
  clear hle hlt
  go_enter Tryz.func64,Tryz.ntmps64
  go_wp2_with (first
   | (go_at_call 76;go_must (refine hIx.mono ?_;rintro e w1 ⟨rfl,rfl⟩))
   | fail)
  go_ret
  exact ⟨rfl,rfl⟩
end Go.Proofs.YtmgfilacepnjlaaGreatDoor
