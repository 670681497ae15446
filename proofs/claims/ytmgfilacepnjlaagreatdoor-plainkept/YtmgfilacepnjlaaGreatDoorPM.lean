/-
 package plain: how many nodes there are; Room; stat.
-/
import Derived.Test.YtmgfilacepnjlaaGreatDoorPE
namespace Go.Proofs.YtmgfilacepnjlaaGreatDoor
open Go.RowKit

def TalQ (x:Nd) (a b:Nat) (i:Nat):Prop:=TalP x i∨∃ k,a≤k∧k < b∧i∈numsOf k
open Classical in
noncomputable def cardQ (x:Nd) (a b:Nat):Nat:=cardT (fun i=>decide (TalQ x a b i))
open Classical in
theorem cardQ_of {x:Nd} {a b:Nat} {F:Nat→Bool} (h:∀ i,F i=true↔TalQ x a b i):cardT F=cardQ x a b:=by
 have:F=fun i=>decide (TalQ x a b i):=by
  funext i
  cases hf:F i with
  | true=>exact (decide_eq_true ((h i).1 hf)).symm
  | false=>exact (decide_eq_false (fun e=>by rw [(h i).2 e] at hf;cases hf)).symm
 unfold cardQ;rw [this]
theorem TalQ_succ (x:Nd) (a j i:Nat) (h:a≤j):TalQ x a (j + 1) i↔TalQ x a j i∨i∈numsOf j:=by
 unfold TalQ;rw [or_assoc];refine or_congr Iff.rfl ⟨?_,?_⟩
 ·rintro ⟨k,k1,k2,k3⟩
  by_cases e:k=j
  ·exact .inr (e ▸ k3)
  ·exact .inl ⟨k,k1,by omega,k3⟩
 ·rintro (⟨k,k1,k2,k3⟩ | k3)
  ·exact ⟨k,k1,by omega,k3⟩
  ·exact ⟨j,h,by omega,k3⟩
noncomputable def roomB (s:PSt) (x:Nd) (a b:Nat):Bool:=decide ((takenN s:Int) - (cardN x:Int) + (cardQ x a b:Int)≤s.data)

set_option maxHeartbeats 2000000 in
set_option maxRecDepth 100000 in
theorem hasRoom_any {q:PC} {s:PSt} {c:NC} {x:Nd} (a b:Nat) (w:World) (h:IsPl w q s) (hx:IsN w c x) (hab:a≤b + 1) (hb:b < 1068) :
  Calls Tryz.prog 65 #[.pointer (some ⟨q.p,0,none⟩),.pointer (some ⟨c.p,0,none⟩),.int .i64 (a:Int),.int .i64 (b:Int)] w fun e w'=>e=.returned (.bool (roomB s x a (b + 1)))∧Chg w w' No:=by
 have HP:=hid h;have HX:=hid hx;obtain ⟨Z,hZ⟩:∃ y,y=TZ:=⟨_,rfl⟩;have hz:=zero_tal;rw [←hZ] at hz;have HZ4:Hid (Z.size=1103):=hid (by rw [hZ];exact TZ_is.1);have hTl:=tally_any w hx;obtain ⟨rb,hrb⟩:∃ y,y=roomB s x a (b + 1):=⟨_,rfl⟩;have HRb:=hid hrb;rw [←hrb]
 have i1:(a:Int)≤1068:=by omega
 have i2:(b:Int)≤1068:=by omega
 clear h hx hZ hrb
 go_enter Tryz.func65,Tryz.ntmps65
 go_upto_region 2 with (first
  | (go_at_call 59;go_must (refine hTl.mono ?_;rintro e w1 ⟨⟨A,rfl,F,hA,hF⟩,hc1⟩;have HA:=hid hA;have HF:=hid hF;have HA1:=hid (TalA_one hA);have HAz:=hid hA.1;clear hA hF))
  | (refine store_R rfl 119 _ _ rfl w1.heap.size A rfl rfl 119 _ (heap_alloc_new _ _) (by rw [szT,HAz.out]) (by rw [HAz.out];exact HZ4.out) HA1.out ?_;intro w2 hw2)
  | fail)
 have h02:Chg w w2 No:=(hc1.tr (Chg.alloc w1 (.cells Z 119) No)).trans (kt_new hw2) (fun _ _ e=>e) (fun j hj e=>by have:=hc1.size;omega);obtain ⟨gt,hgt⟩:∃ y,y=w1.heap.size:=⟨_,rfl⟩;have HT2:Hid (TalAt w2 gt F):=hid ⟨A,by rw [hgt];exact hw2.here,HA.out⟩;have HGt:Hid (w.heap.size≤gt):=hid (by rw [hgt];exact hc1.size);have HC2:=hid h02;rw [←hgt];obtain ⟨k2,_⟩:=HT2.out.card;rw [cardN_of HF.out] at k2;have hcb:cardN x≤1102:=card_le _;obtain ⟨cn,hcn⟩:∃ z:Nat,z=cardN x:=⟨_,rfl⟩;have HCn:=hid hcn;rw [←hcn] at k2 hcb;clear hgt hw2 hc1 h02 hTl hcn
 have G0:Hid (∃ f,TalAt w2 gt f∧∀ i,f i=true↔TalQ x a a i):=hid ⟨F,HT2.out,fun i=>by
  rw [HF.out i]
  exact ⟨.inl,fun e=>e.resolve_right (fun ⟨k,k1,k2,_⟩=>by omega)⟩⟩
 clear HT2 HF HA HA1 HAz
 go_wp2_with fail
 go_loopw [11] (fun x11 wr=>∃ j:Nat,x11=.int .i64 (j:Int)∧a≤j∧j≤b + 1∧Hid (∃ f,TalAt wr gt f∧∀ i,f i=true↔TalQ x a j i)∧Hid (Chg w wr No)) (fun x11 _=>b + 1 - (intOf x11).toNat)
 case atStart=>exact ⟨a,rfl,Nat.le_refl _,hab,G0,HC2⟩
 case round =>
  obtain ⟨j,rfl,hj1,hj2,HT,HC⟩:=hrel;clear G0 HC2;obtain ⟨f,hT,hI⟩:=HT.out;have HTt:=hid hT;have HI:=hid hI;clear HT hT hI
  by_cases hlt:j≤b
  ·have j1:(j:Int)≤(b:Int):=by omega
   have j2:(j:Int)≤1068:=by omega
   have hAd:=add_any j wr HTt.out (by omega)
   go_wp2_with (first
    | (go_at_call 73;go_must (refine hAd.mono ?_;rintro e w4 ⟨rfl,h4,hc4⟩))
    | fail)
   refine ⟨⟨j + 1,by go_num,by omega,by omega,hid ⟨_,h4,fun i => ?_⟩,hid (HC.out.trans hc4 (fun _ _ e=>e) (fun k hk e=>by have:=HGt.out;omega))⟩,by simp [intOf];omega⟩;rw [addB_iff,HI.out i,TalQ_succ x a j i hj1]
  ·have j1 : ¬ (j:Int)≤(b:Int):=by omega
   obtain rfl:j=b + 1:=by omega
   have hq:=cardQ_of HI.out;have hqb:cardQ x a (b + 1)≤1102:=card_le _;obtain ⟨cq,hcq⟩:∃ z:Nat,z=cardQ x a (b + 1):=⟨_,rfl⟩;have htb:takenN s≤1102 * 513:=sumN_le s _ 513;obtain ⟨tn,htn⟩:∃ z:Nat,z=takenN s:=⟨_,rfl⟩;have HRv:Hid (rb=decide ((tn:Int) - (cn:Int) + (cq:Int)≤s.data)):=hid (by rw [HRb.out];unfold roomB;rw [←htn,←HCn.out,←hcq])
   have HQ:Hid (∀ W,Chg wr W No→W.cell? ⟨gt,1102,none⟩=some (.int .i64 (cq:Int))):=hid (fun W hW=>by
    have:=(HTt.out.keep hW (fun e=>e)).card.1;rw [hq,←hcq] at this
    exact this)
   have HQ0:Hid (∀ W,Chg wr W No→W.cell? ⟨q.p,0,none⟩=some (.int .i64 s.data)):=hid (fun W hW=>(HP.out.call (HC.out.tr hW)).c0);have HTk:Hid (∀ W,Chg wr W No→Calls Tryz.prog 36 #[.pointer (some ⟨q.p,0,none⟩)] W fun e w'=>e=.returned (.int .i64 (tn:Int))∧Chg W w' No):=hid (fun W hW=>by rw [htn];exact taken_any W (HP.out.call (HC.out.tr hW)));rw [←hcq] at hqb;rw [←htn] at htb;obtain ⟨dt,hdt⟩:∃ z,z=s.data:=⟨_,rfl⟩;rw [←hdt] at HRv HQ0
   have t1:(tn:Int)≤600000:=by omega
   have t2:(cn:Int)≤1102:=by omega
   have t3:(cq:Int)≤1102:=by omega
   have wv1:IntKind.i64.wrap ((tn:Int) - (cn:Int))=(tn:Int) - (cn:Int):=by rw [IntKind.wrap_i64];omega
   have wv2:IntKind.i64.wrap ((tn:Int) - (cn:Int) + (cq:Int))=(tn:Int) - (cn:Int) + (cq:Int):=by rw [IntKind.wrap_i64];omega
   clear hq hcq htn hdt hqb htb hcb HTt HI HRb HCn k2
   go_upto_region 7 with fail
   refine wp_region_noPanic ?_;refine wp_region_held_drew (S:=fun w'=>Chg wr w' No) (by kernel_rfl) (Chg.refl _ _).drew (fun hH => ?_);refine tV 0 24 (.pointer (some ⟨q.p,0,none⟩)) rfl (by kernel_rfl) rfl (by rfl) hH (fun W' hw'=>rfl) ?_;simp only [sS];refine tV 2 26 (.int .i64 (cn:Int)) rfl (by kernel_rfl) rfl (by rfl) hH (fun W' hw'=>rfl) ?_;simp only [sS];refine tV 4 28 (.pointer (some ⟨gt,1102,none⟩)) rfl (by kernel_rfl) rfl (by rfl) hH (fun W' hw'=>by go_simp) ?_;simp only [sS];refine tV 5 29 (.int .i64 (cq:Int)) rfl (by kernel_rfl) rfl (by rfl) hH (fun W' hw'=>by have hc:=HQ.out W' hw';go_simp) ?_;simp only [sS];refine tV 7 31 (.pointer (some ⟨q.p,0,none⟩)) rfl (by kernel_rfl) rfl (by rfl) hH (fun W' hw'=>rfl) ?_;simp only [sS];refine tV 8 32 (.pointer (some ⟨q.p,0,none⟩)) rfl (by kernel_rfl) rfl (by rfl) hH (fun W' hw'=>by go_simp) ?_;simp only [sS];refine tV 9 33 (.pointer (some ⟨q.p,0,none⟩)) rfl (by kernel_rfl) rfl (by rfl) hH (fun W' hw'=>by go_simp) ?_;simp only [sS];refine tV 10 34 (.int .i64 dt) rfl (by kernel_rfl) rfl (by rfl) hH (fun W' hw'=>by have hc:=HQ0.out W' hw';go_simp) ?_;simp only [sS];refine step1 1 (by kernel_rfl) ?_;refine stCall 1 25 36 #[.pointer (some ⟨q.p,0,none⟩)] _ rfl rfl (by rfl) (by go_simp) (HTk.out _ hH) ?_
   rintro e w5 ⟨rfl,hc5⟩
   have hH5:Chg wr w5 No:=hH.tr hc5;refine ⟨_,rfl,hH5,?_⟩;simp only [sS]
   refine tV 3 27 (.int .i64 ((tn:Int) - (cn:Int))) rfl (by kernel_rfl) rfl (by rfl) hH5 (fun W' hw'=>by go_simp <;> exact wv1) ?_
   simp only [sS]
   refine tV 6 30 (.int .i64 ((tn:Int) - (cn:Int) + (cq:Int))) rfl (by kernel_rfl) rfl (by rfl) hH5 (fun W' hw'=>by go_simp <;> exact wv2) ?_
   simp only [sS];refine tV 11 35 (.bool (decide ((tn:Int) - (cn:Int) + (cq:Int)≤dt))) rfl (by kernel_rfl) rfl (by rfl) hH5 (fun W' hw'=>by go_simp) ?_;simp only [sS];refine tV 12 8 (.bool (decide ((tn:Int) - (cn:Int) + (cq:Int)≤dt))) rfl (by kernel_rfl) rfl (by rfl) hH5 (fun W' hw'=>rfl) ?_;simp only [sS];refine wpAnyH_done (by kernel_rfl) ?_ _;refine NoPanic.normal ?_;have HFin:Hid (Chg w w5 No):=hid (HC.out.tr hH5);have e:=HRv.out;subst e;clear hH hc5 hH5
   go_wp2_with fail
   go_ret
   exact ⟨rfl,HFin.out⟩
end Go.Proofs.YtmgfilacepnjlaaGreatDoor

namespace Go.Proofs.YtmgfilacepnjlaaGreatDoor
open Go.RowKit

noncomputable def placeL (s:PSt) (x:Nd):Int × Int :=
 if least0 x.sl=1068 then (0,112) else if roomB s x (least0 x.sl) (least0 x.sl + 1)=true then ((least0 x.sl:Nat),0) else (0,80)

set_option maxHeartbeats 1000000 in
set_option maxRecDepth 100000 in
theorem place_any {q:PC} {s:PSt} {c:NC} {x:Nd} (w:World) (h:IsPl w q s) (hx:IsN w c x) :
  Calls Tryz.prog 44 #[.pointer (some ⟨q.p,0,none⟩),.pointer (some ⟨c.p,0,none⟩)] w fun e w'=>e=.returned (.tuple #[.int .i64 (placeL s x).1,.int .i64 (placeL s x).2])∧Chg w w' No:=by
 have hL:=leastPlace_any w hx;have hle:=least0_le x.sl;have hlen:=hx.len
 have hR:least0 x.sl < 1068→Calls Tryz.prog 65 #[.pointer (some ⟨q.p,0,none⟩),.pointer (some ⟨c.p,0,none⟩),.int .i64 (least0 x.sl:Nat),.int .i64 (least0 x.sl:Nat)] w fun e w'=>e=.returned (.bool (roomB s x (least0 x.sl) (least0 x.sl + 1)))∧Chg w w' No:=fun hm=>hasRoom_any _ _ w h hx (by omega) hm
 obtain ⟨R,hRR⟩:∃ y,y=placeL s x:=⟨_,rfl⟩;rw [←hRR];unfold placeL at hRR;obtain ⟨m,hm⟩:∃ y,y=least0 x.sl:=⟨_,rfl⟩;rw [←hm] at hL hR hle hRR;obtain ⟨rb,hrb⟩:∃ y,y=roomB s x m (m + 1):=⟨_,rfl⟩;rw [←hrb] at hR hRR
 by_cases h8:m=1068
 ·rw [if_pos h8] at hRR
  subst hRR h8;clear h hx hle hlen hR hm hrb
  go_enter Tryz.func44,Tryz.ntmps44
  go_wp2_with (first
   | (go_at_call 64;go_must (refine hL.mono ?_;rintro e w1 ⟨rfl,rfl⟩))
   | fail)
  go_ret2
  exact ⟨rfl,Chg.refl _ _⟩
 ·rw [if_neg h8] at hRR
  have hR:=hR (by omega);have b1:((m:Int) == 1068)=false:=beq_eq_false_iff_ne.2 (by omega);have b2:decide ((m:Int)=1068)=false:=decide_eq_false (by omega)
  have b3 : ¬ ((m:Int)=1068):=by omega
  clear h hx hle hlen hm hrb h8
  cases rb with
  | false =>
   have hRR:R=(0,80):=hRR;subst hRR
   go_enter Tryz.func44,Tryz.ntmps44
   go_wp2_with (first
    | (go_at_call 64;go_must (refine hL.mono ?_;rintro e w1 ⟨rfl,rfl⟩))
    | (go_at_call 65;go_must (refine hR.mono ?_;rintro e w2 ⟨rfl,hc2⟩))
    | fail)
   go_ret2
   exact ⟨rfl,hc2⟩
  | true =>
   have hRR:R=((m:Int),0):=hRR;subst hRR
   go_enter Tryz.func44,Tryz.ntmps44
   go_wp2_with (first
    | (go_at_call 64;go_must (refine hL.mono ?_;rintro e w1 ⟨rfl,rfl⟩))
    | (go_at_call 65;go_must (refine hR.mono ?_;rintro e w2 ⟨rfl,hc2⟩))
    | fail)
   go_ret2
   exact ⟨rfl,hc2⟩

def freeFrom (s:PSt):Nat→Nat→Nat
 | 0,i=>i
 | n + 1,i=>if (s.nd (i:Int)).isSome then freeFrom s n (i + 1) else i
def freeI (s:PSt):Nat:=freeFrom s 512 1

set_option maxHeartbeats 2000000 in
set_option maxRecDepth 100000 in
theorem freeInode_any {q:PC} {s:PSt} (w:World) (h:IsPl w q s) :
  Calls Tryz.prog 45 #[.pointer (some ⟨q.p,0,none⟩)] w fun e w'=>e=.returned (.int .i64 (freeI s:Nat))∧w'=w:=by
 have HP:=hid h;have c2:=h.c2;obtain ⟨fm,hfm⟩:∃ y,y=(fun i=>(q.nc i).map ptrN):=⟨_,rfl⟩;have HM:Hid (MapV w q.mb fm):=hid (by rw [hfm];exact h.mp);have HFm:=hid hfm;obtain ⟨R,hR⟩:∃ y:Nat,y=freeI s:=⟨_,rfl⟩;have HR:Hid (R=freeFrom s 512 1):=hid hR;rw [←hR];clear h hfm hR
 go_enter Tryz.func45,Tryz.ntmps45
 go_wp2_with fail
 go_loopw [3] (fun x3 wr=>∃ j:Nat,x3=.int .i64 (j:Int)∧1≤j∧j≤513∧wr=w∧Hid (R=freeFrom s (513 - j) j)) (fun x3 _=>513 - (intOf x3).toNat)
 case atStart=>exact ⟨1,rfl,by omega,by omega,rfl,HR⟩
 case round =>
  obtain ⟨j,rfl,hj1,hj2,rfl,HX⟩:=hrel;clear HR;have hI:I64 (j:Int):=⟨by omega,by omega⟩
  have i1:(j:Int)≤513:=by omega
  cases hq:q.nc (j:Int) with
  | none =>
   have HFi:Hid ((match fm (j:Int) with | some v=>v | none=>Value.pointer none)=.pointer none):=hid (by rw [HFm.out];simp only [hq,Option.map_none])
   have e:R=j:=by
    rw [HX.out]
    cases hn:513 - j with
    | zero=>rfl
    | succ n =>
     unfold freeFrom;rw [HP.out.dom _ hq]
     rfl
   subst e;clear HX hq
   go_wp2_with (first
    | (at_lookup;go_must (refine wp_lookVN rfl _ _ rfl q.mb fm (R:Int) _ HFi.out rfl rfl HM.out hI ?_))
    | fail)
   go_ret
   exact ⟨rfl,rfl⟩
  | some c =>
   have HFi:Hid ((match fm (j:Int) with | some v=>v | none=>Value.pointer none)=.pointer (some ⟨c.p,0,none⟩)):=hid (by rw [HFm.out];simp only [hq,Option.map_some];rfl);have hrg:=HP.out.rng (j:Int) (by rw [hq];intro e;cases e)
   have HNx:Hid (R=freeFrom s (513 - (j + 1)) (j + 1)):=hid (by
    rw [HX.out,show 513 - j=(513 - (j + 1)) + 1 by omega];obtain ⟨x,hx,_⟩:=HP.out.nd _ c hq
    conv=>lhs;unfold freeFrom
    rw [hx]
    rfl)
   have j2:j≤512:=by omega
   clear HX hq hrg
   go_wp2_with (first
    | (at_lookup;go_must (refine wp_lookVN rfl _ _ rfl q.mb fm (j:Int) _ HFi.out rfl rfl HM.out hI ?_))
    | fail)
   exact ⟨⟨j + 1,by go_num,by omega,by omega,by trivial,HNx⟩,by simp [intOf];omega⟩

set_option maxHeartbeats 1000000 in
set_option maxRecDepth 100000 in
theorem spotfind_any {c:NC} {x:Nd} (s:ByteArray) (w:World) (h:IsN w c x) (hs:s.size≤1000) (hr:∀ k,x.nm s=some k→0≤k∧k < x.sl.length) :
  Calls Tryz.prog 43 #[.agg #[.pointer (some ⟨c.p,0,none⟩),.string s]] w fun e w'=>e=.returned (.tuple #[.int .i64 ((findN x s).getD 0),.bool (findN x s).isSome])∧Chg w w' No:=by
 obtain ⟨w1,hw1⟩:∃ y,y=w.alloc (.cells #[.pointer (some ⟨c.p,0,none⟩),.string s] 95):=⟨_,rfl⟩
 have hc:Chg w w1 No:=by rw [hw1];exact Chg.alloc _ _ No
 have hF:=find_any s w1 (h.call hc) hs hr
 have q0:w1.cell? ⟨w.heap.size,0,none⟩=some (.pointer (some ⟨c.p,0,none⟩)):=by rw [hw1];exact (cell_of_row _ _ _ _ _ _ (heap_alloc_new w (.cells #[.pointer (some ⟨c.p,0,none⟩),.string s] 95))).trans rfl
 have q1:w1.cell? ⟨w.heap.size,1,none⟩=some (.string s):=by rw [hw1];exact (cell_of_row _ _ _ _ _ _ (heap_alloc_new w (.cells #[.pointer (some ⟨c.p,0,none⟩),.string s] 95))).trans rfl
 have HC:=hid hc;rw [hw1] at hF q0 q1 HC;obtain ⟨fo,hfo⟩:∃ y,y=findN x s:=⟨_,rfl⟩;rw [←hfo] at hF ⊢;clear h hw1 hc hr hfo
 go_enter Tryz.func43,Tryz.ntmps43
 go_wp2_with (first
  | (go_at_call 54;go_must (refine hF.mono ?_;rintro e w2 ⟨rfl,rfl⟩))
  | fail)
 go_ret2
 exact ⟨rfl,HC.out⟩
end Go.Proofs.YtmgfilacepnjlaaGreatDoor

namespace Go.Proofs.YtmgfilacepnjlaaGreatDoor
open Go.RowKit

def nodesN (s:PSt):Nat:=((List.range 513).filter fun i:Nat=>(s.nd (i:Int)).isSome).length
section
variable {w:World} {q:PC} {s:PSt}
theorem IsPl.some_iff (h:IsPl w q s) (i:Int):((q.nc i).map ptrN).isSome=(s.nd i).isSome:=by
 cases hq:q.nc i with
 | none=>rw [h.dom i hq];rfl
 | some c =>
  obtain ⟨x,hx,_⟩:=h.nd i c hq;rw [hx]
  rfl
theorem IsPl.rg (h:IsPl w q s) {i:Int} (hi:(s.nd i).isSome=true):1≤i∧i≤512:=h.rng i (fun e=>by rw [h.dom i e] at hi;cases hi)
theorem nodup_filter (p:Nat→Bool):∀ n:Nat,(((List.range n).filter p).map (fun i:Nat=>(i:Int))).Pairwise (· ≠ ·):=fun n=>by
 rw [List.pairwise_map];refine List.Pairwise.filter _ ?_
 exact (List.nodup_range (n:=n)).imp (fun hne e=>hne (by omega))
theorem IsPl.len (h:IsPl w q s) (ty:TypeId):(Builtin.len_ #[80] ty #[.map (some q.mb)]).run Tryz.prog w=.ok (.int .i64 (nodesN s:Nat)) w:=by
 obtain ⟨D,ho,hh,_⟩:=h.mp;rw [ho.len Tryz.underlying80 ty];obtain ⟨l,hp,hl,hm,_⟩:=keys_ofV ho
 have e:Maps.size D=nodesN s:=by
  rw [←hl]
  have hs:∀ x,x∈l↔(s.nd x).isSome=true:=fun x=>by rw [hm x,hh x,h.some_iff x]
  have k1:=nodup_len l (((List.range 513).filter fun i:Nat=>(s.nd (i:Int)).isSome).map (fun i:Nat=>(i:Int))) hp (fun x hx=>by
   have hx:=(hs x).1 hx;have hr:=h.rg hx;refine List.mem_map.2 ⟨x.toNat,List.mem_filter.2 ⟨List.mem_range.2 (by omega),?_⟩,by omega⟩;rw [show ((x.toNat:Nat):Int)=x by omega]
   exact hx)
  have k2:=nodup_len (((List.range 513).filter fun i:Nat=>(s.nd (i:Int)).isSome).map (fun i:Nat=>(i:Int))) l (nodup_filter _ 513) (fun x hx=>by
   obtain ⟨i,hi,rfl⟩:=List.mem_map.1 hx
   exact (hs _).2 (List.mem_filter.1 hi).2)
  rw [List.length_map] at k1 k2;unfold nodesN
  omega
 rw [e]
theorem len_runN {o:Oper} {a:Act} (x:Operand) (hop:o.op=Op.call { callee:=Callee.builtin Builtin.len,args:=#[x],argTypes:=#[80] }) (hm:a.eval x=.map (some q.mb)) (h:IsPl w q s):(execOp a.eval o).run Tryz.prog w=.ok (.value (.int .i64 (nodesN s:Nat))) w:=by
 have e:=h.len o.type
 simp [execOp,hop,resolve,invoke,builtin,hm,e,Result.andThen]
end
theorem field_run {o:Oper} {a:Act} (x:Operand) (hop:o.op=Op.field 119 x 1) (A:Array Value) (n:Int) (hx:a.eval x=.agg A) (h:∀ W,(Instr.field 119 (.agg A) 1).run Tryz.prog W=.ok (.int .i64 n) W) (W:World):(execOp a.eval o).run Tryz.prog W=.ok (.value (.int .i64 n)) W:=by
 simp [execOp,hop,hx,h,Result.andThen]
theorem szRm:(Tryz.prog.info? 50).map (·.size)=some 3:=by kernel_rfl
theorem szSt:(Tryz.prog.info? 40).map (·.size)=some 6:=by kernel_rfl
theorem nodes_le (s:PSt):nodesN s≤513:=by
 unfold nodesN;refine Nat.le_trans (List.length_filter_le _ _) ?_;rw [List.length_range]
 exact Nat.le_refl _
structure NumP (s:PSt):Prop where
 d0:0≤s.data
 d1:s.data≤5000
 i0:0≤s.ino
 i1:s.ino≤5000

set_option maxHeartbeats 2000000 in
set_option maxRecDepth 100000 in
theorem room_any {q:PC} {s:PSt} (w:World) (h:IsPl w q s) (hn:NumP s) :
  Calls Tryz.prog 13 #[.pointer (some ⟨q.p,0,none⟩)] w fun e w'=>e=.returned (.agg #[.int .i64 (s.data - (takenN s:Nat)),.int .i64 0,.int .i64 (s.ino - (nodesN s:Nat))])∧Chg w w' No:=by
 have HP:=hid h;have htb:takenN s≤1102 * 513:=sumN_le s _ 513;have hnb:=nodes_le s;have n1:=hn.d0;have n2:=hn.d1;have n3:=hn.i0;have n4:=hn.i1;have HLen:Hid (∀ (W:World),Chg w W No→∀ (o:Oper) (a:Act) (x:Operand),o.op=Op.call { callee:=Callee.builtin Builtin.len,args:=#[x],argTypes:=#[80] }→a.eval x=.map (some q.mb)→(execOp a.eval o).run Tryz.prog W=.ok (.value (.int .i64 (nodesN s:Nat))) W):=hid (fun W hW o a x hop hm=>len_runN x hop hm (h.call hW));have HTk:Hid (∀ W,Chg w W No→Calls Tryz.prog 36 #[.pointer (some ⟨q.p,0,none⟩)] W fun e w'=>e=.returned (.int .i64 (takenN s:Nat))∧Chg W w' No):=hid (fun W hW=>taken_any W (h.call hW));have HQ0:Hid (∀ W,Chg w W No→W.cell? ⟨q.p,0,none⟩=some (.int .i64 s.data)):=hid (fun W hW=>(h.call hW).c0);have HQ1:Hid (∀ W,Chg w W No→W.cell? ⟨q.p,1,none⟩=some (.int .i64 s.ino)):=hid (fun W hW=>(h.call hW).c1);have HQ2:Hid (∀ W,Chg w W No→W.cell? ⟨q.p,2,none⟩=some (.map (some q.mb))):=hid (fun W hW=>(h.call hW).c2);obtain ⟨tn,htn⟩:∃ z,z=takenN s:=⟨_,rfl⟩;obtain ⟨nn,hnn⟩:∃ z,z=nodesN s:=⟨_,rfl⟩;obtain ⟨dt,hdt⟩:∃ z,z=s.data:=⟨_,rfl⟩;obtain ⟨im,him⟩:∃ z,z=s.ino:=⟨_,rfl⟩;rw [←htn] at HTk htb;rw [←hnn] at HLen hnb;rw [←hdt] at HQ0 n1 n2;rw [←him] at HQ1 n3 n4;rw [←htn,←hnn,←hdt,←him]
 have wv1:IntKind.i64.wrap (dt - (tn:Int))=dt - (tn:Int):=by rw [IntKind.wrap_i64];omega
 have wv2:IntKind.i64.wrap (im - (nn:Int))=im - (nn:Int):=by rw [IntKind.wrap_i64];omega
 clear h hn htn hnn hdt him htb hnb n1 n2 n3 n4
 go_enter Tryz.func13,Tryz.ntmps13
 go_upto_region 1 with fail
 refine wp_region_noPanic ?_;refine wp_region_held_drew (S:=fun w'=>Chg w w' No) (by kernel_rfl) (Chg.alloc w _ No).drew (fun hH => ?_);have hQ:=heap_alloc_new w (.cells #[.int .i64 0,.int .i64 0,.int .i64 0] 50 (0,0));refine tV 0 3 (.pointer (some ⟨q.p,0,none⟩)) rfl (by kernel_rfl) rfl (by rfl) hH (fun W' hw'=>rfl) ?_;simp only [sS];refine tV 4 7 (.pointer (some ⟨q.p,0,none⟩)) rfl (by kernel_rfl) rfl (by rfl) hH (fun W' hw'=>rfl) ?_;simp only [sS];refine tV 7 10 (.pointer (some ⟨q.p,0,none⟩)) rfl (by kernel_rfl) rfl (by rfl) hH (fun W' hw'=>rfl) ?_;simp only [sS];refine tV 11 14 (.pointer (some ⟨q.p,0,none⟩)) rfl (by kernel_rfl) rfl (by rfl) hH (fun W' hw'=>rfl) ?_;simp only [sS];refine tV 1 4 (.pointer (some ⟨q.p,0,none⟩)) rfl (by kernel_rfl) rfl (by rfl) hH (fun W' hw'=>by go_simp) ?_;simp only [sS];refine tV 8 11 (.pointer (some ⟨q.p,0,none⟩)) rfl (by kernel_rfl) rfl (by rfl) hH (fun W' hw'=>by go_simp) ?_;simp only [sS];refine tV 12 15 (.pointer (some ⟨q.p,0,none⟩)) rfl (by kernel_rfl) rfl (by rfl) hH (fun W' hw'=>by go_simp) ?_;simp only [sS];refine tV 2 5 (.pointer (some ⟨q.p,0,none⟩)) rfl (by kernel_rfl) rfl (by rfl) hH (fun W' hw'=>by go_simp) ?_;simp only [sS];refine tV 9 12 (.pointer (some ⟨q.p,1,none⟩)) rfl (by kernel_rfl) rfl (by rfl) hH (fun W' hw'=>by go_simp) ?_;simp only [sS];refine tV 13 16 (.pointer (some ⟨q.p,2,none⟩)) rfl (by kernel_rfl) rfl (by rfl) hH (fun W' hw'=>by go_simp) ?_;simp only [sS];refine tV 3 6 (.int .i64 dt) rfl (by kernel_rfl) rfl (by rfl) hH (fun W' hw'=>by have hc:=HQ0.out W' hw';go_simp) ?_;simp only [sS];refine tV 10 13 (.int .i64 im) rfl (by kernel_rfl) rfl (by rfl) hH (fun W' hw'=>by have hc:=HQ1.out W' hw';go_simp) ?_;simp only [sS];refine tV 14 17 (.map (some q.mb)) rfl (by kernel_rfl) rfl (by rfl) hH (fun W' hw'=>by have hc:=HQ2.out W' hw';go_simp) ?_;simp only [sS];refine step1 5 (by kernel_rfl) ?_;refine stCall 5 8 36 #[.pointer (some ⟨q.p,0,none⟩)] _ rfl rfl (by rfl) (by go_simp) (HTk.out _ hH) ?_
 rintro e w5 ⟨rfl,hc5⟩
 have hQ5:w5.heap[w.heap.size]? = some (.cells #[.int .i64 0,.int .i64 0,.int .i64 0] 50 (0,0)):=hc5.keep hQ (fun e=>e);have hH5:Chg w w5 No:=hH.tr hc5;refine ⟨_,rfl,hH5,?_⟩;simp only [sS]
 refine tV 6 9 (.int .i64 (dt - (tn:Int))) rfl (by kernel_rfl) rfl (by rfl) hH5 (fun W' hw'=>by go_simp <;> exact wv1) ?_
 simp only [sS];refine tV 15 18 (.int .i64 (nn:Nat)) rfl (by kernel_rfl) rfl (by rfl) hH5 (fun W' hw'=>HLen.out W' hw' _ _ (.tmp 17) rfl rfl) ?_;simp only [sS]
 refine tV 16 19 (.int .i64 (im - (nn:Int))) rfl (by kernel_rfl) rfl (by rfl) hH5 (fun W' hw'=>by go_simp <;> exact wv2) ?_
 simp only [sS];refine tV 17 20 (.agg #[.int .i64 (dt - (tn:Int)),.int .i64 0,.int .i64 (im - (nn:Int))]) rfl (by kernel_rfl) rfl (by rfl) hH5 (fun W' hw'=>by go_simp) ?_;simp only [sS];refine step1 18 (by kernel_rfl) ?_;refine stStoreR 18 50 (.tmp 2) (.tmp 20) w.heap.size #[.int .i64 (dt - (tn:Int)),.int .i64 0,.int .i64 (im - (nn:Int))] 50 #[.int .i64 0,.int .i64 0,.int .i64 0] rfl rfl (by rfl) rfl rfl rfl hQ5 (by rw [szRm];rfl) rfl (by simp [Value.oneCell']) ?_
 intro wc hwc
 have hFin:Chg w wc No:=hH5.trans (kt_new hwc) (fun _ _ e=>e) (fun j hj e=>by omega);refine ⟨hFin,?_⟩;refine wpAnyH_done (by kernel_rfl) ?_ _;refine NoPanic.normal ?_;have HFin:=hid (And.intro hFin hwc.here);clear hH hH5 hQ hQ5 hc5 hwc hFin
 go_wp2_with fail
 exact bodyPost_ret (v:=.agg #[.int .i64 (dt - (tn:Int)),.int .i64 0,.int .i64 (im - (nn:Int))]) (results_R1 Tryz.results13 _ _ w.heap.size _ 50 _ Tryz.underlying50 rfl (by rw [szRm];rfl) rfl HFin.out.2) rfl ⟨rfl,HFin.out.1⟩

noncomputable def statA (i:Int) (x:Nd):Array Value:=#[.int .i64 i,.int .i64 x.kind,.int .i64 x.links,.int .i64 (lenN x),.int .i64 x.made,.int .i64 (cardN x:Nat)]

set_option maxHeartbeats 2000000 in
set_option maxRecDepth 100000 in
theorem stat_any {q:PC} {s:PSt} {c:NC} {x:Nd} (i:Int) (w:World) (h:IsPl w q s) (hqc:q.nc i=some c) (hsx:s.nd i=some x) :
  Calls Tryz.prog 47 #[.pointer (some ⟨q.p,0,none⟩),.int .i64 i] w fun e w'=>e=.returned (.agg (statA i x))∧Chg w w' No:=by
 have hN:IsN w c x:=by
  obtain ⟨x',h1,h2⟩:=h.nd i c hqc;rw [hsx] at h1
  cases h1
  exact h2
 have hrg:=h.rng i (by rw [hqc];intro e;cases e);have hI:I64 i:=⟨by omega,by omega⟩;obtain ⟨fm,hfm⟩:∃ y,y=(fun i=>(q.nc i).map ptrN):=⟨_,rfl⟩;have HFi:Hid ((match fm i with | some v=>v | none=>Value.pointer none)=.pointer (some ⟨c.p,0,none⟩)):=hid (by rw [hfm];simp only [hqc,Option.map_some];rfl);obtain ⟨w1,hw1⟩:∃ y,y=w.alloc (.cells #[.int .i64 0,.int .i64 0,.int .i64 0,.int .i64 0,.int .i64 0,.int .i64 0] 40):=⟨_,rfl⟩
 have hc1:Chg w w1 No:=by rw [hw1];exact Chg.alloc w _ No
 have HM:Hid (MapV w1 q.mb fm):=hid (by rw [hfm];exact (h.call hc1).mp);have c2:=(h.call hc1).c2
 have HTl:Hid (∀ W,Chg w W No→Calls Tryz.prog 59 #[.pointer (some ⟨c.p,0,none⟩)] W fun e w'=>(∃ A,e=.returned (.agg A)∧∀ W,(Instr.field 119 (.agg A) 1).run Tryz.prog W=.ok (.int .i64 (cardN x:Nat)) W)∧Chg W w' No):=hid (fun W hW=>by
  refine (tally_any W (hN.call hW)).mono ?_
  rintro e w' ⟨⟨A,rfl,F,hA,hF⟩,hc⟩
  refine ⟨⟨A,rfl,fun W => ?_⟩,hc⟩
  rw [field_tal hA,cardN_of hF])
 have HLn:Hid (∀ W,Chg w W No→Calls Tryz.prog 67 #[.pointer (some ⟨c.p,0,none⟩)] W fun e w'=>e=.returned (.int .i64 (lenN x))∧w'=W):=hid (fun W hW=>length_any W (hN.call hW));have HQ0:Hid (∀ W,Chg w W No→W.cell? ⟨c.p,0,none⟩=some (.int .i64 x.kind)):=hid (fun W hW=>(hN.call hW).c0);have HQ1:Hid (∀ W,Chg w W No→W.cell? ⟨c.p,1,none⟩=some (.int .i64 x.links)):=hid (fun W hW=>(hN.call hW).c1);have HQ2:Hid (∀ W,Chg w W No→W.cell? ⟨c.p,2,none⟩=some (.int .i64 x.made)):=hid (fun W hW=>(hN.call hW).c2);unfold statA;obtain ⟨vk,hvk⟩:∃ z,z=x.kind:=⟨_,rfl⟩;obtain ⟨vl,hvl⟩:∃ z,z=x.links:=⟨_,rfl⟩;obtain ⟨vm,hvm⟩:∃ z,z=x.made:=⟨_,rfl⟩;obtain ⟨vn,hvn⟩:∃ z,z=lenN x:=⟨_,rfl⟩;obtain ⟨vc,hvc⟩:∃ z,z=cardN x:=⟨_,rfl⟩;rw [←hvk] at HQ0;rw [←hvl] at HQ1;rw [←hvm] at HQ2;rw [←hvn] at HLn;rw [←hvc] at HTl;rw [←hvk,←hvl,←hvm,←hvn,←hvc]
 have hQ:w1.heap[w.heap.size]? = some (.cells #[.int .i64 0,.int .i64 0,.int .i64 0,.int .i64 0,.int .i64 0,.int .i64 0] 40 (0,0)):=by rw [hw1];exact heap_alloc_new w _
 have HQs:=hid hQ;have HC1:=hid hc1;clear h hqc hsx hN hrg hfm hvk hvl hvm hvn hvc hQ hc1
 go_enter Tryz.func47,Tryz.ntmps47
 rw [hw1] at HM c2 HQs HC1;clear hw1
 go_upto_region 2 with (first
  | (at_lookup;go_must (refine wp_lookVN rfl _ _ rfl q.mb fm i _ HFi.out rfl rfl HM.out hI ?_))
  | fail)
 refine wp_region_noPanic ?_;refine wp_region_held_drew (S:=fun w'=>Chg w w' No) (by kernel_rfl) HC1.out.drew (fun hH => ?_);have hQ:=HQs.out;refine tV 0 12 (.int .i64 i) rfl (by kernel_rfl) rfl (by rfl) hH (fun W' hw'=>rfl) ?_;simp only [sS];refine tV 1 13 (.pointer (some ⟨c.p,0,none⟩)) rfl (by kernel_rfl) rfl (by rfl) hH (fun W' hw'=>rfl) ?_;simp only [sS];refine tV 5 17 (.pointer (some ⟨c.p,0,none⟩)) rfl (by kernel_rfl) rfl (by rfl) hH (fun W' hw'=>rfl) ?_;simp only [sS];refine tV 9 21 (.pointer (some ⟨c.p,0,none⟩)) rfl (by kernel_rfl) rfl (by rfl) hH (fun W' hw'=>rfl) ?_;simp only [sS];refine tV 11 23 (.pointer (some ⟨c.p,0,none⟩)) rfl (by kernel_rfl) rfl (by rfl) hH (fun W' hw'=>rfl) ?_;simp only [sS];refine tV 15 27 (.pointer (some ⟨c.p,0,none⟩)) rfl (by kernel_rfl) rfl (by rfl) hH (fun W' hw'=>rfl) ?_;simp only [sS];refine tV 2 14 (.pointer (some ⟨c.p,0,none⟩)) rfl (by kernel_rfl) rfl (by rfl) hH (fun W' hw'=>by go_simp) ?_;simp only [sS];refine tV 6 18 (.pointer (some ⟨c.p,0,none⟩)) rfl (by kernel_rfl) rfl (by rfl) hH (fun W' hw'=>by go_simp) ?_;simp only [sS];refine tV 12 24 (.pointer (some ⟨c.p,0,none⟩)) rfl (by kernel_rfl) rfl (by rfl) hH (fun W' hw'=>by go_simp) ?_;simp only [sS];refine tV 3 15 (.pointer (some ⟨c.p,0,none⟩)) rfl (by kernel_rfl) rfl (by rfl) hH (fun W' hw'=>by go_simp) ?_;simp only [sS];refine tV 7 19 (.pointer (some ⟨c.p,1,none⟩)) rfl (by kernel_rfl) rfl (by rfl) hH (fun W' hw'=>by go_simp) ?_;simp only [sS];refine tV 13 25 (.pointer (some ⟨c.p,2,none⟩)) rfl (by kernel_rfl) rfl (by rfl) hH (fun W' hw'=>by go_simp) ?_;simp only [sS];refine tV 4 16 (.int .i64 vk) rfl (by kernel_rfl) rfl (by rfl) hH (fun W' hw'=>by have hc:=HQ0.out W' hw';go_simp) ?_;simp only [sS];refine tV 8 20 (.int .i64 vl) rfl (by kernel_rfl) rfl (by rfl) hH (fun W' hw'=>by have hc:=HQ1.out W' hw';go_simp) ?_;simp only [sS];refine tV 14 26 (.int .i64 vm) rfl (by kernel_rfl) rfl (by rfl) hH (fun W' hw'=>by have hc:=HQ2.out W' hw';go_simp) ?_;simp only [sS];refine step1 10 (by kernel_rfl) ?_;refine stCall 10 22 67 #[.pointer (some ⟨c.p,0,none⟩)] _ rfl rfl (by rfl) (by go_simp) (HLn.out _ hH) ?_
 rintro e w5 ⟨rfl,rfl⟩
 refine ⟨_,rfl,hH,?_⟩;simp only [sS];refine step1 16 (by kernel_rfl) ?_;refine stCall 16 28 59 #[.pointer (some ⟨c.p,0,none⟩)] _ rfl rfl (by rfl) (by go_simp) (HTl.out _ hH) ?_
 rintro e w6 ⟨⟨A,rfl,hA⟩,hc6⟩
 have hQ6:w6.heap[w.heap.size]? = some (.cells #[.int .i64 0,.int .i64 0,.int .i64 0,.int .i64 0,.int .i64 0,.int .i64 0] 40 (0,0)):=hc6.keep hQ (fun e=>e);have hH6:Chg w w6 No:=hH.tr hc6;refine ⟨_,rfl,hH6,?_⟩;simp only [sS];refine tV 17 29 (.int .i64 (vc:Nat)) rfl (by kernel_rfl) rfl (by rfl) hH6 (fun W' hw'=>field_run (.tmp 28) rfl A _ rfl hA _) ?_;simp only [sS];refine tV 18 30 (.agg #[.int .i64 i,.int .i64 vk,.int .i64 vl,.int .i64 vn,.int .i64 vm,.int .i64 (vc:Nat)]) rfl (by kernel_rfl) rfl (by rfl) hH6 (fun W' hw'=>by go_simp) ?_;simp only [sS];refine step1 19 (by kernel_rfl) ?_;refine stStoreR 19 40 (.tmp 4) (.tmp 30) w.heap.size #[.int .i64 i,.int .i64 vk,.int .i64 vl,.int .i64 vn,.int .i64 vm,.int .i64 (vc:Nat)] 40 #[.int .i64 0,.int .i64 0,.int .i64 0,.int .i64 0,.int .i64 0,.int .i64 0] rfl rfl (by rfl) rfl rfl rfl hQ6 (by rw [szSt];rfl) rfl (by simp [Value.oneCell']) ?_
 intro wc hwc
 have hFin:Chg w wc No:=hH6.trans (kt_new hwc) (fun _ _ e=>e) (fun j hj e=>by omega);refine ⟨hFin,?_⟩;refine wpAnyH_done (by kernel_rfl) ?_ _;refine NoPanic.normal ?_;have HFin:=hid (And.intro hFin hwc.here);clear hH hH6 hQ hQ6 hc6 hwc hFin hA
 go_wp2_with fail
 exact bodyPost_ret (v:=.agg #[.int .i64 i,.int .i64 vk,.int .i64 vl,.int .i64 vn,.int .i64 vm,.int .i64 (vc:Nat)]) (results_R1 Tryz.results47 _ _ w.heap.size _ 40 _ Tryz.underlying40 rfl (by rw [szSt];rfl) rfl HFin.out.2) rfl ⟨rfl,HFin.out.1⟩
end Go.Proofs.YtmgfilacepnjlaaGreatDoor
