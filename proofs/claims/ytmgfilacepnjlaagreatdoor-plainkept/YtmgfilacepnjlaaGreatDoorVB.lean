/-
 package plain: makeOne where it is refused; which blocks it has behind it.
-/
import Derived.Test.YtmgfilacepnjlaaGreatDoorVA6
namespace Go.Proofs.YtmgfilacepnjlaaGreatDoor
open Go.RowKit

theorem Nxt.made {w w9:World} {q:PC} {D fi:Int} {c c':NC} {v':Value} (hq:q.nc D=some c) (hB:∀ k,BlkN c' k→w.heap.size≤k) (hv:v'.ownBlock=c.v.ownBlock∨∃ b,v'.ownBlock=some b∧w9.heap.size≤b) (hs:w.heap.size≤w9.heap.size):Nxt w q ((q.put fi c').put D { c with v:=v' }):=⟨rfl,rfl,fun j k=>by
 rcases k with e | e | ⟨l,d,e1,e2⟩
 ·exact .inl (.inl e)
 ·exact .inl (.inr (.inl e))
 ·by_cases hl:l=D
  ·rw [hl,PC.put_at] at e1
   cases e1
   rcases e2 with e | e | e | e
   ·exact .inl (PBlk.node hq (.inl e))
   ·exact .inl (PBlk.node hq (.inr (.inl e)))
   ·exact .inl (PBlk.node hq (.inr (.inr (.inl e))))
   ·rcases hv with e3 | ⟨b,e3,hb⟩
    ·exact .inl (PBlk.node hq (.inr (.inr (.inr (e3.symm.trans e)))))
    ·have e:v'.ownBlock=some j:=e
     rw [e3] at e
     cases e
     exact .inr (Nat.le_trans hs hb)
  ·rw [PC.put_ne _ _ hl] at e1
   by_cases hf:l=fi
   ·rw [hf,PC.put_at] at e1
    cases e1
    exact .inr (hB j e2)
   ·rw [PC.put_ne _ _ hf] at e1
    exact .inl (PBlk.node e1 e2)⟩
set_option maxHeartbeats 4000000 in
set_option maxRecDepth 100000 in
theorem makeOne_nxt {q:PC} {s:PSt} {c:NC} {x:Nd} (ls:List ByteArray) (a:Option Addr) (kind made:Int) (k:Nat) (w:World) (h:IsPl w q s) (ho:OkS s) (hl:LAt w a ls) (hb:ls.length≤1000) (hn:∀ x∈ls,x.size≤1000) (hE:lastE s ls=0) (hqc:q.nc (lastD s ls)=some c) (hsx:s.nd (lastD s ls)=some x)
  (hns:(lastN ls).size≤1000) (hfd:findN x (lastN ls)=none) (hln:(nodesN s:Int)≠s.ino) (hpl:placeL s x=((k:Int),0)) (hk:k≤x.sl.length) (hk2:k < 1068) (hcn:x.cnt < 5000) (hf1:1≤freeI s) (hf2:freeI s≤512) (hfr:s.nd (freeI s:Nat)=none) :
  Calls Tryz.prog 21 #[.pointer (some ⟨q.p,0,none⟩),.slice a ls.length ls.length,.int .i64 kind,.int .i64 made] w fun e w'=>(∃ q',e=.returned (.agg (ansS (freeI s:Nat) (newNd kind made)))∧IsPl w' q' (makeS s (lastD s ls) x k (lastN ls) (freeI s:Nat) kind made)∧Nxt w q q')∧Chg w w' (fun j=>j=q.mb∨BlkN c j):=by
 obtain ⟨w1,hw1⟩:∃ y,y=w.alloc (.cells (ansE 0) 43):=⟨_,rfl⟩
 have hc1:Chg w w1 No:=by rw [hw1];exact Chg.alloc w _ No
 have hs1:w1.heap.size=w.heap.size + 1:=by rw [hw1];simp
 have HQs:Hid (w1.heap[w.heap.size]? = some (.cells (ansE 0) 43 (0,0))):=hid (by rw [hw1];exact heap_alloc_new w _);have HC1:=hid hc1
 have hl1:LAt w1 a ls:=by
  rcases hl with e | ⟨g,k1,k2,k3⟩
  ·exact .inl e
  ·exact .inr ⟨g,k1,Nat.lt_of_lt_of_le k2 hc1.size,fun j x hj=>by
    have:=k3 j x hj;unfold World.cell? at this ⊢;rw [hc1.block _ k2 (fun e=>e)]
    exact this⟩
 have hN:IsN w c x:=by
  obtain ⟨x',h1,h2⟩:=h.nd _ c hqc;rw [hsx] at h1
  cases h1
  exact h2
 have hW:=wlast_good ls a w1 (h.call hc1) ho hl1 hb hn hE hqc
 have hfi:q.nc (freeI s:Nat)=none:=by
  cases hq:q.nc (freeI s:Nat) with
  | none=>rfl
  | some c' =>
   obtain ⟨x',h1,_⟩:=h.nd _ c' hq;rw [hfr] at h1
   cases h1
 have hdf : ¬ lastD s ls=(freeI s:Nat):=fun e=>by rw [e,hfi] at hqc;cases hqc
 have HP:=hid h;have HN:=hid hN
 have HFd:Hid (∀ W,Chg w W No→Calls Tryz.prog 43 #[.agg #[.pointer (some ⟨c.p,0,none⟩),.string (lastN ls)]] W fun e w'=>e=.returned (.tuple #[.int .i64 0,.bool false])∧Chg W w' No):=hid (fun W hW=>by
  have:=spotfind_any (lastN ls) W (hN.call hW) hns (fun k hk=>by have:=ho.nm _ x _ k hsx hk;exact ⟨this.1,this.2.1⟩);rw [hfd] at this
  exact this)
 have HPl:Hid (∀ W,Chg w W No→Calls Tryz.prog 44 #[.pointer (some ⟨q.p,0,none⟩),.pointer (some ⟨c.p,0,none⟩)] W fun e w'=>e=.returned (.tuple #[.int .i64 (k:Int),.int .i64 0])∧Chg W w' No):=hid (fun W hW=>by
  have:=place_any W (h.call hW) (hN.call hW);rw [hpl] at this
  exact this)
 have HFr:Hid (∀ W,Chg w W No→Calls Tryz.prog 45 #[.pointer (some ⟨q.p,0,none⟩)] W fun e w'=>e=.returned (.int .i64 (freeI s:Nat))∧w'=W):=hid (fun W hW=>freeInode_any W (h.call hW));have HLen:Hid (∀ (W:World),Chg w W No→∀ (o:Oper) (a:Act) (x:Operand),o.op=Op.call { callee:=Callee.builtin Builtin.len,args:=#[x],argTypes:=#[80] }→a.eval x=.map (some q.mb)→(execOp a.eval o).run Tryz.prog W=.ok (.value (.int .i64 (nodesN s:Nat))) W):=hid (fun W hW o a x hop hm=>len_runN x hop hm (h.call hW));have HQ1:Hid (∀ W,Chg w W No→W.cell? ⟨q.p,1,none⟩=some (.int .i64 s.ino)):=hid (fun W hW=>(h.call hW).c1);have HQ2:Hid (∀ W,Chg w W (· = q.mb)→W.cell? ⟨q.p,2,none⟩=some (.map (some q.mb))):=hid (fun W hW=>(cell_of_row _ _ _ _ _ _ (hW.keep h.me h.pNe)).trans rfl);have HLt:Hid (q.mb < w.heap.size∧∀ j,BlkN c j→j < w.heap.size):=hid ⟨h.mp.lt,fun j hj=>hN.lt hj⟩;obtain ⟨D,hD⟩:∃ y,y=lastD s ls:=⟨_,rfl⟩;obtain ⟨nm,hnm⟩:∃ y,y=lastN ls:=⟨_,rfl⟩;obtain ⟨fi,hfi0⟩:∃ y,y=freeI s:=⟨_,rfl⟩;obtain ⟨nn,hnn0⟩:∃ y,y=nodesN s:=⟨_,rfl⟩;obtain ⟨im,him⟩:∃ y,y=s.ino:=⟨_,rfl⟩;rw [←hD] at hqc hsx hdf;rw [←hnm] at hW hns HFd;rw [←hfi0] at hf1 hf2 hfr hfi hdf HFr;rw [←hnn0] at hln HLen;rw [←him] at hln HQ1;rw [←hD,←hnm,←hfi0];have HQc:=hid hqc;have HSx:=hid hsx;have HFi:=hid hfi;have HDf:=hid hdf;obtain ⟨n,hnn⟩:∃ y,y=ls.length:=⟨_,rfl⟩;rw [←hnn] at hW ⊢;have b1:((nn:Int) == im)=false:=beq_eq_false_iff_ne.2 hln;have b2:decide ((nn:Int)=im)=false:=decide_eq_false hln;have hI:I64 (fi:Int):=⟨by omega,by omega⟩;have HR:Hid (1≤(fi:Int)∧(fi:Int)≤512):=hid ⟨by omega,by omega⟩;obtain ⟨AN,hAN⟩:∃ y,y=ansS (fi:Nat) (newNd kind made):=⟨_,rfl⟩;rw [←hAN];have HAN:=hid hAN;clear hAN;unfold ansE at hw1;have HS1:=hid hs1;rw [hw1] at hW HQs HC1 HS1;clear h ho hl hl1 hb hn hE hqc hsx hfd hpl hfr hfi hdf hD hnm hfi0 hnn0 him hnn hw1 hc1 hs1 hN hf1 hf2
 go_enter Tryz.func21,Tryz.ntmps21
 go_upto_region 4 with (first
  | (go_at_call 42;go_must (refine hW.mono ?_;rintro e w2 ⟨rfl,hc2⟩;have HC2:=hid hc2;clear hc2))
  | (refine store_R rfl 95 _ _ rfl w2.heap.size #[.pointer (some ⟨c.p,0,none⟩),.string nm] rfl rfl 95 _ (heap_alloc_new _ _) (by rw [szSp];rfl) rfl (by simp [Value.oneCell']) ?_;intro w3 hw3;have HMB:Hid (MB w w3 w2.heap.size #[.pointer (some ⟨c.p,0,none⟩),.string nm]):=hid ⟨putR_keep hw3 ((Chg.alloc w2 _ No).keep (HC2.out.keep HQs.out (fun e=>e)) (fun e=>e)) (by have:=HC2.out.size;have:=HS1.out;omega),hw3.here,by have:=HC2.out.size;have:=HS1.out;omega⟩;have HC3:Hid (Chg w w3 No):=hid ((HC1.out.tr HC2.out).tr (Chg.alloc w2 (.cells #[.pointer none,.string ⟨#[]⟩] 95) No) |>.trans (kt_new hw3) (fun _ _ e=>e) (fun j hj e=>by have:=(HC1.out.tr HC2.out).size;omega));clear hw3)
  | fail)
 obtain ⟨gs,hgs⟩:∃ y,y=w2.heap.size:=⟨_,rfl⟩;rw [←hgs] at HMB ⊢;clear hgs HC2 HC1 HQs HS1 hW;have hF:=HFd.out w3 HC3.out
 go_upto_region 7 with (first
  | (refine load_R rfl 95 _ rfl gs rfl 95 #[.pointer (some ⟨c.p,0,none⟩),.string nm] _ HMB.out.sp Tryz.underlying95 rfl (by rw [szSp];rfl) ?_)
  | (go_at_call 43;go_must (refine hF.mono ?_;rintro e w4 ⟨rfl,hc4⟩;have HC4:=hid (HC3.out.tr hc4);have HM4:=hid (HMB.out.keep hc4 (fun _ e=>e.elim));clear hc4))
  | fail)
 clear hF HC3 HMB HFd;refine wp_region_noPanic ?_;refine wp_region_held_drew (S:=fun w'=>w'=w4.drew) (by kernel_rfl) rfl (fun hH => ?_);have HC5:Hid (Chg w w4.drew No):=hid HC4.out.drew;refine tV 0 32 (.pointer (some ⟨q.p,0,none⟩)) rfl (by kernel_rfl) rfl (by rfl) hH (fun W' hw'=>rfl) ?_;simp only [sS];refine tV 1 33 (.pointer (some ⟨q.p,0,none⟩)) rfl (by kernel_rfl) rfl (by rfl) hH (fun W' hw'=>by go_simp) ?_;simp only [sS];refine tV 2 34 (.pointer (some ⟨q.p,2,none⟩)) rfl (by kernel_rfl) rfl (by rfl) hH (fun W' hw'=>by go_simp) ?_;simp only [sS];refine tV 3 35 (.map (some q.mb)) rfl (by kernel_rfl) rfl (by rfl) hH (fun W' hw'=>by subst hw';have hc:=HQ2.out _ (HC5.out.mono fun _ _ e=>e.elim);go_simp) ?_;simp only [sS];refine tV 4 36 (.int .i64 (nn:Nat)) rfl (by kernel_rfl) rfl (by rfl) hH (fun W' hw'=>by subst hw';exact HLen.out _ HC5.out _ _ (.tmp 35) rfl rfl) ?_;simp only [sS];refine tV 5 37 (.pointer (some ⟨q.p,0,none⟩)) rfl (by kernel_rfl) rfl (by rfl) hH (fun W' hw'=>rfl) ?_;simp only [sS];refine tV 6 38 (.pointer (some ⟨q.p,0,none⟩)) rfl (by kernel_rfl) rfl (by rfl) hH (fun W' hw'=>by go_simp) ?_;simp only [sS];refine tV 7 39 (.pointer (some ⟨q.p,1,none⟩)) rfl (by kernel_rfl) rfl (by rfl) hH (fun W' hw'=>by go_simp) ?_;simp only [sS];refine tV 8 40 (.int .i64 im) rfl (by kernel_rfl) rfl (by rfl) hH (fun W' hw'=>by subst hw';have hc:=HQ1.out _ HC5.out;go_simp) ?_;simp only [sS];refine tV 9 41 (.bool false) rfl (by kernel_rfl) rfl (by rfl) hH (fun W' hw'=>by go_simp) ?_;simp only [sS];refine wpAnyH_done (by kernel_rfl) ?_ _;refine NoPanic.normal ?_;have HM5:Hid (MB w w4.drew gs #[.pointer (some ⟨c.p,0,none⟩),.string nm]):=hid (HM4.out.keep (Chg.refl w4 No).drew (fun _ e=>e.elim));clear hH HC4 HM4 HLen HQ1 b1 b2;obtain ⟨w5,hw5⟩:∃ y,y=w4.drew:=⟨_,rfl⟩;rw [←hw5] at HC5 HM5 ⊢;clear hw5;have q0:=HM5.out.c0;have hP:=HPl.out w5 HC5.out
 go_upto_region 13 with (first
  | (go_at_call 44;go_must (refine hP.mono ?_;rintro e w6 ⟨rfl,hc6⟩;have HC6:=hid (HC5.out.tr hc6);have HM6:=hid (HM5.out.keep hc6 (fun _ e=>e.elim));clear hc6;have hF:=HFr.out w6 HC6.out))
  | (go_at_call 45;go_must (refine hF.mono ?_;rintro e w7 ⟨rfl,rfl⟩))
  | fail)
 clear hP q0 HC5 HM5 HPl HFr hF;refine wp_region_noPanic ?_;refine wp_region_held_drew (S:=fun w'=>Chg w w' (· = q.mb)) (by kernel_rfl) ((HC6.out.mono fun _ _ e=>e.elim).drew) (fun hH => ?_);have HC7:Hid (Chg w w7.drew No):=hid HC6.out.drew;have HM7:Hid (MB w w7.drew gs #[.pointer (some ⟨c.p,0,none⟩),.string nm]):=hid (HM6.out.keep (Chg.refl w7 No).drew (fun _ e=>e.elim));refine tV 0 56 (.pointer (some ⟨q.p,0,none⟩)) rfl (by kernel_rfl) rfl (by rfl) hH (fun W' hw'=>rfl) ?_;simp only [sS];refine tV 1 57 (.pointer (some ⟨q.p,0,none⟩)) rfl (by kernel_rfl) rfl (by rfl) hH (fun W' hw'=>by go_simp) ?_;simp only [sS];refine tV 2 58 (.pointer (some ⟨q.p,2,none⟩)) rfl (by kernel_rfl) rfl (by rfl) hH (fun W' hw'=>by go_simp) ?_;simp only [sS];refine tV 3 59 (.map (some q.mb)) rfl (by kernel_rfl) rfl (by rfl) hH (fun W' hw'=>by have hc:=HQ2.out W' hw';go_simp) ?_;simp only [sS];refine tV 4 60 (.int .i64 (fi:Nat)) rfl (by kernel_rfl) rfl (by rfl) hH (fun W' hw'=>rfl) ?_;simp only [sS];refine tV 5 61 (.int .i64 kind) rfl (by kernel_rfl) rfl (by rfl) hH (fun W' hw'=>rfl) ?_;simp only [sS];refine tV 6 62 (.int .i64 made) rfl (by kernel_rfl) rfl (by rfl) hH (fun W' hw'=>rfl) ?_;simp only [sS];refine step1 7 (by kernel_rfl) ?_;refine stCall 7 63 39 #[.int .i64 kind,.int .i64 made] _ rfl rfl (by rfl) (by go_simp) (newNode_any kind made _) ?_
 rintro e w8 ⟨c',rfl,hN8,hc8,p1,p2,p3,p4,p5⟩
 have hn8:Chg w w8 No:=HC7.out.tr hc8
 have hH8:Chg w w8 (· = q.mb):=hn8.mono fun _ _ e=>e.elim
 refine ⟨_,rfl,hH8,?_⟩;simp only [sS];refine step1 8 (by kernel_rfl) ?_;refine stPutN 8 (.tmp 59) (.tmp 60) (.tmp 63) q.mb (fun y=>(q.nc y).map ptrN) (fi:Int) (.pointer (some ⟨c'.p,0,none⟩)) rfl rfl (by rfl) rfl rfl rfl rfl (HP.out.call hn8).mp hI HP.out.small ?_
 intro w9 hm9 hc9 hz9
 have hH9:Chg w w9 (· = q.mb):=hH8.trans hc9 (fun _ _ e=>e) (fun _ _ e=>e);refine ⟨hH9,?_⟩;refine wpAnyH_done (by kernel_rfl) ?_ _;refine NoPanic.normal ?_;have hI7:=HP.out.call HC7.out;obtain ⟨hP9,_⟩:=hI7.more HR.out hc8 hN8 p1 p2 p3 p4 p5 hc9 hm9;have HP9:=hid hP9
 have HBl:Hid (∀ k,BlkN c' k→w.heap.size≤k):=hid (fun k hk=>by
  have z7:=HC7.out.size
  rcases hk with e | e | e | e
  ·rw [e];omega
  ·rw [e];omega
  ·rw [e];omega
  ·rw [p4] at e;cases e)
 have HC9:=hid hH9;have HM9:=hid ((HM7.out.keep hc8 (fun _ e=>e.elim)).keep hc9 (fun k e=>by rw [e];exact HLt.out.1));have hne : ¬ D=(fi:Int):=HDf.out
 have hq9:(q.put (fi:Int) c').nc D=some c:=by rw [PC.put_ne q c' hne];exact HQc.out
 have hN9:IsN w9 c x:=by
  obtain ⟨y,h1,h2⟩:=HP9.out.nd D c hq9;rw [PSt.put_ne s _ hne,HSx.out] at h1
  cases h1
  exact h2
 have hEn:=enter_any k nm (fi:Int) w9 hN9 hk hk2 hcn hns (by rw [HP9.out.bs D c hq9];omega);have HQ9:=hid hq9;have q0:=HM9.out.c0;have q1:=HM9.out.c1;clear hH hn8 hH8 hH9 hI7 hP9 hc8 hc9 hm9 hz9 hN8 p1 p2 p3 p4 p5 HC7 HM7 HC6 HM6 HQ2 hne hq9 hN9
 go_upto_region 15 with (first
  | (go_at_call 46;go_must (refine hEn.mono ?_;rintro e w10 ⟨rfl,hE10,hc10⟩;have HE10:=hid hE10;have HC10:=hid hc10;clear hE10 hc10))
  | fail)
 obtain ⟨v',hN10,ho10⟩:=HE10.out;have hP10:=HP9.out.turn HQ9.out hN10 rfl rfl rfl rfl ho10 HC10.out;have HP10:=hid hP10;have HNx:=hid (Nxt.made (w:=w) (fi:=(fi:Int)) (c':=c') HQc.out HBl.out ho10 HC9.out.size)
 have hq10:((q.put (fi:Int) c').put D { c with v:=v' }).nc (fi:Int)=some c':=by rw [PC.put_ne _ _ (fun e=>HDf.out e.symm),PC.put_at]
 have hs10:((s.put (fi:Int) (newNd kind made)).put D (entN x k nm (fi:Int))).nd (fi:Int)=some (newNd kind made):=by rw [PSt.put_ne _ _ (fun e=>HDf.out e.symm),PSt.put_at]
 have hSt:=stat_any (fi:Int) w10 hP10 hq10 hs10;have HM10:=hid (HM9.out.keep HC10.out HLt.out.2);have HCf:Hid (Chg w w10 (fun j=>j=q.mb∨BlkN c j)):=hid (HC9.out.trans HC10.out (fun _ _ e=>.inl e) (fun _ _ e=>.inr e));unfold statA at hSt;obtain ⟨z1,hz1⟩:∃ y,y=(newNd kind made).kind:=⟨_,rfl⟩;obtain ⟨z2,hz2⟩:∃ y,y=(newNd kind made).links:=⟨_,rfl⟩;obtain ⟨z3,hz3⟩:∃ y,y=lenN (newNd kind made):=⟨_,rfl⟩;obtain ⟨z4,hz4⟩:∃ y,y=(newNd kind made).made:=⟨_,rfl⟩;obtain ⟨z5,hz5⟩:∃ y,y=cardN (newNd kind made):=⟨_,rfl⟩;rw [←hz1,←hz2,←hz3,←hz4,←hz5] at hSt;have HRow:Hid (#[.int .i64 0,.int .i64 (fi:Int),.int .i64 z1,.int .i64 z2,.int .i64 z3,.int .i64 z4,.int .i64 (z5:Nat),.slice none 0 0,.slice none 0 0,.bool false]=AN):=hid (by rw [HAN.out,hz1,hz2,hz3,hz4,hz5];rfl);clear hP10 hq10 hs10 hz1 hz2 hz3 hz4 hz5 hN10 ho10 HE10 hEn q0 q1 HM9
 go_wp2_with (first
  | (go_at_call 47;go_must (refine hSt.mono ?_;rintro e w11 ⟨rfl,hc11⟩;have HM11:=hid (HM10.out.keep hc11 (fun _ e=>e.elim));have HC11:=hid (HCf.out.trans hc11 (fun _ _ e=>e) (fun _ _ e=>e.elim));have HP11:=hid (HP10.out.call hc11);clear hc11))
  | (refine store_R rfl 43 _ _ rfl w.heap.size #[.int .i64 0,.int .i64 (fi:Int),.int .i64 z1,.int .i64 z2,.int .i64 z3,.int .i64 z4,.int .i64 (z5:Nat),.slice none 0 0,.slice none 0 0,.bool false] rfl rfl 43 _ HM11.out.an (by rw [szAn];rfl) rfl (by simp [Value.oneCell']) ?_;intro w12 hw12)
  | fail)
 have hH12:=hw12.here;rw [HRow.out] at hH12
 have hsz:(Tryz.prog.info? 43).map (·.size)=some AN.size:=by rw [szAn,←HRow.out];rfl
 have hx12:Chg w w12 (fun j=>j=q.mb∨BlkN c j):=HC11.out.trans (kt_new hw12) (fun _ _ e=>e) (fun j hj e=>by omega);have hP12:IsPl w12 ((q.put (fi:Int) c').put D { c with v:=v' }) (makeS s D x k nm (fi:Int) kind made):=HP11.out.putR hw12 HM11.out.an
 exact bodyPost_ret (v:=.agg AN) (results_R1 Tryz.results21 _ _ w.heap.size _ 43 _ Tryz.underlying43 rfl hsz rfl hH12) rfl ⟨⟨_,rfl,hP12,HNx.out⟩,hx12⟩
set_option maxHeartbeats 4000000 in
set_option maxRecDepth 100000 in
theorem makeOne_there {q:PC} {s:PSt} {c:NC} {x:Nd} (ls:List ByteArray) (a:Option Addr) (kind made:Int) (w:World) (h:IsPl w q s) (ho:OkS s) (hl:LAt w a ls) (hb:ls.length≤1000) (hn:∀ x∈ls,x.size≤1000) (hE:lastE s ls=0) (hqc:q.nc (lastD s ls)=some c) (hsx:s.nd (lastD s ls)=some x)
  (hns:(lastN ls).size≤1000) (j:Int) (hfd:findN x (lastN ls)=some j) :
  Calls Tryz.prog 21 #[.pointer (some ⟨q.p,0,none⟩),.slice a ls.length ls.length,.int .i64 kind,.int .i64 made] w fun e w'=>e=.returned (.agg (ansE (111)))∧Chg w w' No:=by
 obtain ⟨w1,hw1⟩:∃ y,y=w.alloc (.cells (ansE 0) 43):=⟨_,rfl⟩
 have hc1:Chg w w1 No:=by rw [hw1];exact Chg.alloc w _ No
 have hs1:w1.heap.size=w.heap.size + 1:=by rw [hw1];simp
 have HQs:Hid (w1.heap[w.heap.size]? = some (.cells (ansE 0) 43 (0,0))):=hid (by rw [hw1];exact heap_alloc_new w _);have HC1:=hid hc1
 have hl1:LAt w1 a ls:=by
  rcases hl with e | ⟨g,k1,k2,k3⟩
  ·exact .inl e
  ·exact .inr ⟨g,k1,Nat.lt_of_lt_of_le k2 hc1.size,fun j x hj=>by
    have:=k3 j x hj;unfold World.cell? at this ⊢;rw [hc1.block _ k2 (fun e=>e)]
    exact this⟩
 have hN:IsN w c x:=by
  obtain ⟨x',h1,h2⟩:=h.nd _ c hqc;rw [hsx] at h1
  cases h1
  exact h2
 have hW:=wlast_good ls a w1 (h.call hc1) ho hl1 hb hn hE hqc
 have HFd:Hid (∀ W,Chg w W No→Calls Tryz.prog 43 #[.agg #[.pointer (some ⟨c.p,0,none⟩),.string (lastN ls)]] W fun e w'=>e=.returned (.tuple #[.int .i64 j,.bool true])∧Chg W w' No):=hid (fun W hW=>by
  have:=spotfind_any (lastN ls) W (hN.call hW) hns (fun k hk=>by have:=ho.nm _ x _ k hsx hk;exact ⟨this.1,this.2.1⟩);rw [hfd] at this
  exact this)
 obtain ⟨nm,hnm⟩:∃ y,y=lastN ls:=⟨_,rfl⟩;rw [←hnm] at hW hns HFd;obtain ⟨n,hnn⟩:∃ y,y=ls.length:=⟨_,rfl⟩;rw [←hnn] at hW ⊢;unfold ansE at hw1 ⊢;have HS1:=hid hs1;rw [hw1] at hW HQs HC1 HS1;clear h ho hl hl1 hb hn hE hqc hsx hfd hnm hnn hw1 hc1 hs1 hN
 go_enter Tryz.func21,Tryz.ntmps21
 go_upto_region 4 with (first
  | (go_at_call 42;go_must (refine hW.mono ?_;rintro e w2 ⟨rfl,hc2⟩;have HC2:=hid hc2;clear hc2))
  | (refine store_R rfl 95 _ _ rfl w2.heap.size #[.pointer (some ⟨c.p,0,none⟩),.string nm] rfl rfl 95 _ (heap_alloc_new _ _) (by rw [szSp];rfl) rfl (by simp [Value.oneCell']) ?_;intro w3 hw3;have HMB:Hid (MB w w3 w2.heap.size #[.pointer (some ⟨c.p,0,none⟩),.string nm]):=hid ⟨putR_keep hw3 ((Chg.alloc w2 _ No).keep (HC2.out.keep HQs.out (fun e=>e)) (fun e=>e)) (by have:=HC2.out.size;have:=HS1.out;omega),hw3.here,by have:=HC2.out.size;have:=HS1.out;omega⟩;have HC3:Hid (Chg w w3 No):=hid ((HC1.out.tr HC2.out).tr (Chg.alloc w2 (.cells #[.pointer none,.string ⟨#[]⟩] 95) No) |>.trans (kt_new hw3) (fun _ _ e=>e) (fun j hj e=>by have:=(HC1.out.tr HC2.out).size;omega));clear hw3)
  | fail)
 obtain ⟨gs,hgs⟩:∃ y,y=w2.heap.size:=⟨_,rfl⟩;rw [←hgs] at HMB ⊢;clear hgs HC2 HC1 HQs HS1 hW;have hF:=HFd.out w3 HC3.out
 go_wp2_with (first
  | (refine load_R rfl 95 _ rfl gs rfl 95 #[.pointer (some ⟨c.p,0,none⟩),.string nm] _ HMB.out.sp Tryz.underlying95 rfl (by rw [szSp];rfl) ?_)
  | (go_at_call 43;go_must (refine hF.mono ?_;rintro e w4 ⟨rfl,hc4⟩;have HC4:=hid (HC3.out.tr hc4);have HM4:=hid (HMB.out.keep hc4 (fun _ e=>e.elim));clear hc4))
  | (refine store_R rfl 43 _ _ rfl w.heap.size #[.int .i64 111,.int .i64 0,.int .i64 0,.int .i64 0,.int .i64 0,.int .i64 0,.int .i64 0,.slice none 0 0,.slice none 0 0,.bool false] rfl rfl 43 _ HM4.out.an (by rw [szAn];rfl) rfl (by simp [Value.oneCell']) ?_;intro w9 hw9)
  | fail)
 exact bodyPost_ret (v:=.agg #[.int .i64 111,.int .i64 0,.int .i64 0,.int .i64 0,.int .i64 0,.int .i64 0,.int .i64 0,.slice none 0 0,.slice none 0 0,.bool false]) (results_R1 Tryz.results21 _ _ w.heap.size _ 43 _ Tryz.underlying43 rfl (by rw [szAn];rfl) rfl hw9.here) rfl ⟨rfl,HC4.out.trans (kt_new hw9) (fun _ _ e=>e) (fun j hj e=>by omega)⟩

set_option maxHeartbeats 4000000 in
set_option maxRecDepth 100000 in
theorem makeOne_inodes {q:PC} {s:PSt} {c:NC} {x:Nd} (ls:List ByteArray) (a:Option Addr) (kind made:Int) (w:World) (h:IsPl w q s) (ho:OkS s) (hl:LAt w a ls) (hb:ls.length≤1000) (hn:∀ x∈ls,x.size≤1000) (hE:lastE s ls=0) (hqc:q.nc (lastD s ls)=some c) (hsx:s.nd (lastD s ls)=some x)
  (hns:(lastN ls).size≤1000) (hfd:findN x (lastN ls)=none) (hln:(nodesN s:Int)=s.ino) :
  Calls Tryz.prog 21 #[.pointer (some ⟨q.p,0,none⟩),.slice a ls.length ls.length,.int .i64 kind,.int .i64 made] w fun e w'=>e=.returned (.agg (ansE (81)))∧Chg w w' No:=by
 obtain ⟨w1,hw1⟩:∃ y,y=w.alloc (.cells (ansE 0) 43):=⟨_,rfl⟩
 have hc1:Chg w w1 No:=by rw [hw1];exact Chg.alloc w _ No
 have hs1:w1.heap.size=w.heap.size + 1:=by rw [hw1];simp
 have HQs:Hid (w1.heap[w.heap.size]? = some (.cells (ansE 0) 43 (0,0))):=hid (by rw [hw1];exact heap_alloc_new w _);have HC1:=hid hc1
 have hl1:LAt w1 a ls:=by
  rcases hl with e | ⟨g,k1,k2,k3⟩
  ·exact .inl e
  ·exact .inr ⟨g,k1,Nat.lt_of_lt_of_le k2 hc1.size,fun j x hj=>by
    have:=k3 j x hj;unfold World.cell? at this ⊢;rw [hc1.block _ k2 (fun e=>e)]
    exact this⟩
 have hN:IsN w c x:=by
  obtain ⟨x',h1,h2⟩:=h.nd _ c hqc;rw [hsx] at h1
  cases h1
  exact h2
 have hW:=wlast_good ls a w1 (h.call hc1) ho hl1 hb hn hE hqc
 have HFd:Hid (∀ W,Chg w W No→Calls Tryz.prog 43 #[.agg #[.pointer (some ⟨c.p,0,none⟩),.string (lastN ls)]] W fun e w'=>e=.returned (.tuple #[.int .i64 0,.bool false])∧Chg W w' No):=hid (fun W hW=>by
  have:=spotfind_any (lastN ls) W (hN.call hW) hns (fun k hk=>by have:=ho.nm _ x _ k hsx hk;exact ⟨this.1,this.2.1⟩);rw [hfd] at this
  exact this)
 have HLen:Hid (∀ (W:World),Chg w W No→∀ (o:Oper) (a:Act) (x:Operand),o.op=Op.call { callee:=Callee.builtin Builtin.len,args:=#[x],argTypes:=#[80] }→a.eval x=.map (some q.mb)→(execOp a.eval o).run Tryz.prog W=.ok (.value (.int .i64 (nodesN s:Nat))) W):=hid (fun W hW o a x hop hm=>len_runN x hop hm (h.call hW));have HQ1:Hid (∀ W,Chg w W No→W.cell? ⟨q.p,1,none⟩=some (.int .i64 s.ino)):=hid (fun W hW=>(h.call hW).c1);have HQ2:Hid (∀ W,Chg w W (· = q.mb)→W.cell? ⟨q.p,2,none⟩=some (.map (some q.mb))):=hid (fun W hW=>(cell_of_row _ _ _ _ _ _ (hW.keep h.me h.pNe)).trans rfl);obtain ⟨nm,hnm⟩:∃ y,y=lastN ls:=⟨_,rfl⟩;rw [←hnm] at hW hns HFd;obtain ⟨nn,hnn0⟩:∃ y,y=nodesN s:=⟨_,rfl⟩;obtain ⟨im,him⟩:∃ y,y=s.ino:=⟨_,rfl⟩;rw [←hnn0] at hln HLen;rw [←him] at hln HQ1;obtain ⟨n,hnn⟩:∃ y,y=ls.length:=⟨_,rfl⟩;rw [←hnn] at hW ⊢;unfold ansE at hw1 ⊢;have HS1:=hid hs1;rw [hw1] at hW HQs HC1 HS1;clear h ho hl hl1 hb hn hE hqc hsx hfd hnm hnn hw1 hc1 hs1 hN hnn0 him;subst hln
 go_enter Tryz.func21,Tryz.ntmps21
 go_upto_region 4 with (first
  | (go_at_call 42;go_must (refine hW.mono ?_;rintro e w2 ⟨rfl,hc2⟩;have HC2:=hid hc2;clear hc2))
  | (refine store_R rfl 95 _ _ rfl w2.heap.size #[.pointer (some ⟨c.p,0,none⟩),.string nm] rfl rfl 95 _ (heap_alloc_new _ _) (by rw [szSp];rfl) rfl (by simp [Value.oneCell']) ?_;intro w3 hw3;have HMB:Hid (MB w w3 w2.heap.size #[.pointer (some ⟨c.p,0,none⟩),.string nm]):=hid ⟨putR_keep hw3 ((Chg.alloc w2 _ No).keep (HC2.out.keep HQs.out (fun e=>e)) (fun e=>e)) (by have:=HC2.out.size;have:=HS1.out;omega),hw3.here,by have:=HC2.out.size;have:=HS1.out;omega⟩;have HC3:Hid (Chg w w3 No):=hid ((HC1.out.tr HC2.out).tr (Chg.alloc w2 (.cells #[.pointer none,.string ⟨#[]⟩] 95) No) |>.trans (kt_new hw3) (fun _ _ e=>e) (fun j hj e=>by have:=(HC1.out.tr HC2.out).size;omega));clear hw3)
  | fail)
 obtain ⟨gs,hgs⟩:∃ y,y=w2.heap.size:=⟨_,rfl⟩;rw [←hgs] at HMB ⊢;clear hgs HC2 HC1 HQs HS1 hW;have hF:=HFd.out w3 HC3.out
 go_upto_region 7 with (first
  | (refine load_R rfl 95 _ rfl gs rfl 95 #[.pointer (some ⟨c.p,0,none⟩),.string nm] _ HMB.out.sp Tryz.underlying95 rfl (by rw [szSp];rfl) ?_)
  | (go_at_call 43;go_must (refine hF.mono ?_;rintro e w4 ⟨rfl,hc4⟩;have HC4:=hid (HC3.out.tr hc4);have HM4:=hid (HMB.out.keep hc4 (fun _ e=>e.elim));clear hc4))
  | fail)
 clear hF HC3 HMB HFd;refine wp_region_noPanic ?_;refine wp_region_held_drew (S:=fun w'=>w'=w4.drew) (by kernel_rfl) rfl (fun hH => ?_);have HC5:Hid (Chg w w4.drew No):=hid HC4.out.drew;refine tV 0 32 (.pointer (some ⟨q.p,0,none⟩)) rfl (by kernel_rfl) rfl (by rfl) hH (fun W' hw'=>rfl) ?_;simp only [sS];refine tV 1 33 (.pointer (some ⟨q.p,0,none⟩)) rfl (by kernel_rfl) rfl (by rfl) hH (fun W' hw'=>by go_simp) ?_;simp only [sS];refine tV 2 34 (.pointer (some ⟨q.p,2,none⟩)) rfl (by kernel_rfl) rfl (by rfl) hH (fun W' hw'=>by go_simp) ?_;simp only [sS];refine tV 3 35 (.map (some q.mb)) rfl (by kernel_rfl) rfl (by rfl) hH (fun W' hw'=>by subst hw';have hc:=HQ2.out _ (HC5.out.mono fun _ _ e=>e.elim);go_simp) ?_;simp only [sS];refine tV 4 36 (.int .i64 (nn:Nat)) rfl (by kernel_rfl) rfl (by rfl) hH (fun W' hw'=>by subst hw';exact HLen.out _ HC5.out _ _ (.tmp 35) rfl rfl) ?_;simp only [sS];refine tV 5 37 (.pointer (some ⟨q.p,0,none⟩)) rfl (by kernel_rfl) rfl (by rfl) hH (fun W' hw'=>rfl) ?_;simp only [sS];refine tV 6 38 (.pointer (some ⟨q.p,0,none⟩)) rfl (by kernel_rfl) rfl (by rfl) hH (fun W' hw'=>by go_simp) ?_;simp only [sS];refine tV 7 39 (.pointer (some ⟨q.p,1,none⟩)) rfl (by kernel_rfl) rfl (by rfl) hH (fun W' hw'=>by go_simp) ?_;simp only [sS];refine tV 8 40 (.int .i64 ((nn:Nat):Int)) rfl (by kernel_rfl) rfl (by rfl) hH (fun W' hw'=>by subst hw';have hc:=HQ1.out _ HC5.out;go_simp) ?_;simp only [sS];refine tV 9 41 (.bool true) rfl (by kernel_rfl) rfl (by rfl) hH (fun W' hw'=>by go_simp) ?_;simp only [sS];refine wpAnyH_done (by kernel_rfl) ?_ _;refine NoPanic.normal ?_;have HM5:Hid (MB w w4.drew gs #[.pointer (some ⟨c.p,0,none⟩),.string nm]):=hid (HM4.out.keep (Chg.refl w4 No).drew (fun _ e=>e.elim));clear hH HC4 HM4 HLen HQ1;obtain ⟨w5,hw5⟩:∃ y,y=w4.drew:=⟨_,rfl⟩;rw [←hw5] at HC5 HM5 ⊢;clear hw5
 go_wp2_with (first
  | (refine store_R rfl 43 _ _ rfl w.heap.size #[.int .i64 81,.int .i64 0,.int .i64 0,.int .i64 0,.int .i64 0,.int .i64 0,.int .i64 0,.slice none 0 0,.slice none 0 0,.bool false] rfl rfl 43 _ HM5.out.an (by rw [szAn];rfl) rfl (by simp [Value.oneCell']) ?_;intro w9 hw9)
  | fail)
 exact bodyPost_ret (v:=.agg #[.int .i64 81,.int .i64 0,.int .i64 0,.int .i64 0,.int .i64 0,.int .i64 0,.int .i64 0,.slice none 0 0,.slice none 0 0,.bool false]) (results_R1 Tryz.results21 _ _ w.heap.size _ 43 _ Tryz.underlying43 rfl (by rw [szAn];rfl) rfl hw9.here) rfl ⟨rfl,HC5.out.trans (kt_new hw9) (fun _ _ e=>e) (fun j hj e=>by omega)⟩

set_option maxHeartbeats 4000000 in
set_option maxRecDepth 100000 in
theorem makeOne_place {q:PC} {s:PSt} {c:NC} {x:Nd} (ls:List ByteArray) (a:Option Addr) (kind made:Int) (w:World) (h:IsPl w q s) (ho:OkS s) (hl:LAt w a ls) (hb:ls.length≤1000) (hn:∀ x∈ls,x.size≤1000) (hE:lastE s ls=0) (hqc:q.nc (lastD s ls)=some c) (hsx:s.nd (lastD s ls)=some x)
  (hns:(lastN ls).size≤1000) (hfd:findN x (lastN ls)=none) (hln:(nodesN s:Int)≠s.ino) (hpl:(placeL s x).2≠0) :
  Calls Tryz.prog 21 #[.pointer (some ⟨q.p,0,none⟩),.slice a ls.length ls.length,.int .i64 kind,.int .i64 made] w fun e w'=>e=.returned (.agg (ansE ((placeL s x).2)))∧Chg w w' No:=by
 obtain ⟨w1,hw1⟩:∃ y,y=w.alloc (.cells (ansE 0) 43):=⟨_,rfl⟩
 have hc1:Chg w w1 No:=by rw [hw1];exact Chg.alloc w _ No
 have hs1:w1.heap.size=w.heap.size + 1:=by rw [hw1];simp
 have HQs:Hid (w1.heap[w.heap.size]? = some (.cells (ansE 0) 43 (0,0))):=hid (by rw [hw1];exact heap_alloc_new w _);have HC1:=hid hc1
 have hl1:LAt w1 a ls:=by
  rcases hl with e | ⟨g,k1,k2,k3⟩
  ·exact .inl e
  ·exact .inr ⟨g,k1,Nat.lt_of_lt_of_le k2 hc1.size,fun j x hj=>by
    have:=k3 j x hj;unfold World.cell? at this ⊢;rw [hc1.block _ k2 (fun e=>e)]
    exact this⟩
 have hN:IsN w c x:=by
  obtain ⟨x',h1,h2⟩:=h.nd _ c hqc;rw [hsx] at h1
  cases h1
  exact h2
 have hW:=wlast_good ls a w1 (h.call hc1) ho hl1 hb hn hE hqc
 have HFd:Hid (∀ W,Chg w W No→Calls Tryz.prog 43 #[.agg #[.pointer (some ⟨c.p,0,none⟩),.string (lastN ls)]] W fun e w'=>e=.returned (.tuple #[.int .i64 0,.bool false])∧Chg W w' No):=hid (fun W hW=>by
  have:=spotfind_any (lastN ls) W (hN.call hW) hns (fun k hk=>by have:=ho.nm _ x _ k hsx hk;exact ⟨this.1,this.2.1⟩);rw [hfd] at this
  exact this)
 have HPl:Hid (∀ W,Chg w W No→Calls Tryz.prog 44 #[.pointer (some ⟨q.p,0,none⟩),.pointer (some ⟨c.p,0,none⟩)] W fun e w'=>e=.returned (.tuple #[.int .i64 (placeL s x).1,.int .i64 (placeL s x).2])∧Chg W w' No):=hid (fun W hW=>by
  have:=place_any W (h.call hW) (hN.call hW)
  exact this)
 have HLen:Hid (∀ (W:World),Chg w W No→∀ (o:Oper) (a:Act) (x:Operand),o.op=Op.call { callee:=Callee.builtin Builtin.len,args:=#[x],argTypes:=#[80] }→a.eval x=.map (some q.mb)→(execOp a.eval o).run Tryz.prog W=.ok (.value (.int .i64 (nodesN s:Nat))) W):=hid (fun W hW o a x hop hm=>len_runN x hop hm (h.call hW));have HQ1:Hid (∀ W,Chg w W No→W.cell? ⟨q.p,1,none⟩=some (.int .i64 s.ino)):=hid (fun W hW=>(h.call hW).c1);have HQ2:Hid (∀ W,Chg w W (· = q.mb)→W.cell? ⟨q.p,2,none⟩=some (.map (some q.mb))):=hid (fun W hW=>(cell_of_row _ _ _ _ _ _ (hW.keep h.me h.pNe)).trans rfl);obtain ⟨nm,hnm⟩:∃ y,y=lastN ls:=⟨_,rfl⟩;rw [←hnm] at hW hns HFd;obtain ⟨nn,hnn0⟩:∃ y,y=nodesN s:=⟨_,rfl⟩;obtain ⟨im,him⟩:∃ y,y=s.ino:=⟨_,rfl⟩;obtain ⟨E,hEp⟩:∃ y,y=(placeL s x).2:=⟨_,rfl⟩;obtain ⟨F,hFp⟩:∃ y,y=(placeL s x).1:=⟨_,rfl⟩;rw [←hEp,←hFp] at HPl;rw [←hEp] at hpl ⊢;rw [←hnn0] at hln HLen;rw [←him] at hln HQ1;have b2:decide ((nn:Int)=im)=false:=decide_eq_false hln;have b1:((nn:Int) == im)=false:=beq_eq_false_iff_ne.2 hln;have b3:(E == 0)=false:=beq_eq_false_iff_ne.2 hpl;obtain ⟨n,hnn⟩:∃ y,y=ls.length:=⟨_,rfl⟩;rw [←hnn] at hW ⊢;unfold ansE at hw1 ⊢;have HS1:=hid hs1;rw [hw1] at hW HQs HC1 HS1;clear h ho hl hl1 hb hn hE hqc hsx hfd hnm hnn hw1 hc1 hs1 hN hnn0 him hEp hFp
 go_enter Tryz.func21,Tryz.ntmps21
 go_upto_region 4 with (first
  | (go_at_call 42;go_must (refine hW.mono ?_;rintro e w2 ⟨rfl,hc2⟩;have HC2:=hid hc2;clear hc2))
  | (refine store_R rfl 95 _ _ rfl w2.heap.size #[.pointer (some ⟨c.p,0,none⟩),.string nm] rfl rfl 95 _ (heap_alloc_new _ _) (by rw [szSp];rfl) rfl (by simp [Value.oneCell']) ?_;intro w3 hw3;have HMB:Hid (MB w w3 w2.heap.size #[.pointer (some ⟨c.p,0,none⟩),.string nm]):=hid ⟨putR_keep hw3 ((Chg.alloc w2 _ No).keep (HC2.out.keep HQs.out (fun e=>e)) (fun e=>e)) (by have:=HC2.out.size;have:=HS1.out;omega),hw3.here,by have:=HC2.out.size;have:=HS1.out;omega⟩;have HC3:Hid (Chg w w3 No):=hid ((HC1.out.tr HC2.out).tr (Chg.alloc w2 (.cells #[.pointer none,.string ⟨#[]⟩] 95) No) |>.trans (kt_new hw3) (fun _ _ e=>e) (fun j hj e=>by have:=(HC1.out.tr HC2.out).size;omega));clear hw3)
  | fail)
 obtain ⟨gs,hgs⟩:∃ y,y=w2.heap.size:=⟨_,rfl⟩;rw [←hgs] at HMB ⊢;clear hgs HC2 HC1 HQs HS1 hW;have hF:=HFd.out w3 HC3.out
 go_upto_region 7 with (first
  | (refine load_R rfl 95 _ rfl gs rfl 95 #[.pointer (some ⟨c.p,0,none⟩),.string nm] _ HMB.out.sp Tryz.underlying95 rfl (by rw [szSp];rfl) ?_)
  | (go_at_call 43;go_must (refine hF.mono ?_;rintro e w4 ⟨rfl,hc4⟩;have HC4:=hid (HC3.out.tr hc4);have HM4:=hid (HMB.out.keep hc4 (fun _ e=>e.elim));clear hc4))
  | fail)
 clear hF HC3 HMB HFd;refine wp_region_noPanic ?_;refine wp_region_held_drew (S:=fun w'=>w'=w4.drew) (by kernel_rfl) rfl (fun hH => ?_);have HC5:Hid (Chg w w4.drew No):=hid HC4.out.drew;refine tV 0 32 (.pointer (some ⟨q.p,0,none⟩)) rfl (by kernel_rfl) rfl (by rfl) hH (fun W' hw'=>rfl) ?_;simp only [sS];refine tV 1 33 (.pointer (some ⟨q.p,0,none⟩)) rfl (by kernel_rfl) rfl (by rfl) hH (fun W' hw'=>by go_simp) ?_;simp only [sS];refine tV 2 34 (.pointer (some ⟨q.p,2,none⟩)) rfl (by kernel_rfl) rfl (by rfl) hH (fun W' hw'=>by go_simp) ?_;simp only [sS];refine tV 3 35 (.map (some q.mb)) rfl (by kernel_rfl) rfl (by rfl) hH (fun W' hw'=>by subst hw';have hc:=HQ2.out _ (HC5.out.mono fun _ _ e=>e.elim);go_simp) ?_;simp only [sS];refine tV 4 36 (.int .i64 (nn:Nat)) rfl (by kernel_rfl) rfl (by rfl) hH (fun W' hw'=>by subst hw';exact HLen.out _ HC5.out _ _ (.tmp 35) rfl rfl) ?_;simp only [sS];refine tV 5 37 (.pointer (some ⟨q.p,0,none⟩)) rfl (by kernel_rfl) rfl (by rfl) hH (fun W' hw'=>rfl) ?_;simp only [sS];refine tV 6 38 (.pointer (some ⟨q.p,0,none⟩)) rfl (by kernel_rfl) rfl (by rfl) hH (fun W' hw'=>by go_simp) ?_;simp only [sS];refine tV 7 39 (.pointer (some ⟨q.p,1,none⟩)) rfl (by kernel_rfl) rfl (by rfl) hH (fun W' hw'=>by go_simp) ?_;simp only [sS];refine tV 8 40 (.int .i64 im) rfl (by kernel_rfl) rfl (by rfl) hH (fun W' hw'=>by subst hw';have hc:=HQ1.out _ HC5.out;go_simp) ?_;simp only [sS];refine tV 9 41 (.bool false) rfl (by kernel_rfl) rfl (by rfl) hH (fun W' hw'=>by go_simp) ?_;simp only [sS];refine wpAnyH_done (by kernel_rfl) ?_ _;refine NoPanic.normal ?_;have HM5:Hid (MB w w4.drew gs #[.pointer (some ⟨c.p,0,none⟩),.string nm]):=hid (HM4.out.keep (Chg.refl w4 No).drew (fun _ e=>e.elim));clear hH HC4 HM4 HLen HQ1 b1 b2;obtain ⟨w5,hw5⟩:∃ y,y=w4.drew:=⟨_,rfl⟩;rw [←hw5] at HC5 HM5 ⊢;clear hw5;have q0:=HM5.out.c0;have hP:=HPl.out w5 HC5.out
 go_wp2_with (first
  | (go_at_call 44;go_must (refine hP.mono ?_;rintro e w6 ⟨rfl,hc6⟩;have HC6:=hid (HC5.out.tr hc6);have HM6:=hid (HM5.out.keep hc6 (fun _ e=>e.elim));clear hc6))
  | (refine store_R rfl 43 _ _ rfl w.heap.size #[.int .i64 E,.int .i64 0,.int .i64 0,.int .i64 0,.int .i64 0,.int .i64 0,.int .i64 0,.slice none 0 0,.slice none 0 0,.bool false] rfl rfl 43 _ HM6.out.an (by rw [szAn];rfl) rfl (by simp [Value.oneCell']) ?_;intro w9 hw9)
  | fail)
 exact bodyPost_ret (v:=.agg #[.int .i64 E,.int .i64 0,.int .i64 0,.int .i64 0,.int .i64 0,.int .i64 0,.int .i64 0,.slice none 0 0,.slice none 0 0,.bool false]) (results_R1 Tryz.results21 _ _ w.heap.size _ 43 _ Tryz.underlying43 rfl (by rw [szAn];rfl) rfl hw9.here) rfl ⟨rfl,HC6.out.trans (kt_new hw9) (fun _ _ e=>e) (fun j hj e=>by omega)⟩

end Go.Proofs.YtmgfilacepnjlaaGreatDoor
