/-
 package plain: link.
-/
import Derived.Test.YtmgfilacepnjlaaGreatDoorRC
namespace Go.Proofs.YtmgfilacepnjlaaGreatDoor
open Go.RowKit

set_option linter.unusedVariables false
structure Nxt (w:World) (q q':PC):Prop where
 p:q'.p=q.p
 mb:q'.mb=q.mb
 blk:∀ j,PBlk q' j→PBlk q j∨w.heap.size≤j
theorem Sub.nxt {q q':PC} (w:World) (h:Sub q q'):Nxt w q q':=⟨h.p,h.mb,fun _ k=>.inl (h.blk k)⟩
def Done2 (q:PC) (s':PSt) (w w':World):Prop:=(∃ q',IsPl w' q' s'∧Nxt w q q')∧Chg w w' (PBlk q)
theorem Done.two {q:PC} {s':PSt} {w w':World} (h:Done q s' w w'):Done2 q s' w w':=by
 obtain ⟨⟨q',h1,h2⟩,h3⟩:=h
 exact ⟨⟨q',h1,h2.nxt w⟩,h3.mono fun j _ e=>.inr e⟩
theorem PBlk.node {q:PC} {i:Int} {c:NC} (h:q.nc i=some c) {j:Nat} (k:BlkN c j):PBlk q j:=.inr (.inr ⟨i,c,h,k⟩)
theorem Nxt.put {w:World} {q:PC} {i:Int} {c:NC} {v':Value} (h:q.nc i=some c) (hv:v'.ownBlock=c.v.ownBlock∨∃ b,v'.ownBlock=some b∧w.heap.size≤b):Nxt w q (q.put i { c with v:=v' }):=⟨rfl,rfl,fun j k=>by
 rcases k with e | e | ⟨l,d,e1,e2⟩
 ·exact .inl (.inl e)
 ·exact .inl (.inr (.inl e))
 ·by_cases hl:l=i
  ·rw [hl,PC.put_at] at e1
   cases e1
   rcases e2 with e | e | e | e
   ·exact .inl (PBlk.node h (.inl e))
   ·exact .inl (PBlk.node h (.inr (.inl e)))
   ·exact .inl (PBlk.node h (.inr (.inr (.inl e))))
   ·rcases hv with e3 | ⟨b,e3,hb⟩
    ·exact .inl (PBlk.node h (.inr (.inr (.inr (e3.symm.trans e)))))
    ·have e:v'.ownBlock=some j:=e
     rw [e3] at e
     cases e
     exact .inr hb
  ·rw [PC.put_ne _ _ hl] at e1
   exact .inl (PBlk.node e1 e2)⟩
theorem Nxt.from {w w1:World} {q q':PC} (h:Nxt w1 q q') (hs:w.heap.size≤w1.heap.size):Nxt w q q':=⟨h.p,h.mb,fun j k=>(h.blk j k).imp_right fun e=>Nat.le_trans hs e⟩
theorem Sub.then {w:World} {q q1 q2:PC} (h:Sub q q1) (k:Nxt w q1 q2):Nxt w q q2:=⟨k.p.trans h.p,k.mb.trans h.mb,fun j e=>(k.blk j e).imp_left h.blk⟩
set_option maxHeartbeats 3000000 in
set_option maxRecDepth 100000 in
theorem link_walk {q:PC} {s:PSt} (ls ts:List ByteArray) (a b:Option Addr) (w:World) (h:IsPl w q s) (ho:OkS s) (hl:LAt w a ls) (hb:ls.length≤1000) (hn:∀ x∈ls,x.size≤1000) (hlt:LAt w b ts) (hbt:ts.length≤1000) (hnt:∀ x∈ts,x.size≤1000) (hE:(walkL s ls 1).2≠0) :
  Calls Tryz.prog 22 #[.pointer (some ⟨q.p,0,none⟩),.slice a ls.length ls.length,.slice b ts.length ts.length] w fun e w'=>e=.returned (.int .i64 (walkL s ls 1).2)∧Chg w w' No:=by
 have hW:=walk_any ls a ls.length w h ho hl hb hn;obtain ⟨E,hEE⟩:∃ y,y=(walkL s ls 1).2:=⟨_,rfl⟩;obtain ⟨I,hII⟩:∃ y,y=(walkL s ls 1).1:=⟨_,rfl⟩;rw [←hEE,←hII] at hW;rw [←hEE] at hE ⊢;obtain ⟨n,hnn⟩:∃ y,y=ls.length:=⟨_,rfl⟩;obtain ⟨m,hmm⟩:∃ y,y=ts.length:=⟨_,rfl⟩;rw [←hnn] at hW;rw [←hnn,←hmm];have b1:(E == 0)=false:=beq_eq_false_iff_ne.2 hE;clear h ho hl hb hn hlt hbt hnt hEE hII hnn hmm
 go_enter Tryz.func22,Tryz.ntmps22
 go_wp2_with (first
  | (go_at_call 26;go_must (refine hW.mono ?_;rintro e w2 ⟨rfl,rfl⟩))
  | fail)
 go_ret
 exact ⟨rfl,Chg.refl _ _⟩
set_option maxHeartbeats 3000000 in
set_option maxRecDepth 100000 in
theorem link_last {q:PC} {s:PSt} (ls ts:List ByteArray) (a b:Option Addr) (w:World) (h:IsPl w q s) (ho:OkS s) (hl:LAt w a ls) (hb:ls.length≤1000) (hn:∀ x∈ls,x.size≤1000) (hlt:LAt w b ts) (hbt:ts.length≤1000) (hnt:∀ x∈ts,x.size≤1000) (i:Nat) (hwi:walkL s ls 1=((i:Int),0)) (hE:lastE s ts≠0) :
  Calls Tryz.prog 22 #[.pointer (some ⟨q.p,0,none⟩),.slice a ls.length ls.length,.slice b ts.length ts.length] w fun e w'=>e=.returned (.int .i64 (lastE s ts))∧Chg w w' No:=by
 have hW:=walk_any ls a ls.length w h ho hl hb hn;rw [hwi] at hW
 have hWt:Calls Tryz.prog 26 #[.pointer (some ⟨q.p,0,none⟩),.slice a ls.length ls.length] w fun e w'=>e=.returned (.tuple #[.int .i64 (i:Int),.int .i64 0])∧w'=w:=hW
 clear hW;have hL:=wlast_bad ts b w h ho hlt hbt hnt hE;obtain ⟨E,hEE⟩:∃ y,y=lastE s ts:=⟨_,rfl⟩;rw [←hEE] at hL hE ⊢;have b1:(E == 0)=false:=beq_eq_false_iff_ne.2 hE;obtain ⟨n,hnn⟩:∃ y,y=ls.length:=⟨_,rfl⟩;obtain ⟨m,hmm⟩:∃ y,y=ts.length:=⟨_,rfl⟩;rw [←hnn] at hWt;rw [←hmm] at hL;rw [←hnn,←hmm];clear h ho hl hb hn hlt hbt hnt hEE hwi hnn hmm
 go_enter Tryz.func22,Tryz.ntmps22
 go_wp2_with (first
  | (go_at_call 26;go_must (refine hWt.mono ?_;rintro e w1 ⟨rfl,hw1⟩;subst hw1))
  | (go_at_call 42;go_must (refine hL.mono ?_;rintro e w2 ⟨rfl,hc2⟩;have HC2:=hid hc2;clear hc2))
  | (refine store_R rfl 95 _ _ rfl w2.heap.size zSpot rfl rfl 95 _ (heap_alloc_new _ _) (by rw [szSp];rfl) rfl (by simp [zSpot,Value.oneCell']) ?_;intro w3 hw3;have HC3:=hid ((HC2.out.tr (Chg.alloc w2 (.cells zSpot 95) No)).trans (kt_new hw3) (fun _ _ e=>e) (fun j hj e=>by have:=HC2.out.size;omega));clear hw3)
  | fail)
 go_ret
 exact ⟨rfl,HC3.out⟩
set_option maxHeartbeats 3000000 in
set_option maxRecDepth 100000 in
theorem link_there {q:PC} {s:PSt} (ls ts:List ByteArray) (a b:Option Addr) (w:World) (h:IsPl w q s) (ho:OkS s) (hl:LAt w a ls) (hb:ls.length≤1000) (hn:∀ x∈ls,x.size≤1000) (hlt:LAt w b ts) (hbt:ts.length≤1000) (hnt:∀ x∈ts,x.size≤1000) (i:Nat) (hwi:walkL s ls 1=((i:Int),0)) (hE:lastE s ts=0) (x y:Nd) (hsx:s.nd (lastD s ts)=some x) (hsy:s.nd (i:Int)=some y) (j:Int) (hfd:findN x (lastN ts)=some j) :
  Calls Tryz.prog 22 #[.pointer (some ⟨q.p,0,none⟩),.slice a ls.length ls.length,.slice b ts.length ts.length] w fun e w'=>e=.returned (.int .i64 111)∧Chg w w' No:=by
 have hW:=walk_any ls a ls.length w h ho hl hb hn;rw [hwi] at hW
 have hWt:Calls Tryz.prog 26 #[.pointer (some ⟨q.p,0,none⟩),.slice a ls.length ls.length] w fun e w'=>e=.returned (.tuple #[.int .i64 (i:Int),.int .i64 0])∧w'=w:=hW
 clear hW
 have hkx:x.kind=2:=by
  obtain ⟨x',h1,h2⟩:=lastE_dir hE;rw [hsx] at h1
  cases h1
  exact h2
 obtain ⟨c,hqc,hN⟩:=h.node hsx;obtain ⟨cy,hqy,hNy⟩:=h.node hsy;have hns:=lastN_size hnt;have hL:=wlast_good ts b w h ho hlt hbt hnt hE hqc;have HFd:Hid (∀ W,Chg w W No→Calls Tryz.prog 43 #[.agg #[.pointer (some ⟨c.p,0,none⟩),.string (lastN ts)]] W fun e w'=>e=.returned (.tuple #[.int .i64 ((findN x (lastN ts)).getD 0),.bool (findN x (lastN ts)).isSome])∧Chg W w' No):=hid (fun W hW=>spotfind_any (lastN ts) W (hN.call hW) hns (fun k hk=>by have:=ho.nm _ x _ k hsx hk;exact ⟨this.1,this.2.1⟩));rw [hfd] at HFd
 have hI:I64 (i:Int):=by have:=h.rng _ (by rw [hqy];intro e;cases e);exact ⟨by omega,by omega⟩
 obtain ⟨fm,hfm⟩:∃ y:Int→Option Value,y=fun y=>(q.nc y).map ptrN:=⟨_,rfl⟩
 have HFi:Hid ((match fm (i:Int) with | some v=>v | none=>.pointer none)=.pointer (some ⟨cy.p,0,none⟩)):=hid (by rw [hfm];simp only [hqy];rfl);have HM:Hid (∀ W,Chg w W No→MapV W q.mb fm):=hid (fun W hW=>by rw [hfm];exact (h.call hW).mp);have HC2q:Hid (∀ W,Chg w W No→W.cell? ⟨q.p,2,none⟩=some (.map (some q.mb))):=hid (fun W hW=>(h.call hW).c2);have HI:=hid hI;obtain ⟨nm,hnm⟩:∃ y,y=lastN ts:=⟨_,rfl⟩;obtain ⟨n,hnn⟩:∃ y,y=ls.length:=⟨_,rfl⟩;obtain ⟨m,hmm⟩:∃ y,y=ts.length:=⟨_,rfl⟩;rw [←hnm,←hmm] at hL;rw [←hnm] at HFd;rw [←hnn] at hWt;rw [←hnn,←hmm];clear h ho hl hb hn hlt hbt hnt hE hwi hsx hsy hfd hkx hqc hqy hN hNy hns hI hfm hnm hnn hmm
 go_enter Tryz.func22,Tryz.ntmps22
 go_upto_region 7 with (first
  | (go_at_call 26;go_must (refine hWt.mono ?_;rintro e w1 ⟨rfl,hw1⟩;subst hw1))
  | (go_at_call 42;go_must (refine hL.mono ?_;rintro e w2 ⟨rfl,hc2⟩;have HC2:=hid hc2;clear hc2))
  | (refine store_R rfl 95 _ _ rfl w2.heap.size #[.pointer (some ⟨c.p,0,none⟩),.string nm] rfl rfl 95 _ (heap_alloc_new _ _) (by rw [szSp];rfl) rfl (by simp [Value.oneCell']) ?_;intro w3 hw3)
  | fail)
 have h23:Chg w2 w3 No:=(Chg.alloc w2 _ No).trans (kt_new hw3) (fun _ _ e=>e) (fun j hj e=>by omega);have HC3:=hid (HC2.out.tr h23);obtain ⟨gs,hgs⟩:∃ y,y=w2.heap.size:=⟨_,rfl⟩;have HG3:Hid (w3.heap[gs]? = some (.cells #[.pointer (some ⟨c.p,0,none⟩),.string nm] 95 (0,0))):=hid (by rw [hgs];exact hw3.here);have HGs:Hid (w1.heap.size≤gs):=hid (by rw [hgs];exact HC2.out.size);rw [←hgs];clear hgs hw3 h23 hWt hL HC2;have hF:=HFd.out w3 HC3.out;have c2:=HC2q.out w3 HC3.out
 go_wp2_with (first
  | (at_lookup;go_must (refine wp_lookVN rfl _ _ rfl q.mb fm (i:Int) _ HFi.out rfl rfl (HM.out w3 HC3.out) HI.out ?_))
  | (refine load_R rfl 95 _ rfl gs rfl 95 #[.pointer (some ⟨c.p,0,none⟩),.string nm] _ HG3.out Tryz.underlying95 rfl (by rw [szSp];rfl) ?_)
  | (go_at_call 43;go_must (refine hF.mono ?_;rintro e w4 ⟨rfl,hc4⟩;have HC4:=hid (HC3.out.tr hc4);have HG4:=hid (hc4.keep HG3.out (fun e=>e));clear hc4))
  | fail)
 go_ret
 exact ⟨rfl,HC4.out⟩
set_option maxHeartbeats 3000000 in
set_option maxRecDepth 100000 in
theorem link_dir {q:PC} {s:PSt} (ls ts:List ByteArray) (a b:Option Addr) (w:World) (h:IsPl w q s) (ho:OkS s) (hl:LAt w a ls) (hb:ls.length≤1000) (hn:∀ x∈ls,x.size≤1000) (hlt:LAt w b ts) (hbt:ts.length≤1000) (hnt:∀ x∈ts,x.size≤1000) (i:Nat) (hwi:walkL s ls 1=((i:Int),0)) (hE:lastE s ts=0) (x y:Nd) (hsx:s.nd (lastD s ts)=some x) (hsy:s.nd (i:Int)=some y) (hfd:findN x (lastN ts)=none) (hky:y.kind=2) :
  Calls Tryz.prog 22 #[.pointer (some ⟨q.p,0,none⟩),.slice a ls.length ls.length,.slice b ts.length ts.length] w fun e w'=>e=.returned (.int .i64 102)∧Chg w w' No:=by
 have hW:=walk_any ls a ls.length w h ho hl hb hn;rw [hwi] at hW
 have hWt:Calls Tryz.prog 26 #[.pointer (some ⟨q.p,0,none⟩),.slice a ls.length ls.length] w fun e w'=>e=.returned (.tuple #[.int .i64 (i:Int),.int .i64 0])∧w'=w:=hW
 clear hW
 have hkx:x.kind=2:=by
  obtain ⟨x',h1,h2⟩:=lastE_dir hE;rw [hsx] at h1
  cases h1
  exact h2
 obtain ⟨c,hqc,hN⟩:=h.node hsx;obtain ⟨cy,hqy,hNy⟩:=h.node hsy;have hns:=lastN_size hnt;have hL:=wlast_good ts b w h ho hlt hbt hnt hE hqc;have HFd:Hid (∀ W,Chg w W No→Calls Tryz.prog 43 #[.agg #[.pointer (some ⟨c.p,0,none⟩),.string (lastN ts)]] W fun e w'=>e=.returned (.tuple #[.int .i64 ((findN x (lastN ts)).getD 0),.bool (findN x (lastN ts)).isSome])∧Chg W w' No):=hid (fun W hW=>spotfind_any (lastN ts) W (hN.call hW) hns (fun k hk=>by have:=ho.nm _ x _ k hsx hk;exact ⟨this.1,this.2.1⟩));rw [hfd] at HFd
 have hI:I64 (i:Int):=by have:=h.rng _ (by rw [hqy];intro e;cases e);exact ⟨by omega,by omega⟩
 obtain ⟨fm,hfm⟩:∃ y:Int→Option Value,y=fun y=>(q.nc y).map ptrN:=⟨_,rfl⟩
 have HFi:Hid ((match fm (i:Int) with | some v=>v | none=>.pointer none)=.pointer (some ⟨cy.p,0,none⟩)):=hid (by rw [hfm];simp only [hqy];rfl);have HM:Hid (∀ W,Chg w W No→MapV W q.mb fm):=hid (fun W hW=>by rw [hfm];exact (h.call hW).mp);have HC2q:Hid (∀ W,Chg w W No→W.cell? ⟨q.p,2,none⟩=some (.map (some q.mb))):=hid (fun W hW=>(h.call hW).c2);have HI:=hid hI;have HDr:Hid (∀ W,Chg w W No→Calls Tryz.prog 48 #[.pointer (some ⟨cy.p,0,none⟩)] W fun e w'=>e=.returned (.bool true)∧w'=W):=hid (fun W hW=>by have:=isDirectory_any W (hNy.call hW);rw [decide_eq_true hky] at this;exact this);obtain ⟨nm,hnm⟩:∃ y,y=lastN ts:=⟨_,rfl⟩;obtain ⟨n,hnn⟩:∃ y,y=ls.length:=⟨_,rfl⟩;obtain ⟨m,hmm⟩:∃ y,y=ts.length:=⟨_,rfl⟩;rw [←hnm,←hmm] at hL;rw [←hnm] at HFd;rw [←hnn] at hWt;rw [←hnn,←hmm];clear h ho hl hb hn hlt hbt hnt hE hwi hsx hsy hfd hkx hqc hqy hN hNy hns hI hfm hnm hnn hmm hky
 go_enter Tryz.func22,Tryz.ntmps22
 go_upto_region 7 with (first
  | (go_at_call 26;go_must (refine hWt.mono ?_;rintro e w1 ⟨rfl,hw1⟩;subst hw1))
  | (go_at_call 42;go_must (refine hL.mono ?_;rintro e w2 ⟨rfl,hc2⟩;have HC2:=hid hc2;clear hc2))
  | (refine store_R rfl 95 _ _ rfl w2.heap.size #[.pointer (some ⟨c.p,0,none⟩),.string nm] rfl rfl 95 _ (heap_alloc_new _ _) (by rw [szSp];rfl) rfl (by simp [Value.oneCell']) ?_;intro w3 hw3)
  | fail)
 have h23:Chg w2 w3 No:=(Chg.alloc w2 _ No).trans (kt_new hw3) (fun _ _ e=>e) (fun j hj e=>by omega);have HC3:=hid (HC2.out.tr h23);obtain ⟨gs,hgs⟩:∃ y,y=w2.heap.size:=⟨_,rfl⟩;have HG3:Hid (w3.heap[gs]? = some (.cells #[.pointer (some ⟨c.p,0,none⟩),.string nm] 95 (0,0))):=hid (by rw [hgs];exact hw3.here);have HGs:Hid (w1.heap.size≤gs):=hid (by rw [hgs];exact HC2.out.size);rw [←hgs];clear hgs hw3 h23 hWt hL HC2;have hF:=HFd.out w3 HC3.out;have c2:=HC2q.out w3 HC3.out
 go_upto_region 11 with (first
  | (at_lookup;go_must (refine wp_lookVN rfl _ _ rfl q.mb fm (i:Int) _ HFi.out rfl rfl (HM.out w3 HC3.out) HI.out ?_))
  | (refine load_R rfl 95 _ rfl gs rfl 95 #[.pointer (some ⟨c.p,0,none⟩),.string nm] _ HG3.out Tryz.underlying95 rfl (by rw [szSp];rfl) ?_)
  | (go_at_call 43;go_must (refine hF.mono ?_;rintro e w4 ⟨rfl,hc4⟩;have HC4:=hid (HC3.out.tr hc4);have HG4:=hid (hc4.keep HG3.out (fun e=>e));clear hc4))
  | fail)
 have hDr:=HDr.out w4 HC4.out;clear hF HFd HG3 c2 HC2q HM HFi
 go_wp2_with (first
  | (go_at_call 48;go_must (refine hDr.mono ?_;rintro e w5 ⟨rfl,hw5⟩;subst hw5))
  | fail)
 go_ret
 exact ⟨rfl,HC4.out⟩
set_option maxHeartbeats 3000000 in
set_option maxRecDepth 100000 in
theorem link_many {q:PC} {s:PSt} (ls ts:List ByteArray) (a b:Option Addr) (w:World) (h:IsPl w q s) (ho:OkS s) (hl:LAt w a ls) (hb:ls.length≤1000) (hn:∀ x∈ls,x.size≤1000) (hlt:LAt w b ts) (hbt:ts.length≤1000) (hnt:∀ x∈ts,x.size≤1000) (i:Nat) (hwi:walkL s ls 1=((i:Int),0)) (hE:lastE s ts=0) (x y:Nd) (hsx:s.nd (lastD s ts)=some x) (hsy:s.nd (i:Int)=some y) (hfd:findN x (lastN ts)=none) (hky : ¬ y.kind=2) (hlk:y.links=100) :
  Calls Tryz.prog 22 #[.pointer (some ⟨q.p,0,none⟩),.slice a ls.length ls.length,.slice b ts.length ts.length] w fun e w'=>e=.returned (.int .i64 142)∧Chg w w' No:=by
 have hW:=walk_any ls a ls.length w h ho hl hb hn;rw [hwi] at hW
 have hWt:Calls Tryz.prog 26 #[.pointer (some ⟨q.p,0,none⟩),.slice a ls.length ls.length] w fun e w'=>e=.returned (.tuple #[.int .i64 (i:Int),.int .i64 0])∧w'=w:=hW
 clear hW
 have hkx:x.kind=2:=by
  obtain ⟨x',h1,h2⟩:=lastE_dir hE;rw [hsx] at h1
  cases h1
  exact h2
 obtain ⟨c,hqc,hN⟩:=h.node hsx;obtain ⟨cy,hqy,hNy⟩:=h.node hsy;have hns:=lastN_size hnt;have hL:=wlast_good ts b w h ho hlt hbt hnt hE hqc;have HFd:Hid (∀ W,Chg w W No→Calls Tryz.prog 43 #[.agg #[.pointer (some ⟨c.p,0,none⟩),.string (lastN ts)]] W fun e w'=>e=.returned (.tuple #[.int .i64 ((findN x (lastN ts)).getD 0),.bool (findN x (lastN ts)).isSome])∧Chg W w' No):=hid (fun W hW=>spotfind_any (lastN ts) W (hN.call hW) hns (fun k hk=>by have:=ho.nm _ x _ k hsx hk;exact ⟨this.1,this.2.1⟩));rw [hfd] at HFd
 have hI:I64 (i:Int):=by have:=h.rng _ (by rw [hqy];intro e;cases e);exact ⟨by omega,by omega⟩
 obtain ⟨fm,hfm⟩:∃ y:Int→Option Value,y=fun y=>(q.nc y).map ptrN:=⟨_,rfl⟩
 have HFi:Hid ((match fm (i:Int) with | some v=>v | none=>.pointer none)=.pointer (some ⟨cy.p,0,none⟩)):=hid (by rw [hfm];simp only [hqy];rfl);have HM:Hid (∀ W,Chg w W No→MapV W q.mb fm):=hid (fun W hW=>by rw [hfm];exact (h.call hW).mp);have HC2q:Hid (∀ W,Chg w W No→W.cell? ⟨q.p,2,none⟩=some (.map (some q.mb))):=hid (fun W hW=>(h.call hW).c2);have HI:=hid hI;have HDr:Hid (∀ W,Chg w W No→Calls Tryz.prog 48 #[.pointer (some ⟨cy.p,0,none⟩)] W fun e w'=>e=.returned (.bool false)∧w'=W):=hid (fun W hW=>by have:=isDirectory_any W (hNy.call hW);rw [decide_eq_false hky] at this;exact this);have HLk:Hid (∀ W,Chg w W No→W.cell? ⟨cy.p,1,none⟩=some (.int .i64 y.links)):=hid (fun W hW=>(hNy.call hW).c1);obtain ⟨lk,hlkk⟩:∃ z,z=y.links:=⟨_,rfl⟩;rw [←hlkk] at HLk hlk;subst hlk;obtain ⟨nm,hnm⟩:∃ y,y=lastN ts:=⟨_,rfl⟩;obtain ⟨n,hnn⟩:∃ y,y=ls.length:=⟨_,rfl⟩;obtain ⟨m,hmm⟩:∃ y,y=ts.length:=⟨_,rfl⟩;rw [←hnm,←hmm] at hL;rw [←hnm] at HFd;rw [←hnn] at hWt;rw [←hnn,←hmm];clear h ho hl hb hn hlt hbt hnt hE hwi hsx hsy hfd hkx hqc hqy hN hNy hns hI hfm hnm hnn hmm hky hlkk
 go_enter Tryz.func22,Tryz.ntmps22
 go_upto_region 7 with (first
  | (go_at_call 26;go_must (refine hWt.mono ?_;rintro e w1 ⟨rfl,hw1⟩;subst hw1))
  | (go_at_call 42;go_must (refine hL.mono ?_;rintro e w2 ⟨rfl,hc2⟩;have HC2:=hid hc2;clear hc2))
  | (refine store_R rfl 95 _ _ rfl w2.heap.size #[.pointer (some ⟨c.p,0,none⟩),.string nm] rfl rfl 95 _ (heap_alloc_new _ _) (by rw [szSp];rfl) rfl (by simp [Value.oneCell']) ?_;intro w3 hw3)
  | fail)
 have h23:Chg w2 w3 No:=(Chg.alloc w2 _ No).trans (kt_new hw3) (fun _ _ e=>e) (fun j hj e=>by omega);have HC3:=hid (HC2.out.tr h23);obtain ⟨gs,hgs⟩:∃ y,y=w2.heap.size:=⟨_,rfl⟩;have HG3:Hid (w3.heap[gs]? = some (.cells #[.pointer (some ⟨c.p,0,none⟩),.string nm] 95 (0,0))):=hid (by rw [hgs];exact hw3.here);have HGs:Hid (w1.heap.size≤gs):=hid (by rw [hgs];exact HC2.out.size);rw [←hgs];clear hgs hw3 h23 hWt hL HC2;have hF:=HFd.out w3 HC3.out;have c2:=HC2q.out w3 HC3.out
 go_upto_region 11 with (first
  | (at_lookup;go_must (refine wp_lookVN rfl _ _ rfl q.mb fm (i:Int) _ HFi.out rfl rfl (HM.out w3 HC3.out) HI.out ?_))
  | (refine load_R rfl 95 _ rfl gs rfl 95 #[.pointer (some ⟨c.p,0,none⟩),.string nm] _ HG3.out Tryz.underlying95 rfl (by rw [szSp];rfl) ?_)
  | (go_at_call 43;go_must (refine hF.mono ?_;rintro e w4 ⟨rfl,hc4⟩;have HC4:=hid (HC3.out.tr hc4);have HG4:=hid (hc4.keep HG3.out (fun e=>e));clear hc4))
  | fail)
 have hDr:=HDr.out w4 HC4.out;clear hF HFd HG3 c2 HC2q HM HFi
 go_upto_region 13 with (first
  | (go_at_call 48;go_must (refine hDr.mono ?_;rintro e w5 ⟨rfl,hw5⟩;subst hw5))
  | fail)
 clear hDr HDr;have l1:=HLk.out _ HC4.out
 go_wp2_with fail
 go_ret
 exact ⟨rfl,HC4.out⟩
set_option maxHeartbeats 3000000 in
set_option maxRecDepth 100000 in
theorem link_place {q:PC} {s:PSt} (ls ts:List ByteArray) (a b:Option Addr) (w:World) (h:IsPl w q s) (ho:OkS s) (hl:LAt w a ls) (hb:ls.length≤1000) (hn:∀ x∈ls,x.size≤1000) (hlt:LAt w b ts) (hbt:ts.length≤1000) (hnt:∀ x∈ts,x.size≤1000) (i:Nat) (hwi:walkL s ls 1=((i:Int),0)) (hE:lastE s ts=0) (x y:Nd) (hsx:s.nd (lastD s ts)=some x) (hsy:s.nd (i:Int)=some y) (hfd:findN x (lastN ts)=none) (hky : ¬ y.kind=2) (hlk : ¬ y.links=100) (hpl:(placeL s x).2≠0) :
  Calls Tryz.prog 22 #[.pointer (some ⟨q.p,0,none⟩),.slice a ls.length ls.length,.slice b ts.length ts.length] w fun e w'=>e=.returned (.int .i64 (placeL s x).2)∧Chg w w' No:=by
 have hW:=walk_any ls a ls.length w h ho hl hb hn;rw [hwi] at hW
 have hWt:Calls Tryz.prog 26 #[.pointer (some ⟨q.p,0,none⟩),.slice a ls.length ls.length] w fun e w'=>e=.returned (.tuple #[.int .i64 (i:Int),.int .i64 0])∧w'=w:=hW
 clear hW
 have hkx:x.kind=2:=by
  obtain ⟨x',h1,h2⟩:=lastE_dir hE;rw [hsx] at h1
  cases h1
  exact h2
 obtain ⟨c,hqc,hN⟩:=h.node hsx;obtain ⟨cy,hqy,hNy⟩:=h.node hsy;have hns:=lastN_size hnt;have hL:=wlast_good ts b w h ho hlt hbt hnt hE hqc;have HFd:Hid (∀ W,Chg w W No→Calls Tryz.prog 43 #[.agg #[.pointer (some ⟨c.p,0,none⟩),.string (lastN ts)]] W fun e w'=>e=.returned (.tuple #[.int .i64 ((findN x (lastN ts)).getD 0),.bool (findN x (lastN ts)).isSome])∧Chg W w' No):=hid (fun W hW=>spotfind_any (lastN ts) W (hN.call hW) hns (fun k hk=>by have:=ho.nm _ x _ k hsx hk;exact ⟨this.1,this.2.1⟩));rw [hfd] at HFd
 have hI:I64 (i:Int):=by have:=h.rng _ (by rw [hqy];intro e;cases e);exact ⟨by omega,by omega⟩
 obtain ⟨fm,hfm⟩:∃ y:Int→Option Value,y=fun y=>(q.nc y).map ptrN:=⟨_,rfl⟩
 have HFi:Hid ((match fm (i:Int) with | some v=>v | none=>.pointer none)=.pointer (some ⟨cy.p,0,none⟩)):=hid (by rw [hfm];simp only [hqy];rfl);have HM:Hid (∀ W,Chg w W No→MapV W q.mb fm):=hid (fun W hW=>by rw [hfm];exact (h.call hW).mp);have HC2q:Hid (∀ W,Chg w W No→W.cell? ⟨q.p,2,none⟩=some (.map (some q.mb))):=hid (fun W hW=>(h.call hW).c2);have HI:=hid hI;have HDr:Hid (∀ W,Chg w W No→Calls Tryz.prog 48 #[.pointer (some ⟨cy.p,0,none⟩)] W fun e w'=>e=.returned (.bool false)∧w'=W):=hid (fun W hW=>by have:=isDirectory_any W (hNy.call hW);rw [decide_eq_false hky] at this;exact this);have HLk:Hid (∀ W,Chg w W No→W.cell? ⟨cy.p,1,none⟩=some (.int .i64 y.links)):=hid (fun W hW=>(hNy.call hW).c1);obtain ⟨lk,hlkk⟩:∃ z,z=y.links:=⟨_,rfl⟩;rw [←hlkk] at HLk hlk;have b2:(lk == 100)=false:=beq_eq_false_iff_ne.2 hlk;have HPl:Hid (∀ W,Chg w W No→Calls Tryz.prog 44 #[.pointer (some ⟨q.p,0,none⟩),.pointer (some ⟨c.p,0,none⟩)] W fun e w'=>e=.returned (.tuple #[.int .i64 (placeL s x).1,.int .i64 (placeL s x).2])∧Chg W w' No):=hid (fun W hW=>place_any W (h.call hW) (hN.call hW));obtain ⟨P,hP⟩:∃ z,z=placeL s x:=⟨_,rfl⟩;rw [←hP] at HPl hpl ⊢;obtain ⟨P1,P2⟩:=P
 simp only at HPl hpl ⊢
 have b3:(P2 == 0)=false:=beq_eq_false_iff_ne.2 hpl;clear hP;obtain ⟨nm,hnm⟩:∃ y,y=lastN ts:=⟨_,rfl⟩;obtain ⟨n,hnn⟩:∃ y,y=ls.length:=⟨_,rfl⟩;obtain ⟨m,hmm⟩:∃ y,y=ts.length:=⟨_,rfl⟩;rw [←hnm,←hmm] at hL;rw [←hnm] at HFd;rw [←hnn] at hWt;rw [←hnn,←hmm];clear h ho hl hb hn hlt hbt hnt hE hwi hsx hsy hfd hkx hqc hqy hN hNy hns hI hfm hnm hnn hmm hky hlkk hlk hpl
 go_enter Tryz.func22,Tryz.ntmps22
 go_upto_region 7 with (first
  | (go_at_call 26;go_must (refine hWt.mono ?_;rintro e w1 ⟨rfl,hw1⟩;subst hw1))
  | (go_at_call 42;go_must (refine hL.mono ?_;rintro e w2 ⟨rfl,hc2⟩;have HC2:=hid hc2;clear hc2))
  | (refine store_R rfl 95 _ _ rfl w2.heap.size #[.pointer (some ⟨c.p,0,none⟩),.string nm] rfl rfl 95 _ (heap_alloc_new _ _) (by rw [szSp];rfl) rfl (by simp [Value.oneCell']) ?_;intro w3 hw3)
  | fail)
 have h23:Chg w2 w3 No:=(Chg.alloc w2 _ No).trans (kt_new hw3) (fun _ _ e=>e) (fun j hj e=>by omega);have HC3:=hid (HC2.out.tr h23);obtain ⟨gs,hgs⟩:∃ y,y=w2.heap.size:=⟨_,rfl⟩;have HG3:Hid (w3.heap[gs]? = some (.cells #[.pointer (some ⟨c.p,0,none⟩),.string nm] 95 (0,0))):=hid (by rw [hgs];exact hw3.here);have HGs:Hid (w1.heap.size≤gs):=hid (by rw [hgs];exact HC2.out.size);rw [←hgs];clear hgs hw3 h23 hWt hL HC2;have hF:=HFd.out w3 HC3.out;have c2:=HC2q.out w3 HC3.out
 go_upto_region 11 with (first
  | (at_lookup;go_must (refine wp_lookVN rfl _ _ rfl q.mb fm (i:Int) _ HFi.out rfl rfl (HM.out w3 HC3.out) HI.out ?_))
  | (refine load_R rfl 95 _ rfl gs rfl 95 #[.pointer (some ⟨c.p,0,none⟩),.string nm] _ HG3.out Tryz.underlying95 rfl (by rw [szSp];rfl) ?_)
  | (go_at_call 43;go_must (refine hF.mono ?_;rintro e w4 ⟨rfl,hc4⟩;have HC4:=hid (HC3.out.tr hc4);have HG4:=hid (hc4.keep HG3.out (fun e=>e));clear hc4))
  | fail)
 have hDr:=HDr.out w4 HC4.out;clear hF HFd HG3 c2 HC2q HM HFi
 go_upto_region 13 with (first
  | (go_at_call 48;go_must (refine hDr.mono ?_;rintro e w5 ⟨rfl,hw5⟩;subst hw5))
  | fail)
 clear hDr HDr;have l1:=HLk.out _ HC4.out;have hPl:=HPl.out _ HC4.out;have g0:=(cell_of_row _ _ 0 _ _ _ HG4.out).trans (show _=some (Value.pointer (some ⟨c.p,0,none⟩)) from rfl)
 go_wp2_with (first
  | (go_at_call 44;go_must (refine hPl.mono ?_;rintro e w6 ⟨rfl,hc6⟩;have HC6:=hid (HC4.out.tr hc6);have HG6:=hid (hc6.keep HG4.out (fun e=>e));clear hc6))
  | fail)
 go_ret
 exact ⟨rfl,HC6.out⟩
set_option maxHeartbeats 3000000 in
set_option maxRecDepth 100000 in
theorem link_good {q:PC} {s:PSt} (ls ts:List ByteArray) (a b:Option Addr) (w:World) (h:IsPl w q s) (ho:OkS s) (hl:LAt w a ls) (hb:ls.length≤1000) (hn:∀ x∈ls,x.size≤1000) (hlt:LAt w b ts) (hbt:ts.length≤1000) (hnt:∀ x∈ts,x.size≤1000) (i:Nat) (hwi:walkL s ls 1=((i:Int),0)) (hE:lastE s ts=0) (x y:Nd) (hsx:s.nd (lastD s ts)=some x) (hsy:s.nd (i:Int)=some y) (hfd:findN x (lastN ts)=none) (hky : ¬ y.kind=2) (hlk : ¬ y.links=100) (hlr:0≤y.links∧y.links≤1000) (k:Nat) (hpl:placeL s x=((k:Int),0)) (hk:k≤x.sl.length) (hk2:k < 1068) (hcn:x.cnt < 5000) :
  Calls Tryz.prog 22 #[.pointer (some ⟨q.p,0,none⟩),.slice a ls.length ls.length,.slice b ts.length ts.length] w fun e w'=>e=.returned (.int .i64 0)∧Done2 q ((s.put (i:Int) { y with links:=y.links + 1 }).put (lastD s ts) (entN x k (lastN ts) (i:Int))) w w':=by
 have hW:=walk_any ls a ls.length w h ho hl hb hn;rw [hwi] at hW
 have hWt:Calls Tryz.prog 26 #[.pointer (some ⟨q.p,0,none⟩),.slice a ls.length ls.length] w fun e w'=>e=.returned (.tuple #[.int .i64 (i:Int),.int .i64 0])∧w'=w:=hW
 clear hW
 have hkx:x.kind=2:=by
  obtain ⟨x',h1,h2⟩:=lastE_dir hE;rw [hsx] at h1
  cases h1
  exact h2
 obtain ⟨c,hqc,hN⟩:=h.node hsx;obtain ⟨cy,hqy,hNy⟩:=h.node hsy;have hns:=lastN_size hnt;have hL:=wlast_good ts b w h ho hlt hbt hnt hE hqc;have HFd:Hid (∀ W,Chg w W No→Calls Tryz.prog 43 #[.agg #[.pointer (some ⟨c.p,0,none⟩),.string (lastN ts)]] W fun e w'=>e=.returned (.tuple #[.int .i64 ((findN x (lastN ts)).getD 0),.bool (findN x (lastN ts)).isSome])∧Chg W w' No):=hid (fun W hW=>spotfind_any (lastN ts) W (hN.call hW) hns (fun k hk=>by have:=ho.nm _ x _ k hsx hk;exact ⟨this.1,this.2.1⟩));rw [hfd] at HFd
 have hI:I64 (i:Int):=by have:=h.rng _ (by rw [hqy];intro e;cases e);exact ⟨by omega,by omega⟩
 obtain ⟨fm,hfm⟩:∃ y:Int→Option Value,y=fun y=>(q.nc y).map ptrN:=⟨_,rfl⟩
 have HFi:Hid ((match fm (i:Int) with | some v=>v | none=>.pointer none)=.pointer (some ⟨cy.p,0,none⟩)):=hid (by rw [hfm];simp only [hqy];rfl);have HM:Hid (∀ W,Chg w W No→MapV W q.mb fm):=hid (fun W hW=>by rw [hfm];exact (h.call hW).mp);have HC2q:Hid (∀ W,Chg w W No→W.cell? ⟨q.p,2,none⟩=some (.map (some q.mb))):=hid (fun W hW=>(h.call hW).c2);have HI:=hid hI;have HDr:Hid (∀ W,Chg w W No→Calls Tryz.prog 48 #[.pointer (some ⟨cy.p,0,none⟩)] W fun e w'=>e=.returned (.bool false)∧w'=W):=hid (fun W hW=>by have:=isDirectory_any W (hNy.call hW);rw [decide_eq_false hky] at this;exact this);have HLk:Hid (∀ W,Chg w W No→W.cell? ⟨cy.p,1,none⟩=some (.int .i64 y.links)):=hid (fun W hW=>(hNy.call hW).c1);obtain ⟨lk,hlkk⟩:∃ z,z=y.links:=⟨_,rfl⟩;rw [←hlkk] at HLk hlk hlr;have b2:(lk == 100)=false:=beq_eq_false_iff_ne.2 hlk;have HPl:Hid (∀ W,Chg w W No→Calls Tryz.prog 44 #[.pointer (some ⟨q.p,0,none⟩),.pointer (some ⟨c.p,0,none⟩)] W fun e w'=>e=.returned (.tuple #[.int .i64 (placeL s x).1,.int .i64 (placeL s x).2])∧Chg W w' No):=hid (fun W hW=>place_any W (h.call hW) (hN.call hW));rw [hpl] at HPl
 have hdi : ¬ lastD s ts=(i:Int):=fun e=>by rw [e,hsy] at hsx;cases hsx;exact hky hkx
 have HFz:Hid (∀ W,Chg w W No→W.frozen? ⟨cy.p,1,none⟩=false):=hid (fun W hW=>frozen_of_row W cy.p 1 _ _ (hNy.call hW).me)
 have HTn:Hid (∀ W,Chg w W No→IsPl (W.setCell ⟨cy.p,1,none⟩ (.int .i64 (lk + 1))) (q.put (i:Int) cy) (s.put (i:Int) { y with links:=y.links + 1 })∧Chg W (W.setCell ⟨cy.p,1,none⟩ (.int .i64 (lk + 1))) (· = cy.p)):=hid (fun W hW=>by
  obtain ⟨k1,k2⟩:=(hNy.call hW).linked (lk + 1);rw [hlkk] at k1 k2 ⊢
  exact ⟨(h.call hW).turn hqy k1 rfl rfl rfl rfl (.inl rfl) (k2.mono fun j _ e=>.inl e),k2⟩)
 have HEn:Hid (∀ W,w.heap.size≤W.heap.size→IsPl W (q.put (i:Int) cy) (s.put (i:Int) { y with links:=y.links + 1 })→Calls Tryz.prog 46 #[.pointer (some ⟨c.p,0,none⟩),.int .i64 (k:Int),.string (lastN ts),.int .i64 (i:Int)] W fun e w'=>e=.returned (.tuple #[])∧(∃ q',IsPl w' q' ((s.put (i:Int) { y with links:=y.links + 1 }).put (lastD s ts) (entN x k (lastN ts) (i:Int)))∧Nxt w q q')∧Chg W w' (BlkN c)):=hid (fun W hs hW=>by
  have hq2:(q.put (i:Int) cy).nc (lastD s ts)=some c:=by rw [PC.put_ne _ _ hdi];exact hqc
  have hx2:(s.put (i:Int) { y with links:=y.links + 1 }).nd (lastD s ts)=some x:=by rw [PSt.put_ne _ _ hdi];exact hsx
  refine (enter_any k (lastN ts) (i:Int) W (hW.at hq2 hx2) hk hk2 hcn hns (by rw [h.bs _ _ hqc];exact Nat.zero_le _)).mono ?_
  rintro e w' ⟨he,⟨v',h1,h2⟩,h3⟩
  exact ⟨he,⟨_,hW.turn hq2 h1 rfl rfl rfl rfl h2 h3,((Sub.put hqy).then (Nxt.put hq2 h2)).from hs⟩,h3⟩)
 have HB:Hid ((∀ j,j=cy.p→PBlk q j)∧∀ j,BlkN c j→PBlk q j):=hid ⟨fun j e=>PBlk.node hqy (.inl e),fun j e=>PBlk.node hqc e⟩;have HLtc:Hid (cy.p < w.heap.size∧c.p < w.heap.size):=hid ⟨slt hNy.me,slt hN.me⟩;obtain ⟨ST,hST⟩:∃ z,z=(s.put (i:Int) { y with links:=y.links + 1 }).put (lastD s ts) (entN x k (lastN ts) (i:Int)):=⟨_,rfl⟩;obtain ⟨s1,hs1⟩:∃ z,z=s.put (i:Int) { y with links:=y.links + 1 }:=⟨_,rfl⟩;rw [←hST] at HEn ⊢;rw [←hs1] at HEn HTn
 have wl:wrap64 (lk + 1)=lk + 1:=by unfold wrap64;omega
 obtain ⟨nm,hnm⟩:∃ y,y=lastN ts:=⟨_,rfl⟩;obtain ⟨n,hnn⟩:∃ y,y=ls.length:=⟨_,rfl⟩;obtain ⟨m,hmm⟩:∃ y,y=ts.length:=⟨_,rfl⟩;rw [←hnm,←hmm] at hL;rw [←hnm] at HFd HEn;rw [←hnn] at hWt;rw [←hnn,←hmm];clear h ho hl hb hn hlt hbt hnt hE hwi hsx hsy hfd hkx hqc hqy hN hNy hns hI hfm hnm hnn hmm hky hlkk hlk hlr hpl hk hk2 hcn hdi hST hs1
 go_enter Tryz.func22,Tryz.ntmps22
 go_upto_region 7 with (first
  | (go_at_call 26;go_must (refine hWt.mono ?_;rintro e w1 ⟨rfl,hw1⟩;subst hw1))
  | (go_at_call 42;go_must (refine hL.mono ?_;rintro e w2 ⟨rfl,hc2⟩;have HC2:=hid hc2;clear hc2))
  | (refine store_R rfl 95 _ _ rfl w2.heap.size #[.pointer (some ⟨c.p,0,none⟩),.string nm] rfl rfl 95 _ (heap_alloc_new _ _) (by rw [szSp];rfl) rfl (by simp [Value.oneCell']) ?_;intro w3 hw3)
  | fail)
 have h23:Chg w2 w3 No:=(Chg.alloc w2 _ No).trans (kt_new hw3) (fun _ _ e=>e) (fun j hj e=>by omega);have HC3:=hid (HC2.out.tr h23);obtain ⟨gs,hgs⟩:∃ y,y=w2.heap.size:=⟨_,rfl⟩;have HG3:Hid (w3.heap[gs]? = some (.cells #[.pointer (some ⟨c.p,0,none⟩),.string nm] 95 (0,0))):=hid (by rw [hgs];exact hw3.here);have HGs:Hid (w1.heap.size≤gs):=hid (by rw [hgs];exact HC2.out.size);rw [←hgs];clear hgs hw3 h23 hWt hL HC2;have hF:=HFd.out w3 HC3.out;have c2:=HC2q.out w3 HC3.out
 go_upto_region 11 with (first
  | (at_lookup;go_must (refine wp_lookVN rfl _ _ rfl q.mb fm (i:Int) _ HFi.out rfl rfl (HM.out w3 HC3.out) HI.out ?_))
  | (refine load_R rfl 95 _ rfl gs rfl 95 #[.pointer (some ⟨c.p,0,none⟩),.string nm] _ HG3.out Tryz.underlying95 rfl (by rw [szSp];rfl) ?_)
  | (go_at_call 43;go_must (refine hF.mono ?_;rintro e w4 ⟨rfl,hc4⟩;have HC4:=hid (HC3.out.tr hc4);have HG4:=hid (hc4.keep HG3.out (fun e=>e));clear hc4))
  | fail)
 have hDr:=HDr.out w4 HC4.out;clear hF HFd HG3 c2 HC2q HM HFi
 go_upto_region 13 with (first
  | (go_at_call 48;go_must (refine hDr.mono ?_;rintro e w5 ⟨rfl,hw5⟩;subst hw5))
  | fail)
 clear hDr HDr;have l1:=HLk.out _ HC4.out;have hPl:=HPl.out _ HC4.out;have g0:=(cell_of_row _ _ 0 _ _ _ HG4.out).trans (show _=some (Value.pointer (some ⟨c.p,0,none⟩)) from rfl)
 go_upto_region 18 with (first
  | (go_at_call 44;go_must (refine hPl.mono ?_;rintro e w6 ⟨rfl,hc6⟩;have HC6:=hid (HC4.out.tr hc6);have HG6:=hid (hc6.keep HG4.out (fun e=>e));clear hc6))
  | fail)
 clear hPl HPl l1 g0 HG4 HC4;have l1:=HLk.out _ HC6.out;have fz:=HFz.out _ HC6.out;obtain ⟨w7,hw7⟩:∃ z,z=w6.setCell ⟨cy.p,1,none⟩ (.int .i64 (lk + 1)):=⟨_,rfl⟩
 go_upto_region 19 with fail
 rw [←hw7];have ht:=HTn.out _ HC6.out;rw [←hw7] at ht;obtain ⟨hp7,hc7⟩:=ht;have hg7:w7.heap[gs]? = some (.cells #[.pointer (some ⟨c.p,0,none⟩),.string nm] 95 (0,0)):=hc7.keep HG6.out (fun e=>by have:=HLtc.out;have:=HGs.out;omega);have g0:=(cell_of_row _ _ 0 _ _ _ hg7).trans (show _=some (Value.pointer (some ⟨c.p,0,none⟩)) from rfl);have g1:=(cell_of_row _ _ 1 _ _ _ hg7).trans (show _=some (Value.string nm) from rfl);have hEn:=HEn.out w7 (Nat.le_trans HC6.out.size hc7.size) hp7;have HC7:Hid (Chg w1 w7 (PBlk q)):=hid (HC6.out.trans hc7 (fun _ _ e=>e.elim) (fun j _ e=>HB.out.1 j e));clear l1 fz hw7 hp7 hc7 hg7
 go_wp2_with (first
  | (go_at_call 46;go_must (refine hEn.mono ?_;rintro e w8 ⟨rfl,hp8,hc8⟩;have HP8:=hid hp8;have HC8:=hid hc8;clear hp8 hc8))
  | fail)
 go_ret
 exact ⟨rfl,HP8.out,HC7.out.trans HC8.out (fun _ _ e=>e) (fun j _ e=>HB.out.2 j e)⟩
end Go.Proofs.YtmgfilacepnjlaaGreatDoor
