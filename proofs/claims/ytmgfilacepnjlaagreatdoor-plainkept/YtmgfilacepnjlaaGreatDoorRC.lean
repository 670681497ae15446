/-
 package plain: unlink, rmdir.
-/
import Derived.Test.YtmgfilacepnjlaaGreatDoorRB
namespace Go.Proofs.YtmgfilacepnjlaaGreatDoor
open Go.RowKit

theorem LAt.call {w w':World} {a:Option Addr} {ls:List ByteArray} (hl:LAt w a ls) (hc:Chg w w' No):LAt w' a ls:=by
 rcases hl with e | ⟨g,k1,k2,k3⟩
 ·exact .inl e
 ·exact .inr ⟨g,k1,Nat.lt_of_lt_of_le k2 hc.size,fun j x hj=>by
   have:=k3 j x hj;unfold World.cell? at this ⊢;rw [hc.block _ k2 (fun e=>e)]
   exact this⟩
theorem IsPl.node {w:World} {q:PC} {s:PSt} (h:IsPl w q s) {i:Int} {x:Nd} (hx:s.nd i=some x):∃ c,q.nc i=some c∧IsN w c x:=by
 cases hq:q.nc i with
 | none=>rw [h.dom i hq] at hx;cases hx
 | some c =>
  obtain ⟨x',h1,h2⟩:=h.nd i c hq;rw [hx] at h1
  cases h1
  exact ⟨c,rfl,h2⟩
theorem IsPl.at {w:World} {q:PC} {s:PSt} (h:IsPl w q s) {i:Int} {c:NC} {x:Nd} (hq:q.nc i=some c) (hx:s.nd i=some x):IsN w c x:=by
 obtain ⟨x',h1,h2⟩:=h.nd i c hq;rw [hx] at h1
 cases h1
 exact h2
theorem lastE_dir {s:PSt} {ls:List ByteArray} (h:lastE s ls=0):∃ x,s.nd (lastD s ls)=some x∧x.kind=2:=by
 unfold lastE at h
 split at h
 ·cases h
 ·split at h
  ·cases hx:s.nd (lastD s ls) with
   | none=>rw [hx] at h;cases h
   | some x =>
    simp only [hx] at h
    split at h
    ·rename_i hk;exact ⟨x,rfl,hk⟩
    ·cases h
  ·rename_i h1
   exact absurd h h1
theorem lastN_size {ls:List ByteArray} (hn:∀ x∈ls,x.size≤1000):(lastN ls).size≤1000:=by
 unfold lastN;rw [List.getD_eq_getElem?_getD]
 cases e:ls[ls.length - 1]? with
 | none=>decide
 | some x=>exact hn x (List.mem_of_getElem? e)
def Done (q:PC) (s':PSt) (w w':World):Prop:=(∃ q',IsPl w' q' s'∧Sub q q')∧Chg w w' (fun j=>j=q.mb∨∃ i c,q.nc i=some c∧BlkN c j)
set_option maxHeartbeats 2000000 in
set_option maxRecDepth 100000 in
theorem unlink_bad {q:PC} {s:PSt} (ls:List ByteArray) (a:Option Addr) (w:World) (h:IsPl w q s) (ho:OkS s) (hl:LAt w a ls) (hb:ls.length≤1000) (hn:∀ x∈ls,x.size≤1000) (hE:lastE s ls≠0) :
  Calls Tryz.prog 23 #[.pointer (some ⟨q.p,0,none⟩),.slice a ls.length ls.length] w fun e w'=>e=.returned (.int .i64 (lastE s ls))∧Chg w w' No:=by
 have hW:=wlast_bad ls a w h ho hl hb hn hE;obtain ⟨E,hEE⟩:∃ y,y=lastE s ls:=⟨_,rfl⟩;rw [←hEE] at hW hE ⊢;obtain ⟨n,hnn⟩:∃ y,y=ls.length:=⟨_,rfl⟩;rw [←hnn] at hW ⊢;have b1:(E == 0)=false:=beq_eq_false_iff_ne.2 hE;clear h ho hl hb hn hEE hnn
 go_enter Tryz.func23,Tryz.ntmps23
 go_wp2_with (first
  | (go_at_call 42;go_must (refine hW.mono ?_;rintro e w2 ⟨rfl,hc2⟩;have HC2:=hid hc2;clear hc2))
  | (refine store_R rfl 95 _ _ rfl w2.heap.size zSpot rfl rfl 95 _ (heap_alloc_new _ _) (by rw [szSp];rfl) rfl (by simp [zSpot,Value.oneCell']) ?_;intro w3 hw3;have HC3:=hid ((HC2.out.tr (Chg.alloc w2 (.cells zSpot 95) No)).trans (kt_new hw3) (fun _ _ e=>e) (fun j hj e=>by have:=HC2.out.size;omega));clear hw3)
  | fail)
 go_ret
 exact ⟨rfl,HC3.out⟩
set_option maxHeartbeats 2000000 in
set_option maxRecDepth 100000 in
theorem unlink_none {q:PC} {s:PSt} (ls:List ByteArray) (a:Option Addr) (w:World) (h:IsPl w q s) (ho:OkS s) (hl:LAt w a ls) (hb:ls.length≤1000) (hn:∀ x∈ls,x.size≤1000) (hE:lastE s ls=0) (hf:∀ x,s.nd (lastD s ls)=some x→x.nm (lastN ls)=none) :
  Calls Tryz.prog 23 #[.pointer (some ⟨q.p,0,none⟩),.slice a ls.length ls.length] w fun e w'=>e=.returned (.int .i64 110)∧Chg w w' No:=by
 obtain ⟨x,hsx,hkx⟩:=lastE_dir hE;obtain ⟨c,hqc,hN⟩:=h.node hsx;have hns:=lastN_size hn;have hW:=wlast_good ls a w h ho hl hb hn hE hqc;have HFd:Hid (∀ W,Chg w W No→Calls Tryz.prog 43 #[.agg #[.pointer (some ⟨c.p,0,none⟩),.string (lastN ls)]] W fun e w'=>e=.returned (.tuple #[.int .i64 ((findN x (lastN ls)).getD 0),.bool (findN x (lastN ls)).isSome])∧Chg W w' No):=hid (fun W hW=>spotfind_any (lastN ls) W (hN.call hW) hns (fun k hk=>by have:=ho.nm _ x _ k hsx hk;exact ⟨this.1,this.2.1⟩))
 have hfn:findN x (lastN ls)=none:=by unfold findN;rw [hf x hsx];rfl
 rw [hfn] at HFd;have HP:=hid h;obtain ⟨nm,hnm⟩:∃ y,y=lastN ls:=⟨_,rfl⟩;obtain ⟨n,hnn⟩:∃ y,y=ls.length:=⟨_,rfl⟩;rw [←hnm] at hW HFd;rw [←hnn] at hW ⊢;clear h ho hl hb hn hE hsx hkx hqc hN hns hfn hnm hnn hf
 go_enter Tryz.func23,Tryz.ntmps23
 go_upto_region 4 with (first
  | (go_at_call 42;go_must (refine hW.mono ?_;rintro e w2 ⟨rfl,hc2⟩;have HC2:=hid hc2;clear hc2))
  | (refine store_R rfl 95 _ _ rfl w2.heap.size #[.pointer (some ⟨c.p,0,none⟩),.string nm] rfl rfl 95 _ (heap_alloc_new _ _) (by rw [szSp];rfl) rfl (by simp [Value.oneCell']) ?_;intro w3 hw3)
  | fail)
 have h23:Chg w2 w3 No:=(Chg.alloc w2 _ No).trans (kt_new hw3) (fun _ _ e=>e) (fun j hj e=>by omega);have HC3:=hid (HC2.out.tr h23);obtain ⟨gs,hgs⟩:∃ y,y=w2.heap.size:=⟨_,rfl⟩;have HG3:Hid (w3.heap[gs]? = some (.cells #[.pointer (some ⟨c.p,0,none⟩),.string nm] 95 (0,0))):=hid (by rw [hgs];exact hw3.here);have HGs:Hid (w.heap.size≤gs):=hid (by rw [hgs];exact HC2.out.size);rw [←hgs];clear hgs hw3 h23 hW HC2;have hF:=HFd.out w3 HC3.out
 go_wp2_with (first
  | (refine load_R rfl 95 _ rfl gs rfl 95 #[.pointer (some ⟨c.p,0,none⟩),.string nm] _ HG3.out Tryz.underlying95 rfl (by rw [szSp];rfl) ?_)
  | (go_at_call 43;go_must (refine hF.mono ?_;rintro e w4 ⟨rfl,hc4⟩;have HC4:=hid (HC3.out.tr hc4);have HG4:=hid (hc4.keep HG3.out (fun e=>e));clear hc4))
  | fail)
 go_ret
 exact ⟨rfl,HC4.out⟩
set_option maxHeartbeats 2000000 in
set_option maxRecDepth 100000 in
theorem unlink_kind {q:PC} {s:PSt} (ls:List ByteArray) (a:Option Addr) (w:World) (h:IsPl w q s) (ho:OkS s) (hl:LAt w a ls) (hb:ls.length≤1000) (hn:∀ x∈ls,x.size≤1000) (hE:lastE s ls=0) (i k:Nat) (x y:Nd) (hsx:s.nd (lastD s ls)=some x) (hnk:x.nm (lastN ls)=some (k:Int)) (hki:x.sl.getD k 0=(i:Int)) (hsy:s.nd (i:Int)=some y) (hky:y.kind=2) :
  Calls Tryz.prog 23 #[.pointer (some ⟨q.p,0,none⟩),.slice a ls.length ls.length] w fun e w'=>e=.returned (.int .i64 102)∧Chg w w' No:=by
 have hkx:x.kind=2:=by
  obtain ⟨x',h1,h2⟩:=lastE_dir hE;rw [hsx] at h1
  cases h1
  exact h2
 obtain ⟨c,hqc,hN⟩:=h.node hsx;have hns:=lastN_size hn;have hW:=wlast_good ls a w h ho hl hb hn hE hqc;have HFd:Hid (∀ W,Chg w W No→Calls Tryz.prog 43 #[.agg #[.pointer (some ⟨c.p,0,none⟩),.string (lastN ls)]] W fun e w'=>e=.returned (.tuple #[.int .i64 ((findN x (lastN ls)).getD 0),.bool (findN x (lastN ls)).isSome])∧Chg W w' No):=hid (fun W hW=>spotfind_any (lastN ls) W (hN.call hW) hns (fun k hk=>by have:=ho.nm _ x _ k hsx hk;exact ⟨this.1,this.2.1⟩))
 have hfn:findN x (lastN ls)=some (i:Int):=by unfold findN;rw [hnk];show some (x.sl.getD (k:Int).toNat 0)=_;rw [Int.toNat_natCast,hki]
 rw [hfn] at HFd;obtain ⟨cy,hqy,hNy⟩:=h.node hsy
 have hI:I64 (i:Int):=by have:=h.rng _ (by rw [hqy];intro e;cases e);exact ⟨by omega,by omega⟩
 obtain ⟨fm,hfm⟩:∃ y:Int→Option Value,y=fun y=>(q.nc y).map ptrN:=⟨_,rfl⟩
 have HFi:Hid ((match fm (i:Int) with | some v=>v | none=>.pointer none)=.pointer (some ⟨cy.p,0,none⟩)):=hid (by rw [hfm];simp only [hqy];rfl);have HM:Hid (∀ W,Chg w W No→MapV W q.mb fm):=hid (fun W hW=>by rw [hfm];exact (h.call hW).mp);have HC2q:Hid (∀ W,Chg w W No→W.cell? ⟨q.p,2,none⟩=some (.map (some q.mb))):=hid (fun W hW=>(h.call hW).c2);have HDr:Hid (∀ W,Chg w W No→Calls Tryz.prog 48 #[.pointer (some ⟨cy.p,0,none⟩)] W fun e w'=>e=.returned (.bool true)∧w'=W):=hid (fun W hW=>by have:=isDirectory_any W (hNy.call hW);rw [decide_eq_true hky] at this;exact this);have HI:=hid hI;have HP:=hid h;obtain ⟨nm,hnm⟩:∃ y,y=lastN ls:=⟨_,rfl⟩;obtain ⟨n,hnn⟩:∃ y,y=ls.length:=⟨_,rfl⟩;rw [←hnm] at hW HFd;rw [←hnn] at hW ⊢;clear h ho hl hb hn hE hsx hkx hqc hN hns hfn hnm hnn hnk hki hsy hky hqy hNy hI hfm
 go_enter Tryz.func23,Tryz.ntmps23
 go_upto_region 4 with (first
  | (go_at_call 42;go_must (refine hW.mono ?_;rintro e w2 ⟨rfl,hc2⟩;have HC2:=hid hc2;clear hc2))
  | (refine store_R rfl 95 _ _ rfl w2.heap.size #[.pointer (some ⟨c.p,0,none⟩),.string nm] rfl rfl 95 _ (heap_alloc_new _ _) (by rw [szSp];rfl) rfl (by simp [Value.oneCell']) ?_;intro w3 hw3)
  | fail)
 have h23:Chg w2 w3 No:=(Chg.alloc w2 _ No).trans (kt_new hw3) (fun _ _ e=>e) (fun j hj e=>by omega);have HC3:=hid (HC2.out.tr h23);obtain ⟨gs,hgs⟩:∃ y,y=w2.heap.size:=⟨_,rfl⟩;have HG3:Hid (w3.heap[gs]? = some (.cells #[.pointer (some ⟨c.p,0,none⟩),.string nm] 95 (0,0))):=hid (by rw [hgs];exact hw3.here);have HGs:Hid (w.heap.size≤gs):=hid (by rw [hgs];exact HC2.out.size);rw [←hgs];clear hgs hw3 h23 hW HC2;have hF:=HFd.out w3 HC3.out
 go_upto_region 7 with (first
  | (refine load_R rfl 95 _ rfl gs rfl 95 #[.pointer (some ⟨c.p,0,none⟩),.string nm] _ HG3.out Tryz.underlying95 rfl (by rw [szSp];rfl) ?_)
  | (go_at_call 43;go_must (refine hF.mono ?_;rintro e w4 ⟨rfl,hc4⟩;have HC4:=hid (HC3.out.tr hc4);have HG4:=hid (hc4.keep HG3.out (fun e=>e));clear hc4))
  | fail)
 have c2:=HC2q.out w4 HC4.out;have hDr:=HDr.out w4 HC4.out;clear hF HFd HC3 HG3
 go_wp2_with (first
  | (at_lookup;go_must (refine wp_lookVN rfl _ _ rfl q.mb fm (i:Int) _ HFi.out rfl rfl (HM.out w4 HC4.out) HI.out ?_))
  | (go_at_call 48;go_must (refine hDr.mono ?_;rintro e w5 ⟨rfl,rfl⟩))
  | fail)
 go_ret
 exact ⟨rfl,HC4.out⟩
set_option maxHeartbeats 2000000 in
set_option maxRecDepth 100000 in
theorem unlink_good {q:PC} {s:PSt} (ls:List ByteArray) (a:Option Addr) (w:World) (h:IsPl w q s) (ho:OkS s) (hl:LAt w a ls) (hb:ls.length≤1000) (hn:∀ x∈ls,x.size≤1000) (hE:lastE s ls=0) (i k:Nat) (x y:Nd) (hsx:s.nd (lastD s ls)=some x) (hnk:x.nm (lastN ls)=some (k:Int)) (hki:x.sl.getD k 0=(i:Int)) (hsy:s.nd (i:Int)=some y) (hky : ¬ y.kind=2) (hlk:1≤y.links∧y.links≤1000) :
  Calls Tryz.prog 23 #[.pointer (some ⟨q.p,0,none⟩),.slice a ls.length ls.length] w fun e w'=>e=.returned (.int .i64 0)∧Done q (loseS (s.put (lastD s ls) (leaN x k (lastN ls))) (i:Int) y) w w':=by
 have hkx:x.kind=2:=by
  obtain ⟨x',h1,h2⟩:=lastE_dir hE;rw [hsx] at h1
  cases h1
  exact h2
 obtain ⟨c,hqc,hN⟩:=h.node hsx;have hns:=lastN_size hn;have hW:=wlast_good ls a w h ho hl hb hn hE hqc;have HFd:Hid (∀ W,Chg w W No→Calls Tryz.prog 43 #[.agg #[.pointer (some ⟨c.p,0,none⟩),.string (lastN ls)]] W fun e w'=>e=.returned (.tuple #[.int .i64 ((findN x (lastN ls)).getD 0),.bool (findN x (lastN ls)).isSome])∧Chg W w' No):=hid (fun W hW=>spotfind_any (lastN ls) W (hN.call hW) hns (fun k hk=>by have:=ho.nm _ x _ k hsx hk;exact ⟨this.1,this.2.1⟩))
 have hfn:findN x (lastN ls)=some (i:Int):=by unfold findN;rw [hnk];show some (x.sl.getD (k:Int).toNat 0)=_;rw [Int.toNat_natCast,hki]
 rw [hfn] at HFd;obtain ⟨cy,hqy,hNy⟩:=h.node hsy
 have hI:I64 (i:Int):=by have:=h.rng _ (by rw [hqy];intro e;cases e);exact ⟨by omega,by omega⟩
 obtain ⟨fm,hfm⟩:∃ y:Int→Option Value,y=fun y=>(q.nc y).map ptrN:=⟨_,rfl⟩
 have HFi:Hid ((match fm (i:Int) with | some v=>v | none=>.pointer none)=.pointer (some ⟨cy.p,0,none⟩)):=hid (by rw [hfm];simp only [hqy];rfl);have HM:Hid (∀ W,Chg w W No→MapV W q.mb fm):=hid (fun W hW=>by rw [hfm];exact (h.call hW).mp);have HC2q:Hid (∀ W,Chg w W No→W.cell? ⟨q.p,2,none⟩=some (.map (some q.mb))):=hid (fun W hW=>(h.call hW).c2);have HDr:Hid (∀ W,Chg w W No→Calls Tryz.prog 48 #[.pointer (some ⟨cy.p,0,none⟩)] W fun e w'=>e=.returned (.bool false)∧w'=W):=hid (fun W hW=>by have:=isDirectory_any W (hNy.call hW);rw [decide_eq_false hky] at this;exact this);have HI:=hid hI
 have hdi : ¬ (i:Int)=lastD s ls:=fun e=>by
  rw [e,hsx] at hsy
  cases hsy
  exact hky hkx
 have HLv:Hid (∀ W,Chg w W No→Calls Tryz.prog 49 #[.pointer (some ⟨c.p,0,none⟩),.string (lastN ls)] W fun e w'=>e=.returned (.tuple #[])∧IsPl w' (q.put (lastD s ls) c) (s.put (lastD s ls) (leaN x k (lastN ls)))∧Chg W w' (BlkN c)):=hid (fun W hW=>by
  have hk2:=ho.nm _ x _ _ hsx hnk;refine (leave_any k (lastN ls) W (hN.call hW) hns hnk (by omega)).mono ?_
  rintro e w' ⟨he,h1,h2⟩
  exact ⟨he,(h.call hW).turn hqc h1 rfl rfl rfl rfl (.inl rfl) h2,h2⟩)
 have HLo:Hid (∀ W,IsPl W (q.put (lastD s ls) c) (s.put (lastD s ls) (leaN x k (lastN ls)))→Calls Tryz.prog 50 #[.pointer (some ⟨q.p,0,none⟩),.int .i64 (i:Int)] W fun e w'=>e=.returned (.tuple #[])∧(∃ q',IsPl w' q' (loseS (s.put (lastD s ls) (leaN x k (lastN ls))) (i:Int) y)∧Sub q q')∧Chg W w' (fun j=>j=q.mb∨BlkN cy j)):=hid (fun W hW=>by
  refine (lose_any (c:=cy) (x:=y) (i:Int) W hW (by rw [PC.put_ne _ _ hdi];exact hqy) (by rw [PSt.put_ne _ _ hdi];exact hsy) hlk).mono ?_
  rintro e w' ⟨he,⟨q',h1,h2⟩,h3⟩
  exact ⟨he,⟨q',h1,(Sub.put hqc).tr h2⟩,h3⟩)
 have HQq:=hid hqc;have HQy:=hid hqy;have HP:=hid h;obtain ⟨nm,hnm⟩:∃ y,y=lastN ls:=⟨_,rfl⟩;obtain ⟨n,hnn⟩:∃ y,y=ls.length:=⟨_,rfl⟩;rw [←hnm] at hW HFd HLv HLo;rw [←hnn] at hW ⊢;rw [←hnm];obtain ⟨D,hD⟩:∃ y,y=lastD s ls:=⟨_,rfl⟩;rw [←hD] at HLv HLo HQq ⊢;obtain ⟨s1,hs1⟩:∃ z,z=s.put D (leaN x k nm):=⟨_,rfl⟩;rw [←hs1] at HLv HLo ⊢;obtain ⟨ST,hST⟩:∃ z,z=loseS s1 (i:Int) y:=⟨_,rfl⟩;rw [←hST] at HLo ⊢;clear h ho hl hb hn hE hsx hkx hqc hN hns hfn hnm hnn hnk hki hsy hky hqy hNy hI hfm hlk hdi hD hST hs1
 go_enter Tryz.func23,Tryz.ntmps23
 go_upto_region 4 with (first
  | (go_at_call 42;go_must (refine hW.mono ?_;rintro e w2 ⟨rfl,hc2⟩;have HC2:=hid hc2;clear hc2))
  | (refine store_R rfl 95 _ _ rfl w2.heap.size #[.pointer (some ⟨c.p,0,none⟩),.string nm] rfl rfl 95 _ (heap_alloc_new _ _) (by rw [szSp];rfl) rfl (by simp [Value.oneCell']) ?_;intro w3 hw3)
  | fail)
 have h23:Chg w2 w3 No:=(Chg.alloc w2 _ No).trans (kt_new hw3) (fun _ _ e=>e) (fun j hj e=>by omega);have HC3:=hid (HC2.out.tr h23);obtain ⟨gs,hgs⟩:∃ y,y=w2.heap.size:=⟨_,rfl⟩;have HG3:Hid (w3.heap[gs]? = some (.cells #[.pointer (some ⟨c.p,0,none⟩),.string nm] 95 (0,0))):=hid (by rw [hgs];exact hw3.here);have HGs:Hid (w.heap.size≤gs):=hid (by rw [hgs];exact HC2.out.size);rw [←hgs];clear hgs hw3 h23 hW HC2;have hF:=HFd.out w3 HC3.out
 go_upto_region 7 with (first
  | (refine load_R rfl 95 _ rfl gs rfl 95 #[.pointer (some ⟨c.p,0,none⟩),.string nm] _ HG3.out Tryz.underlying95 rfl (by rw [szSp];rfl) ?_)
  | (go_at_call 43;go_must (refine hF.mono ?_;rintro e w4 ⟨rfl,hc4⟩;have HC4:=hid (HC3.out.tr hc4);have HG4:=hid (hc4.keep HG3.out (fun e=>e));clear hc4))
  | fail)
 have c2:=HC2q.out w4 HC4.out;have hDr:=HDr.out w4 HC4.out;clear hF HFd HC3 HG3
 go_upto_region 9 with (first
  | (at_lookup;go_must (refine wp_lookVN rfl _ _ rfl q.mb fm (i:Int) _ HFi.out rfl rfl (HM.out w4 HC4.out) HI.out ?_))
  | (go_at_call 48;go_must (refine hDr.mono ?_;rintro e w5 ⟨rfl,rfl⟩))
  | fail)
 have hLv:=HLv.out _ HC4.out;have g0:w5.cell? ⟨gs,0,none⟩=some (.pointer (some ⟨c.p,0,none⟩)):=(cell_of_row _ _ _ _ _ _ HG4.out).trans rfl;have g1:w5.cell? ⟨gs,1,none⟩=some (.string nm):=(cell_of_row _ _ _ _ _ _ HG4.out).trans rfl;clear hDr c2
 go_upto_region 10 with (first
  | (go_at_call 49;go_must (refine hLv.mono ?_;rintro e w6 ⟨rfl,hp6,hc6⟩;have HP6:=hid hp6;have HC6b:=hid hc6;clear hp6 hc6))
  | fail)
 have hLo:=HLo.out w6 HP6.out;clear hLv g0 g1
 go_wp2_with (first
  | (go_at_call 50;go_must (refine hLo.mono ?_;rintro e w7 ⟨rfl,hp7,hc7⟩;have HP7:=hid hp7;have HC7:=hid hc7;clear hp7 hc7))
  | fail)
 go_ret
 refine ⟨rfl,HP7.out,(HC4.out.trans HC6b.out (c:=fun j=>j=q.mb∨∃ i c,q.nc i=some c∧BlkN c j) (fun _ _ e=>e.elim) (fun j _ e=>.inr ⟨_,_,HQq.out,e⟩)).trans HC7.out (fun _ _ e=>e) (fun j _ e => ?_)⟩
 rcases e with e | e
 ·exact .inl e
 ·exact .inr ⟨_,_,HQy.out,e⟩
theorem MapT.lenT {w:World} {b n:Nat} {f:ByteArray→Option Int} (h:MapT w b f n):∃ m:Nat,m≤n∧(((∃ t,f t≠none)→0 < m)∧((∀ t,f t=none)→m=0))∧∀ (W:World),W.heap[b]? = w.heap[b]?→∀ (o:Oper) (a:Act) (x:Operand),o.op=Op.call { callee:=Callee.builtin Builtin.len,args:=#[x],argTypes:=#[104] }→a.eval x=.map (some b)→(execOp a.eval o).run Tryz.prog W=.ok (.value (.int .i64 (m:Int))) W:=by
 obtain ⟨D,ho,hs,hh,_⟩:=h
 have hall:∀ W:World,W.heap[b]? = w.heap[b]?→W.ownsMap Tryz.prog 9 decV b (Maps.size D) D:=fun W hW=>by
  obtain ⟨es,clock,hb,r⟩:=ho
  exact ⟨es,clock,by rw [hW];exact hb,r⟩
 refine ⟨Maps.size D,hs,⟨fun ⟨t,ht⟩ => ?_,fun hnone => ?_⟩,fun W hW o a x hop hm => ?_⟩
 ·obtain ⟨es,hD,hp,hk⟩:=ho.entries keyS
  have h1:Maps.has D (.string t.data.toList)=true:=by rw [hh t];cases hf:f t with | none=>exact absurd hf ht | some v=>rfl
  rw [hD,Maps.has_eq] at h1;rw [hD,Maps.size_eq]
  cases es with
  | nil=>cases h1
  | cons p es=>simp
 ·obtain ⟨es,hD,hp,hk⟩:=ho.entries keyS
  cases es with
  | nil=>rw [hD];rfl
  | cons p es =>
   exfalso
   have hstr:∃ l,p.1=.string l:=by
    obtain ⟨es',clock,_,F,_,hD'⟩:=ho;rw [hD] at hD'
    injection hD' with hD'
    obtain ⟨x,hx,e⟩:=List.mem_map.1 (mem_sorted.1 (hD' ▸ List.mem_cons_self ..))
    obtain ⟨y,hy⟩:=F.reads x hx;obtain ⟨t,_,hl,_⟩:=WideMaps.string_of_keyOf Tryz.underlying9 (WideElems.rd_key hy);rw [←e,WideElems.rg_of hy]
    exact ⟨_,hl⟩
   obtain ⟨l,hl⟩:=hstr;have h1:=hh ⟨l.toArray⟩;rw [hnone,hD,Maps.has_eq,List.any_cons] at h1
   have h2:p.1.sameKey (.string l)=true:=by rw [hl];exact WideAt.sameKey_self (keyLitS l)
   have e3:(⟨l.toArray⟩:ByteArray).data.toList=l:=by simp
   rw [e3,h2] at h1
   simp at h1
 ·have e:=(hall W hW).len Tryz.underlying104 o.type
  simp [execOp,hop,resolve,invoke,builtin,hm,e,Result.andThen]
section
variable {ops:Array Oper} {rest:List Oper} {o:Oper} {a:Act} {Q:Exit→Act→World→Prop} {w:World}
theorem wp_lenT (hg:o.guard=none) (x:Operand) (hop:o.op=Op.call { callee:=Callee.builtin Builtin.len,args:=#[x],argTypes:=#[104] }) (b:Nat) (m:Nat) (hx:a.eval x=.map (some b)) (hr:∀ (o:Oper) (a:Act) (x:Operand),o.op=Op.call { callee:=Callee.builtin Builtin.len,args:=#[x],argTypes:=#[104] }→a.eval x=.map (some b)→(execOp a.eval o).run Tryz.prog w=.ok (.value (.int .i64 (m:Int))) w)
  (h:wpList Tryz.prog ops Q rest (a.put o.dst (.int .i64 (m:Int))) w):wpList Tryz.prog ops Q (o :: rest) a w :=
 wpList_plain hg fun _ hK=>by
  unfold Oper.wp;rw [hr o a x hop hx]
  exact hK _ _ h
end
set_option maxHeartbeats 2000000 in
set_option maxRecDepth 100000 in
theorem rmdir_bad {q:PC} {s:PSt} (ls:List ByteArray) (a:Option Addr) (w:World) (h:IsPl w q s) (ho:OkS s) (hl:LAt w a ls) (hb:ls.length≤1000) (hn:∀ x∈ls,x.size≤1000) (hE:lastE s ls≠0) :
  Calls Tryz.prog 24 #[.pointer (some ⟨q.p,0,none⟩),.slice a ls.length ls.length] w fun e w'=>e=.returned (.int .i64 (lastE s ls))∧Chg w w' No:=by
 have hW:=wlast_bad ls a w h ho hl hb hn hE;obtain ⟨E,hEE⟩:∃ y,y=lastE s ls:=⟨_,rfl⟩;rw [←hEE] at hW hE ⊢;obtain ⟨n,hnn⟩:∃ y,y=ls.length:=⟨_,rfl⟩;rw [←hnn] at hW ⊢;have b1:(E == 0)=false:=beq_eq_false_iff_ne.2 hE;clear h ho hl hb hn hEE hnn
 go_enter Tryz.func24,Tryz.ntmps24
 go_wp2_with (first
  | (go_at_call 42;go_must (refine hW.mono ?_;rintro e w2 ⟨rfl,hc2⟩;have HC2:=hid hc2;clear hc2))
  | (refine store_R rfl 95 _ _ rfl w2.heap.size zSpot rfl rfl 95 _ (heap_alloc_new _ _) (by rw [szSp];rfl) rfl (by simp [zSpot,Value.oneCell']) ?_;intro w3 hw3;have HC3:=hid ((HC2.out.tr (Chg.alloc w2 (.cells zSpot 95) No)).trans (kt_new hw3) (fun _ _ e=>e) (fun j hj e=>by have:=HC2.out.size;omega));clear hw3)
  | fail)
 go_ret
 exact ⟨rfl,HC3.out⟩
set_option maxHeartbeats 2000000 in
set_option maxRecDepth 100000 in
theorem rmdir_none {q:PC} {s:PSt} (ls:List ByteArray) (a:Option Addr) (w:World) (h:IsPl w q s) (ho:OkS s) (hl:LAt w a ls) (hb:ls.length≤1000) (hn:∀ x∈ls,x.size≤1000) (hE:lastE s ls=0) (hf:∀ x,s.nd (lastD s ls)=some x→x.nm (lastN ls)=none) :
  Calls Tryz.prog 24 #[.pointer (some ⟨q.p,0,none⟩),.slice a ls.length ls.length] w fun e w'=>e=.returned (.int .i64 110)∧Chg w w' No:=by
 obtain ⟨x,hsx,hkx⟩:=lastE_dir hE;obtain ⟨c,hqc,hN⟩:=h.node hsx;have hns:=lastN_size hn;have hW:=wlast_good ls a w h ho hl hb hn hE hqc;have HFd:Hid (∀ W,Chg w W No→Calls Tryz.prog 43 #[.agg #[.pointer (some ⟨c.p,0,none⟩),.string (lastN ls)]] W fun e w'=>e=.returned (.tuple #[.int .i64 ((findN x (lastN ls)).getD 0),.bool (findN x (lastN ls)).isSome])∧Chg W w' No):=hid (fun W hW=>spotfind_any (lastN ls) W (hN.call hW) hns (fun k hk=>by have:=ho.nm _ x _ k hsx hk;exact ⟨this.1,this.2.1⟩))
 have hfn:findN x (lastN ls)=none:=by unfold findN;rw [hf x hsx];rfl
 rw [hfn] at HFd;have HP:=hid h;obtain ⟨nm,hnm⟩:∃ y,y=lastN ls:=⟨_,rfl⟩;obtain ⟨n,hnn⟩:∃ y,y=ls.length:=⟨_,rfl⟩;rw [←hnm] at hW HFd;rw [←hnn] at hW ⊢;clear h ho hl hb hn hE hsx hkx hqc hN hns hfn hnm hnn hf
 go_enter Tryz.func24,Tryz.ntmps24
 go_upto_region 4 with (first
  | (go_at_call 42;go_must (refine hW.mono ?_;rintro e w2 ⟨rfl,hc2⟩;have HC2:=hid hc2;clear hc2))
  | (refine store_R rfl 95 _ _ rfl w2.heap.size #[.pointer (some ⟨c.p,0,none⟩),.string nm] rfl rfl 95 _ (heap_alloc_new _ _) (by rw [szSp];rfl) rfl (by simp [Value.oneCell']) ?_;intro w3 hw3)
  | fail)
 have h23:Chg w2 w3 No:=(Chg.alloc w2 _ No).trans (kt_new hw3) (fun _ _ e=>e) (fun j hj e=>by omega);have HC3:=hid (HC2.out.tr h23);obtain ⟨gs,hgs⟩:∃ y,y=w2.heap.size:=⟨_,rfl⟩;have HG3:Hid (w3.heap[gs]? = some (.cells #[.pointer (some ⟨c.p,0,none⟩),.string nm] 95 (0,0))):=hid (by rw [hgs];exact hw3.here);have HGs:Hid (w.heap.size≤gs):=hid (by rw [hgs];exact HC2.out.size);rw [←hgs];clear hgs hw3 h23 hW HC2;have hF:=HFd.out w3 HC3.out
 go_wp2_with (first
  | (refine load_R rfl 95 _ rfl gs rfl 95 #[.pointer (some ⟨c.p,0,none⟩),.string nm] _ HG3.out Tryz.underlying95 rfl (by rw [szSp];rfl) ?_)
  | (go_at_call 43;go_must (refine hF.mono ?_;rintro e w4 ⟨rfl,hc4⟩;have HC4:=hid (HC3.out.tr hc4);have HG4:=hid (hc4.keep HG3.out (fun e=>e));clear hc4))
  | fail)
 go_ret
 exact ⟨rfl,HC4.out⟩
set_option maxHeartbeats 2000000 in
set_option maxRecDepth 100000 in
theorem rmdir_kind {q:PC} {s:PSt} (ls:List ByteArray) (a:Option Addr) (w:World) (h:IsPl w q s) (ho:OkS s) (hl:LAt w a ls) (hb:ls.length≤1000) (hn:∀ x∈ls,x.size≤1000) (hE:lastE s ls=0) (i k:Nat) (x y:Nd) (hsx:s.nd (lastD s ls)=some x) (hnk:x.nm (lastN ls)=some (k:Int)) (hki:x.sl.getD k 0=(i:Int)) (hsy:s.nd (i:Int)=some y) (hky : ¬ y.kind=2) :
  Calls Tryz.prog 24 #[.pointer (some ⟨q.p,0,none⟩),.slice a ls.length ls.length] w fun e w'=>e=.returned (.int .i64 113)∧Chg w w' No:=by
 have hkx:x.kind=2:=by
  obtain ⟨x',h1,h2⟩:=lastE_dir hE;rw [hsx] at h1
  cases h1
  exact h2
 obtain ⟨c,hqc,hN⟩:=h.node hsx;have hns:=lastN_size hn;have hW:=wlast_good ls a w h ho hl hb hn hE hqc;have HFd:Hid (∀ W,Chg w W No→Calls Tryz.prog 43 #[.agg #[.pointer (some ⟨c.p,0,none⟩),.string (lastN ls)]] W fun e w'=>e=.returned (.tuple #[.int .i64 ((findN x (lastN ls)).getD 0),.bool (findN x (lastN ls)).isSome])∧Chg W w' No):=hid (fun W hW=>spotfind_any (lastN ls) W (hN.call hW) hns (fun k hk=>by have:=ho.nm _ x _ k hsx hk;exact ⟨this.1,this.2.1⟩))
 have hfn:findN x (lastN ls)=some (i:Int):=by unfold findN;rw [hnk];show some (x.sl.getD (k:Int).toNat 0)=_;rw [Int.toNat_natCast,hki]
 rw [hfn] at HFd;obtain ⟨cy,hqy,hNy⟩:=h.node hsy
 have hI:I64 (i:Int):=by have:=h.rng _ (by rw [hqy];intro e;cases e);exact ⟨by omega,by omega⟩
 obtain ⟨fm,hfm⟩:∃ y:Int→Option Value,y=fun y=>(q.nc y).map ptrN:=⟨_,rfl⟩
 have HFi:Hid ((match fm (i:Int) with | some v=>v | none=>.pointer none)=.pointer (some ⟨cy.p,0,none⟩)):=hid (by rw [hfm];simp only [hqy];rfl);have HM:Hid (∀ W,Chg w W No→MapV W q.mb fm):=hid (fun W hW=>by rw [hfm];exact (h.call hW).mp);have HC2q:Hid (∀ W,Chg w W No→W.cell? ⟨q.p,2,none⟩=some (.map (some q.mb))):=hid (fun W hW=>(h.call hW).c2);have HDr:Hid (∀ W,Chg w W No→Calls Tryz.prog 48 #[.pointer (some ⟨cy.p,0,none⟩)] W fun e w'=>e=.returned (.bool false)∧w'=W):=hid (fun W hW=>by have:=isDirectory_any W (hNy.call hW);rw [decide_eq_false hky] at this;exact this);have HI:=hid hI;have HP:=hid h;obtain ⟨nm,hnm⟩:∃ y,y=lastN ls:=⟨_,rfl⟩;obtain ⟨n,hnn⟩:∃ y,y=ls.length:=⟨_,rfl⟩;rw [←hnm] at hW HFd;rw [←hnn] at hW ⊢;clear h ho hl hb hn hE hsx hkx hqc hN hns hfn hnm hnn hnk hki hsy hky hqy hNy hI hfm
 go_enter Tryz.func24,Tryz.ntmps24
 go_upto_region 4 with (first
  | (go_at_call 42;go_must (refine hW.mono ?_;rintro e w2 ⟨rfl,hc2⟩;have HC2:=hid hc2;clear hc2))
  | (refine store_R rfl 95 _ _ rfl w2.heap.size #[.pointer (some ⟨c.p,0,none⟩),.string nm] rfl rfl 95 _ (heap_alloc_new _ _) (by rw [szSp];rfl) rfl (by simp [Value.oneCell']) ?_;intro w3 hw3)
  | fail)
 have h23:Chg w2 w3 No:=(Chg.alloc w2 _ No).trans (kt_new hw3) (fun _ _ e=>e) (fun j hj e=>by omega);have HC3:=hid (HC2.out.tr h23);obtain ⟨gs,hgs⟩:∃ y,y=w2.heap.size:=⟨_,rfl⟩;have HG3:Hid (w3.heap[gs]? = some (.cells #[.pointer (some ⟨c.p,0,none⟩),.string nm] 95 (0,0))):=hid (by rw [hgs];exact hw3.here);have HGs:Hid (w.heap.size≤gs):=hid (by rw [hgs];exact HC2.out.size);rw [←hgs];clear hgs hw3 h23 hW HC2;have hF:=HFd.out w3 HC3.out
 go_upto_region 7 with (first
  | (refine load_R rfl 95 _ rfl gs rfl 95 #[.pointer (some ⟨c.p,0,none⟩),.string nm] _ HG3.out Tryz.underlying95 rfl (by rw [szSp];rfl) ?_)
  | (go_at_call 43;go_must (refine hF.mono ?_;rintro e w4 ⟨rfl,hc4⟩;have HC4:=hid (HC3.out.tr hc4);have HG4:=hid (hc4.keep HG3.out (fun e=>e));clear hc4))
  | fail)
 have c2:=HC2q.out w4 HC4.out;have hDr:=HDr.out w4 HC4.out;clear hF HFd HC3 HG3
 go_wp2_with (first
  | (at_lookup;go_must (refine wp_lookVN rfl _ _ rfl q.mb fm (i:Int) _ HFi.out rfl rfl (HM.out w4 HC4.out) HI.out ?_))
  | (go_at_call 48;go_must (refine hDr.mono ?_;rintro e w5 ⟨rfl,rfl⟩))
  | fail)
 go_ret
 exact ⟨rfl,HC4.out⟩
set_option maxHeartbeats 2000000 in
set_option maxRecDepth 100000 in
theorem rmdir_full {q:PC} {s:PSt} (ls:List ByteArray) (a:Option Addr) (w:World) (h:IsPl w q s) (ho:OkS s) (hl:LAt w a ls) (hb:ls.length≤1000) (hn:∀ x∈ls,x.size≤1000) (hE:lastE s ls=0) (i k:Nat) (x y:Nd) (hsx:s.nd (lastD s ls)=some x) (hnk:x.nm (lastN ls)=some (k:Int)) (hki:x.sl.getD k 0=(i:Int)) (hsy:s.nd (i:Int)=some y) (hky:y.kind=2) (hfu:∃ t:ByteArray,y.nm t≠none) :
  Calls Tryz.prog 24 #[.pointer (some ⟨q.p,0,none⟩),.slice a ls.length ls.length] w fun e w'=>e=.returned (.int .i64 140)∧Chg w w' No:=by
 have hkx:x.kind=2:=by
  obtain ⟨x',h1,h2⟩:=lastE_dir hE;rw [hsx] at h1
  cases h1
  exact h2
 obtain ⟨c,hqc,hN⟩:=h.node hsx;have hns:=lastN_size hn;have hW:=wlast_good ls a w h ho hl hb hn hE hqc;have HFd:Hid (∀ W,Chg w W No→Calls Tryz.prog 43 #[.agg #[.pointer (some ⟨c.p,0,none⟩),.string (lastN ls)]] W fun e w'=>e=.returned (.tuple #[.int .i64 ((findN x (lastN ls)).getD 0),.bool (findN x (lastN ls)).isSome])∧Chg W w' No):=hid (fun W hW=>spotfind_any (lastN ls) W (hN.call hW) hns (fun k hk=>by have:=ho.nm _ x _ k hsx hk;exact ⟨this.1,this.2.1⟩))
 have hfn:findN x (lastN ls)=some (i:Int):=by unfold findN;rw [hnk];show some (x.sl.getD (k:Int).toNat 0)=_;rw [Int.toNat_natCast,hki]
 rw [hfn] at HFd;obtain ⟨cy,hqy,hNy⟩:=h.node hsy
 have hI:I64 (i:Int):=by have:=h.rng _ (by rw [hqy];intro e;cases e);exact ⟨by omega,by omega⟩
 obtain ⟨fm,hfm⟩:∃ y:Int→Option Value,y=fun y=>(q.nc y).map ptrN:=⟨_,rfl⟩
 have HFi:Hid ((match fm (i:Int) with | some v=>v | none=>.pointer none)=.pointer (some ⟨cy.p,0,none⟩)):=hid (by rw [hfm];simp only [hqy];rfl);have HM:Hid (∀ W,Chg w W No→MapV W q.mb fm):=hid (fun W hW=>by rw [hfm];exact (h.call hW).mp);have HC2q:Hid (∀ W,Chg w W No→W.cell? ⟨q.p,2,none⟩=some (.map (some q.mb))):=hid (fun W hW=>(h.call hW).c2);have HDr:Hid (∀ W,Chg w W No→Calls Tryz.prog 48 #[.pointer (some ⟨cy.p,0,none⟩)] W fun e w'=>e=.returned (.bool true)∧w'=W):=hid (fun W hW=>by have:=isDirectory_any W (hNy.call hW);rw [decide_eq_true hky] at this;exact this);have HI:=hid hI
 have HLn:Hid (∃ n:Nat,(n:Int)≤5000∧0 < n∧∀ (W:World),Chg w W No→∀ (o:Oper) (a:Act) (x:Operand),o.op=Op.call { callee:=Callee.builtin Builtin.len,args:=#[x],argTypes:=#[104] }→a.eval x=.map (some cy.nb)→(execOp a.eval o).run Tryz.prog W=.ok (.value (.int .i64 (n:Int))) W):=hid (by
  obtain ⟨n,n1,n2,n3⟩:=hNy.nm.lenT;refine ⟨n,by have:=hNy.cn;omega,n2.1 hfu,fun W hW o a x hop hm => ?_⟩
  exact n3 W (hW.block cy.nb hNy.nm.lt (fun e=>e)) o a x hop hm)
 have HC6:Hid (∀ W,Chg w W No→W.cell? ⟨cy.p,6,none⟩=some (.map (some cy.nb))):=hid (fun W hW=>(hNy.call hW).c6);obtain ⟨nl,hnb,hnz,hLen⟩:=HLn.out;have HLen:=hid hLen;clear hLen HLn;have HP:=hid h;obtain ⟨nm,hnm⟩:∃ y,y=lastN ls:=⟨_,rfl⟩;obtain ⟨n,hnn⟩:∃ y,y=ls.length:=⟨_,rfl⟩;rw [←hnm] at hW HFd;rw [←hnn] at hW ⊢;clear h ho hl hb hn hE hsx hkx hqc hN hns hfn hnm hnn hnk hki hsy hky hqy hNy hI hfm hfu
 go_enter Tryz.func24,Tryz.ntmps24
 go_upto_region 4 with (first
  | (go_at_call 42;go_must (refine hW.mono ?_;rintro e w2 ⟨rfl,hc2⟩;have HC2:=hid hc2;clear hc2))
  | (refine store_R rfl 95 _ _ rfl w2.heap.size #[.pointer (some ⟨c.p,0,none⟩),.string nm] rfl rfl 95 _ (heap_alloc_new _ _) (by rw [szSp];rfl) rfl (by simp [Value.oneCell']) ?_;intro w3 hw3)
  | fail)
 have h23:Chg w2 w3 No:=(Chg.alloc w2 _ No).trans (kt_new hw3) (fun _ _ e=>e) (fun j hj e=>by omega);have HC3:=hid (HC2.out.tr h23);obtain ⟨gs,hgs⟩:∃ y,y=w2.heap.size:=⟨_,rfl⟩;have HG3:Hid (w3.heap[gs]? = some (.cells #[.pointer (some ⟨c.p,0,none⟩),.string nm] 95 (0,0))):=hid (by rw [hgs];exact hw3.here);have HGs:Hid (w.heap.size≤gs):=hid (by rw [hgs];exact HC2.out.size);rw [←hgs];clear hgs hw3 h23 hW HC2;have hF:=HFd.out w3 HC3.out
 go_upto_region 7 with (first
  | (refine load_R rfl 95 _ rfl gs rfl 95 #[.pointer (some ⟨c.p,0,none⟩),.string nm] _ HG3.out Tryz.underlying95 rfl (by rw [szSp];rfl) ?_)
  | (go_at_call 43;go_must (refine hF.mono ?_;rintro e w4 ⟨rfl,hc4⟩;have HC4:=hid (HC3.out.tr hc4);have HG4:=hid (hc4.keep HG3.out (fun e=>e));clear hc4))
  | fail)
 have c2:=HC2q.out w4 HC4.out;have hDr:=HDr.out w4 HC4.out;clear hF HFd HC3 HG3;have c6:=HC6.out w4 HC4.out
 have hgt:(0:Int) < (nl:Int):=by omega
 go_wp2_with (first
  | (at_lookup;go_must (refine wp_lookVN rfl _ _ rfl q.mb fm (i:Int) _ HFi.out rfl rfl (HM.out _ HC4.out) HI.out ?_))
  | (go_at_call 48;go_must (refine hDr.mono ?_;rintro e w5 ⟨rfl,hw5⟩;subst hw5))
  | (refine wp_lenT rfl _ rfl cy.nb nl rfl (fun o a x h1 h2=>HLen.out _ HC4.out o a x h1 h2) ?_)
  | fail)
 go_ret
 exact ⟨rfl,HC4.out⟩
set_option maxHeartbeats 2000000 in
set_option maxRecDepth 100000 in
theorem rmdir_good {q:PC} {s:PSt} (ls:List ByteArray) (a:Option Addr) (w:World) (h:IsPl w q s) (ho:OkS s) (hl:LAt w a ls) (hb:ls.length≤1000) (hn:∀ x∈ls,x.size≤1000) (hE:lastE s ls=0) (i k:Nat) (x y:Nd) (hsx:s.nd (lastD s ls)=some x) (hnk:x.nm (lastN ls)=some (k:Int)) (hki:x.sl.getD k 0=(i:Int)) (hsy:s.nd (i:Int)=some y) (hky:y.kind=2) (hlk:1≤y.links∧y.links≤1000) (hfu:∀ t:ByteArray,y.nm t=none) :
  Calls Tryz.prog 24 #[.pointer (some ⟨q.p,0,none⟩),.slice a ls.length ls.length] w fun e w'=>e=.returned (.int .i64 0)∧Done q (loseS (s.put (lastD s ls) (leaN x k (lastN ls))) (i:Int) y) w w':=by
 have hkx:x.kind=2:=by
  obtain ⟨x',h1,h2⟩:=lastE_dir hE;rw [hsx] at h1
  cases h1
  exact h2
 obtain ⟨c,hqc,hN⟩:=h.node hsx;have hns:=lastN_size hn;have hW:=wlast_good ls a w h ho hl hb hn hE hqc;have HFd:Hid (∀ W,Chg w W No→Calls Tryz.prog 43 #[.agg #[.pointer (some ⟨c.p,0,none⟩),.string (lastN ls)]] W fun e w'=>e=.returned (.tuple #[.int .i64 ((findN x (lastN ls)).getD 0),.bool (findN x (lastN ls)).isSome])∧Chg W w' No):=hid (fun W hW=>spotfind_any (lastN ls) W (hN.call hW) hns (fun k hk=>by have:=ho.nm _ x _ k hsx hk;exact ⟨this.1,this.2.1⟩))
 have hfn:findN x (lastN ls)=some (i:Int):=by unfold findN;rw [hnk];show some (x.sl.getD (k:Int).toNat 0)=_;rw [Int.toNat_natCast,hki]
 rw [hfn] at HFd;obtain ⟨cy,hqy,hNy⟩:=h.node hsy
 have hI:I64 (i:Int):=by have:=h.rng _ (by rw [hqy];intro e;cases e);exact ⟨by omega,by omega⟩
 obtain ⟨fm,hfm⟩:∃ y:Int→Option Value,y=fun y=>(q.nc y).map ptrN:=⟨_,rfl⟩
 have HFi:Hid ((match fm (i:Int) with | some v=>v | none=>.pointer none)=.pointer (some ⟨cy.p,0,none⟩)):=hid (by rw [hfm];simp only [hqy];rfl);have HM:Hid (∀ W,Chg w W No→MapV W q.mb fm):=hid (fun W hW=>by rw [hfm];exact (h.call hW).mp);have HC2q:Hid (∀ W,Chg w W No→W.cell? ⟨q.p,2,none⟩=some (.map (some q.mb))):=hid (fun W hW=>(h.call hW).c2);have HDr:Hid (∀ W,Chg w W No→Calls Tryz.prog 48 #[.pointer (some ⟨cy.p,0,none⟩)] W fun e w'=>e=.returned (.bool true)∧w'=W):=hid (fun W hW=>by have:=isDirectory_any W (hNy.call hW);rw [decide_eq_true hky] at this;exact this);have HI:=hid hI
 have HLn:Hid (∃ n:Nat,(n:Int)≤5000∧n=0∧∀ (W:World),Chg w W No→∀ (o:Oper) (a:Act) (x:Operand),o.op=Op.call { callee:=Callee.builtin Builtin.len,args:=#[x],argTypes:=#[104] }→a.eval x=.map (some cy.nb)→(execOp a.eval o).run Tryz.prog W=.ok (.value (.int .i64 (n:Int))) W):=hid (by
  obtain ⟨n,n1,n2,n3⟩:=hNy.nm.lenT;refine ⟨n,by have:=hNy.cn;omega,n2.2 hfu,fun W hW o a x hop hm => ?_⟩
  exact n3 W (hW.block cy.nb hNy.nm.lt (fun e=>e)) o a x hop hm)
 have HC6:Hid (∀ W,Chg w W No→W.cell? ⟨cy.p,6,none⟩=some (.map (some cy.nb))):=hid (fun W hW=>(hNy.call hW).c6);obtain ⟨nl,hnb,hnz,hLen⟩:=HLn.out;have HLen:=hid hLen;clear hLen HLn
 have hdi : ¬ (i:Int)=lastD s ls:=fun e=>by
  rw [e,hsx] at hsy
  cases hsy
  rw [hfu] at hnk
  cases hnk
 have HLv:Hid (∀ W,Chg w W No→Calls Tryz.prog 49 #[.pointer (some ⟨c.p,0,none⟩),.string (lastN ls)] W fun e w'=>e=.returned (.tuple #[])∧IsPl w' (q.put (lastD s ls) c) (s.put (lastD s ls) (leaN x k (lastN ls)))∧Chg W w' (BlkN c)):=hid (fun W hW=>by
  have hk2:=ho.nm _ x _ _ hsx hnk;refine (leave_any k (lastN ls) W (hN.call hW) hns hnk (by omega)).mono ?_
  rintro e w' ⟨he,h1,h2⟩
  exact ⟨he,(h.call hW).turn hqc h1 rfl rfl rfl rfl (.inl rfl) h2,h2⟩)
 have HLo:Hid (∀ W,IsPl W (q.put (lastD s ls) c) (s.put (lastD s ls) (leaN x k (lastN ls)))→Calls Tryz.prog 50 #[.pointer (some ⟨q.p,0,none⟩),.int .i64 (i:Int)] W fun e w'=>e=.returned (.tuple #[])∧(∃ q',IsPl w' q' (loseS (s.put (lastD s ls) (leaN x k (lastN ls))) (i:Int) y)∧Sub q q')∧Chg W w' (fun j=>j=q.mb∨BlkN cy j)):=hid (fun W hW=>by
  refine (lose_any (c:=cy) (x:=y) (i:Int) W hW (by rw [PC.put_ne _ _ hdi];exact hqy) (by rw [PSt.put_ne _ _ hdi];exact hsy) hlk).mono ?_
  rintro e w' ⟨he,⟨q',h1,h2⟩,h3⟩
  exact ⟨he,⟨q',h1,(Sub.put hqc).tr h2⟩,h3⟩)
 have HQq:=hid hqc;have HQy:=hid hqy;have HP:=hid h;obtain ⟨nm,hnm⟩:∃ y,y=lastN ls:=⟨_,rfl⟩;obtain ⟨n,hnn⟩:∃ y,y=ls.length:=⟨_,rfl⟩;rw [←hnm] at hW HFd HLv HLo;rw [←hnn] at hW ⊢;rw [←hnm];obtain ⟨D,hD⟩:∃ y,y=lastD s ls:=⟨_,rfl⟩;rw [←hD] at HLv HLo HQq ⊢;obtain ⟨s1,hs1⟩:∃ z,z=s.put D (leaN x k nm):=⟨_,rfl⟩;rw [←hs1] at HLv HLo ⊢;obtain ⟨ST,hST⟩:∃ z,z=loseS s1 (i:Int) y:=⟨_,rfl⟩;rw [←hST] at HLo ⊢;clear h ho hl hb hn hE hsx hkx hqc hN hns hfn hnm hnn hnk hki hsy hky hqy hNy hI hfm hlk hdi hD hST hs1 hfu
 go_enter Tryz.func24,Tryz.ntmps24
 go_upto_region 4 with (first
  | (go_at_call 42;go_must (refine hW.mono ?_;rintro e w2 ⟨rfl,hc2⟩;have HC2:=hid hc2;clear hc2))
  | (refine store_R rfl 95 _ _ rfl w2.heap.size #[.pointer (some ⟨c.p,0,none⟩),.string nm] rfl rfl 95 _ (heap_alloc_new _ _) (by rw [szSp];rfl) rfl (by simp [Value.oneCell']) ?_;intro w3 hw3)
  | fail)
 have h23:Chg w2 w3 No:=(Chg.alloc w2 _ No).trans (kt_new hw3) (fun _ _ e=>e) (fun j hj e=>by omega);have HC3:=hid (HC2.out.tr h23);obtain ⟨gs,hgs⟩:∃ y,y=w2.heap.size:=⟨_,rfl⟩;have HG3:Hid (w3.heap[gs]? = some (.cells #[.pointer (some ⟨c.p,0,none⟩),.string nm] 95 (0,0))):=hid (by rw [hgs];exact hw3.here);have HGs:Hid (w.heap.size≤gs):=hid (by rw [hgs];exact HC2.out.size);rw [←hgs];clear hgs hw3 h23 hW HC2;have hF:=HFd.out w3 HC3.out
 go_upto_region 7 with (first
  | (refine load_R rfl 95 _ rfl gs rfl 95 #[.pointer (some ⟨c.p,0,none⟩),.string nm] _ HG3.out Tryz.underlying95 rfl (by rw [szSp];rfl) ?_)
  | (go_at_call 43;go_must (refine hF.mono ?_;rintro e w4 ⟨rfl,hc4⟩;have HC4:=hid (HC3.out.tr hc4);have HG4:=hid (hc4.keep HG3.out (fun e=>e));clear hc4))
  | fail)
 have c2:=HC2q.out w4 HC4.out;have hDr:=HDr.out w4 HC4.out;clear hF HFd HC3 HG3;have c6:=HC6.out w4 HC4.out;subst hnz
 go_upto_region 11 with (first
  | (at_lookup;go_must (refine wp_lookVN rfl _ _ rfl q.mb fm (i:Int) _ HFi.out rfl rfl (HM.out _ HC4.out) HI.out ?_))
  | (go_at_call 48;go_must (refine hDr.mono ?_;rintro e w5 ⟨rfl,hw5⟩;subst hw5))
  | (refine wp_lenT rfl _ rfl cy.nb 0 rfl (fun o a x h1 h2=>HLen.out _ HC4.out o a x h1 h2) ?_)
  | fail)
 have hLv:=HLv.out _ HC4.out;have g0:w5.cell? ⟨gs,0,none⟩=some (.pointer (some ⟨c.p,0,none⟩)):=(cell_of_row _ _ _ _ _ _ HG4.out).trans rfl;have g1:w5.cell? ⟨gs,1,none⟩=some (.string nm):=(cell_of_row _ _ _ _ _ _ HG4.out).trans rfl;clear hDr c2 c6
 go_upto_region 12 with (first
  | (go_at_call 49;go_must (refine hLv.mono ?_;rintro e w6 ⟨rfl,hp6,hc6⟩;have HP6:=hid hp6;have HC6b:=hid hc6;clear hp6 hc6))
  | fail)
 have hLo:=HLo.out w6 HP6.out;clear hLv g0 g1
 go_wp2_with (first
  | (go_at_call 50;go_must (refine hLo.mono ?_;rintro e w7 ⟨rfl,hp7,hc7⟩;have HP7:=hid hp7;have HC7:=hid hc7;clear hp7 hc7))
  | fail)
 go_ret
 refine ⟨rfl,HP7.out,(HC4.out.trans HC6b.out (c:=fun j=>j=q.mb∨∃ i c,q.nc i=some c∧BlkN c j) (fun _ _ e=>e.elim) (fun j _ e=>.inr ⟨_,_,HQq.out,e⟩)).trans HC7.out (fun _ _ e=>e) (fun j _ e => ?_)⟩
 rcases e with e | e
 ·exact .inl e
 ·exact .inr ⟨_,_,HQy.out,e⟩
end Go.Proofs.YtmgfilacepnjlaaGreatDoor
