/-
 package plain: rename (deeds).
-/
import Derived.Test.YtmgfilacepnjlaaGreatDoorRH
import Derived.LaidEql
namespace Go.Proofs.YtmgfilacepnjlaaGreatDoor
open Go.RowKit

set_option linter.unusedVariables false
set_option maxHeartbeats 3000000 in
set_option maxRecDepth 100000 in
theorem rename_same {q:PC} {s:PSt} (ls ts:List ByteArray) (a b:Option Addr) (w:World) (h:IsPl w q s) (ho:OkS s) (hl:LAt w a ls) (hb:ls.length≤1000) (hn:∀ x∈ls,x.size≤1000) (hlt:LAt w b ts) (hbt:ts.length≤1000) (hnt:∀ x∈ts,x.size≤1000) (hE1:lastE s ls=0) (hE2:lastE s ts=0) (i:Nat) (x1 yi:Nd) (hx1:s.nd (lastD s ls)=some x1) (hf1:findN x1 (lastN ls)=some (i:Int)) (hyi:s.nd (i:Int)=some yi) (hne : ¬ (lastD s ts=lastD s ls∧lastN ts=lastN ls)) (x2:Nd) (hx2:s.nd (lastD s ts)=some x2) (j:Nat) (yj:Nd) (hf2:findN x2 (lastN ts)=some (j:Int)) (hyj:s.nd (j:Int)=some yj) (hki : ¬ yi.kind=2) (hkj : ¬ yj.kind=2) (hji:i=j) :
  Calls Tryz.prog 25 #[.pointer (some ⟨q.p,0,none⟩),.slice a ls.length ls.length,.slice b ts.length ts.length] w fun e w'=>e=.returned (.int .i64 0)∧Chg w w' No:=by
 obtain ⟨c1,hq1,hN1⟩:=h.node hx1;have hs1:=lastN_size hn;have hL1:=wlast_good ls a w h ho hl hb hn hE1 hq1;obtain ⟨c2,hq2,hN2⟩:=h.node hx2;have hs2:=lastN_size hnt;have HL2:Hid (∀ W,Chg w W No→Calls Tryz.prog 42 #[.pointer (some ⟨q.p,0,none⟩),.slice b ts.length ts.length] W fun e w'=>e=.returned (.tuple #[.agg #[.pointer (some ⟨c2.p,0,none⟩),.string (lastN ts)],.int .i64 0])∧Chg W w' No):=hid (fun W hW=>wlast_good ts b W (h.call hW) ho (hlt.call hW) hbt hnt hE2 hq2);have HF1:Hid (∀ W,Chg w W No→Calls Tryz.prog 43 #[.agg #[.pointer (some ⟨c1.p,0,none⟩),.string (lastN ls)]] W fun e w'=>e=.returned (.tuple #[.int .i64 ((findN x1 (lastN ls)).getD 0),.bool (findN x1 (lastN ls)).isSome])∧Chg W w' No):=hid (fun W hW=>spotfind_any (lastN ls) W (hN1.call hW) hs1 (fun k hk=>by have:=ho.nm _ x1 _ k hx1 hk;exact ⟨this.1,this.2.1⟩));rw [hf1] at HF1;have HF2:Hid (∀ W,Chg w W No→Calls Tryz.prog 43 #[.agg #[.pointer (some ⟨c2.p,0,none⟩),.string (lastN ts)]] W fun e w'=>e=.returned (.tuple #[.int .i64 ((findN x2 (lastN ts)).getD 0),.bool (findN x2 (lastN ts)).isSome])∧Chg W w' No):=hid (fun W hW=>spotfind_any (lastN ts) W (hN2.call hW) hs2 (fun k hk=>by have:=ho.nm _ x2 _ k hx2 hk;exact ⟨this.1,this.2.1⟩));rw [hf2] at HF2
 have HNe:Hid (∀ W,Chg w W No→(Op.equalIn 10000 95 (.agg #[.pointer (some ⟨c1.p,0,none⟩),.string (lastN ls)]) (.agg #[.pointer (some ⟨c2.p,0,none⟩),.string (lastN ts)])).run Tryz.prog W=.ok false W):=hid (fun W hW=>by
  rw [spot_eq _ _ _ _ W (hN1.call hW).me (hN2.call hW).me];refine congrArg (fun z=>Result.ok z W) (decide_eq_false fun e=>hne ?_);refine ⟨?_,e.2.symm⟩
  by_cases hd:lastD s ts=lastD s ls
  ·exact hd
  ·exact absurd e.1 (h.pne hq1 hq2 (fun e=>hd e.symm)))
 obtain ⟨ci,hqi,hNi⟩:=h.node hyi
 have hI:I64 (i:Int):=by have:=h.rng _ (by rw [hqi];intro e;cases e);exact ⟨by omega,by omega⟩
 obtain ⟨fm,hfm⟩:∃ y:Int→Option Value,y=fun y=>(q.nc y).map ptrN:=⟨_,rfl⟩
 have HFi:Hid ((match fm (i:Int) with | some v=>v | none=>.pointer none)=.pointer (some ⟨ci.p,0,none⟩)):=hid (by rw [hfm];simp only [hqi];rfl);have HM:Hid (∀ W,Chg w W No→MapV W q.mb fm):=hid (fun W hW=>by rw [hfm];exact (h.call hW).mp);have HC2q:Hid (∀ W,Chg w W No→W.cell? ⟨q.p,2,none⟩=some (.map (some q.mb))):=hid (fun W hW=>(h.call hW).c2);have HDi:Hid (∀ W,Chg w W No→Calls Tryz.prog 48 #[.pointer (some ⟨ci.p,0,none⟩)] W fun e w'=>e=.returned (.bool false)∧w'=W):=hid (fun W hW=>by have:=isDirectory_any W (hNi.call hW);rw [decide_eq_false hki] at this;exact this);have HI:=hid hI;obtain ⟨cj,hqj,hNj⟩:=h.node hyj
 have hJ:I64 (j:Int):=by have:=h.rng _ (by rw [hqj];intro e;cases e);exact ⟨by omega,by omega⟩
 have HFj:Hid ((match fm (j:Int) with | some v=>v | none=>.pointer none)=.pointer (some ⟨cj.p,0,none⟩)):=hid (by rw [hfm];simp only [hqj];rfl);have HDj:Hid (∀ W,Chg w W No→Calls Tryz.prog 48 #[.pointer (some ⟨cj.p,0,none⟩)] W fun e w'=>e=.returned (.bool false)∧w'=W):=hid (fun W hW=>by have:=isDirectory_any W (hNj.call hW);rw [decide_eq_false hkj] at this;exact this);have HJ:=hid hJ;subst hji;have b4:((i:Int) == (i:Int))=true:=beq_self_eq_true _;obtain ⟨n1,hn1⟩:∃ y,y=lastN ls:=⟨_,rfl⟩;obtain ⟨n2,hn2⟩:∃ y,y=lastN ts:=⟨_,rfl⟩;obtain ⟨n,hnn⟩:∃ y,y=ls.length:=⟨_,rfl⟩;obtain ⟨m,hmm⟩:∃ y,y=ts.length:=⟨_,rfl⟩;rw [←hn1,←hnn] at hL1;rw [←hmm] at HL2;rw [←hnn,←hmm];rw [←hn1] at HF1;rw [←hn2] at HL2;rw [←hn2] at HF2;rw [←hn1,←hn2] at HNe;clear h ho hl hb hn hlt hbt hnt hE1 hx1 hq1 hN1 hs1 hn1 hn2 hnn hmm hE2 hx2 hq2 hN2 hs2 hf1 hf2 hyi hne hqi hNi hI hfm hki hyj hqj hNj hJ hkj
 go_enter Tryz.func25,Tryz.ntmps25
 go_upto_region 4 with (first
  | (go_at_call 42;go_must (refine hL1.mono ?_;rintro e w12 ⟨rfl,hc2⟩;have HC12:=hid hc2;clear hc2))
  | (refine store_R rfl 95 _ _ rfl w12.heap.size #[.pointer (some ⟨c1.p,0,none⟩),.string n1] rfl rfl 95 _ (heap_alloc_new _ _) (by rw [szSp];rfl) rfl (by simp [Value.oneCell']) ?_;intro w13 hw13)
  | fail)
 have h13:Chg w12 w13 No:=(Chg.alloc w12 _ No).trans (kt_new hw13) (fun _ _ e=>e) (fun j hj e=>by omega);have HC13:=hid (HC12.out.tr h13);obtain ⟨ga,hga⟩:∃ y,y=w12.heap.size:=⟨_,rfl⟩;have HGa:Hid (w13.heap[ga]? = some (.cells #[.pointer (some ⟨c1.p,0,none⟩),.string n1] 95 (0,0))):=hid (by rw [hga];exact hw13.here);rw [←hga];clear hga hw13 h13 hL1 HC12;have hL2:=HL2.out w13 HC13.out
 go_upto_region 7 with (first
  | (go_at_call 42;go_must (refine hL2.mono ?_;rintro e w22 ⟨rfl,hc2⟩;have HC22:=hid hc2;clear hc2))
  | (refine store_R rfl 95 _ _ rfl w22.heap.size #[.pointer (some ⟨c2.p,0,none⟩),.string n2] rfl rfl 95 _ (heap_alloc_new _ _) (by rw [szSp];rfl) rfl (by simp [Value.oneCell']) ?_;intro w23 hw23)
  | fail)
 have h23:Chg w22 w23 No:=(Chg.alloc w22 _ No).trans (kt_new hw23) (fun _ _ e=>e) (fun j hj e=>by omega);have HC23:=hid ((HC13.out.tr HC22.out).tr h23);obtain ⟨gb,hgb⟩:∃ y,y=w22.heap.size:=⟨_,rfl⟩;have HGb:Hid (w23.heap[gb]? = some (.cells #[.pointer (some ⟨c2.p,0,none⟩),.string n2] 95 (0,0))):=hid (by rw [hgb];exact hw23.here);have HGa2:=hid (h23.keep (HC22.out.keep HGa.out (fun e=>e)) (fun e=>e));rw [←hgb];clear hgb hw23 h23 hL2 HC22 HC13 HGa HL2;have hF1:=HF1.out w23 HC23.out
 go_upto_region 10 with (first
  | (refine load_R rfl 95 _ rfl ga rfl 95 #[.pointer (some ⟨c1.p,0,none⟩),.string n1] _ HGa2.out Tryz.underlying95 rfl (by rw [szSp];rfl) ?_)
  | (go_at_call 43;go_must (refine hF1.mono ?_;rintro e w4 ⟨rfl,hc4⟩;have HC4:=hid (HC23.out.tr hc4);have HGa4:=hid (hc4.keep HGa2.out (fun e=>e));have HGb4:=hid (hc4.keep HGb.out (fun e=>e));clear hc4))
  | fail)
 clear hF1 HF1 HC23 HGa2 HGb
 go_upto_region 12 with (first
  | (refine load_R rfl 95 _ rfl ga rfl 95 #[.pointer (some ⟨c1.p,0,none⟩),.string n1] _ HGa4.out Tryz.underlying95 rfl (by rw [szSp];rfl) ?_)
  | (refine load_R rfl 95 _ rfl gb rfl 95 #[.pointer (some ⟨c2.p,0,none⟩),.string n2] _ HGb4.out Tryz.underlying95 rfl (by rw [szSp];rfl) ?_)
  | (refine eql_W (by rfl) 95 _ _ rfl #[.pointer (some ⟨c1.p,0,none⟩),.string n1] #[.pointer (some ⟨c2.p,0,none⟩),.string n2] false rfl rfl (HNe.out w4 HC4.out) (by kernel_rfl) ?_)
  | fail)
 have hF2:=HF2.out w4 HC4.out
 go_upto_region 13 with (first
  | (refine load_R rfl 95 _ rfl gb rfl 95 #[.pointer (some ⟨c2.p,0,none⟩),.string n2] _ HGb4.out Tryz.underlying95 rfl (by rw [szSp];rfl) ?_)
  | (go_at_call 43;go_must (refine hF2.mono ?_;rintro e w5 ⟨rfl,hc5⟩;have HC5:=hid (HC4.out.tr hc5);have HGa5:=hid (hc5.keep HGa4.out (fun e=>e));have HGb5:=hid (hc5.keep HGb4.out (fun e=>e));clear hc5))
  | fail)
 clear hF2 HF2 HC4 HGa4 HGb4;have c2q:=HC2q.out w5 HC5.out;have hDi:=HDi.out w5 HC5.out
 go_upto_region 14 with (first
  | (at_lookup;go_must (refine wp_lookVN rfl _ _ rfl q.mb fm (i:Int) _ HFi.out rfl rfl (HM.out w5 HC5.out) HI.out ?_))
  | (go_at_call 48;go_must (refine hDi.mono ?_;rintro e w6 ⟨rfl,hw6⟩;subst hw6))
  | fail)
 clear hDi HDi;have hDj:=HDj.out w6 HC5.out
 go_upto_region 16 with (first
  | (refine wp_lookW (by rfl) _ _ rfl q.mb fm (i:Int) _ HFj.out rfl rfl (HM.out _ HC5.out) HJ.out ?_)
  | (go_at_call 48;go_must (refine hDj.mono ?_;rintro e w7 ⟨rfl,hw7⟩;subst hw7))
  | fail)
 go_wp2_with fail
 go_ret
 exact ⟨rfl,HC5.out⟩
set_option maxHeartbeats 3000000 in
set_option maxRecDepth 100000 in
theorem rename_manyT {q:PC} {s:PSt} (ls ts:List ByteArray) (a b:Option Addr) (w:World) (h:IsPl w q s) (ho:OkS s) (hl:LAt w a ls) (hb:ls.length≤1000) (hn:∀ x∈ls,x.size≤1000) (hlt:LAt w b ts) (hbt:ts.length≤1000) (hnt:∀ x∈ts,x.size≤1000) (hE1:lastE s ls=0) (hE2:lastE s ts=0) (i:Nat) (x1 yi:Nd) (hx1:s.nd (lastD s ls)=some x1) (hf1:findN x1 (lastN ls)=some (i:Int)) (hyi:s.nd (i:Int)=some yi) (hne : ¬ (lastD s ts=lastD s ls∧lastN ts=lastN ls)) (x2:Nd) (hx2:s.nd (lastD s ts)=some x2) (j:Nat) (yj:Nd) (hf2:findN x2 (lastN ts)=some (j:Int)) (hyj:s.nd (j:Int)=some yj) (hki : ¬ yi.kind=2) (hkj : ¬ yj.kind=2) (hji : ¬ j=i) (hlk:yi.links=100) :
  Calls Tryz.prog 25 #[.pointer (some ⟨q.p,0,none⟩),.slice a ls.length ls.length,.slice b ts.length ts.length] w fun e w'=>e=.returned (.int .i64 142)∧Chg w w' No:=by
 obtain ⟨c1,hq1,hN1⟩:=h.node hx1;have hs1:=lastN_size hn;have hL1:=wlast_good ls a w h ho hl hb hn hE1 hq1;obtain ⟨c2,hq2,hN2⟩:=h.node hx2;have hs2:=lastN_size hnt;have HL2:Hid (∀ W,Chg w W No→Calls Tryz.prog 42 #[.pointer (some ⟨q.p,0,none⟩),.slice b ts.length ts.length] W fun e w'=>e=.returned (.tuple #[.agg #[.pointer (some ⟨c2.p,0,none⟩),.string (lastN ts)],.int .i64 0])∧Chg W w' No):=hid (fun W hW=>wlast_good ts b W (h.call hW) ho (hlt.call hW) hbt hnt hE2 hq2);have HF1:Hid (∀ W,Chg w W No→Calls Tryz.prog 43 #[.agg #[.pointer (some ⟨c1.p,0,none⟩),.string (lastN ls)]] W fun e w'=>e=.returned (.tuple #[.int .i64 ((findN x1 (lastN ls)).getD 0),.bool (findN x1 (lastN ls)).isSome])∧Chg W w' No):=hid (fun W hW=>spotfind_any (lastN ls) W (hN1.call hW) hs1 (fun k hk=>by have:=ho.nm _ x1 _ k hx1 hk;exact ⟨this.1,this.2.1⟩));rw [hf1] at HF1;have HF2:Hid (∀ W,Chg w W No→Calls Tryz.prog 43 #[.agg #[.pointer (some ⟨c2.p,0,none⟩),.string (lastN ts)]] W fun e w'=>e=.returned (.tuple #[.int .i64 ((findN x2 (lastN ts)).getD 0),.bool (findN x2 (lastN ts)).isSome])∧Chg W w' No):=hid (fun W hW=>spotfind_any (lastN ts) W (hN2.call hW) hs2 (fun k hk=>by have:=ho.nm _ x2 _ k hx2 hk;exact ⟨this.1,this.2.1⟩));rw [hf2] at HF2
 have HNe:Hid (∀ W,Chg w W No→(Op.equalIn 10000 95 (.agg #[.pointer (some ⟨c1.p,0,none⟩),.string (lastN ls)]) (.agg #[.pointer (some ⟨c2.p,0,none⟩),.string (lastN ts)])).run Tryz.prog W=.ok false W):=hid (fun W hW=>by
  rw [spot_eq _ _ _ _ W (hN1.call hW).me (hN2.call hW).me];refine congrArg (fun z=>Result.ok z W) (decide_eq_false fun e=>hne ?_);refine ⟨?_,e.2.symm⟩
  by_cases hd:lastD s ts=lastD s ls
  ·exact hd
  ·exact absurd e.1 (h.pne hq1 hq2 (fun e=>hd e.symm)))
 obtain ⟨ci,hqi,hNi⟩:=h.node hyi
 have hI:I64 (i:Int):=by have:=h.rng _ (by rw [hqi];intro e;cases e);exact ⟨by omega,by omega⟩
 obtain ⟨fm,hfm⟩:∃ y:Int→Option Value,y=fun y=>(q.nc y).map ptrN:=⟨_,rfl⟩
 have HFi:Hid ((match fm (i:Int) with | some v=>v | none=>.pointer none)=.pointer (some ⟨ci.p,0,none⟩)):=hid (by rw [hfm];simp only [hqi];rfl);have HM:Hid (∀ W,Chg w W No→MapV W q.mb fm):=hid (fun W hW=>by rw [hfm];exact (h.call hW).mp);have HC2q:Hid (∀ W,Chg w W No→W.cell? ⟨q.p,2,none⟩=some (.map (some q.mb))):=hid (fun W hW=>(h.call hW).c2);have HDi:Hid (∀ W,Chg w W No→Calls Tryz.prog 48 #[.pointer (some ⟨ci.p,0,none⟩)] W fun e w'=>e=.returned (.bool false)∧w'=W):=hid (fun W hW=>by have:=isDirectory_any W (hNi.call hW);rw [decide_eq_false hki] at this;exact this);have HI:=hid hI;obtain ⟨cj,hqj,hNj⟩:=h.node hyj
 have hJ:I64 (j:Int):=by have:=h.rng _ (by rw [hqj];intro e;cases e);exact ⟨by omega,by omega⟩
 have HFj:Hid ((match fm (j:Int) with | some v=>v | none=>.pointer none)=.pointer (some ⟨cj.p,0,none⟩)):=hid (by rw [hfm];simp only [hqj];rfl);have HDj:Hid (∀ W,Chg w W No→Calls Tryz.prog 48 #[.pointer (some ⟨cj.p,0,none⟩)] W fun e w'=>e=.returned (.bool false)∧w'=W):=hid (fun W hW=>by have:=isDirectory_any W (hNj.call hW);rw [decide_eq_false hkj] at this;exact this);have HJ:=hid hJ;have HLk:Hid (∀ W,Chg w W No→W.cell? ⟨ci.p,1,none⟩=some (.int .i64 yi.links)):=hid (fun W hW=>(hNi.call hW).c1);obtain ⟨lk,hlkk⟩:∃ z,z=yi.links:=⟨_,rfl⟩;rw [←hlkk] at HLk hlk;subst hlk;have b4:((j:Int) == (i:Int))=false:=beq_eq_false_iff_ne.2 (fun e=>hji (by omega))
 have b5 : ¬ (j:Int)=(i:Int):=fun e=>hji (by omega)
 obtain ⟨n1,hn1⟩:∃ y,y=lastN ls:=⟨_,rfl⟩;obtain ⟨n2,hn2⟩:∃ y,y=lastN ts:=⟨_,rfl⟩;obtain ⟨n,hnn⟩:∃ y,y=ls.length:=⟨_,rfl⟩;obtain ⟨m,hmm⟩:∃ y,y=ts.length:=⟨_,rfl⟩;rw [←hn1,←hnn] at hL1;rw [←hmm] at HL2;rw [←hnn,←hmm];rw [←hn1] at HF1;rw [←hn2] at HL2;rw [←hn2] at HF2;rw [←hn1,←hn2] at HNe;clear h ho hl hb hn hlt hbt hnt hE1 hx1 hq1 hN1 hs1 hn1 hn2 hnn hmm hE2 hx2 hq2 hN2 hs2 hf1 hf2 hyi hne hqi hNi hI hfm hki hyj hqj hNj hJ hkj hlkk hji
 go_enter Tryz.func25,Tryz.ntmps25
 go_upto_region 4 with (first
  | (go_at_call 42;go_must (refine hL1.mono ?_;rintro e w12 ⟨rfl,hc2⟩;have HC12:=hid hc2;clear hc2))
  | (refine store_R rfl 95 _ _ rfl w12.heap.size #[.pointer (some ⟨c1.p,0,none⟩),.string n1] rfl rfl 95 _ (heap_alloc_new _ _) (by rw [szSp];rfl) rfl (by simp [Value.oneCell']) ?_;intro w13 hw13)
  | fail)
 have h13:Chg w12 w13 No:=(Chg.alloc w12 _ No).trans (kt_new hw13) (fun _ _ e=>e) (fun j hj e=>by omega);have HC13:=hid (HC12.out.tr h13);obtain ⟨ga,hga⟩:∃ y,y=w12.heap.size:=⟨_,rfl⟩;have HGa:Hid (w13.heap[ga]? = some (.cells #[.pointer (some ⟨c1.p,0,none⟩),.string n1] 95 (0,0))):=hid (by rw [hga];exact hw13.here);rw [←hga];clear hga hw13 h13 hL1 HC12;have hL2:=HL2.out w13 HC13.out
 go_upto_region 7 with (first
  | (go_at_call 42;go_must (refine hL2.mono ?_;rintro e w22 ⟨rfl,hc2⟩;have HC22:=hid hc2;clear hc2))
  | (refine store_R rfl 95 _ _ rfl w22.heap.size #[.pointer (some ⟨c2.p,0,none⟩),.string n2] rfl rfl 95 _ (heap_alloc_new _ _) (by rw [szSp];rfl) rfl (by simp [Value.oneCell']) ?_;intro w23 hw23)
  | fail)
 have h23:Chg w22 w23 No:=(Chg.alloc w22 _ No).trans (kt_new hw23) (fun _ _ e=>e) (fun j hj e=>by omega);have HC23:=hid ((HC13.out.tr HC22.out).tr h23);obtain ⟨gb,hgb⟩:∃ y,y=w22.heap.size:=⟨_,rfl⟩;have HGb:Hid (w23.heap[gb]? = some (.cells #[.pointer (some ⟨c2.p,0,none⟩),.string n2] 95 (0,0))):=hid (by rw [hgb];exact hw23.here);have HGa2:=hid (h23.keep (HC22.out.keep HGa.out (fun e=>e)) (fun e=>e));rw [←hgb];clear hgb hw23 h23 hL2 HC22 HC13 HGa HL2;have hF1:=HF1.out w23 HC23.out
 go_upto_region 10 with (first
  | (refine load_R rfl 95 _ rfl ga rfl 95 #[.pointer (some ⟨c1.p,0,none⟩),.string n1] _ HGa2.out Tryz.underlying95 rfl (by rw [szSp];rfl) ?_)
  | (go_at_call 43;go_must (refine hF1.mono ?_;rintro e w4 ⟨rfl,hc4⟩;have HC4:=hid (HC23.out.tr hc4);have HGa4:=hid (hc4.keep HGa2.out (fun e=>e));have HGb4:=hid (hc4.keep HGb.out (fun e=>e));clear hc4))
  | fail)
 clear hF1 HF1 HC23 HGa2 HGb
 go_upto_region 12 with (first
  | (refine load_R rfl 95 _ rfl ga rfl 95 #[.pointer (some ⟨c1.p,0,none⟩),.string n1] _ HGa4.out Tryz.underlying95 rfl (by rw [szSp];rfl) ?_)
  | (refine load_R rfl 95 _ rfl gb rfl 95 #[.pointer (some ⟨c2.p,0,none⟩),.string n2] _ HGb4.out Tryz.underlying95 rfl (by rw [szSp];rfl) ?_)
  | (refine eql_W (by rfl) 95 _ _ rfl #[.pointer (some ⟨c1.p,0,none⟩),.string n1] #[.pointer (some ⟨c2.p,0,none⟩),.string n2] false rfl rfl (HNe.out w4 HC4.out) (by kernel_rfl) ?_)
  | fail)
 have hF2:=HF2.out w4 HC4.out
 go_upto_region 13 with (first
  | (refine load_R rfl 95 _ rfl gb rfl 95 #[.pointer (some ⟨c2.p,0,none⟩),.string n2] _ HGb4.out Tryz.underlying95 rfl (by rw [szSp];rfl) ?_)
  | (go_at_call 43;go_must (refine hF2.mono ?_;rintro e w5 ⟨rfl,hc5⟩;have HC5:=hid (HC4.out.tr hc5);have HGa5:=hid (hc5.keep HGa4.out (fun e=>e));have HGb5:=hid (hc5.keep HGb4.out (fun e=>e));clear hc5))
  | fail)
 clear hF2 HF2 HC4 HGa4 HGb4;have c2q:=HC2q.out w5 HC5.out;have hDi:=HDi.out w5 HC5.out
 go_upto_region 14 with (first
  | (at_lookup;go_must (refine wp_lookVN rfl _ _ rfl q.mb fm (i:Int) _ HFi.out rfl rfl (HM.out w5 HC5.out) HI.out ?_))
  | (go_at_call 48;go_must (refine hDi.mono ?_;rintro e w6 ⟨rfl,hw6⟩;subst hw6))
  | fail)
 clear hDi HDi;have hDj:=HDj.out w6 HC5.out
 go_upto_region 16 with (first
  | (refine wp_lookW (by rfl) _ _ rfl q.mb fm (j:Int) _ HFj.out rfl rfl (HM.out _ HC5.out) HJ.out ?_)
  | (go_at_call 48;go_must (refine hDj.mono ?_;rintro e w7 ⟨rfl,hw7⟩;subst hw7))
  | fail)
 go_upto_region 20 with (first
  | fail)
 have l1:=HLk.out w7 HC5.out
 go_wp2_with (first
  | (at_lookup;go_must (refine wp_lookVN rfl _ _ rfl q.mb fm (i:Int) _ HFi.out rfl rfl (HM.out w7 HC5.out) HI.out ?_))
  | fail)
 go_ret
 exact ⟨rfl,HC5.out⟩
set_option maxHeartbeats 3000000 in
set_option maxRecDepth 100000 in
theorem rename_many {q:PC} {s:PSt} (ls ts:List ByteArray) (a b:Option Addr) (w:World) (h:IsPl w q s) (ho:OkS s) (hl:LAt w a ls) (hb:ls.length≤1000) (hn:∀ x∈ls,x.size≤1000) (hlt:LAt w b ts) (hbt:ts.length≤1000) (hnt:∀ x∈ts,x.size≤1000) (hE1:lastE s ls=0) (hE2:lastE s ts=0) (i:Nat) (x1 yi:Nd) (hx1:s.nd (lastD s ls)=some x1) (hf1:findN x1 (lastN ls)=some (i:Int)) (hyi:s.nd (i:Int)=some yi) (hne : ¬ (lastD s ts=lastD s ls∧lastN ts=lastN ls)) (x2:Nd) (hx2:s.nd (lastD s ts)=some x2) (hf2:findN x2 (lastN ts)=none) (hki : ¬ yi.kind=2) (hlk:yi.links=100) :
  Calls Tryz.prog 25 #[.pointer (some ⟨q.p,0,none⟩),.slice a ls.length ls.length,.slice b ts.length ts.length] w fun e w'=>e=.returned (.int .i64 142)∧Chg w w' No:=by
 obtain ⟨c1,hq1,hN1⟩:=h.node hx1;have hs1:=lastN_size hn;have hL1:=wlast_good ls a w h ho hl hb hn hE1 hq1;obtain ⟨c2,hq2,hN2⟩:=h.node hx2;have hs2:=lastN_size hnt;have HL2:Hid (∀ W,Chg w W No→Calls Tryz.prog 42 #[.pointer (some ⟨q.p,0,none⟩),.slice b ts.length ts.length] W fun e w'=>e=.returned (.tuple #[.agg #[.pointer (some ⟨c2.p,0,none⟩),.string (lastN ts)],.int .i64 0])∧Chg W w' No):=hid (fun W hW=>wlast_good ts b W (h.call hW) ho (hlt.call hW) hbt hnt hE2 hq2);have HF1:Hid (∀ W,Chg w W No→Calls Tryz.prog 43 #[.agg #[.pointer (some ⟨c1.p,0,none⟩),.string (lastN ls)]] W fun e w'=>e=.returned (.tuple #[.int .i64 ((findN x1 (lastN ls)).getD 0),.bool (findN x1 (lastN ls)).isSome])∧Chg W w' No):=hid (fun W hW=>spotfind_any (lastN ls) W (hN1.call hW) hs1 (fun k hk=>by have:=ho.nm _ x1 _ k hx1 hk;exact ⟨this.1,this.2.1⟩));rw [hf1] at HF1;have HF2:Hid (∀ W,Chg w W No→Calls Tryz.prog 43 #[.agg #[.pointer (some ⟨c2.p,0,none⟩),.string (lastN ts)]] W fun e w'=>e=.returned (.tuple #[.int .i64 ((findN x2 (lastN ts)).getD 0),.bool (findN x2 (lastN ts)).isSome])∧Chg W w' No):=hid (fun W hW=>spotfind_any (lastN ts) W (hN2.call hW) hs2 (fun k hk=>by have:=ho.nm _ x2 _ k hx2 hk;exact ⟨this.1,this.2.1⟩));rw [hf2] at HF2
 have HNe:Hid (∀ W,Chg w W No→(Op.equalIn 10000 95 (.agg #[.pointer (some ⟨c1.p,0,none⟩),.string (lastN ls)]) (.agg #[.pointer (some ⟨c2.p,0,none⟩),.string (lastN ts)])).run Tryz.prog W=.ok false W):=hid (fun W hW=>by
  rw [spot_eq _ _ _ _ W (hN1.call hW).me (hN2.call hW).me];refine congrArg (fun z=>Result.ok z W) (decide_eq_false fun e=>hne ?_);refine ⟨?_,e.2.symm⟩
  by_cases hd:lastD s ts=lastD s ls
  ·exact hd
  ·exact absurd e.1 (h.pne hq1 hq2 (fun e=>hd e.symm)))
 obtain ⟨ci,hqi,hNi⟩:=h.node hyi
 have hI:I64 (i:Int):=by have:=h.rng _ (by rw [hqi];intro e;cases e);exact ⟨by omega,by omega⟩
 obtain ⟨fm,hfm⟩:∃ y:Int→Option Value,y=fun y=>(q.nc y).map ptrN:=⟨_,rfl⟩
 have HFi:Hid ((match fm (i:Int) with | some v=>v | none=>.pointer none)=.pointer (some ⟨ci.p,0,none⟩)):=hid (by rw [hfm];simp only [hqi];rfl);have HM:Hid (∀ W,Chg w W No→MapV W q.mb fm):=hid (fun W hW=>by rw [hfm];exact (h.call hW).mp);have HC2q:Hid (∀ W,Chg w W No→W.cell? ⟨q.p,2,none⟩=some (.map (some q.mb))):=hid (fun W hW=>(h.call hW).c2);have HDi:Hid (∀ W,Chg w W No→Calls Tryz.prog 48 #[.pointer (some ⟨ci.p,0,none⟩)] W fun e w'=>e=.returned (.bool false)∧w'=W):=hid (fun W hW=>by have:=isDirectory_any W (hNi.call hW);rw [decide_eq_false hki] at this;exact this);have HI:=hid hI;have HLk:Hid (∀ W,Chg w W No→W.cell? ⟨ci.p,1,none⟩=some (.int .i64 yi.links)):=hid (fun W hW=>(hNi.call hW).c1);obtain ⟨lk,hlkk⟩:∃ z,z=yi.links:=⟨_,rfl⟩;rw [←hlkk] at HLk hlk;subst hlk;obtain ⟨n1,hn1⟩:∃ y,y=lastN ls:=⟨_,rfl⟩;obtain ⟨n2,hn2⟩:∃ y,y=lastN ts:=⟨_,rfl⟩;obtain ⟨n,hnn⟩:∃ y,y=ls.length:=⟨_,rfl⟩;obtain ⟨m,hmm⟩:∃ y,y=ts.length:=⟨_,rfl⟩;rw [←hn1,←hnn] at hL1;rw [←hmm] at HL2;rw [←hnn,←hmm];rw [←hn1] at HF1;rw [←hn2] at HL2;rw [←hn2] at HF2;rw [←hn1,←hn2] at HNe;clear h ho hl hb hn hlt hbt hnt hE1 hx1 hq1 hN1 hs1 hn1 hn2 hnn hmm hE2 hx2 hq2 hN2 hs2 hf1 hf2 hyi hne hqi hNi hI hfm hki hlkk
 go_enter Tryz.func25,Tryz.ntmps25
 go_upto_region 4 with (first
  | (go_at_call 42;go_must (refine hL1.mono ?_;rintro e w12 ⟨rfl,hc2⟩;have HC12:=hid hc2;clear hc2))
  | (refine store_R rfl 95 _ _ rfl w12.heap.size #[.pointer (some ⟨c1.p,0,none⟩),.string n1] rfl rfl 95 _ (heap_alloc_new _ _) (by rw [szSp];rfl) rfl (by simp [Value.oneCell']) ?_;intro w13 hw13)
  | fail)
 have h13:Chg w12 w13 No:=(Chg.alloc w12 _ No).trans (kt_new hw13) (fun _ _ e=>e) (fun j hj e=>by omega);have HC13:=hid (HC12.out.tr h13);obtain ⟨ga,hga⟩:∃ y,y=w12.heap.size:=⟨_,rfl⟩;have HGa:Hid (w13.heap[ga]? = some (.cells #[.pointer (some ⟨c1.p,0,none⟩),.string n1] 95 (0,0))):=hid (by rw [hga];exact hw13.here);rw [←hga];clear hga hw13 h13 hL1 HC12;have hL2:=HL2.out w13 HC13.out
 go_upto_region 7 with (first
  | (go_at_call 42;go_must (refine hL2.mono ?_;rintro e w22 ⟨rfl,hc2⟩;have HC22:=hid hc2;clear hc2))
  | (refine store_R rfl 95 _ _ rfl w22.heap.size #[.pointer (some ⟨c2.p,0,none⟩),.string n2] rfl rfl 95 _ (heap_alloc_new _ _) (by rw [szSp];rfl) rfl (by simp [Value.oneCell']) ?_;intro w23 hw23)
  | fail)
 have h23:Chg w22 w23 No:=(Chg.alloc w22 _ No).trans (kt_new hw23) (fun _ _ e=>e) (fun j hj e=>by omega);have HC23:=hid ((HC13.out.tr HC22.out).tr h23);obtain ⟨gb,hgb⟩:∃ y,y=w22.heap.size:=⟨_,rfl⟩;have HGb:Hid (w23.heap[gb]? = some (.cells #[.pointer (some ⟨c2.p,0,none⟩),.string n2] 95 (0,0))):=hid (by rw [hgb];exact hw23.here);have HGa2:=hid (h23.keep (HC22.out.keep HGa.out (fun e=>e)) (fun e=>e));rw [←hgb];clear hgb hw23 h23 hL2 HC22 HC13 HGa HL2;have hF1:=HF1.out w23 HC23.out
 go_upto_region 10 with (first
  | (refine load_R rfl 95 _ rfl ga rfl 95 #[.pointer (some ⟨c1.p,0,none⟩),.string n1] _ HGa2.out Tryz.underlying95 rfl (by rw [szSp];rfl) ?_)
  | (go_at_call 43;go_must (refine hF1.mono ?_;rintro e w4 ⟨rfl,hc4⟩;have HC4:=hid (HC23.out.tr hc4);have HGa4:=hid (hc4.keep HGa2.out (fun e=>e));have HGb4:=hid (hc4.keep HGb.out (fun e=>e));clear hc4))
  | fail)
 clear hF1 HF1 HC23 HGa2 HGb
 go_upto_region 12 with (first
  | (refine load_R rfl 95 _ rfl ga rfl 95 #[.pointer (some ⟨c1.p,0,none⟩),.string n1] _ HGa4.out Tryz.underlying95 rfl (by rw [szSp];rfl) ?_)
  | (refine load_R rfl 95 _ rfl gb rfl 95 #[.pointer (some ⟨c2.p,0,none⟩),.string n2] _ HGb4.out Tryz.underlying95 rfl (by rw [szSp];rfl) ?_)
  | (refine eql_W (by rfl) 95 _ _ rfl #[.pointer (some ⟨c1.p,0,none⟩),.string n1] #[.pointer (some ⟨c2.p,0,none⟩),.string n2] false rfl rfl (HNe.out w4 HC4.out) (by kernel_rfl) ?_)
  | fail)
 have hF2:=HF2.out w4 HC4.out
 go_upto_region 13 with (first
  | (refine load_R rfl 95 _ rfl gb rfl 95 #[.pointer (some ⟨c2.p,0,none⟩),.string n2] _ HGb4.out Tryz.underlying95 rfl (by rw [szSp];rfl) ?_)
  | (go_at_call 43;go_must (refine hF2.mono ?_;rintro e w5 ⟨rfl,hc5⟩;have HC5:=hid (HC4.out.tr hc5);have HGa5:=hid (hc5.keep HGa4.out (fun e=>e));have HGb5:=hid (hc5.keep HGb4.out (fun e=>e));clear hc5))
  | fail)
 clear hF2 HF2 HC4 HGa4 HGb4;have c2q:=HC2q.out w5 HC5.out;have hDi:=HDi.out w5 HC5.out
 go_upto_region 14 with (first
  | (at_lookup;go_must (refine wp_lookVN rfl _ _ rfl q.mb fm (i:Int) _ HFi.out rfl rfl (HM.out w5 HC5.out) HI.out ?_))
  | (go_at_call 48;go_must (refine hDi.mono ?_;rintro e w6 ⟨rfl,hw6⟩;subst hw6))
  | fail)
 clear hDi HDi
 go_upto_region 16 with (first
  | fail)
 go_upto_region 20 with (first
  | fail)
 have l1:=HLk.out w6 HC5.out
 go_wp2_with (first
  | (at_lookup;go_must (refine wp_lookVN rfl _ _ rfl q.mb fm (i:Int) _ HFi.out rfl rfl (HM.out w6 HC5.out) HI.out ?_))
  | fail)
 go_ret
 exact ⟨rfl,HC5.out⟩
set_option maxHeartbeats 3000000 in
set_option maxRecDepth 100000 in
theorem rename_manyD {q:PC} {s:PSt} (ls ts:List ByteArray) (a b:Option Addr) (w:World) (h:IsPl w q s) (ho:OkS s) (hl:LAt w a ls) (hb:ls.length≤1000) (hn:∀ x∈ls,x.size≤1000) (hlt:LAt w b ts) (hbt:ts.length≤1000) (hnt:∀ x∈ts,x.size≤1000) (hE1:lastE s ls=0) (hE2:lastE s ts=0) (i:Nat) (x1 yi:Nd) (hx1:s.nd (lastD s ls)=some x1) (hf1:findN x1 (lastN ls)=some (i:Int)) (hyi:s.nd (i:Int)=some yi) (hne : ¬ (lastD s ts=lastD s ls∧lastN ts=lastN ls)) (x2:Nd) (hx2:s.nd (lastD s ts)=some x2) (hf2:findN x2 (lastN ts)=none) (hki:yi.kind=2) (hbl:belowB ts ls=false) (hlk:yi.links=100) :
  Calls Tryz.prog 25 #[.pointer (some ⟨q.p,0,none⟩),.slice a ls.length ls.length,.slice b ts.length ts.length] w fun e w'=>e=.returned (.int .i64 142)∧Chg w w' No:=by
 obtain ⟨c1,hq1,hN1⟩:=h.node hx1;have hs1:=lastN_size hn;have hL1:=wlast_good ls a w h ho hl hb hn hE1 hq1;obtain ⟨c2,hq2,hN2⟩:=h.node hx2;have hs2:=lastN_size hnt;have HL2:Hid (∀ W,Chg w W No→Calls Tryz.prog 42 #[.pointer (some ⟨q.p,0,none⟩),.slice b ts.length ts.length] W fun e w'=>e=.returned (.tuple #[.agg #[.pointer (some ⟨c2.p,0,none⟩),.string (lastN ts)],.int .i64 0])∧Chg W w' No):=hid (fun W hW=>wlast_good ts b W (h.call hW) ho (hlt.call hW) hbt hnt hE2 hq2);have HF1:Hid (∀ W,Chg w W No→Calls Tryz.prog 43 #[.agg #[.pointer (some ⟨c1.p,0,none⟩),.string (lastN ls)]] W fun e w'=>e=.returned (.tuple #[.int .i64 ((findN x1 (lastN ls)).getD 0),.bool (findN x1 (lastN ls)).isSome])∧Chg W w' No):=hid (fun W hW=>spotfind_any (lastN ls) W (hN1.call hW) hs1 (fun k hk=>by have:=ho.nm _ x1 _ k hx1 hk;exact ⟨this.1,this.2.1⟩));rw [hf1] at HF1;have HF2:Hid (∀ W,Chg w W No→Calls Tryz.prog 43 #[.agg #[.pointer (some ⟨c2.p,0,none⟩),.string (lastN ts)]] W fun e w'=>e=.returned (.tuple #[.int .i64 ((findN x2 (lastN ts)).getD 0),.bool (findN x2 (lastN ts)).isSome])∧Chg W w' No):=hid (fun W hW=>spotfind_any (lastN ts) W (hN2.call hW) hs2 (fun k hk=>by have:=ho.nm _ x2 _ k hx2 hk;exact ⟨this.1,this.2.1⟩));rw [hf2] at HF2
 have HNe:Hid (∀ W,Chg w W No→(Op.equalIn 10000 95 (.agg #[.pointer (some ⟨c1.p,0,none⟩),.string (lastN ls)]) (.agg #[.pointer (some ⟨c2.p,0,none⟩),.string (lastN ts)])).run Tryz.prog W=.ok false W):=hid (fun W hW=>by
  rw [spot_eq _ _ _ _ W (hN1.call hW).me (hN2.call hW).me];refine congrArg (fun z=>Result.ok z W) (decide_eq_false fun e=>hne ?_);refine ⟨?_,e.2.symm⟩
  by_cases hd:lastD s ts=lastD s ls
  ·exact hd
  ·exact absurd e.1 (h.pne hq1 hq2 (fun e=>hd e.symm)))
 obtain ⟨ci,hqi,hNi⟩:=h.node hyi
 have hI:I64 (i:Int):=by have:=h.rng _ (by rw [hqi];intro e;cases e);exact ⟨by omega,by omega⟩
 obtain ⟨fm,hfm⟩:∃ y:Int→Option Value,y=fun y=>(q.nc y).map ptrN:=⟨_,rfl⟩
 have HFi:Hid ((match fm (i:Int) with | some v=>v | none=>.pointer none)=.pointer (some ⟨ci.p,0,none⟩)):=hid (by rw [hfm];simp only [hqi];rfl);have HM:Hid (∀ W,Chg w W No→MapV W q.mb fm):=hid (fun W hW=>by rw [hfm];exact (h.call hW).mp);have HC2q:Hid (∀ W,Chg w W No→W.cell? ⟨q.p,2,none⟩=some (.map (some q.mb))):=hid (fun W hW=>(h.call hW).c2);have HDi:Hid (∀ W,Chg w W No→Calls Tryz.prog 48 #[.pointer (some ⟨ci.p,0,none⟩)] W fun e w'=>e=.returned (.bool true)∧w'=W):=hid (fun W hW=>by have:=isDirectory_any W (hNi.call hW);rw [decide_eq_true hki] at this;exact this);have HI:=hid hI;have HBl:Hid (∀ W,Chg w W No→Calls Tryz.prog 51 #[.slice b ts.length ts.length,.slice a ls.length ls.length] W fun e w'=>e=.returned (.bool false)∧Chg W w' No):=hid (fun W hW=>by have:=isBelow_any ts ls b a W (hlt.call hW) (hl.call hW) hbt hb;rw [hbl] at this;exact this);have HLk:Hid (∀ W,Chg w W No→W.cell? ⟨ci.p,1,none⟩=some (.int .i64 yi.links)):=hid (fun W hW=>(hNi.call hW).c1);obtain ⟨lk,hlkk⟩:∃ z,z=yi.links:=⟨_,rfl⟩;rw [←hlkk] at HLk hlk;subst hlk;obtain ⟨n1,hn1⟩:∃ y,y=lastN ls:=⟨_,rfl⟩;obtain ⟨n2,hn2⟩:∃ y,y=lastN ts:=⟨_,rfl⟩;obtain ⟨n,hnn⟩:∃ y,y=ls.length:=⟨_,rfl⟩;obtain ⟨m,hmm⟩:∃ y,y=ts.length:=⟨_,rfl⟩;rw [←hn1,←hnn] at hL1;rw [←hmm] at HL2;rw [←hnn,←hmm];rw [←hn1] at HF1;rw [←hn2] at HL2;rw [←hn2] at HF2;rw [←hn1,←hn2] at HNe;rw [←hnn,←hmm] at HBl;clear h ho hl hb hn hlt hbt hnt hE1 hx1 hq1 hN1 hs1 hn1 hn2 hnn hmm hE2 hx2 hq2 hN2 hs2 hf1 hf2 hyi hne hqi hNi hI hfm hki hbl hlkk
 go_enter Tryz.func25,Tryz.ntmps25
 go_upto_region 4 with (first
  | (go_at_call 42;go_must (refine hL1.mono ?_;rintro e w12 ⟨rfl,hc2⟩;have HC12:=hid hc2;clear hc2))
  | (refine store_R rfl 95 _ _ rfl w12.heap.size #[.pointer (some ⟨c1.p,0,none⟩),.string n1] rfl rfl 95 _ (heap_alloc_new _ _) (by rw [szSp];rfl) rfl (by simp [Value.oneCell']) ?_;intro w13 hw13)
  | fail)
 have h13:Chg w12 w13 No:=(Chg.alloc w12 _ No).trans (kt_new hw13) (fun _ _ e=>e) (fun j hj e=>by omega);have HC13:=hid (HC12.out.tr h13);obtain ⟨ga,hga⟩:∃ y,y=w12.heap.size:=⟨_,rfl⟩;have HGa:Hid (w13.heap[ga]? = some (.cells #[.pointer (some ⟨c1.p,0,none⟩),.string n1] 95 (0,0))):=hid (by rw [hga];exact hw13.here);rw [←hga];clear hga hw13 h13 hL1 HC12;have hL2:=HL2.out w13 HC13.out
 go_upto_region 7 with (first
  | (go_at_call 42;go_must (refine hL2.mono ?_;rintro e w22 ⟨rfl,hc2⟩;have HC22:=hid hc2;clear hc2))
  | (refine store_R rfl 95 _ _ rfl w22.heap.size #[.pointer (some ⟨c2.p,0,none⟩),.string n2] rfl rfl 95 _ (heap_alloc_new _ _) (by rw [szSp];rfl) rfl (by simp [Value.oneCell']) ?_;intro w23 hw23)
  | fail)
 have h23:Chg w22 w23 No:=(Chg.alloc w22 _ No).trans (kt_new hw23) (fun _ _ e=>e) (fun j hj e=>by omega);have HC23:=hid ((HC13.out.tr HC22.out).tr h23);obtain ⟨gb,hgb⟩:∃ y,y=w22.heap.size:=⟨_,rfl⟩;have HGb:Hid (w23.heap[gb]? = some (.cells #[.pointer (some ⟨c2.p,0,none⟩),.string n2] 95 (0,0))):=hid (by rw [hgb];exact hw23.here);have HGa2:=hid (h23.keep (HC22.out.keep HGa.out (fun e=>e)) (fun e=>e));rw [←hgb];clear hgb hw23 h23 hL2 HC22 HC13 HGa HL2;have hF1:=HF1.out w23 HC23.out
 go_upto_region 10 with (first
  | (refine load_R rfl 95 _ rfl ga rfl 95 #[.pointer (some ⟨c1.p,0,none⟩),.string n1] _ HGa2.out Tryz.underlying95 rfl (by rw [szSp];rfl) ?_)
  | (go_at_call 43;go_must (refine hF1.mono ?_;rintro e w4 ⟨rfl,hc4⟩;have HC4:=hid (HC23.out.tr hc4);have HGa4:=hid (hc4.keep HGa2.out (fun e=>e));have HGb4:=hid (hc4.keep HGb.out (fun e=>e));clear hc4))
  | fail)
 clear hF1 HF1 HC23 HGa2 HGb
 go_upto_region 12 with (first
  | (refine load_R rfl 95 _ rfl ga rfl 95 #[.pointer (some ⟨c1.p,0,none⟩),.string n1] _ HGa4.out Tryz.underlying95 rfl (by rw [szSp];rfl) ?_)
  | (refine load_R rfl 95 _ rfl gb rfl 95 #[.pointer (some ⟨c2.p,0,none⟩),.string n2] _ HGb4.out Tryz.underlying95 rfl (by rw [szSp];rfl) ?_)
  | (refine eql_W (by rfl) 95 _ _ rfl #[.pointer (some ⟨c1.p,0,none⟩),.string n1] #[.pointer (some ⟨c2.p,0,none⟩),.string n2] false rfl rfl (HNe.out w4 HC4.out) (by kernel_rfl) ?_)
  | fail)
 have hF2:=HF2.out w4 HC4.out
 go_upto_region 13 with (first
  | (refine load_R rfl 95 _ rfl gb rfl 95 #[.pointer (some ⟨c2.p,0,none⟩),.string n2] _ HGb4.out Tryz.underlying95 rfl (by rw [szSp];rfl) ?_)
  | (go_at_call 43;go_must (refine hF2.mono ?_;rintro e w5 ⟨rfl,hc5⟩;have HC5:=hid (HC4.out.tr hc5);have HGa5:=hid (hc5.keep HGa4.out (fun e=>e));have HGb5:=hid (hc5.keep HGb4.out (fun e=>e));clear hc5))
  | fail)
 clear hF2 HF2 HC4 HGa4 HGb4;have c2q:=HC2q.out w5 HC5.out;have hDi:=HDi.out w5 HC5.out
 go_upto_region 14 with (first
  | (at_lookup;go_must (refine wp_lookVN rfl _ _ rfl q.mb fm (i:Int) _ HFi.out rfl rfl (HM.out w5 HC5.out) HI.out ?_))
  | (go_at_call 48;go_must (refine hDi.mono ?_;rintro e w6 ⟨rfl,hw6⟩;subst hw6))
  | fail)
 clear hDi HDi
 go_upto_region 16 with (first
  | fail)
 have hBl:=HBl.out w6 HC5.out
 go_upto_region 20 with (first
  | (go_at_call 51;go_must (refine hBl.mono ?_;rintro e w8 ⟨rfl,hc8⟩;have HC8:=hid (HC5.out.tr hc8);have HGa8:=hid (hc8.keep HGa5.out (fun e=>e));have HGb8:=hid (hc8.keep HGb5.out (fun e=>e));clear hc8))
  | fail)
 clear c2q;have c2q:=HC2q.out w8 HC8.out;have l1:=HLk.out w8 HC8.out
 go_wp2_with (first
  | (at_lookup;go_must (refine wp_lookVN rfl _ _ rfl q.mb fm (i:Int) _ HFi.out rfl rfl (HM.out w8 HC8.out) HI.out ?_))
  | fail)
 go_ret
 exact ⟨rfl,HC8.out⟩
set_option maxHeartbeats 3000000 in
set_option maxRecDepth 100000 in
theorem rename_repl {q:PC} {s:PSt} (ls ts:List ByteArray) (a b:Option Addr) (w:World) (h:IsPl w q s) (ho:OkS s) (hl:LAt w a ls) (hb:ls.length≤1000) (hn:∀ x∈ls,x.size≤1000) (hlt:LAt w b ts) (hbt:ts.length≤1000) (hnt:∀ x∈ts,x.size≤1000) (hE1:lastE s ls=0) (hE2:lastE s ts=0) (i:Nat) (x1 yi:Nd) (hx1:s.nd (lastD s ls)=some x1) (hf1:findN x1 (lastN ls)=some (i:Int)) (hyi:s.nd (i:Int)=some yi) (hne : ¬ (lastD s ts=lastD s ls∧lastN ts=lastN ls)) (x2:Nd) (hx2:s.nd (lastD s ts)=some x2) (j:Nat) (yj:Nd) (hf2:findN x2 (lastN ts)=some (j:Int)) (hyj:s.nd (j:Int)=some yj) (hki : ¬ yi.kind=2) (hkj : ¬ yj.kind=2) (hji : ¬ j=i) (hlk : ¬ yi.links=100) (T:World→World→Prop) (hRp:∀ c1 c2,q.nc (lastD s ls)=some c1→q.nc (lastD s ts)=some c2→∀ W,Chg w W No→Calls Tryz.prog 52 #[.pointer (some ⟨q.p,0,none⟩),.agg #[.pointer (some ⟨c1.p,0,none⟩),.string (lastN ls)],.agg #[.pointer (some ⟨c2.p,0,none⟩),.string (lastN ts)],.int .i64 (i:Int),.int .i64 (j:Int)] W fun e w'=>e=.returned (.tuple #[])∧T W w') :
  Calls Tryz.prog 25 #[.pointer (some ⟨q.p,0,none⟩),.slice a ls.length ls.length,.slice b ts.length ts.length] w fun e w'=>e=.returned (.int .i64 0)∧∃ W,Chg w W No∧T W w':=by
 obtain ⟨c1,hq1,hN1⟩:=h.node hx1;have hs1:=lastN_size hn;have hL1:=wlast_good ls a w h ho hl hb hn hE1 hq1;obtain ⟨c2,hq2,hN2⟩:=h.node hx2;have hs2:=lastN_size hnt;have HL2:Hid (∀ W,Chg w W No→Calls Tryz.prog 42 #[.pointer (some ⟨q.p,0,none⟩),.slice b ts.length ts.length] W fun e w'=>e=.returned (.tuple #[.agg #[.pointer (some ⟨c2.p,0,none⟩),.string (lastN ts)],.int .i64 0])∧Chg W w' No):=hid (fun W hW=>wlast_good ts b W (h.call hW) ho (hlt.call hW) hbt hnt hE2 hq2);have HF1:Hid (∀ W,Chg w W No→Calls Tryz.prog 43 #[.agg #[.pointer (some ⟨c1.p,0,none⟩),.string (lastN ls)]] W fun e w'=>e=.returned (.tuple #[.int .i64 ((findN x1 (lastN ls)).getD 0),.bool (findN x1 (lastN ls)).isSome])∧Chg W w' No):=hid (fun W hW=>spotfind_any (lastN ls) W (hN1.call hW) hs1 (fun k hk=>by have:=ho.nm _ x1 _ k hx1 hk;exact ⟨this.1,this.2.1⟩));rw [hf1] at HF1;have HF2:Hid (∀ W,Chg w W No→Calls Tryz.prog 43 #[.agg #[.pointer (some ⟨c2.p,0,none⟩),.string (lastN ts)]] W fun e w'=>e=.returned (.tuple #[.int .i64 ((findN x2 (lastN ts)).getD 0),.bool (findN x2 (lastN ts)).isSome])∧Chg W w' No):=hid (fun W hW=>spotfind_any (lastN ts) W (hN2.call hW) hs2 (fun k hk=>by have:=ho.nm _ x2 _ k hx2 hk;exact ⟨this.1,this.2.1⟩));rw [hf2] at HF2
 have HNe:Hid (∀ W,Chg w W No→(Op.equalIn 10000 95 (.agg #[.pointer (some ⟨c1.p,0,none⟩),.string (lastN ls)]) (.agg #[.pointer (some ⟨c2.p,0,none⟩),.string (lastN ts)])).run Tryz.prog W=.ok false W):=hid (fun W hW=>by
  rw [spot_eq _ _ _ _ W (hN1.call hW).me (hN2.call hW).me];refine congrArg (fun z=>Result.ok z W) (decide_eq_false fun e=>hne ?_);refine ⟨?_,e.2.symm⟩
  by_cases hd:lastD s ts=lastD s ls
  ·exact hd
  ·exact absurd e.1 (h.pne hq1 hq2 (fun e=>hd e.symm)))
 obtain ⟨ci,hqi,hNi⟩:=h.node hyi
 have hI:I64 (i:Int):=by have:=h.rng _ (by rw [hqi];intro e;cases e);exact ⟨by omega,by omega⟩
 obtain ⟨fm,hfm⟩:∃ y:Int→Option Value,y=fun y=>(q.nc y).map ptrN:=⟨_,rfl⟩
 have HFi:Hid ((match fm (i:Int) with | some v=>v | none=>.pointer none)=.pointer (some ⟨ci.p,0,none⟩)):=hid (by rw [hfm];simp only [hqi];rfl);have HM:Hid (∀ W,Chg w W No→MapV W q.mb fm):=hid (fun W hW=>by rw [hfm];exact (h.call hW).mp);have HC2q:Hid (∀ W,Chg w W No→W.cell? ⟨q.p,2,none⟩=some (.map (some q.mb))):=hid (fun W hW=>(h.call hW).c2);have HDi:Hid (∀ W,Chg w W No→Calls Tryz.prog 48 #[.pointer (some ⟨ci.p,0,none⟩)] W fun e w'=>e=.returned (.bool false)∧w'=W):=hid (fun W hW=>by have:=isDirectory_any W (hNi.call hW);rw [decide_eq_false hki] at this;exact this);have HI:=hid hI;obtain ⟨cj,hqj,hNj⟩:=h.node hyj
 have hJ:I64 (j:Int):=by have:=h.rng _ (by rw [hqj];intro e;cases e);exact ⟨by omega,by omega⟩
 have HFj:Hid ((match fm (j:Int) with | some v=>v | none=>.pointer none)=.pointer (some ⟨cj.p,0,none⟩)):=hid (by rw [hfm];simp only [hqj];rfl);have HDj:Hid (∀ W,Chg w W No→Calls Tryz.prog 48 #[.pointer (some ⟨cj.p,0,none⟩)] W fun e w'=>e=.returned (.bool false)∧w'=W):=hid (fun W hW=>by have:=isDirectory_any W (hNj.call hW);rw [decide_eq_false hkj] at this;exact this);have HJ:=hid hJ;have HLk:Hid (∀ W,Chg w W No→W.cell? ⟨ci.p,1,none⟩=some (.int .i64 yi.links)):=hid (fun W hW=>(hNi.call hW).c1);obtain ⟨lk,hlkk⟩:∃ z,z=yi.links:=⟨_,rfl⟩;rw [←hlkk] at HLk hlk;have b2:(lk == 100)=false:=beq_eq_false_iff_ne.2 hlk;have b4:((j:Int) == (i:Int))=false:=beq_eq_false_iff_ne.2 (fun e=>hji (by omega))
 have b5 : ¬ (j:Int)=(i:Int):=fun e=>hji (by omega)
 have HRp:=hid (hRp c1 c2 hq1 hq2);obtain ⟨n1,hn1⟩:∃ y,y=lastN ls:=⟨_,rfl⟩;obtain ⟨n2,hn2⟩:∃ y,y=lastN ts:=⟨_,rfl⟩;obtain ⟨n,hnn⟩:∃ y,y=ls.length:=⟨_,rfl⟩;obtain ⟨m,hmm⟩:∃ y,y=ts.length:=⟨_,rfl⟩;rw [←hn1,←hnn] at hL1;rw [←hmm] at HL2;rw [←hnn,←hmm];rw [←hn1] at HF1;rw [←hn2] at HL2;rw [←hn2] at HF2;rw [←hn1,←hn2] at HNe;rw [←hn1,←hn2] at HRp;clear h ho hl hb hn hlt hbt hnt hE1 hx1 hq1 hN1 hs1 hn1 hn2 hnn hmm hE2 hx2 hq2 hN2 hs2 hf1 hf2 hyi hne hqi hNi hI hfm hki hyj hqj hNj hJ hkj hlkk hlk hji hRp
 go_enter Tryz.func25,Tryz.ntmps25
 go_upto_region 4 with (first
  | (go_at_call 42;go_must (refine hL1.mono ?_;rintro e w12 ⟨rfl,hc2⟩;have HC12:=hid hc2;clear hc2))
  | (refine store_R rfl 95 _ _ rfl w12.heap.size #[.pointer (some ⟨c1.p,0,none⟩),.string n1] rfl rfl 95 _ (heap_alloc_new _ _) (by rw [szSp];rfl) rfl (by simp [Value.oneCell']) ?_;intro w13 hw13)
  | fail)
 have h13:Chg w12 w13 No:=(Chg.alloc w12 _ No).trans (kt_new hw13) (fun _ _ e=>e) (fun j hj e=>by omega);have HC13:=hid (HC12.out.tr h13);obtain ⟨ga,hga⟩:∃ y,y=w12.heap.size:=⟨_,rfl⟩;have HGa:Hid (w13.heap[ga]? = some (.cells #[.pointer (some ⟨c1.p,0,none⟩),.string n1] 95 (0,0))):=hid (by rw [hga];exact hw13.here);rw [←hga];clear hga hw13 h13 hL1 HC12;have hL2:=HL2.out w13 HC13.out
 go_upto_region 7 with (first
  | (go_at_call 42;go_must (refine hL2.mono ?_;rintro e w22 ⟨rfl,hc2⟩;have HC22:=hid hc2;clear hc2))
  | (refine store_R rfl 95 _ _ rfl w22.heap.size #[.pointer (some ⟨c2.p,0,none⟩),.string n2] rfl rfl 95 _ (heap_alloc_new _ _) (by rw [szSp];rfl) rfl (by simp [Value.oneCell']) ?_;intro w23 hw23)
  | fail)
 have h23:Chg w22 w23 No:=(Chg.alloc w22 _ No).trans (kt_new hw23) (fun _ _ e=>e) (fun j hj e=>by omega);have HC23:=hid ((HC13.out.tr HC22.out).tr h23);obtain ⟨gb,hgb⟩:∃ y,y=w22.heap.size:=⟨_,rfl⟩;have HGb:Hid (w23.heap[gb]? = some (.cells #[.pointer (some ⟨c2.p,0,none⟩),.string n2] 95 (0,0))):=hid (by rw [hgb];exact hw23.here);have HGa2:=hid (h23.keep (HC22.out.keep HGa.out (fun e=>e)) (fun e=>e));rw [←hgb];clear hgb hw23 h23 hL2 HC22 HC13 HGa HL2;have hF1:=HF1.out w23 HC23.out
 go_upto_region 10 with (first
  | (refine load_R rfl 95 _ rfl ga rfl 95 #[.pointer (some ⟨c1.p,0,none⟩),.string n1] _ HGa2.out Tryz.underlying95 rfl (by rw [szSp];rfl) ?_)
  | (go_at_call 43;go_must (refine hF1.mono ?_;rintro e w4 ⟨rfl,hc4⟩;have HC4:=hid (HC23.out.tr hc4);have HGa4:=hid (hc4.keep HGa2.out (fun e=>e));have HGb4:=hid (hc4.keep HGb.out (fun e=>e));clear hc4))
  | fail)
 clear hF1 HF1 HC23 HGa2 HGb
 go_upto_region 12 with (first
  | (refine load_R rfl 95 _ rfl ga rfl 95 #[.pointer (some ⟨c1.p,0,none⟩),.string n1] _ HGa4.out Tryz.underlying95 rfl (by rw [szSp];rfl) ?_)
  | (refine load_R rfl 95 _ rfl gb rfl 95 #[.pointer (some ⟨c2.p,0,none⟩),.string n2] _ HGb4.out Tryz.underlying95 rfl (by rw [szSp];rfl) ?_)
  | (refine eql_W (by rfl) 95 _ _ rfl #[.pointer (some ⟨c1.p,0,none⟩),.string n1] #[.pointer (some ⟨c2.p,0,none⟩),.string n2] false rfl rfl (HNe.out w4 HC4.out) (by kernel_rfl) ?_)
  | fail)
 have hF2:=HF2.out w4 HC4.out
 go_upto_region 13 with (first
  | (refine load_R rfl 95 _ rfl gb rfl 95 #[.pointer (some ⟨c2.p,0,none⟩),.string n2] _ HGb4.out Tryz.underlying95 rfl (by rw [szSp];rfl) ?_)
  | (go_at_call 43;go_must (refine hF2.mono ?_;rintro e w5 ⟨rfl,hc5⟩;have HC5:=hid (HC4.out.tr hc5);have HGa5:=hid (hc5.keep HGa4.out (fun e=>e));have HGb5:=hid (hc5.keep HGb4.out (fun e=>e));clear hc5))
  | fail)
 clear hF2 HF2 HC4 HGa4 HGb4;have c2q:=HC2q.out w5 HC5.out;have hDi:=HDi.out w5 HC5.out
 go_upto_region 14 with (first
  | (at_lookup;go_must (refine wp_lookVN rfl _ _ rfl q.mb fm (i:Int) _ HFi.out rfl rfl (HM.out w5 HC5.out) HI.out ?_))
  | (go_at_call 48;go_must (refine hDi.mono ?_;rintro e w6 ⟨rfl,hw6⟩;subst hw6))
  | fail)
 clear hDi HDi;have hDj:=HDj.out w6 HC5.out
 go_upto_region 16 with (first
  | (refine wp_lookW (by rfl) _ _ rfl q.mb fm (j:Int) _ HFj.out rfl rfl (HM.out _ HC5.out) HJ.out ?_)
  | (go_at_call 48;go_must (refine hDj.mono ?_;rintro e w7 ⟨rfl,hw7⟩;subst hw7))
  | fail)
 go_upto_region 20 with (first
  | fail)
 have l1:=HLk.out w7 HC5.out
 go_upto_region 23 with (first
  | (at_lookup;go_must (refine wp_lookVN rfl _ _ rfl q.mb fm (i:Int) _ HFi.out rfl rfl (HM.out w7 HC5.out) HI.out ?_))
  | fail)
 have hR:=HRp.out w7 HC5.out
 go_wp2_with (first
  | (refine load_R rfl 95 _ rfl ga rfl 95 #[.pointer (some ⟨c1.p,0,none⟩),.string n1] _ HGa5.out Tryz.underlying95 rfl (by rw [szSp];rfl) ?_)
  | (refine load_R rfl 95 _ rfl gb rfl 95 #[.pointer (some ⟨c2.p,0,none⟩),.string n2] _ HGb5.out Tryz.underlying95 rfl (by rw [szSp];rfl) ?_)
  | (go_at_call 52;go_must (refine hR.mono ?_;rintro e w9 ⟨rfl,ht9⟩;have HT9:=hid ht9;clear ht9))
  | fail)
 go_ret
 exact ⟨rfl,_,HC5.out,HT9.out⟩
set_option maxHeartbeats 3000000 in
set_option maxRecDepth 100000 in
theorem rename_move {q:PC} {s:PSt} (ls ts:List ByteArray) (a b:Option Addr) (w:World) (h:IsPl w q s) (ho:OkS s) (hl:LAt w a ls) (hb:ls.length≤1000) (hn:∀ x∈ls,x.size≤1000) (hlt:LAt w b ts) (hbt:ts.length≤1000) (hnt:∀ x∈ts,x.size≤1000) (hE1:lastE s ls=0) (hE2:lastE s ts=0) (i:Nat) (x1 yi:Nd) (hx1:s.nd (lastD s ls)=some x1) (hf1:findN x1 (lastN ls)=some (i:Int)) (hyi:s.nd (i:Int)=some yi) (hne : ¬ (lastD s ts=lastD s ls∧lastN ts=lastN ls)) (x2:Nd) (hx2:s.nd (lastD s ts)=some x2) (hf2:findN x2 (lastN ts)=none) (hki : ¬ yi.kind=2) (hlk : ¬ yi.links=100) (E:Int) (T:World→World→Prop) (hMv:∀ c1 c2,q.nc (lastD s ls)=some c1→q.nc (lastD s ts)=some c2→∀ W,Chg w W No→Calls Tryz.prog 53 #[.pointer (some ⟨q.p,0,none⟩),.agg #[.pointer (some ⟨c1.p,0,none⟩),.string (lastN ls)],.agg #[.pointer (some ⟨c2.p,0,none⟩),.string (lastN ts)],.int .i64 (i:Int)] W fun e w'=>e=.returned (.int .i64 E)∧T W w') :
  Calls Tryz.prog 25 #[.pointer (some ⟨q.p,0,none⟩),.slice a ls.length ls.length,.slice b ts.length ts.length] w fun e w'=>e=.returned (.int .i64 E)∧∃ W,Chg w W No∧T W w':=by
 obtain ⟨c1,hq1,hN1⟩:=h.node hx1;have hs1:=lastN_size hn;have hL1:=wlast_good ls a w h ho hl hb hn hE1 hq1;obtain ⟨c2,hq2,hN2⟩:=h.node hx2;have hs2:=lastN_size hnt;have HL2:Hid (∀ W,Chg w W No→Calls Tryz.prog 42 #[.pointer (some ⟨q.p,0,none⟩),.slice b ts.length ts.length] W fun e w'=>e=.returned (.tuple #[.agg #[.pointer (some ⟨c2.p,0,none⟩),.string (lastN ts)],.int .i64 0])∧Chg W w' No):=hid (fun W hW=>wlast_good ts b W (h.call hW) ho (hlt.call hW) hbt hnt hE2 hq2);have HF1:Hid (∀ W,Chg w W No→Calls Tryz.prog 43 #[.agg #[.pointer (some ⟨c1.p,0,none⟩),.string (lastN ls)]] W fun e w'=>e=.returned (.tuple #[.int .i64 ((findN x1 (lastN ls)).getD 0),.bool (findN x1 (lastN ls)).isSome])∧Chg W w' No):=hid (fun W hW=>spotfind_any (lastN ls) W (hN1.call hW) hs1 (fun k hk=>by have:=ho.nm _ x1 _ k hx1 hk;exact ⟨this.1,this.2.1⟩));rw [hf1] at HF1;have HF2:Hid (∀ W,Chg w W No→Calls Tryz.prog 43 #[.agg #[.pointer (some ⟨c2.p,0,none⟩),.string (lastN ts)]] W fun e w'=>e=.returned (.tuple #[.int .i64 ((findN x2 (lastN ts)).getD 0),.bool (findN x2 (lastN ts)).isSome])∧Chg W w' No):=hid (fun W hW=>spotfind_any (lastN ts) W (hN2.call hW) hs2 (fun k hk=>by have:=ho.nm _ x2 _ k hx2 hk;exact ⟨this.1,this.2.1⟩));rw [hf2] at HF2
 have HNe:Hid (∀ W,Chg w W No→(Op.equalIn 10000 95 (.agg #[.pointer (some ⟨c1.p,0,none⟩),.string (lastN ls)]) (.agg #[.pointer (some ⟨c2.p,0,none⟩),.string (lastN ts)])).run Tryz.prog W=.ok false W):=hid (fun W hW=>by
  rw [spot_eq _ _ _ _ W (hN1.call hW).me (hN2.call hW).me];refine congrArg (fun z=>Result.ok z W) (decide_eq_false fun e=>hne ?_);refine ⟨?_,e.2.symm⟩
  by_cases hd:lastD s ts=lastD s ls
  ·exact hd
  ·exact absurd e.1 (h.pne hq1 hq2 (fun e=>hd e.symm)))
 obtain ⟨ci,hqi,hNi⟩:=h.node hyi
 have hI:I64 (i:Int):=by have:=h.rng _ (by rw [hqi];intro e;cases e);exact ⟨by omega,by omega⟩
 obtain ⟨fm,hfm⟩:∃ y:Int→Option Value,y=fun y=>(q.nc y).map ptrN:=⟨_,rfl⟩
 have HFi:Hid ((match fm (i:Int) with | some v=>v | none=>.pointer none)=.pointer (some ⟨ci.p,0,none⟩)):=hid (by rw [hfm];simp only [hqi];rfl);have HM:Hid (∀ W,Chg w W No→MapV W q.mb fm):=hid (fun W hW=>by rw [hfm];exact (h.call hW).mp);have HC2q:Hid (∀ W,Chg w W No→W.cell? ⟨q.p,2,none⟩=some (.map (some q.mb))):=hid (fun W hW=>(h.call hW).c2);have HDi:Hid (∀ W,Chg w W No→Calls Tryz.prog 48 #[.pointer (some ⟨ci.p,0,none⟩)] W fun e w'=>e=.returned (.bool false)∧w'=W):=hid (fun W hW=>by have:=isDirectory_any W (hNi.call hW);rw [decide_eq_false hki] at this;exact this);have HI:=hid hI;have HLk:Hid (∀ W,Chg w W No→W.cell? ⟨ci.p,1,none⟩=some (.int .i64 yi.links)):=hid (fun W hW=>(hNi.call hW).c1);obtain ⟨lk,hlkk⟩:∃ z,z=yi.links:=⟨_,rfl⟩;rw [←hlkk] at HLk hlk;have b2:(lk == 100)=false:=beq_eq_false_iff_ne.2 hlk;have HMv:=hid (hMv c1 c2 hq1 hq2);obtain ⟨n1,hn1⟩:∃ y,y=lastN ls:=⟨_,rfl⟩;obtain ⟨n2,hn2⟩:∃ y,y=lastN ts:=⟨_,rfl⟩;obtain ⟨n,hnn⟩:∃ y,y=ls.length:=⟨_,rfl⟩;obtain ⟨m,hmm⟩:∃ y,y=ts.length:=⟨_,rfl⟩;rw [←hn1,←hnn] at hL1;rw [←hmm] at HL2;rw [←hnn,←hmm];rw [←hn1] at HF1;rw [←hn2] at HL2;rw [←hn2] at HF2;rw [←hn1,←hn2] at HNe;rw [←hn1,←hn2] at HMv;clear h ho hl hb hn hlt hbt hnt hE1 hx1 hq1 hN1 hs1 hn1 hn2 hnn hmm hE2 hx2 hq2 hN2 hs2 hf1 hf2 hyi hne hqi hNi hI hfm hki hlkk hlk hMv
 go_enter Tryz.func25,Tryz.ntmps25
 go_upto_region 4 with (first
  | (go_at_call 42;go_must (refine hL1.mono ?_;rintro e w12 ⟨rfl,hc2⟩;have HC12:=hid hc2;clear hc2))
  | (refine store_R rfl 95 _ _ rfl w12.heap.size #[.pointer (some ⟨c1.p,0,none⟩),.string n1] rfl rfl 95 _ (heap_alloc_new _ _) (by rw [szSp];rfl) rfl (by simp [Value.oneCell']) ?_;intro w13 hw13)
  | fail)
 have h13:Chg w12 w13 No:=(Chg.alloc w12 _ No).trans (kt_new hw13) (fun _ _ e=>e) (fun j hj e=>by omega);have HC13:=hid (HC12.out.tr h13);obtain ⟨ga,hga⟩:∃ y,y=w12.heap.size:=⟨_,rfl⟩;have HGa:Hid (w13.heap[ga]? = some (.cells #[.pointer (some ⟨c1.p,0,none⟩),.string n1] 95 (0,0))):=hid (by rw [hga];exact hw13.here);rw [←hga];clear hga hw13 h13 hL1 HC12;have hL2:=HL2.out w13 HC13.out
 go_upto_region 7 with (first
  | (go_at_call 42;go_must (refine hL2.mono ?_;rintro e w22 ⟨rfl,hc2⟩;have HC22:=hid hc2;clear hc2))
  | (refine store_R rfl 95 _ _ rfl w22.heap.size #[.pointer (some ⟨c2.p,0,none⟩),.string n2] rfl rfl 95 _ (heap_alloc_new _ _) (by rw [szSp];rfl) rfl (by simp [Value.oneCell']) ?_;intro w23 hw23)
  | fail)
 have h23:Chg w22 w23 No:=(Chg.alloc w22 _ No).trans (kt_new hw23) (fun _ _ e=>e) (fun j hj e=>by omega);have HC23:=hid ((HC13.out.tr HC22.out).tr h23);obtain ⟨gb,hgb⟩:∃ y,y=w22.heap.size:=⟨_,rfl⟩;have HGb:Hid (w23.heap[gb]? = some (.cells #[.pointer (some ⟨c2.p,0,none⟩),.string n2] 95 (0,0))):=hid (by rw [hgb];exact hw23.here);have HGa2:=hid (h23.keep (HC22.out.keep HGa.out (fun e=>e)) (fun e=>e));rw [←hgb];clear hgb hw23 h23 hL2 HC22 HC13 HGa HL2;have hF1:=HF1.out w23 HC23.out
 go_upto_region 10 with (first
  | (refine load_R rfl 95 _ rfl ga rfl 95 #[.pointer (some ⟨c1.p,0,none⟩),.string n1] _ HGa2.out Tryz.underlying95 rfl (by rw [szSp];rfl) ?_)
  | (go_at_call 43;go_must (refine hF1.mono ?_;rintro e w4 ⟨rfl,hc4⟩;have HC4:=hid (HC23.out.tr hc4);have HGa4:=hid (hc4.keep HGa2.out (fun e=>e));have HGb4:=hid (hc4.keep HGb.out (fun e=>e));clear hc4))
  | fail)
 clear hF1 HF1 HC23 HGa2 HGb
 go_upto_region 12 with (first
  | (refine load_R rfl 95 _ rfl ga rfl 95 #[.pointer (some ⟨c1.p,0,none⟩),.string n1] _ HGa4.out Tryz.underlying95 rfl (by rw [szSp];rfl) ?_)
  | (refine load_R rfl 95 _ rfl gb rfl 95 #[.pointer (some ⟨c2.p,0,none⟩),.string n2] _ HGb4.out Tryz.underlying95 rfl (by rw [szSp];rfl) ?_)
  | (refine eql_W (by rfl) 95 _ _ rfl #[.pointer (some ⟨c1.p,0,none⟩),.string n1] #[.pointer (some ⟨c2.p,0,none⟩),.string n2] false rfl rfl (HNe.out w4 HC4.out) (by kernel_rfl) ?_)
  | fail)
 have hF2:=HF2.out w4 HC4.out
 go_upto_region 13 with (first
  | (refine load_R rfl 95 _ rfl gb rfl 95 #[.pointer (some ⟨c2.p,0,none⟩),.string n2] _ HGb4.out Tryz.underlying95 rfl (by rw [szSp];rfl) ?_)
  | (go_at_call 43;go_must (refine hF2.mono ?_;rintro e w5 ⟨rfl,hc5⟩;have HC5:=hid (HC4.out.tr hc5);have HGa5:=hid (hc5.keep HGa4.out (fun e=>e));have HGb5:=hid (hc5.keep HGb4.out (fun e=>e));clear hc5))
  | fail)
 clear hF2 HF2 HC4 HGa4 HGb4;have c2q:=HC2q.out w5 HC5.out;have hDi:=HDi.out w5 HC5.out
 go_upto_region 14 with (first
  | (at_lookup;go_must (refine wp_lookVN rfl _ _ rfl q.mb fm (i:Int) _ HFi.out rfl rfl (HM.out w5 HC5.out) HI.out ?_))
  | (go_at_call 48;go_must (refine hDi.mono ?_;rintro e w6 ⟨rfl,hw6⟩;subst hw6))
  | fail)
 clear hDi HDi
 go_upto_region 16 with (first
  | fail)
 go_upto_region 20 with (first
  | fail)
 have l1:=HLk.out w6 HC5.out
 go_upto_region 25 with (first
  | (at_lookup;go_must (refine wp_lookVN rfl _ _ rfl q.mb fm (i:Int) _ HFi.out rfl rfl (HM.out w6 HC5.out) HI.out ?_))
  | fail)
 have hR:=HMv.out w6 HC5.out
 go_wp2_with (first
  | (refine load_R rfl 95 _ rfl ga rfl 95 #[.pointer (some ⟨c1.p,0,none⟩),.string n1] _ HGa5.out Tryz.underlying95 rfl (by rw [szSp];rfl) ?_)
  | (refine load_R rfl 95 _ rfl gb rfl 95 #[.pointer (some ⟨c2.p,0,none⟩),.string n2] _ HGb5.out Tryz.underlying95 rfl (by rw [szSp];rfl) ?_)
  | (go_at_call 53;go_must (refine hR.mono ?_;rintro e w9 ⟨rfl,ht9⟩;have HT9:=hid ht9;clear ht9))
  | fail)
 go_ret
 exact ⟨rfl,_,HC5.out,HT9.out⟩
set_option maxHeartbeats 3000000 in
set_option maxRecDepth 100000 in
theorem rename_moveD {q:PC} {s:PSt} (ls ts:List ByteArray) (a b:Option Addr) (w:World) (h:IsPl w q s) (ho:OkS s) (hl:LAt w a ls) (hb:ls.length≤1000) (hn:∀ x∈ls,x.size≤1000) (hlt:LAt w b ts) (hbt:ts.length≤1000) (hnt:∀ x∈ts,x.size≤1000) (hE1:lastE s ls=0) (hE2:lastE s ts=0) (i:Nat) (x1 yi:Nd) (hx1:s.nd (lastD s ls)=some x1) (hf1:findN x1 (lastN ls)=some (i:Int)) (hyi:s.nd (i:Int)=some yi) (hne : ¬ (lastD s ts=lastD s ls∧lastN ts=lastN ls)) (x2:Nd) (hx2:s.nd (lastD s ts)=some x2) (hf2:findN x2 (lastN ts)=none) (hki:yi.kind=2) (hbl:belowB ts ls=false) (hlk : ¬ yi.links=100) (E:Int) (T:World→World→Prop) (hMv:∀ c1 c2,q.nc (lastD s ls)=some c1→q.nc (lastD s ts)=some c2→∀ W,Chg w W No→Calls Tryz.prog 53 #[.pointer (some ⟨q.p,0,none⟩),.agg #[.pointer (some ⟨c1.p,0,none⟩),.string (lastN ls)],.agg #[.pointer (some ⟨c2.p,0,none⟩),.string (lastN ts)],.int .i64 (i:Int)] W fun e w'=>e=.returned (.int .i64 E)∧T W w') :
  Calls Tryz.prog 25 #[.pointer (some ⟨q.p,0,none⟩),.slice a ls.length ls.length,.slice b ts.length ts.length] w fun e w'=>e=.returned (.int .i64 E)∧∃ W,Chg w W No∧T W w':=by
 obtain ⟨c1,hq1,hN1⟩:=h.node hx1;have hs1:=lastN_size hn;have hL1:=wlast_good ls a w h ho hl hb hn hE1 hq1;obtain ⟨c2,hq2,hN2⟩:=h.node hx2;have hs2:=lastN_size hnt;have HL2:Hid (∀ W,Chg w W No→Calls Tryz.prog 42 #[.pointer (some ⟨q.p,0,none⟩),.slice b ts.length ts.length] W fun e w'=>e=.returned (.tuple #[.agg #[.pointer (some ⟨c2.p,0,none⟩),.string (lastN ts)],.int .i64 0])∧Chg W w' No):=hid (fun W hW=>wlast_good ts b W (h.call hW) ho (hlt.call hW) hbt hnt hE2 hq2);have HF1:Hid (∀ W,Chg w W No→Calls Tryz.prog 43 #[.agg #[.pointer (some ⟨c1.p,0,none⟩),.string (lastN ls)]] W fun e w'=>e=.returned (.tuple #[.int .i64 ((findN x1 (lastN ls)).getD 0),.bool (findN x1 (lastN ls)).isSome])∧Chg W w' No):=hid (fun W hW=>spotfind_any (lastN ls) W (hN1.call hW) hs1 (fun k hk=>by have:=ho.nm _ x1 _ k hx1 hk;exact ⟨this.1,this.2.1⟩));rw [hf1] at HF1;have HF2:Hid (∀ W,Chg w W No→Calls Tryz.prog 43 #[.agg #[.pointer (some ⟨c2.p,0,none⟩),.string (lastN ts)]] W fun e w'=>e=.returned (.tuple #[.int .i64 ((findN x2 (lastN ts)).getD 0),.bool (findN x2 (lastN ts)).isSome])∧Chg W w' No):=hid (fun W hW=>spotfind_any (lastN ts) W (hN2.call hW) hs2 (fun k hk=>by have:=ho.nm _ x2 _ k hx2 hk;exact ⟨this.1,this.2.1⟩));rw [hf2] at HF2
 have HNe:Hid (∀ W,Chg w W No→(Op.equalIn 10000 95 (.agg #[.pointer (some ⟨c1.p,0,none⟩),.string (lastN ls)]) (.agg #[.pointer (some ⟨c2.p,0,none⟩),.string (lastN ts)])).run Tryz.prog W=.ok false W):=hid (fun W hW=>by
  rw [spot_eq _ _ _ _ W (hN1.call hW).me (hN2.call hW).me];refine congrArg (fun z=>Result.ok z W) (decide_eq_false fun e=>hne ?_);refine ⟨?_,e.2.symm⟩
  by_cases hd:lastD s ts=lastD s ls
  ·exact hd
  ·exact absurd e.1 (h.pne hq1 hq2 (fun e=>hd e.symm)))
 obtain ⟨ci,hqi,hNi⟩:=h.node hyi
 have hI:I64 (i:Int):=by have:=h.rng _ (by rw [hqi];intro e;cases e);exact ⟨by omega,by omega⟩
 obtain ⟨fm,hfm⟩:∃ y:Int→Option Value,y=fun y=>(q.nc y).map ptrN:=⟨_,rfl⟩
 have HFi:Hid ((match fm (i:Int) with | some v=>v | none=>.pointer none)=.pointer (some ⟨ci.p,0,none⟩)):=hid (by rw [hfm];simp only [hqi];rfl);have HM:Hid (∀ W,Chg w W No→MapV W q.mb fm):=hid (fun W hW=>by rw [hfm];exact (h.call hW).mp);have HC2q:Hid (∀ W,Chg w W No→W.cell? ⟨q.p,2,none⟩=some (.map (some q.mb))):=hid (fun W hW=>(h.call hW).c2);have HDi:Hid (∀ W,Chg w W No→Calls Tryz.prog 48 #[.pointer (some ⟨ci.p,0,none⟩)] W fun e w'=>e=.returned (.bool true)∧w'=W):=hid (fun W hW=>by have:=isDirectory_any W (hNi.call hW);rw [decide_eq_true hki] at this;exact this);have HI:=hid hI;have HBl:Hid (∀ W,Chg w W No→Calls Tryz.prog 51 #[.slice b ts.length ts.length,.slice a ls.length ls.length] W fun e w'=>e=.returned (.bool false)∧Chg W w' No):=hid (fun W hW=>by have:=isBelow_any ts ls b a W (hlt.call hW) (hl.call hW) hbt hb;rw [hbl] at this;exact this);have HLk:Hid (∀ W,Chg w W No→W.cell? ⟨ci.p,1,none⟩=some (.int .i64 yi.links)):=hid (fun W hW=>(hNi.call hW).c1);obtain ⟨lk,hlkk⟩:∃ z,z=yi.links:=⟨_,rfl⟩;rw [←hlkk] at HLk hlk;have b2:(lk == 100)=false:=beq_eq_false_iff_ne.2 hlk;have HMv:=hid (hMv c1 c2 hq1 hq2);obtain ⟨n1,hn1⟩:∃ y,y=lastN ls:=⟨_,rfl⟩;obtain ⟨n2,hn2⟩:∃ y,y=lastN ts:=⟨_,rfl⟩;obtain ⟨n,hnn⟩:∃ y,y=ls.length:=⟨_,rfl⟩;obtain ⟨m,hmm⟩:∃ y,y=ts.length:=⟨_,rfl⟩;rw [←hn1,←hnn] at hL1;rw [←hmm] at HL2;rw [←hnn,←hmm];rw [←hn1] at HF1;rw [←hn2] at HL2;rw [←hn2] at HF2;rw [←hn1,←hn2] at HNe;rw [←hnn,←hmm] at HBl;rw [←hn1,←hn2] at HMv;clear h ho hl hb hn hlt hbt hnt hE1 hx1 hq1 hN1 hs1 hn1 hn2 hnn hmm hE2 hx2 hq2 hN2 hs2 hf1 hf2 hyi hne hqi hNi hI hfm hki hbl hlkk hlk hMv
 go_enter Tryz.func25,Tryz.ntmps25
 go_upto_region 4 with (first
  | (go_at_call 42;go_must (refine hL1.mono ?_;rintro e w12 ⟨rfl,hc2⟩;have HC12:=hid hc2;clear hc2))
  | (refine store_R rfl 95 _ _ rfl w12.heap.size #[.pointer (some ⟨c1.p,0,none⟩),.string n1] rfl rfl 95 _ (heap_alloc_new _ _) (by rw [szSp];rfl) rfl (by simp [Value.oneCell']) ?_;intro w13 hw13)
  | fail)
 have h13:Chg w12 w13 No:=(Chg.alloc w12 _ No).trans (kt_new hw13) (fun _ _ e=>e) (fun j hj e=>by omega);have HC13:=hid (HC12.out.tr h13);obtain ⟨ga,hga⟩:∃ y,y=w12.heap.size:=⟨_,rfl⟩;have HGa:Hid (w13.heap[ga]? = some (.cells #[.pointer (some ⟨c1.p,0,none⟩),.string n1] 95 (0,0))):=hid (by rw [hga];exact hw13.here);rw [←hga];clear hga hw13 h13 hL1 HC12;have hL2:=HL2.out w13 HC13.out
 go_upto_region 7 with (first
  | (go_at_call 42;go_must (refine hL2.mono ?_;rintro e w22 ⟨rfl,hc2⟩;have HC22:=hid hc2;clear hc2))
  | (refine store_R rfl 95 _ _ rfl w22.heap.size #[.pointer (some ⟨c2.p,0,none⟩),.string n2] rfl rfl 95 _ (heap_alloc_new _ _) (by rw [szSp];rfl) rfl (by simp [Value.oneCell']) ?_;intro w23 hw23)
  | fail)
 have h23:Chg w22 w23 No:=(Chg.alloc w22 _ No).trans (kt_new hw23) (fun _ _ e=>e) (fun j hj e=>by omega);have HC23:=hid ((HC13.out.tr HC22.out).tr h23);obtain ⟨gb,hgb⟩:∃ y,y=w22.heap.size:=⟨_,rfl⟩;have HGb:Hid (w23.heap[gb]? = some (.cells #[.pointer (some ⟨c2.p,0,none⟩),.string n2] 95 (0,0))):=hid (by rw [hgb];exact hw23.here);have HGa2:=hid (h23.keep (HC22.out.keep HGa.out (fun e=>e)) (fun e=>e));rw [←hgb];clear hgb hw23 h23 hL2 HC22 HC13 HGa HL2;have hF1:=HF1.out w23 HC23.out
 go_upto_region 10 with (first
  | (refine load_R rfl 95 _ rfl ga rfl 95 #[.pointer (some ⟨c1.p,0,none⟩),.string n1] _ HGa2.out Tryz.underlying95 rfl (by rw [szSp];rfl) ?_)
  | (go_at_call 43;go_must (refine hF1.mono ?_;rintro e w4 ⟨rfl,hc4⟩;have HC4:=hid (HC23.out.tr hc4);have HGa4:=hid (hc4.keep HGa2.out (fun e=>e));have HGb4:=hid (hc4.keep HGb.out (fun e=>e));clear hc4))
  | fail)
 clear hF1 HF1 HC23 HGa2 HGb
 go_upto_region 12 with (first
  | (refine load_R rfl 95 _ rfl ga rfl 95 #[.pointer (some ⟨c1.p,0,none⟩),.string n1] _ HGa4.out Tryz.underlying95 rfl (by rw [szSp];rfl) ?_)
  | (refine load_R rfl 95 _ rfl gb rfl 95 #[.pointer (some ⟨c2.p,0,none⟩),.string n2] _ HGb4.out Tryz.underlying95 rfl (by rw [szSp];rfl) ?_)
  | (refine eql_W (by rfl) 95 _ _ rfl #[.pointer (some ⟨c1.p,0,none⟩),.string n1] #[.pointer (some ⟨c2.p,0,none⟩),.string n2] false rfl rfl (HNe.out w4 HC4.out) (by kernel_rfl) ?_)
  | fail)
 have hF2:=HF2.out w4 HC4.out
 go_upto_region 13 with (first
  | (refine load_R rfl 95 _ rfl gb rfl 95 #[.pointer (some ⟨c2.p,0,none⟩),.string n2] _ HGb4.out Tryz.underlying95 rfl (by rw [szSp];rfl) ?_)
  | (go_at_call 43;go_must (refine hF2.mono ?_;rintro e w5 ⟨rfl,hc5⟩;have HC5:=hid (HC4.out.tr hc5);have HGa5:=hid (hc5.keep HGa4.out (fun e=>e));have HGb5:=hid (hc5.keep HGb4.out (fun e=>e));clear hc5))
  | fail)
 clear hF2 HF2 HC4 HGa4 HGb4;have c2q:=HC2q.out w5 HC5.out;have hDi:=HDi.out w5 HC5.out
 go_upto_region 14 with (first
  | (at_lookup;go_must (refine wp_lookVN rfl _ _ rfl q.mb fm (i:Int) _ HFi.out rfl rfl (HM.out w5 HC5.out) HI.out ?_))
  | (go_at_call 48;go_must (refine hDi.mono ?_;rintro e w6 ⟨rfl,hw6⟩;subst hw6))
  | fail)
 clear hDi HDi
 go_upto_region 16 with (first
  | fail)
 have hBl:=HBl.out w6 HC5.out
 go_upto_region 20 with (first
  | (go_at_call 51;go_must (refine hBl.mono ?_;rintro e w8 ⟨rfl,hc8⟩;have HC8:=hid (HC5.out.tr hc8);have HGa8:=hid (hc8.keep HGa5.out (fun e=>e));have HGb8:=hid (hc8.keep HGb5.out (fun e=>e));clear hc8))
  | fail)
 clear c2q;have c2q:=HC2q.out w8 HC8.out;have l1:=HLk.out w8 HC8.out
 go_upto_region 25 with (first
  | (at_lookup;go_must (refine wp_lookVN rfl _ _ rfl q.mb fm (i:Int) _ HFi.out rfl rfl (HM.out w8 HC8.out) HI.out ?_))
  | fail)
 have hR:=HMv.out w8 HC8.out
 go_wp2_with (first
  | (refine load_R rfl 95 _ rfl ga rfl 95 #[.pointer (some ⟨c1.p,0,none⟩),.string n1] _ HGa8.out Tryz.underlying95 rfl (by rw [szSp];rfl) ?_)
  | (refine load_R rfl 95 _ rfl gb rfl 95 #[.pointer (some ⟨c2.p,0,none⟩),.string n2] _ HGb8.out Tryz.underlying95 rfl (by rw [szSp];rfl) ?_)
  | (go_at_call 53;go_must (refine hR.mono ?_;rintro e w9 ⟨rfl,ht9⟩;have HT9:=hid ht9;clear ht9))
  | fail)
 go_ret
 exact ⟨rfl,_,HC8.out,HT9.out⟩
end Go.Proofs.YtmgfilacepnjlaaGreatDoor
