/-
 PlainKept's model: does each path lead to what it must?
-/
import Derived.Test.YtmgfilacepnjlaaGreatDoorYT0
import Derived.Test.YtmgfilacepnjlaaGreatDoorYS
import Derived.Deep.CutRange
import Derived.Deep.DeepCutAuto
namespace Go.Proofs.YtmgfilacepnjlaaGreatDoor
open Go.RowKit

set_option maxHeartbeats 8000000 in
set_option maxRecDepth 100000 in
theorem mo_holds {B p:Nat} {c:MC} {m:Mo} {s:PSt} (w0 w:World) (hN:NowS w0 w p s) (h:IsMo w B c m) (hk:MoOk m) (hr:Rel m s) (hu:UB w0) (hm:ML w0):Calls Tryz.prog 12 #[.pointer (some ⟨c.g,0,none⟩),.pointer (some ⟨p,0,none⟩)] w fun e w'=>e=.returned (.bool true)∧Chg w w' No:=by
 have HLs:Hid (∀ W,Chg w W No→∀ D:List ByteArray,(∀ t∈D,t∈lets)→D.length≤50→Calls Tryz.prog 35 #[.pointer (some ⟨c.g,0,none⟩),.pointer (some ⟨p,0,none⟩),.string (TP D)] W fun e w'=>e=.returned (.bool true)∧Chg W w' No):=hid (fun W hW D h1 h2=>mo_lists w0 W (hN.call hW) (h.call hW) hk hr h1 h2 hu hm);have HAsk:Hid (∀ (k n:Int) (q:ByteArray),((k=10∧n=0)∨(k=11∧n=0)∨(k=9∧n=131072))→∀ W,Chg w W No→Calls Tryz.prog 9 #[.pointer (some ⟨p,0,none⟩),.agg #[.int .i64 k,.string q,.string ⟨#[]⟩,.int .i64 0,.int .i64 n,.slice none 0 0,.int .i64 0,.int .i64 0]] W fun e w'=>∃ A,e=.returned (.agg A)∧AnsIs w' W.heap.size A (askS s k q n)∧Chg W w' No):=hid (fun k n q hk W hW=>(hN.call hW).ask k n q hk hu hm);have HM:Hid (∀ W,Chg w W No→IsMo W B c m):=hid (fun W hW=>h.call hW);have HK:=hid hk;have HR:=hid hr;obtain ⟨q0,q1,q2⟩:=h.cells;obtain ⟨_,pa,pc,hpv⟩:=h.shape;obtain ⟨n,hn⟩:∃ y,y=m.paths.length:=⟨_,rfl⟩;have HNn:=hid hn
 have n1:(n:Int)≤77:=by have:=hr.few;omega
 rw [hpv,←hn] at q1
 have HP:Hid (∀ (i:Nat),i < n→∃ (e:List ByteArray × Int) (g cp:Nat),LL e.1∧e.1≠[]∧pa=some ⟨g,0,none⟩∧cp=pc∧∀ W,Chg w W No→W.cell? ⟨g,i * 2,none⟩=some (.string (TP e.1))):=hid (fun i hi=>by
  obtain ⟨e,he⟩:∃ e,m.paths[i]? = some e:=⟨_,List.getElem?_eq_getElem (by rw [←hn];exact hi)⟩;obtain ⟨g,cp,h1,_⟩:=h.path he;have hl:=hk.ll e (List.mem_of_getElem? he);rw [hpv] at h1
  injection h1 with h1 h2 h3
  refine ⟨e,g,cp,hl.1,hl.2,h1,h3.symm,fun W hW => ?_⟩;obtain ⟨g',cp',h1',_,_,h2',_⟩:=(h.call hW).path he;rw [hpv] at h1'
  injection h1' with h1'
  rw [h1] at h1'
  injection h1' with h1'
  injection h1' with h1'
  rw [h1']
  exact h2')
 obtain ⟨cg,hcg⟩:∃ y,y=c.g:=⟨_,rfl⟩;have HCg:=hid hcg
 have HQp:Hid (∀ W,Chg w W No→W.cell? ⟨cg,1,none⟩=some (.slice pa n pc)):=hid (fun W hW=>by
  have:=(h.call hW).cells.2.1;rw [hpv,←hn,←hcg] at this
  exact this)
 rw [←hcg] at q0 q1 q2 HLs ⊢;obtain ⟨N,hN1⟩:∃ N:Nat,(N:Int)=m.next + 1:=⟨(m.next + 1).toNat,by have:=hk.nx;omega⟩
 have hN2:N≤4398046511104:=by have:=hk.nx;omega
 have HN1:=hid hN1;have HN2:=hid hN2
 have N0:(1:Int)≤(N:Int):=by have:=hk.nx;omega
 have N1:(N:Int)≤4398046511104:=by omega
 obtain ⟨nx,hnx⟩:∃ y,y=m.next:=⟨_,rfl⟩;rw [←hnx] at q2 hN1;have hmk:=make_ints N hN2 w;rw [hN1] at hmk;have HO1:=own_made w hN2;have HI0:Hid (IOwn (w.alloc (.cells (IA (List.replicate N 0)) 3)) w.heap.size (.slice (some ⟨w.heap.size,0,none⟩) N N) (List.replicate N 0)):=hid HO1;clear hN h hk hr hu hm hpv hn hcg HO1 hN2 hnx
 go_enter Tryz.func12,Tryz.ntmps12
 go_upto_region 2 with fail
 clear hmk q0 q1 q2 hN1;obtain ⟨gi,hgi⟩:∃ y,y=w.heap.size:=⟨_,rfl⟩;have hc1:Chg w (w.alloc (.cells (IA (List.replicate N 0)) 3)) No:=Chg.alloc _ _ _;obtain ⟨w1,hw1⟩:∃ y,y=w.alloc (.cells (IA (List.replicate N 0)) 3):=⟨_,rfl⟩;rw [←hw1,←hgi] at HI0;rw [←hw1] at hc1
 simp only [←hw1,←hgi]
 have HC1:=hid hc1;have HGi:=hid hgi;clear hc1 hw1 hgi;have HT0:Hid (TOw (w1.alloc (.cells #[] 9)) w.heap.size (.slice (some ⟨w1.heap.size,0,none⟩) 0 0) []):=hid ⟨rfl,.inr ⟨w1.heap.size,0,#[],rfl,HC1.out.size,heap_alloc_new _ _,Nat.le_refl _,by decide,rfl,rfl⟩⟩
 go_upto_region 4 with fail
 have HX0:Hid (∃ AL:List ByteArray,TOw (w1.alloc (.cells #[] 9)) w.heap.size (.slice (some ⟨w1.heap.size,0,none⟩) 0 0) AL∧AL.length=0∧(∀ t∈AL,OkT t)∧Chg w (w1.alloc (.cells #[] 9)) No∧IOwn (w1.alloc (.cells #[] 9)) w.heap.size (.slice (some ⟨gi,0,none⟩) N N) (List.replicate N 0)):=hid ⟨[],HT0.out,rfl,(fun _ e=>by cases e),HC1.out.tr (Chg.alloc w1 _ No),by have:=HI0.out.call3 (Chg.alloc w1 (.cells #[] 9) No);rw [HGi.out] at this ⊢;exact this⟩;obtain ⟨v1,hv1⟩:∃ y,y=Value.slice (some ⟨w1.heap.size,0,none⟩) 0 0:=⟨_,rfl⟩
 go_loopw [6,7] (fun x6 x7 wr=>∃ (v:Value) (i:Nat),v=x6∧x7=.int .i64 (i:Int)∧i≤15∧Hid (∃ AL:List ByteArray,TOw wr w.heap.size v AL∧AL.length=i∧(∀ t∈AL,OkT t)∧Chg w wr No∧IOwn wr w.heap.size (.slice (some ⟨gi,0,none⟩) N N) (List.replicate N 0))) (fun _ x7 _=>15 - (intOf x7).toNat)
 case atStart=>exact ⟨_,0,rfl,rfl,by omega,HX0⟩
 case round =>
  obtain ⟨v,i,rfl,rfl,hi,HX⟩:=hrel
  have i0:(0:Int)≤(i:Int):=by omega
  have i9:(i:Int)≤15:=by omega
  by_cases hlt:i < 15
  ·have i1:(i:Int) < 15:=by omega
   obtain ⟨AL,x1,x2,x3,x4,x5⟩:=HX.out;have HX1:=hid x1;have HX2:=hid x2;have HX3:=hid x3;have HX4:=hid x4;have HX5:=hid x5;obtain ⟨ty,hty⟩:∃ y,y=textN (i:Int):=⟨_,rfl⟩;have hTx:=text_any (i:Int) wr (by unfold I64;omega);rw [←hty] at hTx;have HOk:Hid (OkT ty):=hid (by rw [hty];exact okT_text _);clear x1 x2 x3 x4 x5 HX hty HT0 HX0
   go_wp2_with (first
    | (go_at_call 15;go_must (refine hTx.mono ?_;rintro e wt ⟨rfl,hct⟩;have HCa:=hid (hct.tr (Chg.alloc wt (.cells #[.string ty] 9) No));have HTa:=hid (HX1.out.call HCa.out);have HIa:=hid (HX5.out.call3 HCa.out);clear hct))
    | (at_builtin;go_must (refine wp_appTx rfl _ _ rfl w.heap.size wt.heap.size 1 v AL ty rfl rfl HTa.out (heap_alloc_new _ _) (by have:=HX2.out;omega) ((HX4.out.tr HCa.out).size) ?_;intro v2 w2 hOw hCh;have HOw:=hid hOw;have HCh:=hid hCh;clear hOw hCh))
    | fail)
   refine ⟨⟨v2,i + 1,rfl,by go_num,by omega,hid ⟨AL ++ [ty],HOw.out,by rw [List.length_append,HX2.out];rfl,fun t ht => ?_,?_,?_⟩⟩,by simp [intOf];omega⟩
   ·rcases List.mem_append.1 ht with h1 | h1
    ·exact HX3.out t h1
    ·rw [List.mem_singleton.1 h1];exact HOk.out
   ·exact own_new HTa.out (HX4.out.tr HCa.out) HCh.out
   ·exact own_apart HTa.out HIa.out HCh.out
  ·have i1 : ¬ (i:Int) < 15:=by omega
   have hi15:i=15:=by omega
   have HX1:Hid (∃ AL:List ByteArray,TOw wr w.heap.size v AL∧AL.length=15 + 0∧(∀ t∈AL,OkT t)∧Chg w wr No∧IOwn wr w.heap.size (.slice (some ⟨gi,0,none⟩) N N) (List.replicate N 0)):=hid (by have:=HX.out;rw [hi15] at this;exact this);clear HX hi15 HT0 HX0
   go_upto_region 8 with fail
   go_loopw [6,8] (fun x6 x8 wr=>∃ (v:Value) (i:Nat),v=x6∧x8=.int .i64 (i:Int)∧i≤n∧Hid (∃ AL:List ByteArray,TOw wr w.heap.size v AL∧AL.length=15 + i∧(∀ t∈AL,OkT t)∧Chg w wr No∧IOwn wr w.heap.size (.slice (some ⟨gi,0,none⟩) N N) (List.replicate N 0))) (fun _ x8 _=>n - (intOf x8).toNat)
   case atStart=>exact ⟨v,0,rfl,rfl,Nat.zero_le _,HX1⟩
   case round =>
    obtain ⟨v,i,rfl,rfl,hi,HX⟩:=hrel
    have i0:(0:Int)≤(i:Int):=by omega
    obtain ⟨AL,x1,x2,x3,x4,x5⟩:=HX.out;have HX1:=hid x1;have HX2:=hid x2;have HX3:=hid x3;have HX4:=hid x4;have HX5:=hid x5;have q1:=HQp.out wr HX4.out;clear x1 x2 x3 x4 x5 HX
    by_cases hlt:i < n
    ·have i1:(i:Int) < (n:Int):=by omega
     obtain ⟨e,g,cp,e1,e2,e3,e4,e5⟩:=HP.out i hlt;subst e3 e4;have p1:=e5 wr HX4.out;obtain ⟨ty,hty⟩:∃ y,y=TP e.1:=⟨_,rfl⟩;rw [←hty] at p1;have HOk:Hid (OkT ty):=hid ⟨e.1,e1,e2,hty⟩;have HCa:Hid (Chg wr (wr.alloc (.cells #[.string ty] 9)) No):=hid (Chg.alloc wr _ No);have HTa:=hid (HX1.out.call HCa.out);have HIa:=hid (HX5.out.call3 HCa.out);clear e1 e2 e5 hty
     go_wp2_with (first
      | (at_builtin;go_must (refine wp_appTx rfl _ _ rfl w.heap.size wr.heap.size 1 v AL ty rfl rfl HTa.out (heap_alloc_new _ _) (by have:=HX2.out;omega) ((HX4.out.tr HCa.out).size) ?_;intro v2 w2 hOw hCh;have HOw:=hid hOw;have HCh:=hid hCh;clear hOw hCh))
      | fail)
     refine ⟨⟨v2,i + 1,rfl,by go_num,by omega,hid ⟨AL ++ [ty],HOw.out,by rw [List.length_append,HX2.out];rfl,fun t ht => ?_,?_,?_⟩⟩,by simp [intOf];omega⟩
     ·rcases List.mem_append.1 ht with h1 | h1
      ·exact HX3.out t h1
      ·rw [List.mem_singleton.1 h1];exact HOk.out
     ·exact own_new HTa.out (HX4.out.tr HCa.out) HCh.out
     ·exact own_apart HTa.out HIa.out HCh.out
    ·have i1 : ¬ (i:Int) < (n:Int):=by omega
     obtain ⟨ga,ca,hv⟩:=row_shape HX1.out;subst hv;have HXl:=hid HX3.out;obtain ⟨nA,hnA⟩:∃ y,y=AL.length:=⟨_,rfl⟩;rw [←hnA] at HX1 HX2 ⊢;have HNa:=hid hnA
     have a1:(nA:Int)≤1000:=by have:=HX2.out;omega
     have H0:Hid (∃ G:List Int,Chg w wr No∧IOwn wr w.heap.size (.slice (some ⟨gi,0,none⟩) N N) G∧G.length=N∧SeenK m s (fun k=>G.getD k 0)∧TOw wr w.heap.size (.slice ga nA ca) AL):=hid ⟨List.replicate N 0,HX4.out,HX5.out,by rw [List.length_replicate],fun k hk=>absurd (getD_zeros N k) hk,HX1.out⟩;clear hnA HX1 HX2 HX3 HX4 HX5
     go_upto_region 12 with fail
     clear q1
     go_loopw [9] (fun x9 wr=>∃ i:Nat,x9=.int .i64 (i:Int)∧i≤nA∧Hid (∃ G:List Int,Chg w wr No∧IOwn wr w.heap.size (.slice (some ⟨gi,0,none⟩) N N) G∧G.length=N∧SeenK m s (fun k=>G.getD k 0)∧TOw wr w.heap.size (.slice ga nA ca) AL)) (fun x9 _=>nA - (intOf x9).toNat)
     case atStart=>exact ⟨0,rfl,Nat.zero_le _,H0⟩
     case round =>
      obtain ⟨i,rfl,hi,HX⟩:=hrel;clear H0
      have i0:(0:Int)≤(i:Int):=by omega
      by_cases hlt:i < nA
      ·as_aux_lemma =>
       have i1:(i:Int) < (nA:Int):=by omega
       obtain ⟨G,x1,x2,x3,x4,x5⟩:=HX.out;have HX1:=hid x1;have HX2:=hid x2;have HX3:=hid x3;have HX4:=hid x4;have HX5:=hid x5;obtain ⟨t,ht⟩:∃ t,AL[i]? = some t:=⟨_,List.getElem?_eq_getElem (by rw [←HNa.out];exact hlt)⟩;obtain ⟨gl,hga,hgl,hcl⟩:=TOw.cell x5 ht;subst hga;obtain ⟨ls,t1,t2,t3⟩:=HXl.out t (List.mem_of_getElem? ht);have HTi:=hid ht;have HLL:=hid t1;have HNe:=hid t2;have HTe:=hid t3;have HGl:=hid hgl;have b10:=build_ask 10 t;have b9:=build_read 9 131072 t;have hD1:=HAsk.out 10 0 t (.inl ⟨rfl,rfl⟩) wr HX1.out;have qt:=hcl wr (Chg.refl _ _);clear x1 x2 x3 x4 x5 HX ht hcl hgl t1 t2 t3
       go_upto_region 15 with (first
        | (go_at_call 9;go_must (refine hD1.mono ?_;rintro e wa ⟨A1,rfl,hA1,hc1⟩;have HA1:=hid hA1;have hO1:=hA1.one;have HO1:=hid hO1;have Hc1:=hid hc1;clear hA1 hO1 hc1))
        | (refine store_R rfl 43 _ _ rfl wa.heap.size A1 rfl rfl 43 _ (heap_alloc_new _ _) (by rw [szAn,HO1.out.1]) (by rw [HO1.out.1];rfl) HO1.out.2 ?_;intro wb hs1;have HS1:=hid hs1;clear hs1)
        | fail)
       clear hD1 b10 qt;obtain ⟨g1,hg1⟩:∃ y,y=wa.heap.size:=⟨_,rfl⟩;have HE1:Hid (Chg wa wb No):=hid ((Chg.alloc wa _ No).trans (kt_new HS1.out) (fun _ _ e=>e) (fun j hj e=>by omega));rw [←hg1] at HS1 ⊢;clear hg1;have HG1:Hid (Chg wr wb No):=hid (Hc1.out.tr HE1.out);have HCb:Hid (Chg w wb No):=hid (HX1.out.tr HG1.out);have HQ1:Hid (wb.heap[g1]? = some (.cells A1 43 (0,0))):=hid HS1.out.here;have HV0:Hid (∀ W,Chg wb W No→W.cell? ⟨g1,0,none⟩=some (.int .i64 (codeA (askS s 10 t 0)))):=hid (fun W hW=>by rw [cell_of_row _ _ _ _ _ _ (hW.keep HQ1.out (fun e=>e))];exact HA1.out.code.1);have HVs:Hid (∀ W,Chg wb W No→∀ k,k < 6→W.cell? ⟨g1,1 + k,none⟩=some (.int .i64 (stA (askS s 10 t 0) k))):=hid (fun W hW k hk=>by rw [cell_of_row _ _ _ _ _ _ (hW.keep HQ1.out (fun e=>e)),Nat.add_comm];exact HA1.out.st k hk);have HT2:Hid (TOw wb w.heap.size (.slice (some ⟨gl,0,none⟩) nA ca) AL):=hid (HX5.out.call HG1.out);have HI2:Hid (IOwn wb w.heap.size (.slice (some ⟨gi,0,none⟩) N N) G):=hid (HX2.out.call3 HG1.out)
       have qt:wb.cell? ⟨gl,i,none⟩=some (.string t):=by
        obtain ⟨g9,e9,_,h9⟩:=TOw.cell HT2.out HTi.out
        cases e9
        exact h9 wb (Chg.refl _ _)
       have hA:=mo_at (ls:=ls) wb (HM.out wb HCb.out) HK.out HLL.out;rw [←HTe.out,←HCg.out] at hA;obtain ⟨id,hid1⟩:∃ y,y=atL m.paths ls:=⟨_,rfl⟩;rw [←hid1] at hA;have HId:=hid hid1;have HAk:=hid (HR.out.asked HNe.out HLL.out.1 HLL.out.2);rw [←HTe.out] at HAk;clear hid1 HS1 HE1 Hc1 HX5 HX2 HA1
       go_upto_region 16 with (first
        | (go_at_call 28;go_must (refine hA.mono ?_;rintro e w' ⟨rfl,hw⟩;have hw:=hw.symm;subst hw))
        | fail)
       clear hA qt
       rcases HAk.out with ⟨hneg,hcode⟩ | ⟨id',j,y,th,m1,m2,m3,m4,m5,m6,m7,m8,m9,m10,m11,m12⟩
       ·rw [←HId.out] at hneg
        have q0:=HV0.out wb (Chg.refl _ _);have HNx:Hid (∃ G:List Int,Chg w wb No∧IOwn wb w.heap.size (.slice (some ⟨gi,0,none⟩) N N) G∧G.length=N∧SeenK m s (fun k=>G.getD k 0)∧TOw wb w.heap.size (.slice (some ⟨gl,0,none⟩) nA ca) AL):=hid ⟨G,HCb.out,HI2.out,HX3.out,HX4.out,HT2.out⟩;clear HAk
        rcases hcode with hcode | hcode
        ·rw [hcode] at q0
         clear hcode
         go_wp2_with fail
         exact ⟨⟨i + 1,by go_num,by omega,HNx⟩,by simp [intOf];omega⟩
        ·rw [hcode] at q0
         clear hcode
         go_wp2_with fail
         exact ⟨⟨i + 1,by go_num,by omega,HNx⟩,by simp [intOf];omega⟩
       ·as_aux_lemma =>
        have hide:id'=id:=by rw [HId.out];exact m2.symm
        subst hide;obtain ⟨idn,hidn⟩:∃ k:Nat,id'=(k:Int):=⟨id'.toNat,by omega⟩;obtain ⟨ix,hix⟩:∃ k:Nat,(k:Int)=id' - 1:=⟨(id' - 1).toNat,by omega⟩
        have hpos : ¬ id' < 0:=by omega
        have m6:m.things[ix]? = some th:=by
         have:(id' - 1).toNat=ix:=by omega
         rw [←this];exact m6
        have hTh:=mo_thing (id:=id') wb (HM.out wb HCb.out) HK.out
        have hthk:thK m.things id' 0=(ix:Int):=by rw [HR.out.thK,if_pos m3];omega
        have HTk:Hid (∀ W,Chg w W No→Calls Tryz.prog 29 #[.pointer (some ⟨cg,0,none⟩),.int .i64 id'] W fun e w'=>e=.returned (.int .i64 (ix:Int))∧w'=W):=hid (fun W hW=>by
         have:=mo_thing (id:=id') W (HM.out W hW) HK.out;rw [hthk,←HCg.out] at this
         exact this)
        have HLk:Hid (∀ W,Chg w W No→Calls Tryz.prog 34 #[.pointer (some ⟨cg,0,none⟩),.int .i64 id'] W fun e w'=>e=.returned (.int .i64 (linksM m id':Nat))∧w'=W):=hid (fun W hW=>by
         have:=mo_links (id:=id') W (HM.out W hW) HK.out;rw [←HCg.out] at this
         exact this)
        obtain ⟨gt,ct,bb,h1,_,_,hbv,hbr,_⟩:=(HM.out wb HCb.out).thing m6
        have nT:(m.things.length:Int)≤2199023255552:=by have:=HK.out.nt;omega
        obtain ⟨lT,hlT⟩:∃ y,y=m.things.length:=⟨_,rfl⟩
        have ixl:ix < lT:=by rw [hlT];exact (List.getElem?_eq_some_iff.1 m6).1
        have ix1:(ix:Int) < (lT:Int):=by omega
        have ix0:(0:Int)≤(ix:Int):=by omega
        rw [←hlT] at h1 nT;have HTv:=hid h1;have HTh:=hid m6;have HBv:=hid hbv;have HlT:=hid hlT
        have HQt:Hid (∀ W,Chg w W No→W.cell? ⟨cg,0,none⟩=some (.slice (some ⟨gt,0,none⟩) lT ct)):=hid (fun W hW=>by
         have:=(HM.out W hW).cells.1;rw [HTv.out,←HCg.out] at this
         exact this)
        have HLo:Hid (∀ W,Chg w W No→(loadVar 74 ⟨gt,ix * 4,none⟩).run Tryz.prog W=.ok (.agg #[.int .i64 th.id,.bool th.dir,.int .i64 th.made,.slice bb.1 th.bytes.length bb.2]) W):=hid (fun W hW=>(HM.out W hW).loadT HTh.out HBv.out (by rw [HTv.out,HlT.out]));have HBr:Hid (BRow wb bb th.bytes):=hid hbr;have HAs:Hid (askS s 10 t 0=.stat j y):=hid m7;have HM3:=hid m3;have HM1:=hid m1;have HM4:=hid m4;have HM5:=hid m5;have HM8:=hid m8;have HM9:=hid m9;have HM10:=hid m10;have HM11:=hid m11;have HM12:=hid m12;have hyr:=HR.out.inv.inv.rng j y m5;have HJ0:Hid (1≤j∧j≤512):=hid (by have:=HR.out.inv.inv.num;omega);obtain ⟨td,htd⟩:∃ z,z=th.dir:=⟨_,rfl⟩;obtain ⟨tid,htid⟩:∃ z,z=th.id:=⟨_,rfl⟩;obtain ⟨tm,htm⟩:∃ z,z=th.made:=⟨_,rfl⟩;obtain ⟨tl,htl⟩:∃ z,z=th.bytes:=⟨_,rfl⟩;rw [←htd,←htid,←htm,←htl] at HLo;rw [←htl] at HBr HM12;rw [←htd] at HM8 HM11 HM12;rw [←htm] at HM9;obtain ⟨tn,htn⟩:∃ z,z=tl.length:=⟨_,rfl⟩;rw [←htn] at HLo HM12;have HTn:=hid htn;have HTl:=hid htl;rw [HAs.out] at HV0 HVs;have HIx:=hid hix;have HIdn:=hid hidn;clear m1 m2 m3 m4 m5 m6 m7 m8 m9 m10 m11 m12 h1 hbv hbr hTh hthk hix htd htid htm htl htn hlT ixl hyr HAk
        go_upto_region 19 with fail
        refine wp_region_noPanic ?_;refine wp_region_held_drew (S:=fun w'=>Chg wb w' No) (by kernel_rfl) ((Chg.refl wb No).drew) (fun hH => ?_);refine tV 0 80 (.pointer (some ⟨cg,0,none⟩)) rfl (by kernel_rfl) rfl (by rfl) hH (fun _ hw'=>rfl) ?_;simp only [sS];refine tV 1 81 (.pointer (some ⟨cg,0,none⟩)) rfl (by kernel_rfl) rfl (by rfl) hH (fun _ hw'=>by go_simp) ?_;simp only [sS];refine tV 2 82 (.pointer (some ⟨cg,0,none⟩)) rfl (by kernel_rfl) rfl (by rfl) hH (fun _ hw'=>by go_simp) ?_;simp only [sS];refine tV 3 83 (.slice (some ⟨gt,0,none⟩) lT ct) rfl (by kernel_rfl) rfl (by rfl) hH (fun _ hw'=>by have hc:=HQt.out _ (HCb.out.tr hw');go_simp) ?_;simp only [sS];refine tV 4 84 (.pointer (some ⟨cg,0,none⟩)) rfl (by kernel_rfl) rfl (by rfl) hH (fun _ hw'=>rfl) ?_;simp only [sS];refine tV 5 85 (.int .i64 id') rfl (by kernel_rfl) rfl (by rfl) hH (fun _ hw'=>rfl) ?_;simp only [sS]
        have hcut:∀ {T G:Prop},(T→G)→T→G:=fun f t=>f t
        apply hcut
        ·intro hE
         refine step2 6 9 (by kernel_rfl) ?_ ?_
         ·skip
          refine stCall 6 86 29 #[.pointer (some ⟨cg,0,none⟩),.int .i64 id'] _ rfl rfl (by rfl) (by go_simp) (HTk.out _ (HCb.out.tr hH)) ?_
          rintro e w' ⟨rfl,hw⟩
          subst hw;refine ⟨_,rfl,hH,?_⟩;simp only [sS];refine tV 7 87 (.pointer (some ⟨gt,ix * 4,none⟩)) rfl (by kernel_rfl) rfl (by rfl) hH (fun _ hw'=>by go_simp) ?_;simp only [sS];refine takeL 8 88 74 (.tmp 87) ⟨gt,ix * 4,none⟩ (.agg #[.int .i64 tid,.bool td,.int .i64 tm,.slice bb.1 tn bb.2]) rfl (by kernel_rfl) (by kernel_rfl) (by kernel_rfl) rfl rfl rfl (by rfl) (fun _ _ _ h=>h) hH (fun _ hw'=>HLo.out _ (HCb.out.tr hw')) ?_;simp only [sS];refine step1 9 (by kernel_rfl) ?_;have hAl:Chg wb (wb.drew.alloc (.cells #[.int .i64 0,.bool false,.int .i64 0,.slice none 0 0] 74)) No:=hH.tr (Chg.alloc _ _ No);refine stNew 9 12 (.pointer (some ⟨wb.drew.heap.size,0,none⟩)) (.cells #[.int .i64 0,.bool false,.int .i64 0,.slice none 0 0] 74) rfl rfl (by rfl) (by go_simp) ⟨hAl,?_⟩;simp only [sS]
          exact hE
         ·skip
          have hAl:Chg wb (wb.drew.alloc (.cells #[.int .i64 0,.bool false,.int .i64 0,.slice none 0 0] 74)) No:=hH.tr (Chg.alloc _ _ No);refine stNew 9 12 (.pointer (some ⟨wb.drew.heap.size,0,none⟩)) (.cells #[.int .i64 0,.bool false,.int .i64 0,.slice none 0 0] 74) rfl rfl (by rfl) (by go_simp) ⟨hAl,?_⟩;simp only [sS];refine step1 6 (by kernel_rfl) ?_;refine stCall 6 86 29 #[.pointer (some ⟨cg,0,none⟩),.int .i64 id'] _ rfl rfl (by rfl) (by go_simp) (HTk.out _ (HCb.out.tr hAl)) ?_
          rintro e w' ⟨rfl,hw⟩
          subst hw;refine ⟨_,rfl,hAl,?_⟩;simp only [sS];refine tV 7 87 (.pointer (some ⟨gt,ix * 4,none⟩)) rfl (by kernel_rfl) rfl (by rfl) hAl (fun _ hw'=>by go_simp) ?_;simp only [sS];refine takeL 8 88 74 (.tmp 87) ⟨gt,ix * 4,none⟩ (.agg #[.int .i64 tid,.bool td,.int .i64 tm,.slice bb.1 tn bb.2]) rfl (by kernel_rfl) (by kernel_rfl) (by kernel_rfl) rfl rfl rfl (by rfl) (fun _ _ _ h=>h) hAl (fun _ hw'=>HLo.out _ (HCb.out.tr hw')) ?_;simp only [sS]
          exact hE
        have hAl:Chg wb (wb.drew.alloc (.cells #[.int .i64 0,.bool false,.int .i64 0,.slice none 0 0] 74)) No:=hH.tr (Chg.alloc _ _ No);refine step1 10 (by kernel_rfl) ?_;refine stStoreR 10 74 (.tmp 12) (.tmp 88) wb.drew.heap.size #[.int .i64 tid,.bool td,.int .i64 tm,.slice bb.1 tn bb.2] 74 #[.int .i64 0,.bool false,.int .i64 0,.slice none 0 0] rfl rfl (by rfl) rfl rfl rfl (heap_alloc_new _ _) (by kernel_rfl) rfl (by simp [Value.oneCell']) ?_
        intro wd hwd
        have e9:wb.drew.heap.size=wb.heap.size:=rfl;have hHd:Chg wb wd No:=hAl.trans (kt_new hwd) (fun _ _ e=>e) (fun j hj e=>by omega);refine ⟨hHd,?_⟩;refine wpAnyH_done (by kernel_rfl) ?_ _;refine NoPanic.normal ?_;obtain ⟨g2,hg2⟩:∃ y,y=wb.drew.heap.size:=⟨_,rfl⟩;have HQ2:Hid (wd.heap[g2]? = some (.cells #[.int .i64 tid,.bool td,.int .i64 tm,.slice bb.1 tn bb.2] 74 (0,0))):=hid (by rw [hg2];exact hwd.here);rw [←hg2];have HD:=hid hHd;clear hH hwd hHd hg2;have HCd:Hid (Chg w wd No):=hid (HCb.out.tr HD.out);have hI3:=HI2.out.call3 HD.out;obtain ⟨gi',e9,qg⟩:=own_cell hI3 (j:=idn) (by have:=HIdn.out;have:=HM3.out;have:=HN1.out;have:=HX3.out;omega)
        cases e9
        obtain ⟨gk,hgk⟩:∃ z,z=G.getD idn 0:=⟨_,rfl⟩;rw [←hgk] at qg;have HGk:=hid hgk;have hfr:=HX4.out.fresh HR.out HM1.out HM4.out
        have HFr:Hid ((gk=0∨gk=j)∧(∀ k:Nat,(k:Int)≠id'→G.getD k 0≠j)∧SeenK m s (fun k=>if (k:Int)=id' then j else G.getD k 0)):=hid (by
         have e:id'.toNat=idn:=by have:=HIdn.out;omega
         rw [e] at hfr;rw [hgk]
         exact hfr)
        have idN:(idn:Int) < (N:Int):=by have:=HIdn.out;have:=HM3.out;have:=HN1.out;omega
        have idn0:(0:Int)≤(idn:Int):=by omega
        have HI3:=hid hI3;clear hI3 hfr hgk;have hidn:=HIdn.out;subst hidn;have K0:Hid (∀ W,Chg wd W No→∀ k,k < 6→W.cell? ⟨g1,1 + k,none⟩=some (.int .i64 (stA (.stat j y) k))):=hid (fun W hW=>HVs.out W (HD.out.tr hW))
        have KI:Hid (∀ W,Chg wd W No→W.cell? ⟨gi,idn,none⟩=some (.int .i64 gk)):=hid (fun W hW=>by
         obtain ⟨g9,e9,q9⟩:=own_cell (HI3.out.call3 hW) (j:=idn) (by have:=HX3.out;omega)
         cases e9
         rw [HGk.out]
         exact q9)
        have KT2:Hid (∀ W,Chg wd W No→∀ (k:Nat) v,(#[.int .i64 tid,.bool td,.int .i64 tm,.slice bb.1 tn bb.2]:Array Value)[k]? = some v→W.cell? ⟨g2,k,none⟩=some v):=hid (fun W hW k v hv=>by rw [cell_of_row _ _ _ _ _ _ (hW.keep HQ2.out (fun e=>e))];exact hv);obtain ⟨ym,hym⟩:∃ z,z=y.made:=⟨_,rfl⟩;obtain ⟨yk,hyk⟩:∃ z,z=y.kind:=⟨_,rfl⟩;obtain ⟨yl,hyl⟩:∃ z,z=y.links:=⟨_,rfl⟩;obtain ⟨ys,hys⟩:∃ z,z=lenN y:=⟨_,rfl⟩;have K5:Hid (∀ W,Chg wd W No→W.cell? ⟨g1,5,none⟩=some (.int .i64 tm)):=hid (fun W hW=>by rw [HM9.out];exact K0.out W hW 4 (by omega));have K2:Hid (∀ W,Chg wd W No→W.cell? ⟨g1,2,none⟩=some (.int .i64 yk)):=hid (fun W hW=>by rw [hyk];exact K0.out W hW 1 (by omega));have K3:Hid (∀ W,Chg wd W No→W.cell? ⟨g1,3,none⟩=some (.int .i64 (linksM m (idn:Int):Nat))):=hid (fun W hW=>by rw [HM10.out];exact K0.out W hW 2 (by omega));have K1:Hid (∀ W,Chg wd W No→W.cell? ⟨g1,1,none⟩=some (.int .i64 j)):=hid (fun W hW=>K0.out W hW 0 (by omega));have K4:Hid (∀ W,Chg wd W No→W.cell? ⟨g1,4,none⟩=some (.int .i64 ys)):=hid (fun W hW=>by rw [hys];exact K0.out W hW 3 (by omega));have KC:Hid (∀ W,Chg wd W No→W.cell? ⟨g1,0,none⟩=some (.int .i64 0)):=hid (fun W hW=>HV0.out W (HD.out.tr hW))
        have zk:(yk == 2)=td:=by
         have h9:=HM8.out;rw [←hyk] at h9
         cases htd:td with
         | true=>rw [htd] at h9;exact beq_iff_eq.2 (h9.1 rfl)
         | false =>
          rw [htd] at h9
          exact beq_eq_false_iff_ne.2 fun c=>by cases h9.2 c
        have HZk:=hid zk;have HYs:=hid hys
        have HYk:Hid (td=false→lenN y=y.size):=hid (fun e=>by
         have h9:=HM8.out;rw [e] at h9;unfold lenN
         rw [if_neg fun c=>by cases h9.2 c])
        clear zk hym hyk hyl hys K0;obtain ⟨lk,hlk⟩:∃ z:Nat,z=linksM m (idn:Int):=⟨_,rfl⟩;rw [←hlk] at K3 HLk
        have HLb:Hid (lk≤77):=hid (by
         rw [hlk];have h1:linksM m (idn:Int)≤m.paths.length:=List.countP_le_length;have:=HNn.out
         omega)
        clear hlk
        rcases HFr.out with ⟨hgk0,_,_⟩
        have HNb:Hid (gk=0∨(¬ gk=0∧gk=j)):=hid (by have:=HJ0.out;omega);clear hgk0 qg
        go_upto_region 20 with fail
        go_cut [134] (fun x wz=>x=.bool false∧Hid (Chg wd wz No))
        case first =>
         as_aux_lemma =>
         rcases HNb.out with hg0 | ⟨hg0,hgj⟩
         ·subst hg0
          refine wp_region_noPanic ?_;refine wp_region_held_drew (S:=fun W=>Chg wd W No) (by kernel_rfl) ((Chg.refl wd No).drew) (fun hH => ?_);refine tV 0 89 (.pointer (some ⟨g1,0,none⟩)) rfl (by kernel_rfl) rfl (by rfl) hH (fun _ hw'=>by go_simp) ?_;simp only [sS];refine tV 1 90 (.int .i64 0) rfl (by kernel_rfl) rfl (by rfl) hH (fun _ hw'=>by have hc:=KC.out _ hw';go_simp) ?_;simp only [sS];refine tV 2 91 (.bool false) rfl (by kernel_rfl) rfl (by rfl) hH (fun _ hw'=>by go_simp) ?_;simp only [sS];refine tV 3 92 (.bool false) rfl (by kernel_rfl) rfl (by rfl) hH (fun _ hw'=>rfl) ?_;simp only [sS];refine tV 4 93 (.pointer (some ⟨g1,1,none⟩)) rfl (by kernel_rfl) rfl (by rfl) hH (fun _ hw'=>by go_simp) ?_;simp only [sS];refine tV 5 94 (.pointer (some ⟨g1,5,none⟩)) rfl (by kernel_rfl) rfl (by rfl) hH (fun _ hw'=>by go_simp) ?_;simp only [sS];refine tV 6 95 (.int .i64 tm) rfl (by kernel_rfl) rfl (by rfl) hH (fun _ hw'=>by have hc:=K5.out _ hw';go_simp) ?_;simp only [sS];refine tV 7 96 (.pointer (some ⟨g2,2,none⟩)) rfl (by kernel_rfl) rfl (by rfl) hH (fun _ hw'=>by go_simp) ?_;simp only [sS];refine tV 8 97 (.int .i64 tm) rfl (by kernel_rfl) rfl (by rfl) hH (fun _ hw'=>by have hc:=KT2.out _ hw' 2 _ rfl;go_simp) ?_;simp only [sS];refine tV 9 98 (.bool false) rfl (by kernel_rfl) rfl (by rfl) hH (fun _ hw'=>by go_simp) ?_;simp only [sS];refine tV 10 99 (.bool false) rfl (by kernel_rfl) rfl (by rfl) hH (fun _ hw'=>rfl) ?_;simp only [sS];refine tV 11 100 (.bool false) rfl (by kernel_rfl) rfl (by rfl) hH (fun _ hw'=>rfl) ?_;simp only [sS];refine tV 12 101 (.pointer (some ⟨g1,1,none⟩)) rfl (by kernel_rfl) rfl (by rfl) hH (fun _ hw'=>by go_simp) ?_;simp only [sS];refine tV 13 102 (.pointer (some ⟨g1,2,none⟩)) rfl (by kernel_rfl) rfl (by rfl) hH (fun _ hw'=>by go_simp) ?_;simp only [sS];refine tV 14 103 (.int .i64 yk) rfl (by kernel_rfl) rfl (by rfl) hH (fun _ hw'=>by have hc:=K2.out _ hw';go_simp) ?_;simp only [sS];refine tV 15 104 (.bool td) rfl (by kernel_rfl) rfl (by rfl) hH (fun _ hw'=>by have h9:=HZk.out;go_simp) ?_;simp only [sS];refine tV 16 105 (.pointer (some ⟨g2,1,none⟩)) rfl (by kernel_rfl) rfl (by rfl) hH (fun _ hw'=>by go_simp) ?_;simp only [sS];refine tV 17 106 (.bool td) rfl (by kernel_rfl) rfl (by rfl) hH (fun _ hw'=>by have hc:=KT2.out _ hw' 1 _ rfl;go_simp) ?_;simp only [sS]
          refine tV 18 107 (.bool false) rfl (by kernel_rfl) rfl (by rfl) hH (fun _ hw'=>by go_simp <;> cases td <;> rfl) ?_
          simp only [sS];refine tV 19 108 (.bool false) rfl (by kernel_rfl) rfl (by rfl) hH (fun _ hw'=>rfl) ?_;simp only [sS];refine tV 20 109 (.bool false) rfl (by kernel_rfl) rfl (by rfl) hH (fun _ hw'=>rfl) ?_;simp only [sS];refine tV 21 110 (.pointer (some ⟨g1,1,none⟩)) rfl (by kernel_rfl) rfl (by rfl) hH (fun _ hw'=>by go_simp) ?_;simp only [sS];refine tV 22 111 (.pointer (some ⟨g1,3,none⟩)) rfl (by kernel_rfl) rfl (by rfl) hH (fun _ hw'=>by go_simp) ?_;simp only [sS];refine tV 23 112 (.int .i64 (lk:Int)) rfl (by kernel_rfl) rfl (by rfl) hH (fun _ hw'=>by have hc:=K3.out _ hw';go_simp) ?_;simp only [sS];refine tV 24 113 (.pointer (some ⟨cg,0,none⟩)) rfl (by kernel_rfl) rfl (by rfl) hH (fun _ hw'=>rfl) ?_;simp only [sS];refine tV 25 114 (.int .i64 (idn:Int)) rfl (by kernel_rfl) rfl (by rfl) hH (fun _ hw'=>rfl) ?_;simp only [sS];refine step1 26 (by kernel_rfl) ?_;refine stCall 26 115 34 #[.pointer (some ⟨cg,0,none⟩),.int .i64 (idn:Int)] _ rfl rfl (by rfl) (by go_simp) (HLk.out _ (HCd.out.tr hH)) ?_
          rintro e w' ⟨rfl,hw⟩
          subst hw;refine ⟨_,rfl,hH,?_⟩;simp only [sS];refine tV 27 116 (.bool false) rfl (by kernel_rfl) rfl (by rfl) hH (fun _ hw'=>by go_simp) ?_;simp only [sS];refine tV 28 117 (.bool false) rfl (by kernel_rfl) rfl (by rfl) hH (fun _ hw'=>rfl) ?_;simp only [sS];refine tV 29 118 (.bool false) rfl (by kernel_rfl) rfl (by rfl) hH (fun _ hw'=>rfl) ?_;simp only [sS];refine tV 30 119 (.slice (some ⟨gi,0,none⟩) N N) rfl (by kernel_rfl) rfl (by rfl) hH (fun _ hw'=>rfl) ?_;simp only [sS];refine tV 31 120 (.int .i64 (idn:Int)) rfl (by kernel_rfl) rfl (by rfl) hH (fun _ hw'=>rfl) ?_;simp only [sS];refine tV 32 121 (.pointer (some ⟨gi,idn,none⟩)) rfl (by kernel_rfl) rfl (by rfl) hH (fun _ hw'=>by go_simp) ?_;simp only [sS];refine tV 33 122 (.int .i64 0) rfl (by kernel_rfl) rfl (by rfl) hH (fun _ hw'=>by have hc:=KI.out _ hw';go_simp) ?_;simp only [sS];refine tV 34 123 (.bool false) rfl (by kernel_rfl) rfl (by rfl) hH (fun _ hw'=>by go_simp) ?_;simp only [sS];refine tV 35 124 (.bool false) rfl (by kernel_rfl) rfl (by rfl) hH (fun _ hw'=>rfl) ?_;simp only [sS];refine takeNot 36 125 rfl (by kernel_rfl) (by kernel_rfl) (by kernel_rfl) rfl (by rfl) (fun _ _ _ h=>h) hH ?_;simp only [sS];refine takeNot 37 126 rfl (by kernel_rfl) (by kernel_rfl) (by kernel_rfl) rfl (by rfl) (fun _ _ _ h=>h) hH ?_;simp only [sS];refine takeNot 38 127 rfl (by kernel_rfl) (by kernel_rfl) (by kernel_rfl) rfl (by rfl) (fun _ _ _ h=>h) hH ?_;simp only [sS];refine takeNot 39 128 rfl (by kernel_rfl) (by kernel_rfl) (by kernel_rfl) rfl (by rfl) (fun _ _ _ h=>h) hH ?_;simp only [sS];refine takeNot 40 129 rfl (by kernel_rfl) (by kernel_rfl) (by kernel_rfl) rfl (by rfl) (fun _ _ _ h=>h) hH ?_;simp only [sS];refine takeNot 41 130 rfl (by kernel_rfl) (by kernel_rfl) (by kernel_rfl) rfl (by rfl) (fun _ _ _ h=>h) hH ?_;simp only [sS];refine takeNot 42 131 rfl (by kernel_rfl) (by kernel_rfl) (by kernel_rfl) rfl (by rfl) (fun _ _ _ h=>h) hH ?_;simp only [sS];refine takeNot 43 132 rfl (by kernel_rfl) (by kernel_rfl) (by kernel_rfl) rfl (by rfl) (fun _ _ _ h=>h) hH ?_;simp only [sS];refine tV 44 133 (.bool false) rfl (by kernel_rfl) rfl (by rfl) hH (fun _ hw'=>rfl) ?_;simp only [sS];refine tV 45 134 (.bool false) rfl (by kernel_rfl) rfl (by rfl) hH (fun _ hw'=>rfl) ?_;simp only [sS];refine wpAnyH_done (by kernel_rfl) ?_ _;refine NoPanic.normal ?_;have HCn:=hid hH;clear hH
          go_wp2_with fail
          go_meet
          exact ⟨rfl,HCn⟩
         ·have hg0b:(gk != 0)=true:=by simp [hg0]
          subst hgj;refine wp_region_noPanic ?_;refine wp_region_held_drew (S:=fun W=>Chg wd W No) (by kernel_rfl) ((Chg.refl wd No).drew) (fun hH => ?_);refine tV 0 89 (.pointer (some ⟨g1,0,none⟩)) rfl (by kernel_rfl) rfl (by rfl) hH (fun _ hw'=>by go_simp) ?_;simp only [sS];refine tV 1 90 (.int .i64 0) rfl (by kernel_rfl) rfl (by rfl) hH (fun _ hw'=>by have hc:=KC.out _ hw';go_simp) ?_;simp only [sS];refine tV 2 91 (.bool false) rfl (by kernel_rfl) rfl (by rfl) hH (fun _ hw'=>by go_simp) ?_;simp only [sS];refine tV 3 92 (.bool false) rfl (by kernel_rfl) rfl (by rfl) hH (fun _ hw'=>rfl) ?_;simp only [sS];refine tV 4 93 (.pointer (some ⟨g1,1,none⟩)) rfl (by kernel_rfl) rfl (by rfl) hH (fun _ hw'=>by go_simp) ?_;simp only [sS];refine tV 5 94 (.pointer (some ⟨g1,5,none⟩)) rfl (by kernel_rfl) rfl (by rfl) hH (fun _ hw'=>by go_simp) ?_;simp only [sS];refine tV 6 95 (.int .i64 tm) rfl (by kernel_rfl) rfl (by rfl) hH (fun _ hw'=>by have hc:=K5.out _ hw';go_simp) ?_;simp only [sS];refine tV 7 96 (.pointer (some ⟨g2,2,none⟩)) rfl (by kernel_rfl) rfl (by rfl) hH (fun _ hw'=>by go_simp) ?_;simp only [sS];refine tV 8 97 (.int .i64 tm) rfl (by kernel_rfl) rfl (by rfl) hH (fun _ hw'=>by have hc:=KT2.out _ hw' 2 _ rfl;go_simp) ?_;simp only [sS];refine tV 9 98 (.bool false) rfl (by kernel_rfl) rfl (by rfl) hH (fun _ hw'=>by go_simp) ?_;simp only [sS];refine tV 10 99 (.bool false) rfl (by kernel_rfl) rfl (by rfl) hH (fun _ hw'=>rfl) ?_;simp only [sS];refine tV 11 100 (.bool false) rfl (by kernel_rfl) rfl (by rfl) hH (fun _ hw'=>rfl) ?_;simp only [sS];refine tV 12 101 (.pointer (some ⟨g1,1,none⟩)) rfl (by kernel_rfl) rfl (by rfl) hH (fun _ hw'=>by go_simp) ?_;simp only [sS];refine tV 13 102 (.pointer (some ⟨g1,2,none⟩)) rfl (by kernel_rfl) rfl (by rfl) hH (fun _ hw'=>by go_simp) ?_;simp only [sS];refine tV 14 103 (.int .i64 yk) rfl (by kernel_rfl) rfl (by rfl) hH (fun _ hw'=>by have hc:=K2.out _ hw';go_simp) ?_;simp only [sS];refine tV 15 104 (.bool td) rfl (by kernel_rfl) rfl (by rfl) hH (fun _ hw'=>by have h9:=HZk.out;go_simp) ?_;simp only [sS];refine tV 16 105 (.pointer (some ⟨g2,1,none⟩)) rfl (by kernel_rfl) rfl (by rfl) hH (fun _ hw'=>by go_simp) ?_;simp only [sS];refine tV 17 106 (.bool td) rfl (by kernel_rfl) rfl (by rfl) hH (fun _ hw'=>by have hc:=KT2.out _ hw' 1 _ rfl;go_simp) ?_;simp only [sS]
          refine tV 18 107 (.bool false) rfl (by kernel_rfl) rfl (by rfl) hH (fun _ hw'=>by go_simp <;> cases td <;> rfl) ?_
          simp only [sS];refine tV 19 108 (.bool false) rfl (by kernel_rfl) rfl (by rfl) hH (fun _ hw'=>rfl) ?_;simp only [sS];refine tV 20 109 (.bool false) rfl (by kernel_rfl) rfl (by rfl) hH (fun _ hw'=>rfl) ?_;simp only [sS];refine tV 21 110 (.pointer (some ⟨g1,1,none⟩)) rfl (by kernel_rfl) rfl (by rfl) hH (fun _ hw'=>by go_simp) ?_;simp only [sS];refine tV 22 111 (.pointer (some ⟨g1,3,none⟩)) rfl (by kernel_rfl) rfl (by rfl) hH (fun _ hw'=>by go_simp) ?_;simp only [sS];refine tV 23 112 (.int .i64 (lk:Int)) rfl (by kernel_rfl) rfl (by rfl) hH (fun _ hw'=>by have hc:=K3.out _ hw';go_simp) ?_;simp only [sS];refine tV 24 113 (.pointer (some ⟨cg,0,none⟩)) rfl (by kernel_rfl) rfl (by rfl) hH (fun _ hw'=>rfl) ?_;simp only [sS];refine tV 25 114 (.int .i64 (idn:Int)) rfl (by kernel_rfl) rfl (by rfl) hH (fun _ hw'=>rfl) ?_;simp only [sS];refine step1 26 (by kernel_rfl) ?_;refine stCall 26 115 34 #[.pointer (some ⟨cg,0,none⟩),.int .i64 (idn:Int)] _ rfl rfl (by rfl) (by go_simp) (HLk.out _ (HCd.out.tr hH)) ?_
          rintro e w' ⟨rfl,hw⟩
          subst hw;refine ⟨_,rfl,hH,?_⟩;simp only [sS];refine tV 27 116 (.bool false) rfl (by kernel_rfl) rfl (by rfl) hH (fun _ hw'=>by go_simp) ?_;simp only [sS];refine tV 28 117 (.bool false) rfl (by kernel_rfl) rfl (by rfl) hH (fun _ hw'=>rfl) ?_;simp only [sS];refine tV 29 118 (.bool false) rfl (by kernel_rfl) rfl (by rfl) hH (fun _ hw'=>rfl) ?_;simp only [sS];refine tV 30 119 (.slice (some ⟨gi,0,none⟩) N N) rfl (by kernel_rfl) rfl (by rfl) hH (fun _ hw'=>rfl) ?_;simp only [sS];refine tV 31 120 (.int .i64 (idn:Int)) rfl (by kernel_rfl) rfl (by rfl) hH (fun _ hw'=>rfl) ?_;simp only [sS];refine tV 32 121 (.pointer (some ⟨gi,idn,none⟩)) rfl (by kernel_rfl) rfl (by rfl) hH (fun _ hw'=>by go_simp) ?_;simp only [sS];refine tV 33 122 (.int .i64 gk) rfl (by kernel_rfl) rfl (by rfl) hH (fun _ hw'=>by have hc:=KI.out _ hw';go_simp) ?_;simp only [sS];refine tV 34 123 (.bool true) rfl (by kernel_rfl) rfl (by rfl) hH (fun _ hw'=>by go_simp) ?_;simp only [sS];refine tV 35 124 (.bool true) rfl (by kernel_rfl) rfl (by rfl) hH (fun _ hw'=>rfl) ?_;simp only [sS];refine tV 36 125 (.slice (some ⟨gi,0,none⟩) N N) rfl (by kernel_rfl) rfl (by rfl) hH (fun _ hw'=>rfl) ?_;simp only [sS];refine tV 37 126 (.int .i64 (idn:Int)) rfl (by kernel_rfl) rfl (by rfl) hH (fun _ hw'=>rfl) ?_;simp only [sS];refine tV 38 127 (.pointer (some ⟨gi,idn,none⟩)) rfl (by kernel_rfl) rfl (by rfl) hH (fun _ hw'=>by go_simp) ?_;simp only [sS];refine tV 39 128 (.int .i64 gk) rfl (by kernel_rfl) rfl (by rfl) hH (fun _ hw'=>by have hc:=KI.out _ hw';go_simp) ?_;simp only [sS];refine tV 40 129 (.pointer (some ⟨g1,1,none⟩)) rfl (by kernel_rfl) rfl (by rfl) hH (fun _ hw'=>by go_simp) ?_;simp only [sS];refine tV 41 130 (.pointer (some ⟨g1,1,none⟩)) rfl (by kernel_rfl) rfl (by rfl) hH (fun _ hw'=>by go_simp) ?_;simp only [sS];refine tV 42 131 (.int .i64 gk) rfl (by kernel_rfl) rfl (by rfl) hH (fun _ hw'=>by have hc:=K1.out _ hw';go_simp) ?_;simp only [sS];refine tV 43 132 (.bool false) rfl (by kernel_rfl) rfl (by rfl) hH (fun _ hw'=>by go_simp) ?_;simp only [sS];refine tV 44 133 (.bool false) rfl (by kernel_rfl) rfl (by rfl) hH (fun _ hw'=>rfl) ?_;simp only [sS];refine tV 45 134 (.bool false) rfl (by kernel_rfl) rfl (by rfl) hH (fun _ hw'=>rfl) ?_;simp only [sS];refine wpAnyH_done (by kernel_rfl) ?_ _;refine NoPanic.normal ?_;have HCn:=hid hH;clear hH
          go_wp2_with fail
          go_meet
          exact ⟨rfl,HCn⟩
        case rest =>
        as_aux_lemma =>
        obtain ⟨rfl,hcut⟩:=hcut;obtain ⟨we,hwe⟩:∃ y,y=wc:=⟨_,rfl⟩;subst hwe;have HDe:Hid (Chg wd we No):=hcut;clear hcut
        go_upto_region 23 with fail
        go_loopw [13] (fun x13 wr=>∃ k:Nat,x13=.int .i64 (k:Int)∧k≤N∧Hid (Chg wd wr No)) (fun x13 _=>N - (intOf x13).toNat)
        case atStart=>exact ⟨0,rfl,Nat.zero_le _,HDe⟩
        case round =>
         obtain ⟨k,rfl,hkN,HC4⟩:=hrel
         have k0:(0:Int)≤(k:Int):=by omega
         by_cases hkl:k < N
         ·have k1:(k:Int) < (N:Int):=by omega
          obtain ⟨kg,hkg⟩:∃ z,z=G.getD k 0:=⟨_,rfl⟩
          have KK:Hid (∀ W,Chg wd W No→W.cell? ⟨gi,k,none⟩=some (.int .i64 kg)):=hid (fun W hW=>by
           obtain ⟨g9,e9,q9⟩:=own_cell (HI3.out.call3 hW) (j:=k) (by have:=HX3.out;omega)
           cases e9
           rw [hkg]
           exact q9)
          by_cases hki:k=idn
          ·have z7:((k:Int) != (idn:Int))=false:=by rw [hki];exact bne_self_eq_false _
           clear hki hkg
           go_upto_region 25 with fail
           refine wp_region_noPanic ?_;refine wp_region_held_drew (S:=fun W=>Chg wd W No) (by kernel_rfl) (HC4.out.drew) (fun hH => ?_);refine tV 0 141 (.int .i64 (k:Int)) rfl (by kernel_rfl) rfl (by rfl) hH (fun _ hw'=>rfl) ?_;simp only [sS];refine tV 1 142 (.int .i64 (idn:Int)) rfl (by kernel_rfl) rfl (by rfl) hH (fun _ hw'=>rfl) ?_;simp only [sS];refine tV 2 143 (.bool false) rfl (by kernel_rfl) rfl (by rfl) hH (fun _ hw'=>by go_simp) ?_;simp only [sS];refine tV 3 144 (.bool false) rfl (by kernel_rfl) rfl (by rfl) hH (fun _ hw'=>rfl) ?_;simp only [sS];refine takeNot 4 145 rfl (by kernel_rfl) (by kernel_rfl) (by kernel_rfl) rfl (by rfl) (fun _ _ _ h=>h) hH ?_;simp only [sS];refine takeNot 5 146 rfl (by kernel_rfl) (by kernel_rfl) (by kernel_rfl) rfl (by rfl) (fun _ _ _ h=>h) hH ?_;simp only [sS];refine takeNot 6 147 rfl (by kernel_rfl) (by kernel_rfl) (by kernel_rfl) rfl (by rfl) (fun _ _ _ h=>h) hH ?_;simp only [sS];refine takeNot 7 148 rfl (by kernel_rfl) (by kernel_rfl) (by kernel_rfl) rfl (by rfl) (fun _ _ _ h=>h) hH ?_;simp only [sS];refine takeNot 8 149 rfl (by kernel_rfl) (by kernel_rfl) (by kernel_rfl) rfl (by rfl) (fun _ _ _ h=>h) hH ?_;simp only [sS];refine takeNot 9 150 rfl (by kernel_rfl) (by kernel_rfl) (by kernel_rfl) rfl (by rfl) (fun _ _ _ h=>h) hH ?_;simp only [sS];refine takeNot 10 151 rfl (by kernel_rfl) (by kernel_rfl) (by kernel_rfl) rfl (by rfl) (fun _ _ _ h=>h) hH ?_;simp only [sS];refine takeNot 11 152 rfl (by kernel_rfl) (by kernel_rfl) (by kernel_rfl) rfl (by rfl) (fun _ _ _ h=>h) hH ?_;simp only [sS];refine tV 12 153 (.bool false) rfl (by kernel_rfl) rfl (by rfl) hH (fun _ hw'=>rfl) ?_;simp only [sS];refine tV 13 154 (.bool false) rfl (by kernel_rfl) rfl (by rfl) hH (fun _ hw'=>rfl) ?_;simp only [sS];refine takeNot 14 155 rfl (by kernel_rfl) (by kernel_rfl) (by kernel_rfl) rfl (by rfl) (fun _ _ _ h=>h) hH ?_;simp only [sS];refine takeNot 15 156 rfl (by kernel_rfl) (by kernel_rfl) (by kernel_rfl) rfl (by rfl) (fun _ _ _ h=>h) hH ?_;simp only [sS];refine takeNot 16 157 rfl (by kernel_rfl) (by kernel_rfl) (by kernel_rfl) rfl (by rfl) (fun _ _ _ h=>h) hH ?_;simp only [sS];refine takeNot 17 158 rfl (by kernel_rfl) (by kernel_rfl) (by kernel_rfl) rfl (by rfl) (fun _ _ _ h=>h) hH ?_;simp only [sS];refine tV 18 159 (.bool false) rfl (by kernel_rfl) rfl (by rfl) hH (fun _ hw'=>rfl) ?_;simp only [sS];refine wpAnyH_done (by kernel_rfl) ?_ _;refine NoPanic.normal ?_;have HCn:=hid hH;clear hH
           go_wp2_with fail
           exact ⟨⟨k + 1,by go_num,by omega,HCn⟩,by simp [intOf];omega⟩
          ·have z7:((k:Int) != (idn:Int))=true:=bne_iff_ne.2 (by omega)
           have z8:(kg == j)=false:=beq_eq_false_iff_ne.2 (by rw [hkg];exact HFr.out.2.1 k (by omega));clear hki hkg
           go_upto_region 25 with fail
           refine wp_region_noPanic ?_;refine wp_region_held_drew (S:=fun W=>Chg wd W No) (by kernel_rfl) (HC4.out.drew) (fun hH => ?_);refine tV 0 141 (.int .i64 (k:Int)) rfl (by kernel_rfl) rfl (by rfl) hH (fun _ hw'=>rfl) ?_;simp only [sS];refine tV 1 142 (.int .i64 (idn:Int)) rfl (by kernel_rfl) rfl (by rfl) hH (fun _ hw'=>rfl) ?_;simp only [sS];refine tV 2 143 (.bool true) rfl (by kernel_rfl) rfl (by rfl) hH (fun _ hw'=>by go_simp) ?_;simp only [sS];refine tV 3 144 (.bool true) rfl (by kernel_rfl) rfl (by rfl) hH (fun _ hw'=>rfl) ?_;simp only [sS];refine tV 4 145 (.slice (some ⟨gi,0,none⟩) N N) rfl (by kernel_rfl) rfl (by rfl) hH (fun _ hw'=>rfl) ?_;simp only [sS];refine tV 5 146 (.int .i64 (k:Int)) rfl (by kernel_rfl) rfl (by rfl) hH (fun _ hw'=>rfl) ?_;simp only [sS];refine tV 6 147 (.pointer (some ⟨gi,k,none⟩)) rfl (by kernel_rfl) rfl (by rfl) hH (fun _ hw'=>by go_simp) ?_;simp only [sS];refine tV 7 148 (.int .i64 kg) rfl (by kernel_rfl) rfl (by rfl) hH (fun _ hw'=>by have hc:=KK.out _ hw';go_simp) ?_;simp only [sS];refine tV 8 149 (.pointer (some ⟨g1,1,none⟩)) rfl (by kernel_rfl) rfl (by rfl) hH (fun _ hw'=>by go_simp) ?_;simp only [sS];refine tV 9 150 (.pointer (some ⟨g1,1,none⟩)) rfl (by kernel_rfl) rfl (by rfl) hH (fun _ hw'=>by go_simp) ?_;simp only [sS];refine tV 10 151 (.int .i64 j) rfl (by kernel_rfl) rfl (by rfl) hH (fun _ hw'=>by have hc:=K1.out _ hw';go_simp) ?_;simp only [sS];refine tV 11 152 (.bool false) rfl (by kernel_rfl) rfl (by rfl) hH (fun _ hw'=>by go_simp) ?_;simp only [sS];refine tV 12 153 (.bool false) rfl (by kernel_rfl) rfl (by rfl) hH (fun _ hw'=>rfl) ?_;simp only [sS];refine tV 13 154 (.bool false) rfl (by kernel_rfl) rfl (by rfl) hH (fun _ hw'=>rfl) ?_;simp only [sS];refine takeNot 14 155 rfl (by kernel_rfl) (by kernel_rfl) (by kernel_rfl) rfl (by rfl) (fun _ _ _ h=>h) hH ?_;simp only [sS];refine takeNot 15 156 rfl (by kernel_rfl) (by kernel_rfl) (by kernel_rfl) rfl (by rfl) (fun _ _ _ h=>h) hH ?_;simp only [sS];refine takeNot 16 157 rfl (by kernel_rfl) (by kernel_rfl) (by kernel_rfl) rfl (by rfl) (fun _ _ _ h=>h) hH ?_;simp only [sS];refine takeNot 17 158 rfl (by kernel_rfl) (by kernel_rfl) (by kernel_rfl) rfl (by rfl) (fun _ _ _ h=>h) hH ?_;simp only [sS];refine tV 18 159 (.bool false) rfl (by kernel_rfl) rfl (by rfl) hH (fun _ hw'=>rfl) ?_;simp only [sS];refine wpAnyH_done (by kernel_rfl) ?_ _;refine NoPanic.normal ?_;have HCn:=hid hH;clear hH
           go_wp2_with fail
           exact ⟨⟨k + 1,by go_num,by omega,HCn⟩,by simp [intOf];omega⟩
         ·as_aux_lemma =>
          have k1 : ¬ (k:Int) < (N:Int):=by omega
          have q1:=K1.out wr HC4.out;have qi:=KI.out wr HC4.out;have hI4:=HI3.out.call3 HC4.out;obtain ⟨_,A4,hA4⟩:=own_rowK hI4;have hff:wr.frozen? ⟨gi,idn,none⟩=false:=frozen_of_row _ _ _ _ _ hA4;have HI5:Hid (IOwn (wr.setCell ⟨gi,idn,none⟩ (.int .i64 j)) w.heap.size (.slice (some ⟨gi,0,none⟩) N N) (G.set idn j)):=hid (own_setK hI4 HX3.out idn j);have HC5:Hid (Chg wr (wr.setCell ⟨gi,idn,none⟩ (.int .i64 j)) (· = gi)):=hid Chg.setCell;have HA4:=hid hA4;clear hI4 hA4
          go_upto_region 28 with fail
          clear q1 qi hff;obtain ⟨wf,hwf⟩:∃ y,y=wr.setCell ⟨gi,idn,none⟩ (.int .i64 j):=⟨_,rfl⟩;rw [←hwf] at HI5 HC5 ⊢;clear hwf;have HCr:Hid (Chg w wr No):=hid (HCd.out.tr HC4.out);have HCf:Hid (Chg w wf No):=hid (HCr.out.trans HC5.out (fun _ _ e=>e) (fun j hj e=>by have:=(own_rowK HI5.out).1;omega))
          have HTf:Hid (TOw wf w.heap.size (.slice (some ⟨gl,0,none⟩) nA ca) AL):=hid (((HT2.out.call HD.out).call HC4.out).keep HC5.out fun k e1 e2=>by
           have e2:k=gi:=e2;obtain ⟨_,A9,h9⟩:=((HT2.out.call HD.out).call HC4.out).blk e1;rw [e2,HA4.out] at h9
           injection h9 with h9
           injection h9 with h9 h8
           exact absurd h8 (by decide))
          have HQ1f:Hid (wf.heap[g1]? = some (.cells A1 43 (0,0))):=hid (HC5.out.keep (HC4.out.keep (HD.out.keep HQ1.out (fun e=>e)) (fun e=>e)) (fun e2=>by
           have e2:g1=gi:=e2;have h9:=HC4.out.keep (HD.out.keep HQ1.out (fun e=>e)) (fun e=>e);rw [e2,HA4.out] at h9
           injection h9 with h9
           injection h9 with h9 h8
           exact absurd h8 (by decide)))
          have HQ2f:Hid (wf.heap[g2]? = some (.cells #[.int .i64 tid,.bool td,.int .i64 tm,.slice bb.1 tn bb.2] 74 (0,0))):=hid (HC5.out.keep (HC4.out.keep HQ2.out (fun e=>e)) (fun e2=>by
           have e2:g2=gi:=e2;have h9:=HC4.out.keep HQ2.out (fun e=>e);rw [e2,HA4.out] at h9
           injection h9 with h9
           injection h9 with h9 h8
           exact absurd h8 (by decide)))
          have qt:wf.cell? ⟨gl,i,none⟩=some (.string t):=by
           obtain ⟨g9,e9,_,h9⟩:=TOw.cell HTf.out HTi.out
           cases e9
           exact h9 wf (Chg.refl _ _)
          have hD2:=HAsk.out 9 131072 t (.inr (.inr ⟨rfl,rfl⟩)) wf HCf.out
          have HSn:Hid (SeenK m s (fun k=>(G.set idn j).getD k 0)):=hid (by
           have e:(fun k:Nat=>(G.set idn j).getD k 0)=fun k:Nat=>if (k:Int)=(idn:Int) then j else G.getD k 0:=by
            funext k
            rw [List.getD_eq_getElem?_getD,List.getElem?_set]
            by_cases c:idn=k
            ·subst c
             rw [if_pos rfl,if_pos (by have:=HX3.out;omega),if_pos rfl]
             rfl
            ·rw [if_neg c,if_neg (by omega),List.getD_eq_getElem?_getD]
           rw [e]
           exact HFr.out.2.2)
          have HV4:Hid (A1[4]? = some (.int .i64 ys)):=hid (by
           have h9:=K4.out wd (Chg.refl _ _);rw [cell_of_row _ _ _ _ _ _ (HD.out.keep HQ1.out (fun e=>e))] at h9
           exact h9)
          clear HC5 HA4 HI3 HC4 KI K1 K2 K3 K4 K5 KC KT2 HLk HTk HNb HDe
          go_upto_region 29 with (first
           | (go_at_call 9;go_must (refine hD2.mono ?_;rintro e wg ⟨A2,rfl,hA2,hc2⟩;have HA2:=hid hA2;have hO2:=hA2.one;have HO2:=hid hO2;have Hc2:=hid hc2;clear hA2 hO2 hc2))
           | (refine store_R rfl 43 _ _ rfl wg.heap.size A2 rfl rfl 43 _ (heap_alloc_new _ _) (by rw [szAn,HO2.out.1]) (by rw [HO2.out.1];rfl) HO2.out.2 ?_;intro wh hs2;have HS2:=hid hs2;clear hs2)
           | fail)
          clear hD2 b9 qt;obtain ⟨g3,hg3⟩:∃ y,y=wg.heap.size:=⟨_,rfl⟩;have HE2:Hid (Chg wg wh No):=hid ((Chg.alloc wg _ No).trans (kt_new HS2.out) (fun _ _ e=>e) (fun j hj e=>by omega));rw [←hg3] at HS2 ⊢;clear hg3;have HG2:Hid (Chg wf wh No):=hid (Hc2.out.tr HE2.out);have HCh:Hid (Chg w wh No):=hid (HCf.out.tr HG2.out);have HNx:Hid (∃ G:List Int,Chg w wh No∧IOwn wh w.heap.size (.slice (some ⟨gi,0,none⟩) N N) G∧G.length=N∧SeenK m s (fun k=>G.getD k 0)∧TOw wh w.heap.size (.slice (some ⟨gl,0,none⟩) nA ca) AL):=hid ⟨G.set idn j,HCh.out,HI5.out.call3 HG2.out,by rw [List.length_set];exact HX3.out,HSn.out,HTf.out.call HG2.out⟩
          have p0:wh.cell? ⟨g3,0,none⟩=some (.int .i64 (codeA (askS s 9 t 131072))):=by rw [cell_of_row _ _ _ _ _ _ HS2.out.here];exact HA2.out.code.1
          have hr2:=HG2.out.keep HQ2f.out (fun e=>e);have hr1:=HG2.out.keep HQ1f.out (fun e=>e);have p1:wh.cell? ⟨g2,1,none⟩=some (.bool td):=(cell_of_row _ _ _ _ _ _ hr2).trans rfl
          cases htd:td with
          | true =>
           have hcode:=HM11.out htd;rw [hcode] at p0;rw [htd] at p1;clear hr1 hr2 hcode
           go_wp2_with fail
           exact ⟨⟨i + 1,by go_num,by omega,HNx⟩,by simp [intOf];omega⟩
          | false =>
           obtain ⟨hcode,hdat,hsz⟩:=HM12.out htd;rw [hcode] at p0;rw [htd] at p1;have p3:wh.cell? ⟨g2,3,none⟩=some (.slice bb.1 tn bb.2):=(cell_of_row _ _ _ _ _ _ hr2).trans rfl
           have p4:wh.cell? ⟨g1,4,none⟩=some (.int .i64 ys):=by rw [cell_of_row _ _ _ _ _ _ hr1];exact HV4.out
           obtain ⟨a7,n7,c7,hd7,hn7,hcv⟩:=HA2.out.dat
           have p7:wh.cell? ⟨g3,7,none⟩=some (.slice a7 n7 c7):=by rw [cell_of_row _ _ _ _ _ _ HS2.out.here];exact hd7
           have c1:=hcv wh HE2.out;rw [hdat] at c1;have hbb:=((HM.out wh HCh.out).thing HTh.out);obtain ⟨_,_,bb2,_,_,_,hb2,hbr2,_⟩:=hbb;rw [HBv.out] at hb2
           cases hb2
           have c2:(convert 32 9 (.slice bb.1 tn bb.2)).run Tryz.prog wh=.ok (.string (strL tl)) wh:=by
            rw [HTn.out,HTl.out]
            exact conv_at hbr2.1 bb.2
           obtain ⟨ST,hST⟩:∃ z,z=strL tl:=⟨_,rfl⟩;rw [←hST] at c1 c2;have z1:(ST.toList == ST.toList)=true:=beq_self_eq_true _
           have z2:(ys != (tn:Int))=false:=by rw [HYs.out,HYk.out htd,hsz];exact bne_self_eq_false _
           clear hr1 hr2 hcode hdat hsz hd7 hn7 hcv hbr2 hST
           go_wp2_with (first
            | (refine wp_convT (by first | rfl | go_simp) _ rfl _ _ rfl c1 ?_)
            | (refine wp_convT (by first | rfl | go_simp) _ rfl _ _ rfl c2 ?_)
            | fail)
           exact ⟨⟨i + 1,by go_num,by omega,HNx⟩,by simp [intOf];omega⟩
      ·have i1 : ¬ (i:Int) < (nA:Int):=by omega
       obtain ⟨G,x1,_,_,_,_⟩:=HX.out
       have l1:∀ t∈[(⟨#[99]⟩:ByteArray)],t∈lets:=fun t ht=>by rw [List.mem_singleton.1 ht];simp [lets]
       have l2:∀ t∈[(⟨#[100]⟩:ByteArray)],t∈lets:=fun t ht=>by rw [List.mem_singleton.1 ht];simp [lets]
       have l3:∀ t∈[(⟨#[100]⟩:ByteArray),⟨#[101]⟩],t∈lets:=fun t ht=>by
        rcases List.mem_cons.1 ht with h9 | h9
        ·rw [h9];simp [lets]
        ·rw [List.mem_singleton.1 h9];simp [lets]
       have HX1:=hid x1;have hl1:=HLs.out wr HX1.out [] (fun _ e=>by cases e) (Nat.zero_le _);clear x1 HX
       go_wp2_with (first
        | (go_at_call_of 35 (Value.string ⟨#[47]⟩);go_must (refine Calls.mono hl1 ?_;rintro e w2 ⟨rfl,h2⟩;have HC2:=hid (HX1.out.tr h2);clear h2))
        | (go_at_call_of 35 (Value.string ⟨#[47,99]⟩);go_must (refine Calls.mono (HLs.out w2 HC2.out [⟨#[99]⟩] l1 (by decide)) ?_;rintro e w3 ⟨rfl,h3⟩;have HC3:=hid (HC2.out.tr h3);clear h3))
        | (go_at_call_of 35 (Value.string ⟨#[47,100]⟩);go_must (refine Calls.mono (HLs.out w3 HC3.out [⟨#[100]⟩] l2 (by decide)) ?_;rintro e w4 ⟨rfl,h4⟩;have HC4:=hid (HC3.out.tr h4);clear h4))
        | (go_at_call_of 35 (Value.string ⟨#[47,100,47,101]⟩);go_must (refine Calls.mono (HLs.out w4 HC4.out [⟨#[100]⟩,⟨#[101]⟩] l3 (by decide)) ?_;rintro e w5 ⟨rfl,h5⟩;have HC5:=hid (HC4.out.tr h5);clear h5))
        | fail)
       go_ret
       exact ⟨rfl,HC5.out⟩
end Go.Proofs.YtmgfilacepnjlaaGreatDoor
