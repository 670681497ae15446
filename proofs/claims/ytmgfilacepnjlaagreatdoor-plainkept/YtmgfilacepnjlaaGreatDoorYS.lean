/-
 PlainKept's model: does a directory tell just the names that lie in it?
-/
import Derived.Test.YtmgfilacepnjlaaGreatDoorYD
namespace Go.Proofs.YtmgfilacepnjlaaGreatDoor
open Go.RowKit Go.PlainAid

open Classical in
noncomputable def cntD (D:List ByteArray) (l:List (List ByteArray × Int)):Nat:=l.countP fun e=>decide (e.1.dropLast=D)
open Classical in
noncomputable def cntB (D ls:List ByteArray) (l:List ByteArray):Nat:=l.countP fun n=>decide (D ++ [n]=ls)
open Classical in
theorem cntD_cons (D:List ByteArray) (e:List ByteArray × Int) (l:List (List ByteArray × Int)):cntD D (e :: l)=cntD D l + if e.1.dropLast=D then 1 else 0:=by
 unfold cntD;rw [List.countP_cons]
 by_cases c:e.1.dropLast=D
 ·rw [if_pos c,if_pos (decide_eq_true c)]
 ·rw [if_neg c,if_neg (by rw [decide_eq_false c];decide)]
open Classical in
theorem cntB_cons (D ls:List ByteArray) (n:ByteArray) (l:List ByteArray):cntB D ls (n :: l)=cntB D ls l + if D ++ [n]=ls then 1 else 0:=by
 unfold cntB;rw [List.countP_cons]
 by_cases c:D ++ [n]=ls
 ·rw [if_pos c,if_pos (decide_eq_true c)]
 ·rw [if_neg c,if_neg (by rw [decide_eq_false c];decide)]
theorem before_all:lets.all (fun a=>lets.all fun b => !(decide (a.data.toList≤b.data.toList) && !decide (a.data.toList=b.data.toList)) || !(Op.bytesLess b.toList a.toList || b.toList == a.toList))=true:=by decide +kernel
theorem before_no {a b:ByteArray} (ha:a∈lets) (hb:b∈lets) (h:a.data.toList≤b.data.toList∧a.data.toList≠b.data.toList):(Op.bytesLess b.toList a.toList || b.toList == a.toList)=false:=by
 have h1:=List.all_eq_true.1 (List.all_eq_true.1 before_all a ha) b hb;rw [decide_eq_true h.1,decide_eq_false h.2] at h1
 simpa using h1
set_option maxHeartbeats 4000000 in
set_option maxRecDepth 100000 in
theorem mo_lists {B p:Nat} {c:MC} {m:Mo} {s:PSt} {D:List ByteArray} (w0 w:World) (hN:NowS w0 w p s) (h:IsMo w B c m) (hk:MoOk m) (hr:Rel m s) (hD:∀ t∈D,t∈lets) (hD4:D.length≤50) (hu:UB w0) (hm:ML w0):Calls Tryz.prog 35 #[.pointer (some ⟨c.g,0,none⟩),.pointer (some ⟨p,0,none⟩),.string (TP D)] w fun e w'=>e=.returned (.bool true)∧Chg w w' No:=by
 have hLD:LL D:=⟨hD,by omega⟩;have hAsk:=hN.ask 11 0 (TP D) (.inr (.inl ⟨rfl,rfl⟩)) hu hm;have hLs:=hr.listed hD (by omega);have HTn:Hid (∀ n,belN (TP D) n=TP (D ++ [n])):=hid (fun n=>TP_bel (lets_nm hD));have HDn:Hid (D≠[]→TP D≠⟨#[47]⟩):=hid (fun e=>TP_ne e (lets_nm hD))
 have HDs:Hid ((TP D).size≤200):=hid (by
  by_cases e:D=[]
  ·rw [e];decide
  ·rw [TP_size hLD e];omega)
 have H:=hid h;have HK:=hid hk;have HR:=hid hr;have HLD:=hid hLD;have HD4:=hid hD4;obtain ⟨t,ht⟩:∃ y,y=TP D:=⟨_,rfl⟩;rw [←ht] at hAsk hLs HTn HDn HDs ⊢;have HT:=hid ht;have HLs:=hid hLs;have b11:=build_ask 11 t;obtain ⟨n,hn⟩:∃ y,y=m.paths.length:=⟨_,rfl⟩;have HNn:=hid hn
 have n1:(n:Int)≤2199023255552:=by have:=hk.np;omega
 obtain ⟨cg,hcg⟩:∃ y,y=c.g:=⟨_,rfl⟩;have HCg:=hid hcg;rw [←hcg];clear hN h hk hr hD hD4 hu hm hLD hLs ht hn hcg
 go_enter Tryz.func35,Tryz.ntmps35
 go_upto_region 2 with (first
  | (go_at_call 9;go_must (refine hAsk.mono ?_;rintro e wa ⟨A1,rfl,hA1,hc1⟩;have HA1:=hid hA1;have hO1:=hA1.one;have HO1:=hid hO1;have Hc1:=hid hc1;clear hA1 hO1 hc1))
  | (refine store_R rfl 43 _ _ rfl wa.heap.size A1 rfl rfl 43 _ (heap_alloc_new _ _) (by rw [szAn,HO1.out.1]) (by rw [HO1.out.1];rfl) HO1.out.2 ?_;intro wb hs1;have HS1:=hid hs1;clear hs1)
  | fail)
 clear hAsk b11;obtain ⟨g1,hg1⟩:∃ y,y=wa.heap.size:=⟨_,rfl⟩;have HE1:Hid (Chg wa wb No):=hid ((Chg.alloc wa _ No).trans (kt_new HS1.out) (fun _ _ e=>e) (fun j hj e=>by omega));rw [←hg1] at HS1 ⊢;clear hg1;have HC1:Hid (Chg w wb No):=hid (Hc1.out.tr HE1.out);have HQ1:Hid (wb.heap[g1]? = some (.cells A1 43 (0,0))):=hid HS1.out.here;obtain ⟨v8,hv8,hE8⟩:=HA1.out.ent;obtain ⟨a8,c8,hs8⟩:=row_shape hE8;subst hs8;have HE8:Hid (EOw wb w.heap.size (.slice a8 (entA (askS s 11 t 0)).length c8) (entA (askS s 11 t 0))):=hid (hE8.keep HE1.out (fun _ _ e=>e));have HV0:Hid (∀ W,Chg wb W No→W.cell? ⟨g1,0,none⟩=some (.int .i64 (codeA (askS s 11 t 0)))):=hid (fun W hW=>by rw [cell_of_row _ _ _ _ _ _ (hW.keep HQ1.out (fun e=>e))];exact HA1.out.code.1);have HV8:Hid (∀ W,Chg wb W No→W.cell? ⟨g1,8,none⟩=some (.slice a8 (entA (askS s 11 t 0)).length c8)):=hid (fun W hW=>by rw [cell_of_row _ _ _ _ _ _ (hW.keep HQ1.out (fun e=>e))];exact hv8);have HM:Hid (∀ W,Chg wb W No→IsMo W B c m):=hid (fun W hW=>H.out.call (HC1.out.tr hW));obtain ⟨E,hE⟩:∃ y,y=entA (askS s 11 t 0):=⟨_,rfl⟩;rw [←hE] at HE8 HV8 HLs;obtain ⟨ca,hca⟩:∃ y,y=codeA (askS s 11 t 0):=⟨_,rfl⟩;rw [←hca] at HV0 HLs;have q0:=HV0.out wb (Chg.refl _ _);clear hv8 hE8 hE hca HE1 Hc1 HS1
 by_cases hc0:ca=0
 ·have HLl:Hid (∃ L:List ByteArray,E.map (·.1)=L∧L.length≤7∧(∀ n∈L,n∈lets∧0≤atL m.paths (D ++ [n]))∧(L.map (·.data.toList)).Pairwise (fun a b=>a≤b∧a≠b)∧cntD D m.paths=L.length∧∀ e∈m.paths,cntB D e.1 L=if e.1.dropLast=D then 1 else 0):=hid (by
   rcases HLs.out with ⟨e,_⟩ | ⟨L,_,l1,l2,l3,l4,l5,l6⟩
   ·exact absurd hc0 e
   ·exact ⟨L,l1,l2,l3,l4,l5,l6⟩)
  obtain ⟨L,l1,l2,l3,l4,l5,l6⟩:=HLl.out;have HL1:=hid l1;have HL3:=hid l3;have HL4:=hid l4;have HL5:=hid l5;have HL6:=hid l6;obtain ⟨nE,hnE⟩:∃ y,y=E.length:=⟨_,rfl⟩;have HNE:=hid hnE
  have hnL:L.length=nE:=by rw [←l1,List.length_map,hnE]
  have HNL:=hid hnL
  have hn7:nE≤7:=by omega
  have hn8:(nE:Int)≤7:=by omega
  rw [←hnE] at HE8 HV8
  have HEc:Hid (∀ (k:Nat),k < nE→∃ ge x,a8=some ⟨ge,0,none⟩∧L[k]? = some x∧x∈lets∧0≤atL m.paths (D ++ [x])∧LL (D ++ [x])∧∀ W,Chg wb W No→W.cell? ⟨ge,k * 3,none⟩=some (.string x)):=hid (fun k hk=>by
   obtain ⟨e,hek⟩:∃ e,E[k]? = some e:=⟨_,List.getElem?_eq_getElem (by rw [←HNE.out];exact hk)⟩;obtain ⟨ge,ha8,hge,hce⟩:=EOw.cell HE8.out hek
   have hx:L[k]? = some e.1:=by rw [←HL1.out,List.getElem?_map,hek];rfl
   have hm:=HL3.out e.1 (List.mem_of_getElem? hx);refine ⟨ge,e.1,ha8,hx,hm.1,hm.2,⟨fun u hu => ?_,?_⟩,fun W hW=>by rw [Nat.mul_comm];exact hce W hW⟩
   ·rcases List.mem_append.1 hu with h1 | h1
    ·exact HLD.out.1 u h1
    ·rw [List.mem_singleton.1 h1];exact hm.1
   ·rw [List.length_append]
    have:=HD4.out
    simp only [List.length_cons,List.length_nil]
    omega)
  have HBel:Hid (∀ x∈lets,∀ W,Calls Tryz.prog 37 #[.string t,.string x] W fun e' w'=>e'=.returned (.string (TP (D ++ [x])))∧w'=W):=hid (fun x hx W=>by
   rw [←HTn.out x];refine below_any t x W (by have:=HDs.out;omega) ?_;obtain ⟨b,hb,_⟩:=let_one hx
   have e:x.size=x.data.toList.length:=by rw [Array.length_toList];rfl
   rw [e,hb]
   show 1≤100000
   omega)
  have HP:Hid (∀ (i:Nat),i < n→∃ e g cp,m.paths[i]? = some e∧LL e.1∧e.1≠[]∧c.pv=.slice (some ⟨g,0,none⟩) n cp∧∀ W,Chg wb W No→W.cell? ⟨g,i * 2,none⟩=some (.string (TP e.1))):=hid (fun i hi=>by
   obtain ⟨e,he⟩:∃ e,m.paths[i]? = some e:=⟨_,List.getElem?_eq_getElem (by rw [←HNn.out];exact hi)⟩;obtain ⟨g,cp,h1,_⟩:=(HM.out wb (Chg.refl _ _)).path he;have hl:=HK.out.ll e (List.mem_of_getElem? he);refine ⟨e,g,cp,he,hl.1,hl.2,by rw [HNn.out];exact h1,fun W hW => ?_⟩;obtain ⟨g',cp',h1',_,_,h2,_⟩:=(HM.out W hW).path he;rw [h1] at h1'
   cases h1'
   exact h2)
  have HPv:Hid (∃ a cp,c.pv=.slice a n cp):=hid (by
   obtain ⟨a,cp,e⟩:=(HM.out wb (Chg.refl _ _)).shape.2
   exact ⟨a,cp,by rw [HNn.out];exact e⟩)
  obtain ⟨pa,pc,hpv⟩:=HPv.out;have HPv2:=hid hpv
  have HQp:Hid (∀ W,Chg wb W No→W.cell? ⟨cg,1,none⟩=some (.slice pa n pc)):=hid (fun W hW=>by
   have:=(HM.out W hW).cells.2.1;rw [HPv2.out,←HCg.out] at this
   exact this)
  have z0:(ca != 0)=false:=by rw [hc0];rfl
  clear l1 l2 l3 l4 l5 l6 hnE hnL HLl hpv HPv
  go_upto_region 7 with fail
  clear q0 z0 hc0
  go_loopw [9,10] (fun x9 x10 wr=>∃ a i:Nat,x9=.int .i64 (a:Int)∧x10=.int .i64 (i:Int)∧i≤n∧a≤nE∧Hid (Chg wb wr No∧a + cntD D (m.paths.drop i)=nE)) (fun _ x10 _=>n - (intOf x10).toNat)
  case atStart=>exact ⟨0,0,rfl,rfl,Nat.zero_le _,Nat.zero_le _,hid ⟨Chg.refl _ _,by rw [List.drop_zero,HL5.out,HNL.out,Nat.zero_add]⟩⟩
  case round =>
   obtain ⟨a,i,rfl,rfl,hi,ha,HA⟩:=hrel
   have i0:(0:Int)≤(i:Int):=by omega
   have a0:(0:Int)≤(a:Int):=by omega
   have a1:(a:Int)≤7:=by omega
   have q1:=HQp.out wr HA.out.1
   by_cases hlt:i < n
   ·have i1:(i:Int) < (n:Int):=by omega
    obtain ⟨e,ga,cp2,he,he1,he2,hpv,hcl⟩:=HP.out i hlt;rw [HPv2.out] at hpv
    cases hpv
    have p1:=hcl wr HA.out.1;obtain ⟨q,hq⟩:∃ y,y=TP e.1:=⟨_,rfl⟩;rw [←hq] at p1;have HQ:=hid hq;have HE:=hid he;have HE1:=hid he1
    have HDr:Hid (a + (cntD D (m.paths.drop (i + 1)) + if e.1.dropLast=D then 1 else 0)=nE):=hid (by
     rw [←cntD_cons,←drop_cons HE.out]
     exact HA.out.2)
    have HB6:Hid (cntB D e.1 L=if e.1.dropLast=D then 1 else 0):=hid (HL6.out e (List.mem_of_getElem? HE.out));have HCw:=hid HA.out.1;clear he he1 he2 hcl hq HA
    go_upto_region 11 with fail
    go_loopw [9,12] (fun x9 x12 w2=>∃ b k:Nat,x9=.int .i64 (b:Int)∧x12=.int .i64 (k:Int)∧k≤nE∧b≤nE∧Hid (Chg wb w2 No∧b + cntB D e.1 (L.drop k)=a + if e.1.dropLast=D then 1 else 0)) (fun _ x12 _=>nE - (intOf x12).toNat)
    case atStart=>exact ⟨a,0,rfl,rfl,Nat.zero_le _,ha,hid ⟨HCw.out,by rw [List.drop_zero,HB6.out]⟩⟩
    case round =>
     obtain ⟨b,k,rfl,rfl,hkE,hb,HA2⟩:=hrel
     have k0:(0:Int)≤(k:Int):=by omega
     have b0:(0:Int)≤(b:Int):=by omega
     have b1:(b:Int)≤7:=by omega
     have q8:=HV8.out wr HA2.out.1
     by_cases hkl:k < nE
     ·have k1:(k:Int) < (nE:Int):=by omega
      obtain ⟨ge,x,h8,hx,hxl,_,hxx,hce⟩:=HEc.out k hkl;subst h8;have p2:=hce wr HA2.out.1;have hB:=HBel.out x hxl wr;obtain ⟨u,hu⟩:∃ y,y=TP (D ++ [x]):=⟨_,rfl⟩;rw [←hu] at hB;have HU:=hid hu;have HX:=hid hx;have HXx:=hid hxx
      have HCb:Hid (b + (cntB D e.1 (L.drop (k + 1)) + if D ++ [x]=e.1 then 1 else 0)=a + if e.1.dropLast=D then 1 else 0):=hid (by
       rw [←cntB_cons,←drop_cons HX.out]
       exact HA2.out.2)
      have HC2:=hid HA2.out.1;clear hx hxl hxx hce hu HA2
      by_cases huq:u=q
      ·have HCn:Hid (b + 1 + cntB D e.1 (L.drop (k + 1))=a + if e.1.dropLast=D then 1 else 0):=hid (by
        have h1:=HCb.out;rw [if_pos ((TP_inj HXx.out HE1.out).1 (by rw [←HU.out,←HQ.out];exact huq))] at h1
        omega)
       have hb2:b + 1≤nE:=by
        have h1:=HCn.out;have h2:=HDr.out
        omega
       have z1:(u.toList == q.toList)=true:=by rw [huq];exact beq_self_eq_true _
       go_wp2_with (first
        | (go_at_call 37;go_must (refine hB.mono ?_;rintro e w' ⟨rfl,hw⟩;subst hw))
        | fail)
       exact ⟨⟨b + 1,k + 1,by go_num,by go_num,by omega,hb2,hid ⟨HC2.out,HCn.out⟩⟩,by simp [intOf];omega⟩
      ·have HCn:Hid (b + cntB D e.1 (L.drop (k + 1))=a + if e.1.dropLast=D then 1 else 0):=hid (by
        have h1:=HCb.out;rw [if_neg (fun e1=>huq (by rw [HU.out,HQ.out,e1]))] at h1
        omega)
       have z1:=ba_ne huq
       go_wp2_with (first
        | (go_at_call 37;go_must (refine hB.mono ?_;rintro e w' ⟨rfl,hw⟩;subst hw))
        | fail)
       exact ⟨⟨b,k + 1,rfl,by go_num,by omega,hb,hid ⟨HC2.out,HCn.out⟩⟩,by simp [intOf];omega⟩
     ·have k1 : ¬ (k:Int) < (nE:Int):=by omega
      have HCn:Hid (b + cntD D (m.paths.drop (i + 1))=nE):=hid (by
       have h1:=HA2.out.2;have h2:=HDr.out;have h3:L.drop k=[]:=List.drop_of_length_le (by rw [HNL.out];omega);rw [h3] at h1;have h4:cntB D e.1 []=0:=rfl
       omega)
      have HC2:=hid HA2.out.1;clear HA2
      go_wp2_with fail
      exact ⟨⟨b,i + 1,rfl,by go_num,by omega,hb,hid ⟨HC2.out,HCn.out⟩⟩,by simp [intOf];omega⟩
   ·have i1 : ¬ (i:Int) < (n:Int):=by omega
    have haE:a=nE:=by
     have h1:=HA.out.2;have h3:m.paths.drop i=[]:=List.drop_of_length_le (by rw [←HNn.out];omega);rw [h3] at h1
     exact h1
    rw [haE];have HCw:=hid HA.out.1;clear HA haE
    go_upto_region 16 with fail
    go_loopw [13] (fun x13 wr=>∃ k:Nat,x13=.int .i64 (k:Int)∧k≤nE∧Hid (Chg wb wr No)) (fun x13 _=>nE - (intOf x13).toNat)
    case atStart=>exact ⟨0,rfl,Nat.zero_le _,HCw⟩
    case round =>
     obtain ⟨k,rfl,hkE,HC3⟩:=hrel
     have k0:(0:Int)≤(k:Int):=by omega
     have q8:=HV8.out wr HC3.out
     by_cases hkl:k < nE
     ·have k1:(k:Int) < (nE:Int):=by omega
      obtain ⟨ge,x,h8,hx,hxl,hxn,hxx,hce⟩:=HEc.out k hkl;have HXl:=hid hxl;have HXx:=hid hxx;have HXn:Hid (¬ atL m.paths (D ++ [x]) < 0):=hid (by omega);have HCe:=hid hce
      by_cases hk0:k=0
      ·subst h8
       subst hk0;clear hx hxl hxn hxx hce
       go_upto_region 18 with fail
       clear q8;refine wp_region_noPanic ?_;refine wp_region_held_drew (S:=fun W=>Chg wb W No) (by kernel_rfl) (HC3.out.tr ((Chg.refl wr No).drew)) (fun hH => ?_);refine tV 0 91 (.pointer (some ⟨cg,0,none⟩)) rfl (by kernel_rfl) rfl (by rfl) hH (fun _ hw'=>rfl) ?_;simp only [sS];refine tV 1 92 (.string t) rfl (by kernel_rfl) rfl (by rfl) hH (fun _ hw'=>rfl) ?_;simp only [sS];refine tV 2 93 (.pointer (some ⟨g1,8,none⟩)) rfl (by kernel_rfl) rfl (by rfl) hH (fun _ hw'=>by go_simp) ?_;simp only [sS];refine tV 3 94 (.slice (some ⟨ge,0,none⟩) nE c8) rfl (by kernel_rfl) rfl (by rfl) hH (fun _ hw'=>by have hc:=HV8.out _ hw';go_simp) ?_;simp only [sS];refine tV 4 95 (.int .i64 ((0:Nat):Int)) rfl (by kernel_rfl) rfl (by rfl) hH (fun _ hw'=>rfl) ?_;simp only [sS];refine tV 5 96 (.pointer (some ⟨ge,0 * 3,none⟩)) rfl (by kernel_rfl) rfl (by rfl) hH (fun _ hw'=>by go_simp) ?_;simp only [sS];refine tV 6 97 (.pointer (some ⟨ge,0 * 3,none⟩)) rfl (by kernel_rfl) rfl (by rfl) hH (fun _ hw'=>by go_simp) ?_;simp only [sS];refine tV 7 98 (.string x) rfl (by kernel_rfl) rfl (by rfl) hH (fun _ hw'=>by have hc:=HCe.out _ hw';go_simp) ?_;simp only [sS];refine step1 8 (by kernel_rfl) ?_;refine stCall 8 99 37 #[.string t,.string x] _ rfl rfl (by rfl) (by go_simp) (HBel.out x HXl.out _) ?_
       rintro e2 wg ⟨rfl,rfl⟩
       refine ⟨_,rfl,hH,?_⟩;simp only [sS];refine step1 9 (by kernel_rfl) ?_;refine stCall 9 100 28 #[.pointer (some ⟨cg,0,none⟩),.string (TP (D ++ [x]))] _ rfl rfl (by rfl) (by go_simp) (by rw [HCg.out];exact mo_at _ (HM.out _ hH) HK.out HXx.out) ?_
       rintro e2 wg ⟨rfl,rfl⟩
       refine ⟨_,rfl,hH,?_⟩;simp only [sS];refine tV 10 101 (.bool false) rfl (by kernel_rfl) rfl (by rfl) hH (fun _ hw'=>by have h9:=HXn.out;go_simp) ?_;simp only [sS];refine tV 11 102 (.bool false) rfl (by kernel_rfl) rfl (by rfl) hH (fun _ hw'=>rfl) ?_;simp only [sS];refine tV 12 103 (.int .i64 ((0:Nat):Int)) rfl (by kernel_rfl) rfl (by rfl) hH (fun _ hw'=>rfl) ?_;simp only [sS]
       refine tV 13 104 (.bool false) rfl (by kernel_rfl) rfl (by rfl) hH (fun _ hw'=>by go_simp <;> omega) ?_
       simp only [sS];refine tV 14 105 (.bool false) rfl (by kernel_rfl) rfl (by rfl) hH (fun _ hw'=>rfl) ?_;simp only [sS];refine takeNot 15 106 rfl (by kernel_rfl) (by kernel_rfl) (by kernel_rfl) rfl (by rfl) (fun _ _ _ h=>h) hH ?_;simp only [sS];refine takeNot 16 107 rfl (by kernel_rfl) (by kernel_rfl) (by kernel_rfl) rfl (by rfl) (fun _ _ _ h=>h) hH ?_;simp only [sS];refine takeNot 17 108 rfl (by kernel_rfl) (by kernel_rfl) (by kernel_rfl) rfl (by rfl) (fun _ _ _ h=>h) hH ?_;simp only [sS];refine takeNot 18 109 rfl (by kernel_rfl) (by kernel_rfl) (by kernel_rfl) rfl (by rfl) (fun _ _ _ h=>h) hH ?_;simp only [sS];refine takeNot 19 110 rfl (by kernel_rfl) (by kernel_rfl) (by kernel_rfl) rfl (by rfl) (fun _ _ _ h=>h) hH ?_;simp only [sS];refine takeNot 20 111 rfl (by kernel_rfl) (by kernel_rfl) (by kernel_rfl) rfl (by rfl) (fun _ _ _ h=>h) hH ?_;simp only [sS];refine takeNot 21 112 rfl (by kernel_rfl) (by kernel_rfl) (by kernel_rfl) rfl (by rfl) (fun _ _ _ h=>h) hH ?_;simp only [sS];refine takeNot 22 113 rfl (by kernel_rfl) (by kernel_rfl) (by kernel_rfl) rfl (by rfl) (fun _ _ _ h=>h) hH ?_;simp only [sS];refine takeNot 23 114 rfl (by kernel_rfl) (by kernel_rfl) (by kernel_rfl) rfl (by rfl) (fun _ _ _ h=>h) hH ?_;simp only [sS];refine takeNot 24 115 rfl (by kernel_rfl) (by kernel_rfl) (by kernel_rfl) rfl (by rfl) (fun _ _ _ h=>h) hH ?_;simp only [sS];refine takeNot 25 116 rfl (by kernel_rfl) (by kernel_rfl) (by kernel_rfl) rfl (by rfl) (fun _ _ _ h=>h) hH ?_;simp only [sS];refine takeNot 26 117 rfl (by kernel_rfl) (by kernel_rfl) (by kernel_rfl) rfl (by rfl) (fun _ _ _ h=>h) hH ?_;simp only [sS];refine takeNot 27 118 rfl (by kernel_rfl) (by kernel_rfl) (by kernel_rfl) rfl (by rfl) (fun _ _ _ h=>h) hH ?_;simp only [sS];refine takeNot 28 119 rfl (by kernel_rfl) (by kernel_rfl) (by kernel_rfl) rfl (by rfl) (fun _ _ _ h=>h) hH ?_;simp only [sS];refine tV 29 120 (.bool false) rfl (by kernel_rfl) rfl (by rfl) hH (fun _ hw'=>rfl) ?_;simp only [sS];refine tV 30 121 (.bool false) rfl (by kernel_rfl) rfl (by rfl) hH (fun _ hw'=>rfl) ?_;simp only [sS];refine wpAnyH_done (by kernel_rfl) ?_ _;refine NoPanic.normal ?_;have HCn:=hid hH;clear hH
       go_wp2_with fail
       exact ⟨⟨0 + 1,by go_num,by omega,HCn⟩,by simp [intOf];omega⟩
      ·obtain ⟨j,hj⟩:∃ j,k=j + 1:=⟨k - 1,by omega⟩
       obtain ⟨ge',y,h8',hy,hyl,_,_,hcf⟩:=HEc.out j (by omega);rw [h8] at h8'
       cases h8'
       have HLe:Hid ((Op.bytesLess x.toList y.toList || x.toList == y.toList)=false):=hid (by
        refine before_no hyl hxl ?_;have h5:=HL4.out;rw [List.pairwise_iff_getElem] at h5
        have hjl:j < (L.map (·.data.toList)).length:=by rw [List.length_map,HNL.out];omega
        have hkl2:k < (L.map (·.data.toList)).length:=by rw [List.length_map,HNL.out];omega
        have h6:=h5 j k hjl hkl2 (by omega);rw [List.getElem_map,List.getElem_map] at h6;have e1:L[j]'(by rw [HNL.out];omega)=y:=Option.some.inj ((List.getElem?_eq_getElem _).symm.trans hy);have e2:L[k]'(by rw [HNL.out];omega)=x:=Option.some.inj ((List.getElem?_eq_getElem _).symm.trans hx);rw [e1,e2] at h6
        exact h6)
       have HCf:=hid hcf;have HKj:Hid ((k:Int)=(j:Int) + 1):=hid (by omega)
       have j0:(0:Int)≤(j:Int):=by omega
       have j1:(j:Int) < (nE:Int):=by omega
       have kp:(0:Int) < (k:Int):=by omega
       have wv:IntKind.i64.wrap ((k:Int) - 1)=(j:Int):=by rw [IntKind.wrap_i64];omega
       subst h8;clear hx hxl hxn hxx hce hy hyl hcf hj
       go_upto_region 18 with fail
       clear q8;refine wp_region_noPanic ?_;refine wp_region_held_drew (S:=fun W=>Chg wb W No) (by kernel_rfl) (HC3.out.tr ((Chg.refl wr No).drew)) (fun hH => ?_);refine tV 0 91 (.pointer (some ⟨cg,0,none⟩)) rfl (by kernel_rfl) rfl (by rfl) hH (fun _ hw'=>rfl) ?_;simp only [sS];refine tV 1 92 (.string t) rfl (by kernel_rfl) rfl (by rfl) hH (fun _ hw'=>rfl) ?_;simp only [sS];refine tV 2 93 (.pointer (some ⟨g1,8,none⟩)) rfl (by kernel_rfl) rfl (by rfl) hH (fun _ hw'=>by go_simp) ?_;simp only [sS];refine tV 3 94 (.slice (some ⟨ge,0,none⟩) nE c8) rfl (by kernel_rfl) rfl (by rfl) hH (fun _ hw'=>by have hc:=HV8.out _ hw';go_simp) ?_;simp only [sS];refine tV 4 95 (.int .i64 (k:Int)) rfl (by kernel_rfl) rfl (by rfl) hH (fun _ hw'=>rfl) ?_;simp only [sS];refine tV 5 96 (.pointer (some ⟨ge,k * 3,none⟩)) rfl (by kernel_rfl) rfl (by rfl) hH (fun _ hw'=>by go_simp) ?_;simp only [sS];refine tV 6 97 (.pointer (some ⟨ge,k * 3,none⟩)) rfl (by kernel_rfl) rfl (by rfl) hH (fun _ hw'=>by go_simp) ?_;simp only [sS];refine tV 7 98 (.string x) rfl (by kernel_rfl) rfl (by rfl) hH (fun _ hw'=>by have hc:=HCe.out _ hw';go_simp) ?_;simp only [sS];refine step1 8 (by kernel_rfl) ?_;refine stCall 8 99 37 #[.string t,.string x] _ rfl rfl (by rfl) (by go_simp) (HBel.out x HXl.out _) ?_
       rintro e2 wg ⟨rfl,rfl⟩
       refine ⟨_,rfl,hH,?_⟩;simp only [sS];refine step1 9 (by kernel_rfl) ?_;refine stCall 9 100 28 #[.pointer (some ⟨cg,0,none⟩),.string (TP (D ++ [x]))] _ rfl rfl (by rfl) (by go_simp) (by rw [HCg.out];exact mo_at _ (HM.out _ hH) HK.out HXx.out) ?_
       rintro e2 wg ⟨rfl,rfl⟩
       refine ⟨_,rfl,hH,?_⟩;simp only [sS];refine tV 10 101 (.bool false) rfl (by kernel_rfl) rfl (by rfl) hH (fun _ hw'=>by have h9:=HXn.out;go_simp) ?_;simp only [sS];refine tV 11 102 (.bool false) rfl (by kernel_rfl) rfl (by rfl) hH (fun _ hw'=>rfl) ?_;simp only [sS];refine tV 12 103 (.int .i64 (k:Int)) rfl (by kernel_rfl) rfl (by rfl) hH (fun _ hw'=>rfl) ?_;simp only [sS]
       refine tV 13 104 (.bool true) rfl (by kernel_rfl) rfl (by rfl) hH (fun _ hw'=>by go_simp <;> omega) ?_
       simp only [sS];refine tV 14 105 (.bool true) rfl (by kernel_rfl) rfl (by rfl) hH (fun _ hw'=>rfl) ?_;simp only [sS];refine tV 15 106 (.pointer (some ⟨g1,8,none⟩)) rfl (by kernel_rfl) rfl (by rfl) hH (fun _ hw'=>by go_simp) ?_;simp only [sS];refine tV 16 107 (.slice (some ⟨ge,0,none⟩) nE c8) rfl (by kernel_rfl) rfl (by rfl) hH (fun _ hw'=>by have hc:=HV8.out _ hw';go_simp) ?_;simp only [sS];refine tV 17 108 (.int .i64 (k:Int)) rfl (by kernel_rfl) rfl (by rfl) hH (fun _ hw'=>rfl) ?_;simp only [sS];refine tV 18 109 (.pointer (some ⟨ge,k * 3,none⟩)) rfl (by kernel_rfl) rfl (by rfl) hH (fun _ hw'=>by go_simp) ?_;simp only [sS];refine tV 19 110 (.pointer (some ⟨ge,k * 3,none⟩)) rfl (by kernel_rfl) rfl (by rfl) hH (fun _ hw'=>by go_simp) ?_;simp only [sS];refine tV 20 111 (.string x) rfl (by kernel_rfl) rfl (by rfl) hH (fun _ hw'=>by have hc:=HCe.out _ hw';go_simp) ?_;simp only [sS];refine tV 21 112 (.pointer (some ⟨g1,8,none⟩)) rfl (by kernel_rfl) rfl (by rfl) hH (fun _ hw'=>by go_simp) ?_;simp only [sS];refine tV 22 113 (.slice (some ⟨ge,0,none⟩) nE c8) rfl (by kernel_rfl) rfl (by rfl) hH (fun _ hw'=>by have hc:=HV8.out _ hw';go_simp) ?_;simp only [sS];refine tV 23 114 (.int .i64 (k:Int)) rfl (by kernel_rfl) rfl (by rfl) hH (fun _ hw'=>rfl) ?_;simp only [sS];refine tV 24 115 (.int .i64 (j:Int)) rfl (by kernel_rfl) rfl (by rfl) hH (fun _ hw'=>by go_simp) ?_;simp only [sS];refine tV 25 116 (.pointer (some ⟨ge,j * 3,none⟩)) rfl (by kernel_rfl) rfl (by rfl) hH (fun _ hw'=>by go_simp) ?_;simp only [sS];refine tV 26 117 (.pointer (some ⟨ge,j * 3,none⟩)) rfl (by kernel_rfl) rfl (by rfl) hH (fun _ hw'=>by go_simp) ?_;simp only [sS];refine tV 27 118 (.string y) rfl (by kernel_rfl) rfl (by rfl) hH (fun _ hw'=>by have hc:=HCf.out _ hw';go_simp) ?_;simp only [sS];refine tV 28 119 (.bool false) rfl (by kernel_rfl) rfl (by rfl) hH (fun _ hw'=>by have h9:=HLe.out;go_simp) ?_;simp only [sS];refine tV 29 120 (.bool false) rfl (by kernel_rfl) rfl (by rfl) hH (fun _ hw'=>rfl) ?_;simp only [sS];refine tV 30 121 (.bool false) rfl (by kernel_rfl) rfl (by rfl) hH (fun _ hw'=>rfl) ?_;simp only [sS];refine wpAnyH_done (by kernel_rfl) ?_ _;refine NoPanic.normal ?_;have HCn:=hid hH;clear hH
       go_wp2_with fail
       exact ⟨⟨k + 1,by go_num,by omega,HCn⟩,by simp [intOf];omega⟩
     ·have k1 : ¬ (k:Int) < (nE:Int):=by omega
      go_upto_region 22 with fail
      clear q8
      go_loopw [14,15] (fun x14 x15 wr=>∃ a i:Nat,x14=.int .i64 (a:Int)∧x15=.int .i64 (i:Int)∧i≤n∧a≤nE∧Hid (Chg wb wr No∧a + cntD D (m.paths.drop i)=nE)) (fun _ x15 _=>n - (intOf x15).toNat)
      case atStart=>exact ⟨0,0,rfl,rfl,Nat.zero_le _,Nat.zero_le _,hid ⟨HC3.out,by rw [List.drop_zero,HL5.out,HNL.out,Nat.zero_add]⟩⟩
      case round =>
       obtain ⟨a,i,rfl,rfl,hi,ha,HA⟩:=hrel
       have i0:(0:Int)≤(i:Int):=by omega
       have a0:(0:Int)≤(a:Int):=by omega
       have a1:(a:Int)≤7:=by omega
       have q1:=HQp.out wr HA.out.1
       by_cases hlt:i < n
       ·have i1:(i:Int) < (n:Int):=by omega
        obtain ⟨e,ga,cp2,he,he1,he2,hpv,hcl⟩:=HP.out i hlt;rw [HPv2.out] at hpv
        cases hpv
        have p1:=hcl wr HA.out.1;obtain ⟨kk,k1',k2',k3',k4',k5',k6'⟩:=TP_last he1 he2;obtain ⟨q,hq⟩:∃ y,y=TP e.1:=⟨_,rfl⟩;rw [←hq] at p1 k3' k4' k5' k6'
        have HDr:Hid (a + (cntD D (m.paths.drop (i + 1)) + if e.1.dropLast=D then 1 else 0)=nE):=hid (by
         rw [←cntD_cons,←drop_cons he]
         exact HA.out.2)
        have HCw2:=hid HA.out.1;have HK1:=hid k1';have HK6:=hid k6';have HE1:=hid he1;have HE2:=hid he2;have hb:=get_bt q
        have zk:(kk:Int)≤99:=by omega
        obtain ⟨z,hz⟩:∃ z,z=2 * kk:=⟨_,rfl⟩;rw [←hz] at k3' k4' k5';have HZ:=hid hz
        have zb:(z:Int)≤198:=by omega
        have z1:(bt q z != 47)=false:=by rw [k4'];rfl
        have z2:(bt q (z + 1) != 47)=true:=by simp [k5']
        clear he he1 he2 hcl hq HA k1' k2' k6' k4' k5' hz
        go_upto_region 26 with fail
        go_loopw [17] (fun x17 w2=>∃ j:Nat,x17=.int .i64 (j:Int)∧(j=z + 1∨j=z)∧Hid (Chg wb w2 No)) (fun x17 _=>(intOf x17).toNat)
        case atStart=>exact ⟨z + 1,by congr 1;omega,.inl rfl,HCw2⟩
        case round =>
         obtain ⟨j,rfl,hj,HC5⟩:=hrel
         rcases hj with rfl | rfl
         ·go_wp2_with fail
          exact ⟨⟨z,rfl,.inr rfl,HC5⟩,by simp [intOf]⟩
         ·by_cases hkk:kk=0
          ·have z3:(j:Int)=0:=by have:=HZ.out;omega
           have z4:((j:Int) == 0)=true:=beq_iff_eq.2 z3
           have z5 : ¬ (0:Int) < (j:Int):=by omega
           have HDl:Hid (e.1.dropLast=[]):=hid (List.length_eq_zero_iff.1 (by rw [List.length_dropLast,HK1.out,hkk]));clear z3
           by_cases hDn:D=[]
           ·have z6':t.toList=[47]:=by rw [HT.out,hDn];kernel_rfl
            have z6:(t.toList == [47])=true:=by rw [z6'];rfl
            have HDn2:Hid (a + 1 + cntD D (m.paths.drop (i + 1))=nE):=hid (by
             have h1:=HDr.out;rw [if_pos (by rw [HDl.out,hDn])] at h1
             omega)
            have hb2:a + 1≤nE:=by have h1:=HDn2.out;omega
            go_wp2_with fail
            exact ⟨⟨a + 1,i + 1,by go_num,by go_num,by omega,hb2,hid ⟨HC5.out,HDn2.out⟩⟩,by simp [intOf];omega⟩
           ·have z6' : ¬ t.toList=[47]:=fun e9=>HDn.out hDn (data_inj (by rw [←tl,e9]))
            have z6:(t.toList == [47])=false:=beq_eq_false_iff_ne.2 z6'
            have HDn2:Hid (a + cntD D (m.paths.drop (i + 1))=nE):=hid (by
             have h1:=HDr.out;rw [if_neg (by rw [HDl.out];exact fun c=>hDn c.symm)] at h1
             omega)
            go_wp2_with fail
            exact ⟨⟨a,i + 1,rfl,by go_num,by omega,ha,hid ⟨HC5.out,HDn2.out⟩⟩,by simp [intOf];omega⟩
          ·have z3 : ¬ (j:Int)=0:=by have:=HZ.out;omega
           have z4:((j:Int) == 0)=false:=beq_eq_false_iff_ne.2 z3
           have z5:(0:Int) < (j:Int):=by omega
           obtain ⟨hx1,hx2⟩:=HK6.out hkk;rw [←HZ.out] at hx1;clear z3;obtain ⟨f,hf⟩:∃ y,y=q.extract 0 j:=⟨_,rfl⟩;have HF:=hid (hf.trans hx1)
           by_cases hft:f=t
           ·have HDn2:Hid (a + 1 + cntD D (m.paths.drop (i + 1))=nE):=hid (by
             have h1:=HDr.out;rw [if_pos ((TP_inj HE1.out.init HLD.out).1 (by rw [←HF.out,←HT.out];exact hft))] at h1
             omega)
            have hb2:a + 1≤nE:=by have h1:=HDn2.out;omega
            have z6:((q.extract 0 j).toList == t.toList)=true:=by rw [←hf,hft];exact beq_self_eq_true _
            clear hf hx1 hx2 hft
            go_wp2_with fail
            exact ⟨⟨a + 1,i + 1,by go_num,by go_num,by omega,hb2,hid ⟨HC5.out,HDn2.out⟩⟩,by simp [intOf];omega⟩
           ·have HDn2:Hid (a + cntD D (m.paths.drop (i + 1))=nE):=hid (by
             have h1:=HDr.out;rw [if_neg (fun c=>hft (by rw [HF.out,HT.out,c]))] at h1
             omega)
            have z6:((q.extract 0 j).toList == t.toList)=false:=by rw [←hf];exact ba_ne hft
            clear hf hx1 hx2 hft
            go_wp2_with fail
            exact ⟨⟨a,i + 1,rfl,by go_num,by omega,ha,hid ⟨HC5.out,HDn2.out⟩⟩,by simp [intOf];omega⟩
       ·have i1 : ¬ (i:Int) < (n:Int):=by omega
        have haE:a=nE:=by
         have h1:=HA.out.2;have h3:m.paths.drop i=[]:=List.drop_of_length_le (by rw [←HNn.out];omega);rw [h3] at h1
         exact h1
        have q8:=HV8.out wr HA.out.1;have z9:((nE:Int) == (nE:Int))=true:=beq_self_eq_true _;have HCf:Hid (Chg w wr No):=hid (HC1.out.tr HA.out.1);rw [haE];clear haE HA
        go_wp2_with fail
        go_ret
        exact ⟨rfl,HCf.out⟩
 ·have z0:(ca != 0)=true:=by simp [hc0]
  have hA:=mo_at (ls:=D) wb (HM.out wb (Chg.refl _ _)) HK.out HLD.out;have hTh:=mo_thing (id:=atL m.paths D) wb (HM.out wb (Chg.refl _ _)) HK.out;obtain ⟨id,hid1⟩:∃ y,y=atL m.paths D:=⟨_,rfl⟩;rw [←hid1] at hA hTh;obtain ⟨ix,hix⟩:∃ y,y=thK m.things id 0:=⟨_,rfl⟩;rw [←hix] at hTh;rw [←HT.out,←HCg.out] at hA;rw [←HCg.out] at hTh
  have HOr:Hid (ix < 0∨∃ (k:Nat) (th:Th),ix=(k:Int)∧m.things[k]? = some th∧th.dir=false∧ca=113):=hid (by
   rcases HLs.out with ⟨_,_,e⟩ | ⟨L,e,_⟩
   ·rw [hix,hid1]
    rcases e with ⟨_,e⟩ | ⟨th,k,_,e1,e2,e3,e4⟩
    ·exact .inl e
    ·exact .inr ⟨k,th,e1,e2,e3,e4⟩
   ·exact absurd e hc0)
  have HCw:Hid (Chg w wb No):=HC1;clear hid1 hix
  rcases HOr.out with hix | ⟨k,th,hix,hth,hdr,h113⟩
  ·clear HOr
   go_wp2_with (first
    | (go_at_call 28;go_must (refine hA.mono ?_;rintro e w' ⟨rfl,hw⟩;subst hw))
    | (go_at_call 29;go_must (refine hTh.mono ?_;rintro e w' ⟨rfl,hw⟩;subst hw))
    | fail)
   go_ret
   exact ⟨rfl,HCw.out⟩
  ·obtain ⟨ga,cp2,bb,h1,_,_,_,_,_,p1,_⟩:=(HM.out wb (Chg.refl _ _)).thing hth
   have q9:=(HM.out wb (Chg.refl _ _)).cells.1;rw [h1,←HCg.out] at q9;rw [hdr] at p1
   have k0:(0:Int)≤(k:Int):=by omega
   have i1:k < m.things.length:=(List.getElem?_eq_some_iff.1 hth).1
   have k1:(k:Int) < (m.things.length:Int):=by omega
   have z113:(ca == 113)=true:=by rw [h113];rfl
   have hk0 : ¬ (k:Int) < 0:=by omega
   subst hix;clear HOr hth hdr h113 h1 hc0
   go_wp2_with (first
    | (go_at_call 28;go_must (refine hA.mono ?_;rintro e w' ⟨rfl,hw⟩;subst hw))
    | (go_at_call 29;go_must (refine hTh.mono ?_;rintro e w' ⟨rfl,hw⟩;subst hw))
    | fail)
   go_ret
   exact ⟨rfl,HCw.out⟩
end Go.Proofs.YtmgfilacepnjlaaGreatDoor
