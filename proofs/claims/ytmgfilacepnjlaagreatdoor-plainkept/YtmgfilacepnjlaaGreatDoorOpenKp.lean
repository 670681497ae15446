/-
 PlainKept, as it is handed in.
-/
import Derived.Test.YtmgfilacepnjlaaGreatDoorYP
import Derived.Test.YtmgfilacepnjlaaGreatDoorYT
import Derived.ProofKit
import Derived.OpenShut
import Derived.ChangeOld
import Derived.Lib.SmallJoins
import Derived.SizedLaws
import Derived.ChangeMaps5
import Derived.Carry
import Derived.LaidMore
import Derived.Stop.Joined
namespace Go.Proofs.YtmgfilacepnjlaaGreatDoor
open Go.RowKit

theorem IsMo.kt2 {w w':World} {B:Nat} {c:MC} {m:Mo} (h:IsMo w B c m) (hk:KT w w'):IsMo w' B c m:=by
 have hr:∀ (g:Nat) (A:Array Value) (T:TypeId),MT4 T→w.heap[g]? = some (.cells A T (0,0))→w'.heap[g]? = some (.cells A T (0,0)):=fun g A T hT hg=>hk g A T (by rcases hT with rfl | rfl | rfl | rfl <;> exact ⟨by decide,by decide,by decide⟩) hg
 refine ⟨h.gB,hr _ _ _ (.inl rfl) h.me,h.bn,row_keep h.th fun g A=>hr g A _ (.inr (.inl rfl)),row_keep h.pa fun g A=>hr g A _ (.inr (.inr (.inl rfl))),fun x hx => ?_⟩;obtain ⟨h1,h2,h3⟩:=h.bt x hx;refine ⟨?_,h2,fun g o e=>by obtain ⟨A,hA⟩:=h3 g o e;exact ⟨A,hr g A _ (.inr (.inr (.inr rfl))) hA⟩⟩
 rcases h1 with e | ⟨g,o,e,hb,h⟩
 ·exact .inl e
 ·obtain ⟨A,hA⟩:=h3 g o e
  have hA2:=hr g A _ (.inr (.inr (.inr rfl))) hA;refine .inr ⟨g,o,e,(Array.getElem?_eq_some_iff.1 hA2).1,fun j hj => ?_⟩;have:=h j hj;rw [cell_of_row _ _ _ _ _ _ hA] at this;rw [cell_of_row _ _ _ _ _ _ hA2]
  exact this
theorem BytesAt.take {w:World} {a:Option Addr} {l:List Int} (h:BytesAt w a l) (k:Nat):BytesAt w a (l.take k):=by
 rcases h with e | ⟨b,o,e,hb,h⟩
 ·exact .inl (by rw [e,List.take_nil])
 ·refine .inr ⟨b,o,e,hb,fun j hj => ?_⟩
  rw [List.length_take] at hj;rw [h j (by omega),List.getD_eq_getElem?_getD,List.getD_eq_getElem?_getD,List.getElem?_take,if_pos (by omega)]
def Kp (w wr:World) (p cg i:Nat):Prop:=∃ s m c,NowS w wr p s∧IsMo wr w.heap.size c m∧c.g=cg∧Rel m s∧m.things.length≤i
open Classical in
set_option maxHeartbeats 8000000 in
set_option maxRecDepth 100000 in
theorem kept_walk (n:Int) (L:List Dd) (a:Option Addr) (ca:Nat) (w:World) (hu:UB w) (hm:ML w) (hn:I64 n) (hL:DdAt w a L) (hLo:∀ x∈L,x.Ok) (hl:L.length≤2199023255552) :
  Calls Tryz.prog 3 #[.int .i64 n,.slice a L.length ca] w fun e w'=>e=.returned (.bool true)∧Chg w w' No:=by
 have hS:=small2_any n w hn;have HKn:Hid (∀ W,Chg w W No→Calls Tryz.prog 7 #[] W fun e w'=>e=.returned (.bool true)∧Chg W w' No):=hid (fun W hW=>known_any W (hu.keep hW (fun e=>e)) (hm.call hW));have HU:=hid hu;have HM:=hid hm;have HL:=hid hL;have HLo:=hid hLo;obtain ⟨nl,hnl⟩:∃ y,y=L.length:=⟨_,rfl⟩;rw [←hnl] at hl ⊢;have HNl:=hid hnl
 have i1:(nl:Int)≤2199023255552:=by omega
 have HNb:Hid (nl≤2199023255552):=hid hl;obtain ⟨S0,hS0⟩:∃ y,y=newS (smS n) (smI n):=⟨_,rfl⟩;rw [←hS0] at hS;have HR0:Hid (Rel ⟨[],[],0⟩ S0):=hid (by rw [hS0];exact rel_new n);obtain ⟨I,hI⟩:∃ y,y=smI n:=⟨_,rfl⟩;obtain ⟨D,hD⟩:∃ y,y=smS n - 1 - smI n:=⟨_,rfl⟩;rw [←hD,←hI] at hS;clear hu hm hn hL hLo hnl hl hI hD hS0
 go_enter Tryz.func3,Tryz.ntmps3
 go_upto_region 2 with (go_at_call 6;go_must (refine hS.mono ?_;rintro e w1 ⟨p,rfl,hN1⟩;have HN1:=hid hN1;clear hN1))
 clear hS;have hK:=HKn.out w1 HN1.out.chg
 go_upto_region 4 with (first
  | (go_at_call 7;go_must (refine hK.mono ?_;rintro e w2 ⟨rfl,hc2⟩;have HC2:=hid hc2;clear hc2))
  | fail)
 clear hK;have HN2:=hid (HN1.out.call HC2.out);have HM0:Hid (IsMo (w2.alloc (.cells #[.slice none 0 0,.slice none 0 0,.int .i64 0] 31)) w.heap.size ⟨w2.heap.size,.slice none 0 0,.slice none 0 0,[]⟩ ⟨[],[],0⟩):=hid ⟨HN2.out.chg.size,heap_alloc_new _ _,rfl,World.ownsRow_nil _ _ _ _,World.ownsRow_nil _ _ _ _,fun x hx=>by cases hx⟩;obtain ⟨cg,hcg⟩:∃ y,y=w2.heap.size:=⟨_,rfl⟩;have H0:Hid (Kp w (w2.alloc (.cells #[.slice none 0 0,.slice none 0 0,.int .i64 0] 31)) p cg 0):=hid ⟨S0,_,_,HN2.out.call (Chg.alloc w2 _ No),HM0.out,hcg.symm,HR0.out,Nat.le_refl _⟩
 go_upto_region 6 with fail
 rw [←hcg];clear HN1 HC2 HKn HN2 HM0 HR0 hcg
 go_loopw [9] (fun x9 wr=>∃ i:Nat,x9=.int .i64 (i:Int)∧i≤nl∧Hid (Kp w wr p cg i)) (fun x9 _=>nl - (intOf x9).toNat)
 case atStart=>exact ⟨0,rfl,Nat.zero_le _,H0⟩
 case round =>
  obtain ⟨i,rfl,hi,HN⟩:=hrel;clear H0
  by_cases hlt:i < nl
  ·have j0:(0:Int)≤(i:Int):=by omega
   have j1:(i:Int) < (nl:Int):=by omega
   have hiL:i < L.length:=by rw [←HNl.out];exact hlt
   obtain ⟨bb,oo,hab,hld⟩:=DdAt.load HL.out hiL;subst hab;obtain ⟨s,m,c,e1,e2,e3,e4,e5⟩:=HN.out;have hr:=hld wr e1.chg
   have hmem:L.getD i Dd.z∈L:=by rw [List.getD_eq_getElem?_getD,List.getElem?_eq_getElem hiL];exact List.getElem_mem hiL
   have hxo:=HLo.out _ hmem;have hby:=HL.out.data i hiL;obtain ⟨y,hy⟩:∃ y,y=L.getD i Dd.z:=⟨_,rfl⟩;rw [←hy] at hr hxo hby
   have hOp:Calls Tryz.prog 8 #[.agg y.A] wr fun e w'=>∃ A,e=.returned (.agg A)∧OpOf y.da y.data.length y.dc A∧Chg wr w' No:=op_any y.kd y.a y.b y.off y.n y.da y.data.length y.dc wr hxo.i1 hxo.i2 hxo.i3 hxo.i4 hxo.i5 hxo.len hxo.cap hxo.nil
   have HY:=hid (And.intro hxo hby);have HE:=hid e1;have HMo:=hid e2;have HCg:=hid e3;have HR:=hid e4;have HLn:=hid e5;obtain ⟨YA,hYA⟩:∃ z,z=y.A:=⟨_,rfl⟩;rw [←hYA] at hr hOp;clear hld e1 e2 e3 e4 e5 hmem hxo hby hy hiL hYA HN
   go_upto_region 9 with (first
    | (refine load_of rfl 36 _ rfl ⟨bb,oo + i * 6,none⟩ rfl _ hr ?_)
    | (go_at_call 8;go_must (refine hOp.mono ?_;rintro e w3 ⟨A,rfl,hA,hc3⟩;obtain ⟨o,hO⟩:=deed_op HY.out.1 hA;have HO:=hid hO;obtain ⟨da,dc,hAe,hdt⟩:=hO.ex;have HAe:=hid hAe;have HDt:=hid hdt;have HC3:=hid hc3;clear hA hc3 hO hAe hdt))
    | (refine store_R rfl 34 _ _ rfl w3.heap.size A rfl rfl 34 _ (heap_alloc_new _ _) (by rw [szOp,HAe.out];rfl) (by rw [HAe.out];rfl) (by rw [HAe.out];simp [opA,Value.oneCell']) ?_;intro w4 hs4;have HS4:=hid hs4;clear hs4)
    | fail)
   obtain ⟨g9,hg9⟩:∃ y,y=w3.heap.size:=⟨_,rfl⟩;have HC4:Hid (Chg wr w4 No):=hid (HC3.out.tr ((Chg.alloc w3 _ No).trans (kt_new HS4.out) (fun _ _ e=>e) (fun j hj e=>by omega)));rw [←hg9] at HS4 ⊢;clear hg9;have HN4:=hid (HE.out.call HC4.out);have HM4:=hid (HMo.out.call HC4.out);have HQ4:Hid (w4.heap[g9]? = some (Obj.cells A 34 (0,0))):=hid HS4.out.here;clear hr hOp HC3 HC4 HS4 HE HMo
   have hlA:(loadVar 34 ⟨g9,0,none⟩).run Tryz.prog w4=.ok (.agg A) w4:=by
    have h:=run_loadVar_mid (P:=Tryz.prog) w4 g9 0 34 A.toList _ (fun j v hv=>by rw [cell_of_row _ _ _ _ _ _ HQ4.out,Nat.zero_add];simpa using hv) Tryz.underlying34 rfl (by rw [Array.length_toList,HAe.out];exact szOp)
    simpa using h
   have hDo:=HN4.out.doO HO.out HY.out.1 HY.out.2 HU.out HM.out
   go_upto_region 10 with (first
    | (refine load_of rfl 34 _ rfl ⟨g9,0,none⟩ rfl _ hlA ?_)
    | (go_at_call 9;go_must (refine hDo.mono ?_;rintro e w8 ⟨A2,rfl,hA2,hN8,hk8⟩;have HA2:=hid hA2;have HO2:=hid hA2.one;have HN8:=hid hN8;have HM8:=hid (HM4.out.kt2 hk8);have HQ8:Hid (w8.heap[g9]? = some (Obj.cells A 34 (0,0))):=hid (hk8.op _ _ HQ4.out);clear hA2 hN8 hk8))
    | (refine store_R rfl 43 _ _ rfl w8.heap.size A2 rfl rfl 43 _ (heap_alloc_new _ _) (by rw [szAn,HO2.out.1]) (by rw [HO2.out.1];rfl) HO2.out.2 ?_;intro w9 hs9;have HS9:=hid hs9;clear hs9)
    | fail)
   obtain ⟨g12,hg12⟩:∃ y,y=w8.heap.size:=⟨_,rfl⟩;have HC89:Hid (Chg w8 w9 No):=hid ((Chg.alloc w8 _ No).trans (kt_new HS9.out) (fun _ _ e=>e) (fun j hj e=>by omega));rw [←hg12] at HS9 ⊢;clear hg12 hlA hDo HN4 HM4 HQ4;have HQ12:Hid (∀ W,Chg w9 W No→W.cell? ⟨g12,0,none⟩=some (.int .i64 (codeA (doS s o).2))):=hid (fun W hW=>by rw [cell_of_row _ _ _ _ _ _ (hW.keep HS9.out.here (fun e=>e))];exact HA2.out.code.1);have HQo:Hid (∀ W,Chg w9 W No→W.heap[g9]? = some (Obj.cells A 34 (0,0))):=hid (fun W hW=>hW.keep (HC89.out.keep HQ8.out (fun e=>e)) (fun e=>e))
   have HLa:Hid (∀ W,Chg w9 W No→(loadVar 34 ⟨g9,0,none⟩).run Tryz.prog W=.ok (.agg A) W):=hid (fun W hW=>by
    have h:=run_loadVar_mid (P:=Tryz.prog) W g9 0 34 A.toList _ (fun j v hv=>by rw [cell_of_row _ _ _ _ _ _ (HQo.out W hW),Nat.zero_add];simpa using hv) Tryz.underlying34 rfl (by rw [Array.length_toList,HAe.out];exact szOp)
    simpa using h)
   have HN9:Hid (∀ W,Chg w9 W No→NowS w W p (doS s o).1):=hid (fun W hW=>HN8.out.call (HC89.out.tr hW));have HM9:Hid (∀ W,Chg w9 W No→IsMo W w.heap.size c m):=hid (fun W hW=>HM8.out.call (HC89.out.tr hW));have HDp:=hid HO.out.dp;have HMk:Hid (MoOk m):=hid (HR.out.moOk (by have:=HLn.out;have:=HNb.out;omega))
   have HTp:Hid (LL (namesOf o.path)∧o.path=TP (namesOf o.path)∧((o.kind=3∨o.kind=6)→LL (namesOf o.tto)∧o.tto=TP (namesOf o.tto))):=hid (by
    have hp:=text_path HO.out.is_.1;refine ⟨hp.1,hp.2.2,fun hk => ?_⟩
    have ht:o.tto∈textL:=by
     rcases HO.out.is_.2 with c | c | c | c | c
     ·omega
     ·exact c.2.1
     ·omega
     ·omega
     ·omega
    have hq:=text_path ht
    exact ⟨hq.1,hq.2.2⟩)
   obtain ⟨ls,hls⟩:∃ y,y=namesOf o.path:=⟨_,rfl⟩;obtain ⟨ts,hts⟩:∃ y,y=namesOf o.tto:=⟨_,rfl⟩;rw [←hls,←hts] at HDp HTp;obtain ⟨fb,hfb⟩:∃ z,z=decide (fitsP m o.kind ls ts):=⟨_,rfl⟩
   have HF:Hid (∀ W,Chg w9 W No→Calls Tryz.prog 10 #[.pointer (some ⟨cg,0,none⟩),.agg A] W fun e w'=>e=.returned (.bool fb)∧Chg W w' No):=hid (fun W hW=>by
    have h:=fits_any (da:=da) (dl:=o.data.length) (dc:=dc) (HM9.out W hW) HMk.out HDp.out HTp.out.1 HTp.out.2.1 HTp.out.2.2;rw [←HAe.out,HCg.out,←hfb] at h
    exact h)
   have HSy:Hid (((codeA (doS s o).2=80∨codeA (doS s o).2=81)→fb=true)∧(codeA (doS s o).2≠80→codeA (doS s o).2≠81→(codeA (doS s o).2=0↔fb=true))):=hid (by
    have h:=HR.out.says HDp.out;rw [hfb]
    exact ⟨fun e=>decide_eq_true (h.1 e),fun e1 e2=>(h.2 e1 e2).trans ⟨fun e=>decide_eq_true e,fun e=>of_decide_eq_true e⟩⟩)
   have HQt:Hid (codeA (doS s o).2≠0→(doS s o).1=s):=hid (fun e=>doS_quiet (.inl e));obtain ⟨cd,hcd⟩:∃ y,y=codeA (doS s o).2:=⟨_,rfl⟩;have HCd:=hid hcd;rw [←hcd] at HQ12 HSy HQt
   have HSt:Hid (cd≠0→∀ W,Chg w9 W No→Kp w W p cg (i + 1)):=hid (fun e W hW=>by
    have h:=HN9.out W hW;rw [HQt.out e] at h
    exact ⟨s,m,c,h,HM9.out W hW,HCg.out,HR.out,Nat.le_succ_of_le HLn.out⟩)
   have HDn:Hid (cd=0→∀ W,Chg w9 W No→Calls Tryz.prog 11 #[.pointer (some ⟨cg,0,none⟩),.agg A] W fun e w'=>e=.returned (.tuple #[])∧Kp w w' p cg (i + 1)):=hid (fun e W hW=>by
    have hN:=HN9.out W hW
    have hb:BytesAt W da o.data:=by
     rcases HDt.out with e | ⟨q1,q2,q3,q4⟩
     ·exact .inl e
     ·rw [q1,q3]
      exact (HY.out.2.call hN.chg).take _
    have h:=done_any (dc:=dc) (HM9.out W hW) hN.chg.size HMk.out HR.out HDp.out HTp.out.1 HTp.out.2.1 HTp.out.2.2 (by rw [←HCd.out];exact e) hb;rw [←HAe.out,HCg.out] at h;refine h.mono ?_
    rintro e9 w' ⟨h1,⟨c',h2,h3⟩,h4⟩
    exact ⟨h1,_,_,c',hN.mch h4,h3,h2,HR.out.step HDp.out (by rw [←HCd.out];exact e),Nat.le_trans (done_len m o ls ts) (Nat.succ_le_succ HLn.out)⟩)
   clear hls hts hfb hcd HQt HA2 HO2 HQ8 HM8 HN8 HS9 HC89 HO HDt HY HAe;have q12:=HQ12.out w9 (Chg.refl _ _)
   by_cases h80:cd=80
   ·have hfb:=HSy.out.1 (.inl h80)
    have HNx:=hid (HSt.out (by omega));have hl9:=HLa.out w9 (Chg.refl _ _);have hF:=HF.out w9 (Chg.refl _ _);rw [hfb] at hF;subst h80;clear HSy HSt HDn hfb HF
    go_wp2_with (first
     | (refine load_of rfl 34 _ rfl ⟨g9,0,none⟩ rfl _ hl9 ?_)
     | (go_at_call 10;go_must (refine hF.mono ?_;rintro e wx ⟨rfl,hx⟩;have HX:=hid hx;clear hx))
     | fail)
    exact ⟨⟨i + 1,by go_num,by omega,hid (HNx.out _ HX.out)⟩,by simp [intOf];omega⟩
   ·by_cases h81:cd=81
    ·have hfb:=HSy.out.1 (.inr h81)
     have HNx:=hid (HSt.out (by omega));have hl9:=HLa.out w9 (Chg.refl _ _);have hF:=HF.out w9 (Chg.refl _ _);rw [hfb] at hF;subst h81;clear HSy HSt HDn hfb h80 HF
     go_wp2_with (first
      | (refine load_of rfl 34 _ rfl ⟨g9,0,none⟩ rfl _ hl9 ?_)
      | (go_at_call 10;go_must (refine hF.mono ?_;rintro e wx ⟨rfl,hx⟩;have HX:=hid hx;clear hx))
      | fail)
     exact ⟨⟨i + 1,by go_num,by omega,hid (HNx.out _ HX.out)⟩,by simp [intOf];omega⟩
    ·have hiff:=HSy.out.2 h80 h81
     have z80:(cd == 80)=false:=beq_eq_false_iff_ne.2 h80;have z81:(cd == 81)=false:=beq_eq_false_iff_ne.2 h81
     by_cases h0:cd=0
     ·have hfb:=hiff.1 h0
      have HDn2:=hid (HDn.out h0);have HF2:Hid (∀ W,Chg w9 W No→Calls Tryz.prog 10 #[.pointer (some ⟨cg,0,none⟩),.agg A] W fun e w'=>e=.returned (.bool true)∧Chg W w' No):=hid (by rw [←hfb];exact HF.out);subst h0;clear HSy HSt HDn hfb h80 h81 HF hiff z80 z81
      go_upto_region 13 with fail
      clear q12;refine wp_region_noPanic ?_;refine wp_region_held_drew (S:=fun W=>Chg w9 W No) (by kernel_rfl) ((Chg.refl w9 No).drew) (fun hHeld => ?_);refine tV 0 52 (.pointer (some ⟨g12,0,none⟩)) rfl (by kernel_rfl) rfl (by rfl) hHeld (fun _ hw'=>by go_simp) ?_;simp only [sS];refine tV 1 53 (.int .i64 0) rfl (by kernel_rfl) rfl (by rfl) hHeld (fun _ hw'=>by have hc:=HQ12.out _ hw';go_simp) ?_;simp only [sS];refine tV 2 54 (.bool true) rfl (by kernel_rfl) rfl (by rfl) hHeld (fun _ hw'=>by go_simp) ?_;simp only [sS];refine tV 3 55 (.pointer (some ⟨cg,0,none⟩)) rfl (by kernel_rfl) rfl (by rfl) hHeld (fun _ hw'=>rfl) ?_;simp only [sS];refine takeL 4 56 34 (.tmp 10) ⟨g9,0,none⟩ (.agg A) rfl (by kernel_rfl) (by kernel_rfl) (by kernel_rfl) rfl rfl rfl (by rfl) (fun _ _ _ h=>h) hHeld (fun _ hw'=>HLa.out _ hw') ?_;simp only [sS];refine step1 5 (by kernel_rfl) ?_;refine stCall 5 57 10 #[.pointer (some ⟨cg,0,none⟩),.agg A] _ rfl rfl (by rfl) (by go_simp) (HF2.out _ hHeld) ?_
      rintro e wx ⟨rfl,hx⟩
      have hHx:Chg w9 wx No:=hHeld.tr hx;refine ⟨_,rfl,hHx,?_⟩;simp only [sS];refine tV 6 58 (.bool false) rfl (by kernel_rfl) rfl (by rfl) hHx (fun _ hw'=>by go_simp) ?_;simp only [sS];refine wpAnyH_done (by kernel_rfl) ?_ _;refine NoPanic.normal ?_;have HX:=hid hHx;clear hHeld hx hHx;have q13:=HQ12.out wx HX.out;have hl9:=HLa.out wx HX.out;have hDn:=HDn2.out wx HX.out
      go_wp2_with (first
       | (refine load_of rfl 34 _ rfl ⟨g9,0,none⟩ rfl _ hl9 ?_)
       | (go_at_call 11;go_must (refine hDn.mono ?_;rintro e wy ⟨rfl,hy⟩;have HYy:=hid hy;clear hy))
       | fail)
      exact ⟨⟨i + 1,by go_num,by omega,HYy⟩,by simp [intOf];omega⟩
     ·have hfb:fb=false:=by
       cases hb:fb with
       | false=>rfl
       | true=>exact absurd (hiff.2 hb) h0
      have z0:(cd == 0)=false:=beq_eq_false_iff_ne.2 h0;have HNx:=hid (HSt.out h0);have HF2:Hid (∀ W,Chg w9 W No→Calls Tryz.prog 10 #[.pointer (some ⟨cg,0,none⟩),.agg A] W fun e w'=>e=.returned (.bool false)∧Chg W w' No):=hid (by rw [←hfb];exact HF.out);clear HSy HSt HDn hfb HF hiff
      go_upto_region 13 with fail
      clear q12;refine wp_region_noPanic ?_;refine wp_region_held_drew (S:=fun W=>Chg w9 W No) (by kernel_rfl) ((Chg.refl w9 No).drew) (fun hHeld => ?_);refine tV 0 52 (.pointer (some ⟨g12,0,none⟩)) rfl (by kernel_rfl) rfl (by rfl) hHeld (fun _ hw'=>by go_simp) ?_;simp only [sS];refine tV 1 53 (.int .i64 cd) rfl (by kernel_rfl) rfl (by rfl) hHeld (fun _ hw'=>by have hc:=HQ12.out _ hw';go_simp) ?_;simp only [sS];refine tV 2 54 (.bool false) rfl (by kernel_rfl) rfl (by rfl) hHeld (fun _ hw'=>by go_simp) ?_;simp only [sS];refine tV 3 55 (.pointer (some ⟨cg,0,none⟩)) rfl (by kernel_rfl) rfl (by rfl) hHeld (fun _ hw'=>rfl) ?_;simp only [sS];refine takeL 4 56 34 (.tmp 10) ⟨g9,0,none⟩ (.agg A) rfl (by kernel_rfl) (by kernel_rfl) (by kernel_rfl) rfl rfl rfl (by rfl) (fun _ _ _ h=>h) hHeld (fun _ hw'=>HLa.out _ hw') ?_;simp only [sS];refine step1 5 (by kernel_rfl) ?_;refine stCall 5 57 10 #[.pointer (some ⟨cg,0,none⟩),.agg A] _ rfl rfl (by rfl) (by go_simp) (HF2.out _ hHeld) ?_
      rintro e wx ⟨rfl,hx⟩
      have hHx:Chg w9 wx No:=hHeld.tr hx;refine ⟨_,rfl,hHx,?_⟩;simp only [sS];refine tV 6 58 (.bool false) rfl (by kernel_rfl) rfl (by rfl) hHx (fun _ hw'=>by go_simp) ?_;simp only [sS];refine wpAnyH_done (by kernel_rfl) ?_ _;refine NoPanic.normal ?_;have HX:=hid hHx;clear hHeld hx hHx;have q13:=HQ12.out wx HX.out
      go_wp2_with fail
      exact ⟨⟨i + 1,by go_num,by omega,hid (HNx.out _ HX.out)⟩,by simp [intOf];omega⟩
  ·have j1 : ¬ (i:Int) < (nl:Int):=by omega
   obtain ⟨s,m,c,e1,e2,e3,e4,e5⟩:=HN.out;have hH:=mo_holds w wr e1 e2 (e4.moOk (by have:=HNb.out;omega)) e4 HU.out HM.out;have HCw:=hid e1.chg;rw [e3] at hH;clear e1 e2 e3 e4 e5 HN
   go_wp2_with (first
    | (go_at_call 12;go_must (refine hH.mono ?_;rintro e wz ⟨rfl,hz⟩;have HZ:=hid (HCw.out.tr hz);clear hz))
    | fail)
   go_ret
   exact ⟨rfl,HZ.out⟩
end Go.Proofs.YtmgfilacepnjlaaGreatDoor

namespace Go.Proofs.YtmgfilacepnjlaaGreatDoor
open Go.ChangeShapes Go.WideShapes Go.ChangeAt Go.RowKit

set_option maxRecDepth 100000
theorem bounds_i64 {x:Int} (h:(Lit.int .i64 x).wf=true):I64 x:=by
 have h:IntKind.i64.min≤x∧x≤9223372036854775807:=by simpa [Lit.wf] using h
 exact ⟨h.1,h.2⟩
theorem own:ownKnob Tryz.prog.godebug=none:=by kernel_rfl
theorem laidOut:laidOutB Tryz.prog=true:=by kernel_rfl
theorem ub_of_laid {W : World} (h : laidMetH Tryz.prog [("unicode/utf8.acceptRanges", Rows.laid_unicode_utf8_acceptRanges), ("breakwater/plain.usedBy", Rows.laid_breakwater_plain_usedBy), ("unicode/utf8.first", Rows.laid_unicode_utf8_first)] W) : UB W := by
 rw [MakeChecks.laidMetH_plain _ _ _ (by kernel_rfl)] at h;obtain ⟨ps,⟨_,_,_,_,_,_,_,_,_,_,⟨g,t,cs,fuel,p,q,hg,ht,hv,hd,_,_⟩,_⟩,_,_⟩:=h
 obtain rfl := Option.some.inj ((show Tryz.prog.globalNamed "breakwater/plain.usedBy" = some 0 by kernel_rfl).symm.trans hg)
 obtain rfl:=Option.some.inj ((show (Tryz.prog.globals[0]?).map (·.type)=some 91 by kernel_rfl).symm.trans ht);obtain ⟨xs,m,_,ex,_,hl,hel⟩:=DataW.trod_array Tryz.underlying91 hd
 have c5:Tryz.prog.cellsOf 89=1:=by kernel_rfl
 have hc:∀ k:Nat,k < 15→W.cell? ⟨0,k,none⟩=some (.int .i64 (usedL.getD k 0)):=fun r hr=>by
  have hE:=hel r hr;rw [c5,Nat.mul_one,List.getElem?_eq_getElem (by omega)] at hE;obtain ⟨z,e1,e2,_⟩:=DataW.trod_int Tryz.underlying89 hE
  have hlen:usedL.length=15:=by kernel_rfl
  have e3:(xs.map (·.1))=usedL.map fun n=>.lit (.int .i64 n):=(DataW.agg.inj (Prod.mk.inj ex).1).symm
  have e4:(xs.map (·.1))[r]? = (usedL.map fun n=>(DataW.lit (.int .i64 n):DataW Unit))[r]?:=by rw [e3]
  rw [List.getElem?_map,List.getElem?_map,List.getElem?_eq_getElem (by omega:r < xs.length),List.getElem?_eq_getElem (by omega:r < usedL.length),e2] at e4
  have hz:z=usedL.getD r 0:=by
   simp only [Option.map_some,Option.some.injEq,DataW.lit.injEq,Lit.int.injEq,true_and] at e4
   rw [e4,List.getD,List.getElem?_eq_getElem (by omega:r < usedL.length)];rfl
  rw [World.var?_cell hg hv r,←hz]
  have:cs.toList[r]? = some (.int .i64 z):=by
   have h0:((cs.toList.drop r).take 1)[0]? = some (.int .i64 z):=by rw [e1];rfl
   simpa using h0
  simpa using this
 exact ⟨World.block_lt_of_cell? _ _ (hc 0 (by decide)),hc⟩
end Go.Proofs.YtmgfilacepnjlaaGreatDoor

namespace Go.Proofs.YtmgfilacepnjlaaGreatDoor
open Go.ChangeShapes Go.WideShapes Go.ChangeAt Go.RowKit Go.Joins

set_option maxRecDepth 100000
theorem bounds_u8 {x:Int} (h:(Lit.int .u8 x).wf=true):0≤x∧x≤255:=by
 have h:IntKind.u8.min≤x∧x≤IntKind.u8.max:=by simpa [Lit.wf] using h
 exact ⟨h.1,h.2⟩
theorem weightsAll_mem {H:Type} {P:Program} {e:TypeId}:∀ {l:List (DataW H)} {d:DataW H},d∈l→∀ n∈d.weights P e,n∈DataW.weightsAll P e l
 | [],_,h,_,_=>by cases h
 | x :: l,d,h,n,hn=>by
  unfold DataW.weightsAll
  rcases List.mem_cons.1 h with rfl | h
  ·exact List.mem_append_left _ hn
  ·exact List.mem_append_right _ (weightsAll_mem h n hn)
theorem bytes_of_ints {W:World} {x:Addr} {l c:Nat} {zs:List Int} (hl:l≤c) (hz:zs.length=c)
  (hcell:∀ i,i < zs.length→W.cell? (x.add i)=some (.int .u8 (zs.getD i 0))):BytesAt W (some x) (zs.take l):=by
 by_cases h0:l=0
 ·subst h0
  exact .inl (by simp)
 ·obtain ⟨b,off,spot⟩:=x
  have hc:=hcell 0 (by omega)
  have hspot:spot=none:=by simpa [Addr.add] using World.cell?_spot hc
  subst hspot
  have hlt:b < W.heap.size:=by
   rw [addr_add] at hc
   exact World.block_lt_of_cell? _ _ hc
  refine .inr ⟨b,off,rfl,hlt,fun j hj => ?_⟩;rw [List.length_take] at hj;have h1:=hcell j (by omega);rw [addr_add] at h1;rw [h1]
  simp [show j < l by omega]
theorem bytes_of_trod {H:Type} {enc:TypeId × Value→H} {W:World} {fuel:Nat} {cs:List Value} {x:DataW H × List MemPlace} (h:DataW.trod enc Tryz.prog W 0 (fun _=>true) true fuel 32 cs=some x) (hw:∀ n∈x.1.weights Tryz.prog 32,n≤reachBytes) :
  ∃ (zs:List Int) (ad:Option Addr) (cap:Nat),cs=[.slice ad zs.length cap]∧zs.length≤140737488355328∧BytesAt W ad zs∧(∀ x∈zs,0≤x∧x≤255)∧zs.length≤cap∧cap≤maxLen∧(ad=none→zs.length=0):=by
 rcases open_ints Tryz.underlying32 Tryz.underlying5 (by kernel_rfl) h with ⟨hcs,_⟩ | ⟨y,l,c,zs,hcs,_,hl,hm,hz,hy,hcell,hwz⟩
 ·exact ⟨[],none,0,hcs,by simp,.inl rfl,by simp,Nat.le_refl _,by decide,fun _=>rfl⟩
 ·have hz':zs.length=c:=by simpa using hz
  have e:(zs.take l).length=l:=by rw [List.length_take];omega
  have hwt:zs.length≤reachBytes:=by
   have hb:Tryz.prog.bytesOf 5=1:=by kernel_rfl
   have h2:x.1=.slice (lits .u8 (zs.take l)) (lits .u8 (zs.drop l)):=congrArg Prod.fst hy
   have h3:((lits (H:=H) .u8 (zs.take l)).length + (lits (H:=H) .u8 (zs.drop l)).length) * Tryz.prog.bytesOf 5∈x.1.weights Tryz.prog 32:=by
    rw [h2]
    simp [DataW.weights,Tryz.underlying32]
   have h4:=hw _ h3;rw [hb] at h4
   simp [lits] at h4
   omega
  refine ⟨zs.take l,some y,c,by rw [e];exact hcs,by unfold reachBytes at hwt;omega,bytes_of_ints hl hz' hcell,fun y hy=>bounds_u8 (hwz y (List.mem_of_mem_take hy)),by omega,hm,fun e=>by cases e⟩
theorem list_of {α:Type} (d:α) (P:Nat→α→Prop):∀ n:Nat,(∀ i,i < n→∃ x,P i x)→∃ l:List α,l.length=n∧∀ i,i < n→P i (l.getD i d)
 | 0,_=>⟨[],rfl,fun i hi=>absurd hi (Nat.not_lt_zero _)⟩
 | n + 1,h=>by
  obtain ⟨l,h1,h2⟩:=list_of d P n (fun i hi=>h i (by omega));obtain ⟨x,hx⟩:=h n (by omega);refine ⟨l ++ [x],by simp [h1],fun i hi => ?_⟩
  by_cases e:i < n
  ·rw [List.getD_eq_getElem?_getD,List.getElem?_append_left (by omega),←List.getD_eq_getElem?_getD]
   exact h2 i e
  ·have e:i=l.length:=by omega
   subst e;rw [List.getD_eq_getElem?_getD,List.getElem?_append_right (Nat.le_refl _),Nat.sub_self,h1]
   exact hx
theorem add_add (a:Addr) (x j:Nat):(a.add x).add j=a.add (x + j):=by
 unfold Addr.add
 by_cases h1:x=0
 ·by_cases h2:j=0
  ·simp [h1,h2]
  ·simp [h1,h2]
 ·by_cases h2:j=0
  ·simp [h1,h2]
  ·simp [h1,h2,Nat.add_assoc]
theorem deed_of_trod {H:Type} {enc:TypeId × Value→H} {W:World} {fuel:Nat} {cs:List Value} {x:DataW H × List MemPlace} (h:DataW.trod enc Tryz.prog W 0 (fun _=>true) true fuel 36 cs=some x) (hw:∀ n∈x.1.weights Tryz.prog 36,n≤reachBytes) :
  ∃ n:Dd,cs=n.A.toList∧n.Ok∧BytesAt W n.da n.data:=by
 obtain ⟨xs,m,_,hx1,hl,hlen,hx⟩:=DataW.trod_struct Tryz.underlying36 h
 have hC:Tryz.prog.cellsOf 36=6:=by kernel_rfl
 rw [hC] at hl
 match xs,hlen,hx1,hx with
 | [y0,y1,y2,y3,y4,y5],_,hx1,hx =>
  have k0:Tryz.prog.cellsOf 3=1:=by kernel_rfl
  have k1:Tryz.prog.cellsOf 32=1:=by kernel_rfl
  have k2:Tryz.prog.cellsOf 9=1:=by kernel_rfl
  have q0:DataW.trod enc Tryz.prog W 0 (fun _=>true) true m 3 ((cs.drop 0).take (Tryz.prog.cellsOf 3))=some y0:=hx 0 _ rfl;have q1:DataW.trod enc Tryz.prog W 0 (fun _=>true) true m 3 ((cs.drop 1).take (Tryz.prog.cellsOf 3))=some y1:=hx 1 _ rfl;have q2:DataW.trod enc Tryz.prog W 0 (fun _=>true) true m 3 ((cs.drop 2).take (Tryz.prog.cellsOf 3))=some y2:=hx 2 _ rfl;have q3:DataW.trod enc Tryz.prog W 0 (fun _=>true) true m 3 ((cs.drop 3).take (Tryz.prog.cellsOf 3))=some y3:=hx 3 _ rfl;have q4:DataW.trod enc Tryz.prog W 0 (fun _=>true) true m 3 ((cs.drop 4).take (Tryz.prog.cellsOf 3))=some y4:=hx 4 _ rfl;have q5:DataW.trod enc Tryz.prog W 0 (fun _=>true) true m 32 ((cs.drop 5).take (Tryz.prog.cellsOf 32))=some y5:=hx 5 _ rfl;rw [k0] at q0;rw [k0] at q1;rw [k0] at q2;rw [k0] at q3;rw [k0] at q4;rw [k1] at q5
  have hwe:∀ n,n∈y5.1.weights Tryz.prog 32→n≤reachBytes:=fun n hn=>hw n (by
   rw [hx1]
   simp only [DataW.weights,Tryz.underlying36,List.map_cons,List.map_nil,DataW.weightsEach,List.mem_append]
   exact .inr (.inr (.inr (.inr (.inr (.inl hn))))))
  obtain ⟨n0,e0,_,w0⟩:=DataW.trod_int Tryz.underlying3 q0;obtain ⟨n1,e1,_,w1⟩:=DataW.trod_int Tryz.underlying3 q1;obtain ⟨n2,e2,_,w2⟩:=DataW.trod_int Tryz.underlying3 q2;obtain ⟨n3,e3,_,w3⟩:=DataW.trod_int Tryz.underlying3 q3;obtain ⟨n4,e4,_,w4⟩:=DataW.trod_int Tryz.underlying3 q4;obtain ⟨zs,a,c,e5,l4,b4,f4,u1,u2,u3⟩:=bytes_of_trod q5 hwe;refine ⟨⟨n0,n1,n2,n3,n4,a,zs,c⟩,?_,⟨bounds_i64 w0,bounds_i64 w1,bounds_i64 w2,bounds_i64 w3,bounds_i64 w4,u1,u2,u3,f4⟩,b4⟩
  match cs,hl with
  | [c0,c1,c2,c3,c4,c5],_ =>
   simp at e0 e1 e2 e3 e4 e5
   rw [e0,e1,e2,e3,e4,e5]
   rfl
theorem deeds_of_trod {H:Type} {enc:TypeId × Value→H} {W:World} {fuel:Nat} {cs:List Value} {x:DataW H × List MemPlace} (h:DataW.trod enc Tryz.prog W 0 (fun _=>true) true fuel 22 cs=some x) (hw:∀ n∈x.1.weights Tryz.prog 22,n≤reachBytes) :
  ∃ (a:Option Addr) (cap:Nat) (L:List Dd),cs=[.slice a L.length cap]∧L.length≤2199023255552∧L.length≤cap∧DdAt W a L∧∀ i,i < L.length→(L.getD i Dd.z).Ok:=by
 have hC:Tryz.prog.cellsOf 36=6:=by kernel_rfl
 rcases DataW.trod_slice Tryz.underlying22 h with ⟨hcs,_⟩ | ⟨a,l,c,elems,rest,m,_,hcs,hx,hb,hl,hm,hlen,hel,_,_⟩
 ·exact ⟨none,0,[],hcs,by simp,by simp,⟨.inl rfl,fun i hi=>absurd hi (Nat.not_lt_zero _)⟩,fun i hi=>absurd hi (Nat.not_lt_zero _)⟩
 ·rw [hC] at hel
  have hwa:∀ i (hi:i < elems.length),∀ n∈(elems[i]).1.weights Tryz.prog 36,n≤reachBytes:=fun i hi n hn=>hw n (by
   rw [hx]
   simp only [DataW.weights,Tryz.underlying22,List.mem_cons,List.mem_append]
   exact .inr (.inl (weightsAll_mem (List.mem_map_of_mem (List.getElem_mem hi)) n hn)))
  have hcnt:elems.length * 64≤reachBytes:=by
   have hb:Tryz.prog.bytesOf 36=64:=by kernel_rfl
   have h3:((elems.map (·.1)).length + (rest.map (·.1)).length) * Tryz.prog.bytesOf 36∈x.1.weights Tryz.prog 22:=by
    rw [hx]
    simp [DataW.weights,Tryz.underlying22]
   have h4:=hw _ h3;rw [hb] at h4
   simp at h4
   omega
  have key:∀ i,i < l→∃ n:Dd,n.Ok∧(∀ j v,n.A.toList[j]? = some v→W.cell? (a.add (i * 6 + j))=some v)∧BytesAt W n.da n.data:=by
   intro i hi
   have h1:=hel i hi
   have hil:i < elems.length:=by omega
   rw [List.getElem?_eq_getElem hil,Option.bind_eq_some_iff] at h1;obtain ⟨cs,hcs,ht⟩:=h1;obtain ⟨n,hz,hn,hby⟩:=deed_of_trod ht (hwa i hil);obtain ⟨_,hcl,hcc⟩:=World.cells?_some hcs;refine ⟨n,hn,fun j v hj => ?_,hby⟩;have hj5:j < 6:=(List.getElem?_eq_some_iff.1 hj).1;have h2:=hcc j (by omega);rw [add_add] at h2;rw [h2,hz]
   exact hj
  obtain ⟨L,hL,hP⟩:=list_of Dd.z _ l key;refine ⟨some a,c,L,by rw [hL];exact hcs,by unfold reachBytes at hcnt;omega,by omega,⟨?_,fun i hi=>(hP i (by omega)).2.2⟩,fun i hi=>(hP i (by omega)).1⟩
  by_cases h0:l=0
  ·exact .inl (List.eq_nil_of_length_eq_zero (by omega))
  obtain ⟨b,o,spot⟩:=a;have hc00:=(hP 0 (by omega)).2.1 0 _ rfl
  have hspot:spot=none:=by simpa [Addr.add] using World.cell?_spot hc00
  subst hspot
  have hblt:b < W.heap.size:=by
   rw [addr_add] at hc00
   exact World.block_lt_of_cell? _ _ hc00
  refine .inr ⟨b,o,rfl,hblt,fun k hk j v hv => ?_⟩;have:=(hP k (by omega)).2.1 j v hv;rw [addr_add,←Nat.add_assoc] at this
  exact this
theorem open_deeds {H:Type} {enc:TypeId × Value→H} {W:World} {r:Reach} {b0:Nat} {v:Value} {d:DataW H} {p:List MemPlace}
  (hv:Value.okWide Tryz.prog W r b0 22 v) (h:DataW.Trod enc Tryz.prog W 0 (fun _=>true) true 22 v d p) (hw:∀ n∈d.weights Tryz.prog 22,n≤reachBytes) :
  ∃ (L:List Dd) (a:Option Addr) (cap:Nat),v=.slice a L.length cap∧L.length≤2199023255552∧L.length≤cap∧DdAt W a L∧∀ i,i < L.length→(L.getD i Dd.z).Ok:=by
 obtain ⟨a0,len0,cap0,rfl⟩:=okWide_slice Tryz.underlying22 hv;obtain ⟨fuel,hf⟩:=h;obtain ⟨a,cap,L,hcs,h1,h2,h3,h4⟩:=deeds_of_trod hf hw
 simp [Value.cells] at hcs
 obtain ⟨rfl,rfl,rfl⟩:=hcs
 exact ⟨L,_,_,rfl,h1,h2,h3,h4⟩
theorem all_deeds {L:List Dd} (h:∀ i,i < L.length→(L.getD i Dd.z).Ok):∀ x∈L,x.Ok:=fun x hx=>by
 obtain ⟨i,hi,e⟩:=List.mem_iff_getElem.1 hx;have:=h i hi;rw [List.getD_eq_getElem?_getD,List.getElem?_eq_getElem hi] at this;rw [←e]
 exact this
end Go.Proofs.YtmgfilacepnjlaaGreatDoor

namespace Go.Proofs.YtmgfilacepnjlaaGreatDoor
open Go.RowKit
theorem kept_below (n:Int) (L:List Dd) (a:Option Addr) (ca:Nat) (w:World) (hu:UB w) (hm:ML w) (hn:I64 n) (hL:DdAt w a L) (hLo:∀ i,i < L.length→(L.getD i Dd.z).Ok) (hl:L.length≤2199023255552) :
  Calls Tryz.prog 3 #[.int .i64 n,.slice a L.length ca] w fun e w'=>e=.returned (.bool true)∧Below w.heap.size w w' :=
 (kept_walk n L a ca w hu hm hn hL (all_deeds hLo) hl).mono fun _ _ ⟨h1,h2⟩=>⟨h1,h2.below⟩
end Go.Proofs.YtmgfilacepnjlaaGreatDoor
