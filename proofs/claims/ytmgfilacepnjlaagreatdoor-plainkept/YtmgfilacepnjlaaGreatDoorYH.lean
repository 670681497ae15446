/-
 PlainKept's model: may an operation be?
-/
import Derived.Test.YtmgfilacepnjlaaGreatDoorYG
namespace Go.Proofs.YtmgfilacepnjlaaGreatDoor
open Go.RowKit Go.PlainAid

theorem fits_k {m:Mo} {ls ts:List ByteArray}:(fitsP m 1 ls ts↔thAt m ls=none∧dirM m ls=true)∧(fitsP m 2 ls ts↔thAt m ls=none∧dirM m ls=true)∧(fitsP m 3 ls ts↔fileT (thAt m ls)∧atL m.paths ts < 0∧dirM m ts=true)∧(fitsP m 4 ls ts↔fileT (thAt m ls))∧(fitsP m 5 ls ts↔dirT (thAt m ls)=true∧fullM m ls=false)∧(fitsP m 6 ls ts↔(thAt m ls≠none∧dirM m ts=true)∧(ls=ts∨if dirT (thAt m ls)=true then thAt m ts=none∧belowB ts ls=false else thAt m ts=none∨fileT (thAt m ts)))∧(fitsP m 7 ls ts↔fileT (thAt m ls))∧(fitsP m 8 ls ts↔fileT (thAt m ls)):=by
 unfold fitsP;refine ⟨?_,?_,?_,?_,?_,?_,?_,?_⟩
 ·rw [if_pos (by omega)]
 ·rw [if_pos (by omega)]
 ·rw [if_neg (by omega),if_pos rfl]
 ·rw [if_neg (by omega),if_neg (by omega),if_pos rfl]
 ·rw [if_neg (by omega),if_neg (by omega),if_neg (by omega),if_pos rfl]
 ·rw [if_neg (by omega),if_neg (by omega),if_neg (by omega),if_neg (by omega),if_pos rfl]
 ·rw [if_neg (by omega),if_neg (by omega),if_neg (by omega),if_neg (by omega),if_neg (by omega)]
 ·rw [if_neg (by omega),if_neg (by omega),if_neg (by omega),if_neg (by omega),if_neg (by omega)]
theorem fileT_n : ¬ fileT none:=fun ⟨t,h,_⟩=>by cases h
theorem fileT_s {u:Th}:fileT (some u)↔u.dir=false:=⟨fun ⟨t,h,k⟩=>by cases h;exact k,fun h=>⟨u,rfl,h⟩⟩
set_option maxHeartbeats 4000000 in
set_option maxRecDepth 100000 in
open Classical in
theorem mo_fits1 {B:Nat} {c:MC} {m:Mo} {ls ts:List ByteArray} {p tt:ByteArray} {off len made pick:Int} {da:Option Addr} {dl dc:Nat} (w:World) (h:IsMo w B c m) (hk:MoOk m) (hl:LL ls) (hne:ls≠[]) (hp:p=TP ls):Calls Tryz.prog 10 #[.pointer (some ⟨c.g,0,none⟩),.agg #[.int .i64 1,.string p,.string tt,.int .i64 off,.int .i64 len,.slice da dl dc,.int .i64 made,.int .i64 pick]] w fun e w'=>e=.returned (.bool (decide (fitsP m 1 ls ts)))∧Chg w w' No:=by
 have h1:IsMo (w.alloc (.cells #[.int .i64 1,.string p,.string tt,.int .i64 off,.int .i64 len,.slice da dl dc,.int .i64 made,.int .i64 pick] 34)) B c m:=h.call (Chg.alloc w _ No);have hA:=mo_at _ h1 hk hl;have hT:=mo_thing (id:=atL m.paths ls) _ h1 hk;have hD:=mo_dir _ h1 hk hl hne;have hF:=mo_full _ h1 hk hl hne;rw [←hp] at hA hD hF;have HC:Hid (Chg w (w.alloc (.cells #[.int .i64 1,.string p,.string tt,.int .i64 off,.int .i64 len,.slice da dl dc,.int .i64 made,.int .i64 pick] 34)) No):=hid (Chg.alloc w _ No);obtain ⟨R,hR⟩:∃ y,y=decide (fitsP m 1 ls ts):=⟨_,rfl⟩;rw [←hR];have HR:=hid hR;obtain ⟨⟨a,cp,htv⟩,_⟩:=h.shape;have q0:=h.cells.1;have q1:=h1.cells.1;rw [htv] at q0 q1;have HTv:=hid htv;have H:=hid h;have H1:=hid h1
 have n1:(m.things.length:Int)≤2199023255552:=by have:=hk.nt;omega
 obtain ⟨ia,hia⟩:∃ y,y=atL m.paths ls:=⟨_,rfl⟩;obtain ⟨D,hDv⟩:∃ y,y=dirM m ls:=⟨_,rfl⟩;obtain ⟨F,hFv⟩:∃ y,y=fullM m ls:=⟨_,rfl⟩;obtain ⟨ix,hix⟩:∃ y,y=thK m.things ia 0:=⟨_,rfl⟩;have HIx:Hid (ix=thK m.things (atL m.paths ls) 0):=hid (by rw [hix,hia]);rw [←hia] at hA hT;rw [←hDv] at hD;rw [←hFv] at hF;rw [←hix] at hT;have HDv:=hid hDv;have HFv:=hid hFv;clear hR h h1 hk hl hne hp htv hia hDv hFv hix
 rcases thAt_or m ls with ⟨e1,e2⟩ | ⟨i,u,e0,e1,e2⟩
 ·have hi:ix = -1:=by rw [HIx.out,e1]
  have HE2:=hid e2;clear e1 e2;subst hi;have HRn:Hid (R=D):=hid (by rw [HR.out];rw [HDv.out];exact Bool.eq_iff_iff.2 (by rw [decide_eq_true_iff,fits_k.1];exact ⟨fun x=>x.2,fun x=>⟨HE2.out,x⟩⟩))
  go_enter Tryz.func10,Tryz.ntmps10
  go_wp2_with (first
   | (go_at_call_of 28 (Value.string p);go_must (refine hA.mono ?_;rintro e w' ⟨rfl,hw⟩;subst hw))
   | (go_at_call 29;go_must (refine hT.mono ?_;rintro e w' ⟨rfl,hw⟩;subst hw))
   | (go_at_call_of 30 (Value.string p);go_must (refine hD.mono ?_;rintro e w' ⟨rfl,hw⟩;subst hw))
   | (go_at_call_of 31 (Value.string p);go_must (refine hF.mono ?_;rintro e w' ⟨rfl,hw⟩;subst hw))
   | fail)
  go_ret
  exact ⟨by rw [HRn.out];rfl,HC.out⟩
 ·have hi:ix=(i:Int):=by rw [HIx.out,e1]
  have HE2:=hid e2;obtain ⟨ga,cp2,bb,g1,_,_,_,_,_,p1,_⟩:=H.out.thing e0;obtain ⟨ga',cp3,bb',g1',_,_,_,_,_,p2,_⟩:=H1.out.thing e0;rw [HTv.out] at g1 g1'
  cases g1
  cases g1'
  have i1:i < m.things.length:=(List.getElem?_eq_some_iff.1 e0).1
  have i2:(i:Int) < (m.things.length:Int):=by omega
  have i0:(0:Int)≤(i:Int):=by omega
  subst hi;clear e0 e1 e2;obtain ⟨d,hd⟩:∃ y,y=u.dir:=⟨_,rfl⟩;rw [←hd] at p1 p2;have HDd:=hid hd;clear hd;have HRn:Hid (R=false):=hid (by rw [HR.out];exact decide_eq_false (fun x=>by have h9:=(fits_k.1.1 x).1;rw [HE2.out] at h9;cases h9))
  go_enter Tryz.func10,Tryz.ntmps10
  go_wp2_with (first
   | (go_at_call_of 28 (Value.string p);go_must (refine hA.mono ?_;rintro e w' ⟨rfl,hw⟩;subst hw))
   | (go_at_call 29;go_must (refine hT.mono ?_;rintro e w' ⟨rfl,hw⟩;subst hw))
   | (go_at_call_of 30 (Value.string p);go_must (refine hD.mono ?_;rintro e w' ⟨rfl,hw⟩;subst hw))
   | (go_at_call_of 31 (Value.string p);go_must (refine hF.mono ?_;rintro e w' ⟨rfl,hw⟩;subst hw))
   | fail)
  go_ret
  exact ⟨by rw [HRn.out];rfl,HC.out⟩
set_option maxHeartbeats 4000000 in
set_option maxRecDepth 100000 in
open Classical in
theorem mo_fits2 {B:Nat} {c:MC} {m:Mo} {ls ts:List ByteArray} {p tt:ByteArray} {off len made pick:Int} {da:Option Addr} {dl dc:Nat} (w:World) (h:IsMo w B c m) (hk:MoOk m) (hl:LL ls) (hne:ls≠[]) (hp:p=TP ls):Calls Tryz.prog 10 #[.pointer (some ⟨c.g,0,none⟩),.agg #[.int .i64 2,.string p,.string tt,.int .i64 off,.int .i64 len,.slice da dl dc,.int .i64 made,.int .i64 pick]] w fun e w'=>e=.returned (.bool (decide (fitsP m 2 ls ts)))∧Chg w w' No:=by
 have h1:IsMo (w.alloc (.cells #[.int .i64 2,.string p,.string tt,.int .i64 off,.int .i64 len,.slice da dl dc,.int .i64 made,.int .i64 pick] 34)) B c m:=h.call (Chg.alloc w _ No);have hA:=mo_at _ h1 hk hl;have hT:=mo_thing (id:=atL m.paths ls) _ h1 hk;have hD:=mo_dir _ h1 hk hl hne;have hF:=mo_full _ h1 hk hl hne;rw [←hp] at hA hD hF;have HC:Hid (Chg w (w.alloc (.cells #[.int .i64 2,.string p,.string tt,.int .i64 off,.int .i64 len,.slice da dl dc,.int .i64 made,.int .i64 pick] 34)) No):=hid (Chg.alloc w _ No);obtain ⟨R,hR⟩:∃ y,y=decide (fitsP m 2 ls ts):=⟨_,rfl⟩;rw [←hR];have HR:=hid hR;obtain ⟨⟨a,cp,htv⟩,_⟩:=h.shape;have q0:=h.cells.1;have q1:=h1.cells.1;rw [htv] at q0 q1;have HTv:=hid htv;have H:=hid h;have H1:=hid h1
 have n1:(m.things.length:Int)≤2199023255552:=by have:=hk.nt;omega
 obtain ⟨ia,hia⟩:∃ y,y=atL m.paths ls:=⟨_,rfl⟩;obtain ⟨D,hDv⟩:∃ y,y=dirM m ls:=⟨_,rfl⟩;obtain ⟨F,hFv⟩:∃ y,y=fullM m ls:=⟨_,rfl⟩;obtain ⟨ix,hix⟩:∃ y,y=thK m.things ia 0:=⟨_,rfl⟩;have HIx:Hid (ix=thK m.things (atL m.paths ls) 0):=hid (by rw [hix,hia]);rw [←hia] at hA hT;rw [←hDv] at hD;rw [←hFv] at hF;rw [←hix] at hT;have HDv:=hid hDv;have HFv:=hid hFv;clear hR h h1 hk hl hne hp htv hia hDv hFv hix
 rcases thAt_or m ls with ⟨e1,e2⟩ | ⟨i,u,e0,e1,e2⟩
 ·have hi:ix = -1:=by rw [HIx.out,e1]
  have HE2:=hid e2;clear e1 e2;subst hi;have HRn:Hid (R=D):=hid (by rw [HR.out];rw [HDv.out];exact Bool.eq_iff_iff.2 (by rw [decide_eq_true_iff,fits_k.2.1];exact ⟨fun x=>x.2,fun x=>⟨HE2.out,x⟩⟩))
  go_enter Tryz.func10,Tryz.ntmps10
  go_wp2_with (first
   | (go_at_call_of 28 (Value.string p);go_must (refine hA.mono ?_;rintro e w' ⟨rfl,hw⟩;subst hw))
   | (go_at_call 29;go_must (refine hT.mono ?_;rintro e w' ⟨rfl,hw⟩;subst hw))
   | (go_at_call_of 30 (Value.string p);go_must (refine hD.mono ?_;rintro e w' ⟨rfl,hw⟩;subst hw))
   | (go_at_call_of 31 (Value.string p);go_must (refine hF.mono ?_;rintro e w' ⟨rfl,hw⟩;subst hw))
   | fail)
  go_ret
  exact ⟨by rw [HRn.out];rfl,HC.out⟩
 ·have hi:ix=(i:Int):=by rw [HIx.out,e1]
  have HE2:=hid e2;obtain ⟨ga,cp2,bb,g1,_,_,_,_,_,p1,_⟩:=H.out.thing e0;obtain ⟨ga',cp3,bb',g1',_,_,_,_,_,p2,_⟩:=H1.out.thing e0;rw [HTv.out] at g1 g1'
  cases g1
  cases g1'
  have i1:i < m.things.length:=(List.getElem?_eq_some_iff.1 e0).1
  have i2:(i:Int) < (m.things.length:Int):=by omega
  have i0:(0:Int)≤(i:Int):=by omega
  subst hi;clear e0 e1 e2;obtain ⟨d,hd⟩:∃ y,y=u.dir:=⟨_,rfl⟩;rw [←hd] at p1 p2;have HDd:=hid hd;clear hd;have HRn:Hid (R=false):=hid (by rw [HR.out];exact decide_eq_false (fun x=>by have h9:=(fits_k.2.1.1 x).1;rw [HE2.out] at h9;cases h9))
  go_enter Tryz.func10,Tryz.ntmps10
  go_wp2_with (first
   | (go_at_call_of 28 (Value.string p);go_must (refine hA.mono ?_;rintro e w' ⟨rfl,hw⟩;subst hw))
   | (go_at_call 29;go_must (refine hT.mono ?_;rintro e w' ⟨rfl,hw⟩;subst hw))
   | (go_at_call_of 30 (Value.string p);go_must (refine hD.mono ?_;rintro e w' ⟨rfl,hw⟩;subst hw))
   | (go_at_call_of 31 (Value.string p);go_must (refine hF.mono ?_;rintro e w' ⟨rfl,hw⟩;subst hw))
   | fail)
  go_ret
  exact ⟨by rw [HRn.out];rfl,HC.out⟩
set_option maxHeartbeats 4000000 in
set_option maxRecDepth 100000 in
open Classical in
theorem mo_fits3 {B:Nat} {c:MC} {m:Mo} {ls ts:List ByteArray} {p tt:ByteArray} {off len made pick:Int} {da:Option Addr} {dl dc:Nat} (w:World) (h:IsMo w B c m) (hk:MoOk m) (hl:LL ls) (hne:ls≠[]) (hp:p=TP ls) (ht:LL ts) (htn:ts≠[]) (htt:tt=TP ts):Calls Tryz.prog 10 #[.pointer (some ⟨c.g,0,none⟩),.agg #[.int .i64 3,.string p,.string tt,.int .i64 off,.int .i64 len,.slice da dl dc,.int .i64 made,.int .i64 pick]] w fun e w'=>e=.returned (.bool (decide (fitsP m 3 ls ts)))∧Chg w w' No:=by
 have h1:IsMo (w.alloc (.cells #[.int .i64 3,.string p,.string tt,.int .i64 off,.int .i64 len,.slice da dl dc,.int .i64 made,.int .i64 pick] 34)) B c m:=h.call (Chg.alloc w _ No);have hA:=mo_at _ h1 hk hl;have hT:=mo_thing (id:=atL m.paths ls) _ h1 hk;have hD:=mo_dir _ h1 hk hl hne;have hF:=mo_full _ h1 hk hl hne;rw [←hp] at hA hD hF;have hA2:=mo_at _ h1 hk ht;have hT2:=mo_thing (id:=atL m.paths ts) _ h1 hk;have hD2:=mo_dir _ h1 hk ht htn;rw [←htt] at hA2 hD2;have HC:Hid (Chg w (w.alloc (.cells #[.int .i64 3,.string p,.string tt,.int .i64 off,.int .i64 len,.slice da dl dc,.int .i64 made,.int .i64 pick] 34)) No):=hid (Chg.alloc w _ No);obtain ⟨R,hR⟩:∃ y,y=decide (fitsP m 3 ls ts):=⟨_,rfl⟩;rw [←hR];have HR:=hid hR;obtain ⟨⟨a,cp,htv⟩,_⟩:=h.shape;have q0:=h.cells.1;have q1:=h1.cells.1;rw [htv] at q0 q1;have HTv:=hid htv;have H:=hid h;have H1:=hid h1
 have n1:(m.things.length:Int)≤2199023255552:=by have:=hk.nt;omega
 obtain ⟨ia,hia⟩:∃ y,y=atL m.paths ls:=⟨_,rfl⟩;obtain ⟨D,hDv⟩:∃ y,y=dirM m ls:=⟨_,rfl⟩;obtain ⟨F,hFv⟩:∃ y,y=fullM m ls:=⟨_,rfl⟩;obtain ⟨ix,hix⟩:∃ y,y=thK m.things ia 0:=⟨_,rfl⟩;have HIx:Hid (ix=thK m.things (atL m.paths ls) 0):=hid (by rw [hix,hia]);rw [←hia] at hA hT;rw [←hDv] at hD;rw [←hFv] at hF;rw [←hix] at hT;have HDv:=hid hDv;have HFv:=hid hFv;have HL:=hid hl;have HNe:=hid hne;have HP:=hid hp;have HL2:=hid ht;have HN2:=hid htn;have HT2:=hid htt;obtain ⟨ib,hib⟩:∃ y,y=atL m.paths ts:=⟨_,rfl⟩;obtain ⟨D2,hD2v⟩:∃ y,y=dirM m ts:=⟨_,rfl⟩;obtain ⟨jx,hjx⟩:∃ y,y=thK m.things ib 0:=⟨_,rfl⟩;have HJx:Hid (jx=thK m.things (atL m.paths ts) 0):=hid (by rw [hjx,hib]);rw [←hib] at hA2 hT2;rw [←hD2v] at hD2;rw [←hjx] at hT2;have HIb:=hid hib;have HD2v:=hid hD2v;clear ht htn htt hib hD2v hjx;clear hR h h1 hk hl hne hp htv hia hDv hFv hix
 rcases thAt_or m ls with ⟨e1,e2⟩ | ⟨i,u,e0,e1,e2⟩
 ·have hi:ix = -1:=by rw [HIx.out,e1]
  have HE2:=hid e2;clear e1 e2;subst hi;have HRn:Hid (R=false):=hid (by rw [HR.out];exact decide_eq_false (fun x=>fileT_n (by rw [←HE2.out];exact (fits_k.2.2.1.1 x).1)))
  go_enter Tryz.func10,Tryz.ntmps10
  go_wp2_with (first
   | (go_at_call_of 28 (Value.string p);go_must (refine hA.mono ?_;rintro e w' ⟨rfl,hw⟩;subst hw))
   | (go_at_call_of 28 (Value.string tt);go_must (refine hA2.mono ?_;rintro e w' ⟨rfl,hw⟩;subst hw))
   | (go_at_call_of 29 (Value.int .i64 ia);go_must (refine hT.mono ?_;rintro e w' ⟨rfl,hw⟩;subst hw))
   | (go_at_call_of 29 (Value.int .i64 ib);go_must (refine hT2.mono ?_;rintro e w' ⟨rfl,hw⟩;subst hw))
   | (go_at_call_of 30 (Value.string tt);go_must (refine hD2.mono ?_;rintro e w' ⟨rfl,hw⟩;subst hw))
   | fail)
  go_ret
  exact ⟨by rw [HRn.out];rfl,HC.out⟩
 ·have hi:ix=(i:Int):=by rw [HIx.out,e1]
  have HE2:=hid e2;obtain ⟨ga,cp2,bb,g1,_,_,_,_,_,p1,_⟩:=H.out.thing e0;obtain ⟨ga',cp3,bb',g1',_,_,_,_,_,p2,_⟩:=H1.out.thing e0;rw [HTv.out] at g1 g1'
  cases g1
  cases g1'
  have i1:i < m.things.length:=(List.getElem?_eq_some_iff.1 e0).1
  have i2:(i:Int) < (m.things.length:Int):=by omega
  have i0:(0:Int)≤(i:Int):=by omega
  subst hi;clear e0 e1 e2;obtain ⟨d,hd⟩:∃ y,y=u.dir:=⟨_,rfl⟩;rw [←hd] at p1 p2;have HDd:=hid hd;clear hd
  cases d with
  | true =>
   have HRn:Hid (R=false):=hid (by rw [HR.out];exact decide_eq_false (fun x=>by have h9:=(fits_k.2.2.1.1 x).1;rw [HE2.out,fileT_s,←HDd.out] at h9;cases h9))
   go_enter Tryz.func10,Tryz.ntmps10
   go_wp2_with (first
   | (go_at_call_of 28 (Value.string p);go_must (refine hA.mono ?_;rintro e w' ⟨rfl,hw⟩;subst hw))
   | (go_at_call_of 28 (Value.string tt);go_must (refine hA2.mono ?_;rintro e w' ⟨rfl,hw⟩;subst hw))
   | (go_at_call_of 29 (Value.int .i64 ia);go_must (refine hT.mono ?_;rintro e w' ⟨rfl,hw⟩;subst hw))
   | (go_at_call_of 29 (Value.int .i64 ib);go_must (refine hT2.mono ?_;rintro e w' ⟨rfl,hw⟩;subst hw))
   | (go_at_call_of 30 (Value.string tt);go_must (refine hD2.mono ?_;rintro e w' ⟨rfl,hw⟩;subst hw))
   | fail)
   go_ret
   exact ⟨by rw [HRn.out];rfl,HC.out⟩
  | false =>
   by_cases hb:ib < 0
   ·cases D2 with
    | true =>
     have HRn:Hid (R=true):=hid (by rw [HR.out];exact decide_eq_true (fits_k.2.2.1.2 ⟨by rw [HE2.out,fileT_s,←HDd.out],by rw [←HIb.out];exact hb,HD2v.out.symm⟩))
     go_enter Tryz.func10,Tryz.ntmps10
     go_wp2_with (first
   | (go_at_call_of 28 (Value.string p);go_must (refine hA.mono ?_;rintro e w' ⟨rfl,hw⟩;subst hw))
   | (go_at_call_of 28 (Value.string tt);go_must (refine hA2.mono ?_;rintro e w' ⟨rfl,hw⟩;subst hw))
   | (go_at_call_of 29 (Value.int .i64 ia);go_must (refine hT.mono ?_;rintro e w' ⟨rfl,hw⟩;subst hw))
   | (go_at_call_of 29 (Value.int .i64 ib);go_must (refine hT2.mono ?_;rintro e w' ⟨rfl,hw⟩;subst hw))
   | (go_at_call_of 30 (Value.string tt);go_must (refine hD2.mono ?_;rintro e w' ⟨rfl,hw⟩;subst hw))
   | fail)
     go_ret
     exact ⟨by rw [HRn.out];rfl,HC.out⟩
    | false =>
     have HRn:Hid (R=false):=hid (by rw [HR.out];exact decide_eq_false (fun x=>by have h9:=(fits_k.2.2.1.1 x).2.2;rw [←HD2v.out] at h9;cases h9))
     go_enter Tryz.func10,Tryz.ntmps10
     go_wp2_with (first
   | (go_at_call_of 28 (Value.string p);go_must (refine hA.mono ?_;rintro e w' ⟨rfl,hw⟩;subst hw))
   | (go_at_call_of 28 (Value.string tt);go_must (refine hA2.mono ?_;rintro e w' ⟨rfl,hw⟩;subst hw))
   | (go_at_call_of 29 (Value.int .i64 ia);go_must (refine hT.mono ?_;rintro e w' ⟨rfl,hw⟩;subst hw))
   | (go_at_call_of 29 (Value.int .i64 ib);go_must (refine hT2.mono ?_;rintro e w' ⟨rfl,hw⟩;subst hw))
   | (go_at_call_of 30 (Value.string tt);go_must (refine hD2.mono ?_;rintro e w' ⟨rfl,hw⟩;subst hw))
   | fail)
     go_ret
     exact ⟨by rw [HRn.out];rfl,HC.out⟩
   ·have HRn:Hid (R=false):=hid (by rw [HR.out];exact decide_eq_false (fun x=>hb (by rw [HIb.out];exact (fits_k.2.2.1.1 x).2.1)))
    go_enter Tryz.func10,Tryz.ntmps10
    go_wp2_with (first
   | (go_at_call_of 28 (Value.string p);go_must (refine hA.mono ?_;rintro e w' ⟨rfl,hw⟩;subst hw))
   | (go_at_call_of 28 (Value.string tt);go_must (refine hA2.mono ?_;rintro e w' ⟨rfl,hw⟩;subst hw))
   | (go_at_call_of 29 (Value.int .i64 ia);go_must (refine hT.mono ?_;rintro e w' ⟨rfl,hw⟩;subst hw))
   | (go_at_call_of 29 (Value.int .i64 ib);go_must (refine hT2.mono ?_;rintro e w' ⟨rfl,hw⟩;subst hw))
   | (go_at_call_of 30 (Value.string tt);go_must (refine hD2.mono ?_;rintro e w' ⟨rfl,hw⟩;subst hw))
   | fail)
    go_ret
    exact ⟨by rw [HRn.out];rfl,HC.out⟩
set_option maxHeartbeats 4000000 in
set_option maxRecDepth 100000 in
open Classical in
theorem mo_fits4 {B:Nat} {c:MC} {m:Mo} {ls ts:List ByteArray} {p tt:ByteArray} {off len made pick:Int} {da:Option Addr} {dl dc:Nat} (w:World) (h:IsMo w B c m) (hk:MoOk m) (hl:LL ls) (hne:ls≠[]) (hp:p=TP ls):Calls Tryz.prog 10 #[.pointer (some ⟨c.g,0,none⟩),.agg #[.int .i64 4,.string p,.string tt,.int .i64 off,.int .i64 len,.slice da dl dc,.int .i64 made,.int .i64 pick]] w fun e w'=>e=.returned (.bool (decide (fitsP m 4 ls ts)))∧Chg w w' No:=by
 have h1:IsMo (w.alloc (.cells #[.int .i64 4,.string p,.string tt,.int .i64 off,.int .i64 len,.slice da dl dc,.int .i64 made,.int .i64 pick] 34)) B c m:=h.call (Chg.alloc w _ No);have hA:=mo_at _ h1 hk hl;have hT:=mo_thing (id:=atL m.paths ls) _ h1 hk;have hD:=mo_dir _ h1 hk hl hne;have hF:=mo_full _ h1 hk hl hne;rw [←hp] at hA hD hF;have HC:Hid (Chg w (w.alloc (.cells #[.int .i64 4,.string p,.string tt,.int .i64 off,.int .i64 len,.slice da dl dc,.int .i64 made,.int .i64 pick] 34)) No):=hid (Chg.alloc w _ No);obtain ⟨R,hR⟩:∃ y,y=decide (fitsP m 4 ls ts):=⟨_,rfl⟩;rw [←hR];have HR:=hid hR;obtain ⟨⟨a,cp,htv⟩,_⟩:=h.shape;have q0:=h.cells.1;have q1:=h1.cells.1;rw [htv] at q0 q1;have HTv:=hid htv;have H:=hid h;have H1:=hid h1
 have n1:(m.things.length:Int)≤2199023255552:=by have:=hk.nt;omega
 obtain ⟨ia,hia⟩:∃ y,y=atL m.paths ls:=⟨_,rfl⟩;obtain ⟨D,hDv⟩:∃ y,y=dirM m ls:=⟨_,rfl⟩;obtain ⟨F,hFv⟩:∃ y,y=fullM m ls:=⟨_,rfl⟩;obtain ⟨ix,hix⟩:∃ y,y=thK m.things ia 0:=⟨_,rfl⟩;have HIx:Hid (ix=thK m.things (atL m.paths ls) 0):=hid (by rw [hix,hia]);rw [←hia] at hA hT;rw [←hDv] at hD;rw [←hFv] at hF;rw [←hix] at hT;have HDv:=hid hDv;have HFv:=hid hFv;clear hR h h1 hk hl hne hp htv hia hDv hFv hix
 rcases thAt_or m ls with ⟨e1,e2⟩ | ⟨i,u,e0,e1,e2⟩
 ·have hi:ix = -1:=by rw [HIx.out,e1]
  have HE2:=hid e2;clear e1 e2;subst hi;have HRn:Hid (R=false):=hid (by rw [HR.out];exact decide_eq_false (fun x=>fileT_n (by rw [←HE2.out];exact fits_k.2.2.2.1.1 x)))
  go_enter Tryz.func10,Tryz.ntmps10
  go_wp2_with (first
   | (go_at_call_of 28 (Value.string p);go_must (refine hA.mono ?_;rintro e w' ⟨rfl,hw⟩;subst hw))
   | (go_at_call 29;go_must (refine hT.mono ?_;rintro e w' ⟨rfl,hw⟩;subst hw))
   | (go_at_call_of 30 (Value.string p);go_must (refine hD.mono ?_;rintro e w' ⟨rfl,hw⟩;subst hw))
   | (go_at_call_of 31 (Value.string p);go_must (refine hF.mono ?_;rintro e w' ⟨rfl,hw⟩;subst hw))
   | fail)
  go_ret
  exact ⟨by rw [HRn.out];rfl,HC.out⟩
 ·have hi:ix=(i:Int):=by rw [HIx.out,e1]
  have HE2:=hid e2;obtain ⟨ga,cp2,bb,g1,_,_,_,_,_,p1,_⟩:=H.out.thing e0;obtain ⟨ga',cp3,bb',g1',_,_,_,_,_,p2,_⟩:=H1.out.thing e0;rw [HTv.out] at g1 g1'
  cases g1
  cases g1'
  have i1:i < m.things.length:=(List.getElem?_eq_some_iff.1 e0).1
  have i2:(i:Int) < (m.things.length:Int):=by omega
  have i0:(0:Int)≤(i:Int):=by omega
  subst hi;clear e0 e1 e2;obtain ⟨d,hd⟩:∃ y,y=u.dir:=⟨_,rfl⟩;rw [←hd] at p1 p2;have HDd:=hid hd;clear hd
  cases d with
  | true =>
   have HRn:Hid (R=false):=hid (by rw [HR.out];exact decide_eq_false (fun x=>by have h9:=fits_k.2.2.2.1.1 x;rw [HE2.out,fileT_s,←HDd.out] at h9;cases h9))
   go_enter Tryz.func10,Tryz.ntmps10
   go_wp2_with (first
   | (go_at_call_of 28 (Value.string p);go_must (refine hA.mono ?_;rintro e w' ⟨rfl,hw⟩;subst hw))
   | (go_at_call 29;go_must (refine hT.mono ?_;rintro e w' ⟨rfl,hw⟩;subst hw))
   | (go_at_call_of 30 (Value.string p);go_must (refine hD.mono ?_;rintro e w' ⟨rfl,hw⟩;subst hw))
   | (go_at_call_of 31 (Value.string p);go_must (refine hF.mono ?_;rintro e w' ⟨rfl,hw⟩;subst hw))
   | fail)
   go_ret
   exact ⟨by rw [HRn.out];rfl,HC.out⟩
  | false =>
   have HRn:Hid (R=true):=hid (by rw [HR.out];exact decide_eq_true (fits_k.2.2.2.1.2 (by rw [HE2.out,fileT_s,←HDd.out])))
   go_enter Tryz.func10,Tryz.ntmps10
   go_wp2_with (first
   | (go_at_call_of 28 (Value.string p);go_must (refine hA.mono ?_;rintro e w' ⟨rfl,hw⟩;subst hw))
   | (go_at_call 29;go_must (refine hT.mono ?_;rintro e w' ⟨rfl,hw⟩;subst hw))
   | (go_at_call_of 30 (Value.string p);go_must (refine hD.mono ?_;rintro e w' ⟨rfl,hw⟩;subst hw))
   | (go_at_call_of 31 (Value.string p);go_must (refine hF.mono ?_;rintro e w' ⟨rfl,hw⟩;subst hw))
   | fail)
   go_ret
   exact ⟨by rw [HRn.out];rfl,HC.out⟩
set_option maxHeartbeats 4000000 in
set_option maxRecDepth 100000 in
open Classical in
theorem mo_fits5 {B:Nat} {c:MC} {m:Mo} {ls ts:List ByteArray} {p tt:ByteArray} {off len made pick:Int} {da:Option Addr} {dl dc:Nat} (w:World) (h:IsMo w B c m) (hk:MoOk m) (hl:LL ls) (hne:ls≠[]) (hp:p=TP ls):Calls Tryz.prog 10 #[.pointer (some ⟨c.g,0,none⟩),.agg #[.int .i64 5,.string p,.string tt,.int .i64 off,.int .i64 len,.slice da dl dc,.int .i64 made,.int .i64 pick]] w fun e w'=>e=.returned (.bool (decide (fitsP m 5 ls ts)))∧Chg w w' No:=by
 have h1:IsMo (w.alloc (.cells #[.int .i64 5,.string p,.string tt,.int .i64 off,.int .i64 len,.slice da dl dc,.int .i64 made,.int .i64 pick] 34)) B c m:=h.call (Chg.alloc w _ No);have hA:=mo_at _ h1 hk hl;have hT:=mo_thing (id:=atL m.paths ls) _ h1 hk;have hD:=mo_dir _ h1 hk hl hne;have hF:=mo_full _ h1 hk hl hne;rw [←hp] at hA hD hF;have HC:Hid (Chg w (w.alloc (.cells #[.int .i64 5,.string p,.string tt,.int .i64 off,.int .i64 len,.slice da dl dc,.int .i64 made,.int .i64 pick] 34)) No):=hid (Chg.alloc w _ No);obtain ⟨R,hR⟩:∃ y,y=decide (fitsP m 5 ls ts):=⟨_,rfl⟩;rw [←hR];have HR:=hid hR;obtain ⟨⟨a,cp,htv⟩,_⟩:=h.shape;have q0:=h.cells.1;have q1:=h1.cells.1;rw [htv] at q0 q1;have HTv:=hid htv;have H:=hid h;have H1:=hid h1
 have n1:(m.things.length:Int)≤2199023255552:=by have:=hk.nt;omega
 obtain ⟨ia,hia⟩:∃ y,y=atL m.paths ls:=⟨_,rfl⟩;obtain ⟨D,hDv⟩:∃ y,y=dirM m ls:=⟨_,rfl⟩;obtain ⟨F,hFv⟩:∃ y,y=fullM m ls:=⟨_,rfl⟩;obtain ⟨ix,hix⟩:∃ y,y=thK m.things ia 0:=⟨_,rfl⟩;have HIx:Hid (ix=thK m.things (atL m.paths ls) 0):=hid (by rw [hix,hia]);rw [←hia] at hA hT;rw [←hDv] at hD;rw [←hFv] at hF;rw [←hix] at hT;have HDv:=hid hDv;have HFv:=hid hFv;clear hR h h1 hk hl hne hp htv hia hDv hFv hix
 rcases thAt_or m ls with ⟨e1,e2⟩ | ⟨i,u,e0,e1,e2⟩
 ·have hi:ix = -1:=by rw [HIx.out,e1]
  have HE2:=hid e2;clear e1 e2;subst hi;have HRn:Hid (R=false):=hid (by rw [HR.out];exact decide_eq_false (fun x=>by have h9:=(fits_k.2.2.2.2.1.1 x).1;rw [HE2.out] at h9;cases h9))
  go_enter Tryz.func10,Tryz.ntmps10
  go_wp2_with (first
   | (go_at_call_of 28 (Value.string p);go_must (refine hA.mono ?_;rintro e w' ⟨rfl,hw⟩;subst hw))
   | (go_at_call 29;go_must (refine hT.mono ?_;rintro e w' ⟨rfl,hw⟩;subst hw))
   | (go_at_call_of 30 (Value.string p);go_must (refine hD.mono ?_;rintro e w' ⟨rfl,hw⟩;subst hw))
   | (go_at_call_of 31 (Value.string p);go_must (refine hF.mono ?_;rintro e w' ⟨rfl,hw⟩;subst hw))
   | fail)
  go_ret
  exact ⟨by rw [HRn.out];rfl,HC.out⟩
 ·have hi:ix=(i:Int):=by rw [HIx.out,e1]
  have HE2:=hid e2;obtain ⟨ga,cp2,bb,g1,_,_,_,_,_,p1,_⟩:=H.out.thing e0;obtain ⟨ga',cp3,bb',g1',_,_,_,_,_,p2,_⟩:=H1.out.thing e0;rw [HTv.out] at g1 g1'
  cases g1
  cases g1'
  have i1:i < m.things.length:=(List.getElem?_eq_some_iff.1 e0).1
  have i2:(i:Int) < (m.things.length:Int):=by omega
  have i0:(0:Int)≤(i:Int):=by omega
  subst hi;clear e0 e1 e2;obtain ⟨d,hd⟩:∃ y,y=u.dir:=⟨_,rfl⟩;rw [←hd] at p1 p2;have HDd:=hid hd;clear hd
  cases d with
  | false =>
   have HRn:Hid (R=false):=hid (by rw [HR.out];exact decide_eq_false (fun x=>by have h9:=(fits_k.2.2.2.2.1.1 x).1;rw [HE2.out] at h9;have h9:u.dir=true:=h9;rw [←HDd.out] at h9;cases h9))
   go_enter Tryz.func10,Tryz.ntmps10
   go_wp2_with (first
   | (go_at_call_of 28 (Value.string p);go_must (refine hA.mono ?_;rintro e w' ⟨rfl,hw⟩;subst hw))
   | (go_at_call 29;go_must (refine hT.mono ?_;rintro e w' ⟨rfl,hw⟩;subst hw))
   | (go_at_call_of 30 (Value.string p);go_must (refine hD.mono ?_;rintro e w' ⟨rfl,hw⟩;subst hw))
   | (go_at_call_of 31 (Value.string p);go_must (refine hF.mono ?_;rintro e w' ⟨rfl,hw⟩;subst hw))
   | fail)
   go_ret
   exact ⟨by rw [HRn.out];rfl,HC.out⟩
  | true =>
   cases F with
   | true =>
    have HRn:Hid (R=false):=hid (by rw [HR.out];exact decide_eq_false (fun x=>by have h9:=(fits_k.2.2.2.2.1.1 x).2;rw [←HFv.out] at h9;cases h9))
    go_enter Tryz.func10,Tryz.ntmps10
    go_wp2_with (first
   | (go_at_call_of 28 (Value.string p);go_must (refine hA.mono ?_;rintro e w' ⟨rfl,hw⟩;subst hw))
   | (go_at_call 29;go_must (refine hT.mono ?_;rintro e w' ⟨rfl,hw⟩;subst hw))
   | (go_at_call_of 30 (Value.string p);go_must (refine hD.mono ?_;rintro e w' ⟨rfl,hw⟩;subst hw))
   | (go_at_call_of 31 (Value.string p);go_must (refine hF.mono ?_;rintro e w' ⟨rfl,hw⟩;subst hw))
   | fail)
    go_ret
    exact ⟨by rw [HRn.out];rfl,HC.out⟩
   | false =>
    have HRn:Hid (R=true):=hid (by rw [HR.out];exact decide_eq_true (fits_k.2.2.2.2.1.2 ⟨by rw [HE2.out];exact HDd.out.symm,HFv.out.symm⟩))
    go_enter Tryz.func10,Tryz.ntmps10
    go_wp2_with (first
   | (go_at_call_of 28 (Value.string p);go_must (refine hA.mono ?_;rintro e w' ⟨rfl,hw⟩;subst hw))
   | (go_at_call 29;go_must (refine hT.mono ?_;rintro e w' ⟨rfl,hw⟩;subst hw))
   | (go_at_call_of 30 (Value.string p);go_must (refine hD.mono ?_;rintro e w' ⟨rfl,hw⟩;subst hw))
   | (go_at_call_of 31 (Value.string p);go_must (refine hF.mono ?_;rintro e w' ⟨rfl,hw⟩;subst hw))
   | fail)
    go_ret
    exact ⟨by rw [HRn.out];rfl,HC.out⟩
set_option maxHeartbeats 4000000 in
set_option maxRecDepth 100000 in
open Classical in
theorem mo_fits6 {B:Nat} {c:MC} {m:Mo} {ls ts:List ByteArray} {p tt:ByteArray} {off len made pick:Int} {da:Option Addr} {dl dc:Nat} (w:World) (h:IsMo w B c m) (hk:MoOk m) (hl:LL ls) (hne:ls≠[]) (hp:p=TP ls) (ht:LL ts) (htn:ts≠[]) (htt:tt=TP ts):Calls Tryz.prog 10 #[.pointer (some ⟨c.g,0,none⟩),.agg #[.int .i64 6,.string p,.string tt,.int .i64 off,.int .i64 len,.slice da dl dc,.int .i64 made,.int .i64 pick]] w fun e w'=>e=.returned (.bool (decide (fitsP m 6 ls ts)))∧Chg w w' No:=by
 have h1:IsMo (w.alloc (.cells #[.int .i64 6,.string p,.string tt,.int .i64 off,.int .i64 len,.slice da dl dc,.int .i64 made,.int .i64 pick] 34)) B c m:=h.call (Chg.alloc w _ No);have hA:=mo_at _ h1 hk hl;have hT:=mo_thing (id:=atL m.paths ls) _ h1 hk;have hD:=mo_dir _ h1 hk hl hne;have hF:=mo_full _ h1 hk hl hne;rw [←hp] at hA hD hF;have hA2:=mo_at _ h1 hk ht;have hT2:=mo_thing (id:=atL m.paths ts) _ h1 hk;have hD2:=mo_dir _ h1 hk ht htn;rw [←htt] at hA2 hD2;have HC:Hid (Chg w (w.alloc (.cells #[.int .i64 6,.string p,.string tt,.int .i64 off,.int .i64 len,.slice da dl dc,.int .i64 made,.int .i64 pick] 34)) No):=hid (Chg.alloc w _ No);obtain ⟨R,hR⟩:∃ y,y=decide (fitsP m 6 ls ts):=⟨_,rfl⟩;rw [←hR];have HR:=hid hR;obtain ⟨⟨a,cp,htv⟩,_⟩:=h.shape;have q0:=h.cells.1;have q1:=h1.cells.1;rw [htv] at q0 q1;have HTv:=hid htv;have H:=hid h;have H1:=hid h1
 have n1:(m.things.length:Int)≤2199023255552:=by have:=hk.nt;omega
 obtain ⟨ia,hia⟩:∃ y,y=atL m.paths ls:=⟨_,rfl⟩;obtain ⟨D,hDv⟩:∃ y,y=dirM m ls:=⟨_,rfl⟩;obtain ⟨F,hFv⟩:∃ y,y=fullM m ls:=⟨_,rfl⟩;obtain ⟨ix,hix⟩:∃ y,y=thK m.things ia 0:=⟨_,rfl⟩;have HIx:Hid (ix=thK m.things (atL m.paths ls) 0):=hid (by rw [hix,hia]);rw [←hia] at hA hT;rw [←hDv] at hD;rw [←hFv] at hF;rw [←hix] at hT;have HDv:=hid hDv;have HFv:=hid hFv;have HL:=hid hl;have HNe:=hid hne;have HP:=hid hp;have HL2:=hid ht;have HN2:=hid htn;have HT2:=hid htt;obtain ⟨ib,hib⟩:∃ y,y=atL m.paths ts:=⟨_,rfl⟩;obtain ⟨D2,hD2v⟩:∃ y,y=dirM m ts:=⟨_,rfl⟩;obtain ⟨jx,hjx⟩:∃ y,y=thK m.things ib 0:=⟨_,rfl⟩;have HJx:Hid (jx=thK m.things (atL m.paths ts) 0):=hid (by rw [hjx,hib]);rw [←hib] at hA2 hT2;rw [←hD2v] at hD2;rw [←hjx] at hT2;have HIb:=hid hib;have HD2v:=hid hD2v;clear ht htn htt hib hD2v hjx;clear hR h h1 hk hl hne hp htv hia hDv hFv hix
 rcases thAt_or m ls with ⟨e1,e2⟩ | ⟨i,u,e0,e1,e2⟩
 ·have hi:ix = -1:=by rw [HIx.out,e1]
  have HE2:=hid e2;clear e1 e2;subst hi;have HRn:Hid (R=false):=hid (by rw [HR.out];exact decide_eq_false (fun x=>(fits_k.2.2.2.2.2.1.1 x).1.1 HE2.out))
  go_enter Tryz.func10,Tryz.ntmps10
  go_wp2_with (first
   | (go_at_call_of 28 (Value.string p);go_must (refine hA.mono ?_;rintro e w' ⟨rfl,hw⟩;subst hw))
   | (go_at_call_of 28 (Value.string tt);go_must (refine hA2.mono ?_;rintro e w' ⟨rfl,hw⟩;subst hw))
   | (go_at_call_of 29 (Value.int .i64 ia);go_must (refine hT.mono ?_;rintro e w' ⟨rfl,hw⟩;subst hw))
   | (go_at_call_of 29 (Value.int .i64 ib);go_must (refine hT2.mono ?_;rintro e w' ⟨rfl,hw⟩;subst hw))
   | (go_at_call_of 30 (Value.string tt);go_must (refine hD2.mono ?_;rintro e w' ⟨rfl,hw⟩;subst hw))
   | fail)
  go_ret
  exact ⟨by rw [HRn.out];rfl,HC.out⟩
 ·have hi:ix=(i:Int):=by rw [HIx.out,e1]
  have HE2:=hid e2;obtain ⟨ga,cp2,bb,g1,_,_,_,_,_,p1,_⟩:=H.out.thing e0;obtain ⟨ga',cp3,bb',g1',_,_,_,_,_,p2,_⟩:=H1.out.thing e0;rw [HTv.out] at g1 g1'
  cases g1
  cases g1'
  have i1:i < m.things.length:=(List.getElem?_eq_some_iff.1 e0).1
  have i2:(i:Int) < (m.things.length:Int):=by omega
  have i0:(0:Int)≤(i:Int):=by omega
  subst hi;clear e0 e1 e2;obtain ⟨d,hd⟩:∃ y,y=u.dir:=⟨_,rfl⟩;rw [←hd] at p1 p2;have HDd:=hid hd;clear hd
  cases D2 with
  | false =>
   have HRn:Hid (R=false):=hid (by rw [HR.out];exact decide_eq_false (fun x=>by have h9:=(fits_k.2.2.2.2.2.1.1 x).1.2;rw [←HD2v.out] at h9;cases h9))
   go_enter Tryz.func10,Tryz.ntmps10
   go_wp2_with (first
   | (go_at_call_of 28 (Value.string p);go_must (refine hA.mono ?_;rintro e w' ⟨rfl,hw⟩;subst hw))
   | (go_at_call_of 28 (Value.string tt);go_must (refine hA2.mono ?_;rintro e w' ⟨rfl,hw⟩;subst hw))
   | (go_at_call_of 29 (Value.int .i64 ia);go_must (refine hT.mono ?_;rintro e w' ⟨rfl,hw⟩;subst hw))
   | (go_at_call_of 29 (Value.int .i64 ib);go_must (refine hT2.mono ?_;rintro e w' ⟨rfl,hw⟩;subst hw))
   | (go_at_call_of 30 (Value.string tt);go_must (refine hD2.mono ?_;rintro e w' ⟨rfl,hw⟩;subst hw))
   | fail)
   go_ret
   exact ⟨by rw [HRn.out];rfl,HC.out⟩
  | true =>
   by_cases hst:p=tt
   ·have z1:(p.toList == tt.toList)=true:=by rw [hst];exact beq_self_eq_true _
    have HRn:Hid (R=true):=hid (by rw [HR.out];exact decide_eq_true (fits_k.2.2.2.2.2.1.2 ⟨⟨by rw [HE2.out];exact (fun c9=>by cases c9),HD2v.out.symm⟩,.inl ((TP_inj HL.out HL2.out).1 (by rw [←HP.out,←HT2.out];exact hst))⟩));clear hst
    go_enter Tryz.func10,Tryz.ntmps10
    go_wp2_with (first
   | (go_at_call_of 28 (Value.string p);go_must (refine hA.mono ?_;rintro e w' ⟨rfl,hw⟩;subst hw))
   | (go_at_call_of 28 (Value.string tt);go_must (refine hA2.mono ?_;rintro e w' ⟨rfl,hw⟩;subst hw))
   | (go_at_call_of 29 (Value.int .i64 ia);go_must (refine hT.mono ?_;rintro e w' ⟨rfl,hw⟩;subst hw))
   | (go_at_call_of 29 (Value.int .i64 ib);go_must (refine hT2.mono ?_;rintro e w' ⟨rfl,hw⟩;subst hw))
   | (go_at_call_of 30 (Value.string tt);go_must (refine hD2.mono ?_;rintro e w' ⟨rfl,hw⟩;subst hw))
   | fail)
    go_ret
    exact ⟨by rw [HRn.out];rfl,HC.out⟩
   ·have z1:=ba_ne hst
    have HNt:Hid (ls≠ts):=hid (fun c9=>hst (by rw [HP.out,HT2.out,c9]));clear hst;obtain ⟨pz,qz,u1,u2,u3,u4,u5,u6⟩:=TP_under HL.out HL2.out HNe.out HN2.out;rw [←HT2.out] at u1 u5 u6;rw [←HP.out] at u2 u5;have HB:Hid (belowB ts ls=true↔(qz < pz∧tt.extract 0 qz=p)):=hid (by unfold belowB;rw [decide_eq_true_iff];exact u5);clear u5;have hb:=get_bt tt
    have p3:(pz:Int)≤200:=by omega
    have p4:(qz:Int)≤200:=by omega
    cases d with
    | true =>
     have HK6:Hid (fitsP m 6 ls ts↔(thAt m ts=none∧belowB ts ls=false)):=hid (by
      rw [fits_k.2.2.2.2.2.1,HE2.out,if_pos (show dirT (some u)=true from HDd.out.symm)]
      exact ⟨fun x=>x.2.resolve_left HNt.out,fun x=>⟨⟨(fun c9=>by cases c9),HD2v.out.symm⟩,.inr x⟩⟩)
     rcases thAt_or m ts with ⟨e3,e4⟩ | ⟨j,v,e5,e3,e4⟩
     ·have hj:jx = -1:=by rw [HJx.out,e3]
      have HE4:=hid e4;clear e3 e4;subst hj
      by_cases hqp:qz < pz
      ·have v1:(qz:Int) < (pz:Int):=by omega
       have v2:decide ((qz:Int) < (pz:Int))=true:=decide_eq_true v1;have v3:=u6 hqp
       by_cases hx:tt.extract 0 qz=p
       ·have z3:((tt.extract 0 qz).toList == p.toList)=true:=by rw [hx];exact beq_self_eq_true _
        have z4:(bt tt qz == 47)=true:=by rw [v3];rfl
        have HIn:=hid (HB.out.2 ⟨hqp,hx⟩);clear u6 hx;have HRn:Hid (R=false):=hid (by rw [HR.out];exact decide_eq_false (fun x=>by have h9:=(HK6.out.1 x).2;rw [HIn.out] at h9;cases h9))
        go_enter Tryz.func10,Tryz.ntmps10
        go_upto_region 20 with (first
   | (go_at_call_of 28 (Value.string p);go_must (refine hA.mono ?_;rintro e w' ⟨rfl,hw⟩;subst hw))
   | (go_at_call_of 28 (Value.string tt);go_must (refine hA2.mono ?_;rintro e w' ⟨rfl,hw⟩;subst hw))
   | (go_at_call_of 29 (Value.int .i64 ia);go_must (refine hT.mono ?_;rintro e w' ⟨rfl,hw⟩;subst hw))
   | (go_at_call_of 29 (Value.int .i64 ib);go_must (refine hT2.mono ?_;rintro e w' ⟨rfl,hw⟩;subst hw))
   | (go_at_call_of 30 (Value.string tt);go_must (refine hD2.mono ?_;rintro e w' ⟨rfl,hw⟩;subst hw))
   | fail)
        go_quiet (fail)
        go_wp2_with fail
        go_ret
        exact ⟨by rw [HRn.out];rfl,HC.out.tr (chg_drewN _ _)⟩
       ·have z3:=ba_ne hx
        have HIn:Hid (belowB ts ls=false):=hid (Bool.eq_false_iff.2 fun c9=>hx (HB.out.1 c9).2);clear u6 hx;have HRn:Hid (R=true):=hid (by rw [HR.out];exact decide_eq_true (HK6.out.2 ⟨HE4.out,HIn.out⟩))
        go_enter Tryz.func10,Tryz.ntmps10
        go_upto_region 20 with (first
   | (go_at_call_of 28 (Value.string p);go_must (refine hA.mono ?_;rintro e w' ⟨rfl,hw⟩;subst hw))
   | (go_at_call_of 28 (Value.string tt);go_must (refine hA2.mono ?_;rintro e w' ⟨rfl,hw⟩;subst hw))
   | (go_at_call_of 29 (Value.int .i64 ia);go_must (refine hT.mono ?_;rintro e w' ⟨rfl,hw⟩;subst hw))
   | (go_at_call_of 29 (Value.int .i64 ib);go_must (refine hT2.mono ?_;rintro e w' ⟨rfl,hw⟩;subst hw))
   | (go_at_call_of 30 (Value.string tt);go_must (refine hD2.mono ?_;rintro e w' ⟨rfl,hw⟩;subst hw))
   | fail)
        go_quiet (fail)
        go_wp2_with fail
        go_ret
        exact ⟨by rw [HRn.out];rfl,HC.out.tr (chg_drewN _ _)⟩
      ·have v1 : ¬ (qz:Int) < (pz:Int):=by omega
       have v2:decide ((qz:Int) < (pz:Int))=false:=decide_eq_false v1;have HIn:Hid (belowB ts ls=false):=hid (Bool.eq_false_iff.2 fun c9=>hqp (HB.out.1 c9).1);clear u6;have HRn:Hid (R=true):=hid (by rw [HR.out];exact decide_eq_true (HK6.out.2 ⟨HE4.out,HIn.out⟩))
       go_enter Tryz.func10,Tryz.ntmps10
       go_upto_region 20 with (first
   | (go_at_call_of 28 (Value.string p);go_must (refine hA.mono ?_;rintro e w' ⟨rfl,hw⟩;subst hw))
   | (go_at_call_of 28 (Value.string tt);go_must (refine hA2.mono ?_;rintro e w' ⟨rfl,hw⟩;subst hw))
   | (go_at_call_of 29 (Value.int .i64 ia);go_must (refine hT.mono ?_;rintro e w' ⟨rfl,hw⟩;subst hw))
   | (go_at_call_of 29 (Value.int .i64 ib);go_must (refine hT2.mono ?_;rintro e w' ⟨rfl,hw⟩;subst hw))
   | (go_at_call_of 30 (Value.string tt);go_must (refine hD2.mono ?_;rintro e w' ⟨rfl,hw⟩;subst hw))
   | fail)
       go_quiet (fail)
       go_wp2_with fail
       go_ret
       exact ⟨by rw [HRn.out];rfl,HC.out.tr (chg_drewN _ _)⟩
     ·have hj:jx=(j:Int):=by rw [HJx.out,e3]
      have HE4:=hid e4;clear e3 e4 e5;subst hj
      have j0 : ¬ (j:Int) < 0:=by omega
      by_cases hqp:qz < pz
      ·have v1:(qz:Int) < (pz:Int):=by omega
       have v2:decide ((qz:Int) < (pz:Int))=true:=decide_eq_true v1;have v3:=u6 hqp
       by_cases hx:tt.extract 0 qz=p
       ·have z3:((tt.extract 0 qz).toList == p.toList)=true:=by rw [hx];exact beq_self_eq_true _
        have z4:(bt tt qz == 47)=true:=by rw [v3];rfl
        clear u6 hx;have HRn:Hid (R=false):=hid (by rw [HR.out];exact decide_eq_false (fun x=>by have h9:=(HK6.out.1 x).1;rw [HE4.out] at h9;cases h9))
        go_enter Tryz.func10,Tryz.ntmps10
        go_upto_region 20 with (first
   | (go_at_call_of 28 (Value.string p);go_must (refine hA.mono ?_;rintro e w' ⟨rfl,hw⟩;subst hw))
   | (go_at_call_of 28 (Value.string tt);go_must (refine hA2.mono ?_;rintro e w' ⟨rfl,hw⟩;subst hw))
   | (go_at_call_of 29 (Value.int .i64 ia);go_must (refine hT.mono ?_;rintro e w' ⟨rfl,hw⟩;subst hw))
   | (go_at_call_of 29 (Value.int .i64 ib);go_must (refine hT2.mono ?_;rintro e w' ⟨rfl,hw⟩;subst hw))
   | (go_at_call_of 30 (Value.string tt);go_must (refine hD2.mono ?_;rintro e w' ⟨rfl,hw⟩;subst hw))
   | fail)
        go_quiet (fail)
        go_wp2_with fail
        go_ret
        exact ⟨by rw [HRn.out];rfl,HC.out.tr (chg_drewN _ _)⟩
       ·have z3:=ba_ne hx
        clear u6 hx;have HRn:Hid (R=false):=hid (by rw [HR.out];exact decide_eq_false (fun x=>by have h9:=(HK6.out.1 x).1;rw [HE4.out] at h9;cases h9))
        go_enter Tryz.func10,Tryz.ntmps10
        go_upto_region 20 with (first
   | (go_at_call_of 28 (Value.string p);go_must (refine hA.mono ?_;rintro e w' ⟨rfl,hw⟩;subst hw))
   | (go_at_call_of 28 (Value.string tt);go_must (refine hA2.mono ?_;rintro e w' ⟨rfl,hw⟩;subst hw))
   | (go_at_call_of 29 (Value.int .i64 ia);go_must (refine hT.mono ?_;rintro e w' ⟨rfl,hw⟩;subst hw))
   | (go_at_call_of 29 (Value.int .i64 ib);go_must (refine hT2.mono ?_;rintro e w' ⟨rfl,hw⟩;subst hw))
   | (go_at_call_of 30 (Value.string tt);go_must (refine hD2.mono ?_;rintro e w' ⟨rfl,hw⟩;subst hw))
   | fail)
        go_quiet (fail)
        go_wp2_with fail
        go_ret
        exact ⟨by rw [HRn.out];rfl,HC.out.tr (chg_drewN _ _)⟩
      ·have v1 : ¬ (qz:Int) < (pz:Int):=by omega
       have v2:decide ((qz:Int) < (pz:Int))=false:=decide_eq_false v1;clear u6;have HRn:Hid (R=false):=hid (by rw [HR.out];exact decide_eq_false (fun x=>by have h9:=(HK6.out.1 x).1;rw [HE4.out] at h9;cases h9))
       go_enter Tryz.func10,Tryz.ntmps10
       go_upto_region 20 with (first
   | (go_at_call_of 28 (Value.string p);go_must (refine hA.mono ?_;rintro e w' ⟨rfl,hw⟩;subst hw))
   | (go_at_call_of 28 (Value.string tt);go_must (refine hA2.mono ?_;rintro e w' ⟨rfl,hw⟩;subst hw))
   | (go_at_call_of 29 (Value.int .i64 ia);go_must (refine hT.mono ?_;rintro e w' ⟨rfl,hw⟩;subst hw))
   | (go_at_call_of 29 (Value.int .i64 ib);go_must (refine hT2.mono ?_;rintro e w' ⟨rfl,hw⟩;subst hw))
   | (go_at_call_of 30 (Value.string tt);go_must (refine hD2.mono ?_;rintro e w' ⟨rfl,hw⟩;subst hw))
   | fail)
       go_quiet (fail)
       go_wp2_with fail
       go_ret
       exact ⟨by rw [HRn.out];rfl,HC.out.tr (chg_drewN _ _)⟩
    | false =>
     have HK6:Hid (fitsP m 6 ls ts↔(thAt m ts=none∨fileT (thAt m ts))):=hid (by
      rw [fits_k.2.2.2.2.2.1,HE2.out,if_neg (show ¬ dirT (some u)=true from fun c9=>by have c9:u.dir=true:=c9;rw [←HDd.out] at c9;cases c9)]
      exact ⟨fun x=>x.2.resolve_left HNt.out,fun x=>⟨⟨(fun c9=>by cases c9),HD2v.out.symm⟩,.inr x⟩⟩)
     clear u6 u1 u2 hb
     rcases thAt_or m ts with ⟨e3,e4⟩ | ⟨j,v,e5,e3,e4⟩
     ·have hj:jx = -1:=by rw [HJx.out,e3]
      have HE4:=hid e4;clear e3 e4;subst hj;have HRn:Hid (R=true):=hid (by rw [HR.out];exact decide_eq_true (HK6.out.2 (.inl HE4.out)))
      go_enter Tryz.func10,Tryz.ntmps10
      go_wp2_with (first
   | (go_at_call_of 28 (Value.string p);go_must (refine hA.mono ?_;rintro e w' ⟨rfl,hw⟩;subst hw))
   | (go_at_call_of 28 (Value.string tt);go_must (refine hA2.mono ?_;rintro e w' ⟨rfl,hw⟩;subst hw))
   | (go_at_call_of 29 (Value.int .i64 ia);go_must (refine hT.mono ?_;rintro e w' ⟨rfl,hw⟩;subst hw))
   | (go_at_call_of 29 (Value.int .i64 ib);go_must (refine hT2.mono ?_;rintro e w' ⟨rfl,hw⟩;subst hw))
   | (go_at_call_of 30 (Value.string tt);go_must (refine hD2.mono ?_;rintro e w' ⟨rfl,hw⟩;subst hw))
   | fail)
      go_ret
      exact ⟨by rw [HRn.out];rfl,HC.out⟩
     ·have hj:jx=(j:Int):=by rw [HJx.out,e3]
      have HE4:=hid e4;have j3:j < m.things.length:=(List.getElem?_eq_some_iff.1 e5).1
      have j2:(j:Int) < (m.things.length:Int):=by omega
      have j0:(0:Int)≤(j:Int):=by omega
      obtain ⟨gb,cp4,bb2,g2,_,_,_,_,_,p5,_⟩:=H.out.thing e5;obtain ⟨gb',cp5,bb3,g3,_,_,_,_,_,p6,_⟩:=H1.out.thing e5;rw [HTv.out] at g2 g3
      cases g2
      cases g3
      obtain ⟨d2,hd2⟩:∃ y,y=v.dir:=⟨_,rfl⟩;rw [←hd2] at p5 p6;have HDd2:=hid hd2;clear e3 e4 e5 hd2;subst hj
      cases d2 with
      | true =>
       have HRn:Hid (R=false):=hid (by rw [HR.out];exact decide_eq_false (fun x=>by have h9:=HK6.out.1 x;rw [HE4.out,fileT_s,←HDd2.out] at h9;rcases h9 with h9 | h9 <;> cases h9))
       go_enter Tryz.func10,Tryz.ntmps10
       go_wp2_with (first
   | (go_at_call_of 28 (Value.string p);go_must (refine hA.mono ?_;rintro e w' ⟨rfl,hw⟩;subst hw))
   | (go_at_call_of 28 (Value.string tt);go_must (refine hA2.mono ?_;rintro e w' ⟨rfl,hw⟩;subst hw))
   | (go_at_call_of 29 (Value.int .i64 ia);go_must (refine hT.mono ?_;rintro e w' ⟨rfl,hw⟩;subst hw))
   | (go_at_call_of 29 (Value.int .i64 ib);go_must (refine hT2.mono ?_;rintro e w' ⟨rfl,hw⟩;subst hw))
   | (go_at_call_of 30 (Value.string tt);go_must (refine hD2.mono ?_;rintro e w' ⟨rfl,hw⟩;subst hw))
   | fail)
       go_ret
       exact ⟨by rw [HRn.out];rfl,HC.out⟩
      | false =>
       have HRn:Hid (R=true):=hid (by rw [HR.out];exact decide_eq_true (HK6.out.2 (.inr (by rw [HE4.out,fileT_s,←HDd2.out]))))
       go_enter Tryz.func10,Tryz.ntmps10
       go_wp2_with (first
   | (go_at_call_of 28 (Value.string p);go_must (refine hA.mono ?_;rintro e w' ⟨rfl,hw⟩;subst hw))
   | (go_at_call_of 28 (Value.string tt);go_must (refine hA2.mono ?_;rintro e w' ⟨rfl,hw⟩;subst hw))
   | (go_at_call_of 29 (Value.int .i64 ia);go_must (refine hT.mono ?_;rintro e w' ⟨rfl,hw⟩;subst hw))
   | (go_at_call_of 29 (Value.int .i64 ib);go_must (refine hT2.mono ?_;rintro e w' ⟨rfl,hw⟩;subst hw))
   | (go_at_call_of 30 (Value.string tt);go_must (refine hD2.mono ?_;rintro e w' ⟨rfl,hw⟩;subst hw))
   | fail)
       go_ret
       exact ⟨by rw [HRn.out];rfl,HC.out⟩
set_option maxHeartbeats 4000000 in
set_option maxRecDepth 100000 in
open Classical in
theorem mo_fits7 {B:Nat} {c:MC} {m:Mo} {ls ts:List ByteArray} {p tt:ByteArray} {off len made pick:Int} {da:Option Addr} {dl dc:Nat} (w:World) (h:IsMo w B c m) (hk:MoOk m) (hl:LL ls) (hne:ls≠[]) (hp:p=TP ls):Calls Tryz.prog 10 #[.pointer (some ⟨c.g,0,none⟩),.agg #[.int .i64 7,.string p,.string tt,.int .i64 off,.int .i64 len,.slice da dl dc,.int .i64 made,.int .i64 pick]] w fun e w'=>e=.returned (.bool (decide (fitsP m 7 ls ts)))∧Chg w w' No:=by
 have h1:IsMo (w.alloc (.cells #[.int .i64 7,.string p,.string tt,.int .i64 off,.int .i64 len,.slice da dl dc,.int .i64 made,.int .i64 pick] 34)) B c m:=h.call (Chg.alloc w _ No);have hA:=mo_at _ h1 hk hl;have hT:=mo_thing (id:=atL m.paths ls) _ h1 hk;have hD:=mo_dir _ h1 hk hl hne;have hF:=mo_full _ h1 hk hl hne;rw [←hp] at hA hD hF;have HC:Hid (Chg w (w.alloc (.cells #[.int .i64 7,.string p,.string tt,.int .i64 off,.int .i64 len,.slice da dl dc,.int .i64 made,.int .i64 pick] 34)) No):=hid (Chg.alloc w _ No);obtain ⟨R,hR⟩:∃ y,y=decide (fitsP m 7 ls ts):=⟨_,rfl⟩;rw [←hR];have HR:=hid hR;obtain ⟨⟨a,cp,htv⟩,_⟩:=h.shape;have q0:=h.cells.1;have q1:=h1.cells.1;rw [htv] at q0 q1;have HTv:=hid htv;have H:=hid h;have H1:=hid h1
 have n1:(m.things.length:Int)≤2199023255552:=by have:=hk.nt;omega
 obtain ⟨ia,hia⟩:∃ y,y=atL m.paths ls:=⟨_,rfl⟩;obtain ⟨D,hDv⟩:∃ y,y=dirM m ls:=⟨_,rfl⟩;obtain ⟨F,hFv⟩:∃ y,y=fullM m ls:=⟨_,rfl⟩;obtain ⟨ix,hix⟩:∃ y,y=thK m.things ia 0:=⟨_,rfl⟩;have HIx:Hid (ix=thK m.things (atL m.paths ls) 0):=hid (by rw [hix,hia]);rw [←hia] at hA hT;rw [←hDv] at hD;rw [←hFv] at hF;rw [←hix] at hT;have HDv:=hid hDv;have HFv:=hid hFv;clear hR h h1 hk hl hne hp htv hia hDv hFv hix
 rcases thAt_or m ls with ⟨e1,e2⟩ | ⟨i,u,e0,e1,e2⟩
 ·have hi:ix = -1:=by rw [HIx.out,e1]
  have HE2:=hid e2;clear e1 e2;subst hi;have HRn:Hid (R=false):=hid (by rw [HR.out];exact decide_eq_false (fun x=>fileT_n (by rw [←HE2.out];exact fits_k.2.2.2.2.2.2.1.1 x)))
  go_enter Tryz.func10,Tryz.ntmps10
  go_wp2_with (first
   | (go_at_call_of 28 (Value.string p);go_must (refine hA.mono ?_;rintro e w' ⟨rfl,hw⟩;subst hw))
   | (go_at_call 29;go_must (refine hT.mono ?_;rintro e w' ⟨rfl,hw⟩;subst hw))
   | (go_at_call_of 30 (Value.string p);go_must (refine hD.mono ?_;rintro e w' ⟨rfl,hw⟩;subst hw))
   | (go_at_call_of 31 (Value.string p);go_must (refine hF.mono ?_;rintro e w' ⟨rfl,hw⟩;subst hw))
   | fail)
  go_ret
  exact ⟨by rw [HRn.out];rfl,HC.out⟩
 ·have hi:ix=(i:Int):=by rw [HIx.out,e1]
  have HE2:=hid e2;obtain ⟨ga,cp2,bb,g1,_,_,_,_,_,p1,_⟩:=H.out.thing e0;obtain ⟨ga',cp3,bb',g1',_,_,_,_,_,p2,_⟩:=H1.out.thing e0;rw [HTv.out] at g1 g1'
  cases g1
  cases g1'
  have i1:i < m.things.length:=(List.getElem?_eq_some_iff.1 e0).1
  have i2:(i:Int) < (m.things.length:Int):=by omega
  have i0:(0:Int)≤(i:Int):=by omega
  subst hi;clear e0 e1 e2;obtain ⟨d,hd⟩:∃ y,y=u.dir:=⟨_,rfl⟩;rw [←hd] at p1 p2;have HDd:=hid hd;clear hd
  cases d with
  | true =>
   have HRn:Hid (R=false):=hid (by rw [HR.out];exact decide_eq_false (fun x=>by have h9:=fits_k.2.2.2.2.2.2.1.1 x;rw [HE2.out,fileT_s,←HDd.out] at h9;cases h9))
   go_enter Tryz.func10,Tryz.ntmps10
   go_wp2_with (first
   | (go_at_call_of 28 (Value.string p);go_must (refine hA.mono ?_;rintro e w' ⟨rfl,hw⟩;subst hw))
   | (go_at_call 29;go_must (refine hT.mono ?_;rintro e w' ⟨rfl,hw⟩;subst hw))
   | (go_at_call_of 30 (Value.string p);go_must (refine hD.mono ?_;rintro e w' ⟨rfl,hw⟩;subst hw))
   | (go_at_call_of 31 (Value.string p);go_must (refine hF.mono ?_;rintro e w' ⟨rfl,hw⟩;subst hw))
   | fail)
   go_ret
   exact ⟨by rw [HRn.out];rfl,HC.out⟩
  | false =>
   have HRn:Hid (R=true):=hid (by rw [HR.out];exact decide_eq_true (fits_k.2.2.2.2.2.2.1.2 (by rw [HE2.out,fileT_s,←HDd.out])))
   go_enter Tryz.func10,Tryz.ntmps10
   go_wp2_with (first
   | (go_at_call_of 28 (Value.string p);go_must (refine hA.mono ?_;rintro e w' ⟨rfl,hw⟩;subst hw))
   | (go_at_call 29;go_must (refine hT.mono ?_;rintro e w' ⟨rfl,hw⟩;subst hw))
   | (go_at_call_of 30 (Value.string p);go_must (refine hD.mono ?_;rintro e w' ⟨rfl,hw⟩;subst hw))
   | (go_at_call_of 31 (Value.string p);go_must (refine hF.mono ?_;rintro e w' ⟨rfl,hw⟩;subst hw))
   | fail)
   go_ret
   exact ⟨by rw [HRn.out];rfl,HC.out⟩
set_option maxHeartbeats 4000000 in
set_option maxRecDepth 100000 in
open Classical in
theorem mo_fits8 {B:Nat} {c:MC} {m:Mo} {ls ts:List ByteArray} {p tt:ByteArray} {off len made pick:Int} {da:Option Addr} {dl dc:Nat} (w:World) (h:IsMo w B c m) (hk:MoOk m) (hl:LL ls) (hne:ls≠[]) (hp:p=TP ls):Calls Tryz.prog 10 #[.pointer (some ⟨c.g,0,none⟩),.agg #[.int .i64 8,.string p,.string tt,.int .i64 off,.int .i64 len,.slice da dl dc,.int .i64 made,.int .i64 pick]] w fun e w'=>e=.returned (.bool (decide (fitsP m 8 ls ts)))∧Chg w w' No:=by
 have h1:IsMo (w.alloc (.cells #[.int .i64 8,.string p,.string tt,.int .i64 off,.int .i64 len,.slice da dl dc,.int .i64 made,.int .i64 pick] 34)) B c m:=h.call (Chg.alloc w _ No);have hA:=mo_at _ h1 hk hl;have hT:=mo_thing (id:=atL m.paths ls) _ h1 hk;have hD:=mo_dir _ h1 hk hl hne;have hF:=mo_full _ h1 hk hl hne;rw [←hp] at hA hD hF;have HC:Hid (Chg w (w.alloc (.cells #[.int .i64 8,.string p,.string tt,.int .i64 off,.int .i64 len,.slice da dl dc,.int .i64 made,.int .i64 pick] 34)) No):=hid (Chg.alloc w _ No);obtain ⟨R,hR⟩:∃ y,y=decide (fitsP m 8 ls ts):=⟨_,rfl⟩;rw [←hR];have HR:=hid hR;obtain ⟨⟨a,cp,htv⟩,_⟩:=h.shape;have q0:=h.cells.1;have q1:=h1.cells.1;rw [htv] at q0 q1;have HTv:=hid htv;have H:=hid h;have H1:=hid h1
 have n1:(m.things.length:Int)≤2199023255552:=by have:=hk.nt;omega
 obtain ⟨ia,hia⟩:∃ y,y=atL m.paths ls:=⟨_,rfl⟩;obtain ⟨D,hDv⟩:∃ y,y=dirM m ls:=⟨_,rfl⟩;obtain ⟨F,hFv⟩:∃ y,y=fullM m ls:=⟨_,rfl⟩;obtain ⟨ix,hix⟩:∃ y,y=thK m.things ia 0:=⟨_,rfl⟩;have HIx:Hid (ix=thK m.things (atL m.paths ls) 0):=hid (by rw [hix,hia]);rw [←hia] at hA hT;rw [←hDv] at hD;rw [←hFv] at hF;rw [←hix] at hT;have HDv:=hid hDv;have HFv:=hid hFv;clear hR h h1 hk hl hne hp htv hia hDv hFv hix
 rcases thAt_or m ls with ⟨e1,e2⟩ | ⟨i,u,e0,e1,e2⟩
 ·have hi:ix = -1:=by rw [HIx.out,e1]
  have HE2:=hid e2;clear e1 e2;subst hi;have HRn:Hid (R=false):=hid (by rw [HR.out];exact decide_eq_false (fun x=>fileT_n (by rw [←HE2.out];exact fits_k.2.2.2.2.2.2.2.1 x)))
  go_enter Tryz.func10,Tryz.ntmps10
  go_wp2_with (first
   | (go_at_call_of 28 (Value.string p);go_must (refine hA.mono ?_;rintro e w' ⟨rfl,hw⟩;subst hw))
   | (go_at_call 29;go_must (refine hT.mono ?_;rintro e w' ⟨rfl,hw⟩;subst hw))
   | (go_at_call_of 30 (Value.string p);go_must (refine hD.mono ?_;rintro e w' ⟨rfl,hw⟩;subst hw))
   | (go_at_call_of 31 (Value.string p);go_must (refine hF.mono ?_;rintro e w' ⟨rfl,hw⟩;subst hw))
   | fail)
  go_ret
  exact ⟨by rw [HRn.out];rfl,HC.out⟩
 ·have hi:ix=(i:Int):=by rw [HIx.out,e1]
  have HE2:=hid e2;obtain ⟨ga,cp2,bb,g1,_,_,_,_,_,p1,_⟩:=H.out.thing e0;obtain ⟨ga',cp3,bb',g1',_,_,_,_,_,p2,_⟩:=H1.out.thing e0;rw [HTv.out] at g1 g1'
  cases g1
  cases g1'
  have i1:i < m.things.length:=(List.getElem?_eq_some_iff.1 e0).1
  have i2:(i:Int) < (m.things.length:Int):=by omega
  have i0:(0:Int)≤(i:Int):=by omega
  subst hi;clear e0 e1 e2;obtain ⟨d,hd⟩:∃ y,y=u.dir:=⟨_,rfl⟩;rw [←hd] at p1 p2;have HDd:=hid hd;clear hd
  cases d with
  | true =>
   have HRn:Hid (R=false):=hid (by rw [HR.out];exact decide_eq_false (fun x=>by have h9:=fits_k.2.2.2.2.2.2.2.1 x;rw [HE2.out,fileT_s,←HDd.out] at h9;cases h9))
   go_enter Tryz.func10,Tryz.ntmps10
   go_wp2_with (first
   | (go_at_call_of 28 (Value.string p);go_must (refine hA.mono ?_;rintro e w' ⟨rfl,hw⟩;subst hw))
   | (go_at_call 29;go_must (refine hT.mono ?_;rintro e w' ⟨rfl,hw⟩;subst hw))
   | (go_at_call_of 30 (Value.string p);go_must (refine hD.mono ?_;rintro e w' ⟨rfl,hw⟩;subst hw))
   | (go_at_call_of 31 (Value.string p);go_must (refine hF.mono ?_;rintro e w' ⟨rfl,hw⟩;subst hw))
   | fail)
   go_ret
   exact ⟨by rw [HRn.out];rfl,HC.out⟩
  | false =>
   have HRn:Hid (R=true):=hid (by rw [HR.out];exact decide_eq_true (fits_k.2.2.2.2.2.2.2.2 (by rw [HE2.out,fileT_s,←HDd.out])))
   go_enter Tryz.func10,Tryz.ntmps10
   go_wp2_with (first
   | (go_at_call_of 28 (Value.string p);go_must (refine hA.mono ?_;rintro e w' ⟨rfl,hw⟩;subst hw))
   | (go_at_call 29;go_must (refine hT.mono ?_;rintro e w' ⟨rfl,hw⟩;subst hw))
   | (go_at_call_of 30 (Value.string p);go_must (refine hD.mono ?_;rintro e w' ⟨rfl,hw⟩;subst hw))
   | (go_at_call_of 31 (Value.string p);go_must (refine hF.mono ?_;rintro e w' ⟨rfl,hw⟩;subst hw))
   | fail)
   go_ret
   exact ⟨by rw [HRn.out];rfl,HC.out⟩
end Go.Proofs.YtmgfilacepnjlaaGreatDoor
