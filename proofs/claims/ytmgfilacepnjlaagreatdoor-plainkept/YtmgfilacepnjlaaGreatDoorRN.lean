/-
 package plain: truncate.
-/
import Derived.Test.YtmgfilacepnjlaaGreatDoorRK
import Derived.Lib.SliceRun
namespace Go.Proofs.YtmgfilacepnjlaaGreatDoor
open Go.RowKit

set_option maxHeartbeats 2000000 in
set_option maxRecDepth 100000 in
theorem read_neg {c:NC} (off cnt:Int) (w:World) (h1:off < 0) :
  Calls Tryz.prog 58 #[.pointer (some ⟨c.p,0,none⟩),.int .i64 off,.int .i64 cnt] w fun e w'=>e=.returned (.tuple #[.slice none 0 0,.int .i64 101])∧Chg w w' No:=by
 go_enter Tryz.func58,Tryz.ntmps58
 go_wp2_with fail
 go_ret2
 exact ⟨rfl,Chg.refl _ _⟩
set_option maxHeartbeats 2000000 in
set_option maxRecDepth 100000 in
theorem read_cnt {c:NC} (off cnt:Int) (w:World) (h1:0≤off) (h2:cnt < 0) :
  Calls Tryz.prog 58 #[.pointer (some ⟨c.p,0,none⟩),.int .i64 off,.int .i64 cnt] w fun e w'=>e=.returned (.tuple #[.slice none 0 0,.int .i64 101])∧Chg w w' No:=by
 have f1 : ¬ off < 0:=by omega
 go_enter Tryz.func58,Tryz.ntmps58
 go_wp2_with fail
 go_ret2
 exact ⟨rfl,Chg.refl _ _⟩
set_option maxHeartbeats 2000000 in
set_option maxRecDepth 100000 in
theorem read_long {c:NC} (off cnt:Int) (w:World) (h1:0≤off) (h2:131072 < cnt) :
  Calls Tryz.prog 58 #[.pointer (some ⟨c.p,0,none⟩),.int .i64 off,.int .i64 cnt] w fun e w'=>e=.returned (.tuple #[.slice none 0 0,.int .i64 101])∧Chg w w' No:=by
 have f1 : ¬ off < 0:=by omega
 have f2 : ¬ cnt < 0:=by omega
 go_enter Tryz.func58,Tryz.ntmps58
 go_wp2_with fail
 go_ret2
 exact ⟨rfl,Chg.refl _ _⟩
set_option maxHeartbeats 2000000 in
set_option maxRecDepth 100000 in
theorem read_end {c:NC} {x:Nd} (off cnt:Int) (w:World) (hx:IsN w c x) (h1:0≤off) (h2:0≤cnt) (h3:cnt≤131072) (h4:x.size≤off) :
  Calls Tryz.prog 58 #[.pointer (some ⟨c.p,0,none⟩),.int .i64 off,.int .i64 cnt] w fun e w'=>e=.returned (.tuple #[.slice none 0 0,.int .i64 0])∧Chg w w' No:=by
 have c3:=hx.c3
 have f1 : ¬ off < 0:=by omega
 have f2 : ¬ cnt < 0:=by omega
 have f3 : ¬ (131072:Int) < cnt:=by omega
 clear hx
 go_enter Tryz.func58,Tryz.ntmps58
 go_wp2_with fail
 go_ret2
 exact ⟨rfl,Chg.refl _ _⟩
set_option maxHeartbeats 2000000 in
set_option maxRecDepth 100000 in
theorem write_neg {q:PC} {c:NC} (off:Int) (a:Option Addr) (n dc:Nat) (w:World) (h1:off < 0) :
  Calls Tryz.prog 56 #[.pointer (some ⟨q.p,0,none⟩),.pointer (some ⟨c.p,0,none⟩),.int .i64 off,.slice a n dc] w fun e w'=>e=.returned (.int .i64 101)∧Chg w w' No:=by
 go_enter Tryz.func56,Tryz.ntmps56
 go_wp2_with fail
 go_ret
 exact ⟨rfl,Chg.refl _ _⟩
set_option maxHeartbeats 2000000 in
set_option maxRecDepth 100000 in
theorem write_long {q:PC} {c:NC} (off:Int) (a:Option Addr) (n dc:Nat) (w:World) (h1:0≤off) (h2:131072 < n) :
  Calls Tryz.prog 56 #[.pointer (some ⟨q.p,0,none⟩),.pointer (some ⟨c.p,0,none⟩),.int .i64 off,.slice a n dc] w fun e w'=>e=.returned (.int .i64 101)∧Chg w w' No:=by
 have f1 : ¬ off < 0:=by omega
 have f2:(131072:Int) < (n:Int):=by omega
 go_enter Tryz.func56,Tryz.ntmps56
 go_wp2_with fail
 go_ret
 exact ⟨rfl,Chg.refl _ _⟩
set_option maxHeartbeats 2000000 in
set_option maxRecDepth 100000 in
theorem write_far {q:PC} {c:NC} (off:Int) (a:Option Addr) (n dc:Nat) (w:World) (h1:0≤off) (h2:n≤131072) (h3:136704 - (n:Int) < off) :
  Calls Tryz.prog 56 #[.pointer (some ⟨q.p,0,none⟩),.pointer (some ⟨c.p,0,none⟩),.int .i64 off,.slice a n dc] w fun e w'=>e=.returned (.int .i64 101)∧Chg w w' No:=by
 have f1 : ¬ off < 0:=by omega
 have f2 : ¬ (131072:Int) < (n:Int):=by omega
 have f4:(n:Int)≤131072:=by omega
 go_enter Tryz.func56,Tryz.ntmps56
 go_wp2_with fail
 go_ret
 exact ⟨rfl,Chg.refl _ _⟩
set_option maxHeartbeats 2000000 in
set_option maxRecDepth 100000 in
theorem write_none {q:PC} {c:NC} (off:Int) (a:Option Addr) (n dc:Nat) (w:World) (h1:0≤off) (h2:n=0) (h3:off≤136704) :
  Calls Tryz.prog 56 #[.pointer (some ⟨q.p,0,none⟩),.pointer (some ⟨c.p,0,none⟩),.int .i64 off,.slice a n dc] w fun e w'=>e=.returned (.int .i64 0)∧Chg w w' No:=by
 subst h2
 have f1 : ¬ off < 0:=by omega
 have f2 : ¬ (136704:Int) < off:=by omega
 go_enter Tryz.func56,Tryz.ntmps56
 go_wp2_with fail
 go_ret
 exact ⟨rfl,Chg.refl _ _⟩
set_option maxHeartbeats 2000000 in
set_option maxRecDepth 100000 in
theorem write_full {q:PC} {s:PSt} {c:NC} {x:Nd} (off:Int) (a:Option Addr) (n dc:Nat) (w:World) (h:IsPl w q s) (hx:IsN w c x) (o:Nat) (ho:off=(o:Int)) (h2:1≤n) (h3:n≤131072) (h4:o + n≤136704) (hr:roomB s x (o / 128) ((o + n - 1) / 128 + 1)=false) :
  Calls Tryz.prog 56 #[.pointer (some ⟨q.p,0,none⟩),.pointer (some ⟨c.p,0,none⟩),.int .i64 off,.slice a n dc] w fun e w'=>e=.returned (.int .i64 80)∧Chg w w' No:=by
 obtain ⟨b0,hb0⟩:∃ y,y=o / 128:=⟨_,rfl⟩;obtain ⟨b1,hb1⟩:∃ y,y=(o + n - 1) / 128:=⟨_,rfl⟩;rw [←hb0,←hb1] at hr;have hRm:=hasRoom_any (q:=q) (s:=s) b0 b1 w h hx (by omega) (by omega);rw [hr] at hRm
 have f0 : ¬ off < 0:=by omega
 have f0':0≤off:=by omega
 have f1 : ¬ (131072:Int) < (n:Int):=by omega
 have f2 : ¬ (136704:Int) - (n:Int) < off:=by omega
 have f3 : ¬ (n:Int)=0:=by omega
 have f3b:((n:Int) == 0)=false:=beq_eq_false_iff_ne.2 f3
 have f4:off≤136704:=by omega
 have f5:(n:Int)≤131072:=by omega
 have t1:off.tdiv 128=(b0:Int):=by rw [Int.tdiv_eq_ediv_of_nonneg f0'];omega
 have t2:(off + (n:Int) - 1).tdiv 128=(b1:Int):=by rw [Int.tdiv_eq_ediv_of_nonneg (by omega)];omega
 have t1':off / 128=(b0:Int):=by omega
 have t2':(off + (n:Int) - 1) / 128=(b1:Int):=by omega
 clear h hx hr ho hb0 hb1
 go_enter Tryz.func56,Tryz.ntmps56
 go_wp2_with (first
  | (go_at_call 65;go_must (refine hRm.mono ?_;rintro e w2 ⟨rfl,hc2⟩;have HC2:=hid hc2;clear hc2))
  | fail)
 go_ret
 exact ⟨rfl,HC2.out⟩
end Go.Proofs.YtmgfilacepnjlaaGreatDoor

namespace Go.Proofs.YtmgfilacepnjlaaGreatDoor
open Go.RowKit Go.Maps

section
variable {w w':World} {b r:Nat} {f:Int→Option Value} {left:Int→Prop} {cnt:Nat}
theorem tightR {n:Nat} {D:DataW Value} {lf:Lit→Bool} (h:w.ranges Tryz.prog 3 decV b r n D lf cnt):w.ranges Tryz.prog 3 decV b r (Maps.size D) D lf cnt:=by
 obtain ⟨es,clock,since,seen,c0,e1,F,hs,hD,e2,rest⟩:=h;refine ⟨es,clock,since,seen,c0,e1,F,?_,hD,e2,rest⟩;rw [hD]
 simp [Maps.size,length_sorted]
theorem RangeV.owns (h:RangeV w b r f left cnt):MapV w b f:=by
 obtain ⟨D,lf,h,hh,ha,_⟩:=h
 exact ⟨D,h.owns,hh,ha⟩
end
section
variable {ops:Array Oper} {rest:List Oper} {o:Oper} {a:Act} {Q:Exit→Act→World→Prop} {w:World}
theorem wp_delRV (hg:o.guard=none) (m x:Operand) (hop:o.op=Op.call { callee:=Callee.builtin Builtin.delete,args:=#[m,x],argTypes:=#[103,3] }) (b r:Nat) (f:Int→Option Value) (left:Int→Prop) (cnt:Nat) (k:Int) (hm:a.eval m=.map (some b)) (hx:a.eval x=.int .i64 k)
  (h:RangeV w b r f left cnt) (hk:I64 k)
  (hK:∀ w' cnt',RangeV w' b r (fun y=>if y=k then none else f y) (fun y=>left y∧y≠k) cnt'→cnt'≤cnt→Chg w w' (· = b)→wpList Tryz.prog ops Q rest (a.put o.dst (.tuple #[])) w'):wpList Tryz.prog ops Q (o :: rest) a w:=by
 obtain ⟨D,lf,h,hh,ha,hl⟩:=h;refine wpList_delete_ranges w hg m x 103 3 hop 131 keyI Tryz.underlying103 decV b r _ D lf cnt hm h (.int .i64 k) (.int .i64 k) hx (keyOfI hk) ?_
 intro w' cnt' hr hle ht
 refine hK w' cnt' ⟨_,_,tightR hr,fun y => ?_,fun y c hc z => ?_,fun y => ?_⟩ hle (turned_chg ht).1
 ·by_cases hy:y=k
  ·subst hy
   simp [Maps.has_del_same]
  ·rw [Maps.has_del_other (by simpa using hy),hh y]
   simp [hy]
 ·by_cases hy:y=k
  ·subst hy
   simp at hc
  ·rw [Maps.atKey_del_other (by simpa using hy)]
   simp [hy] at hc
   exact ha y c hc z
 ·by_cases hy:y=k
  ·subst hy
   simp [WideAt.sameKey_self (keyLit y)]
  ·have hk:(Lit.int .i64 y).sameKey (.int .i64 k)=false:=Maps.sameKey_ne (by simpa using hy)
   simp [hk,hl y,hy]
end

set_option maxHeartbeats 2000000 in
set_option maxRecDepth 100000 in
theorem cutC_any (g:Nat) (k size:Int) (l:List Int) (w:World) (hc:w.heap[g]? = some (.cells #[.int .i64 size] 3 (0,0))) (hk:0≤k∧k < 1068) :
  Calls Tryz.prog 72 #[.int .i64 k,.agg (SA l),.pointer (some ⟨g,0,none⟩)] w fun e w'=>e=.returned (.bool (decide (size≤k * 128)))∧Chg w w' No:=by
 obtain ⟨k1,k2⟩:=hk;obtain ⟨zs,hzs⟩:∃ y,y=SA l:=⟨_,rfl⟩;rw [←hzs];have hC:Chg w (w.alloc (.cells zs 131)) No:=Chg.alloc w _ No;have hc1:(w.alloc (.cells zs 131)).cell? ⟨g,0,none⟩=some (.int .i64 size):=(cell_of_row _ _ _ _ _ _ (hC.keep hc (fun e=>e))).trans rfl;clear hc hzs
 go_enter Tryz.func72,Tryz.ntmps72
 go_wp2_with fail
 go_ret
 exact ⟨rfl,hC⟩

set_option maxHeartbeats 4000000 in
set_option maxRecDepth 100000 in
theorem delF_any (g b:Nat) (size:Int) (f:Int→Option Value) (w:World) (hM:MapV w b f) (hF:∀ y v,f y=some v→(0≤y∧y < 1068)∧∃ l:List Int,v=.agg (SA l)∧l.length=128) (hc:w.heap[g]? = some (.cells #[.int .i64 size] 3 (0,0))) :
  Calls Tryz.prog 71 #[.map (some b),.func (.func 72) #[] #[.pointer (some ⟨g,0,none⟩)]] w fun e w'=>e=.returned (.tuple #[])∧MapV w' b (fun y=>if size≤y * 128 then none else f y)∧Chg w w' (· = b):=by
 have hgb:g≠b:=by
  obtain ⟨es,ck,hm⟩:=hM.isMap
  exact obj_ne hc hm (by intro e;cases e)
 have hbl:=hM.lt;have hgl:g < w.heap.size:=slt hc;have HM:=hid hM;have HF:=hid hF;have HCc:Hid (∀ W,Chg w W (· = b)→W.heap[g]? = some (.cells #[.int .i64 size] 3 (0,0))):=hid (fun W hW=>hW.keep hc hgb);have HB:=hid (And.intro hgb (And.intro hbl hgl));clear hM hF hc hgb hbl hgl
 go_enter Tryz.func71,Tryz.ntmps71
 go_wp2_with (first
  | (at_range;go_must (refine wp_rangeV 103 131 Tryz.underlying103 rfl _ rfl b f rfl HM.out ?_;intro w0 cnt0 hr0 hc0 hz0))
  | fail)
 go_frame
 have HR0:=hid hr0;have HC0:=hid hc0;obtain ⟨r,hrr⟩:∃ y,y=w.heap.size:=⟨_,rfl⟩;rw [←hrr] at HR0 ⊢;have HRr:=hid hrr;clear hr0 hc0 hz0 hrr HM
 go_loopw [8] (fun _ wr=>∃ (h:Int→Option Value) (left:Int→Prop) (cnt:Nat),Hid (RangeV wr b r h left cnt)∧Hid ((∀ y,left y→h y=f y)∧(∀ y,¬ left y→h y=if size≤y * 128 then none else f y)∧Chg w wr (· = b))) (fun _ wr=>wr.rangeLeft b r)
 case atStart=>exact ⟨f,_,_,HR0,hid ⟨fun _ _=>rfl,fun y hy=>by
  have:f y=none:=by cases hq:f y with | none=>rfl | some _=>exact absurd (by rw [hq];rfl) hy
  rw [this];split <;> rfl,HC0.out.mono fun _ _ e=>e.elim⟩⟩
 case round =>
  obtain ⟨h,left,cnt,HR,HI⟩:=hrel;clear HR0 HC0;have HCn:=hid HR.out.leftN
  go_wp2_with (first
   | (at_next;go_must (refine wp_nextV rfl _ rfl b r h left cnt rfl HR.out ?_ ?_))
   | fail)
  ·intro hl
   have HE:=hid (And.intro (HR.out.owns.cong fun y=>HI.out.2.1 y (hl y)) HI.out.2.2);clear hl HR HI HCn
   go_wp2_with fail
   go_end0
   exact ⟨rfl,HE.out.1,HE.out.2⟩
  ·intro x d w1 cnt1 hlx hd hI hR1 hlt hc1 hz1 hen
   obtain ⟨⟨x0,x1⟩,l,rfl,hll⟩:=HF.out x d (by rw [←HI.out.1 x hlx];exact hd);have HL:=hid hll;have HR1:=hid hR1;have HLt:=hid hlt;have HLx:=hid hlx;have HC1:Hid (Chg w w1 (· = b)):=hid (HI.out.2.2.trans hc1 (fun _ _ e=>e) (fun j hj e=>by have:=HRr.out;omega));have hI2:I64 x:=hI;clear hll hR1 hlt hlx hd hc1 hz1 HR
   go_upto_region 3 with (first
    | (refine store_R rfl 131 _ _ rfl w1.heap.size (SA l) rfl rfl 131 _ (heap_alloc_new _ _) (by rw [szSec,SA_size,HL.out]) (by rw [SA_size,HL.out];rfl) (SA_one l) ?_;intro w2 hw2;have HG2:=hid hw2.here;have HN2:Hid (Chg w1 w2 No):=hid ((Chg.alloc w1 _ No).trans (kt_new hw2) (fun _ _ e=>e) (fun j hj e=>by omega));clear hw2)
    | fail)
   obtain ⟨gs,hgs⟩:∃ y,y=w1.heap.size:=⟨_,rfl⟩;rw [←hgs] at HG2 ⊢;clear hgs hen;have HR2:=hid (HR1.out.keep HN2.out (fun e=>e) (fun e=>e));have HC2:Hid (Chg w w2 (· = b)):=hid (HC1.out.trans HN2.out (fun _ _ e=>e) (fun _ _ e=>e.elim));have hcl:=cutC_any g x size l w2 (HCc.out w2 HC2.out) ⟨x0,x1⟩
   by_cases hp:size≤x * 128
   ·rw [decide_eq_true hp] at hcl
    go_wp2_with (first
     | (refine load_R rfl 131 _ rfl gs rfl 131 (SA l) _ HG2.out Tryz.underlying131 rfl (by rw [szSec,SA_size,HL.out]) ?_)
     | (go_at_call 72;go_must (refine hcl.mono ?_;rintro e w3 ⟨rfl,hc3⟩;have HR3:=hid (HR2.out.keep hc3 (fun e=>e) (fun e=>e));have HC3:Hid (Chg w w3 (· = b)):=hid (HC2.out.trans hc3 (fun _ _ e=>e) (fun _ _ e=>e.elim));clear hc3))
     | (at_delete;go_must (refine wp_delRV rfl _ _ rfl b r h _ cnt1 x rfl rfl HR3.out hI2 ?_;intro w4 cnt4 hR4 hle4 hc4))
     | fail)
    go_frame
    go_roundw
    case rel =>
     refine ⟨_,_,cnt4,hid hR4,hid ⟨fun y hy => ?_,fun y hy => ?_,HC3.out.trans hc4 (fun _ _ e=>e) (fun _ _ e=>e)⟩⟩
     ·rw [if_neg hy.2];exact HI.out.1 y hy.1.1
     ·by_cases hyx:y=x
      ·subst hyx
       rw [if_pos rfl,if_pos hp]
      ·rw [if_neg hyx]
       exact HI.out.2.1 y (fun e=>hy ⟨⟨e,hyx⟩,hyx⟩)
    case measure=>rw [hR4.leftN,HCn.out];have:=HLt.out;omega
   ·rw [decide_eq_false hp] at hcl
    go_wp2_with (first
     | (refine load_R rfl 131 _ rfl gs rfl 131 (SA l) _ HG2.out Tryz.underlying131 rfl (by rw [szSec,SA_size,HL.out]) ?_)
     | (go_at_call 72;go_must (refine hcl.mono ?_;rintro e w3 ⟨rfl,hc3⟩;have HR3:=hid (HR2.out.keep hc3 (fun e=>e) (fun e=>e));have HC3:Hid (Chg w w3 (· = b)):=hid (HC2.out.trans hc3 (fun _ _ e=>e) (fun _ _ e=>e.elim));clear hc3))
     | fail)
    go_roundw
    case rel =>
     refine ⟨h,_,cnt1,HR3,hid ⟨fun y hy=>HI.out.1 y hy.1,fun y hy => ?_,HC3.out⟩⟩
     by_cases hyx:y=x
     ·subst hyx
      rw [if_neg (by omega)]
      exact HI.out.1 y HLx.out
     ·exact HI.out.2.1 y (fun e=>hy ⟨e,hyx⟩)
    case measure=>rw [HR3.out.leftN,HCn.out];exact HLt.out
end Go.Proofs.YtmgfilacepnjlaaGreatDoor

namespace Go.Proofs.YtmgfilacepnjlaaGreatDoor
open Go.RowKit

theorem setCells_row {g:Nat} {t:TypeId}:∀ (vs:List Value) (o:Nat) (w:World) (A:Array Value),w.heap[g]? = some (.cells A t (0,0)) →
  ∃ A',(w.setCells g o vs).heap[g]? = some (.cells A' t (0,0))∧A'.size=A.size∧(∀ i,A'[i]? = if o≤i∧i < o + vs.length∧i < A.size then vs[i - o]? else A[i]?)∧Chg w (w.setCells g o vs) (· = g)∧(w.setCells g o vs).heap.size=w.heap.size
 | [],o,w,A,h=>⟨A,h,rfl,fun i=>by rw [if_neg (by simp;omega)],Chg.refl _ _,rfl⟩
 | v :: vs,o,w,A,h=>by
  have h1:(w.setCell ⟨g,o,none⟩ v).heap[g]? = some (.cells (A.setIfInBounds o v) t (0,0)):=heap_setCell_same w g o A t _ h;obtain ⟨A',k1,k2,k3,k4,k5⟩:=setCells_row vs (o + 1) _ _ h1;refine ⟨A',k1,by simpa using k2,fun i => ?_,(Chg.setCell (w:=w) (g:=g) (j:=o) (v:=v)).trans k4 (fun _ _ e=>e) (fun _ _ e=>e),k5.trans (by simp [World.setCell])⟩;rw [k3 i]
  simp only [Array.size_setIfInBounds,List.length_cons,Array.getElem?_setIfInBounds]
  by_cases e:o=i
  ·subst e
   rw [if_neg (by omega),if_pos rfl]
   by_cases hs:o < A.size
   ·rw [if_pos hs,if_pos ⟨Nat.le_refl _,by omega,hs⟩,Nat.sub_self];rfl
   ·rw [if_neg hs,if_neg (by omega),Array.getElem?_eq_none (by omega)]
  ·rw [if_neg e]
   by_cases c:o + 1≤i∧i < o + 1 + vs.length∧i < A.size
   ·rw [if_pos c,if_pos ⟨by omega,by omega,c.2.2⟩,show i - o=(i - (o + 1)) + 1 by omega,List.getElem?_cons_succ]
   ·rw [if_neg c,if_neg (by omega)]

def cutL (l:List Int) (u:Nat):List Int:=l.take u ++ List.replicate (128 - u) 0
theorem cut_len {l:List Int} {u:Nat} (hl:l.length=128) (hu:u < 128):(cutL l u).length=128:=by
 rw [cutL,List.length_append,List.length_take,List.length_replicate]
 omega
theorem run_clearS (w:World) (g u:Nat) (ty:TypeId) (l:List Int) (hg:w.heap[g]? = some (.cells (SA l) 131 (0,0))) (hl:l.length=128) (hu:u < 128) :
  ∃ w',(Builtin.clear_ #[32] ty #[.slice (some ⟨g,u,none⟩) (128 - u) (128 - u)]).run Tryz.prog w=.ok (.tuple #[]) w'∧w'.heap[g]? = some (.cells (SA (cutL l u)) 131 (0,0))∧Chg w w' (· = g):=by
 have hv:∀ w,(zeroValue 5).run Tryz.prog w=.ok (.int .u8 0) w:=fun w=>by kernel_rfl
 refine ⟨_,Go.Lib.run_clear_slice (P:=Tryz.prog) w 32 5 ty (.int .u8 0) Tryz.underlying32 hv rfl rfl g u (128 - u) (128 - u) (by omega) (fun j hj => ?_) (fun j hj=>frozen_of_row _ _ _ _ _ hg),?_⟩
 ·rw [cell_of_row _ _ _ _ _ _ hg,Array.getElem?_eq_getElem (by rw [SA_size];omega)]
  rfl
 ·obtain ⟨A',k1,k2,k3,k4,_⟩:=setCells_row (List.replicate (128 - u) (Value.int .u8 0)) u w (SA l) hg
  refine ⟨?_,k4⟩;rw [k1]
  have e:A'=SA (cutL l u):=by
   apply Array.ext_getElem?
   intro i
   rw [k3 i,SA_size,List.length_replicate,hl]
   by_cases h1:u≤i∧i < u + (128 - u)∧i < 128
   ·rw [if_pos h1]
    have h2:(l.take u).length=u:=by rw [List.length_take];omega
    simp only [SA,cutL,List.map_append,List.map_replicate,List.getElem?_toArray]
    rw [List.getElem?_append_right (by rw [List.length_map,h2];exact h1.1),List.length_map,h2,List.getElem?_replicate]
   ·rw [if_neg h1]
    by_cases h3:i < u
    ·simp only [SA,cutL,List.map_append,List.getElem?_toArray]
     rw [List.getElem?_append_left (by rw [List.length_map,List.length_take];omega),List.getElem?_map,List.getElem?_map,List.getElem?_take,if_pos h3]
    ·rw [Array.getElem?_eq_none (by rw [SA_size];omega),Array.getElem?_eq_none (by rw [SA_size,cut_len hl hu];omega)]
  rw [e]
section
variable {ops:Array Oper} {rest:List Oper} {o:Oper} {a:Act} {Q:Exit→Act→World→Prop} {w:World}
theorem wp_clearS (hgd:o.guard=none) (x:Operand) (hop:o.op=Op.call { callee:=Callee.builtin Builtin.clear,args:=#[x],argTypes:=#[32] }) (g u:Nat) (l:List Int) (hx:a.eval x=.slice (some ⟨g,u,none⟩) (128 - u) (128 - u)) (hg:w.heap[g]? = some (.cells (SA l) 131 (0,0))) (hl:l.length=128) (hu:u < 128)
  (hK:∀ w',w'.heap[g]? = some (.cells (SA (cutL l u)) 131 (0,0))→Chg w w' (· = g)→wpList Tryz.prog ops Q rest (a.put o.dst (.tuple #[])) w'):wpList Tryz.prog ops Q (o :: rest) a w:=by
 refine wpList_plain hgd fun K' hK' => ?_
 obtain ⟨w',hrun,r1,r2⟩:=run_clearS w g u o.type l hg hl hu;unfold Oper.wp
 simp [execOp,hop,resolve,invoke,builtin,hx,hrun,Result.andThen]
 exact hK' _ _ (hK w' r1 r2)
end
theorem IsN.cut {w w':World} {c:NC} {x:Nd} (h:IsN w c x) {f:Int→Option Value} (hM:MapV w' c.bb f) (hd:∀ y,f y≠none→0≤y∧y < 1068) (hc:Chg w w' (· = c.bb)):IsN w' c { x with blk:=f } :=
 ⟨hc.keep h.me h.pNe.1,hM,h.sl.keep hc (fun _ e e2=>(h.ownNe e).2.1 e2),h.nm.keep hc (fun e=>h.ne e.symm),h.cn,h.ne,h.len,hd⟩

set_option maxHeartbeats 2000000 in
set_option maxRecDepth 100000 in
theorem trunc_neg {c:NC} (size:Int) (w:World) (h1:size < 0) :
  Calls Tryz.prog 57 #[.pointer (some ⟨c.p,0,none⟩),.int .i64 size] w fun e w'=>e=.returned (.int .i64 101)∧Chg w w' No:=by
 have hC:Chg w (w.alloc (.cells #[.int .i64 size] 3)) No:=Chg.alloc w _ No;have hc1:(w.alloc (.cells #[.int .i64 size] 3)).cell? ⟨w.heap.size,0,none⟩=some (.int .i64 size):=(cell_of_row _ _ _ _ _ _ (heap_alloc_new w _)).trans rfl
 go_enter Tryz.func57,Tryz.ntmps57
 go_wp2_with fail
 go_ret
 exact ⟨rfl,hC⟩
set_option maxHeartbeats 2000000 in
set_option maxRecDepth 100000 in
theorem trunc_far {c:NC} (size:Int) (w:World) (h1:136704 < size) :
  Calls Tryz.prog 57 #[.pointer (some ⟨c.p,0,none⟩),.int .i64 size] w fun e w'=>e=.returned (.int .i64 101)∧Chg w w' No:=by
 have f1 : ¬ size < 0:=by omega
 have hC:Chg w (w.alloc (.cells #[.int .i64 size] 3)) No:=Chg.alloc w _ No;have hc1:(w.alloc (.cells #[.int .i64 size] 3)).cell? ⟨w.heap.size,0,none⟩=some (.int .i64 size):=(cell_of_row _ _ _ _ _ _ (heap_alloc_new w _)).trans rfl
 go_enter Tryz.func57,Tryz.ntmps57
 go_wp2_with fail
 go_ret
 exact ⟨rfl,hC⟩
set_option maxHeartbeats 4000000 in
set_option maxRecDepth 100000 in
theorem trunc_off {c:NC} {x:Nd} (size:Int) (w:World) (hx:IsN w c x) (hF:∀ y v,x.blk y=some v→(0≤y∧y < 1068)∧∃ l:List Int,v=.agg (SA l)∧l.length=128) (hs0:0≤size) (hs1:size≤136704) (hb:x.blk (size / 128)=none∨size % 128=0) :
  Calls Tryz.prog 57 #[.pointer (some ⟨c.p,0,none⟩),.int .i64 size] w fun e w'=>e=.returned (.int .i64 0)∧IsN w' c { x with blk:=fun y=>if size≤y * 128 then none else x.blk y,size:=size }∧Chg w w' (BlkN c):=by
 obtain ⟨w1,hw1⟩:∃ y,y=w.alloc (.cells #[.int .i64 size] 3):=⟨_,rfl⟩
 have hC1:Chg w w1 No:=by rw [hw1];exact Chg.alloc w _ No
 have hG1:w1.heap[w.heap.size]? = some (.cells #[.int .i64 size] 3 (0,0)):=by rw [hw1];exact heap_alloc_new w _
 have hz1:w1.cell? ⟨w.heap.size,0,none⟩=some (.int .i64 size):=(cell_of_row _ _ _ _ _ _ hG1).trans rfl;have hX1:IsN w1 c x:=hx.call hC1;have c4:=hX1.c4;have hD:=delF_any w.heap.size c.bb size x.blk w1 hX1.bl hF hG1
 have f1 : ¬ size < 0:=by omega
 have f2 : ¬ (136704:Int) < size:=by omega
 obtain ⟨la,hla⟩:∃ y:Int,y=size / 128:=⟨_,rfl⟩;obtain ⟨u,hu⟩:∃ y:Nat,y=(size % 128).toNat:=⟨_,rfl⟩
 have t1:size.tdiv 128=la:=by rw [Int.tdiv_eq_ediv_of_nonneg hs0];omega
 have t2:size.tmod 128=(u:Int):=by rw [Int.tmod_eq_emod_of_nonneg hs0];omega
 have t3:size / 128=la:=by omega
 have t4:size % 128=(u:Int):=by omega
 have hol:u < 128:=by omega
 rw [←hla] at hb;have hI:I64 la:=⟨by omega,by omega⟩
 obtain ⟨f,hf⟩:∃ y:Int→Option Value,y=fun y=>if size≤y * 128 then none else x.blk y:=⟨_,rfl⟩
 rw [←hf] at hD
 have hfl:f la=none:=by
  rw [hf]
  simp only []
  rcases hb with e | e
  ·rw [e];split <;> rfl
  ·rw [if_pos (by omega)]
 have HFv:Hid ((match f la with | some v=>v | none=>Value.agg (SA Zs))=(.agg (SA Zs))):=hid (by rw [hfl]);have HFs:Hid ((f la).isSome=false):=hid (by rw [hfl];rfl)
 have HFd:Hid (∀ y,f y≠none→0≤y∧y < 1068):=hid (fun y hy=>by
  rw [hf] at hy
  simp only [] at hy
  split at hy
  ·exact absurd rfl hy
  ·cases hq:x.blk y with
   | none=>rw [hq] at hy;exact absurd rfl hy
   | some v=>exact (hF y v hq).1)
 have HL:Hid (Zs.length=128):=hid (by simp [Zs]);have HX1:=hid hX1;have HC1:=hid hC1;have HG1:=hid hG1;have HPw:Hid (c.p≠c.bb∧c.bb < w.heap.size∧c.p < w.heap.size):=hid ⟨hx.pNe.1,hx.bl.lt,slt hx.me⟩;have HFf:Hid (f=fun y=>if size≤y * 128 then none else x.blk y):=hid hf;have e1:=hw1;rw [←hf];clear hx hF hb hf hfl hC1 hG1 hX1 hla hu hw1
 go_enter Tryz.func57,Tryz.ntmps57
 go_upto_region 1 with fail
 rw [←e1];clear e1
 go_upto_region 4 with (first
  | (go_at_call 71;go_must (refine hD.mono ?_;rintro e w2 ⟨rfl,hM2,hc2⟩))
  | fail)
 have hX2:IsN w2 c { x with blk:=f }:=HX1.out.cut hM2 HFd.out hc2;have HX2:=hid hX2;have HM2:=hid hM2;have HC2:Hid (Chg w w2 (BlkN c)):=hid (HC1.out.trans hc2 (fun _ _ e=>e.elim) (fun _ _ e=>.inr (.inl e)));have hG2:w2.heap[w.heap.size]? = some (.cells #[.int .i64 size] 3 (0,0)):=hc2.keep HG1.out (by have:=HPw.out.2.1;omega);have HG2:=hid hG2;have HSz2:Hid (w.heap.size < w2.heap.size):=hid (slt hG2);have c4':=hX2.c4;have hz2:w2.cell? ⟨w.heap.size,0,none⟩=some (.int .i64 size):=(cell_of_row _ _ _ _ _ _ hG2).trans rfl;clear hX2 hM2 hc2 hD c4 hz1 HG1 HX1 HC1 hG2
 go_upto_region 6 with (first
  | (at_lookup;go_must (refine wp_okVB rfl _ _ rfl c.bb f la _ _ HFv.out HFs.out rfl rfl HM2.out hI ?_))
  | (refine store_R rfl 131 _ _ rfl w2.heap.size (SA Zs) rfl rfl 131 _ (heap_alloc_new _ _) (by rw [szSec,SA_size,HL.out]) (by rw [SA_size,HL.out];rfl) (SA_one Zs) ?_;intro w3 hw3;have HGs3:=hid hw3.here;have HN3:Hid (Chg w2 w3 No):=hid ((Chg.alloc w2 _ No).trans (kt_new hw3) (fun _ _ e=>e) (fun j hj e=>by omega));clear hw3)
  | fail)
 obtain ⟨gs,hgs⟩:∃ y,y=w2.heap.size:=⟨_,rfl⟩;rw [←hgs] at HGs3 ⊢;have HGs:=hid hgs;clear hgs c4' hz2;have hX3:=HX2.out.call HN3.out;have c3:w3.cell? ⟨c.p,3,none⟩=some (.int .i64 x.size):=hX3.c3;have fz:w3.frozen? ⟨c.p,3,none⟩=false:=frozen_of_row _ _ _ _ _ hX3.me;have hz3:w3.cell? ⟨w.heap.size,0,none⟩=some (.int .i64 size):=(cell_of_row _ _ _ _ _ _ (HN3.out.keep HG2.out (fun e=>e))).trans rfl;have HX3:=hid hX3;have HC3:Hid (Chg w w3 (BlkN c)):=hid (HC2.out.trans HN3.out (fun _ _ e=>e) (fun _ _ e=>e.elim));clear hX3 HM2 HX2 HG2 HGs3 HGs
 go_wp2_with fail
 go_ret
 obtain ⟨k1,k2⟩:=HX3.out.sized size
 exact ⟨rfl,k1,HC3.out.trans k2 (fun _ _ e=>e) (fun _ _ e=>.inl e)⟩
set_option maxHeartbeats 4000000 in
set_option maxRecDepth 100000 in
theorem trunc_cut {c:NC} {x:Nd} (size:Int) (l:List Int) (w:World) (hx:IsN w c x) (hF:∀ y v,x.blk y=some v→(0≤y∧y < 1068)∧∃ l:List Int,v=.agg (SA l)∧l.length=128) (hs0:0≤size) (hs1:size≤136704) (hl:l.length=128) (hb:x.blk (size / 128)=some (.agg (SA l))) (hu0:0 < size % 128) :
  Calls Tryz.prog 57 #[.pointer (some ⟨c.p,0,none⟩),.int .i64 size] w fun e w'=>e=.returned (.int .i64 0)∧IsN w' c { x with blk:=fun y=>if y=size / 128 then some (.agg (SA (cutL l (size % 128).toNat))) else if size≤y * 128 then none else x.blk y,size:=size }∧Chg w w' (BlkN c):=by
 obtain ⟨w1,hw1⟩:∃ y,y=w.alloc (.cells #[.int .i64 size] 3):=⟨_,rfl⟩
 have hC1:Chg w w1 No:=by rw [hw1];exact Chg.alloc w _ No
 have hG1:w1.heap[w.heap.size]? = some (.cells #[.int .i64 size] 3 (0,0)):=by rw [hw1];exact heap_alloc_new w _
 have hz1:w1.cell? ⟨w.heap.size,0,none⟩=some (.int .i64 size):=(cell_of_row _ _ _ _ _ _ hG1).trans rfl;have hX1:IsN w1 c x:=hx.call hC1;have c4:=hX1.c4;have hD:=delF_any w.heap.size c.bb size x.blk w1 hX1.bl hF hG1
 have f1 : ¬ size < 0:=by omega
 have f2 : ¬ (136704:Int) < size:=by omega
 obtain ⟨la,hla⟩:∃ y:Int,y=size / 128:=⟨_,rfl⟩;obtain ⟨u,hu⟩:∃ y:Nat,y=(size % 128).toNat:=⟨_,rfl⟩
 have t1:size.tdiv 128=la:=by rw [Int.tdiv_eq_ediv_of_nonneg hs0];omega
 have t2:size.tmod 128=(u:Int):=by rw [Int.tmod_eq_emod_of_nonneg hs0];omega
 have t3:size / 128=la:=by omega
 have t4:size % 128=(u:Int):=by omega
 have hol:u < 128:=by omega
 rw [←hla] at hb;rw [←hla,←hu];have hI:I64 la:=⟨by omega,by omega⟩
 obtain ⟨f,hf⟩:∃ y:Int→Option Value,y=fun y=>if size≤y * 128 then none else x.blk y:=⟨_,rfl⟩
 rw [←hf] at hD
 have hfl:f la=some (.agg (SA l)):=by rw [hf];simp only [];rw [if_neg (by omega)];exact hb
 have hlb:0≤la∧la < 1068:=(hF la _ hb).1;have HFv:Hid ((match f la with | some v=>v | none=>Value.agg (SA Zs))=(.agg (SA l))):=hid (by rw [hfl]);have HFs:Hid ((f la).isSome=true):=hid (by rw [hfl];rfl)
 have HFd:Hid (∀ y,f y≠none→0≤y∧y < 1068):=hid (fun y hy=>by
  rw [hf] at hy
  simp only [] at hy
  split at hy
  ·exact absurd rfl hy
  ·cases hq:x.blk y with
   | none=>rw [hq] at hy;exact absurd rfl hy
   | some v=>exact (hF y v hq).1)
 have HL:Hid (l.length=128):=hid (hl);have HX1:=hid hX1;have HC1:=hid hC1;have HG1:=hid hG1;have HPw:Hid (c.p≠c.bb∧c.bb < w.heap.size∧c.p < w.heap.size):=hid ⟨hx.pNe.1,hx.bl.lt,slt hx.me⟩;have HFf:Hid (f=fun y=>if size≤y * 128 then none else x.blk y):=hid hf;have e1:=hw1;clear hx hF hb hf hfl hC1 hG1 hX1 hla hu hw1 hl
 go_enter Tryz.func57,Tryz.ntmps57
 go_upto_region 1 with fail
 rw [←e1];clear e1
 go_upto_region 4 with (first
  | (go_at_call 71;go_must (refine hD.mono ?_;rintro e w2 ⟨rfl,hM2,hc2⟩))
  | fail)
 have hX2:IsN w2 c { x with blk:=f }:=HX1.out.cut hM2 HFd.out hc2;have HX2:=hid hX2;have HM2:=hid hM2;have HC2:Hid (Chg w w2 (BlkN c)):=hid (HC1.out.trans hc2 (fun _ _ e=>e.elim) (fun _ _ e=>.inr (.inl e)));have hG2:w2.heap[w.heap.size]? = some (.cells #[.int .i64 size] 3 (0,0)):=hc2.keep HG1.out (by have:=HPw.out.2.1;omega);have HG2:=hid hG2;have HSz2:Hid (w.heap.size < w2.heap.size):=hid (slt hG2);have c4':=hX2.c4;have hz2:w2.cell? ⟨w.heap.size,0,none⟩=some (.int .i64 size):=(cell_of_row _ _ _ _ _ _ hG2).trans rfl;clear hX2 hM2 hc2 hD c4 hz1 HG1 HX1 HC1 hG2
 go_upto_region 6 with (first
  | (at_lookup;go_must (refine wp_okVB rfl _ _ rfl c.bb f la _ _ HFv.out HFs.out rfl rfl HM2.out hI ?_))
  | (refine store_R rfl 131 _ _ rfl w2.heap.size (SA l) rfl rfl 131 _ (heap_alloc_new _ _) (by rw [szSec,SA_size,HL.out]) (by rw [SA_size,HL.out];rfl) (SA_one l) ?_;intro w3 hw3;have HGs3:=hid hw3.here;have HN3:Hid (Chg w2 w3 No):=hid ((Chg.alloc w2 _ No).trans (kt_new hw3) (fun _ _ e=>e) (fun j hj e=>by omega));clear hw3)
  | fail)
 obtain ⟨gs,hgs⟩:∃ y,y=w2.heap.size:=⟨_,rfl⟩;rw [←hgs] at HGs3 ⊢;have HGs:=hid hgs;clear hgs c4' hz2;have hz3:w3.cell? ⟨w.heap.size,0,none⟩=some (.int .i64 size):=(cell_of_row _ _ _ _ _ _ (HN3.out.keep HG2.out (fun e=>e))).trans rfl;have hsl:=run_sec w3 gs u hol
 go_upto_region 8 with (first
  | (refine wp_clearS rfl _ rfl gs u l rfl HGs3.out HL.out hol ?_;intro w4 hg4 hc4;have HG4:=hid hg4;have HC4:Hid (Chg w2 w4 No):=hid (HN3.out.trans hc4 (fun _ _ e=>e) (fun j hj e=>by have:=HGs.out;omega));clear hg4 hc4)
  | fail)
 clear hsl hz3 HN3 HGs3;have HQ4:Hid (∀ W,Chg w2 W (· = c.bb)→W.cell? ⟨c.p,4,none⟩=some (.map (some c.bb))):=hid (fun W hW=>(cell_of_row _ _ _ _ _ _ (hW.keep HX2.out.me HPw.out.1)).trans rfl)
 simp only [Act.put]
 refine wp_region_noPanic ?_;refine wp_region_held_drew (S:=fun w'=>Chg w2 w' (· = c.bb)∧w'.heap[gs]? = some (.cells (SA (cutL l u)) 131 (0,0))) (by kernel_rfl) ⟨(HC4.out.mono fun _ _ e=>e.elim).drew,HG4.out⟩ (fun hH => ?_);refine tV 0 35 (.pointer (some ⟨c.p,0,none⟩)) rfl (by kernel_rfl) rfl (by rfl) hH (fun W' hw'=>rfl) ?_;simp only [sS];refine tV 1 36 (.pointer (some ⟨c.p,0,none⟩)) rfl (by kernel_rfl) rfl (by rfl) hH (fun W' hw'=>by go_simp) ?_;simp only [sS];refine tV 2 37 (.pointer (some ⟨c.p,4,none⟩)) rfl (by kernel_rfl) rfl (by rfl) hH (fun W' hw'=>by go_simp) ?_;simp only [sS];refine tV 3 38 (.map (some c.bb)) rfl (by kernel_rfl) rfl (by rfl) hH (fun W' hw'=>by have hc:=HQ4.out W' hw'.1;go_simp) ?_;simp only [sS];refine tV 4 39 (.int .i64 la) rfl (by kernel_rfl) rfl (by rfl) hH (fun W' hw'=>rfl) ?_;simp only [sS];refine takeR 5 40 131 (.tmp 6) gs 131 (SA (cutL l u)) _ rfl (by kernel_rfl) (by kernel_rfl) (by kernel_rfl) rfl rfl rfl Tryz.underlying131 rfl (by rw [szSec,SA_size,cut_len HL.out hol]) (by rfl) (fun _ _ _ h=>h) hH (fun W' hw'=>hw'.2) ?_;simp only [sS];have hX5:IsN w4.drew c { x with blk:=f }:=HX2.out.call HC4.out.drew;refine step1 6 (by kernel_rfl) ?_;refine stPutB 6 (.tmp 38) (.tmp 39) (.tmp 40) c.bb f la (.agg (SA (cutL l u))) rfl rfl (by rfl) rfl rfl rfl rfl hX5.bl hI hX5.small ?_
 intro w6 hm6 hc6 hz6
 have hgb:gs≠c.bb:=by have:=HPw.out;have:=HGs.out;have:=HSz2.out;omega
 refine ⟨⟨hH.1.trans hc6 (fun _ _ e=>e) (fun _ _ e=>e),hc6.keep hH.2 hgb⟩,?_⟩;refine wpAnyH_done (by kernel_rfl) ?_ _;refine NoPanic.normal ?_;have hX6:=hX5.block hlb hm6 hc6;have hC6:Chg w2 w6 (· = c.bb):=hH.1.trans hc6 (fun _ _ e=>e) (fun _ _ e=>e);have HX6:=hid hX6;have HC6:Hid (Chg w w6 (BlkN c)):=hid (HC2.out.trans hC6 (fun _ _ e=>e) (fun _ _ e=>.inr (.inl e)));have c3:w6.cell? ⟨c.p,3,none⟩=some (.int .i64 x.size):=hX6.c3;have fz:w6.frozen? ⟨c.p,3,none⟩=false:=frozen_of_row _ _ _ _ _ hX6.me;have hz6':w6.cell? ⟨w.heap.size,0,none⟩=some (.int .i64 size):=(cell_of_row _ _ _ _ _ _ (hC6.keep HG2.out (by have:=HPw.out.2.1;omega))).trans rfl;clear hH hX5 hm6 hc6 hz6 HC4 HG4 HQ4 hX6 hC6 HM2 HX2 HC2 HG2
 go_wp2_with fail
 go_ret
 obtain ⟨k1,k2⟩:=HX6.out.sized size;refine ⟨rfl,?_,HC6.out.trans k2 (fun _ _ e=>e) (fun _ _ e=>.inl e)⟩;rw [HFf.out] at k1
 exact k1
end Go.Proofs.YtmgfilacepnjlaaGreatDoor
