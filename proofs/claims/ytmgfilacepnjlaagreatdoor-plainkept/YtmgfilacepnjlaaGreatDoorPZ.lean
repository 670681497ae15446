/-
 package plain: bytes are read out of one block of a file.
-/
import Derived.Test.YtmgfilacepnjlaaGreatDoorPO
import Derived.Laws.CopyRow
namespace Go.Proofs.YtmgfilacepnjlaaGreatDoor
open Go.RowKit

set_option maxHeartbeats 2000000 in
set_option maxRecDepth 100000 in
theorem do_create {q:PC} (path tto:ByteArray) (off len:Int) (da:Option Addr) (dl dc:Nat) (made pick:Int) (w:World) (R:Array Value→World→Prop) (ks:Nat→Prop) (hks:∀ k,ks k→k < w.heap.size) (hu:UB w) (hm:ML w) (hz:bits .andNot .i64 (givF path tto off len dl made pick) 33=0) (hm0:0≤made) (hm1:made≤1099511627776) (hs:(splitR path.data.toList).2=0)
  (hM:∀ W a ls,Chg w W No→datas ls=(splitR path.data.toList).1→LAt W a ls→Calls Tryz.prog 21 #[.pointer (some ⟨q.p,0,none⟩),.slice a ls.length ls.length,.int .i64 1,.int .i64 made] W fun e w'=>∃ A,e=.returned (.agg A)∧A.size=10∧A.all (·.oneCell')=true∧R A w'∧Chg W w' ks)
  (hR:∀ A w1 w2 r o,R A w1→w1.heap[w.heap.size + 1]? = some (.cells o 43 (0,0))→PutR w1 (w.heap.size + 1) r 43 w2→R A w2) :
  Calls Tryz.prog 9 #[.pointer (some ⟨q.p,0,none⟩),.agg (opA 1 path tto off len da dl dc made pick)] w fun e w'=>∃ A,e=.returned (.agg A)∧R A w'∧Chg w w' ks:=by
 obtain ⟨w1,hw1⟩:∃ y,y=(w.alloc (.cells (opA 1 path tto off len da dl dc made pick) 34)).alloc (.cells (ansE 0) 43):=⟨_,rfl⟩;have hcA:Chg w (w.alloc (.cells (opA 1 path tto off len da dl dc made pick) 34)) No:=Chg.alloc w _ No
 have hc1:Chg w w1 No:=by rw [hw1];exact hcA.tr (Chg.alloc _ _ No)
 have HO:Hid (∀ W,Chg w1 W No→W.heap[w.heap.size]? = some (.cells #[.int .i64 1,.string path,.string tto,.int .i64 off,.int .i64 len,.slice da dl dc,.int .i64 made,.int .i64 pick] 34 (0,0))):=hid (fun W hW=>hW.keep (by rw [hw1];exact (Chg.alloc _ _ No).keep (heap_alloc_new w _) (fun e=>e)) (fun e=>e))
 have hA1:w1.heap[w.heap.size + 1]? = some (.cells (ansE 0) 43 (0,0)):=by
  have:=heap_alloc_new (w.alloc (.cells (opA 1 path tto off len da dl dc made pick) 34)) (.cells (ansE 0) 43);rw [show (w.alloc (.cells (opA 1 path tto off len da dl dc made pick) 34)).heap.size=w.heap.size + 1 by simp] at this;rw [hw1]
  exact this
 have HA:Hid (∀ W ks',Chg w1 W ks'→(∀ k,ks' k→k < w.heap.size)→W.heap[w.heap.size + 1]? = some (.cells (ansE 0) 43 (0,0))):=hid (fun W ks' hW hk=>hW.keep hA1 (fun e=>by have:=hk _ e;omega))
 have hb1:Below w.heap.size w w1:=by rw [hw1];exact ((Below.refl _ w).alloc (Nat.le_refl _) _).alloc (by simp) _
 have HMb:Hid (∀ W,Chg w1 W No→Calls Tryz.prog 19 #[.agg #[.int .i64 1,.string path,.string tto,.int .i64 off,.int .i64 len,.slice da dl dc,.int .i64 made,.int .i64 pick]] W fun e w'=>e=.returned (.bool true)∧Chg W w' No):=hid (fun W hW=>mayBe_ok 1 path tto off len da dl dc made pick W ((hu.keep hc1 (fun e=>e)).keep hW (fun e=>e)) (by decide) (by decide) hz hm0 hm1)
 have hmk:∀ W,Chg w1 W No→ML W:=fun W hW=>by
  obtain ⟨m,hc⟩:=hm.below hb1;refine ⟨m,?_⟩;have hlt:=World.block_lt_of_cell? _ _ hc;unfold World.cell? at hc ⊢;rw [hW.block _ hlt (fun e=>e)]
  exact hc
 have HSp:Hid (∀ W,Chg w1 W No→Calls Tryz.prog 20 #[.agg #[.int .i64 1,.string path,.string tto,.int .i64 off,.int .i64 len,.slice da dl dc,.int .i64 made,.int .i64 pick]] W fun e w'=>∃ (a:Option Addr) (ls:List ByteArray),e=.returned (.tuple #[.slice a ls.length ls.length,.slice none 0 0,.int .i64 0])∧datas ls=(splitR path.data.toList).1∧LAt w' a ls∧Chg W w' No):=hid (fun W hW=>splitO_any 1 path tto off len da dl dc made pick W ((hu.keep hc1 (fun e=>e)).keep hW (fun e=>e)) (hmk W hW) (by decide) (by decide) (by decide) hs);have HM:=hid hM;have HRr:=hid hR;have HKs:=hid hks;have HC1:=hid hc1;unfold opA at hw1 ⊢;unfold ansE at hw1;have hB:=HMb.out w1 (Chg.refl _ _);have HO1:=hid (HO.out w1 (Chg.refl _ _));obtain ⟨W1,hW1⟩:∃ y,y=w1:=⟨_,rfl⟩;rw [←hW1] at HO HA HMb HSp HC1 hB HO1;have e1:=hW1.trans hw1;clear hu hm hz hm0 hm1 hs hM hR hks hcA hc1 hA1 hb1 hmk hw1 hW1
 go_enter Tryz.func9,Tryz.ntmps9
 go_upto_region 1 with fail
 rw [←e1];clear e1
 go_upto_region 3 with (first
  | (refine load_R rfl 34 _ rfl w.heap.size rfl 34 #[.int .i64 1,.string path,.string tto,.int .i64 off,.int .i64 len,.slice da dl dc,.int .i64 made,.int .i64 pick] _ HO1.out Tryz.underlying34 rfl (by rw [szOp];rfl) ?_)
  | (go_at_call 19;go_must (refine hB.mono ?_;rintro e w2 ⟨rfl,hc2⟩;have HC2:=hid hc2;clear hc2))
  | fail)
 have hS:=HSp.out w2 HC2.out;have HO2:=hid (HO.out w2 HC2.out);clear hB
 go_upto_region 4 with (first
  | (refine load_R rfl 34 _ rfl w.heap.size rfl 34 #[.int .i64 1,.string path,.string tto,.int .i64 off,.int .i64 len,.slice da dl dc,.int .i64 made,.int .i64 pick] _ HO2.out Tryz.underlying34 rfl (by rw [szOp];rfl) ?_)
  | (go_at_call 20;go_must (refine hS.mono ?_;rintro e w3 ⟨a,ls,rfl,hd3,hl3,hc3⟩;have HD3:=hid hd3;have HL3:=hid hl3;have HC3:=hid (HC2.out.tr hc3);clear hd3 hl3 hc3))
  | fail)
 have q0:w3.cell? ⟨w.heap.size,0,none⟩=some (.int .i64 1):=(cell_of_row _ _ _ _ _ _ (HO.out w3 HC3.out)).trans rfl;have q6:w3.cell? ⟨w.heap.size,6,none⟩=some (.int .i64 made):=(cell_of_row _ _ _ _ _ _ (HO.out w3 HC3.out)).trans rfl;have hMk:=HM.out w3 a ls (HC1.out.tr HC3.out) HD3.out HL3.out;obtain ⟨n,hnn⟩:∃ y,y=ls.length:=⟨_,rfl⟩;rw [←hnn] at hMk ⊢;clear hS hnn
 go_wp2_with (first
  | (go_at_call 21;go_must (refine hMk.mono ?_;rintro e w4 ⟨A,rfl,hAz,hAo,hRa,hc4⟩;have HAz:=hid hAz;have HAo:=hid hAo;have HRa:=hid hRa;have HC4:=hid hc4;have HA4:=hid (HA.out w4 (fun k=>ks k) (HC3.out.trans hc4 (fun _ _ e=>e.elim) (fun _ _ e=>e)) HKs.out);clear hAz hAo hRa hc4))
  | (refine store_R rfl 43 _ _ rfl (w.heap.size + 1) A rfl rfl 43 _ HA4.out (by rw [szAn,HAz.out]) (by rw [HAz.out];rfl) HAo.out ?_;intro w5 hw5)
  | fail)
 exact bodyPost_ret (v:=.agg A) (results_R1 Tryz.results9 _ _ (w.heap.size + 1) _ 43 _ Tryz.underlying43 rfl (by rw [szAn,HAz.out]) rfl hw5.here) rfl ⟨A,rfl,HRr.out A _ _ _ _ HRa.out HA4.out hw5,((HC1.out.tr HC3.out).trans HC4.out (fun _ _ e=>e.elim) (fun _ _ e=>e)).trans (kt_new hw5) (fun _ _ e=>e) (fun j hj e=>by omega)⟩

set_option maxHeartbeats 2000000 in
set_option maxRecDepth 100000 in
theorem do_mkdir {q:PC} (path tto:ByteArray) (off len:Int) (da:Option Addr) (dl dc:Nat) (made pick:Int) (w:World) (R:Array Value→World→Prop) (ks:Nat→Prop) (hks:∀ k,ks k→k < w.heap.size) (hu:UB w) (hm:ML w) (hz:bits .andNot .i64 (givF path tto off len dl made pick) 33=0) (hm0:0≤made) (hm1:made≤1099511627776) (hs:(splitR path.data.toList).2=0)
  (hM:∀ W a ls,Chg w W No→datas ls=(splitR path.data.toList).1→LAt W a ls→Calls Tryz.prog 21 #[.pointer (some ⟨q.p,0,none⟩),.slice a ls.length ls.length,.int .i64 2,.int .i64 made] W fun e w'=>∃ A,e=.returned (.agg A)∧A.size=10∧A.all (·.oneCell')=true∧R A w'∧Chg W w' ks)
  (hR:∀ A w1 w2 r o,R A w1→w1.heap[w.heap.size + 1]? = some (.cells o 43 (0,0))→PutR w1 (w.heap.size + 1) r 43 w2→R A w2) :
  Calls Tryz.prog 9 #[.pointer (some ⟨q.p,0,none⟩),.agg (opA 2 path tto off len da dl dc made pick)] w fun e w'=>∃ A,e=.returned (.agg A)∧R A w'∧Chg w w' ks:=by
 obtain ⟨w1,hw1⟩:∃ y,y=(w.alloc (.cells (opA 2 path tto off len da dl dc made pick) 34)).alloc (.cells (ansE 0) 43):=⟨_,rfl⟩;have hcA:Chg w (w.alloc (.cells (opA 2 path tto off len da dl dc made pick) 34)) No:=Chg.alloc w _ No
 have hc1:Chg w w1 No:=by rw [hw1];exact hcA.tr (Chg.alloc _ _ No)
 have HO:Hid (∀ W,Chg w1 W No→W.heap[w.heap.size]? = some (.cells #[.int .i64 2,.string path,.string tto,.int .i64 off,.int .i64 len,.slice da dl dc,.int .i64 made,.int .i64 pick] 34 (0,0))):=hid (fun W hW=>hW.keep (by rw [hw1];exact (Chg.alloc _ _ No).keep (heap_alloc_new w _) (fun e=>e)) (fun e=>e))
 have hA1:w1.heap[w.heap.size + 1]? = some (.cells (ansE 0) 43 (0,0)):=by
  have:=heap_alloc_new (w.alloc (.cells (opA 2 path tto off len da dl dc made pick) 34)) (.cells (ansE 0) 43);rw [show (w.alloc (.cells (opA 2 path tto off len da dl dc made pick) 34)).heap.size=w.heap.size + 1 by simp] at this;rw [hw1]
  exact this
 have HA:Hid (∀ W ks',Chg w1 W ks'→(∀ k,ks' k→k < w.heap.size)→W.heap[w.heap.size + 1]? = some (.cells (ansE 0) 43 (0,0))):=hid (fun W ks' hW hk=>hW.keep hA1 (fun e=>by have:=hk _ e;omega))
 have hb1:Below w.heap.size w w1:=by rw [hw1];exact ((Below.refl _ w).alloc (Nat.le_refl _) _).alloc (by simp) _
 have HMb:Hid (∀ W,Chg w1 W No→Calls Tryz.prog 19 #[.agg #[.int .i64 2,.string path,.string tto,.int .i64 off,.int .i64 len,.slice da dl dc,.int .i64 made,.int .i64 pick]] W fun e w'=>e=.returned (.bool true)∧Chg W w' No):=hid (fun W hW=>mayBe_ok 2 path tto off len da dl dc made pick W ((hu.keep hc1 (fun e=>e)).keep hW (fun e=>e)) (by decide) (by decide) hz hm0 hm1)
 have hmk:∀ W,Chg w1 W No→ML W:=fun W hW=>by
  obtain ⟨m,hc⟩:=hm.below hb1;refine ⟨m,?_⟩;have hlt:=World.block_lt_of_cell? _ _ hc;unfold World.cell? at hc ⊢;rw [hW.block _ hlt (fun e=>e)]
  exact hc
 have HSp:Hid (∀ W,Chg w1 W No→Calls Tryz.prog 20 #[.agg #[.int .i64 2,.string path,.string tto,.int .i64 off,.int .i64 len,.slice da dl dc,.int .i64 made,.int .i64 pick]] W fun e w'=>∃ (a:Option Addr) (ls:List ByteArray),e=.returned (.tuple #[.slice a ls.length ls.length,.slice none 0 0,.int .i64 0])∧datas ls=(splitR path.data.toList).1∧LAt w' a ls∧Chg W w' No):=hid (fun W hW=>splitO_any 2 path tto off len da dl dc made pick W ((hu.keep hc1 (fun e=>e)).keep hW (fun e=>e)) (hmk W hW) (by decide) (by decide) (by decide) hs);have HM:=hid hM;have HRr:=hid hR;have HKs:=hid hks;have HC1:=hid hc1;unfold opA at hw1 ⊢;unfold ansE at hw1;have hB:=HMb.out w1 (Chg.refl _ _);have HO1:=hid (HO.out w1 (Chg.refl _ _));obtain ⟨W1,hW1⟩:∃ y,y=w1:=⟨_,rfl⟩;rw [←hW1] at HO HA HMb HSp HC1 hB HO1;have e1:=hW1.trans hw1;clear hu hm hz hm0 hm1 hs hM hR hks hcA hc1 hA1 hb1 hmk hw1 hW1
 go_enter Tryz.func9,Tryz.ntmps9
 go_upto_region 1 with fail
 rw [←e1];clear e1
 go_upto_region 3 with (first
  | (refine load_R rfl 34 _ rfl w.heap.size rfl 34 #[.int .i64 2,.string path,.string tto,.int .i64 off,.int .i64 len,.slice da dl dc,.int .i64 made,.int .i64 pick] _ HO1.out Tryz.underlying34 rfl (by rw [szOp];rfl) ?_)
  | (go_at_call 19;go_must (refine hB.mono ?_;rintro e w2 ⟨rfl,hc2⟩;have HC2:=hid hc2;clear hc2))
  | fail)
 have hS:=HSp.out w2 HC2.out;have HO2:=hid (HO.out w2 HC2.out);clear hB
 go_upto_region 4 with (first
  | (refine load_R rfl 34 _ rfl w.heap.size rfl 34 #[.int .i64 2,.string path,.string tto,.int .i64 off,.int .i64 len,.slice da dl dc,.int .i64 made,.int .i64 pick] _ HO2.out Tryz.underlying34 rfl (by rw [szOp];rfl) ?_)
  | (go_at_call 20;go_must (refine hS.mono ?_;rintro e w3 ⟨a,ls,rfl,hd3,hl3,hc3⟩;have HD3:=hid hd3;have HL3:=hid hl3;have HC3:=hid (HC2.out.tr hc3);clear hd3 hl3 hc3))
  | fail)
 have q0:w3.cell? ⟨w.heap.size,0,none⟩=some (.int .i64 2):=(cell_of_row _ _ _ _ _ _ (HO.out w3 HC3.out)).trans rfl;have q6:w3.cell? ⟨w.heap.size,6,none⟩=some (.int .i64 made):=(cell_of_row _ _ _ _ _ _ (HO.out w3 HC3.out)).trans rfl;have hMk:=HM.out w3 a ls (HC1.out.tr HC3.out) HD3.out HL3.out;obtain ⟨n,hnn⟩:∃ y,y=ls.length:=⟨_,rfl⟩;rw [←hnn] at hMk ⊢;clear hS hnn
 go_wp2_with (first
  | (go_at_call 21;go_must (refine hMk.mono ?_;rintro e w4 ⟨A,rfl,hAz,hAo,hRa,hc4⟩;have HAz:=hid hAz;have HAo:=hid hAo;have HRa:=hid hRa;have HC4:=hid hc4;have HA4:=hid (HA.out w4 (fun k=>ks k) (HC3.out.trans hc4 (fun _ _ e=>e.elim) (fun _ _ e=>e)) HKs.out);clear hAz hAo hRa hc4))
  | (refine store_R rfl 43 _ _ rfl (w.heap.size + 1) A rfl rfl 43 _ HA4.out (by rw [szAn,HAz.out]) (by rw [HAz.out];rfl) HAo.out ?_;intro w5 hw5)
  | fail)
 exact bodyPost_ret (v:=.agg A) (results_R1 Tryz.results9 _ _ (w.heap.size + 1) _ 43 _ Tryz.underlying43 rfl (by rw [szAn,HAz.out]) rfl hw5.here) rfl ⟨A,rfl,HRr.out A _ _ _ _ HRa.out HA4.out hw5,((HC1.out.tr HC3.out).trans HC4.out (fun _ _ e=>e.elim) (fun _ _ e=>e)).trans (kt_new hw5) (fun _ _ e=>e) (fun j hj e=>by omega)⟩
end Go.Proofs.YtmgfilacepnjlaaGreatDoor

namespace Go.Proofs.YtmgfilacepnjlaaGreatDoor
open Go.RowKit

theorem szSec:(Tryz.prog.info? 131).map (·.size)=some 128:=by kernel_rfl
theorem sz5:(Tryz.prog.info? 5).map (·.size)=some 1:=by kernel_rfl
theorem SA_size (l:List Int):(SA l).size=l.length:=by simp [SA]
theorem SA_one (l:List Int):(SA l).all (·.oneCell')=true:=by simp [SA,Value.oneCell']
section
variable {ops:Array Oper} {Q:Exit→Act→World→Prop} {S:World→Prop} {fuel:Nat} {listed:Array Bool} {a:Act} {w:World}
theorem stCopy (i d:Nat) (x y:Operand) (g off dLen dCap:Nat) (ad:Addr) (sLen sCap:Nat) (cur:Array Value) (t:TypeId) (cs:List Value) {o:Oper} (hop:ops[i]? = some o) (hd:o.dst=some d) (hw:Region.wanted o (yielded ops a.tmps)=true)
  (ho:o.op=.call { callee:=.builtin .copy,args:=#[x,y],argTypes:=#[32,32] }) (hx:a.eval x=.slice (some ⟨g,off,none⟩) dLen dCap) (hy:a.eval y=.slice (some ad) sLen sCap)
  (hg:w.heap[g]? = some (.cells cur t (0,0))) (hn:cs.length=Nat.min sLen dLen) (hsrc:∀ j v,cs[j]? = some v→w.cell? (ad.add j)=some v) (hfit:off + cs.length≤cur.size) (h1:∀ v∈cs,v.oneCell'=true)
  (h:∀ w',PutR w g (cur.toList.take off ++ cs ++ cur.toList.drop (off + cs.length)).toArray t w'→S w'∧wpAnyH Tryz.prog .any ops Q S fuel (listed.setIfInBounds i true) { a with tmps:=a.tmps.setIfInBounds d (goInt cs.length) } w'):St ops Q S fuel listed a w i:=by
 have hrun:=run_copy_row (P:=Tryz.prog) w 32 32 o.type 5 g off dLen dCap ad sLen sCap cur t cs Tryz.underlying32 sz5 hg hn hsrc hfit h1;have hh:=h _ (putR_setRow _ hg);refine wpOp_step hop (fun K hK => ?_);rw [if_pos hw];unfold Oper.wp
 simp [execOp,ho,resolve,invoke,builtin,hx,hy,hrun,Result.andThen]
 refine hK _ _ ?_;unfold Act.put;rw [hd]
 simpa using hh
theorem stPutB (i:Nat) (m x v:Operand) (b:Nat) (f:Int→Option Value) (k:Int) (d:Value) {o:Oper} (hop:ops[i]? = some o) (hd:o.dst=none) (hw:Region.wanted o (yielded ops a.tmps)=true) (ho:o.op=Op.mapUpdate 103 m x v)
  (hm:a.eval m=.map (some b)) (hx:a.eval x=.int .i64 k) (hv:a.eval v=d) (h:MapV w b f) (hk:I64 k) (hf:∃ L:List Int,L.length≤5000∧∀ x,(f x).isSome=true→x∈L)
  (hK:∀ w',MapV w' b (fun y=>if y=k then some d else f y)→Chg w w' (· = b)→w'.heap.size=w.heap.size→S w'∧wpAnyH Tryz.prog .any ops Q S fuel (listed.setIfInBounds i true) a w'):St ops Q S fuel listed a w i:=by
 obtain ⟨w',hrun,r1,r2,r3⟩:=h.storeB hk d hf;have hh:=hK w' r1 r2 r3;refine wpOp_step hop (fun K hK => ?_);rw [if_pos hw];unfold Oper.wp
 simp [execOp,ho,hm,hx,hv,hrun,Result.andThen]
 refine hK _ _ ⟨hh.1,?_⟩;unfold Act.put;rw [hd]
 exact hh.2
end
section
variable {w w':World} {c:NC} {x:Nd}
theorem IsN.small (h:IsN w c x):∃ L:List Int,L.length≤5000∧∀ k,(x.blk k).isSome=true→k∈L:=by
 refine ⟨(List.range 1068).map (fun i:Nat=>(i:Int)),by simp,fun k hk => ?_⟩;have:=h.dom k (fun e=>by rw [e] at hk;cases hk)
 exact List.mem_map.2 ⟨k.toNat,List.mem_range.2 (by omega),by omega⟩
theorem IsN.block (h:IsN w c x) {k:Int} {v:Value} (hk:0≤k∧k < 1068) (hM:MapV w' c.bb (fun y=>if y=k then some v else x.blk y)) (hc:Chg w w' (· = c.bb)):IsN w' c { x with blk:=fun y=>if y=k then some v else x.blk y }:=by
 refine ⟨hc.keep h.me h.pNe.1,hM,h.sl.keep hc (fun j e e2=>(h.ownNe e).2.1 e2),h.nm.keep hc (fun e=>h.ne e.symm),h.cn,h.ne,h.len,fun y hy => ?_⟩
 by_cases e:y=k
 ·rw [e];exact hk
 ·refine h.dom y (fun e2=>hy ?_)
  show (if y=k then some v else x.blk y)=none
  rw [if_neg e]
  exact e2
theorem IsN.sized (h:IsN w c x) (n:Int):IsN (w.setCell ⟨c.p,3,none⟩ (.int .i64 n)) c { x with size:=n }∧Chg w (w.setCell ⟨c.p,3,none⟩ (.int .i64 n)) (· = c.p):=by
 have hc:Chg w (w.setCell ⟨c.p,3,none⟩ (.int .i64 n)) (· = c.p):=Chg.setCell;refine ⟨⟨heap_setCell_same w c.p 3 _ _ _ h.me,h.bl.keep hc (fun e=>h.pNe.1 e.symm),h.sl.keep hc (fun j e e2=>(h.ownNe e).1 e2),h.nm.keep hc (fun e=>h.pNe.2 e.symm),h.cn,h.ne,h.len,h.dom⟩,hc⟩
end
end Go.Proofs.YtmgfilacepnjlaaGreatDoor

namespace Go.Proofs.YtmgfilacepnjlaaGreatDoor
open Go.RowKit

def laidL (l:List Int) (o:Nat) (ds:List Int):List Int:=l.take o ++ ds ++ l.drop (o + ds.length)
theorem laid_SA (l ds:List Int) (o:Nat):(SA l).toList.take o ++ ds.map (Value.int .u8) ++ (SA l).toList.drop (o + (ds.map (Value.int .u8)).length)=(laidL l o ds).map (Value.int .u8):=by
 simp [SA,laidL,List.map_take,List.map_drop]
theorem laid_len {l ds:List Int} {o:Nat} (hl:l.length=128) (h:o + ds.length≤128):(laidL l o ds).length=128:=by
 simp [laidL]
 omega
theorem run_sec (W:World) (gs o:Nat) (h:o < 128):(Instr.sliceAt 131 (.pointer (some ⟨gs,0,none⟩)) (some (.int .i64 (o:Int))) none none).run Tryz.prog W=.ok (.slice (some ⟨gs,o,none⟩) (128 - o) (128 - o)) W:=by
 have ht:Tryz.prog.underlying 131=some (.array (Tryz.prog.arrayLen 131) (Tryz.prog.elem 131)):=by kernel_rfl
 have ha:Tryz.prog.arrayLen 131=128:=by kernel_rfl
 have hs:∀ w,(sizeOf (Tryz.prog.elem 131)).run Tryz.prog w=.ok 1 w:=fun w=>by kernel_rfl
 rw [run_sliceAt_array_l W 131 ⟨gs,0,none⟩ ht .i64 (o:Int) (by omega) (by rw [ha];omega),hs]
 simp only [Result.andThen_ok,slicedAt,ha,Int.toNat_natCast,Nat.mul_one]
 rw [if_neg (by omega),addr_add,Nat.zero_add]
def wroteN (x:Nd) (b o:Nat) (l ds:List Int):Nd:={ x with blk:=fun y=>if y=(b:Int) then some (.agg (SA (laidL l o ds))) else x.blk y,size:=max x.size (128 * (b:Int) + o + ds.length) }

set_option maxHeartbeats 4000000 in
set_option maxRecDepth 100000 in
theorem write_one {q:PC} {s:PSt} {c:NC} {x:Nd} (b o:Nat) (l ds:List Int) (gd od dc:Nat) (w:World) (h:IsPl w q s) (hx:IsN w c x) (hb:b < 1068) (hd:1≤ds.length) (ho:o + ds.length≤128) (hl:l.length=128) (hbl:(match x.blk (b:Int) with | some v=>v | none=>Value.agg (SA Zs))=.agg (SA l)) (hr:roomB s x b (b + 1)=true)
  (hda:∀ (W:World),Chg w W No→∀ (j:Nat) v,(ds.map (Value.int .u8))[j]? = some v→W.cell? ((⟨gd,od,none⟩:Addr).add j)=some v) (hdc:ds.length≤dc) :
  Calls Tryz.prog 56 #[.pointer (some ⟨q.p,0,none⟩),.pointer (some ⟨c.p,0,none⟩),.int .i64 (128 * (b:Int) + o),.slice (some ⟨gd,od,none⟩) ds.length dc] w fun e w'=>e=.returned (.int .i64 0)∧IsN w' c (wroteN x b o l ds)∧Chg w w' (BlkN c):=by
 have hRm:=hasRoom_any (q:=q) (s:=s) b b w h hx (by omega) hb;rw [hr] at hRm;have HX:=hid hx;have HDa:=hid hda;have HBl:=hid hbl;have HL:=hid hl;obtain ⟨n,hn⟩:∃ y,y=ds.length:=⟨_,rfl⟩;rw [←hn] at hd ho hdc ⊢;have HNn:=hid hn;obtain ⟨of,hof⟩:∃ y:Int,y=128 * (b:Int) + o:=⟨_,rfl⟩;rw [←hof]
 have f0 : ¬ of < 0:=by omega
 have f0':0≤of:=by omega
 have f1 : ¬ (131072:Int) < (n:Int):=by omega
 have f2 : ¬ (136704:Int) - (n:Int) < of:=by omega
 have f3 : ¬ (n:Int)=0:=by omega
 have f3b:((n:Int) == 0)=false:=beq_eq_false_iff_ne.2 f3
 have f4:of≤136704:=by omega
 have f5:(n:Int)≤128:=by omega
 have t1:of.tdiv 128=(b:Int):=by rw [Int.tdiv_eq_ediv_of_nonneg f0'];omega
 have t2:(of + (n:Int) - 1).tdiv 128=(b:Int):=by rw [Int.tdiv_eq_ediv_of_nonneg (by omega)];omega
 have t3:of.tmod 128=(o:Int):=by rw [Int.tmod_eq_emod_of_nonneg f0'];omega
 have HOf:=hid hof;clear h hx hda hbl hl hr hn hof
 go_enter Tryz.func56,Tryz.ntmps56
 go_upto_region 8 with (first
  | (go_at_call 65;go_must (refine hRm.mono ?_;rintro e w2 ⟨rfl,hc2⟩;have HC2:=hid hc2;clear hc2))
  | fail)
 clear hRm
 go_wp2_with fail
 go_loopw [10] (fun x10 wr=>∃ j:Nat,x10=.int .i64 (j:Int)∧(j=0∨j=n)∧Hid ((j=0→Chg w wr No)∧(j=n→IsN wr c { x with blk:=fun y=>if y=(b:Int) then some (.agg (SA (laidL l o ds))) else x.blk y }∧Chg w wr (BlkN c)))) (fun x10 _=>n - (intOf x10).toNat)
 case atStart=>exact ⟨0,rfl,.inl rfl,hid ⟨fun _=>HC2.out,fun e=>by omega⟩⟩
 case round =>
  obtain ⟨j,rfl,hj,HJ⟩:=hrel;clear HC2
  rcases hj with rfl | rfl
  ·have HC:Hid (Chg w wr No):=hid (HJ.out.1 rfl)
   clear HJ;have q4:=(HX.out.call HC.out).c4;have HM:=hid (HX.out.call HC.out).bl;have hI:I64 (b:Int):=⟨by omega,by omega⟩
   have j1:(0:Int) < (n:Int):=by omega
   have wv0:IntKind.i64.wrap of=of:=by rw [IntKind.wrap_i64];omega
   have wv1:IntKind.i64.wrap (n:Int)=(n:Int):=by rw [IntKind.wrap_i64];omega
   have hol:o < 128:=by omega
   go_upto_region 12 with (first
    | (at_lookup;go_must (refine wp_lookVB rfl _ _ rfl c.bb x.blk (b:Int) _ HBl.out rfl rfl HM.out hI ?_))
    | (refine store_R rfl 131 _ _ rfl wr.heap.size (SA l) rfl rfl 131 _ (heap_alloc_new _ _) (by rw [szSec,SA_size,HL.out]) (by rw [SA_size,HL.out];rfl) (SA_one l) ?_;intro w3 hw3;have HG3:=hid hw3.here;have HC3:Hid (Chg w w3 No):=hid ((HC.out.tr (Chg.alloc wr _ No)).trans (kt_new hw3) (fun _ _ e=>e) (fun j hj e=>by have:=HC.out.size;omega));have HGe:Hid (w.heap.size≤wr.heap.size):=hid HC.out.size;clear hw3)
    | fail)
   obtain ⟨gs,hgs⟩:∃ y,y=wr.heap.size:=⟨_,rfl⟩;rw [←hgs] at HG3 HGe ⊢;clear hgs HM HC q4
   simp only [Act.put]
   refine wp_region_noPanic ?_;refine wp_region_held_drew (S:=fun w'=>Chg w w' No) (by kernel_rfl) HC3.out.drew (fun hH => ?_);have hG:w3.drew.heap[gs]? = some (.cells (SA l) 131 (0,0)):=HG3.out;refine tV 0 57 (.int .i64 0) rfl (by kernel_rfl) rfl (by rfl) hH (fun W' hw'=>rfl) ?_;simp only [sS];refine tV 1 58 (.int .i64 of) rfl (by kernel_rfl) rfl (by rfl) hH (fun W' hw'=>rfl) ?_;simp only [sS];refine tV 2 59 (.int .i64 0) rfl (by kernel_rfl) rfl (by rfl) hH (fun W' hw'=>rfl) ?_;simp only [sS]
   refine tV 3 60 (.int .i64 of) rfl (by kernel_rfl) rfl (by rfl) hH (fun W' hw'=>by go_simp <;> exact wv0) ?_
   simp only [sS];refine tV 4 61 (.int .i64 (o:Int)) rfl (by kernel_rfl) rfl (by rfl) hH (fun W' hw'=>by go_simp) ?_;simp only [sS];refine tV 5 62 (.slice (some ⟨gs,o,none⟩) (128 - o) (128 - o)) rfl (by kernel_rfl) rfl (by rfl) hH (fun W' hw'=>by go_simp;rw [run_sec _ gs o hol];rfl) ?_;simp only [sS];refine tV 6 63 (.slice (some ⟨gd,od,none⟩) n dc) rfl (by kernel_rfl) rfl (by rfl) hH (fun W' hw'=>rfl) ?_;simp only [sS];refine tV 7 64 (.int .i64 0) rfl (by kernel_rfl) rfl (by rfl) hH (fun W' hw'=>rfl) ?_;simp only [sS];refine tV 8 65 (.slice (some ⟨gd,od,none⟩) n dc) rfl (by kernel_rfl) rfl (by rfl) hH (fun W' hw'=>by go_simp) ?_;simp only [sS];refine step1 9 (by kernel_rfl) ?_;refine stCopy 9 66 (.tmp 62) (.tmp 65) gs o (128 - o) (128 - o) ⟨gd,od,none⟩ n dc (SA l) 131 (ds.map (Value.int .u8)) rfl rfl (by rfl) rfl rfl rfl hG (by rw [List.length_map,←HNn.out];exact (Nat.min_eq_left (by omega)).symm) (HDa.out _ hH) (by rw [List.length_map,←HNn.out,SA_size,HL.out];exact ho) (by intro v hv;obtain ⟨y,_,rfl⟩:=List.mem_map.1 hv;rfl) ?_
   intro w4 hw4
   rw [laid_SA] at hw4;have hH4:Chg w w4 No:=hH.trans (kt_new hw4) (fun _ _ e=>e) (fun j hj e=>by have:=HGe.out;omega);refine ⟨hH4,?_⟩;rw [List.length_map,←HNn.out]
   simp only [List.setIfInBounds_toArray,List.set_cons_zero,List.set_cons_succ,goInt]
   refine tV 10 67 (.int .i64 (n:Int)) rfl (by kernel_rfl) rfl (by rfl) hH4 (fun W' hw'=>by go_simp <;> exact wv1) ?_
   simp only [sS];refine tV 11 10 (.int .i64 (n:Int)) rfl (by kernel_rfl) rfl (by rfl) hH4 (fun W' hw'=>rfl) ?_;simp only [sS];refine wpAnyH_done (by kernel_rfl) ?_ _;refine NoPanic.normal ?_;have HG4:Hid (w4.heap[gs]? = some (.cells (SA (laidL l o ds)) 131 (0,0))):=hid hw4.here;have HC4:=hid hH4;clear hH hH4 hw4 hG HG3 HC3
   go_upto_region 13 with fail
   have HQ4:Hid (∀ W,Chg w W (· = c.bb)→W.cell? ⟨c.p,4,none⟩=some (.map (some c.bb))):=hid (fun W hW=>(cell_of_row _ _ _ _ _ _ (hW.keep HX.out.me HX.out.pNe.1)).trans rfl);refine wp_region_noPanic ?_;refine wp_region_held_drew (S:=fun w'=>Chg w w' (· = c.bb)∧w'.heap[gs]? = some (.cells (SA (laidL l o ds)) 131 (0,0))) (by kernel_rfl) ⟨(HC4.out.mono fun _ _ e=>e.elim).drew,HG4.out⟩ (fun hH => ?_);refine tV 0 68 (.pointer (some ⟨c.p,0,none⟩)) rfl (by kernel_rfl) rfl (by rfl) hH (fun W' hw'=>rfl) ?_;simp only [sS];refine tV 1 69 (.pointer (some ⟨c.p,0,none⟩)) rfl (by kernel_rfl) rfl (by rfl) hH (fun W' hw'=>by go_simp) ?_;simp only [sS];refine tV 2 70 (.pointer (some ⟨c.p,4,none⟩)) rfl (by kernel_rfl) rfl (by rfl) hH (fun W' hw'=>by go_simp) ?_;simp only [sS];refine tV 3 71 (.map (some c.bb)) rfl (by kernel_rfl) rfl (by rfl) hH (fun W' hw'=>by have hc:=HQ4.out W' hw'.1;go_simp) ?_;simp only [sS];refine tV 4 72 (.int .i64 (b:Int)) rfl (by kernel_rfl) rfl (by rfl) hH (fun W' hw'=>rfl) ?_;simp only [sS];refine takeR 5 73 131 (.tmp 12) gs 131 (SA (laidL l o ds)) _ rfl (by kernel_rfl) (by kernel_rfl) (by kernel_rfl) rfl rfl rfl Tryz.underlying131 rfl (by rw [szSec,SA_size,laid_len HL.out (by rw [←HNn.out];exact ho)]) (by rfl) (fun _ _ _ h=>h) hH (fun W' hw'=>hw'.2) ?_;simp only [sS];have hX5:IsN w4.drew c x:=HX.out.call HC4.out.drew;refine step1 6 (by kernel_rfl) ?_;refine stPutB 6 (.tmp 71) (.tmp 72) (.tmp 73) c.bb x.blk (b:Int) (.agg (SA (laidL l o ds))) rfl rfl (by rfl) rfl rfl rfl rfl hX5.bl hI hX5.small ?_
   intro w6 hm6 hc6 hz6
   have hgb:gs≠c.bb:=by have:=HX.out.bl.lt;have:=HGe.out;omega
   refine ⟨⟨hH.1.trans hc6 (fun _ _ e=>e) (fun _ _ e=>e),hc6.keep hH.2 hgb⟩,?_⟩;refine wpAnyH_done (by kernel_rfl) ?_ _;refine NoPanic.normal ?_;have HX6:=hid (hX5.block ⟨by omega,by omega⟩ hm6 hc6);have HC6:Hid (Chg w w6 (BlkN c)):=hid ((hH.1.trans hc6 (fun _ _ e=>e) (fun _ _ e=>e)).mono fun _ _ e=>.inr (.inl e));clear hH hX5 hm6 hc6 hz6 HC4 HG4 HQ4
   go_wp2_with fail
   exact ⟨⟨n,rfl,.inr rfl,hid ⟨fun e=>by omega,fun _=>⟨HX6.out,HC6.out⟩⟩⟩,by simp [intOf];omega⟩
  ·obtain ⟨hX6,hC6⟩:=HJ.out.2 rfl
   have c3:=hX6.c3;have HX6:=hid hX6;have HC6:=hid hC6;have fz:wr.frozen? ⟨c.p,3,none⟩=false:=frozen_of_row _ _ _ _ _ hX6.me;have c3:wr.cell? ⟨c.p,3,none⟩=some (.int .i64 x.size):=c3
   have f7:of + (j:Int)≤200000:=by omega
   clear HJ hX6 hC6
   go_wp2_with fail
   go_ret
   obtain ⟨k1,k2⟩:=HX6.out.sized (max x.size (of + (j:Int)));refine ⟨rfl,?_,HC6.out.trans k2 (fun _ _ e=>e) (fun _ _ e=>.inl e)⟩;unfold wroteN;rw [←HNn.out,←HOf.out]
   exact k1
end Go.Proofs.YtmgfilacepnjlaaGreatDoor

namespace Go.Proofs.YtmgfilacepnjlaaGreatDoor
open Go.RowKit

theorem infoB:∃ i,Tryz.prog.info? 5=some i∧i.zero=some (.int .u8 0)∧i.size=1∧i.bytes=1:=by
 have h:(Tryz.prog.info? 5).map (fun i=>(i.zero,i.size,i.bytes))=some (some (.int .u8 0),1,1):=by kernel_rfl
 cases hq:Tryz.prog.info? 5 with
 | none=>rw [hq] at h;cases h
 | some i =>
  rw [hq] at h;have h:=Option.some.inj h
  simp only [Prod.mk.injEq] at h
  exact ⟨i,rfl,h.1,h.2.1,h.2.2⟩
theorem made_oneB (n:Nat):madeCells #[Value.int .u8 0] n=SA (List.replicate n 0):=by
 apply Array.ext
 ·simp [size_madeCells,SA]
 ·intro i h1 h2
  have e:(#[Value.int .u8 0]:Array Value)[i % 1]! = Value.int .u8 0:=by rw [Nat.mod_one];rfl
  simp only [madeCells,Array.getElem_map,Array.getElem_range]
  rw [show (#[Value.int .u8 0]:Array Value).size=1 from rfl,e]
  simp [SA]
theorem make_bytes (n:Nat) (h1:n≤5000) (w:World):(Instr.makeSlice 32 (.int .i64 (n:Int)) (.int .i64 (n:Int))).run Tryz.prog w=.ok (.slice (some ⟨w.heap.size,0,none⟩) n n) (w.alloc (.cells (SA (List.replicate n 0)) 5)):=by
 obtain ⟨i,hi,hz,hs,hb⟩:=infoB;rw [run_make w 32 5 i _ Tryz.underlying32 hi hz .i64 .i64 n n (by omega) (Int.le_refl _) (by rw [hb];omega) (by omega),hs,Nat.mul_one];rw [show Value.cells (.int .u8 0)=#[Value.int .u8 0] from rfl,made_oneB,Int.toNat_natCast]

set_option maxHeartbeats 4000000 in
set_option maxRecDepth 100000 in
theorem read_one {c:NC} {x:Nd} (b o m:Nat) (cnt:Int) (l:List Int) (w:World) (hx:IsN w c x) (hb:b < 1068) (hm:1≤m) (ho:o + m≤128) (hl:l.length=128) (hbl:(match x.blk (b:Int) with | some v=>v | none=>Value.agg (SA Zs))=.agg (SA l)) (hc0:0≤cnt) (hc1:cnt≤131072) (hz:x.size≤1000000) (hmin:(m:Int)=min cnt (x.size - (128 * (b:Int) + o))) :
  Calls Tryz.prog 58 #[.pointer (some ⟨c.p,0,none⟩),.int .i64 (128 * (b:Int) + o),.int .i64 cnt] w fun e w'=>e=.returned (.tuple #[.slice (some ⟨w.heap.size,0,none⟩) m m,.int .i64 0])∧w'.heap[w.heap.size]? = some (.cells (SA ((l.drop o).take m)) 5 (0,0))∧Chg w w' No:=by
 have HX:=hid hx;have HBl:=hid hbl;have HL:=hid hl;have c3:=hx.c3;obtain ⟨xs,hxs⟩:∃ y,y=x.size:=⟨_,rfl⟩;rw [←hxs] at c3 hz hmin;obtain ⟨of,hof⟩:∃ y:Int,y=128 * (b:Int) + o:=⟨_,rfl⟩;rw [←hof] at hmin ⊢
 have f0':0≤of:=by omega
 have f0 : ¬ of < 0:=by omega
 have f1 : ¬ cnt < 0:=by omega
 have f2 : ¬ (131072:Int) < cnt:=by omega
 have f3 : ¬ xs≤of:=by omega
 have f3':of < xs:=by omega
 have f4:of≤136704:=by omega
 have f5:(m:Int)≤128:=by omega
 replace hmin:=hmin.symm
 have hmk:(Instr.makeSlice 32 (.int .i64 (min cnt (xs - of))) (.int .i64 (min cnt (xs - of)))).run Tryz.prog w=.ok (.slice (some ⟨w.heap.size,0,none⟩) m m) (w.alloc (.cells (SA (List.replicate m 0)) 5)):=by rw [hmin];exact make_bytes m (by omega) w
 have t1:of.tdiv 128=(b:Int):=by rw [Int.tdiv_eq_ediv_of_nonneg f0'];omega
 have t3:of.tmod 128=(o:Int):=by rw [Int.tmod_eq_emod_of_nonneg f0'];omega
 obtain ⟨zs,hzs⟩:∃ y,y=SA (List.replicate m 0):=⟨_,rfl⟩;rw [←hzs] at hmk;have HZ:Hid (zs.size=m∧zs=SA (List.replicate m 0)):=hid ⟨by rw [hzs,SA_size,List.length_replicate],hzs⟩;clear hx hbl hl hof hxs hzs hmin
 go_enter Tryz.func58,Tryz.ntmps58
 go_upto_region 6 with fail
 have hW0:(w.alloc (.cells zs 5)).heap[w.heap.size]? = some (.cells zs 5 (0,0)):=heap_alloc_new w _;have hC0:Chg w (w.alloc (.cells zs 5)) No:=Chg.alloc w _ No;obtain ⟨W0,hWW⟩:∃ y,y=w.alloc (.cells zs 5):=⟨_,rfl⟩;rw [←hWW] at hW0 hC0 ⊢;have H0:=hid (And.intro hW0 hC0);clear hWW hW0 hC0 hmk c3
 have HSr:Hid (∀ (W:World) (gs:Nat),W.heap[gs]? = some (.cells (SA l) 131 (0,0))→∀ (j:Nat) v,(((l.drop o).take m).map (Value.int .u8))[j]? = some v→W.cell? ((⟨gs,o,none⟩:Addr).add j)=some v):=hid (fun W gs hg j v hv=>by
  rw [addr_add,cell_of_row _ _ _ _ _ _ hg];rw [List.getElem?_map,List.getElem?_take] at hv
  split at hv
  ·rw [List.getElem?_drop] at hv
   simpa [SA] using hv
  ·cases hv)
 have HLc:Hid ((((l.drop o).take m).map (Value.int .u8)).length=m):=hid (by rw [List.length_map,List.length_take,List.length_drop,HL.out];omega)
 have HRo:Hid ((zs.toList.take 0 ++ ((l.drop o).take m).map (Value.int .u8) ++ zs.toList.drop (0 + (((l.drop o).take m).map (Value.int .u8)).length)).toArray=SA ((l.drop o).take m)):=hid (by
  have e:zs.toList.drop m=[]:=List.drop_eq_nil_of_le (by rw [Array.length_toList,HZ.out.1];exact Nat.le_refl _);rw [HLc.out,Nat.zero_add,e]
  simp [SA])
 go_wp2_with fail
 go_loopw [9] (fun x9 wr=>∃ j:Nat,x9=.int .i64 (j:Int)∧(j=0∨j=m)∧Hid ((j=0→wr.heap[w.heap.size]? = some (.cells zs 5 (0,0)))∧(j=m→wr.heap[w.heap.size]? = some (.cells (SA ((l.drop o).take m)) 5 (0,0)))∧Chg w wr No)) (fun x9 _=>m - (intOf x9).toNat)
 case atStart=>exact ⟨0,rfl,.inl rfl,hid ⟨fun _=>H0.out.1,fun e=>by omega,H0.out.2⟩⟩
 case round =>
  obtain ⟨j,rfl,hj,HJ⟩:=hrel;clear H0
  rcases hj with rfl | rfl
  ·have HC:Hid (Chg w wr No):=hid HJ.out.2.2
   have HD:Hid (wr.heap[w.heap.size]? = some (.cells zs 5 (0,0))):=hid (HJ.out.1 rfl);clear HJ;have q4:=(HX.out.call HC.out).c4;have HM:=hid (HX.out.call HC.out).bl;have hI:I64 (b:Int):=⟨by omega,by omega⟩
   have j1:(0:Int) < (m:Int):=by omega
   have wv0:IntKind.i64.wrap of=of:=by rw [IntKind.wrap_i64];omega
   have wv1:IntKind.i64.wrap (m:Int)=(m:Int):=by rw [IntKind.wrap_i64];omega
   have hol:o < 128:=by omega
   go_upto_region 9 with (first
    | (at_lookup;go_must (refine wp_lookVB rfl _ _ rfl c.bb x.blk (b:Int) _ HBl.out rfl rfl HM.out hI ?_))
    | (refine store_R rfl 131 _ _ rfl wr.heap.size (SA l) rfl rfl 131 _ (heap_alloc_new _ _) (by rw [szSec,SA_size,HL.out]) (by rw [SA_size,HL.out];rfl) (SA_one l) ?_;intro w3 hw3;have HG3:=hid hw3.here;have HD3:=hid (putR_keep hw3 ((Chg.alloc wr _ No).keep HD.out (fun e=>e)) (by have:=slt HD.out;omega));have HC3:Hid (Chg w w3 No):=hid ((HC.out.tr (Chg.alloc wr _ No)).trans (kt_new hw3) (fun _ _ e=>e) (fun j hj e=>by have:=HC.out.size;omega));clear hw3)
    | fail)
   obtain ⟨gs,hgs⟩:∃ y,y=wr.heap.size:=⟨_,rfl⟩;rw [←hgs] at HG3 ⊢;clear hgs HM HC q4 HD
   simp only [Act.put]
   refine wp_region_noPanic ?_;refine wp_region_held_drew (S:=fun w'=>Chg w w' No) (by kernel_rfl) HC3.out.drew (fun hH => ?_);have hG:w3.drew.heap[gs]? = some (.cells (SA l) 131 (0,0)):=HG3.out;have hD:w3.drew.heap[w.heap.size]? = some (.cells zs 5 (0,0)):=HD3.out;refine tV 0 49 (.int .i64 0) rfl (by kernel_rfl) rfl (by rfl) hH (fun W' hw'=>rfl) ?_;simp only [sS];refine tV 1 50 (.slice (some ⟨w.heap.size,0,none⟩) m m) rfl (by kernel_rfl) rfl (by rfl) hH (fun W' hw'=>rfl) ?_;simp only [sS];refine tV 2 51 (.int .i64 0) rfl (by kernel_rfl) rfl (by rfl) hH (fun W' hw'=>rfl) ?_;simp only [sS];refine tV 3 52 (.slice (some ⟨w.heap.size,0,none⟩) m m) rfl (by kernel_rfl) rfl (by rfl) hH (fun W' hw'=>by go_simp) ?_;simp only [sS];refine tV 4 53 (.int .i64 of) rfl (by kernel_rfl) rfl (by rfl) hH (fun W' hw'=>rfl) ?_;simp only [sS];refine tV 5 54 (.int .i64 0) rfl (by kernel_rfl) rfl (by rfl) hH (fun W' hw'=>rfl) ?_;simp only [sS]
   refine tV 6 55 (.int .i64 of) rfl (by kernel_rfl) rfl (by rfl) hH (fun W' hw'=>by go_simp <;> exact wv0) ?_
   simp only [sS];refine tV 7 56 (.int .i64 (o:Int)) rfl (by kernel_rfl) rfl (by rfl) hH (fun W' hw'=>by go_simp) ?_;simp only [sS];refine tV 8 57 (.slice (some ⟨gs,o,none⟩) (128 - o) (128 - o)) rfl (by kernel_rfl) rfl (by rfl) hH (fun W' hw'=>by go_simp;rw [run_sec _ gs o hol];rfl) ?_;simp only [sS];refine step1 9 (by kernel_rfl) ?_;refine stCopy 9 58 (.tmp 52) (.tmp 57) w.heap.size 0 m m ⟨gs,o,none⟩ (128 - o) (128 - o) zs 5 (((l.drop o).take m).map (Value.int .u8)) rfl rfl (by rfl) rfl rfl rfl hD (by rw [HLc.out];exact (Nat.min_eq_right (by omega)).symm) (HSr.out _ gs hG) (by rw [HLc.out,HZ.out.1];omega) (by intro v hv;obtain ⟨y,_,rfl⟩:=List.mem_map.1 hv;rfl) ?_
   intro w4 hw4
   rw [HRo.out] at hw4;have hH4:Chg w w4 No:=hH.trans (kt_new hw4) (fun _ _ e=>e) (fun j hj e=>by omega);refine ⟨hH4,?_⟩;rw [HLc.out]
   simp only [List.setIfInBounds_toArray,List.set_cons_zero,List.set_cons_succ,goInt]
   refine tV 10 59 (.int .i64 (m:Int)) rfl (by kernel_rfl) rfl (by rfl) hH4 (fun W' hw'=>by go_simp <;> exact wv1) ?_
   simp only [sS];refine tV 11 9 (.int .i64 (m:Int)) rfl (by kernel_rfl) rfl (by rfl) hH4 (fun W' hw'=>rfl) ?_;simp only [sS];refine wpAnyH_done (by kernel_rfl) ?_ _;refine NoPanic.normal ?_;have HE:=hid (And.intro hw4.here hH4);clear hH hH4 hw4 hG hD HG3 HC3 HD3
   go_wp2_with fail
   exact ⟨⟨m,rfl,.inr rfl,hid ⟨fun e=>by omega,fun _=>HE.out.1,HE.out.2⟩⟩,by simp [intOf];omega⟩
  ·have HE:=hid (And.intro (HJ.out.2.1 rfl) HJ.out.2.2)
   clear HJ
   go_wp2_with fail
   go_ret2
   exact ⟨rfl,HE.out.1,HE.out.2⟩
end Go.Proofs.YtmgfilacepnjlaaGreatDoor
