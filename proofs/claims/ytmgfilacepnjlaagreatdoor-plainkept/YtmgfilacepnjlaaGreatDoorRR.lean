/-
 package plain: Do, for the kinds that have two paths, and where a path is refused.
-/
import Derived.Test.YtmgfilacepnjlaaGreatDoorRO
namespace Go.Proofs.YtmgfilacepnjlaaGreatDoor
open Go.RowKit

set_option maxHeartbeats 2000000 in
set_option maxRecDepth 100000 in
theorem do_atK {q:PC} (kk:Nat) (hkk:(7≤kk∧kk≤11)∨kk=13) (hb1':bits .and .i64 (usedL.getD kk 0) 1=1) (hb2':bits .and .i64 (usedL.getD kk 0) 2=0) (path tto:ByteArray) (off len:Int) (da:Option Addr) (dl dc:Nat) (made pick ii:Int) (w:World) (R:Array Value→World→Prop) (ks:Nat→Prop) (hks:∀ k,ks k→k < w.heap.size) (hu:UB w) (hm:ML w) (hz:bits .andNot .i64 (givF path tto off len dl made pick) (usedL.getD kk 0)=0) (hm0:0≤made) (hm1:made≤1099511627776) (hs:(splitR path.data.toList).2=0)
  (hWk:∀ W a ls,Chg w W No→datas ls=(splitR path.data.toList).1→LAt W a ls→Calls Tryz.prog 26 #[.pointer (some ⟨q.p,0,none⟩),.slice a ls.length ls.length] W fun e w'=>e=.returned (.tuple #[.int .i64 ii,.int .i64 0])∧w'=W)
  (hM:∀ W,Chg w W No→Calls Tryz.prog 27 #[.pointer (some ⟨q.p,0,none⟩),.int .i64 ii,.agg (opA (kk:Int) path tto off len da dl dc made pick)] W fun e w'=>∃ A,e=.returned (.agg A)∧A.size=10∧A.all (·.oneCell')=true∧R A w'∧Chg W w' ks)
  (hR:∀ A w1 w2 r o,R A w1→w1.heap[w.heap.size + 1]? = some (.cells o 43 (0,0))→PutR w1 (w.heap.size + 1) r 43 w2→R A w2) :
  Calls Tryz.prog 9 #[.pointer (some ⟨q.p,0,none⟩),.agg (opA (kk:Int) path tto off len da dl dc made pick)] w fun e w'=>∃ A,e=.returned (.agg A)∧R A w'∧Chg w w' ks:=by
 obtain ⟨w1,hw1⟩:∃ y,y=(w.alloc (.cells (opA (kk:Int) path tto off len da dl dc made pick) 34)).alloc (.cells (ansE 0) 43):=⟨_,rfl⟩;have hcA:Chg w (w.alloc (.cells (opA (kk:Int) path tto off len da dl dc made pick) 34)) No:=Chg.alloc w _ No
 have hc1:Chg w w1 No:=by rw [hw1];exact hcA.tr (Chg.alloc _ _ No)
 have HO:Hid (∀ W,Chg w1 W No→W.heap[w.heap.size]? = some (.cells #[.int .i64 (kk:Int),.string path,.string tto,.int .i64 off,.int .i64 len,.slice da dl dc,.int .i64 made,.int .i64 pick] 34 (0,0))):=hid (fun W hW=>hW.keep (by rw [hw1];exact (Chg.alloc _ _ No).keep (heap_alloc_new w _) (fun e=>e)) (fun e=>e))
 have hA1:w1.heap[w.heap.size + 1]? = some (.cells (ansE 0) 43 (0,0)):=by
  have:=heap_alloc_new (w.alloc (.cells (opA (kk:Int) path tto off len da dl dc made pick) 34)) (.cells (ansE 0) 43);rw [show (w.alloc (.cells (opA (kk:Int) path tto off len da dl dc made pick) 34)).heap.size=w.heap.size + 1 by simp] at this;rw [hw1]
  exact this
 have HA:Hid (∀ W ks',Chg w1 W ks'→(∀ k,ks' k→k < w.heap.size)→W.heap[w.heap.size + 1]? = some (.cells (ansE 0) 43 (0,0))):=hid (fun W ks' hW hk=>hW.keep hA1 (fun e=>by have:=hk _ e;omega))
 have hb1:Below w.heap.size w w1:=by rw [hw1];exact ((Below.refl _ w).alloc (Nat.le_refl _) _).alloc (by simp) _
 have HMb:Hid (∀ W,Chg w1 W No→Calls Tryz.prog 19 #[.agg #[.int .i64 (kk:Int),.string path,.string tto,.int .i64 off,.int .i64 len,.slice da dl dc,.int .i64 made,.int .i64 pick]] W fun e w'=>e=.returned (.bool true)∧Chg W w' No):=hid (fun W hW=>mayBe_ok kk path tto off len da dl dc made pick W ((hu.keep hc1 (fun e=>e)).keep hW (fun e=>e)) (by omega) (by omega) hz hm0 hm1)
 have hmk:∀ W,Chg w1 W No→ML W:=fun W hW=>by
  obtain ⟨m,hc⟩:=hm.below hb1;refine ⟨m,?_⟩;have hlt:=World.block_lt_of_cell? _ _ hc;unfold World.cell? at hc ⊢;rw [hW.block _ hlt (fun e=>e)]
  exact hc
 have HSp:Hid (∀ W,Chg w1 W No→Calls Tryz.prog 20 #[.agg #[.int .i64 (kk:Int),.string path,.string tto,.int .i64 off,.int .i64 len,.slice da dl dc,.int .i64 made,.int .i64 pick]] W fun e w'=>∃ (a:Option Addr) (ls:List ByteArray),e=.returned (.tuple #[.slice a ls.length ls.length,.slice none 0 0,.int .i64 0])∧datas ls=(splitR path.data.toList).1∧LAt w' a ls∧Chg W w' No):=hid (fun W hW=>splitO_any kk path tto off len da dl dc made pick W ((hu.keep hc1 (fun e=>e)).keep hW (fun e=>e)) (hmk W hW) (by omega) hb1' hb2' hs);unfold opA at hM;have HM:=hid hM;have HWk:=hid hWk;have HRr:=hid hR;have HKs:=hid hks;have HC1:=hid hc1;unfold opA at hw1 ⊢;unfold ansE at hw1;obtain ⟨ki,hki⟩:∃ z:Int,z=(kk:Int):=⟨_,rfl⟩;have HCs:Hid (ki=7∨ki=8∨ki=9∨ki=10∨ki=11∨ki=13):=hid (by omega);rw [←hki] at HO HMb HSp HM hw1 ⊢;have hB:=HMb.out w1 (Chg.refl _ _);have HO1:=hid (HO.out w1 (Chg.refl _ _));obtain ⟨W1,hW1⟩:∃ y,y=w1:=⟨_,rfl⟩;rw [←hW1] at HO HA HMb HSp HC1 hB HO1;have e1:=hW1.trans hw1;clear hu hm hz hm0 hm1 hs hM hWk hR hks hcA hc1 hA1 hb1 hmk hw1 hW1 hki hkk hb1' hb2'
 go_enter Tryz.func9,Tryz.ntmps9
 go_upto_region 1 with fail
 rw [←e1];clear e1
 go_upto_region 3 with (first
  | (refine load_R rfl 34 _ rfl w.heap.size rfl 34 _ _ HO1.out Tryz.underlying34 rfl (by rw [szOp];rfl) ?_)
  | (go_at_call 19;go_must (refine hB.mono ?_;rintro e w2 ⟨rfl,hc2⟩;have HC2:=hid hc2;clear hc2))
  | fail)
 have hS:=HSp.out w2 HC2.out;have HO2:=hid (HO.out w2 HC2.out);clear hB
 go_upto_region 4 with (first
  | (refine load_R rfl 34 _ rfl w.heap.size rfl 34 _ _ HO2.out Tryz.underlying34 rfl (by rw [szOp];rfl) ?_)
  | (go_at_call 20;go_must (refine hS.mono ?_;rintro e w3 ⟨a,ls,rfl,hd3,hl3,hc3⟩;have HD3:=hid hd3;have HL3:=hid hl3;have HC3:=hid (HC2.out.tr hc3);clear hd3 hl3 hc3))
  | fail)
 have q0:w3.cell? ⟨w.heap.size,0,none⟩=some (.int .i64 ki):=(cell_of_row _ _ _ _ _ _ (HO.out w3 HC3.out)).trans rfl
 rcases HCs.out with rfl | rfl | rfl | rfl | rfl | rfl
 all_goals (
  have hWl:=HWk.out w3 a ls (HC1.out.tr HC3.out) HD3.out HL3.out;have hMk:=HM.out w3 (HC1.out.tr HC3.out);have HO3:=hid (HO.out w3 HC3.out);obtain ⟨n,hnn⟩:∃ y,y=ls.length:=⟨_,rfl⟩;rw [←hnn] at hWl ⊢;clear hS hnn
  go_wp2_with (first
   | (refine load_R rfl 34 _ rfl w.heap.size rfl 34 _ _ HO3.out Tryz.underlying34 rfl (by rw [szOp];rfl) ?_)
   | (go_at_call 26;go_must (refine hWl.mono ?_;rintro e w7 ⟨rfl,rfl⟩))
   | (go_at_call 27;go_must (refine hMk.mono ?_;rintro e w4 ⟨A,rfl,hAz,hAo,hRa,hc4⟩;have HAz:=hid hAz;have HAo:=hid hAo;have HRa:=hid hRa;have HC4:=hid hc4;have HA4:=hid (HA.out w4 (fun k=>ks k) (HC3.out.trans hc4 (fun _ _ e=>e.elim) (fun _ _ e=>e)) HKs.out);clear hAz hAo hRa hc4))
   | (refine store_R rfl 43 _ _ rfl (w.heap.size + 1) A rfl rfl 43 _ HA4.out (by rw [szAn,HAz.out]) (by rw [HAz.out];rfl) HAo.out ?_;intro w5 hw5)
   | fail)
  exact bodyPost_ret (v:=.agg A) (results_R1 Tryz.results9 _ _ (w.heap.size + 1) _ 43 _ Tryz.underlying43 rfl (by rw [szAn,HAz.out]) rfl hw5.here) rfl ⟨A,rfl,HRr.out A _ _ _ _ HRa.out HA4.out hw5,((HC1.out.tr HC3.out).trans HC4.out (fun _ _ e=>e.elim) (fun _ _ e=>e)).trans (kt_new hw5) (fun _ _ e=>e) (fun j hj e=>by omega)⟩)
end Go.Proofs.YtmgfilacepnjlaaGreatDoor

namespace Go.Proofs.YtmgfilacepnjlaaGreatDoor
open Go.RowKit

set_option maxHeartbeats 2000000 in
set_option maxRecDepth 100000 in
theorem do_unlink {q:PC} (path tto:ByteArray) (off len:Int) (da:Option Addr) (dl dc:Nat) (made pick:Int) (w:World) (R:Int→World→Prop) (ks:Nat→Prop) (hks:∀ k,ks k→k < w.heap.size) (hu:UB w) (hm:ML w) (hz:bits .andNot .i64 (givF path tto off len dl made pick) 1=0) (hm0:0≤made) (hm1:made≤1099511627776) (hs:(splitR path.data.toList).2=0)
  (hM:∀ W a ls,Chg w W No→datas ls=(splitR path.data.toList).1→LAt W a ls→Calls Tryz.prog 23 #[.pointer (some ⟨q.p,0,none⟩),.slice a ls.length ls.length] W fun e w'=>∃ E,e=.returned (.int .i64 E)∧R E w'∧Chg W w' ks)
  (hR:∀ A w1 w2 r o,R A w1→w1.heap[w.heap.size + 1]? = some (.cells o 43 (0,0))→PutR w1 (w.heap.size + 1) r 43 w2→R A w2) :
  Calls Tryz.prog 9 #[.pointer (some ⟨q.p,0,none⟩),.agg (opA 4 path tto off len da dl dc made pick)] w fun e w'=>∃ E,e=.returned (.agg (ansE E))∧R E w'∧Chg w w' ks:=by
 obtain ⟨w1,hw1⟩:∃ y,y=(w.alloc (.cells (opA 4 path tto off len da dl dc made pick) 34)).alloc (.cells (ansE 0) 43):=⟨_,rfl⟩;have hcA:Chg w (w.alloc (.cells (opA 4 path tto off len da dl dc made pick) 34)) No:=Chg.alloc w _ No
 have hc1:Chg w w1 No:=by rw [hw1];exact hcA.tr (Chg.alloc _ _ No)
 have HO:Hid (∀ W,Chg w1 W No→W.heap[w.heap.size]? = some (.cells #[.int .i64 4,.string path,.string tto,.int .i64 off,.int .i64 len,.slice da dl dc,.int .i64 made,.int .i64 pick] 34 (0,0))):=hid (fun W hW=>hW.keep (by rw [hw1];exact (Chg.alloc _ _ No).keep (heap_alloc_new w _) (fun e=>e)) (fun e=>e))
 have hA1:w1.heap[w.heap.size + 1]? = some (.cells (ansE 0) 43 (0,0)):=by
  have:=heap_alloc_new (w.alloc (.cells (opA 4 path tto off len da dl dc made pick) 34)) (.cells (ansE 0) 43);rw [show (w.alloc (.cells (opA 4 path tto off len da dl dc made pick) 34)).heap.size=w.heap.size + 1 by simp] at this;rw [hw1]
  exact this
 have HA:Hid (∀ W ks',Chg w1 W ks'→(∀ k,ks' k→k < w.heap.size)→W.heap[w.heap.size + 1]? = some (.cells (ansE 0) 43 (0,0))):=hid (fun W ks' hW hk=>hW.keep hA1 (fun e=>by have:=hk _ e;omega))
 have hb1:Below w.heap.size w w1:=by rw [hw1];exact ((Below.refl _ w).alloc (Nat.le_refl _) _).alloc (by simp) _
 have HMb:Hid (∀ W,Chg w1 W No→Calls Tryz.prog 19 #[.agg #[.int .i64 4,.string path,.string tto,.int .i64 off,.int .i64 len,.slice da dl dc,.int .i64 made,.int .i64 pick]] W fun e w'=>e=.returned (.bool true)∧Chg W w' No):=hid (fun W hW=>mayBe_ok 4 path tto off len da dl dc made pick W ((hu.keep hc1 (fun e=>e)).keep hW (fun e=>e)) (by decide) (by decide) hz hm0 hm1)
 have hmk:∀ W,Chg w1 W No→ML W:=fun W hW=>by
  obtain ⟨m,hc⟩:=hm.below hb1;refine ⟨m,?_⟩;have hlt:=World.block_lt_of_cell? _ _ hc;unfold World.cell? at hc ⊢;rw [hW.block _ hlt (fun e=>e)]
  exact hc
 have HSp:Hid (∀ W,Chg w1 W No→Calls Tryz.prog 20 #[.agg #[.int .i64 4,.string path,.string tto,.int .i64 off,.int .i64 len,.slice da dl dc,.int .i64 made,.int .i64 pick]] W fun e w'=>∃ (a:Option Addr) (ls:List ByteArray),e=.returned (.tuple #[.slice a ls.length ls.length,.slice none 0 0,.int .i64 0])∧datas ls=(splitR path.data.toList).1∧LAt w' a ls∧Chg W w' No):=hid (fun W hW=>splitO_any 4 path tto off len da dl dc made pick W ((hu.keep hc1 (fun e=>e)).keep hW (fun e=>e)) (hmk W hW) (by decide) (by decide) (by decide) hs);have HM:=hid hM;have HRr:=hid hR;have HKs:=hid hks;have HC1:=hid hc1;unfold opA at hw1 ⊢;unfold ansE at hw1;have hB:=HMb.out w1 (Chg.refl _ _);have HO1:=hid (HO.out w1 (Chg.refl _ _));obtain ⟨W1,hW1⟩:∃ y,y=w1:=⟨_,rfl⟩;rw [←hW1] at HO HA HMb HSp HC1 hB HO1;have e1:=hW1.trans hw1;clear hu hm hz hm0 hm1 hs hM hR hks hcA hc1 hA1 hb1 hmk hw1 hW1
 go_enter Tryz.func9,Tryz.ntmps9
 go_upto_region 1 with fail
 rw [←e1];clear e1
 go_upto_region 3 with (first
  | (refine load_R rfl 34 _ rfl w.heap.size rfl 34 #[.int .i64 4,.string path,.string tto,.int .i64 off,.int .i64 len,.slice da dl dc,.int .i64 made,.int .i64 pick] _ HO1.out Tryz.underlying34 rfl (by rw [szOp];rfl) ?_)
  | (go_at_call 19;go_must (refine hB.mono ?_;rintro e w2 ⟨rfl,hc2⟩;have HC2:=hid hc2;clear hc2))
  | fail)
 have hS:=HSp.out w2 HC2.out;have HO2:=hid (HO.out w2 HC2.out);clear hB
 go_upto_region 4 with (first
  | (refine load_R rfl 34 _ rfl w.heap.size rfl 34 #[.int .i64 4,.string path,.string tto,.int .i64 off,.int .i64 len,.slice da dl dc,.int .i64 made,.int .i64 pick] _ HO2.out Tryz.underlying34 rfl (by rw [szOp];rfl) ?_)
  | (go_at_call 20;go_must (refine hS.mono ?_;rintro e w3 ⟨a,ls,rfl,hd3,hl3,hc3⟩;have HD3:=hid hd3;have HL3:=hid hl3;have HC3:=hid (HC2.out.tr hc3);clear hd3 hl3 hc3))
  | fail)
 have q0:w3.cell? ⟨w.heap.size,0,none⟩=some (.int .i64 4):=(cell_of_row _ _ _ _ _ _ (HO.out w3 HC3.out)).trans rfl;have hMk:=HM.out w3 a ls (HC1.out.tr HC3.out) HD3.out HL3.out;obtain ⟨n,hnn⟩:∃ y,y=ls.length:=⟨_,rfl⟩;rw [←hnn] at hMk ⊢;clear hS hnn
 go_wp2_with (first
  | (go_at_call 23;go_must (refine hMk.mono ?_;rintro e w4 ⟨E,rfl,hRa,hc4⟩;have HRa:=hid hRa;have HC4:=hid hc4;have HA4:=hid (HA.out w4 (fun k=>ks k) (HC3.out.trans hc4 (fun _ _ e=>e.elim) (fun _ _ e=>e)) HKs.out);clear hRa hc4))
  | (refine store_R rfl 43 _ _ rfl (w.heap.size + 1) #[.int .i64 E,.int .i64 0,.int .i64 0,.int .i64 0,.int .i64 0,.int .i64 0,.int .i64 0,.slice none 0 0,.slice none 0 0,.bool false] rfl rfl 43 _ HA4.out (by rw [szAn];rfl) rfl (by simp [Value.oneCell']) ?_;intro w5 hw5)
  | fail)
 exact bodyPost_ret (v:=.agg #[.int .i64 E,.int .i64 0,.int .i64 0,.int .i64 0,.int .i64 0,.int .i64 0,.int .i64 0,.slice none 0 0,.slice none 0 0,.bool false]) (results_R1 Tryz.results9 _ _ (w.heap.size + 1) _ 43 _ Tryz.underlying43 rfl (by rw [szAn];rfl) rfl hw5.here) rfl ⟨E,rfl,HRr.out E _ _ _ _ HRa.out HA4.out hw5,((HC1.out.tr HC3.out).trans HC4.out (fun _ _ e=>e.elim) (fun _ _ e=>e)).trans (kt_new hw5) (fun _ _ e=>e) (fun j hj e=>by omega)⟩

set_option maxHeartbeats 2000000 in
set_option maxRecDepth 100000 in
theorem do_rmdir {q:PC} (path tto:ByteArray) (off len:Int) (da:Option Addr) (dl dc:Nat) (made pick:Int) (w:World) (R:Int→World→Prop) (ks:Nat→Prop) (hks:∀ k,ks k→k < w.heap.size) (hu:UB w) (hm:ML w) (hz:bits .andNot .i64 (givF path tto off len dl made pick) 1=0) (hm0:0≤made) (hm1:made≤1099511627776) (hs:(splitR path.data.toList).2=0)
  (hM:∀ W a ls,Chg w W No→datas ls=(splitR path.data.toList).1→LAt W a ls→Calls Tryz.prog 24 #[.pointer (some ⟨q.p,0,none⟩),.slice a ls.length ls.length] W fun e w'=>∃ E,e=.returned (.int .i64 E)∧R E w'∧Chg W w' ks)
  (hR:∀ A w1 w2 r o,R A w1→w1.heap[w.heap.size + 1]? = some (.cells o 43 (0,0))→PutR w1 (w.heap.size + 1) r 43 w2→R A w2) :
  Calls Tryz.prog 9 #[.pointer (some ⟨q.p,0,none⟩),.agg (opA 5 path tto off len da dl dc made pick)] w fun e w'=>∃ E,e=.returned (.agg (ansE E))∧R E w'∧Chg w w' ks:=by
 obtain ⟨w1,hw1⟩:∃ y,y=(w.alloc (.cells (opA 5 path tto off len da dl dc made pick) 34)).alloc (.cells (ansE 0) 43):=⟨_,rfl⟩;have hcA:Chg w (w.alloc (.cells (opA 5 path tto off len da dl dc made pick) 34)) No:=Chg.alloc w _ No
 have hc1:Chg w w1 No:=by rw [hw1];exact hcA.tr (Chg.alloc _ _ No)
 have HO:Hid (∀ W,Chg w1 W No→W.heap[w.heap.size]? = some (.cells #[.int .i64 5,.string path,.string tto,.int .i64 off,.int .i64 len,.slice da dl dc,.int .i64 made,.int .i64 pick] 34 (0,0))):=hid (fun W hW=>hW.keep (by rw [hw1];exact (Chg.alloc _ _ No).keep (heap_alloc_new w _) (fun e=>e)) (fun e=>e))
 have hA1:w1.heap[w.heap.size + 1]? = some (.cells (ansE 0) 43 (0,0)):=by
  have:=heap_alloc_new (w.alloc (.cells (opA 5 path tto off len da dl dc made pick) 34)) (.cells (ansE 0) 43);rw [show (w.alloc (.cells (opA 5 path tto off len da dl dc made pick) 34)).heap.size=w.heap.size + 1 by simp] at this;rw [hw1]
  exact this
 have HA:Hid (∀ W ks',Chg w1 W ks'→(∀ k,ks' k→k < w.heap.size)→W.heap[w.heap.size + 1]? = some (.cells (ansE 0) 43 (0,0))):=hid (fun W ks' hW hk=>hW.keep hA1 (fun e=>by have:=hk _ e;omega))
 have hb1:Below w.heap.size w w1:=by rw [hw1];exact ((Below.refl _ w).alloc (Nat.le_refl _) _).alloc (by simp) _
 have HMb:Hid (∀ W,Chg w1 W No→Calls Tryz.prog 19 #[.agg #[.int .i64 5,.string path,.string tto,.int .i64 off,.int .i64 len,.slice da dl dc,.int .i64 made,.int .i64 pick]] W fun e w'=>e=.returned (.bool true)∧Chg W w' No):=hid (fun W hW=>mayBe_ok 5 path tto off len da dl dc made pick W ((hu.keep hc1 (fun e=>e)).keep hW (fun e=>e)) (by decide) (by decide) hz hm0 hm1)
 have hmk:∀ W,Chg w1 W No→ML W:=fun W hW=>by
  obtain ⟨m,hc⟩:=hm.below hb1;refine ⟨m,?_⟩;have hlt:=World.block_lt_of_cell? _ _ hc;unfold World.cell? at hc ⊢;rw [hW.block _ hlt (fun e=>e)]
  exact hc
 have HSp:Hid (∀ W,Chg w1 W No→Calls Tryz.prog 20 #[.agg #[.int .i64 5,.string path,.string tto,.int .i64 off,.int .i64 len,.slice da dl dc,.int .i64 made,.int .i64 pick]] W fun e w'=>∃ (a:Option Addr) (ls:List ByteArray),e=.returned (.tuple #[.slice a ls.length ls.length,.slice none 0 0,.int .i64 0])∧datas ls=(splitR path.data.toList).1∧LAt w' a ls∧Chg W w' No):=hid (fun W hW=>splitO_any 5 path tto off len da dl dc made pick W ((hu.keep hc1 (fun e=>e)).keep hW (fun e=>e)) (hmk W hW) (by decide) (by decide) (by decide) hs);have HM:=hid hM;have HRr:=hid hR;have HKs:=hid hks;have HC1:=hid hc1;unfold opA at hw1 ⊢;unfold ansE at hw1;have hB:=HMb.out w1 (Chg.refl _ _);have HO1:=hid (HO.out w1 (Chg.refl _ _));obtain ⟨W1,hW1⟩:∃ y,y=w1:=⟨_,rfl⟩;rw [←hW1] at HO HA HMb HSp HC1 hB HO1;have e1:=hW1.trans hw1;clear hu hm hz hm0 hm1 hs hM hR hks hcA hc1 hA1 hb1 hmk hw1 hW1
 go_enter Tryz.func9,Tryz.ntmps9
 go_upto_region 1 with fail
 rw [←e1];clear e1
 go_upto_region 3 with (first
  | (refine load_R rfl 34 _ rfl w.heap.size rfl 34 #[.int .i64 5,.string path,.string tto,.int .i64 off,.int .i64 len,.slice da dl dc,.int .i64 made,.int .i64 pick] _ HO1.out Tryz.underlying34 rfl (by rw [szOp];rfl) ?_)
  | (go_at_call 19;go_must (refine hB.mono ?_;rintro e w2 ⟨rfl,hc2⟩;have HC2:=hid hc2;clear hc2))
  | fail)
 have hS:=HSp.out w2 HC2.out;have HO2:=hid (HO.out w2 HC2.out);clear hB
 go_upto_region 4 with (first
  | (refine load_R rfl 34 _ rfl w.heap.size rfl 34 #[.int .i64 5,.string path,.string tto,.int .i64 off,.int .i64 len,.slice da dl dc,.int .i64 made,.int .i64 pick] _ HO2.out Tryz.underlying34 rfl (by rw [szOp];rfl) ?_)
  | (go_at_call 20;go_must (refine hS.mono ?_;rintro e w3 ⟨a,ls,rfl,hd3,hl3,hc3⟩;have HD3:=hid hd3;have HL3:=hid hl3;have HC3:=hid (HC2.out.tr hc3);clear hd3 hl3 hc3))
  | fail)
 have q0:w3.cell? ⟨w.heap.size,0,none⟩=some (.int .i64 5):=(cell_of_row _ _ _ _ _ _ (HO.out w3 HC3.out)).trans rfl;have hMk:=HM.out w3 a ls (HC1.out.tr HC3.out) HD3.out HL3.out;obtain ⟨n,hnn⟩:∃ y,y=ls.length:=⟨_,rfl⟩;rw [←hnn] at hMk ⊢;clear hS hnn
 go_wp2_with (first
  | (go_at_call 24;go_must (refine hMk.mono ?_;rintro e w4 ⟨E,rfl,hRa,hc4⟩;have HRa:=hid hRa;have HC4:=hid hc4;have HA4:=hid (HA.out w4 (fun k=>ks k) (HC3.out.trans hc4 (fun _ _ e=>e.elim) (fun _ _ e=>e)) HKs.out);clear hRa hc4))
  | (refine store_R rfl 43 _ _ rfl (w.heap.size + 1) #[.int .i64 E,.int .i64 0,.int .i64 0,.int .i64 0,.int .i64 0,.int .i64 0,.int .i64 0,.slice none 0 0,.slice none 0 0,.bool false] rfl rfl 43 _ HA4.out (by rw [szAn];rfl) rfl (by simp [Value.oneCell']) ?_;intro w5 hw5)
  | fail)
 exact bodyPost_ret (v:=.agg #[.int .i64 E,.int .i64 0,.int .i64 0,.int .i64 0,.int .i64 0,.int .i64 0,.int .i64 0,.slice none 0 0,.slice none 0 0,.bool false]) (results_R1 Tryz.results9 _ _ (w.heap.size + 1) _ 43 _ Tryz.underlying43 rfl (by rw [szAn];rfl) rfl hw5.here) rfl ⟨E,rfl,HRr.out E _ _ _ _ HRa.out HA4.out hw5,((HC1.out.tr HC3.out).trans HC4.out (fun _ _ e=>e.elim) (fun _ _ e=>e)).trans (kt_new hw5) (fun _ _ e=>e) (fun j hj e=>by omega)⟩

set_option maxHeartbeats 2000000 in
set_option maxRecDepth 100000 in
theorem do_bad {q:PC} (kk:Nat) (hkk:(7≤kk∧kk≤11)∨kk=13) (hb1':bits .and .i64 (usedL.getD kk 0) 1=1) (hb2':bits .and .i64 (usedL.getD kk 0) 2=0) (path tto:ByteArray) (off len:Int) (da:Option Addr) (dl dc:Nat) (made pick E:Int) (w:World) (hE:E≠0) (hu:UB w) (hm:ML w) (hz:bits .andNot .i64 (givF path tto off len dl made pick) (usedL.getD kk 0)=0) (hm0:0≤made) (hm1:made≤1099511627776) (hs:(splitR path.data.toList).2=0)
  (hWk:∀ W a ls,Chg w W No→datas ls=(splitR path.data.toList).1→LAt W a ls→Calls Tryz.prog 26 #[.pointer (some ⟨q.p,0,none⟩),.slice a ls.length ls.length] W fun e w'=>e=.returned (.tuple #[.int .i64 0,.int .i64 E])∧w'=W) :
  Calls Tryz.prog 9 #[.pointer (some ⟨q.p,0,none⟩),.agg (opA (kk:Int) path tto off len da dl dc made pick)] w fun e w'=>e=.returned (.agg (ansE E))∧Chg w w' No:=by
 obtain ⟨w1,hw1⟩:∃ y,y=(w.alloc (.cells (opA (kk:Int) path tto off len da dl dc made pick) 34)).alloc (.cells (ansE 0) 43):=⟨_,rfl⟩;have hcA:Chg w (w.alloc (.cells (opA (kk:Int) path tto off len da dl dc made pick) 34)) No:=Chg.alloc w _ No
 have hc1:Chg w w1 No:=by rw [hw1];exact hcA.tr (Chg.alloc _ _ No)
 have HO:Hid (∀ W,Chg w1 W No→W.heap[w.heap.size]? = some (.cells #[.int .i64 (kk:Int),.string path,.string tto,.int .i64 off,.int .i64 len,.slice da dl dc,.int .i64 made,.int .i64 pick] 34 (0,0))):=hid (fun W hW=>hW.keep (by rw [hw1];exact (Chg.alloc _ _ No).keep (heap_alloc_new w _) (fun e=>e)) (fun e=>e))
 have hA1:w1.heap[w.heap.size + 1]? = some (.cells (ansE 0) 43 (0,0)):=by
  have:=heap_alloc_new (w.alloc (.cells (opA (kk:Int) path tto off len da dl dc made pick) 34)) (.cells (ansE 0) 43);rw [show (w.alloc (.cells (opA (kk:Int) path tto off len da dl dc made pick) 34)).heap.size=w.heap.size + 1 by simp] at this;rw [hw1]
  exact this
 have HA:Hid (∀ W ks',Chg w1 W ks'→(∀ k,ks' k→k < w.heap.size)→W.heap[w.heap.size + 1]? = some (.cells (ansE 0) 43 (0,0))):=hid (fun W ks' hW hk=>hW.keep hA1 (fun e=>by have:=hk _ e;omega))
 have hb1:Below w.heap.size w w1:=by rw [hw1];exact ((Below.refl _ w).alloc (Nat.le_refl _) _).alloc (by simp) _
 have HMb:Hid (∀ W,Chg w1 W No→Calls Tryz.prog 19 #[.agg #[.int .i64 (kk:Int),.string path,.string tto,.int .i64 off,.int .i64 len,.slice da dl dc,.int .i64 made,.int .i64 pick]] W fun e w'=>e=.returned (.bool true)∧Chg W w' No):=hid (fun W hW=>mayBe_ok kk path tto off len da dl dc made pick W ((hu.keep hc1 (fun e=>e)).keep hW (fun e=>e)) (by omega) (by omega) hz hm0 hm1)
 have hmk:∀ W,Chg w1 W No→ML W:=fun W hW=>by
  obtain ⟨m,hc⟩:=hm.below hb1;refine ⟨m,?_⟩;have hlt:=World.block_lt_of_cell? _ _ hc;unfold World.cell? at hc ⊢;rw [hW.block _ hlt (fun e=>e)]
  exact hc
 have HSp:Hid (∀ W,Chg w1 W No→Calls Tryz.prog 20 #[.agg #[.int .i64 (kk:Int),.string path,.string tto,.int .i64 off,.int .i64 len,.slice da dl dc,.int .i64 made,.int .i64 pick]] W fun e w'=>∃ (a:Option Addr) (ls:List ByteArray),e=.returned (.tuple #[.slice a ls.length ls.length,.slice none 0 0,.int .i64 0])∧datas ls=(splitR path.data.toList).1∧LAt w' a ls∧Chg W w' No):=hid (fun W hW=>splitO_any kk path tto off len da dl dc made pick W ((hu.keep hc1 (fun e=>e)).keep hW (fun e=>e)) (hmk W hW) (by omega) hb1' hb2' hs);have HWk:=hid hWk;have HC1:=hid hc1;unfold opA at hw1 ⊢;unfold ansE at hw1;obtain ⟨ki,hki⟩:∃ z:Int,z=(kk:Int):=⟨_,rfl⟩;have HCs:Hid (ki=7∨ki=8∨ki=9∨ki=10∨ki=11∨ki=13):=hid (by omega);rw [←hki] at HO HMb HSp hw1 ⊢;have hB:=HMb.out w1 (Chg.refl _ _);have HO1:=hid (HO.out w1 (Chg.refl _ _));obtain ⟨W1,hW1⟩:∃ y,y=w1:=⟨_,rfl⟩;rw [←hW1] at HO HA HMb HSp HC1 hB HO1;have e1:=hW1.trans hw1;clear hu hm hz hm0 hm1 hs hWk hcA hc1 hA1 hb1 hmk hw1 hW1 hki hkk hb1' hb2'
 go_enter Tryz.func9,Tryz.ntmps9
 go_upto_region 1 with fail
 rw [←e1];clear e1
 go_upto_region 3 with (first
  | (refine load_R rfl 34 _ rfl w.heap.size rfl 34 _ _ HO1.out Tryz.underlying34 rfl (by rw [szOp];rfl) ?_)
  | (go_at_call 19;go_must (refine hB.mono ?_;rintro e w2 ⟨rfl,hc2⟩;have HC2:=hid hc2;clear hc2))
  | fail)
 have hS:=HSp.out w2 HC2.out;have HO2:=hid (HO.out w2 HC2.out);clear hB
 go_upto_region 4 with (first
  | (refine load_R rfl 34 _ rfl w.heap.size rfl 34 _ _ HO2.out Tryz.underlying34 rfl (by rw [szOp];rfl) ?_)
  | (go_at_call 20;go_must (refine hS.mono ?_;rintro e w3 ⟨a,ls,rfl,hd3,hl3,hc3⟩;have HD3:=hid hd3;have HL3:=hid hl3;have HC3:=hid (HC2.out.tr hc3);clear hd3 hl3 hc3))
  | fail)
 have q0:w3.cell? ⟨w.heap.size,0,none⟩=some (.int .i64 ki):=(cell_of_row _ _ _ _ _ _ (HO.out w3 HC3.out)).trans rfl
 rcases HCs.out with rfl | rfl | rfl | rfl | rfl | rfl
 all_goals (
  have hWl:=HWk.out w3 a ls (HC1.out.tr HC3.out) HD3.out HL3.out;have HA4:=hid (HA.out w3 No HC3.out (fun _ e=>e.elim));have bE:(E == 0)=false:=beq_eq_false_iff_ne.2 hE;obtain ⟨n,hnn⟩:∃ y,y=ls.length:=⟨_,rfl⟩;rw [←hnn] at hWl ⊢;clear hS hnn
  go_wp2_with (first
   | (go_at_call 26;go_must (refine hWl.mono ?_;rintro e w7 ⟨rfl,rfl⟩))
   | (refine store_R rfl 43 _ _ rfl (w.heap.size + 1) #[.int .i64 E,.int .i64 0,.int .i64 0,.int .i64 0,.int .i64 0,.int .i64 0,.int .i64 0,.slice none 0 0,.slice none 0 0,.bool false] rfl rfl 43 _ HA4.out (by rw [szAn];rfl) rfl (by simp [Value.oneCell']) ?_;intro w5 hw5)
   | fail)
  exact bodyPost_ret (v:=.agg #[.int .i64 E,.int .i64 0,.int .i64 0,.int .i64 0,.int .i64 0,.int .i64 0,.int .i64 0,.slice none 0 0,.slice none 0 0,.bool false]) (results_R1 Tryz.results9 _ _ (w.heap.size + 1) _ 43 _ Tryz.underlying43 rfl (by rw [szAn];rfl) rfl hw5.here) rfl ⟨rfl,(HC1.out.tr HC3.out).trans (kt_new hw5) (fun _ _ e=>e) (fun j hj e=>by omega)⟩)
end Go.Proofs.YtmgfilacepnjlaaGreatDoor

namespace Go.Proofs.YtmgfilacepnjlaaGreatDoor
open Go.RowKit

set_option maxHeartbeats 2000000 in
set_option maxRecDepth 100000 in
theorem splitT_any (kk:Nat) (path tto:ByteArray) (off len:Int) (da:Option Addr) (dl dc:Nat) (made pick:Int) (w:World) (hu:UB w) (hm:ML w) (h2:kk≤14) (hb1:bits .and .i64 (usedL.getD kk 0) 1=1) (hb2:bits .and .i64 (usedL.getD kk 0) 2=2) (hs:(splitR path.data.toList).2=0) (hst:(splitR tto.data.toList).2=0) :
  Calls Tryz.prog 20 #[.agg (opA (kk:Nat) path tto off len da dl dc made pick)] w fun e w'=>∃ (a:Option Addr) (ls:List ByteArray) (b:Option Addr) (ts:List ByteArray),e=.returned (.tuple #[.slice a ls.length ls.length,.slice b ts.length ts.length,.int .i64 0])∧datas ls=(splitR path.data.toList).1∧LAt w' a ls∧datas ts=(splitR tto.data.toList).1∧LAt w' b ts∧Chg w w' No:=by
 obtain ⟨w1,hw1⟩:∃ y,y=w.alloc (.cells (opA (kk:Nat) path tto off len da dl dc made pick) 34):=⟨_,rfl⟩
 have hbl:Below w.heap.size w w1:=by rw [hw1];exact (Below.refl _ w).alloc (Nat.le_refl _) _
 have hc1:Chg w w1 No:=by rw [hw1];exact Chg.alloc w _ No
 have hop:w1.heap[w.heap.size]? = some (.cells (opA (kk:Nat) path tto off len da dl dc made pick) 34 (0,0)):=by rw [hw1];exact heap_alloc_new w _
 have hu1:=hu.keep hc1 (fun e=>e);have hSp:=split_any path w1 (hm.below hbl);rw [hs] at hSp
 have HOp:Hid (∀ W,Below w1.heap.size w1 W→W.cell? ⟨w.heap.size,0,none⟩=some (.int .i64 (kk:Nat))∧W.cell? ⟨0,kk,none⟩=some (.int .i64 (usedL.getD kk 0))∧W.cell? ⟨w.heap.size,2,none⟩=some (.string tto)∧Chg w W No):=hid (fun W hW=>by
  have hC:=Chg.of_below hW No
  exact ⟨(cell_of_row _ _ _ _ _ _ (hC.keep hop (fun e=>e))).trans rfl,(hu1.keep hC (fun e=>e)).2 kk (by omega),(cell_of_row _ _ _ _ _ _ (hC.keep hop (fun e=>e))).trans rfl,hc1.tr hC⟩)
 have q0:w1.cell? ⟨w.heap.size,0,none⟩=some (.int .i64 (kk:Nat)):=(cell_of_row _ _ _ _ _ _ hop).trans rfl;have q1:w1.cell? ⟨w.heap.size,1,none⟩=some (.string path):=(cell_of_row _ _ _ _ _ _ hop).trans rfl;have qu:=hu1.2 kk (by omega);obtain ⟨uk,huk⟩:∃ y,y=usedL.getD kk 0:=⟨_,rfl⟩;rw [←huk] at hb1 hb2 qu HOp
 have k3:(kk:Int)≤14:=by omega
 have HS2:Hid (∀ W,Below w1.heap.size w1 W→Calls Tryz.prog 41 #[.string tto] W fun e w'=>∃ (a:Option Addr) (ls:List ByteArray),e=.returned (.tuple #[.slice a ls.length ls.length,.int .i64 0])∧datas ls=(splitR tto.data.toList).1∧LAt w' a ls∧Chg W w' No):=hid (fun W hW=>by
  have k:=split_any tto W ((hm.below hbl).below hW);rw [hst] at k;refine k.mono ?_
  rintro e w' ⟨a,ls,rfl,hd2,ho2,hb2c⟩
  exact ⟨a,ls,rfl,hd2,ho2.at,Chg.of_below hb2c No⟩)
 unfold opA at hw1 ⊢;rw [hw1] at hSp HOp HS2 q0 q1 qu;clear hop hc1 hw1 hu hu1 huk hbl hm hs hst
 go_enter Tryz.func20,Tryz.ntmps20
 go_upto_region 3 with (first
  | (go_at_call 41;go_must (refine hSp.mono ?_;rintro e w2 ⟨a,ls,rfl,hd2,ho2,hb2c⟩;have HD:=hid hd2;have HO:=hid ho2.at;obtain ⟨r0,ru,r2,hcc⟩:=HOp.out w2 hb2c;have HC:=hid hcc;have hS2:=HS2.out w2 hb2c;clear hd2 ho2 hb2c hcc q0 q1 qu))
  | fail)
 obtain ⟨n,hnn⟩:∃ y,y=ls.length:=⟨_,rfl⟩;rw [←hnn];have HNn:=hid hnn;clear hnn
 go_wp2_with (first
  | (go_at_call 41;go_must (refine hS2.mono ?_;rintro e w4 ⟨b,ts,rfl,hd4,hl4,hc4⟩;have HD4:=hid hd4;have HL4:=hid hl4;have HC4:=hid hc4;clear hd4 hl4 hc4))
  | fail)
 exact bodyPost_ret (results_tmp3 Tryz.results20 _ _ _) rfl ⟨a,ls,b,ts,by rw [HNn.out];rfl,HD.out,LAt.below HO.out HC4.out.below,HD4.out,HL4.out,HC.out.tr HC4.out⟩
set_option maxHeartbeats 2000000 in
set_option maxRecDepth 100000 in
theorem splitO_bad (kk:Nat) (path tto:ByteArray) (off len:Int) (da:Option Addr) (dl dc:Nat) (made pick:Int) (w:World) (hu:UB w) (hm:ML w) (h2:kk≤14) (hb1:bits .and .i64 (usedL.getD kk 0) 1=1) (hs:(splitR path.data.toList).2≠0) :
  Calls Tryz.prog 20 #[.agg (opA (kk:Nat) path tto off len da dl dc made pick)] w fun e w'=>e=.returned (.tuple #[.slice none 0 0,.slice none 0 0,.int .i64 (splitR path.data.toList).2])∧Chg w w' No:=by
 obtain ⟨w1,hw1⟩:∃ y,y=w.alloc (.cells (opA (kk:Nat) path tto off len da dl dc made pick) 34):=⟨_,rfl⟩
 have hbl:Below w.heap.size w w1:=by rw [hw1];exact (Below.refl _ w).alloc (Nat.le_refl _) _
 have hc1:Chg w w1 No:=by rw [hw1];exact Chg.alloc w _ No
 have hop:w1.heap[w.heap.size]? = some (.cells (opA (kk:Nat) path tto off len da dl dc made pick) 34 (0,0)):=by rw [hw1];exact heap_alloc_new w _
 have hu1:=hu.keep hc1 (fun e=>e);have hSp:=split_any path w1 (hm.below hbl);obtain ⟨E,hE⟩:∃ y,y=(splitR path.data.toList).2:=⟨_,rfl⟩;rw [←hE] at hs hSp ⊢;have bE:(E == 0)=false:=beq_eq_false_iff_ne.2 hs
 have HOp:Hid (∀ W,Below w1.heap.size w1 W→W.cell? ⟨w.heap.size,0,none⟩=some (.int .i64 (kk:Nat))∧W.cell? ⟨0,kk,none⟩=some (.int .i64 (usedL.getD kk 0))∧Chg w W No):=hid (fun W hW=>by
  have hC:=Chg.of_below hW No
  exact ⟨(cell_of_row _ _ _ _ _ _ (hC.keep hop (fun e=>e))).trans rfl,(hu1.keep hC (fun e=>e)).2 kk (by omega),hc1.tr hC⟩)
 have q0:w1.cell? ⟨w.heap.size,0,none⟩=some (.int .i64 (kk:Nat)):=(cell_of_row _ _ _ _ _ _ hop).trans rfl;have q1:w1.cell? ⟨w.heap.size,1,none⟩=some (.string path):=(cell_of_row _ _ _ _ _ _ hop).trans rfl;have qu:=hu1.2 kk (by omega);obtain ⟨uk,huk⟩:∃ y,y=usedL.getD kk 0:=⟨_,rfl⟩;rw [←huk] at hb1 qu HOp
 have k3:(kk:Int)≤14:=by omega
 unfold opA at hw1 ⊢;rw [hw1] at hSp HOp q0 q1 qu;clear hop hc1 hw1 hu hu1 huk hbl hm hE
 go_enter Tryz.func20,Tryz.ntmps20
 go_wp2_with (first
  | (go_at_call 41;go_must (refine hSp.mono ?_;rintro e w2 ⟨a,ls,rfl,hd2,ho2,hb2c⟩;obtain ⟨r0,ru,hcc⟩:=HOp.out w2 hb2c;have HC:=hid hcc;clear hd2 ho2 hb2c hcc q0 q1 qu))
  | fail)
 exact bodyPost_ret (results_tmp3 Tryz.results20 _ _ _) rfl ⟨rfl,HC.out⟩
end Go.Proofs.YtmgfilacepnjlaaGreatDoor

namespace Go.Proofs.YtmgfilacepnjlaaGreatDoor
open Go.RowKit

set_option maxHeartbeats 2000000 in
set_option maxRecDepth 100000 in
theorem do_link {q:PC} (path tto:ByteArray) (off len:Int) (da:Option Addr) (dl dc:Nat) (made pick:Int) (w:World) (R:Int→World→Prop) (ks:Nat→Prop) (hks:∀ k,ks k→k < w.heap.size) (hu:UB w) (hm:ML w) (hz:bits .andNot .i64 (givF path tto off len dl made pick) 3=0) (hm0:0≤made) (hm1:made≤1099511627776) (hs:(splitR path.data.toList).2=0) (hst:(splitR tto.data.toList).2=0)
  (hM:∀ W a ls b ts,Chg w W No→datas ls=(splitR path.data.toList).1→LAt W a ls→datas ts=(splitR tto.data.toList).1→LAt W b ts→Calls Tryz.prog 22 #[.pointer (some ⟨q.p,0,none⟩),.slice a ls.length ls.length,.slice b ts.length ts.length] W fun e w'=>∃ E,e=.returned (.int .i64 E)∧R E w'∧Chg W w' ks)
  (hR:∀ A w1 w2 r o,R A w1→w1.heap[w.heap.size + 1]? = some (.cells o 43 (0,0))→PutR w1 (w.heap.size + 1) r 43 w2→R A w2) :
  Calls Tryz.prog 9 #[.pointer (some ⟨q.p,0,none⟩),.agg (opA 3 path tto off len da dl dc made pick)] w fun e w'=>∃ E,e=.returned (.agg (ansE E))∧R E w'∧Chg w w' ks:=by
 obtain ⟨w1,hw1⟩:∃ y,y=(w.alloc (.cells (opA 3 path tto off len da dl dc made pick) 34)).alloc (.cells (ansE 0) 43):=⟨_,rfl⟩;have hcA:Chg w (w.alloc (.cells (opA 3 path tto off len da dl dc made pick) 34)) No:=Chg.alloc w _ No
 have hc1:Chg w w1 No:=by rw [hw1];exact hcA.tr (Chg.alloc _ _ No)
 have HO:Hid (∀ W,Chg w1 W No→W.heap[w.heap.size]? = some (.cells #[.int .i64 3,.string path,.string tto,.int .i64 off,.int .i64 len,.slice da dl dc,.int .i64 made,.int .i64 pick] 34 (0,0))):=hid (fun W hW=>hW.keep (by rw [hw1];exact (Chg.alloc _ _ No).keep (heap_alloc_new w _) (fun e=>e)) (fun e=>e))
 have hA1:w1.heap[w.heap.size + 1]? = some (.cells (ansE 0) 43 (0,0)):=by
  have:=heap_alloc_new (w.alloc (.cells (opA 3 path tto off len da dl dc made pick) 34)) (.cells (ansE 0) 43);rw [show (w.alloc (.cells (opA 3 path tto off len da dl dc made pick) 34)).heap.size=w.heap.size + 1 by simp] at this;rw [hw1]
  exact this
 have HA:Hid (∀ W ks',Chg w1 W ks'→(∀ k,ks' k→k < w.heap.size)→W.heap[w.heap.size + 1]? = some (.cells (ansE 0) 43 (0,0))):=hid (fun W ks' hW hk=>hW.keep hA1 (fun e=>by have:=hk _ e;omega))
 have hb1:Below w.heap.size w w1:=by rw [hw1];exact ((Below.refl _ w).alloc (Nat.le_refl _) _).alloc (by simp) _
 have HMb:Hid (∀ W,Chg w1 W No→Calls Tryz.prog 19 #[.agg #[.int .i64 3,.string path,.string tto,.int .i64 off,.int .i64 len,.slice da dl dc,.int .i64 made,.int .i64 pick]] W fun e w'=>e=.returned (.bool true)∧Chg W w' No):=hid (fun W hW=>mayBe_ok 3 path tto off len da dl dc made pick W ((hu.keep hc1 (fun e=>e)).keep hW (fun e=>e)) (by decide) (by decide) hz hm0 hm1)
 have hmk:∀ W,Chg w1 W No→ML W:=fun W hW=>by
  obtain ⟨m,hc⟩:=hm.below hb1;refine ⟨m,?_⟩;have hlt:=World.block_lt_of_cell? _ _ hc;unfold World.cell? at hc ⊢;rw [hW.block _ hlt (fun e=>e)]
  exact hc
 have HSp:Hid (∀ W,Chg w1 W No→Calls Tryz.prog 20 #[.agg #[.int .i64 3,.string path,.string tto,.int .i64 off,.int .i64 len,.slice da dl dc,.int .i64 made,.int .i64 pick]] W fun e w'=>∃ (a:Option Addr) (ls:List ByteArray) (b:Option Addr) (ts:List ByteArray),e=.returned (.tuple #[.slice a ls.length ls.length,.slice b ts.length ts.length,.int .i64 0])∧datas ls=(splitR path.data.toList).1∧LAt w' a ls∧datas ts=(splitR tto.data.toList).1∧LAt w' b ts∧Chg W w' No):=hid (fun W hW=>splitT_any 3 path tto off len da dl dc made pick W ((hu.keep hc1 (fun e=>e)).keep hW (fun e=>e)) (hmk W hW) (by decide) (by decide) (by decide) hs hst);have HM:=hid hM;have HRr:=hid hR;have HKs:=hid hks;have HC1:=hid hc1;unfold opA at hw1 ⊢;unfold ansE at hw1;have hB:=HMb.out w1 (Chg.refl _ _);have HO1:=hid (HO.out w1 (Chg.refl _ _));obtain ⟨W1,hW1⟩:∃ y,y=w1:=⟨_,rfl⟩;rw [←hW1] at HO HA HMb HSp HC1 hB HO1;have e1:=hW1.trans hw1;clear hu hm hz hm0 hm1 hs hst hM hR hks hcA hc1 hA1 hb1 hmk hw1 hW1
 go_enter Tryz.func9,Tryz.ntmps9
 go_upto_region 1 with fail
 rw [←e1];clear e1
 go_upto_region 3 with (first
  | (refine load_R rfl 34 _ rfl w.heap.size rfl 34 #[.int .i64 3,.string path,.string tto,.int .i64 off,.int .i64 len,.slice da dl dc,.int .i64 made,.int .i64 pick] _ HO1.out Tryz.underlying34 rfl (by rw [szOp];rfl) ?_)
  | (go_at_call 19;go_must (refine hB.mono ?_;rintro e w2 ⟨rfl,hc2⟩;have HC2:=hid hc2;clear hc2))
  | fail)
 have hS:=HSp.out w2 HC2.out;have HO2:=hid (HO.out w2 HC2.out);clear hB
 go_upto_region 4 with (first
  | (refine load_R rfl 34 _ rfl w.heap.size rfl 34 #[.int .i64 3,.string path,.string tto,.int .i64 off,.int .i64 len,.slice da dl dc,.int .i64 made,.int .i64 pick] _ HO2.out Tryz.underlying34 rfl (by rw [szOp];rfl) ?_)
  | (go_at_call 20;go_must (refine hS.mono ?_;rintro e w3 ⟨a,ls,b,ts,rfl,hd3,hl3,he3,hm3,hc3⟩;have HD3:=hid hd3;have HL3:=hid hl3;have HE3:=hid he3;have HM3:=hid hm3;have HC3:=hid (HC2.out.tr hc3);clear hd3 hl3 he3 hm3 hc3))
  | fail)
 have q0:w3.cell? ⟨w.heap.size,0,none⟩=some (.int .i64 3):=(cell_of_row _ _ _ _ _ _ (HO.out w3 HC3.out)).trans rfl;have hMk:=HM.out w3 a ls b ts (HC1.out.tr HC3.out) HD3.out HL3.out HE3.out HM3.out;obtain ⟨n,hnn⟩:∃ y,y=ls.length:=⟨_,rfl⟩;obtain ⟨m,hmm⟩:∃ y,y=ts.length:=⟨_,rfl⟩;rw [←hnn,←hmm] at hMk ⊢;clear hS hnn hmm
 go_wp2_with (first
  | (go_at_call 22;go_must (refine hMk.mono ?_;rintro e w4 ⟨E,rfl,hRa,hc4⟩;have HRa:=hid hRa;have HC4:=hid hc4;have HA4:=hid (HA.out w4 (fun k=>ks k) (HC3.out.trans hc4 (fun _ _ e=>e.elim) (fun _ _ e=>e)) HKs.out);clear hRa hc4))
  | (refine store_R rfl 43 _ _ rfl (w.heap.size + 1) #[.int .i64 E,.int .i64 0,.int .i64 0,.int .i64 0,.int .i64 0,.int .i64 0,.int .i64 0,.slice none 0 0,.slice none 0 0,.bool false] rfl rfl 43 _ HA4.out (by rw [szAn];rfl) rfl (by simp [Value.oneCell']) ?_;intro w5 hw5)
  | fail)
 exact bodyPost_ret (v:=.agg #[.int .i64 E,.int .i64 0,.int .i64 0,.int .i64 0,.int .i64 0,.int .i64 0,.int .i64 0,.slice none 0 0,.slice none 0 0,.bool false]) (results_R1 Tryz.results9 _ _ (w.heap.size + 1) _ 43 _ Tryz.underlying43 rfl (by rw [szAn];rfl) rfl hw5.here) rfl ⟨E,rfl,HRr.out E _ _ _ _ HRa.out HA4.out hw5,((HC1.out.tr HC3.out).trans HC4.out (fun _ _ e=>e.elim) (fun _ _ e=>e)).trans (kt_new hw5) (fun _ _ e=>e) (fun j hj e=>by omega)⟩

set_option maxHeartbeats 2000000 in
set_option maxRecDepth 100000 in
theorem do_rename {q:PC} (path tto:ByteArray) (off len:Int) (da:Option Addr) (dl dc:Nat) (made pick:Int) (w:World) (R:Int→World→Prop) (ks:Nat→Prop) (hks:∀ k,ks k→k < w.heap.size) (hu:UB w) (hm:ML w) (hz:bits .andNot .i64 (givF path tto off len dl made pick) 3=0) (hm0:0≤made) (hm1:made≤1099511627776) (hs:(splitR path.data.toList).2=0) (hst:(splitR tto.data.toList).2=0)
  (hM:∀ W a ls b ts,Chg w W No→datas ls=(splitR path.data.toList).1→LAt W a ls→datas ts=(splitR tto.data.toList).1→LAt W b ts→Calls Tryz.prog 25 #[.pointer (some ⟨q.p,0,none⟩),.slice a ls.length ls.length,.slice b ts.length ts.length] W fun e w'=>∃ E,e=.returned (.int .i64 E)∧R E w'∧Chg W w' ks)
  (hR:∀ A w1 w2 r o,R A w1→w1.heap[w.heap.size + 1]? = some (.cells o 43 (0,0))→PutR w1 (w.heap.size + 1) r 43 w2→R A w2) :
  Calls Tryz.prog 9 #[.pointer (some ⟨q.p,0,none⟩),.agg (opA 6 path tto off len da dl dc made pick)] w fun e w'=>∃ E,e=.returned (.agg (ansE E))∧R E w'∧Chg w w' ks:=by
 obtain ⟨w1,hw1⟩:∃ y,y=(w.alloc (.cells (opA 6 path tto off len da dl dc made pick) 34)).alloc (.cells (ansE 0) 43):=⟨_,rfl⟩;have hcA:Chg w (w.alloc (.cells (opA 6 path tto off len da dl dc made pick) 34)) No:=Chg.alloc w _ No
 have hc1:Chg w w1 No:=by rw [hw1];exact hcA.tr (Chg.alloc _ _ No)
 have HO:Hid (∀ W,Chg w1 W No→W.heap[w.heap.size]? = some (.cells #[.int .i64 6,.string path,.string tto,.int .i64 off,.int .i64 len,.slice da dl dc,.int .i64 made,.int .i64 pick] 34 (0,0))):=hid (fun W hW=>hW.keep (by rw [hw1];exact (Chg.alloc _ _ No).keep (heap_alloc_new w _) (fun e=>e)) (fun e=>e))
 have hA1:w1.heap[w.heap.size + 1]? = some (.cells (ansE 0) 43 (0,0)):=by
  have:=heap_alloc_new (w.alloc (.cells (opA 6 path tto off len da dl dc made pick) 34)) (.cells (ansE 0) 43);rw [show (w.alloc (.cells (opA 6 path tto off len da dl dc made pick) 34)).heap.size=w.heap.size + 1 by simp] at this;rw [hw1]
  exact this
 have HA:Hid (∀ W ks',Chg w1 W ks'→(∀ k,ks' k→k < w.heap.size)→W.heap[w.heap.size + 1]? = some (.cells (ansE 0) 43 (0,0))):=hid (fun W ks' hW hk=>hW.keep hA1 (fun e=>by have:=hk _ e;omega))
 have hb1:Below w.heap.size w w1:=by rw [hw1];exact ((Below.refl _ w).alloc (Nat.le_refl _) _).alloc (by simp) _
 have HMb:Hid (∀ W,Chg w1 W No→Calls Tryz.prog 19 #[.agg #[.int .i64 6,.string path,.string tto,.int .i64 off,.int .i64 len,.slice da dl dc,.int .i64 made,.int .i64 pick]] W fun e w'=>e=.returned (.bool true)∧Chg W w' No):=hid (fun W hW=>mayBe_ok 6 path tto off len da dl dc made pick W ((hu.keep hc1 (fun e=>e)).keep hW (fun e=>e)) (by decide) (by decide) hz hm0 hm1)
 have hmk:∀ W,Chg w1 W No→ML W:=fun W hW=>by
  obtain ⟨m,hc⟩:=hm.below hb1;refine ⟨m,?_⟩;have hlt:=World.block_lt_of_cell? _ _ hc;unfold World.cell? at hc ⊢;rw [hW.block _ hlt (fun e=>e)]
  exact hc
 have HSp:Hid (∀ W,Chg w1 W No→Calls Tryz.prog 20 #[.agg #[.int .i64 6,.string path,.string tto,.int .i64 off,.int .i64 len,.slice da dl dc,.int .i64 made,.int .i64 pick]] W fun e w'=>∃ (a:Option Addr) (ls:List ByteArray) (b:Option Addr) (ts:List ByteArray),e=.returned (.tuple #[.slice a ls.length ls.length,.slice b ts.length ts.length,.int .i64 0])∧datas ls=(splitR path.data.toList).1∧LAt w' a ls∧datas ts=(splitR tto.data.toList).1∧LAt w' b ts∧Chg W w' No):=hid (fun W hW=>splitT_any 6 path tto off len da dl dc made pick W ((hu.keep hc1 (fun e=>e)).keep hW (fun e=>e)) (hmk W hW) (by decide) (by decide) (by decide) hs hst);have HM:=hid hM;have HRr:=hid hR;have HKs:=hid hks;have HC1:=hid hc1;unfold opA at hw1 ⊢;unfold ansE at hw1;have hB:=HMb.out w1 (Chg.refl _ _);have HO1:=hid (HO.out w1 (Chg.refl _ _));obtain ⟨W1,hW1⟩:∃ y,y=w1:=⟨_,rfl⟩;rw [←hW1] at HO HA HMb HSp HC1 hB HO1;have e1:=hW1.trans hw1;clear hu hm hz hm0 hm1 hs hst hM hR hks hcA hc1 hA1 hb1 hmk hw1 hW1
 go_enter Tryz.func9,Tryz.ntmps9
 go_upto_region 1 with fail
 rw [←e1];clear e1
 go_upto_region 3 with (first
  | (refine load_R rfl 34 _ rfl w.heap.size rfl 34 #[.int .i64 6,.string path,.string tto,.int .i64 off,.int .i64 len,.slice da dl dc,.int .i64 made,.int .i64 pick] _ HO1.out Tryz.underlying34 rfl (by rw [szOp];rfl) ?_)
  | (go_at_call 19;go_must (refine hB.mono ?_;rintro e w2 ⟨rfl,hc2⟩;have HC2:=hid hc2;clear hc2))
  | fail)
 have hS:=HSp.out w2 HC2.out;have HO2:=hid (HO.out w2 HC2.out);clear hB
 go_upto_region 4 with (first
  | (refine load_R rfl 34 _ rfl w.heap.size rfl 34 #[.int .i64 6,.string path,.string tto,.int .i64 off,.int .i64 len,.slice da dl dc,.int .i64 made,.int .i64 pick] _ HO2.out Tryz.underlying34 rfl (by rw [szOp];rfl) ?_)
  | (go_at_call 20;go_must (refine hS.mono ?_;rintro e w3 ⟨a,ls,b,ts,rfl,hd3,hl3,he3,hm3,hc3⟩;have HD3:=hid hd3;have HL3:=hid hl3;have HE3:=hid he3;have HM3:=hid hm3;have HC3:=hid (HC2.out.tr hc3);clear hd3 hl3 he3 hm3 hc3))
  | fail)
 have q0:w3.cell? ⟨w.heap.size,0,none⟩=some (.int .i64 6):=(cell_of_row _ _ _ _ _ _ (HO.out w3 HC3.out)).trans rfl;have hMk:=HM.out w3 a ls b ts (HC1.out.tr HC3.out) HD3.out HL3.out HE3.out HM3.out;obtain ⟨n,hnn⟩:∃ y,y=ls.length:=⟨_,rfl⟩;obtain ⟨m,hmm⟩:∃ y,y=ts.length:=⟨_,rfl⟩;rw [←hnn,←hmm] at hMk ⊢;clear hS hnn hmm
 go_wp2_with (first
  | (go_at_call 25;go_must (refine hMk.mono ?_;rintro e w4 ⟨E,rfl,hRa,hc4⟩;have HRa:=hid hRa;have HC4:=hid hc4;have HA4:=hid (HA.out w4 (fun k=>ks k) (HC3.out.trans hc4 (fun _ _ e=>e.elim) (fun _ _ e=>e)) HKs.out);clear hRa hc4))
  | (refine store_R rfl 43 _ _ rfl (w.heap.size + 1) #[.int .i64 E,.int .i64 0,.int .i64 0,.int .i64 0,.int .i64 0,.int .i64 0,.int .i64 0,.slice none 0 0,.slice none 0 0,.bool false] rfl rfl 43 _ HA4.out (by rw [szAn];rfl) rfl (by simp [Value.oneCell']) ?_;intro w5 hw5)
  | fail)
 exact bodyPost_ret (v:=.agg #[.int .i64 E,.int .i64 0,.int .i64 0,.int .i64 0,.int .i64 0,.int .i64 0,.int .i64 0,.slice none 0 0,.slice none 0 0,.bool false]) (results_R1 Tryz.results9 _ _ (w.heap.size + 1) _ 43 _ Tryz.underlying43 rfl (by rw [szAn];rfl) rfl hw5.here) rfl ⟨E,rfl,HRr.out E _ _ _ _ HRa.out HA4.out hw5,((HC1.out.tr HC3.out).trans HC4.out (fun _ _ e=>e.elim) (fun _ _ e=>e)).trans (kt_new hw5) (fun _ _ e=>e) (fun j hj e=>by omega)⟩

set_option maxHeartbeats 2000000 in
set_option maxRecDepth 100000 in
theorem do_sbad {q:PC} (kk:Nat) (h1:1≤kk) (h2:kk≤14) (hbk:bits .and .i64 (usedL.getD kk 0) 1=1) (path tto:ByteArray) (off len:Int) (da:Option Addr) (dl dc:Nat) (made pick:Int) (w:World) (hu:UB w) (hm:ML w) (hz:bits .andNot .i64 (givF path tto off len dl made pick) (usedL.getD kk 0)=0) (hm0:0≤made) (hm1:made≤1099511627776) (E:Int) (hE:E=(splitR path.data.toList).2) (hs:(splitR path.data.toList).2≠0) :
  Calls Tryz.prog 9 #[.pointer (some ⟨q.p,0,none⟩),.agg (opA (kk:Int) path tto off len da dl dc made pick)] w fun e w'=>e=.returned (.agg (ansE E))∧Chg w w' No:=by
 obtain ⟨w1,hw1⟩:∃ y,y=(w.alloc (.cells (opA (kk:Int) path tto off len da dl dc made pick) 34)).alloc (.cells (ansE 0) 43):=⟨_,rfl⟩;have hcA:Chg w (w.alloc (.cells (opA (kk:Int) path tto off len da dl dc made pick) 34)) No:=Chg.alloc w _ No
 have hc1:Chg w w1 No:=by rw [hw1];exact hcA.tr (Chg.alloc _ _ No)
 have HO:Hid (∀ W,Chg w1 W No→W.heap[w.heap.size]? = some (.cells #[.int .i64 (kk:Int),.string path,.string tto,.int .i64 off,.int .i64 len,.slice da dl dc,.int .i64 made,.int .i64 pick] 34 (0,0))):=hid (fun W hW=>hW.keep (by rw [hw1];exact (Chg.alloc _ _ No).keep (heap_alloc_new w _) (fun e=>e)) (fun e=>e))
 have hA1:w1.heap[w.heap.size + 1]? = some (.cells (ansE 0) 43 (0,0)):=by
  have:=heap_alloc_new (w.alloc (.cells (opA (kk:Int) path tto off len da dl dc made pick) 34)) (.cells (ansE 0) 43);rw [show (w.alloc (.cells (opA (kk:Int) path tto off len da dl dc made pick) 34)).heap.size=w.heap.size + 1 by simp] at this;rw [hw1]
  exact this
 have HA:Hid (∀ W ks',Chg w1 W ks'→(∀ k,ks' k→k < w.heap.size)→W.heap[w.heap.size + 1]? = some (.cells (ansE 0) 43 (0,0))):=hid (fun W ks' hW hk=>hW.keep hA1 (fun e=>by have:=hk _ e;omega))
 have hb1:Below w.heap.size w w1:=by rw [hw1];exact ((Below.refl _ w).alloc (Nat.le_refl _) _).alloc (by simp) _
 have HMb:Hid (∀ W,Chg w1 W No→Calls Tryz.prog 19 #[.agg #[.int .i64 (kk:Int),.string path,.string tto,.int .i64 off,.int .i64 len,.slice da dl dc,.int .i64 made,.int .i64 pick]] W fun e w'=>e=.returned (.bool true)∧Chg W w' No):=hid (fun W hW=>mayBe_ok kk path tto off len da dl dc made pick W ((hu.keep hc1 (fun e=>e)).keep hW (fun e=>e)) h1 h2 hz hm0 hm1)
 have hmk:∀ W,Chg w1 W No→ML W:=fun W hW=>by
  obtain ⟨m,hc⟩:=hm.below hb1;refine ⟨m,?_⟩;have hlt:=World.block_lt_of_cell? _ _ hc;unfold World.cell? at hc ⊢;rw [hW.block _ hlt (fun e=>e)]
  exact hc
 have HSp:Hid (∀ W,Chg w1 W No→Calls Tryz.prog 20 #[.agg #[.int .i64 (kk:Int),.string path,.string tto,.int .i64 off,.int .i64 len,.slice da dl dc,.int .i64 made,.int .i64 pick]] W fun e w'=>e=.returned (.tuple #[.slice none 0 0,.slice none 0 0,.int .i64 E])∧Chg W w' No):=hid (fun W hW=>by rw [hE];exact splitO_bad kk path tto off len da dl dc made pick W ((hu.keep hc1 (fun e=>e)).keep hW (fun e=>e)) (hmk W hW) h2 hbk hs);have bE:(E == 0)=false:=beq_eq_false_iff_ne.2 (by rw [hE];exact hs);have HC1:=hid hc1;unfold opA at hw1 ⊢;unfold ansE at hw1;have hB:=HMb.out w1 (Chg.refl _ _);have HO1:=hid (HO.out w1 (Chg.refl _ _));obtain ⟨W1,hW1⟩:∃ y,y=w1:=⟨_,rfl⟩;rw [←hW1] at HO HA HMb HSp HC1 hB HO1;have e1:=hW1.trans hw1;clear hu hm hz hm0 hm1 hs hE hcA hc1 hA1 hb1 hmk hw1 hW1
 go_enter Tryz.func9,Tryz.ntmps9
 go_upto_region 1 with fail
 rw [←e1];clear e1
 go_upto_region 3 with (first
  | (refine load_R rfl 34 _ rfl w.heap.size rfl 34 _ _ HO1.out Tryz.underlying34 rfl (by rw [szOp];rfl) ?_)
  | (go_at_call 19;go_must (refine hB.mono ?_;rintro e w2 ⟨rfl,hc2⟩;have HC2:=hid hc2;clear hc2))
  | fail)
 have hS:=HSp.out w2 HC2.out;have HO2:=hid (HO.out w2 HC2.out);clear hB
 go_upto_region 4 with (first
  | (refine load_R rfl 34 _ rfl w.heap.size rfl 34 _ _ HO2.out Tryz.underlying34 rfl (by rw [szOp];rfl) ?_)
  | (go_at_call 20;go_must (refine hS.mono ?_;rintro e w3 ⟨rfl,hc3⟩;have HC3:=hid (HC2.out.tr hc3);clear hc3))
  | fail)
 have HA4:=hid (HA.out w3 No HC3.out (fun _ e=>e.elim));clear hS
 go_wp2_with (first
  | (refine store_R rfl 43 _ _ rfl (w.heap.size + 1) #[.int .i64 E,.int .i64 0,.int .i64 0,.int .i64 0,.int .i64 0,.int .i64 0,.int .i64 0,.slice none 0 0,.slice none 0 0,.bool false] rfl rfl 43 _ HA4.out (by rw [szAn];rfl) rfl (by simp [Value.oneCell']) ?_;intro w5 hw5)
  | fail)
 exact bodyPost_ret (v:=.agg #[.int .i64 E,.int .i64 0,.int .i64 0,.int .i64 0,.int .i64 0,.int .i64 0,.int .i64 0,.slice none 0 0,.slice none 0 0,.bool false]) (results_R1 Tryz.results9 _ _ (w.heap.size + 1) _ 43 _ Tryz.underlying43 rfl (by rw [szAn];rfl) rfl hw5.here) rfl ⟨rfl,(HC1.out.tr HC3.out).trans (kt_new hw5) (fun _ _ e=>e) (fun j hj e=>by omega)⟩

end Go.Proofs.YtmgfilacepnjlaaGreatDoor
