/-
 package plain: Do, where the other path is refused, and for the kinds without one.
-/
import Derived.Test.YtmgfilacepnjlaaGreatDoorRR
namespace Go.Proofs.YtmgfilacepnjlaaGreatDoor
open Go.RowKit

set_option maxHeartbeats 2000000 in
set_option maxRecDepth 100000 in
theorem splitT_bad (kk:Nat) (path tto:ByteArray) (off len:Int) (da:Option Addr) (dl dc:Nat) (made pick:Int) (w:World) (hu:UB w) (hm:ML w) (h2:kk≤14) (hb1:bits .and .i64 (usedL.getD kk 0) 1=1) (hb2:bits .and .i64 (usedL.getD kk 0) 2=2) (hs:(splitR path.data.toList).2=0) (hst:(splitR tto.data.toList).2≠0) :
  Calls Tryz.prog 20 #[.agg (opA (kk:Nat) path tto off len da dl dc made pick)] w fun e w'=>e=.returned (.tuple #[.slice none 0 0,.slice none 0 0,.int .i64 (splitR tto.data.toList).2])∧Chg w w' No:=by
 obtain ⟨w1,hw1⟩:∃ y,y=w.alloc (.cells (opA (kk:Nat) path tto off len da dl dc made pick) 34):=⟨_,rfl⟩
 have hbl:Below w.heap.size w w1:=by rw [hw1];exact (Below.refl _ w).alloc (Nat.le_refl _) _
 have hc1:Chg w w1 No:=by rw [hw1];exact Chg.alloc w _ No
 have hop:w1.heap[w.heap.size]? = some (.cells (opA (kk:Nat) path tto off len da dl dc made pick) 34 (0,0)):=by rw [hw1];exact heap_alloc_new w _
 have hu1:=hu.keep hc1 (fun e=>e);have hSp:=split_any path w1 (hm.below hbl);rw [hs] at hSp
 have HOp:Hid (∀ W,Below w1.heap.size w1 W→W.cell? ⟨w.heap.size,0,none⟩=some (.int .i64 (kk:Nat))∧W.cell? ⟨0,kk,none⟩=some (.int .i64 (usedL.getD kk 0))∧W.cell? ⟨w.heap.size,2,none⟩=some (.string tto)∧Chg w W No):=hid (fun W hW=>by
  have hC:=Chg.of_below hW No
  exact ⟨(cell_of_row _ _ _ _ _ _ (hC.keep hop (fun e=>e))).trans rfl,(hu1.keep hC (fun e=>e)).2 kk (by omega),(cell_of_row _ _ _ _ _ _ (hC.keep hop (fun e=>e))).trans rfl,hc1.tr hC⟩)
 have q0:w1.cell? ⟨w.heap.size,0,none⟩=some (.int .i64 (kk:Nat)):=(cell_of_row _ _ _ _ _ _ hop).trans rfl;have q1:w1.cell? ⟨w.heap.size,1,none⟩=some (.string path):=(cell_of_row _ _ _ _ _ _ hop).trans rfl;have qu:=hu1.2 kk (by omega);obtain ⟨uk,huk⟩:∃ y,y=usedL.getD kk 0:=⟨_,rfl⟩;rw [←huk] at hb1 hb2 qu HOp
 have k3:(kk:Int)≤14:=by omega
 obtain ⟨E,hE⟩:∃ y,y=(splitR tto.data.toList).2:=⟨_,rfl⟩;rw [←hE] at hst ⊢;have bE:(E == 0)=false:=beq_eq_false_iff_ne.2 hst
 have HS2:Hid (∀ W,Below w1.heap.size w1 W→Calls Tryz.prog 41 #[.string tto] W fun e w'=>∃ (a:Option Addr) (ls:List ByteArray),e=.returned (.tuple #[.slice a ls.length ls.length,.int .i64 E])∧Chg W w' No):=hid (fun W hW=>by
  have k:=split_any tto W ((hm.below hbl).below hW);rw [←hE] at k;refine k.mono ?_
  rintro e w' ⟨a,ls,rfl,_,_,hb2c⟩
  exact ⟨a,ls,rfl,Chg.of_below hb2c No⟩)
 unfold opA at hw1 ⊢;rw [hw1] at hSp HOp HS2 q0 q1 qu;clear hop hc1 hw1 hu hu1 huk hbl hm hs hE
 go_enter Tryz.func20,Tryz.ntmps20
 go_upto_region 3 with (first
  | (go_at_call 41;go_must (refine hSp.mono ?_;rintro e w2 ⟨a,ls,rfl,hd2,ho2,hb2c⟩;obtain ⟨r0,ru,r2,hcc⟩:=HOp.out w2 hb2c;have HC:=hid hcc;have hS2:=HS2.out w2 hb2c;clear hd2 ho2 hb2c hcc q0 q1 qu))
  | fail)
 obtain ⟨n,hnn⟩:∃ y,y=ls.length:=⟨_,rfl⟩;rw [←hnn];clear hnn
 go_wp2_with (first
  | (go_at_call 41;go_must (refine hS2.mono ?_;rintro e w4 ⟨b,ts,rfl,hc4⟩;have HC4:=hid hc4;clear hc4;obtain ⟨m,hmm⟩:∃ y,y=ts.length:=⟨_,rfl⟩;rw [←hmm];clear hmm))
  | fail)
 exact bodyPost_ret (results_tmp3 Tryz.results20 _ _ _) rfl ⟨rfl,HC.out.tr HC4.out⟩
set_option maxHeartbeats 2000000 in
set_option maxRecDepth 100000 in
theorem splitN_any (kk:Nat) (path tto:ByteArray) (off len:Int) (da:Option Addr) (dl dc:Nat) (made pick:Int) (w:World) (hu:UB w) (h2:kk≤14) (hb1:bits .and .i64 (usedL.getD kk 0) 1=0) (hb2:bits .and .i64 (usedL.getD kk 0) 2=0) :
  Calls Tryz.prog 20 #[.agg (opA (kk:Nat) path tto off len da dl dc made pick)] w fun e w'=>e=.returned (.tuple #[.slice none 0 0,.slice none 0 0,.int .i64 0])∧Chg w w' No:=by
 obtain ⟨w1,hw1⟩:∃ y,y=w.alloc (.cells (opA (kk:Nat) path tto off len da dl dc made pick) 34):=⟨_,rfl⟩
 have hc1:Chg w w1 No:=by rw [hw1];exact Chg.alloc w _ No
 have hop:w1.heap[w.heap.size]? = some (.cells (opA (kk:Nat) path tto off len da dl dc made pick) 34 (0,0)):=by rw [hw1];exact heap_alloc_new w _
 have hu1:=hu.keep hc1 (fun e=>e);have q0:w1.cell? ⟨w.heap.size,0,none⟩=some (.int .i64 (kk:Nat)):=(cell_of_row _ _ _ _ _ _ hop).trans rfl;have qu:=hu1.2 kk (by omega);obtain ⟨uk,huk⟩:∃ y,y=usedL.getD kk 0:=⟨_,rfl⟩;rw [←huk] at hb1 hb2 qu;have HC:=hid hc1
 have k3:(kk:Int)≤14:=by omega
 unfold opA at hw1 ⊢;rw [hw1] at HC q0 qu;clear hop hc1 hw1 hu hu1 huk
 go_enter Tryz.func20,Tryz.ntmps20
 go_wp2_with fail
 exact bodyPost_ret (results_tmp3 Tryz.results20 _ _ _) rfl ⟨rfl,HC.out⟩
end Go.Proofs.YtmgfilacepnjlaaGreatDoor

namespace Go.Proofs.YtmgfilacepnjlaaGreatDoor
open Go.RowKit

set_option maxHeartbeats 2000000 in
set_option maxRecDepth 100000 in
theorem do_tbad3 {q:PC} (path tto:ByteArray) (off len:Int) (da:Option Addr) (dl dc:Nat) (made pick:Int) (w:World) (hu:UB w) (hm:ML w) (hz:bits .andNot .i64 (givF path tto off len dl made pick) 3=0) (hm0:0≤made) (hm1:made≤1099511627776) (E:Int) (hE:E=(splitR tto.data.toList).2) (hsp:(splitR path.data.toList).2=0) (hs:(splitR tto.data.toList).2≠0) :
  Calls Tryz.prog 9 #[.pointer (some ⟨q.p,0,none⟩),.agg (opA 3 path tto off len da dl dc made pick)] w fun e w'=>e=.returned (.agg (ansE E))∧Chg w w' No:=by
 obtain ⟨w1,hw1⟩:∃ y,y=(w.alloc (.cells (opA 3 path tto off len da dl dc made pick) 34)).alloc (.cells (ansE 0) 43):=⟨_,rfl⟩;have hcA:Chg w (w.alloc (.cells (opA 3 path tto off len da dl dc made pick) 34)) No:=Chg.alloc w _ No
 have hc1:Chg w w1 No:=by rw [hw1];exact hcA.tr (Chg.alloc _ _ No)
 have HO:Hid (∀ W,Chg w1 W No→W.heap[w.heap.size]? = some (.cells #[.int .i64 3,.string path,.string tto,.int .i64 off,.int .i64 len,.slice da dl dc,.int .i64 made,.int .i64 pick] 34 (0,0))):=hid (fun W hW=>hW.keep (by rw [hw1];exact (Chg.alloc _ _ No).keep (heap_alloc_new w _) (fun e=>e)) (fun e=>e))
 have hA1:w1.heap[w.heap.size + 1]? = some (.cells (ansE 0) 43 (0,0)):=by
  have:=heap_alloc_new (w.alloc (.cells (opA 3 path tto off len da dl dc made pick) 34)) (.cells (ansE 0) 43);rw [show (w.alloc (.cells (opA 3 path tto off len da dl dc made pick) 34)).heap.size=w.heap.size + 1 by simp] at this;rw [hw1]
  exact this
 have HA:Hid (∀ W ks',Chg w1 W ks'→(∀ k,ks' k→k < w.heap.size)→W.heap[w.heap.size + 1]? = some (.cells (ansE 0) 43 (0,0))):=hid (fun W ks' hW hk=>hW.keep hA1 (fun e=>by have:=hk _ e;omega))
 have hb1:Below w.heap.size w w1:=by rw [hw1];exact ((Below.refl _ w).alloc (Nat.le_refl _) _).alloc (by simp) _
 have HMb:Hid (∀ W,Chg w1 W No→Calls Tryz.prog 19 #[.agg #[.int .i64 3,.string path,.string tto,.int .i64 off,.int .i64 len,.slice da dl dc,.int .i64 made,.int .i64 pick]] W fun e w'=>e=.returned (.bool true)∧Chg W w' No):=hid (fun W hW=>mayBe_ok 3 path tto off len da dl dc made pick W ((hu.keep hc1 (fun e=>e)).keep hW (fun e=>e)) (by decide) (by decide) hz hm0 hm1)
 have hmk:∀ W,Chg w1 W No→ML W:=fun W hW=>by
  obtain ⟨m,hc⟩:=hm.below hb1;refine ⟨m,?_⟩;have hlt:=World.block_lt_of_cell? _ _ hc;unfold World.cell? at hc ⊢;rw [hW.block _ hlt (fun e=>e)]
  exact hc
 have HSp:Hid (∀ W,Chg w1 W No→Calls Tryz.prog 20 #[.agg #[.int .i64 3,.string path,.string tto,.int .i64 off,.int .i64 len,.slice da dl dc,.int .i64 made,.int .i64 pick]] W fun e w'=>e=.returned (.tuple #[.slice none 0 0,.slice none 0 0,.int .i64 E])∧Chg W w' No):=hid (fun W hW=>by rw [hE];exact splitT_bad 3 path tto off len da dl dc made pick W ((hu.keep hc1 (fun e=>e)).keep hW (fun e=>e)) (hmk W hW) (by decide) (by decide) (by decide) hsp hs);have bE:(E == 0)=false:=beq_eq_false_iff_ne.2 (by rw [hE];exact hs);have HC1:=hid hc1;unfold opA at hw1 ⊢;unfold ansE at hw1;have hB:=HMb.out w1 (Chg.refl _ _);have HO1:=hid (HO.out w1 (Chg.refl _ _));obtain ⟨W1,hW1⟩:∃ y,y=w1:=⟨_,rfl⟩;rw [←hW1] at HO HA HMb HSp HC1 hB HO1;have e1:=hW1.trans hw1;clear hu hm hz hm0 hm1 hs hsp hE hcA hc1 hA1 hb1 hmk hw1 hW1
 go_enter Tryz.func9,Tryz.ntmps9
 go_upto_region 1 with fail
 rw [←e1];clear e1
 go_upto_region 3 with (first
  | (refine load_R rfl 34 _ rfl w.heap.size rfl 34 #[.int .i64 3,.string path,.string tto,.int .i64 off,.int .i64 len,.slice da dl dc,.int .i64 made,.int .i64 pick] _ HO1.out Tryz.underlying34 rfl (by rw [szOp];rfl) ?_)
  | (go_at_call 19;go_must (refine hB.mono ?_;rintro e w2 ⟨rfl,hc2⟩;have HC2:=hid hc2;clear hc2))
  | fail)
 have hS:=HSp.out w2 HC2.out;have HO2:=hid (HO.out w2 HC2.out);clear hB
 go_upto_region 4 with (first
  | (refine load_R rfl 34 _ rfl w.heap.size rfl 34 #[.int .i64 3,.string path,.string tto,.int .i64 off,.int .i64 len,.slice da dl dc,.int .i64 made,.int .i64 pick] _ HO2.out Tryz.underlying34 rfl (by rw [szOp];rfl) ?_)
  | (go_at_call 20;go_must (refine hS.mono ?_;rintro e w3 ⟨rfl,hc3⟩;have HC3:=hid (HC2.out.tr hc3);clear hc3))
  | fail)
 have HA4:=hid (HA.out w3 No HC3.out (fun _ e=>e.elim));clear hS
 go_wp2_with (first
  | (refine store_R rfl 43 _ _ rfl (w.heap.size + 1) #[.int .i64 E,.int .i64 0,.int .i64 0,.int .i64 0,.int .i64 0,.int .i64 0,.int .i64 0,.slice none 0 0,.slice none 0 0,.bool false] rfl rfl 43 _ HA4.out (by rw [szAn];rfl) rfl (by simp [Value.oneCell']) ?_;intro w5 hw5)
  | fail)
 exact bodyPost_ret (v:=.agg #[.int .i64 E,.int .i64 0,.int .i64 0,.int .i64 0,.int .i64 0,.int .i64 0,.int .i64 0,.slice none 0 0,.slice none 0 0,.bool false]) (results_R1 Tryz.results9 _ _ (w.heap.size + 1) _ 43 _ Tryz.underlying43 rfl (by rw [szAn];rfl) rfl hw5.here) rfl ⟨rfl,(HC1.out.tr HC3.out).trans (kt_new hw5) (fun _ _ e=>e) (fun j hj e=>by omega)⟩

set_option maxHeartbeats 2000000 in
set_option maxRecDepth 100000 in
theorem do_tbad6 {q:PC} (path tto:ByteArray) (off len:Int) (da:Option Addr) (dl dc:Nat) (made pick:Int) (w:World) (hu:UB w) (hm:ML w) (hz:bits .andNot .i64 (givF path tto off len dl made pick) 3=0) (hm0:0≤made) (hm1:made≤1099511627776) (E:Int) (hE:E=(splitR tto.data.toList).2) (hsp:(splitR path.data.toList).2=0) (hs:(splitR tto.data.toList).2≠0) :
  Calls Tryz.prog 9 #[.pointer (some ⟨q.p,0,none⟩),.agg (opA 6 path tto off len da dl dc made pick)] w fun e w'=>e=.returned (.agg (ansE E))∧Chg w w' No:=by
 obtain ⟨w1,hw1⟩:∃ y,y=(w.alloc (.cells (opA 6 path tto off len da dl dc made pick) 34)).alloc (.cells (ansE 0) 43):=⟨_,rfl⟩;have hcA:Chg w (w.alloc (.cells (opA 6 path tto off len da dl dc made pick) 34)) No:=Chg.alloc w _ No
 have hc1:Chg w w1 No:=by rw [hw1];exact hcA.tr (Chg.alloc _ _ No)
 have HO:Hid (∀ W,Chg w1 W No→W.heap[w.heap.size]? = some (.cells #[.int .i64 6,.string path,.string tto,.int .i64 off,.int .i64 len,.slice da dl dc,.int .i64 made,.int .i64 pick] 34 (0,0))):=hid (fun W hW=>hW.keep (by rw [hw1];exact (Chg.alloc _ _ No).keep (heap_alloc_new w _) (fun e=>e)) (fun e=>e))
 have hA1:w1.heap[w.heap.size + 1]? = some (.cells (ansE 0) 43 (0,0)):=by
  have:=heap_alloc_new (w.alloc (.cells (opA 6 path tto off len da dl dc made pick) 34)) (.cells (ansE 0) 43);rw [show (w.alloc (.cells (opA 6 path tto off len da dl dc made pick) 34)).heap.size=w.heap.size + 1 by simp] at this;rw [hw1]
  exact this
 have HA:Hid (∀ W ks',Chg w1 W ks'→(∀ k,ks' k→k < w.heap.size)→W.heap[w.heap.size + 1]? = some (.cells (ansE 0) 43 (0,0))):=hid (fun W ks' hW hk=>hW.keep hA1 (fun e=>by have:=hk _ e;omega))
 have hb1:Below w.heap.size w w1:=by rw [hw1];exact ((Below.refl _ w).alloc (Nat.le_refl _) _).alloc (by simp) _
 have HMb:Hid (∀ W,Chg w1 W No→Calls Tryz.prog 19 #[.agg #[.int .i64 6,.string path,.string tto,.int .i64 off,.int .i64 len,.slice da dl dc,.int .i64 made,.int .i64 pick]] W fun e w'=>e=.returned (.bool true)∧Chg W w' No):=hid (fun W hW=>mayBe_ok 6 path tto off len da dl dc made pick W ((hu.keep hc1 (fun e=>e)).keep hW (fun e=>e)) (by decide) (by decide) hz hm0 hm1)
 have hmk:∀ W,Chg w1 W No→ML W:=fun W hW=>by
  obtain ⟨m,hc⟩:=hm.below hb1;refine ⟨m,?_⟩;have hlt:=World.block_lt_of_cell? _ _ hc;unfold World.cell? at hc ⊢;rw [hW.block _ hlt (fun e=>e)]
  exact hc
 have HSp:Hid (∀ W,Chg w1 W No→Calls Tryz.prog 20 #[.agg #[.int .i64 6,.string path,.string tto,.int .i64 off,.int .i64 len,.slice da dl dc,.int .i64 made,.int .i64 pick]] W fun e w'=>e=.returned (.tuple #[.slice none 0 0,.slice none 0 0,.int .i64 E])∧Chg W w' No):=hid (fun W hW=>by rw [hE];exact splitT_bad 6 path tto off len da dl dc made pick W ((hu.keep hc1 (fun e=>e)).keep hW (fun e=>e)) (hmk W hW) (by decide) (by decide) (by decide) hsp hs);have bE:(E == 0)=false:=beq_eq_false_iff_ne.2 (by rw [hE];exact hs);have HC1:=hid hc1;unfold opA at hw1 ⊢;unfold ansE at hw1;have hB:=HMb.out w1 (Chg.refl _ _);have HO1:=hid (HO.out w1 (Chg.refl _ _));obtain ⟨W1,hW1⟩:∃ y,y=w1:=⟨_,rfl⟩;rw [←hW1] at HO HA HMb HSp HC1 hB HO1;have e1:=hW1.trans hw1;clear hu hm hz hm0 hm1 hs hsp hE hcA hc1 hA1 hb1 hmk hw1 hW1
 go_enter Tryz.func9,Tryz.ntmps9
 go_upto_region 1 with fail
 rw [←e1];clear e1
 go_upto_region 3 with (first
  | (refine load_R rfl 34 _ rfl w.heap.size rfl 34 #[.int .i64 6,.string path,.string tto,.int .i64 off,.int .i64 len,.slice da dl dc,.int .i64 made,.int .i64 pick] _ HO1.out Tryz.underlying34 rfl (by rw [szOp];rfl) ?_)
  | (go_at_call 19;go_must (refine hB.mono ?_;rintro e w2 ⟨rfl,hc2⟩;have HC2:=hid hc2;clear hc2))
  | fail)
 have hS:=HSp.out w2 HC2.out;have HO2:=hid (HO.out w2 HC2.out);clear hB
 go_upto_region 4 with (first
  | (refine load_R rfl 34 _ rfl w.heap.size rfl 34 #[.int .i64 6,.string path,.string tto,.int .i64 off,.int .i64 len,.slice da dl dc,.int .i64 made,.int .i64 pick] _ HO2.out Tryz.underlying34 rfl (by rw [szOp];rfl) ?_)
  | (go_at_call 20;go_must (refine hS.mono ?_;rintro e w3 ⟨rfl,hc3⟩;have HC3:=hid (HC2.out.tr hc3);clear hc3))
  | fail)
 have HA4:=hid (HA.out w3 No HC3.out (fun _ e=>e.elim));clear hS
 go_wp2_with (first
  | (refine store_R rfl 43 _ _ rfl (w.heap.size + 1) #[.int .i64 E,.int .i64 0,.int .i64 0,.int .i64 0,.int .i64 0,.int .i64 0,.int .i64 0,.slice none 0 0,.slice none 0 0,.bool false] rfl rfl 43 _ HA4.out (by rw [szAn];rfl) rfl (by simp [Value.oneCell']) ?_;intro w5 hw5)
  | fail)
 exact bodyPost_ret (v:=.agg #[.int .i64 E,.int .i64 0,.int .i64 0,.int .i64 0,.int .i64 0,.int .i64 0,.int .i64 0,.slice none 0 0,.slice none 0 0,.bool false]) (results_R1 Tryz.results9 _ _ (w.heap.size + 1) _ 43 _ Tryz.underlying43 rfl (by rw [szAn];rfl) rfl hw5.here) rfl ⟨rfl,(HC1.out.tr HC3.out).trans (kt_new hw5) (fun _ _ e=>e) (fun j hj e=>by omega)⟩

set_option maxHeartbeats 2000000 in
set_option maxRecDepth 100000 in
theorem do_sync {q:PC} (path tto:ByteArray) (off len:Int) (da:Option Addr) (dl dc:Nat) (made pick:Int) (w:World) (hu:UB w) (hz:bits .andNot .i64 (givF path tto off len dl made pick) 0=0) (hm0:0≤made) (hm1:made≤1099511627776) :
  Calls Tryz.prog 9 #[.pointer (some ⟨q.p,0,none⟩),.agg (opA 12 path tto off len da dl dc made pick)] w fun e w'=>e=.returned (.agg (ansE 0))∧Chg w w' No:=by
 obtain ⟨w1,hw1⟩:∃ y,y=(w.alloc (.cells (opA 12 path tto off len da dl dc made pick) 34)).alloc (.cells (ansE 0) 43):=⟨_,rfl⟩;have hcA:Chg w (w.alloc (.cells (opA 12 path tto off len da dl dc made pick) 34)) No:=Chg.alloc w _ No
 have hc1:Chg w w1 No:=by rw [hw1];exact hcA.tr (Chg.alloc _ _ No)
 have HO:Hid (∀ W,Chg w1 W No→W.heap[w.heap.size]? = some (.cells #[.int .i64 12,.string path,.string tto,.int .i64 off,.int .i64 len,.slice da dl dc,.int .i64 made,.int .i64 pick] 34 (0,0))):=hid (fun W hW=>hW.keep (by rw [hw1];exact (Chg.alloc _ _ No).keep (heap_alloc_new w _) (fun e=>e)) (fun e=>e))
 have hA1:w1.heap[w.heap.size + 1]? = some (.cells (ansE 0) 43 (0,0)):=by
  have:=heap_alloc_new (w.alloc (.cells (opA 12 path tto off len da dl dc made pick) 34)) (.cells (ansE 0) 43);rw [show (w.alloc (.cells (opA 12 path tto off len da dl dc made pick) 34)).heap.size=w.heap.size + 1 by simp] at this;rw [hw1]
  exact this
 have HA:Hid (∀ W ks',Chg w1 W ks'→(∀ k,ks' k→k < w.heap.size)→W.heap[w.heap.size + 1]? = some (.cells (ansE 0) 43 (0,0))):=hid (fun W ks' hW hk=>hW.keep hA1 (fun e=>by have:=hk _ e;omega));have HMb:Hid (∀ W,Chg w1 W No→Calls Tryz.prog 19 #[.agg #[.int .i64 12,.string path,.string tto,.int .i64 off,.int .i64 len,.slice da dl dc,.int .i64 made,.int .i64 pick]] W fun e w'=>e=.returned (.bool true)∧Chg W w' No):=hid (fun W hW=>mayBe_ok 12 path tto off len da dl dc made pick W ((hu.keep hc1 (fun e=>e)).keep hW (fun e=>e)) (by decide) (by decide) hz hm0 hm1);have HSp:Hid (∀ W,Chg w1 W No→Calls Tryz.prog 20 #[.agg #[.int .i64 12,.string path,.string tto,.int .i64 off,.int .i64 len,.slice da dl dc,.int .i64 made,.int .i64 pick]] W fun e w'=>e=.returned (.tuple #[.slice none 0 0,.slice none 0 0,.int .i64 0])∧Chg W w' No):=hid (fun W hW=>splitN_any 12 path tto off len da dl dc made pick W ((hu.keep hc1 (fun e=>e)).keep hW (fun e=>e)) (by decide) (by decide) (by decide));have HC1:=hid hc1;unfold opA at hw1 ⊢;unfold ansE at hw1;have hB:=HMb.out w1 (Chg.refl _ _);have HO1:=hid (HO.out w1 (Chg.refl _ _));obtain ⟨W1,hW1⟩:∃ y,y=w1:=⟨_,rfl⟩;rw [←hW1] at HO HA HMb HSp HC1 hB HO1;have e1:=hW1.trans hw1;clear hu hz hm0 hm1 hcA hc1 hA1 hw1 hW1
 go_enter Tryz.func9,Tryz.ntmps9
 go_upto_region 1 with fail
 rw [←e1];clear e1
 go_upto_region 3 with (first
  | (refine load_R rfl 34 _ rfl w.heap.size rfl 34 #[.int .i64 12,.string path,.string tto,.int .i64 off,.int .i64 len,.slice da dl dc,.int .i64 made,.int .i64 pick] _ HO1.out Tryz.underlying34 rfl (by rw [szOp];rfl) ?_)
  | (go_at_call 19;go_must (refine hB.mono ?_;rintro e w2 ⟨rfl,hc2⟩;have HC2:=hid hc2;clear hc2))
  | fail)
 have hS:=HSp.out w2 HC2.out;have HO2:=hid (HO.out w2 HC2.out);clear hB
 go_upto_region 4 with (first
  | (refine load_R rfl 34 _ rfl w.heap.size rfl 34 #[.int .i64 12,.string path,.string tto,.int .i64 off,.int .i64 len,.slice da dl dc,.int .i64 made,.int .i64 pick] _ HO2.out Tryz.underlying34 rfl (by rw [szOp];rfl) ?_)
  | (go_at_call 20;go_must (refine hS.mono ?_;rintro e w3 ⟨rfl,hc3⟩;have HC3:=hid (HC2.out.tr hc3);clear hc3))
  | fail)
 have HA4:=hid (HA.out w3 No HC3.out (fun _ e=>e.elim));have q0:w3.cell? ⟨w.heap.size,0,none⟩=some (.int .i64 12):=(cell_of_row _ _ _ _ _ _ (HO.out w3 HC3.out)).trans rfl;clear hS
 go_wp2_with (first
  | (refine store_R rfl 43 _ _ rfl (w.heap.size + 1) #[.int .i64 0,.int .i64 0,.int .i64 0,.int .i64 0,.int .i64 0,.int .i64 0,.int .i64 0,.slice none 0 0,.slice none 0 0,.bool false] rfl rfl 43 _ HA4.out (by rw [szAn];rfl) rfl (by simp [Value.oneCell']) ?_;intro w5 hw5)
  | fail)
 exact bodyPost_ret (v:=.agg #[.int .i64 0,.int .i64 0,.int .i64 0,.int .i64 0,.int .i64 0,.int .i64 0,.int .i64 0,.slice none 0 0,.slice none 0 0,.bool false]) (results_R1 Tryz.results9 _ _ (w.heap.size + 1) _ 43 _ Tryz.underlying43 rfl (by rw [szAn];rfl) rfl hw5.here) rfl ⟨rfl,(HC1.out.tr HC3.out).trans (kt_new hw5) (fun _ _ e=>e) (fun j hj e=>by omega)⟩

set_option maxHeartbeats 2000000 in
set_option maxRecDepth 100000 in
theorem do_flush {q:PC} (path tto:ByteArray) (off len:Int) (da:Option Addr) (dl dc:Nat) (made pick:Int) (w:World) (hu:UB w) (hz:bits .andNot .i64 (givF path tto off len dl made pick) 64=0) (hm0:0≤made) (hm1:made≤1099511627776) :
  Calls Tryz.prog 9 #[.pointer (some ⟨q.p,0,none⟩),.agg (opA 14 path tto off len da dl dc made pick)] w fun e w'=>e=.returned (.agg (ansE 0))∧Chg w w' No:=by
 obtain ⟨w1,hw1⟩:∃ y,y=(w.alloc (.cells (opA 14 path tto off len da dl dc made pick) 34)).alloc (.cells (ansE 0) 43):=⟨_,rfl⟩;have hcA:Chg w (w.alloc (.cells (opA 14 path tto off len da dl dc made pick) 34)) No:=Chg.alloc w _ No
 have hc1:Chg w w1 No:=by rw [hw1];exact hcA.tr (Chg.alloc _ _ No)
 have HO:Hid (∀ W,Chg w1 W No→W.heap[w.heap.size]? = some (.cells #[.int .i64 14,.string path,.string tto,.int .i64 off,.int .i64 len,.slice da dl dc,.int .i64 made,.int .i64 pick] 34 (0,0))):=hid (fun W hW=>hW.keep (by rw [hw1];exact (Chg.alloc _ _ No).keep (heap_alloc_new w _) (fun e=>e)) (fun e=>e))
 have hA1:w1.heap[w.heap.size + 1]? = some (.cells (ansE 0) 43 (0,0)):=by
  have:=heap_alloc_new (w.alloc (.cells (opA 14 path tto off len da dl dc made pick) 34)) (.cells (ansE 0) 43);rw [show (w.alloc (.cells (opA 14 path tto off len da dl dc made pick) 34)).heap.size=w.heap.size + 1 by simp] at this;rw [hw1]
  exact this
 have HA:Hid (∀ W ks',Chg w1 W ks'→(∀ k,ks' k→k < w.heap.size)→W.heap[w.heap.size + 1]? = some (.cells (ansE 0) 43 (0,0))):=hid (fun W ks' hW hk=>hW.keep hA1 (fun e=>by have:=hk _ e;omega));have HMb:Hid (∀ W,Chg w1 W No→Calls Tryz.prog 19 #[.agg #[.int .i64 14,.string path,.string tto,.int .i64 off,.int .i64 len,.slice da dl dc,.int .i64 made,.int .i64 pick]] W fun e w'=>e=.returned (.bool true)∧Chg W w' No):=hid (fun W hW=>mayBe_ok 14 path tto off len da dl dc made pick W ((hu.keep hc1 (fun e=>e)).keep hW (fun e=>e)) (by decide) (by decide) hz hm0 hm1);have HSp:Hid (∀ W,Chg w1 W No→Calls Tryz.prog 20 #[.agg #[.int .i64 14,.string path,.string tto,.int .i64 off,.int .i64 len,.slice da dl dc,.int .i64 made,.int .i64 pick]] W fun e w'=>e=.returned (.tuple #[.slice none 0 0,.slice none 0 0,.int .i64 0])∧Chg W w' No):=hid (fun W hW=>splitN_any 14 path tto off len da dl dc made pick W ((hu.keep hc1 (fun e=>e)).keep hW (fun e=>e)) (by decide) (by decide) (by decide));have HC1:=hid hc1;unfold opA at hw1 ⊢;unfold ansE at hw1;have hB:=HMb.out w1 (Chg.refl _ _);have HO1:=hid (HO.out w1 (Chg.refl _ _));obtain ⟨W1,hW1⟩:∃ y,y=w1:=⟨_,rfl⟩;rw [←hW1] at HO HA HMb HSp HC1 hB HO1;have e1:=hW1.trans hw1;clear hu hz hm0 hm1 hcA hc1 hA1 hw1 hW1
 go_enter Tryz.func9,Tryz.ntmps9
 go_upto_region 1 with fail
 rw [←e1];clear e1
 go_upto_region 3 with (first
  | (refine load_R rfl 34 _ rfl w.heap.size rfl 34 #[.int .i64 14,.string path,.string tto,.int .i64 off,.int .i64 len,.slice da dl dc,.int .i64 made,.int .i64 pick] _ HO1.out Tryz.underlying34 rfl (by rw [szOp];rfl) ?_)
  | (go_at_call 19;go_must (refine hB.mono ?_;rintro e w2 ⟨rfl,hc2⟩;have HC2:=hid hc2;clear hc2))
  | fail)
 have hS:=HSp.out w2 HC2.out;have HO2:=hid (HO.out w2 HC2.out);clear hB
 go_upto_region 4 with (first
  | (refine load_R rfl 34 _ rfl w.heap.size rfl 34 #[.int .i64 14,.string path,.string tto,.int .i64 off,.int .i64 len,.slice da dl dc,.int .i64 made,.int .i64 pick] _ HO2.out Tryz.underlying34 rfl (by rw [szOp];rfl) ?_)
  | (go_at_call 20;go_must (refine hS.mono ?_;rintro e w3 ⟨rfl,hc3⟩;have HC3:=hid (HC2.out.tr hc3);clear hc3))
  | fail)
 have HA4:=hid (HA.out w3 No HC3.out (fun _ e=>e.elim));have q0:w3.cell? ⟨w.heap.size,0,none⟩=some (.int .i64 14):=(cell_of_row _ _ _ _ _ _ (HO.out w3 HC3.out)).trans rfl;clear hS
 go_wp2_with (first
  | (refine store_R rfl 43 _ _ rfl (w.heap.size + 1) #[.int .i64 0,.int .i64 0,.int .i64 0,.int .i64 0,.int .i64 0,.int .i64 0,.int .i64 0,.slice none 0 0,.slice none 0 0,.bool false] rfl rfl 43 _ HA4.out (by rw [szAn];rfl) rfl (by simp [Value.oneCell']) ?_;intro w5 hw5)
  | fail)
 exact bodyPost_ret (v:=.agg #[.int .i64 0,.int .i64 0,.int .i64 0,.int .i64 0,.int .i64 0,.int .i64 0,.int .i64 0,.slice none 0 0,.slice none 0 0,.bool false]) (results_R1 Tryz.results9 _ _ (w.heap.size + 1) _ 43 _ Tryz.underlying43 rfl (by rw [szAn];rfl) rfl hw5.here) rfl ⟨rfl,(HC1.out.tr HC3.out).trans (kt_new hw5) (fun _ _ e=>e) (fun j hj e=>by omega)⟩

end Go.Proofs.YtmgfilacepnjlaaGreatDoor
