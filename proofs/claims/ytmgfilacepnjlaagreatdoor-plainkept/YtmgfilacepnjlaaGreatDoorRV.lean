/-
 package plain: operations that may not be, of a kind that there is.
-/
import Derived.Test.YtmgfilacepnjlaaGreatDoorRT
namespace Go.Proofs.YtmgfilacepnjlaaGreatDoor
open Go.RowKit

set_option maxHeartbeats 2000000 in
set_option maxRecDepth 100000 in
theorem mayBe_low (kk:Int) (path tto:ByteArray) (off len:Int) (da:Option Addr) (dl dc:Nat) (made pick:Int) (w:World) (h1:kk < 1) :
  Calls Tryz.prog 19 #[.agg (opA kk path tto off len da dl dc made pick)] w fun e w'=>e=.returned (.bool false)∧Chg w w' No:=by
 obtain ⟨w1,hw1⟩:∃ y,y=w.alloc (.cells (opA kk path tto off len da dl dc made pick) 34):=⟨_,rfl⟩
 have hc1:Chg w w1 No:=by rw [hw1];exact Chg.alloc w _ No
 have hop:w1.heap[w.heap.size]? = some (.cells (opA kk path tto off len da dl dc made pick) 34 (0,0)):=by rw [hw1];exact heap_alloc_new w _
 have q0:w1.cell? ⟨w.heap.size,0,none⟩=some (.int .i64 kk):=(cell_of_row _ _ _ _ _ _ hop).trans rfl;have HC1:=hid hc1;unfold opA at hw1 ⊢;rw [hw1] at q0 HC1;clear hop hc1 hw1
 go_enter Tryz.func19,Tryz.ntmps19
 go_wp2_with fail
 go_ret
 exact ⟨rfl,HC1.out⟩
set_option maxHeartbeats 2000000 in
set_option maxRecDepth 100000 in
theorem mayBe_high (kk:Int) (path tto:ByteArray) (off len:Int) (da:Option Addr) (dl dc:Nat) (made pick:Int) (w:World) (h1:14 < kk) :
  Calls Tryz.prog 19 #[.agg (opA kk path tto off len da dl dc made pick)] w fun e w'=>e=.returned (.bool false)∧Chg w w' No:=by
 obtain ⟨w1,hw1⟩:∃ y,y=w.alloc (.cells (opA kk path tto off len da dl dc made pick) 34):=⟨_,rfl⟩
 have hc1:Chg w w1 No:=by rw [hw1];exact Chg.alloc w _ No
 have hop:w1.heap[w.heap.size]? = some (.cells (opA kk path tto off len da dl dc made pick) 34 (0,0)):=by rw [hw1];exact heap_alloc_new w _
 have q0:w1.cell? ⟨w.heap.size,0,none⟩=some (.int .i64 kk):=(cell_of_row _ _ _ _ _ _ hop).trans rfl
 have k1 : ¬ kk < 1:=by omega
 have HC1:=hid hc1;unfold opA at hw1 ⊢;rw [hw1] at q0 HC1;clear hop hc1 hw1
 go_enter Tryz.func19,Tryz.ntmps19
 go_wp2_with fail
 go_ret
 exact ⟨rfl,HC1.out⟩
set_option maxHeartbeats 2000000 in
set_option maxRecDepth 100000 in
theorem do_no {q:PC} (kk:Int) (path tto:ByteArray) (off len:Int) (da:Option Addr) (dl dc:Nat) (made pick:Int) (w:World)
  (hMb:∀ W,Chg w W No→Calls Tryz.prog 19 #[.agg (opA kk path tto off len da dl dc made pick)] W fun e w'=>e=.returned (.bool false)∧Chg W w' No) :
  Calls Tryz.prog 9 #[.pointer (some ⟨q.p,0,none⟩),.agg (opA kk path tto off len da dl dc made pick)] w fun e w'=>e=.returned (.agg (ansE 150))∧Chg w w' No:=by
 obtain ⟨w1,hw1⟩:∃ y,y=(w.alloc (.cells (opA kk path tto off len da dl dc made pick) 34)).alloc (.cells (ansE 0) 43):=⟨_,rfl⟩;have hcA:Chg w (w.alloc (.cells (opA kk path tto off len da dl dc made pick) 34)) No:=Chg.alloc w _ No
 have hc1:Chg w w1 No:=by rw [hw1];exact hcA.tr (Chg.alloc _ _ No)
 have HO:Hid (∀ W,Chg w1 W No→W.heap[w.heap.size]? = some (.cells #[.int .i64 kk,.string path,.string tto,.int .i64 off,.int .i64 len,.slice da dl dc,.int .i64 made,.int .i64 pick] 34 (0,0))):=hid (fun W hW=>hW.keep (by rw [hw1];exact (Chg.alloc _ _ No).keep (heap_alloc_new w _) (fun e=>e)) (fun e=>e))
 have hA1:w1.heap[w.heap.size + 1]? = some (.cells (ansE 0) 43 (0,0)):=by
  have:=heap_alloc_new (w.alloc (.cells (opA kk path tto off len da dl dc made pick) 34)) (.cells (ansE 0) 43);rw [show (w.alloc (.cells (opA kk path tto off len da dl dc made pick) 34)).heap.size=w.heap.size + 1 by simp] at this;rw [hw1]
  exact this
 have HA:Hid (∀ W ks',Chg w1 W ks'→(∀ k,ks' k→k < w.heap.size)→W.heap[w.heap.size + 1]? = some (.cells (ansE 0) 43 (0,0))):=hid (fun W ks' hW hk=>hW.keep hA1 (fun e=>by have:=hk _ e;omega));have hB:=hMb w1 hc1;unfold opA at hB;have HC1:=hid hc1;unfold opA at hw1 ⊢;unfold ansE at hw1;have HO1:=hid (HO.out w1 (Chg.refl _ _));obtain ⟨W1,hW1⟩:∃ y,y=w1:=⟨_,rfl⟩;rw [←hW1] at HA HC1 hB HO1;have e1:=hW1.trans hw1;clear hMb hcA hc1 hA1 hw1 hW1 HO
 go_enter Tryz.func9,Tryz.ntmps9
 go_upto_region 1 with fail
 rw [←e1];clear e1
 go_wp2_with (first
  | (refine load_R rfl 34 _ rfl w.heap.size rfl 34 #[.int .i64 kk,.string path,.string tto,.int .i64 off,.int .i64 len,.slice da dl dc,.int .i64 made,.int .i64 pick] _ HO1.out Tryz.underlying34 rfl (by rw [szOp];rfl) ?_)
  | (go_at_call 19;go_must (refine hB.mono ?_;rintro e w2 ⟨rfl,hc2⟩;have HC2:=hid hc2;have HA4:=hid (HA.out w2 No hc2 (fun _ e=>e.elim));clear hc2))
  | (refine store_R rfl 43 _ _ rfl (w.heap.size + 1) #[.int .i64 150,.int .i64 0,.int .i64 0,.int .i64 0,.int .i64 0,.int .i64 0,.int .i64 0,.slice none 0 0,.slice none 0 0,.bool false] rfl rfl 43 _ HA4.out (by rw [szAn];rfl) rfl (by simp [Value.oneCell']) ?_;intro w5 hw5)
  | fail)
 exact bodyPost_ret (v:=.agg #[.int .i64 150,.int .i64 0,.int .i64 0,.int .i64 0,.int .i64 0,.int .i64 0,.int .i64 0,.slice none 0 0,.slice none 0 0,.bool false]) (results_R1 Tryz.results9 _ _ (w.heap.size + 1) _ 43 _ Tryz.underlying43 rfl (by rw [szAn];rfl) rfl hw5.here) rfl ⟨rfl,(HC1.out.tr HC2.out).trans (kt_new hw5) (fun _ _ e=>e) (fun j hj e=>by omega)⟩
end Go.Proofs.YtmgfilacepnjlaaGreatDoor

namespace Go.Proofs.YtmgfilacepnjlaaGreatDoor
open Go.RowKit

set_option maxHeartbeats 2000000 in
set_option maxRecDepth 100000 in
theorem mayBe_used (kk:Nat) (path tto:ByteArray) (off len:Int) (da:Option Addr) (dl dc:Nat) (made pick:Int) (w:World) (hu:UB w) (h1:1≤kk) (h2:kk≤14) (hz:bits .andNot .i64 (givF path tto off len dl made pick) (usedL.getD kk 0)≠0) :
  Calls Tryz.prog 19 #[.agg (opA (kk:Nat) path tto off len da dl dc made pick)] w fun e w'=>e=.returned (.bool false)∧Chg w w' No:=by
 obtain ⟨w1,hw1⟩:∃ y,y=w.alloc (.cells (opA (kk:Nat) path tto off len da dl dc made pick) 34):=⟨_,rfl⟩
 have hc1:Chg w w1 No:=by rw [hw1];exact Chg.alloc w _ No
 have hop:w1.heap[w.heap.size]? = some (.cells (opA (kk:Nat) path tto off len da dl dc made pick) 34 (0,0)):=by rw [hw1];exact heap_alloc_new w _
 have HOp:Hid (∀ W,Chg w1 W No→W.heap[w.heap.size]? = some (.cells #[.int .i64 (kk:Nat),.string path,.string tto,.int .i64 off,.int .i64 len,.slice da dl dc,.int .i64 made,.int .i64 pick] 34 (0,0))):=hid (fun W hW=>hW.keep hop (fun e=>e));have HQ0:Hid (∀ W,Chg w1 W No→W.cell? ⟨w.heap.size,0,none⟩=some (.int .i64 (kk:Nat))):=hid (fun W hW=>(cell_of_row _ _ _ _ _ _ (HOp.out W hW)).trans rfl);have HQ6:Hid (∀ W,Chg w1 W No→W.cell? ⟨w.heap.size,6,none⟩=some (.int .i64 made)):=hid (fun W hW=>(cell_of_row _ _ _ _ _ _ (HOp.out W hW)).trans rfl);have HU:Hid (∀ W,Chg w1 W No→W.cell? ⟨0,kk,none⟩=some (.int .i64 (usedL.getD kk 0))):=hid (fun W hW=>((hu.keep hc1 (fun e=>e)).keep hW (fun e=>e)).2 kk (by omega));have HGv:Hid (∀ W,Calls Tryz.prog 40 #[.agg #[.int .i64 (kk:Nat),.string path,.string tto,.int .i64 off,.int .i64 len,.slice da dl dc,.int .i64 made,.int .i64 pick]] W fun e w'=>e=.returned (.int .i64 (givF path tto off len dl made pick))∧Chg W w' No):=hid (fun W=>given_any _ _ _ _ _ _ _ _ _ _ W);have q0:=HQ0.out w1 (Chg.refl _ _);obtain ⟨gf,hgf⟩:∃ y,y=givF path tto off len dl made pick:=⟨_,rfl⟩;rw [←hgf] at hz HGv;obtain ⟨uk,huk⟩:∃ y,y=usedL.getD kk 0:=⟨_,rfl⟩;rw [←huk] at hz HU;have HC1:=hid hc1;obtain ⟨z,hzz⟩:∃ y,y=bits .andNot .i64 gf uk:=⟨_,rfl⟩;rw [←hzz] at hz;have bz:(z == 0)=false:=beq_eq_false_iff_ne.2 hz;have hzs:=hzz.symm;clear hzz
 have k1 : ¬ (kk:Int) < 1:=by omega
 have k2 : ¬ 14 < (kk:Int):=by omega
 have k3:(kk:Int)≤14:=by omega
 unfold opA at hw1 ⊢;rw [hw1] at HOp HQ0 HQ6 HU q0 HC1;clear hop hc1 hw1 hu hgf huk
 go_enter Tryz.func19,Tryz.ntmps19
 go_upto_region 3 with fail
 refine wp_region_noPanic ?_;refine wp_region_held_drew (S:=fun w'=>Chg (w.alloc (.cells #[.int .i64 (kk:Nat),.string path,.string tto,.int .i64 off,.int .i64 len,.slice da dl dc,.int .i64 made,.int .i64 pick] 34)) w' No) (by kernel_rfl) (Chg.refl _ _).drew (fun hH => ?_);refine takeR 0 11 34 (.tmp 1) w.heap.size 34 #[.int .i64 (kk:Nat),.string path,.string tto,.int .i64 off,.int .i64 len,.slice da dl dc,.int .i64 made,.int .i64 pick] _ rfl (by kernel_rfl) (by kernel_rfl) (by kernel_rfl) rfl rfl rfl Tryz.underlying34 rfl (by rw [szOp];rfl) (by rfl) (fun _ _ _ h=>h) hH (fun W' hw'=>HOp.out W' hw') ?_;simp only [sS];refine tV 2 13 (.pointer (some ⟨w.heap.size,0,none⟩)) rfl (by kernel_rfl) rfl (by rfl) hH (fun W' hw'=>by go_simp) ?_;simp only [sS];refine tV 3 14 (.int .i64 (kk:Nat)) rfl (by kernel_rfl) rfl (by rfl) hH (fun W' hw'=>by have hc:=HQ0.out W' hw';go_simp) ?_;simp only [sS];refine tV 4 15 (.pointer (some ⟨0,kk,none⟩)) rfl (by kernel_rfl) rfl (by rfl) hH (fun W' hw'=>by go_simp;intro hbad;omega) ?_;simp only [sS];refine tV 5 16 (.int .i64 uk) rfl (by kernel_rfl) rfl (by rfl) hH (fun W' hw'=>by have hc:=HU.out W' hw';go_simp) ?_;simp only [sS];refine step1 1 (by kernel_rfl) ?_;refine stCall 1 12 40 #[.agg #[.int .i64 (kk:Nat),.string path,.string tto,.int .i64 off,.int .i64 len,.slice da dl dc,.int .i64 made,.int .i64 pick]] _ rfl rfl (by rfl) (by go_simp) (HGv.out _) ?_
 rintro e w5 ⟨rfl,hc5⟩
 have hH5:Chg (w.alloc (.cells #[.int .i64 (kk:Nat),.string path,.string tto,.int .i64 off,.int .i64 len,.slice da dl dc,.int .i64 made,.int .i64 pick] 34)) w5 No:=hH.tr hc5;refine ⟨_,rfl,hH5,?_⟩;simp only [sS]
 refine tV 6 17 (.int .i64 z) rfl (by kernel_rfl) rfl (by rfl) hH5 (fun W' hw'=>by go_simp <;> exact hzs) ?_
 simp only [sS];refine tV 7 18 (.bool false) rfl (by kernel_rfl) rfl (by rfl) hH5 (fun W' hw'=>by go_simp) ?_;simp only [sS];refine tV 8 19 (.bool false) rfl (by kernel_rfl) rfl (by rfl) hH5 (fun W' hw'=>rfl) ?_;simp only [sS];refine takeNot 9 20 rfl (by kernel_rfl) (by kernel_rfl) (by kernel_rfl) rfl (by rfl) (fun _ _ _ h=>h) hH5 ?_;simp only [sS];refine takeNot 10 21 rfl (by kernel_rfl) (by kernel_rfl) (by kernel_rfl) rfl (by rfl) (fun _ _ _ h=>h) hH5 ?_;simp only [sS];refine takeNot 11 22 rfl (by kernel_rfl) (by kernel_rfl) (by kernel_rfl) rfl (by rfl) (fun _ _ _ h=>h) hH5 ?_;simp only [sS];refine tV 12 23 (.bool false) rfl (by kernel_rfl) rfl (by rfl) hH5 (fun W' hw'=>by go_simp) ?_;simp only [sS];refine tV 13 24 (.bool false) rfl (by kernel_rfl) rfl (by rfl) hH5 (fun W' hw'=>rfl) ?_;simp only [sS];refine takeNot 14 25 rfl (by kernel_rfl) (by kernel_rfl) (by kernel_rfl) rfl (by rfl) (fun _ _ _ h=>h) hH5 ?_;simp only [sS];refine takeNot 15 26 rfl (by kernel_rfl) (by kernel_rfl) (by kernel_rfl) rfl (by rfl) (fun _ _ _ h=>h) hH5 ?_;simp only [sS];refine takeNot 16 27 rfl (by kernel_rfl) (by kernel_rfl) (by kernel_rfl) rfl (by rfl) (fun _ _ _ h=>h) hH5 ?_;simp only [sS];refine tV 17 28 (.bool false) rfl (by kernel_rfl) rfl (by rfl) hH5 (fun W' hw'=>by go_simp) ?_;simp only [sS];refine tV 18 2 (.bool false) rfl (by kernel_rfl) rfl (by rfl) hH5 (fun W' hw'=>rfl) ?_;simp only [sS];refine wpAnyH_done (by kernel_rfl) ?_ _;refine NoPanic.normal ?_;have HFin:Hid (Chg w w5 No):=hid (HC1.out.tr hH5);clear hH hc5 hH5
 go_wp2_with fail
 go_ret
 exact ⟨rfl,HFin.out⟩
set_option maxHeartbeats 2000000 in
set_option maxRecDepth 100000 in
theorem mayBe_neg (kk:Nat) (path tto:ByteArray) (off len:Int) (da:Option Addr) (dl dc:Nat) (made pick:Int) (w:World) (hu:UB w) (h1:1≤kk) (h2:kk≤14) (hz:bits .andNot .i64 (givF path tto off len dl made pick) (usedL.getD kk 0)=0) (hm0:made < 0) :
  Calls Tryz.prog 19 #[.agg (opA (kk:Nat) path tto off len da dl dc made pick)] w fun e w'=>e=.returned (.bool false)∧Chg w w' No:=by
 obtain ⟨w1,hw1⟩:∃ y,y=w.alloc (.cells (opA (kk:Nat) path tto off len da dl dc made pick) 34):=⟨_,rfl⟩
 have hc1:Chg w w1 No:=by rw [hw1];exact Chg.alloc w _ No
 have hop:w1.heap[w.heap.size]? = some (.cells (opA (kk:Nat) path tto off len da dl dc made pick) 34 (0,0)):=by rw [hw1];exact heap_alloc_new w _
 have HOp:Hid (∀ W,Chg w1 W No→W.heap[w.heap.size]? = some (.cells #[.int .i64 (kk:Nat),.string path,.string tto,.int .i64 off,.int .i64 len,.slice da dl dc,.int .i64 made,.int .i64 pick] 34 (0,0))):=hid (fun W hW=>hW.keep hop (fun e=>e));have HQ0:Hid (∀ W,Chg w1 W No→W.cell? ⟨w.heap.size,0,none⟩=some (.int .i64 (kk:Nat))):=hid (fun W hW=>(cell_of_row _ _ _ _ _ _ (HOp.out W hW)).trans rfl);have HQ6:Hid (∀ W,Chg w1 W No→W.cell? ⟨w.heap.size,6,none⟩=some (.int .i64 made)):=hid (fun W hW=>(cell_of_row _ _ _ _ _ _ (HOp.out W hW)).trans rfl);have HU:Hid (∀ W,Chg w1 W No→W.cell? ⟨0,kk,none⟩=some (.int .i64 (usedL.getD kk 0))):=hid (fun W hW=>((hu.keep hc1 (fun e=>e)).keep hW (fun e=>e)).2 kk (by omega));have HGv:Hid (∀ W,Calls Tryz.prog 40 #[.agg #[.int .i64 (kk:Nat),.string path,.string tto,.int .i64 off,.int .i64 len,.slice da dl dc,.int .i64 made,.int .i64 pick]] W fun e w'=>e=.returned (.int .i64 (givF path tto off len dl made pick))∧Chg W w' No):=hid (fun W=>given_any _ _ _ _ _ _ _ _ _ _ W);have q0:=HQ0.out w1 (Chg.refl _ _);obtain ⟨gf,hgf⟩:∃ y,y=givF path tto off len dl made pick:=⟨_,rfl⟩;rw [←hgf] at hz HGv;obtain ⟨uk,huk⟩:∃ y,y=usedL.getD kk 0:=⟨_,rfl⟩;rw [←huk] at hz HU;have HC1:=hid hc1
 have k1 : ¬ (kk:Int) < 1:=by omega
 have k2 : ¬ 14 < (kk:Int):=by omega
 have k3:(kk:Int)≤14:=by omega
 unfold opA at hw1 ⊢;rw [hw1] at HOp HQ0 HQ6 HU q0 HC1;clear hop hc1 hw1 hu hgf huk
 go_enter Tryz.func19,Tryz.ntmps19
 go_upto_region 3 with fail
 refine wp_region_noPanic ?_;refine wp_region_held_drew (S:=fun w'=>Chg (w.alloc (.cells #[.int .i64 (kk:Nat),.string path,.string tto,.int .i64 off,.int .i64 len,.slice da dl dc,.int .i64 made,.int .i64 pick] 34)) w' No) (by kernel_rfl) (Chg.refl _ _).drew (fun hH => ?_);refine takeR 0 11 34 (.tmp 1) w.heap.size 34 #[.int .i64 (kk:Nat),.string path,.string tto,.int .i64 off,.int .i64 len,.slice da dl dc,.int .i64 made,.int .i64 pick] _ rfl (by kernel_rfl) (by kernel_rfl) (by kernel_rfl) rfl rfl rfl Tryz.underlying34 rfl (by rw [szOp];rfl) (by rfl) (fun _ _ _ h=>h) hH (fun W' hw'=>HOp.out W' hw') ?_;simp only [sS];refine tV 2 13 (.pointer (some ⟨w.heap.size,0,none⟩)) rfl (by kernel_rfl) rfl (by rfl) hH (fun W' hw'=>by go_simp) ?_;simp only [sS];refine tV 3 14 (.int .i64 (kk:Nat)) rfl (by kernel_rfl) rfl (by rfl) hH (fun W' hw'=>by have hc:=HQ0.out W' hw';go_simp) ?_;simp only [sS];refine tV 4 15 (.pointer (some ⟨0,kk,none⟩)) rfl (by kernel_rfl) rfl (by rfl) hH (fun W' hw'=>by go_simp;intro hbad;omega) ?_;simp only [sS];refine tV 5 16 (.int .i64 uk) rfl (by kernel_rfl) rfl (by rfl) hH (fun W' hw'=>by have hc:=HU.out W' hw';go_simp) ?_;simp only [sS];refine step1 1 (by kernel_rfl) ?_;refine stCall 1 12 40 #[.agg #[.int .i64 (kk:Nat),.string path,.string tto,.int .i64 off,.int .i64 len,.slice da dl dc,.int .i64 made,.int .i64 pick]] _ rfl rfl (by rfl) (by go_simp) (HGv.out _) ?_
 rintro e w5 ⟨rfl,hc5⟩
 have hH5:Chg (w.alloc (.cells #[.int .i64 (kk:Nat),.string path,.string tto,.int .i64 off,.int .i64 len,.slice da dl dc,.int .i64 made,.int .i64 pick] 34)) w5 No:=hH.tr hc5;refine ⟨_,rfl,hH5,?_⟩;simp only [sS]
 refine tV 6 17 (.int .i64 0) rfl (by kernel_rfl) rfl (by rfl) hH5 (fun W' hw'=>by go_simp <;> exact hz) ?_
 simp only [sS];refine tV 7 18 (.bool true) rfl (by kernel_rfl) rfl (by rfl) hH5 (fun W' hw'=>by go_simp) ?_;simp only [sS];refine tV 8 19 (.bool true) rfl (by kernel_rfl) rfl (by rfl) hH5 (fun W' hw'=>rfl) ?_;simp only [sS];refine tV 9 20 (.pointer (some ⟨w.heap.size,6,none⟩)) rfl (by kernel_rfl) rfl (by rfl) hH5 (fun W' hw'=>by go_simp) ?_;simp only [sS];refine tV 10 21 (.int .i64 made) rfl (by kernel_rfl) rfl (by rfl) hH5 (fun W' hw'=>by have hc:=HQ6.out W' hw';go_simp) ?_;simp only [sS];refine tV 11 22 (.bool false) rfl (by kernel_rfl) rfl (by rfl) hH5 (fun W' hw'=>by go_simp) ?_;simp only [sS];refine tV 12 23 (.bool false) rfl (by kernel_rfl) rfl (by rfl) hH5 (fun W' hw'=>by go_simp) ?_;simp only [sS];refine tV 13 24 (.bool false) rfl (by kernel_rfl) rfl (by rfl) hH5 (fun W' hw'=>rfl) ?_;simp only [sS];refine takeNot 14 25 rfl (by kernel_rfl) (by kernel_rfl) (by kernel_rfl) rfl (by rfl) (fun _ _ _ h=>h) hH5 ?_;simp only [sS];refine takeNot 15 26 rfl (by kernel_rfl) (by kernel_rfl) (by kernel_rfl) rfl (by rfl) (fun _ _ _ h=>h) hH5 ?_;simp only [sS];refine takeNot 16 27 rfl (by kernel_rfl) (by kernel_rfl) (by kernel_rfl) rfl (by rfl) (fun _ _ _ h=>h) hH5 ?_;simp only [sS];refine tV 17 28 (.bool false) rfl (by kernel_rfl) rfl (by rfl) hH5 (fun W' hw'=>by go_simp) ?_;simp only [sS];refine tV 18 2 (.bool false) rfl (by kernel_rfl) rfl (by rfl) hH5 (fun W' hw'=>rfl) ?_;simp only [sS];refine wpAnyH_done (by kernel_rfl) ?_ _;refine NoPanic.normal ?_;have HFin:Hid (Chg w w5 No):=hid (HC1.out.tr hH5);clear hH hc5 hH5
 go_wp2_with fail
 go_ret
 exact ⟨rfl,HFin.out⟩
set_option maxHeartbeats 2000000 in
set_option maxRecDepth 100000 in
theorem mayBe_far (kk:Nat) (path tto:ByteArray) (off len:Int) (da:Option Addr) (dl dc:Nat) (made pick:Int) (w:World) (hu:UB w) (h1:1≤kk) (h2:kk≤14) (hz:bits .andNot .i64 (givF path tto off len dl made pick) (usedL.getD kk 0)=0) (hm1:1099511627776 < made) :
  Calls Tryz.prog 19 #[.agg (opA (kk:Nat) path tto off len da dl dc made pick)] w fun e w'=>e=.returned (.bool false)∧Chg w w' No:=by
 obtain ⟨w1,hw1⟩:∃ y,y=w.alloc (.cells (opA (kk:Nat) path tto off len da dl dc made pick) 34):=⟨_,rfl⟩
 have hc1:Chg w w1 No:=by rw [hw1];exact Chg.alloc w _ No
 have hop:w1.heap[w.heap.size]? = some (.cells (opA (kk:Nat) path tto off len da dl dc made pick) 34 (0,0)):=by rw [hw1];exact heap_alloc_new w _
 have HOp:Hid (∀ W,Chg w1 W No→W.heap[w.heap.size]? = some (.cells #[.int .i64 (kk:Nat),.string path,.string tto,.int .i64 off,.int .i64 len,.slice da dl dc,.int .i64 made,.int .i64 pick] 34 (0,0))):=hid (fun W hW=>hW.keep hop (fun e=>e));have HQ0:Hid (∀ W,Chg w1 W No→W.cell? ⟨w.heap.size,0,none⟩=some (.int .i64 (kk:Nat))):=hid (fun W hW=>(cell_of_row _ _ _ _ _ _ (HOp.out W hW)).trans rfl);have HQ6:Hid (∀ W,Chg w1 W No→W.cell? ⟨w.heap.size,6,none⟩=some (.int .i64 made)):=hid (fun W hW=>(cell_of_row _ _ _ _ _ _ (HOp.out W hW)).trans rfl);have HU:Hid (∀ W,Chg w1 W No→W.cell? ⟨0,kk,none⟩=some (.int .i64 (usedL.getD kk 0))):=hid (fun W hW=>((hu.keep hc1 (fun e=>e)).keep hW (fun e=>e)).2 kk (by omega));have HGv:Hid (∀ W,Calls Tryz.prog 40 #[.agg #[.int .i64 (kk:Nat),.string path,.string tto,.int .i64 off,.int .i64 len,.slice da dl dc,.int .i64 made,.int .i64 pick]] W fun e w'=>e=.returned (.int .i64 (givF path tto off len dl made pick))∧Chg W w' No):=hid (fun W=>given_any _ _ _ _ _ _ _ _ _ _ W);have q0:=HQ0.out w1 (Chg.refl _ _);obtain ⟨gf,hgf⟩:∃ y,y=givF path tto off len dl made pick:=⟨_,rfl⟩;rw [←hgf] at hz HGv;obtain ⟨uk,huk⟩:∃ y,y=usedL.getD kk 0:=⟨_,rfl⟩;rw [←huk] at hz HU;have HC1:=hid hc1
 have k1 : ¬ (kk:Int) < 1:=by omega
 have k2 : ¬ 14 < (kk:Int):=by omega
 have k3:(kk:Int)≤14:=by omega
 unfold opA at hw1 ⊢;rw [hw1] at HOp HQ0 HQ6 HU q0 HC1;clear hop hc1 hw1 hu hgf huk
 go_enter Tryz.func19,Tryz.ntmps19
 go_upto_region 3 with fail
 refine wp_region_noPanic ?_;refine wp_region_held_drew (S:=fun w'=>Chg (w.alloc (.cells #[.int .i64 (kk:Nat),.string path,.string tto,.int .i64 off,.int .i64 len,.slice da dl dc,.int .i64 made,.int .i64 pick] 34)) w' No) (by kernel_rfl) (Chg.refl _ _).drew (fun hH => ?_);refine takeR 0 11 34 (.tmp 1) w.heap.size 34 #[.int .i64 (kk:Nat),.string path,.string tto,.int .i64 off,.int .i64 len,.slice da dl dc,.int .i64 made,.int .i64 pick] _ rfl (by kernel_rfl) (by kernel_rfl) (by kernel_rfl) rfl rfl rfl Tryz.underlying34 rfl (by rw [szOp];rfl) (by rfl) (fun _ _ _ h=>h) hH (fun W' hw'=>HOp.out W' hw') ?_;simp only [sS];refine tV 2 13 (.pointer (some ⟨w.heap.size,0,none⟩)) rfl (by kernel_rfl) rfl (by rfl) hH (fun W' hw'=>by go_simp) ?_;simp only [sS];refine tV 3 14 (.int .i64 (kk:Nat)) rfl (by kernel_rfl) rfl (by rfl) hH (fun W' hw'=>by have hc:=HQ0.out W' hw';go_simp) ?_;simp only [sS];refine tV 4 15 (.pointer (some ⟨0,kk,none⟩)) rfl (by kernel_rfl) rfl (by rfl) hH (fun W' hw'=>by go_simp;intro hbad;omega) ?_;simp only [sS];refine tV 5 16 (.int .i64 uk) rfl (by kernel_rfl) rfl (by rfl) hH (fun W' hw'=>by have hc:=HU.out W' hw';go_simp) ?_;simp only [sS];refine step1 1 (by kernel_rfl) ?_;refine stCall 1 12 40 #[.agg #[.int .i64 (kk:Nat),.string path,.string tto,.int .i64 off,.int .i64 len,.slice da dl dc,.int .i64 made,.int .i64 pick]] _ rfl rfl (by rfl) (by go_simp) (HGv.out _) ?_
 rintro e w5 ⟨rfl,hc5⟩
 have hH5:Chg (w.alloc (.cells #[.int .i64 (kk:Nat),.string path,.string tto,.int .i64 off,.int .i64 len,.slice da dl dc,.int .i64 made,.int .i64 pick] 34)) w5 No:=hH.tr hc5;refine ⟨_,rfl,hH5,?_⟩;simp only [sS]
 refine tV 6 17 (.int .i64 0) rfl (by kernel_rfl) rfl (by rfl) hH5 (fun W' hw'=>by go_simp <;> exact hz) ?_
 simp only [sS];refine tV 7 18 (.bool true) rfl (by kernel_rfl) rfl (by rfl) hH5 (fun W' hw'=>by go_simp) ?_;simp only [sS];refine tV 8 19 (.bool true) rfl (by kernel_rfl) rfl (by rfl) hH5 (fun W' hw'=>rfl) ?_;simp only [sS];refine tV 9 20 (.pointer (some ⟨w.heap.size,6,none⟩)) rfl (by kernel_rfl) rfl (by rfl) hH5 (fun W' hw'=>by go_simp) ?_;simp only [sS];refine tV 10 21 (.int .i64 made) rfl (by kernel_rfl) rfl (by rfl) hH5 (fun W' hw'=>by have hc:=HQ6.out W' hw';go_simp) ?_;simp only [sS]
 refine tV 11 22 (.bool true) rfl (by kernel_rfl) rfl (by rfl) hH5 (fun W' hw'=>by go_simp <;> omega) ?_
 simp only [sS];refine tV 12 23 (.bool true) rfl (by kernel_rfl) rfl (by rfl) hH5 (fun W' hw'=>by go_simp) ?_;simp only [sS];refine tV 13 24 (.bool true) rfl (by kernel_rfl) rfl (by rfl) hH5 (fun W' hw'=>rfl) ?_;simp only [sS];refine tV 14 25 (.pointer (some ⟨w.heap.size,6,none⟩)) rfl (by kernel_rfl) rfl (by rfl) hH5 (fun W' hw'=>by go_simp) ?_;simp only [sS];refine tV 15 26 (.int .i64 made) rfl (by kernel_rfl) rfl (by rfl) hH5 (fun W' hw'=>by have hc:=HQ6.out W' hw';go_simp) ?_;simp only [sS];refine tV 16 27 (.bool false) rfl (by kernel_rfl) rfl (by rfl) hH5 (fun W' hw'=>by go_simp) ?_;simp only [sS];refine tV 17 28 (.bool false) rfl (by kernel_rfl) rfl (by rfl) hH5 (fun W' hw'=>by go_simp) ?_;simp only [sS];refine tV 18 2 (.bool false) rfl (by kernel_rfl) rfl (by rfl) hH5 (fun W' hw'=>rfl) ?_;simp only [sS];refine wpAnyH_done (by kernel_rfl) ?_ _;refine NoPanic.normal ?_;have HFin:Hid (Chg w w5 No):=hid (HC1.out.tr hH5);clear hH hc5 hH5
 go_wp2_with fail
 go_ret
 exact ⟨rfl,HFin.out⟩
end Go.Proofs.YtmgfilacepnjlaaGreatDoor
