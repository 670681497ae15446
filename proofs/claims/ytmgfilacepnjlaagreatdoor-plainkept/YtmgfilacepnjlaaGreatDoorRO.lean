/-
 package plain: doAt, for the other kinds.
-/
import Derived.Test.YtmgfilacepnjlaaGreatDoorRN
namespace Go.Proofs.YtmgfilacepnjlaaGreatDoor
open Go.RowKit

def ansD (e:Int) (a:Option Addr) (n m:Nat):Array Value:=#[.int .i64 e,.int .i64 0,.int .i64 0,.int .i64 0,.int .i64 0,.int .i64 0,.int .i64 0,.slice a n m,.slice none 0 0,.bool false]

set_option maxHeartbeats 2000000 in
set_option maxRecDepth 100000 in
theorem doAt_write {q:PC} {s:PSt} {c:NC} {x:Nd} (i:Int) (path tto:ByteArray) (off len:Int) (da:Option Addr) (dl dc:Nat) (made pick:Int) (w:World) (E:Int) (R:World→Prop) (ks:Nat→Prop) (hks:∀ k,ks k→k < w.heap.size) (h:IsPl w q s) (hqc:q.nc i=some c) (hsx:s.nd i=some x) (hk : ¬ x.kind=2)
  (hW:∀ W,Chg w W No→Calls Tryz.prog 56 #[.pointer (some ⟨q.p,0,none⟩),.pointer (some ⟨c.p,0,none⟩),.int .i64 off,.slice da dl dc] W fun e w'=>e=.returned (.int .i64 E)∧R w'∧Chg W w' ks)
  (hR:∀ w1 w2 r o,R w1→w1.heap[w.heap.size + 1]? = some (.cells o 43 (0,0))→PutR w1 (w.heap.size + 1) r 43 w2→R w2) :
  Calls Tryz.prog 27 #[.pointer (some ⟨q.p,0,none⟩),.int .i64 i,.agg (opA 7 path tto off len da dl dc made pick)] w fun e w'=>e=.returned (.agg (ansE E))∧R w'∧Chg w w' ks:=by
 obtain ⟨w1,hw1⟩:∃ y,y=(w.alloc (.cells (opA 7 path tto off len da dl dc made pick) 34)).alloc (.cells (ansE 0) 43):=⟨_,rfl⟩;have hcA:Chg w (w.alloc (.cells (opA 7 path tto off len da dl dc made pick) 34)) No:=Chg.alloc w _ No
 have hc1:Chg w w1 No:=by rw [hw1];exact hcA.tr (Chg.alloc _ _ No)
 have hO:w1.heap[w.heap.size]? = some (.cells #[.int .i64 7,.string path,.string tto,.int .i64 off,.int .i64 len,.slice da dl dc,.int .i64 made,.int .i64 pick] 34 (0,0)):=by rw [hw1];exact (Chg.alloc _ _ No).keep (heap_alloc_new w _) (fun e=>e)
 have hA1:w1.heap[w.heap.size + 1]? = some (.cells (ansE 0) 43 (0,0)):=by
  have:=heap_alloc_new (w.alloc (.cells (opA 7 path tto off len da dl dc made pick) 34)) (.cells (ansE 0) 43);rw [show (w.alloc (.cells (opA 7 path tto off len da dl dc made pick) 34)).heap.size=w.heap.size + 1 by simp] at this;rw [hw1]
  exact this
 have HA:Hid (∀ W,Chg w1 W ks→W.heap[w.heap.size + 1]? = some (.cells (ansE 0) 43 (0,0))):=hid (fun W hW=>hW.keep hA1 (fun e=>by have:=hks _ e;omega))
 have hN:IsN w c x:=by
  obtain ⟨x',h1,h2⟩:=h.nd i c hqc;rw [hsx] at h1
  cases h1
  exact h2
 have hrg:=h.rng i (by rw [hqc];intro e;cases e);have hI:I64 i:=⟨by omega,by omega⟩;have c2:=(h.call hc1).c2;obtain ⟨fm,hfm⟩:∃ y,y=(fun i=>(q.nc i).map ptrN):=⟨_,rfl⟩;have HM:Hid (MapV w1 q.mb fm):=hid (by rw [hfm];exact (h.call hc1).mp);have HFi:Hid ((match fm i with | some v=>v | none=>Value.pointer none)=.pointer (some ⟨c.p,0,none⟩)):=hid (by rw [hfm];simp only [hqc,Option.map_some];rfl);have hDr:=isDirectory_any w1 (hN.call hc1);rw [decide_eq_false hk] at hDr;have q0:w1.cell? ⟨w.heap.size,0,none⟩=some (.int .i64 7):=(cell_of_row _ _ _ _ _ _ hO).trans rfl;have q3:w1.cell? ⟨w.heap.size,3,none⟩=some (.int .i64 off):=(cell_of_row _ _ _ _ _ _ hO).trans rfl;have q4:w1.cell? ⟨w.heap.size,4,none⟩=some (.int .i64 len):=(cell_of_row _ _ _ _ _ _ hO).trans rfl;have q5:w1.cell? ⟨w.heap.size,5,none⟩=some (.slice da dl dc):=(cell_of_row _ _ _ _ _ _ hO).trans rfl;have hCl:=hW w1 hc1;have HRr:=hid hR;have HC1:=hid hc1;have HK0:=hid hks;unfold opA at hw1 ⊢;unfold ansE at hw1;have e1:=hw1;clear hcA hc1 hO hA1 h hqc hsx hk hW hR hks hfm hrg hN hw1
 go_enter Tryz.func27,Tryz.ntmps27
 go_upto_region 1 with fail
 rw [←e1];clear e1
 go_wp2_with (first
  | (at_lookup;go_must (refine wp_lookVN rfl _ _ rfl q.mb fm i _ HFi.out rfl rfl HM.out hI ?_))
  | (go_at_call 48;go_must (refine hDr.mono ?_;rintro e w2 ⟨rfl,rfl⟩))
  | (go_at_call 56;go_must (refine hCl.mono ?_;rintro e w4 ⟨rfl,hRa,hc4⟩;have HRa:=hid hRa;have HC4:=hid hc4;have HA4:=hid (HA.out w4 hc4);clear hRa hc4))
  | (refine store_R rfl 43 _ _ rfl (w.heap.size + 1) #[.int .i64 E,.int .i64 0,.int .i64 0,.int .i64 0,.int .i64 0,.int .i64 0,.int .i64 0,.slice none 0 0,.slice none 0 0,.bool false] rfl rfl 43 _ HA4.out (by rw [szAn];rfl) rfl (by simp [Value.oneCell']) ?_;intro w5 hw5)
  | fail)
 exact bodyPost_ret (v:=.agg #[.int .i64 E,.int .i64 0,.int .i64 0,.int .i64 0,.int .i64 0,.int .i64 0,.int .i64 0,.slice none 0 0,.slice none 0 0,.bool false]) (results_R1 Tryz.results27 _ _ (w.heap.size + 1) _ 43 _ Tryz.underlying43 rfl (by rw [szAn];rfl) rfl hw5.here) rfl ⟨rfl,HRr.out _ _ _ _ HRa.out HA4.out hw5,(HC1.out.trans HC4.out (fun _ _ e=>e.elim) (fun _ _ e=>e)).trans (kt_new hw5) (fun _ _ e=>e) (fun j hj e=>by omega)⟩

set_option maxHeartbeats 2000000 in
set_option maxRecDepth 100000 in
theorem doAt_read {q:PC} {s:PSt} {c:NC} {x:Nd} (i:Int) (path tto:ByteArray) (off len:Int) (da:Option Addr) (dl dc:Nat) (made pick:Int) (w:World) (m:Nat) (B:Array Value) (h:IsPl w q s) (hqc:q.nc i=some c) (hsx:s.nd i=some x) (hk : ¬ x.kind=2)
  (hW:∀ W,Chg w W No→Calls Tryz.prog 58 #[.pointer (some ⟨c.p,0,none⟩),.int .i64 off,.int .i64 len] W fun e w'=>e=.returned (.tuple #[.slice (some ⟨W.heap.size,0,none⟩) m m,.int .i64 0])∧w'.heap[W.heap.size]? = some (.cells B 5 (0,0))∧Chg W w' No) :
  Calls Tryz.prog 27 #[.pointer (some ⟨q.p,0,none⟩),.int .i64 i,.agg (opA 9 path tto off len da dl dc made pick)] w fun e w'=>∃ g,e=.returned (.agg (ansD 0 (some ⟨g,0,none⟩) m m))∧w'.heap[g]? = some (.cells B 5 (0,0))∧Chg w w' No∧w.heap.size≤g:=by
 obtain ⟨w1,hw1⟩:∃ y,y=(w.alloc (.cells (opA 9 path tto off len da dl dc made pick) 34)).alloc (.cells (ansE 0) 43):=⟨_,rfl⟩;have hcA:Chg w (w.alloc (.cells (opA 9 path tto off len da dl dc made pick) 34)) No:=Chg.alloc w _ No
 have hc1:Chg w w1 No:=by rw [hw1];exact hcA.tr (Chg.alloc _ _ No)
 have hO:w1.heap[w.heap.size]? = some (.cells #[.int .i64 9,.string path,.string tto,.int .i64 off,.int .i64 len,.slice da dl dc,.int .i64 made,.int .i64 pick] 34 (0,0)):=by rw [hw1];exact (Chg.alloc _ _ No).keep (heap_alloc_new w _) (fun e=>e)
 have hA1:w1.heap[w.heap.size + 1]? = some (.cells (ansE 0) 43 (0,0)):=by
  have:=heap_alloc_new (w.alloc (.cells (opA 9 path tto off len da dl dc made pick) 34)) (.cells (ansE 0) 43);rw [show (w.alloc (.cells (opA 9 path tto off len da dl dc made pick) 34)).heap.size=w.heap.size + 1 by simp] at this;rw [hw1]
  exact this
 have HA:Hid (∀ W,Chg w1 W No→W.heap[w.heap.size + 1]? = some (.cells (ansE 0) 43 (0,0))):=hid (fun W hW=>hW.keep hA1 (fun e=>e))
 have hN:IsN w c x:=by
  obtain ⟨x',h1,h2⟩:=h.nd i c hqc;rw [hsx] at h1
  cases h1
  exact h2
 have hrg:=h.rng i (by rw [hqc];intro e;cases e);have hI:I64 i:=⟨by omega,by omega⟩;have c2:=(h.call hc1).c2;obtain ⟨fm,hfm⟩:∃ y,y=(fun i=>(q.nc i).map ptrN):=⟨_,rfl⟩;have HM:Hid (MapV w1 q.mb fm):=hid (by rw [hfm];exact (h.call hc1).mp);have HFi:Hid ((match fm i with | some v=>v | none=>Value.pointer none)=.pointer (some ⟨c.p,0,none⟩)):=hid (by rw [hfm];simp only [hqc,Option.map_some];rfl);have hDr:=isDirectory_any w1 (hN.call hc1);rw [decide_eq_false hk] at hDr;have q0:w1.cell? ⟨w.heap.size,0,none⟩=some (.int .i64 9):=(cell_of_row _ _ _ _ _ _ hO).trans rfl;have q3:w1.cell? ⟨w.heap.size,3,none⟩=some (.int .i64 off):=(cell_of_row _ _ _ _ _ _ hO).trans rfl;have q4:w1.cell? ⟨w.heap.size,4,none⟩=some (.int .i64 len):=(cell_of_row _ _ _ _ _ _ hO).trans rfl;have q5:w1.cell? ⟨w.heap.size,5,none⟩=some (.slice da dl dc):=(cell_of_row _ _ _ _ _ _ hO).trans rfl;have hCl:=hW w1 hc1;have HC1:=hid hc1
 have hs1:w1.heap.size=w.heap.size + 2:=by rw [hw1];simp
 obtain ⟨gr,hgr⟩:∃ y,y=w1.heap.size:=⟨_,rfl⟩;rw [←hgr] at hCl hs1;have HS1:=hid hs1;unfold opA at hw1 ⊢;unfold ansE at hw1;unfold ansD;have e1:=hw1;clear hcA hc1 hO hA1 h hqc hsx hk hW hs1 hgr hfm hrg hN hw1
 go_enter Tryz.func27,Tryz.ntmps27
 go_upto_region 1 with fail
 rw [←e1];clear e1
 go_wp2_with (first
  | (at_lookup;go_must (refine wp_lookVN rfl _ _ rfl q.mb fm i _ HFi.out rfl rfl HM.out hI ?_))
  | (go_at_call 48;go_must (refine hDr.mono ?_;rintro e w2 ⟨rfl,rfl⟩))
  | (go_at_call 58;go_must (refine hCl.mono ?_;rintro e w4 ⟨rfl,hRa,hc4⟩;have HRa:=hid hRa;have HC4:=hid hc4;have HA4:=hid (HA.out w4 hc4);clear hRa hc4))
  | (refine store_R rfl 43 _ _ rfl (w.heap.size + 1) #[.int .i64 0,.int .i64 0,.int .i64 0,.int .i64 0,.int .i64 0,.int .i64 0,.int .i64 0,.slice (some ⟨gr,0,none⟩) m m,.slice none 0 0,.bool false] rfl rfl 43 _ HA4.out (by rw [szAn];rfl) rfl (by simp [Value.oneCell']) ?_;intro w5 hw5)
  | fail)
 exact bodyPost_ret (v:=.agg #[.int .i64 0,.int .i64 0,.int .i64 0,.int .i64 0,.int .i64 0,.int .i64 0,.int .i64 0,.slice (some ⟨gr,0,none⟩) m m,.slice none 0 0,.bool false]) (results_R1 Tryz.results27 _ _ (w.heap.size + 1) _ 43 _ Tryz.underlying43 rfl (by rw [szAn];rfl) rfl hw5.here) rfl ⟨gr,rfl,putR_keep hw5 HRa.out (by have:=HS1.out;omega),(HC1.out.tr HC4.out).trans (kt_new hw5) (fun _ _ e=>e) (fun j hj e=>by omega),by have:=HS1.out;omega⟩
end Go.Proofs.YtmgfilacepnjlaaGreatDoor

namespace Go.Proofs.YtmgfilacepnjlaaGreatDoor
open Go.RowKit

set_option maxHeartbeats 2000000 in
set_option maxRecDepth 100000 in
theorem doAt_trunc {q:PC} {s:PSt} {c:NC} {x:Nd} (i:Int) (path tto:ByteArray) (off len:Int) (da:Option Addr) (dl dc:Nat) (made pick:Int) (w:World) (E:Int) (R:World→Prop) (ks:Nat→Prop) (hks:∀ k,ks k→k < w.heap.size) (h:IsPl w q s) (hqc:q.nc i=some c) (hsx:s.nd i=some x) (hk : ¬ x.kind=2)
  (hW:∀ W,Chg w W No→Calls Tryz.prog 57 #[.pointer (some ⟨c.p,0,none⟩),.int .i64 off] W fun e w'=>e=.returned (.int .i64 E)∧R w'∧Chg W w' ks)
  (hR:∀ w1 w2 r o,R w1→w1.heap[w.heap.size + 1]? = some (.cells o 43 (0,0))→PutR w1 (w.heap.size + 1) r 43 w2→R w2) :
  Calls Tryz.prog 27 #[.pointer (some ⟨q.p,0,none⟩),.int .i64 i,.agg (opA 8 path tto off len da dl dc made pick)] w fun e w'=>e=.returned (.agg (ansE E))∧R w'∧Chg w w' ks:=by
 obtain ⟨w1,hw1⟩:∃ y,y=(w.alloc (.cells (opA 8 path tto off len da dl dc made pick) 34)).alloc (.cells (ansE 0) 43):=⟨_,rfl⟩;have hcA:Chg w (w.alloc (.cells (opA 8 path tto off len da dl dc made pick) 34)) No:=Chg.alloc w _ No
 have hc1:Chg w w1 No:=by rw [hw1];exact hcA.tr (Chg.alloc _ _ No)
 have hO:w1.heap[w.heap.size]? = some (.cells #[.int .i64 8,.string path,.string tto,.int .i64 off,.int .i64 len,.slice da dl dc,.int .i64 made,.int .i64 pick] 34 (0,0)):=by rw [hw1];exact (Chg.alloc _ _ No).keep (heap_alloc_new w _) (fun e=>e)
 have hA1:w1.heap[w.heap.size + 1]? = some (.cells (ansE 0) 43 (0,0)):=by
  have:=heap_alloc_new (w.alloc (.cells (opA 8 path tto off len da dl dc made pick) 34)) (.cells (ansE 0) 43);rw [show (w.alloc (.cells (opA 8 path tto off len da dl dc made pick) 34)).heap.size=w.heap.size + 1 by simp] at this;rw [hw1]
  exact this
 have HA:Hid (∀ W,Chg w1 W ks→W.heap[w.heap.size + 1]? = some (.cells (ansE 0) 43 (0,0))):=hid (fun W hW=>hW.keep hA1 (fun e=>by have:=hks _ e;omega))
 have hN:IsN w c x:=by
  obtain ⟨x',h1,h2⟩:=h.nd i c hqc;rw [hsx] at h1
  cases h1
  exact h2
 have hrg:=h.rng i (by rw [hqc];intro e;cases e);have hI:I64 i:=⟨by omega,by omega⟩;have c2:=(h.call hc1).c2;obtain ⟨fm,hfm⟩:∃ y,y=(fun i=>(q.nc i).map ptrN):=⟨_,rfl⟩;have HM:Hid (MapV w1 q.mb fm):=hid (by rw [hfm];exact (h.call hc1).mp);have HFi:Hid ((match fm i with | some v=>v | none=>Value.pointer none)=.pointer (some ⟨c.p,0,none⟩)):=hid (by rw [hfm];simp only [hqc,Option.map_some];rfl);have hDr:=isDirectory_any w1 (hN.call hc1);rw [decide_eq_false hk] at hDr;have q0:w1.cell? ⟨w.heap.size,0,none⟩=some (.int .i64 8):=(cell_of_row _ _ _ _ _ _ hO).trans rfl;have q3:w1.cell? ⟨w.heap.size,3,none⟩=some (.int .i64 off):=(cell_of_row _ _ _ _ _ _ hO).trans rfl;have q4:w1.cell? ⟨w.heap.size,4,none⟩=some (.int .i64 len):=(cell_of_row _ _ _ _ _ _ hO).trans rfl;have q5:w1.cell? ⟨w.heap.size,5,none⟩=some (.slice da dl dc):=(cell_of_row _ _ _ _ _ _ hO).trans rfl;have hCl:=hW w1 hc1;have HRr:=hid hR;have HC1:=hid hc1;have HK0:=hid hks;unfold opA at hw1 ⊢;unfold ansE at hw1;have e1:=hw1;clear hcA hc1 hO hA1 h hqc hsx hk hW hR hks hfm hrg hN hw1
 go_enter Tryz.func27,Tryz.ntmps27
 go_upto_region 1 with fail
 rw [←e1];clear e1
 go_wp2_with (first
  | (at_lookup;go_must (refine wp_lookVN rfl _ _ rfl q.mb fm i _ HFi.out rfl rfl HM.out hI ?_))
  | (go_at_call 48;go_must (refine hDr.mono ?_;rintro e w2 ⟨rfl,rfl⟩))
  | (go_at_call 57;go_must (refine hCl.mono ?_;rintro e w4 ⟨rfl,hRa,hc4⟩;have HRa:=hid hRa;have HC4:=hid hc4;have HA4:=hid (HA.out w4 hc4);clear hRa hc4))
  | (refine store_R rfl 43 _ _ rfl (w.heap.size + 1) #[.int .i64 E,.int .i64 0,.int .i64 0,.int .i64 0,.int .i64 0,.int .i64 0,.int .i64 0,.slice none 0 0,.slice none 0 0,.bool false] rfl rfl 43 _ HA4.out (by rw [szAn];rfl) rfl (by simp [Value.oneCell']) ?_;intro w5 hw5)
  | fail)
 exact bodyPost_ret (v:=.agg #[.int .i64 E,.int .i64 0,.int .i64 0,.int .i64 0,.int .i64 0,.int .i64 0,.int .i64 0,.slice none 0 0,.slice none 0 0,.bool false]) (results_R1 Tryz.results27 _ _ (w.heap.size + 1) _ 43 _ Tryz.underlying43 rfl (by rw [szAn];rfl) rfl hw5.here) rfl ⟨rfl,HRr.out _ _ _ _ HRa.out HA4.out hw5,(HC1.out.trans HC4.out (fun _ _ e=>e.elim) (fun _ _ e=>e)).trans (kt_new hw5) (fun _ _ e=>e) (fun j hj e=>by omega)⟩

set_option maxHeartbeats 2000000 in
set_option maxRecDepth 100000 in
theorem doAt_dirW {q:PC} {s:PSt} {c:NC} {x:Nd} (i:Int) (path tto:ByteArray) (off len:Int) (da:Option Addr) (dl dc:Nat) (made pick:Int) (w:World) (h:IsPl w q s) (hqc:q.nc i=some c) (hsx:s.nd i=some x) (hk:x.kind=2) :
  Calls Tryz.prog 27 #[.pointer (some ⟨q.p,0,none⟩),.int .i64 i,.agg (opA 7 path tto off len da dl dc made pick)] w fun e w'=>e=.returned (.agg (ansE 102))∧Chg w w' No:=by
 obtain ⟨w1,hw1⟩:∃ y,y=(w.alloc (.cells (opA 7 path tto off len da dl dc made pick) 34)).alloc (.cells (ansE 0) 43):=⟨_,rfl⟩;have hcA:Chg w (w.alloc (.cells (opA 7 path tto off len da dl dc made pick) 34)) No:=Chg.alloc w _ No
 have hc1:Chg w w1 No:=by rw [hw1];exact hcA.tr (Chg.alloc _ _ No)
 have hO:w1.heap[w.heap.size]? = some (.cells #[.int .i64 7,.string path,.string tto,.int .i64 off,.int .i64 len,.slice da dl dc,.int .i64 made,.int .i64 pick] 34 (0,0)):=by rw [hw1];exact (Chg.alloc _ _ No).keep (heap_alloc_new w _) (fun e=>e)
 have hA1:w1.heap[w.heap.size + 1]? = some (.cells (ansE 0) 43 (0,0)):=by
  have:=heap_alloc_new (w.alloc (.cells (opA 7 path tto off len da dl dc made pick) 34)) (.cells (ansE 0) 43);rw [show (w.alloc (.cells (opA 7 path tto off len da dl dc made pick) 34)).heap.size=w.heap.size + 1 by simp] at this;rw [hw1]
  exact this
 have HA:Hid (∀ W,Chg w1 W No→W.heap[w.heap.size + 1]? = some (.cells (ansE 0) 43 (0,0))):=hid (fun W hW=>hW.keep hA1 (fun e=>e))
 have hN:IsN w c x:=by
  obtain ⟨x',h1,h2⟩:=h.nd i c hqc;rw [hsx] at h1
  cases h1
  exact h2
 have hrg:=h.rng i (by rw [hqc];intro e;cases e);have hI:I64 i:=⟨by omega,by omega⟩;have c2:=(h.call hc1).c2;obtain ⟨fm,hfm⟩:∃ y,y=(fun i=>(q.nc i).map ptrN):=⟨_,rfl⟩;have HM:Hid (MapV w1 q.mb fm):=hid (by rw [hfm];exact (h.call hc1).mp);have HFi:Hid ((match fm i with | some v=>v | none=>Value.pointer none)=.pointer (some ⟨c.p,0,none⟩)):=hid (by rw [hfm];simp only [hqc,Option.map_some];rfl);have hDr:=isDirectory_any w1 (hN.call hc1);rw [decide_eq_true hk] at hDr;have q0:w1.cell? ⟨w.heap.size,0,none⟩=some (.int .i64 7):=(cell_of_row _ _ _ _ _ _ hO).trans rfl;have q3:w1.cell? ⟨w.heap.size,3,none⟩=some (.int .i64 off):=(cell_of_row _ _ _ _ _ _ hO).trans rfl;have q4:w1.cell? ⟨w.heap.size,4,none⟩=some (.int .i64 len):=(cell_of_row _ _ _ _ _ _ hO).trans rfl;have q5:w1.cell? ⟨w.heap.size,5,none⟩=some (.slice da dl dc):=(cell_of_row _ _ _ _ _ _ hO).trans rfl;have HC1:=hid hc1;have HA4:=hA1;unfold opA at hw1 ⊢;unfold ansE at hw1;have e1:=hw1;clear hcA hc1 hO hA1 h hqc hsx hk hfm hrg hN hw1
 go_enter Tryz.func27,Tryz.ntmps27
 go_upto_region 1 with fail
 rw [←e1];clear e1
 go_wp2_with (first
  | (at_lookup;go_must (refine wp_lookVN rfl _ _ rfl q.mb fm i _ HFi.out rfl rfl HM.out hI ?_))
  | (go_at_call 48;go_must (refine hDr.mono ?_;rintro e w2 ⟨rfl,rfl⟩))
  | (refine store_R rfl 43 _ _ rfl (w.heap.size + 1) #[.int .i64 102,.int .i64 0,.int .i64 0,.int .i64 0,.int .i64 0,.int .i64 0,.int .i64 0,.slice none 0 0,.slice none 0 0,.bool false] rfl rfl 43 _ HA4 (by rw [szAn];rfl) rfl (by simp [Value.oneCell']) ?_;intro w5 hw5)
  | fail)
 exact bodyPost_ret (v:=.agg #[.int .i64 102,.int .i64 0,.int .i64 0,.int .i64 0,.int .i64 0,.int .i64 0,.int .i64 0,.slice none 0 0,.slice none 0 0,.bool false]) (results_R1 Tryz.results27 _ _ (w.heap.size + 1) _ 43 _ Tryz.underlying43 rfl (by rw [szAn];rfl) rfl hw5.here) rfl ⟨rfl,HC1.out.trans (kt_new hw5) (fun _ _ e=>e) (fun j hj e=>by omega)⟩

set_option maxHeartbeats 2000000 in
set_option maxRecDepth 100000 in
theorem doAt_dirT {q:PC} {s:PSt} {c:NC} {x:Nd} (i:Int) (path tto:ByteArray) (off len:Int) (da:Option Addr) (dl dc:Nat) (made pick:Int) (w:World) (h:IsPl w q s) (hqc:q.nc i=some c) (hsx:s.nd i=some x) (hk:x.kind=2) :
  Calls Tryz.prog 27 #[.pointer (some ⟨q.p,0,none⟩),.int .i64 i,.agg (opA 8 path tto off len da dl dc made pick)] w fun e w'=>e=.returned (.agg (ansE 102))∧Chg w w' No:=by
 obtain ⟨w1,hw1⟩:∃ y,y=(w.alloc (.cells (opA 8 path tto off len da dl dc made pick) 34)).alloc (.cells (ansE 0) 43):=⟨_,rfl⟩;have hcA:Chg w (w.alloc (.cells (opA 8 path tto off len da dl dc made pick) 34)) No:=Chg.alloc w _ No
 have hc1:Chg w w1 No:=by rw [hw1];exact hcA.tr (Chg.alloc _ _ No)
 have hO:w1.heap[w.heap.size]? = some (.cells #[.int .i64 8,.string path,.string tto,.int .i64 off,.int .i64 len,.slice da dl dc,.int .i64 made,.int .i64 pick] 34 (0,0)):=by rw [hw1];exact (Chg.alloc _ _ No).keep (heap_alloc_new w _) (fun e=>e)
 have hA1:w1.heap[w.heap.size + 1]? = some (.cells (ansE 0) 43 (0,0)):=by
  have:=heap_alloc_new (w.alloc (.cells (opA 8 path tto off len da dl dc made pick) 34)) (.cells (ansE 0) 43);rw [show (w.alloc (.cells (opA 8 path tto off len da dl dc made pick) 34)).heap.size=w.heap.size + 1 by simp] at this;rw [hw1]
  exact this
 have HA:Hid (∀ W,Chg w1 W No→W.heap[w.heap.size + 1]? = some (.cells (ansE 0) 43 (0,0))):=hid (fun W hW=>hW.keep hA1 (fun e=>e))
 have hN:IsN w c x:=by
  obtain ⟨x',h1,h2⟩:=h.nd i c hqc;rw [hsx] at h1
  cases h1
  exact h2
 have hrg:=h.rng i (by rw [hqc];intro e;cases e);have hI:I64 i:=⟨by omega,by omega⟩;have c2:=(h.call hc1).c2;obtain ⟨fm,hfm⟩:∃ y,y=(fun i=>(q.nc i).map ptrN):=⟨_,rfl⟩;have HM:Hid (MapV w1 q.mb fm):=hid (by rw [hfm];exact (h.call hc1).mp);have HFi:Hid ((match fm i with | some v=>v | none=>Value.pointer none)=.pointer (some ⟨c.p,0,none⟩)):=hid (by rw [hfm];simp only [hqc,Option.map_some];rfl);have hDr:=isDirectory_any w1 (hN.call hc1);rw [decide_eq_true hk] at hDr;have q0:w1.cell? ⟨w.heap.size,0,none⟩=some (.int .i64 8):=(cell_of_row _ _ _ _ _ _ hO).trans rfl;have q3:w1.cell? ⟨w.heap.size,3,none⟩=some (.int .i64 off):=(cell_of_row _ _ _ _ _ _ hO).trans rfl;have q4:w1.cell? ⟨w.heap.size,4,none⟩=some (.int .i64 len):=(cell_of_row _ _ _ _ _ _ hO).trans rfl;have q5:w1.cell? ⟨w.heap.size,5,none⟩=some (.slice da dl dc):=(cell_of_row _ _ _ _ _ _ hO).trans rfl;have HC1:=hid hc1;have HA4:=hA1;unfold opA at hw1 ⊢;unfold ansE at hw1;have e1:=hw1;clear hcA hc1 hO hA1 h hqc hsx hk hfm hrg hN hw1
 go_enter Tryz.func27,Tryz.ntmps27
 go_upto_region 1 with fail
 rw [←e1];clear e1
 go_wp2_with (first
  | (at_lookup;go_must (refine wp_lookVN rfl _ _ rfl q.mb fm i _ HFi.out rfl rfl HM.out hI ?_))
  | (go_at_call 48;go_must (refine hDr.mono ?_;rintro e w2 ⟨rfl,rfl⟩))
  | (refine store_R rfl 43 _ _ rfl (w.heap.size + 1) #[.int .i64 102,.int .i64 0,.int .i64 0,.int .i64 0,.int .i64 0,.int .i64 0,.int .i64 0,.slice none 0 0,.slice none 0 0,.bool false] rfl rfl 43 _ HA4 (by rw [szAn];rfl) rfl (by simp [Value.oneCell']) ?_;intro w5 hw5)
  | fail)
 exact bodyPost_ret (v:=.agg #[.int .i64 102,.int .i64 0,.int .i64 0,.int .i64 0,.int .i64 0,.int .i64 0,.int .i64 0,.slice none 0 0,.slice none 0 0,.bool false]) (results_R1 Tryz.results27 _ _ (w.heap.size + 1) _ 43 _ Tryz.underlying43 rfl (by rw [szAn];rfl) rfl hw5.here) rfl ⟨rfl,HC1.out.trans (kt_new hw5) (fun _ _ e=>e) (fun j hj e=>by omega)⟩

set_option maxHeartbeats 2000000 in
set_option maxRecDepth 100000 in
theorem doAt_dirR {q:PC} {s:PSt} {c:NC} {x:Nd} (i:Int) (path tto:ByteArray) (off len:Int) (da:Option Addr) (dl dc:Nat) (made pick:Int) (w:World) (h:IsPl w q s) (hqc:q.nc i=some c) (hsx:s.nd i=some x) (hk:x.kind=2) :
  Calls Tryz.prog 27 #[.pointer (some ⟨q.p,0,none⟩),.int .i64 i,.agg (opA 9 path tto off len da dl dc made pick)] w fun e w'=>e=.returned (.agg (ansE 102))∧Chg w w' No:=by
 obtain ⟨w1,hw1⟩:∃ y,y=(w.alloc (.cells (opA 9 path tto off len da dl dc made pick) 34)).alloc (.cells (ansE 0) 43):=⟨_,rfl⟩;have hcA:Chg w (w.alloc (.cells (opA 9 path tto off len da dl dc made pick) 34)) No:=Chg.alloc w _ No
 have hc1:Chg w w1 No:=by rw [hw1];exact hcA.tr (Chg.alloc _ _ No)
 have hO:w1.heap[w.heap.size]? = some (.cells #[.int .i64 9,.string path,.string tto,.int .i64 off,.int .i64 len,.slice da dl dc,.int .i64 made,.int .i64 pick] 34 (0,0)):=by rw [hw1];exact (Chg.alloc _ _ No).keep (heap_alloc_new w _) (fun e=>e)
 have hA1:w1.heap[w.heap.size + 1]? = some (.cells (ansE 0) 43 (0,0)):=by
  have:=heap_alloc_new (w.alloc (.cells (opA 9 path tto off len da dl dc made pick) 34)) (.cells (ansE 0) 43);rw [show (w.alloc (.cells (opA 9 path tto off len da dl dc made pick) 34)).heap.size=w.heap.size + 1 by simp] at this;rw [hw1]
  exact this
 have HA:Hid (∀ W,Chg w1 W No→W.heap[w.heap.size + 1]? = some (.cells (ansE 0) 43 (0,0))):=hid (fun W hW=>hW.keep hA1 (fun e=>e))
 have hN:IsN w c x:=by
  obtain ⟨x',h1,h2⟩:=h.nd i c hqc;rw [hsx] at h1
  cases h1
  exact h2
 have hrg:=h.rng i (by rw [hqc];intro e;cases e);have hI:I64 i:=⟨by omega,by omega⟩;have c2:=(h.call hc1).c2;obtain ⟨fm,hfm⟩:∃ y,y=(fun i=>(q.nc i).map ptrN):=⟨_,rfl⟩;have HM:Hid (MapV w1 q.mb fm):=hid (by rw [hfm];exact (h.call hc1).mp);have HFi:Hid ((match fm i with | some v=>v | none=>Value.pointer none)=.pointer (some ⟨c.p,0,none⟩)):=hid (by rw [hfm];simp only [hqc,Option.map_some];rfl);have hDr:=isDirectory_any w1 (hN.call hc1);rw [decide_eq_true hk] at hDr;have q0:w1.cell? ⟨w.heap.size,0,none⟩=some (.int .i64 9):=(cell_of_row _ _ _ _ _ _ hO).trans rfl;have q3:w1.cell? ⟨w.heap.size,3,none⟩=some (.int .i64 off):=(cell_of_row _ _ _ _ _ _ hO).trans rfl;have q4:w1.cell? ⟨w.heap.size,4,none⟩=some (.int .i64 len):=(cell_of_row _ _ _ _ _ _ hO).trans rfl;have q5:w1.cell? ⟨w.heap.size,5,none⟩=some (.slice da dl dc):=(cell_of_row _ _ _ _ _ _ hO).trans rfl;have HC1:=hid hc1;have HA4:=hA1;unfold opA at hw1 ⊢;unfold ansE at hw1;have e1:=hw1;clear hcA hc1 hO hA1 h hqc hsx hk hfm hrg hN hw1
 go_enter Tryz.func27,Tryz.ntmps27
 go_upto_region 1 with fail
 rw [←e1];clear e1
 go_wp2_with (first
  | (at_lookup;go_must (refine wp_lookVN rfl _ _ rfl q.mb fm i _ HFi.out rfl rfl HM.out hI ?_))
  | (go_at_call 48;go_must (refine hDr.mono ?_;rintro e w2 ⟨rfl,rfl⟩))
  | (refine store_R rfl 43 _ _ rfl (w.heap.size + 1) #[.int .i64 102,.int .i64 0,.int .i64 0,.int .i64 0,.int .i64 0,.int .i64 0,.int .i64 0,.slice none 0 0,.slice none 0 0,.bool false] rfl rfl 43 _ HA4 (by rw [szAn];rfl) rfl (by simp [Value.oneCell']) ?_;intro w5 hw5)
  | fail)
 exact bodyPost_ret (v:=.agg #[.int .i64 102,.int .i64 0,.int .i64 0,.int .i64 0,.int .i64 0,.int .i64 0,.int .i64 0,.slice none 0 0,.slice none 0 0,.bool false]) (results_R1 Tryz.results27 _ _ (w.heap.size + 1) _ 43 _ Tryz.underlying43 rfl (by rw [szAn];rfl) rfl hw5.here) rfl ⟨rfl,HC1.out.trans (kt_new hw5) (fun _ _ e=>e) (fun j hj e=>by omega)⟩

set_option maxHeartbeats 2000000 in
set_option maxRecDepth 100000 in
theorem doAt_dirF {q:PC} {s:PSt} {c:NC} {x:Nd} (i:Int) (path tto:ByteArray) (off len:Int) (da:Option Addr) (dl dc:Nat) (made pick:Int) (w:World) (h:IsPl w q s) (hqc:q.nc i=some c) (hsx:s.nd i=some x) (hk:x.kind=2) :
  Calls Tryz.prog 27 #[.pointer (some ⟨q.p,0,none⟩),.int .i64 i,.agg (opA 13 path tto off len da dl dc made pick)] w fun e w'=>e=.returned (.agg (ansE 102))∧Chg w w' No:=by
 obtain ⟨w1,hw1⟩:∃ y,y=(w.alloc (.cells (opA 13 path tto off len da dl dc made pick) 34)).alloc (.cells (ansE 0) 43):=⟨_,rfl⟩;have hcA:Chg w (w.alloc (.cells (opA 13 path tto off len da dl dc made pick) 34)) No:=Chg.alloc w _ No
 have hc1:Chg w w1 No:=by rw [hw1];exact hcA.tr (Chg.alloc _ _ No)
 have hO:w1.heap[w.heap.size]? = some (.cells #[.int .i64 13,.string path,.string tto,.int .i64 off,.int .i64 len,.slice da dl dc,.int .i64 made,.int .i64 pick] 34 (0,0)):=by rw [hw1];exact (Chg.alloc _ _ No).keep (heap_alloc_new w _) (fun e=>e)
 have hA1:w1.heap[w.heap.size + 1]? = some (.cells (ansE 0) 43 (0,0)):=by
  have:=heap_alloc_new (w.alloc (.cells (opA 13 path tto off len da dl dc made pick) 34)) (.cells (ansE 0) 43);rw [show (w.alloc (.cells (opA 13 path tto off len da dl dc made pick) 34)).heap.size=w.heap.size + 1 by simp] at this;rw [hw1]
  exact this
 have HA:Hid (∀ W,Chg w1 W No→W.heap[w.heap.size + 1]? = some (.cells (ansE 0) 43 (0,0))):=hid (fun W hW=>hW.keep hA1 (fun e=>e))
 have hN:IsN w c x:=by
  obtain ⟨x',h1,h2⟩:=h.nd i c hqc;rw [hsx] at h1
  cases h1
  exact h2
 have hrg:=h.rng i (by rw [hqc];intro e;cases e);have hI:I64 i:=⟨by omega,by omega⟩;have c2:=(h.call hc1).c2;obtain ⟨fm,hfm⟩:∃ y,y=(fun i=>(q.nc i).map ptrN):=⟨_,rfl⟩;have HM:Hid (MapV w1 q.mb fm):=hid (by rw [hfm];exact (h.call hc1).mp);have HFi:Hid ((match fm i with | some v=>v | none=>Value.pointer none)=.pointer (some ⟨c.p,0,none⟩)):=hid (by rw [hfm];simp only [hqc,Option.map_some];rfl);have hDr:=isDirectory_any w1 (hN.call hc1);rw [decide_eq_true hk] at hDr;have q0:w1.cell? ⟨w.heap.size,0,none⟩=some (.int .i64 13):=(cell_of_row _ _ _ _ _ _ hO).trans rfl;have q3:w1.cell? ⟨w.heap.size,3,none⟩=some (.int .i64 off):=(cell_of_row _ _ _ _ _ _ hO).trans rfl;have q4:w1.cell? ⟨w.heap.size,4,none⟩=some (.int .i64 len):=(cell_of_row _ _ _ _ _ _ hO).trans rfl;have q5:w1.cell? ⟨w.heap.size,5,none⟩=some (.slice da dl dc):=(cell_of_row _ _ _ _ _ _ hO).trans rfl;have HC1:=hid hc1;have HA4:=hA1;unfold opA at hw1 ⊢;unfold ansE at hw1;have e1:=hw1;clear hcA hc1 hO hA1 h hqc hsx hk hfm hrg hN hw1
 go_enter Tryz.func27,Tryz.ntmps27
 go_upto_region 1 with fail
 rw [←e1];clear e1
 go_wp2_with (first
  | (at_lookup;go_must (refine wp_lookVN rfl _ _ rfl q.mb fm i _ HFi.out rfl rfl HM.out hI ?_))
  | (go_at_call 48;go_must (refine hDr.mono ?_;rintro e w2 ⟨rfl,rfl⟩))
  | (refine store_R rfl 43 _ _ rfl (w.heap.size + 1) #[.int .i64 102,.int .i64 0,.int .i64 0,.int .i64 0,.int .i64 0,.int .i64 0,.int .i64 0,.slice none 0 0,.slice none 0 0,.bool false] rfl rfl 43 _ HA4 (by rw [szAn];rfl) rfl (by simp [Value.oneCell']) ?_;intro w5 hw5)
  | fail)
 exact bodyPost_ret (v:=.agg #[.int .i64 102,.int .i64 0,.int .i64 0,.int .i64 0,.int .i64 0,.int .i64 0,.int .i64 0,.slice none 0 0,.slice none 0 0,.bool false]) (results_R1 Tryz.results27 _ _ (w.heap.size + 1) _ 43 _ Tryz.underlying43 rfl (by rw [szAn];rfl) rfl hw5.here) rfl ⟨rfl,HC1.out.trans (kt_new hw5) (fun _ _ e=>e) (fun j hj e=>by omega)⟩

set_option maxHeartbeats 2000000 in
set_option maxRecDepth 100000 in
theorem doAt_fsync {q:PC} {s:PSt} {c:NC} {x:Nd} (i:Int) (path tto:ByteArray) (off len:Int) (da:Option Addr) (dl dc:Nat) (made pick:Int) (w:World) (h:IsPl w q s) (hqc:q.nc i=some c) (hsx:s.nd i=some x) (hk : ¬ x.kind=2) :
  Calls Tryz.prog 27 #[.pointer (some ⟨q.p,0,none⟩),.int .i64 i,.agg (opA 13 path tto off len da dl dc made pick)] w fun e w'=>e=.returned (.agg (ansE 0))∧Chg w w' No:=by
 obtain ⟨w1,hw1⟩:∃ y,y=(w.alloc (.cells (opA 13 path tto off len da dl dc made pick) 34)).alloc (.cells (ansE 0) 43):=⟨_,rfl⟩;have hcA:Chg w (w.alloc (.cells (opA 13 path tto off len da dl dc made pick) 34)) No:=Chg.alloc w _ No
 have hc1:Chg w w1 No:=by rw [hw1];exact hcA.tr (Chg.alloc _ _ No)
 have hO:w1.heap[w.heap.size]? = some (.cells #[.int .i64 13,.string path,.string tto,.int .i64 off,.int .i64 len,.slice da dl dc,.int .i64 made,.int .i64 pick] 34 (0,0)):=by rw [hw1];exact (Chg.alloc _ _ No).keep (heap_alloc_new w _) (fun e=>e)
 have hA1:w1.heap[w.heap.size + 1]? = some (.cells (ansE 0) 43 (0,0)):=by
  have:=heap_alloc_new (w.alloc (.cells (opA 13 path tto off len da dl dc made pick) 34)) (.cells (ansE 0) 43);rw [show (w.alloc (.cells (opA 13 path tto off len da dl dc made pick) 34)).heap.size=w.heap.size + 1 by simp] at this;rw [hw1]
  exact this
 have HA:Hid (∀ W,Chg w1 W No→W.heap[w.heap.size + 1]? = some (.cells (ansE 0) 43 (0,0))):=hid (fun W hW=>hW.keep hA1 (fun e=>e))
 have hN:IsN w c x:=by
  obtain ⟨x',h1,h2⟩:=h.nd i c hqc;rw [hsx] at h1
  cases h1
  exact h2
 have hrg:=h.rng i (by rw [hqc];intro e;cases e);have hI:I64 i:=⟨by omega,by omega⟩;have c2:=(h.call hc1).c2;obtain ⟨fm,hfm⟩:∃ y,y=(fun i=>(q.nc i).map ptrN):=⟨_,rfl⟩;have HM:Hid (MapV w1 q.mb fm):=hid (by rw [hfm];exact (h.call hc1).mp);have HFi:Hid ((match fm i with | some v=>v | none=>Value.pointer none)=.pointer (some ⟨c.p,0,none⟩)):=hid (by rw [hfm];simp only [hqc,Option.map_some];rfl);have hDr:=isDirectory_any w1 (hN.call hc1);rw [decide_eq_false hk] at hDr;have q0:w1.cell? ⟨w.heap.size,0,none⟩=some (.int .i64 13):=(cell_of_row _ _ _ _ _ _ hO).trans rfl;have q3:w1.cell? ⟨w.heap.size,3,none⟩=some (.int .i64 off):=(cell_of_row _ _ _ _ _ _ hO).trans rfl;have q4:w1.cell? ⟨w.heap.size,4,none⟩=some (.int .i64 len):=(cell_of_row _ _ _ _ _ _ hO).trans rfl;have q5:w1.cell? ⟨w.heap.size,5,none⟩=some (.slice da dl dc):=(cell_of_row _ _ _ _ _ _ hO).trans rfl;have HC1:=hid hc1;have HA4:=hA1;unfold opA at hw1 ⊢;unfold ansE at hw1;have e1:=hw1;clear hcA hc1 hO hA1 h hqc hsx hk hfm hrg hN hw1
 go_enter Tryz.func27,Tryz.ntmps27
 go_upto_region 1 with fail
 rw [←e1];clear e1
 go_wp2_with (first
  | (at_lookup;go_must (refine wp_lookVN rfl _ _ rfl q.mb fm i _ HFi.out rfl rfl HM.out hI ?_))
  | (go_at_call 48;go_must (refine hDr.mono ?_;rintro e w2 ⟨rfl,rfl⟩))
  | (refine store_R rfl 43 _ _ rfl (w.heap.size + 1) #[.int .i64 0,.int .i64 0,.int .i64 0,.int .i64 0,.int .i64 0,.int .i64 0,.int .i64 0,.slice none 0 0,.slice none 0 0,.bool false] rfl rfl 43 _ HA4 (by rw [szAn];rfl) rfl (by simp [Value.oneCell']) ?_;intro w5 hw5)
  | fail)
 exact bodyPost_ret (v:=.agg #[.int .i64 0,.int .i64 0,.int .i64 0,.int .i64 0,.int .i64 0,.int .i64 0,.int .i64 0,.slice none 0 0,.slice none 0 0,.bool false]) (results_R1 Tryz.results27 _ _ (w.heap.size + 1) _ 43 _ Tryz.underlying43 rfl (by rw [szAn];rfl) rfl hw5.here) rfl ⟨rfl,HC1.out.trans (kt_new hw5) (fun _ _ e=>e) (fun j hj e=>by omega)⟩

set_option maxHeartbeats 2000000 in
set_option maxRecDepth 100000 in
theorem doAt_listF {q:PC} {s:PSt} {c:NC} {x:Nd} (i:Int) (path tto:ByteArray) (off len:Int) (da:Option Addr) (dl dc:Nat) (made pick:Int) (w:World) (h:IsPl w q s) (hqc:q.nc i=some c) (hsx:s.nd i=some x) (hk : ¬ x.kind=2) :
  Calls Tryz.prog 27 #[.pointer (some ⟨q.p,0,none⟩),.int .i64 i,.agg (opA 11 path tto off len da dl dc made pick)] w fun e w'=>e=.returned (.agg (ansE 113))∧Chg w w' No:=by
 obtain ⟨w1,hw1⟩:∃ y,y=(w.alloc (.cells (opA 11 path tto off len da dl dc made pick) 34)).alloc (.cells (ansE 0) 43):=⟨_,rfl⟩;have hcA:Chg w (w.alloc (.cells (opA 11 path tto off len da dl dc made pick) 34)) No:=Chg.alloc w _ No
 have hc1:Chg w w1 No:=by rw [hw1];exact hcA.tr (Chg.alloc _ _ No)
 have hO:w1.heap[w.heap.size]? = some (.cells #[.int .i64 11,.string path,.string tto,.int .i64 off,.int .i64 len,.slice da dl dc,.int .i64 made,.int .i64 pick] 34 (0,0)):=by rw [hw1];exact (Chg.alloc _ _ No).keep (heap_alloc_new w _) (fun e=>e)
 have hA1:w1.heap[w.heap.size + 1]? = some (.cells (ansE 0) 43 (0,0)):=by
  have:=heap_alloc_new (w.alloc (.cells (opA 11 path tto off len da dl dc made pick) 34)) (.cells (ansE 0) 43);rw [show (w.alloc (.cells (opA 11 path tto off len da dl dc made pick) 34)).heap.size=w.heap.size + 1 by simp] at this;rw [hw1]
  exact this
 have HA:Hid (∀ W,Chg w1 W No→W.heap[w.heap.size + 1]? = some (.cells (ansE 0) 43 (0,0))):=hid (fun W hW=>hW.keep hA1 (fun e=>e))
 have hN:IsN w c x:=by
  obtain ⟨x',h1,h2⟩:=h.nd i c hqc;rw [hsx] at h1
  cases h1
  exact h2
 have hrg:=h.rng i (by rw [hqc];intro e;cases e);have hI:I64 i:=⟨by omega,by omega⟩;have c2:=(h.call hc1).c2;obtain ⟨fm,hfm⟩:∃ y,y=(fun i=>(q.nc i).map ptrN):=⟨_,rfl⟩;have HM:Hid (MapV w1 q.mb fm):=hid (by rw [hfm];exact (h.call hc1).mp);have HFi:Hid ((match fm i with | some v=>v | none=>Value.pointer none)=.pointer (some ⟨c.p,0,none⟩)):=hid (by rw [hfm];simp only [hqc,Option.map_some];rfl);have hDr:=isDirectory_any w1 (hN.call hc1);rw [decide_eq_false hk] at hDr;have q0:w1.cell? ⟨w.heap.size,0,none⟩=some (.int .i64 11):=(cell_of_row _ _ _ _ _ _ hO).trans rfl;have q3:w1.cell? ⟨w.heap.size,3,none⟩=some (.int .i64 off):=(cell_of_row _ _ _ _ _ _ hO).trans rfl;have q4:w1.cell? ⟨w.heap.size,4,none⟩=some (.int .i64 len):=(cell_of_row _ _ _ _ _ _ hO).trans rfl;have q5:w1.cell? ⟨w.heap.size,5,none⟩=some (.slice da dl dc):=(cell_of_row _ _ _ _ _ _ hO).trans rfl;have HC1:=hid hc1;have HA4:=hA1;unfold opA at hw1 ⊢;unfold ansE at hw1;have e1:=hw1;clear hcA hc1 hO hA1 h hqc hsx hk hfm hrg hN hw1
 go_enter Tryz.func27,Tryz.ntmps27
 go_upto_region 1 with fail
 rw [←e1];clear e1
 go_wp2_with (first
  | (at_lookup;go_must (refine wp_lookVN rfl _ _ rfl q.mb fm i _ HFi.out rfl rfl HM.out hI ?_))
  | (go_at_call 48;go_must (refine hDr.mono ?_;rintro e w2 ⟨rfl,rfl⟩))
  | (refine store_R rfl 43 _ _ rfl (w.heap.size + 1) #[.int .i64 113,.int .i64 0,.int .i64 0,.int .i64 0,.int .i64 0,.int .i64 0,.int .i64 0,.slice none 0 0,.slice none 0 0,.bool false] rfl rfl 43 _ HA4 (by rw [szAn];rfl) rfl (by simp [Value.oneCell']) ?_;intro w5 hw5)
  | fail)
 exact bodyPost_ret (v:=.agg #[.int .i64 113,.int .i64 0,.int .i64 0,.int .i64 0,.int .i64 0,.int .i64 0,.int .i64 0,.slice none 0 0,.slice none 0 0,.bool false]) (results_R1 Tryz.results27 _ _ (w.heap.size + 1) _ 43 _ Tryz.underlying43 rfl (by rw [szAn];rfl) rfl hw5.here) rfl ⟨rfl,HC1.out.trans (kt_new hw5) (fun _ _ e=>e) (fun j hj e=>by omega)⟩

end Go.Proofs.YtmgfilacepnjlaaGreatDoor
