/-
 package plain: Do, where a path is walked and something is done there.
-/
import Derived.Test.YtmgfilacepnjlaaGreatDoorQA
namespace Go.Proofs.YtmgfilacepnjlaaGreatDoor
open Go.RowKit

set_option maxHeartbeats 2000000 in
set_option maxRecDepth 100000 in
theorem do_write {q : PC} (path tto : ByteArray) (off len : Int) (da : Option Addr) (dl dc : Nat) (made pick ii : Int) (w : World) (R : Array Value → World → Prop) (ks : Nat → Prop) (hks : ∀ k, ks k → k < w.heap.size) (hu : UB w) (hm : ML w) (hz : bits .andNot .i64 (givF path tto off len dl made pick) 21 = 0) (hm0 : 0 ≤ made) (hm1 : made ≤ 1099511627776) (hs : (splitR path.data.toList).2 = 0)
  (hWk : ∀ W a ls, Chg w W No → datas ls = (splitR path.data.toList).1 → LAt W a ls → Calls Tryz.prog 26 #[.pointer (some ⟨q.p, 0, none⟩), .slice a ls.length ls.length] W fun e w' => e = .returned (.tuple #[.int .i64 ii, .int .i64 0]) ∧ w' = W)
  (hM : ∀ W, Chg w W No → Calls Tryz.prog 27 #[.pointer (some ⟨q.p, 0, none⟩), .int .i64 ii, .agg (opA 7 path tto off len da dl dc made pick)] W fun e w' => ∃ A, e = .returned (.agg A) ∧ A.size = 10 ∧ A.all (·.oneCell') = true ∧ R A w' ∧ Chg W w' ks)
  (hR : ∀ A w1 w2 r o, R A w1 → w1.heap[w.heap.size + 1]? = some (.cells o 43 (0, 0)) → PutR w1 (w.heap.size + 1) r 43 w2 → R A w2) :
  Calls Tryz.prog 9 #[.pointer (some ⟨q.p, 0, none⟩), .agg (opA 7 path tto off len da dl dc made pick)] w fun e w' => ∃ A, e = .returned (.agg A) ∧ R A w' ∧ Chg w w' ks := by
 obtain ⟨w1, hw1⟩ : ∃ y, y = (w.alloc (.cells (opA 7 path tto off len da dl dc made pick) 34)).alloc (.cells (ansE 0) 43) := ⟨_, rfl⟩
 have hcA : Chg w (w.alloc (.cells (opA 7 path tto off len da dl dc made pick) 34)) No := Chg.alloc w _ No
 have hc1 : Chg w w1 No := by rw [hw1]; exact hcA.tr (Chg.alloc _ _ No)
 have HO : Hid (∀ W, Chg w1 W No → W.heap[w.heap.size]? = some (.cells #[.int .i64 7, .string path, .string tto, .int .i64 off, .int .i64 len, .slice da dl dc, .int .i64 made, .int .i64 pick] 34 (0, 0))) := hid (fun W hW => hW.keep (by rw [hw1]; exact (Chg.alloc _ _ No).keep (heap_alloc_new w _) (fun e => e)) (fun e => e))
 have hA1 : w1.heap[w.heap.size + 1]? = some (.cells (ansE 0) 43 (0, 0)) := by
  have := heap_alloc_new (w.alloc (.cells (opA 7 path tto off len da dl dc made pick) 34)) (.cells (ansE 0) 43)
  rw [show (w.alloc (.cells (opA 7 path tto off len da dl dc made pick) 34)).heap.size = w.heap.size + 1 by simp] at this
  rw [hw1]
  exact this
 have HA : Hid (∀ W ks', Chg w1 W ks' → (∀ k, ks' k → k < w.heap.size) → W.heap[w.heap.size + 1]? = some (.cells (ansE 0) 43 (0, 0))) := hid (fun W ks' hW hk => hW.keep hA1 (fun e => by have := hk _ e; omega))
 have hb1 : Below w.heap.size w w1 := by rw [hw1]; exact ((Below.refl _ w).alloc (Nat.le_refl _) _).alloc (by simp) _
 have HMb : Hid (∀ W, Chg w1 W No → Calls Tryz.prog 19 #[.agg #[.int .i64 7, .string path, .string tto, .int .i64 off, .int .i64 len, .slice da dl dc, .int .i64 made, .int .i64 pick]] W fun e w' => e = .returned (.bool true) ∧ Chg W w' No) := hid (fun W hW => mayBe_ok 7 path tto off len da dl dc made pick W ((hu.keep hc1 (fun e => e)).keep hW (fun e => e)) (by decide) (by decide) hz hm0 hm1)
 have hmk : ∀ W, Chg w1 W No → ML W := fun W hW => by
  obtain ⟨m, hc⟩ := hm.below hb1
  refine ⟨m, ?_⟩
  have hlt := World.block_lt_of_cell? _ _ hc
  unfold World.cell? at hc ⊢
  rw [hW.block _ hlt (fun e => e)]
  exact hc
 have HSp : Hid (∀ W, Chg w1 W No → Calls Tryz.prog 20 #[.agg #[.int .i64 7, .string path, .string tto, .int .i64 off, .int .i64 len, .slice da dl dc, .int .i64 made, .int .i64 pick]] W fun e w' => ∃ (a : Option Addr) (ls : List ByteArray), e = .returned (.tuple #[.slice a ls.length ls.length, .slice none 0 0, .int .i64 0]) ∧ datas ls = (splitR path.data.toList).1 ∧ LAt w' a ls ∧ Chg W w' No) := hid (fun W hW => splitO_any 7 path tto off len da dl dc made pick W ((hu.keep hc1 (fun e => e)).keep hW (fun e => e)) (hmk W hW) (by decide) (by decide) (by decide) hs)
 unfold opA at hM
 have HM := hid hM
 have HWk := hid hWk
 have HRr := hid hR
 have HKs := hid hks
 have HC1 := hid hc1
 unfold opA at hw1 ⊢
 unfold ansE at hw1
 have hB := HMb.out w1 (Chg.refl _ _)
 have HO1 := hid (HO.out w1 (Chg.refl _ _))
 obtain ⟨W1, hW1⟩ : ∃ y, y = w1 := ⟨_, rfl⟩
 rw [← hW1] at HO HA HMb HSp HC1 hB HO1
 have e1 := hW1.trans hw1
 clear hu hm hz hm0 hm1 hs hM hWk hR hks hcA hc1 hA1 hb1 hmk hw1 hW1
 go_enter Tryz.func9, Tryz.ntmps9
 go_upto_region 1 with fail
 rw [← e1]
 clear e1
 go_upto_region 3 with (first
  | (refine load_R rfl 34 _ rfl w.heap.size rfl 34 #[.int .i64 7, .string path, .string tto, .int .i64 off, .int .i64 len, .slice da dl dc, .int .i64 made, .int .i64 pick] _ HO1.out Tryz.underlying34 rfl (by rw [szOp]; rfl) ?_)
  | (go_at_call 19; go_must (refine hB.mono ?_; rintro e w2 ⟨rfl, hc2⟩; have HC2 := hid hc2; clear hc2))
  | fail)
 have hS := HSp.out w2 HC2.out
 have HO2 := hid (HO.out w2 HC2.out)
 clear hB
 go_upto_region 4 with (first
  | (refine load_R rfl 34 _ rfl w.heap.size rfl 34 #[.int .i64 7, .string path, .string tto, .int .i64 off, .int .i64 len, .slice da dl dc, .int .i64 made, .int .i64 pick] _ HO2.out Tryz.underlying34 rfl (by rw [szOp]; rfl) ?_)
  | (go_at_call 20; go_must (refine hS.mono ?_; rintro e w3 ⟨a, ls, rfl, hd3, hl3, hc3⟩; have HD3 := hid hd3; have HL3 := hid hl3; have HC3 := hid (HC2.out.tr hc3); clear hd3 hl3 hc3))
  | fail)
 have q0 : w3.cell? ⟨w.heap.size, 0, none⟩ = some (.int .i64 7) := (cell_of_row _ _ _ _ _ _ (HO.out w3 HC3.out)).trans rfl
 have hWl := HWk.out w3 a ls (HC1.out.tr HC3.out) HD3.out HL3.out
 have hMk := HM.out w3 (HC1.out.tr HC3.out)
 have HO3 := hid (HO.out w3 HC3.out)
 obtain ⟨n, hnn⟩ : ∃ y, y = ls.length := ⟨_, rfl⟩
 rw [← hnn] at hWl ⊢
 clear hS hnn
 go_wp2_with (first
  | (refine load_R rfl 34 _ rfl w.heap.size rfl 34 #[.int .i64 7, .string path, .string tto, .int .i64 off, .int .i64 len, .slice da dl dc, .int .i64 made, .int .i64 pick] _ HO3.out Tryz.underlying34 rfl (by rw [szOp]; rfl) ?_)
  | (go_at_call 26; go_must (refine hWl.mono ?_; rintro e w7 ⟨rfl, rfl⟩))
  | (go_at_call 27; go_must (refine hMk.mono ?_; rintro e w4 ⟨A, rfl, hAz, hAo, hRa, hc4⟩; have HAz := hid hAz; have HAo := hid hAo; have HRa := hid hRa; have HC4 := hid hc4; have HA4 := hid (HA.out w4 (fun k => ks k) (HC3.out.trans hc4 (fun _ _ e => e.elim) (fun _ _ e => e)) HKs.out); clear hAz hAo hRa hc4))
  | (refine store_R rfl 43 _ _ rfl (w.heap.size + 1) A rfl rfl 43 _ HA4.out (by rw [szAn, HAz.out]) (by rw [HAz.out]; rfl) HAo.out ?_; intro w5 hw5)
  | fail)
 exact bodyPost_ret (v := .agg A) (results_R1 Tryz.results9 _ _ (w.heap.size + 1) _ 43 _ Tryz.underlying43 rfl (by rw [szAn, HAz.out]) rfl hw5.here) rfl ⟨A, rfl, HRr.out A _ _ _ _ HRa.out HA4.out hw5, ((HC1.out.tr HC3.out).trans HC4.out (fun _ _ e => e.elim) (fun _ _ e => e)).trans (kt_new hw5) (fun _ _ e => e) (fun j hj e => by omega)⟩

set_option maxHeartbeats 2000000 in
set_option maxRecDepth 100000 in
theorem do_read {q : PC} (path tto : ByteArray) (off len : Int) (da : Option Addr) (dl dc : Nat) (made pick ii : Int) (w : World) (R : Array Value → World → Prop) (ks : Nat → Prop) (hks : ∀ k, ks k → k < w.heap.size) (hu : UB w) (hm : ML w) (hz : bits .andNot .i64 (givF path tto off len dl made pick) 13 = 0) (hm0 : 0 ≤ made) (hm1 : made ≤ 1099511627776) (hs : (splitR path.data.toList).2 = 0)
  (hWk : ∀ W a ls, Chg w W No → datas ls = (splitR path.data.toList).1 → LAt W a ls → Calls Tryz.prog 26 #[.pointer (some ⟨q.p, 0, none⟩), .slice a ls.length ls.length] W fun e w' => e = .returned (.tuple #[.int .i64 ii, .int .i64 0]) ∧ w' = W)
  (hM : ∀ W, Chg w W No → Calls Tryz.prog 27 #[.pointer (some ⟨q.p, 0, none⟩), .int .i64 ii, .agg (opA 9 path tto off len da dl dc made pick)] W fun e w' => ∃ A, e = .returned (.agg A) ∧ A.size = 10 ∧ A.all (·.oneCell') = true ∧ R A w' ∧ Chg W w' ks)
  (hR : ∀ A w1 w2 r o, R A w1 → w1.heap[w.heap.size + 1]? = some (.cells o 43 (0, 0)) → PutR w1 (w.heap.size + 1) r 43 w2 → R A w2) :
  Calls Tryz.prog 9 #[.pointer (some ⟨q.p, 0, none⟩), .agg (opA 9 path tto off len da dl dc made pick)] w fun e w' => ∃ A, e = .returned (.agg A) ∧ R A w' ∧ Chg w w' ks := by
 obtain ⟨w1, hw1⟩ : ∃ y, y = (w.alloc (.cells (opA 9 path tto off len da dl dc made pick) 34)).alloc (.cells (ansE 0) 43) := ⟨_, rfl⟩
 have hcA : Chg w (w.alloc (.cells (opA 9 path tto off len da dl dc made pick) 34)) No := Chg.alloc w _ No
 have hc1 : Chg w w1 No := by rw [hw1]; exact hcA.tr (Chg.alloc _ _ No)
 have HO : Hid (∀ W, Chg w1 W No → W.heap[w.heap.size]? = some (.cells #[.int .i64 9, .string path, .string tto, .int .i64 off, .int .i64 len, .slice da dl dc, .int .i64 made, .int .i64 pick] 34 (0, 0))) := hid (fun W hW => hW.keep (by rw [hw1]; exact (Chg.alloc _ _ No).keep (heap_alloc_new w _) (fun e => e)) (fun e => e))
 have hA1 : w1.heap[w.heap.size + 1]? = some (.cells (ansE 0) 43 (0, 0)) := by
  have := heap_alloc_new (w.alloc (.cells (opA 9 path tto off len da dl dc made pick) 34)) (.cells (ansE 0) 43)
  rw [show (w.alloc (.cells (opA 9 path tto off len da dl dc made pick) 34)).heap.size = w.heap.size + 1 by simp] at this
  rw [hw1]
  exact this
 have HA : Hid (∀ W ks', Chg w1 W ks' → (∀ k, ks' k → k < w.heap.size) → W.heap[w.heap.size + 1]? = some (.cells (ansE 0) 43 (0, 0))) := hid (fun W ks' hW hk => hW.keep hA1 (fun e => by have := hk _ e; omega))
 have hb1 : Below w.heap.size w w1 := by rw [hw1]; exact ((Below.refl _ w).alloc (Nat.le_refl _) _).alloc (by simp) _
 have HMb : Hid (∀ W, Chg w1 W No → Calls Tryz.prog 19 #[.agg #[.int .i64 9, .string path, .string tto, .int .i64 off, .int .i64 len, .slice da dl dc, .int .i64 made, .int .i64 pick]] W fun e w' => e = .returned (.bool true) ∧ Chg W w' No) := hid (fun W hW => mayBe_ok 9 path tto off len da dl dc made pick W ((hu.keep hc1 (fun e => e)).keep hW (fun e => e)) (by decide) (by decide) hz hm0 hm1)
 have hmk : ∀ W, Chg w1 W No → ML W := fun W hW => by
  obtain ⟨m, hc⟩ := hm.below hb1
  refine ⟨m, ?_⟩
  have hlt := World.block_lt_of_cell? _ _ hc
  unfold World.cell? at hc ⊢
  rw [hW.block _ hlt (fun e => e)]
  exact hc
 have HSp : Hid (∀ W, Chg w1 W No → Calls Tryz.prog 20 #[.agg #[.int .i64 9, .string path, .string tto, .int .i64 off, .int .i64 len, .slice da dl dc, .int .i64 made, .int .i64 pick]] W fun e w' => ∃ (a : Option Addr) (ls : List ByteArray), e = .returned (.tuple #[.slice a ls.length ls.length, .slice none 0 0, .int .i64 0]) ∧ datas ls = (splitR path.data.toList).1 ∧ LAt w' a ls ∧ Chg W w' No) := hid (fun W hW => splitO_any 9 path tto off len da dl dc made pick W ((hu.keep hc1 (fun e => e)).keep hW (fun e => e)) (hmk W hW) (by decide) (by decide) (by decide) hs)
 unfold opA at hM
 have HM := hid hM
 have HWk := hid hWk
 have HRr := hid hR
 have HKs := hid hks
 have HC1 := hid hc1
 unfold opA at hw1 ⊢
 unfold ansE at hw1
 have hB := HMb.out w1 (Chg.refl _ _)
 have HO1 := hid (HO.out w1 (Chg.refl _ _))
 obtain ⟨W1, hW1⟩ : ∃ y, y = w1 := ⟨_, rfl⟩
 rw [← hW1] at HO HA HMb HSp HC1 hB HO1
 have e1 := hW1.trans hw1
 clear hu hm hz hm0 hm1 hs hM hWk hR hks hcA hc1 hA1 hb1 hmk hw1 hW1
 go_enter Tryz.func9, Tryz.ntmps9
 go_upto_region 1 with fail
 rw [← e1]
 clear e1
 go_upto_region 3 with (first
  | (refine load_R rfl 34 _ rfl w.heap.size rfl 34 #[.int .i64 9, .string path, .string tto, .int .i64 off, .int .i64 len, .slice da dl dc, .int .i64 made, .int .i64 pick] _ HO1.out Tryz.underlying34 rfl (by rw [szOp]; rfl) ?_)
  | (go_at_call 19; go_must (refine hB.mono ?_; rintro e w2 ⟨rfl, hc2⟩; have HC2 := hid hc2; clear hc2))
  | fail)
 have hS := HSp.out w2 HC2.out
 have HO2 := hid (HO.out w2 HC2.out)
 clear hB
 go_upto_region 4 with (first
  | (refine load_R rfl 34 _ rfl w.heap.size rfl 34 #[.int .i64 9, .string path, .string tto, .int .i64 off, .int .i64 len, .slice da dl dc, .int .i64 made, .int .i64 pick] _ HO2.out Tryz.underlying34 rfl (by rw [szOp]; rfl) ?_)
  | (go_at_call 20; go_must (refine hS.mono ?_; rintro e w3 ⟨a, ls, rfl, hd3, hl3, hc3⟩; have HD3 := hid hd3; have HL3 := hid hl3; have HC3 := hid (HC2.out.tr hc3); clear hd3 hl3 hc3))
  | fail)
 have q0 : w3.cell? ⟨w.heap.size, 0, none⟩ = some (.int .i64 9) := (cell_of_row _ _ _ _ _ _ (HO.out w3 HC3.out)).trans rfl
 have hWl := HWk.out w3 a ls (HC1.out.tr HC3.out) HD3.out HL3.out
 have hMk := HM.out w3 (HC1.out.tr HC3.out)
 have HO3 := hid (HO.out w3 HC3.out)
 obtain ⟨n, hnn⟩ : ∃ y, y = ls.length := ⟨_, rfl⟩
 rw [← hnn] at hWl ⊢
 clear hS hnn
 go_wp2_with (first
  | (refine load_R rfl 34 _ rfl w.heap.size rfl 34 #[.int .i64 9, .string path, .string tto, .int .i64 off, .int .i64 len, .slice da dl dc, .int .i64 made, .int .i64 pick] _ HO3.out Tryz.underlying34 rfl (by rw [szOp]; rfl) ?_)
  | (go_at_call 26; go_must (refine hWl.mono ?_; rintro e w7 ⟨rfl, rfl⟩))
  | (go_at_call 27; go_must (refine hMk.mono ?_; rintro e w4 ⟨A, rfl, hAz, hAo, hRa, hc4⟩; have HAz := hid hAz; have HAo := hid hAo; have HRa := hid hRa; have HC4 := hid hc4; have HA4 := hid (HA.out w4 (fun k => ks k) (HC3.out.trans hc4 (fun _ _ e => e.elim) (fun _ _ e => e)) HKs.out); clear hAz hAo hRa hc4))
  | (refine store_R rfl 43 _ _ rfl (w.heap.size + 1) A rfl rfl 43 _ HA4.out (by rw [szAn, HAz.out]) (by rw [HAz.out]; rfl) HAo.out ?_; intro w5 hw5)
  | fail)
 exact bodyPost_ret (v := .agg A) (results_R1 Tryz.results9 _ _ (w.heap.size + 1) _ 43 _ Tryz.underlying43 rfl (by rw [szAn, HAz.out]) rfl hw5.here) rfl ⟨A, rfl, HRr.out A _ _ _ _ HRa.out HA4.out hw5, ((HC1.out.tr HC3.out).trans HC4.out (fun _ _ e => e.elim) (fun _ _ e => e)).trans (kt_new hw5) (fun _ _ e => e) (fun j hj e => by omega)⟩

set_option maxHeartbeats 2000000 in
set_option maxRecDepth 100000 in
theorem do_stat {q : PC} (path tto : ByteArray) (off len : Int) (da : Option Addr) (dl dc : Nat) (made pick ii : Int) (w : World) (R : Array Value → World → Prop) (ks : Nat → Prop) (hks : ∀ k, ks k → k < w.heap.size) (hu : UB w) (hm : ML w) (hz : bits .andNot .i64 (givF path tto off len dl made pick) 1 = 0) (hm0 : 0 ≤ made) (hm1 : made ≤ 1099511627776) (hs : (splitR path.data.toList).2 = 0)
  (hWk : ∀ W a ls, Chg w W No → datas ls = (splitR path.data.toList).1 → LAt W a ls → Calls Tryz.prog 26 #[.pointer (some ⟨q.p, 0, none⟩), .slice a ls.length ls.length] W fun e w' => e = .returned (.tuple #[.int .i64 ii, .int .i64 0]) ∧ w' = W)
  (hM : ∀ W, Chg w W No → Calls Tryz.prog 27 #[.pointer (some ⟨q.p, 0, none⟩), .int .i64 ii, .agg (opA 10 path tto off len da dl dc made pick)] W fun e w' => ∃ A, e = .returned (.agg A) ∧ A.size = 10 ∧ A.all (·.oneCell') = true ∧ R A w' ∧ Chg W w' ks)
  (hR : ∀ A w1 w2 r o, R A w1 → w1.heap[w.heap.size + 1]? = some (.cells o 43 (0, 0)) → PutR w1 (w.heap.size + 1) r 43 w2 → R A w2) :
  Calls Tryz.prog 9 #[.pointer (some ⟨q.p, 0, none⟩), .agg (opA 10 path tto off len da dl dc made pick)] w fun e w' => ∃ A, e = .returned (.agg A) ∧ R A w' ∧ Chg w w' ks := by
 obtain ⟨w1, hw1⟩ : ∃ y, y = (w.alloc (.cells (opA 10 path tto off len da dl dc made pick) 34)).alloc (.cells (ansE 0) 43) := ⟨_, rfl⟩
 have hcA : Chg w (w.alloc (.cells (opA 10 path tto off len da dl dc made pick) 34)) No := Chg.alloc w _ No
 have hc1 : Chg w w1 No := by rw [hw1]; exact hcA.tr (Chg.alloc _ _ No)
 have HO : Hid (∀ W, Chg w1 W No → W.heap[w.heap.size]? = some (.cells #[.int .i64 10, .string path, .string tto, .int .i64 off, .int .i64 len, .slice da dl dc, .int .i64 made, .int .i64 pick] 34 (0, 0))) := hid (fun W hW => hW.keep (by rw [hw1]; exact (Chg.alloc _ _ No).keep (heap_alloc_new w _) (fun e => e)) (fun e => e))
 have hA1 : w1.heap[w.heap.size + 1]? = some (.cells (ansE 0) 43 (0, 0)) := by
  have := heap_alloc_new (w.alloc (.cells (opA 10 path tto off len da dl dc made pick) 34)) (.cells (ansE 0) 43)
  rw [show (w.alloc (.cells (opA 10 path tto off len da dl dc made pick) 34)).heap.size = w.heap.size + 1 by simp] at this
  rw [hw1]
  exact this
 have HA : Hid (∀ W ks', Chg w1 W ks' → (∀ k, ks' k → k < w.heap.size) → W.heap[w.heap.size + 1]? = some (.cells (ansE 0) 43 (0, 0))) := hid (fun W ks' hW hk => hW.keep hA1 (fun e => by have := hk _ e; omega))
 have hb1 : Below w.heap.size w w1 := by rw [hw1]; exact ((Below.refl _ w).alloc (Nat.le_refl _) _).alloc (by simp) _
 have HMb : Hid (∀ W, Chg w1 W No → Calls Tryz.prog 19 #[.agg #[.int .i64 10, .string path, .string tto, .int .i64 off, .int .i64 len, .slice da dl dc, .int .i64 made, .int .i64 pick]] W fun e w' => e = .returned (.bool true) ∧ Chg W w' No) := hid (fun W hW => mayBe_ok 10 path tto off len da dl dc made pick W ((hu.keep hc1 (fun e => e)).keep hW (fun e => e)) (by decide) (by decide) hz hm0 hm1)
 have hmk : ∀ W, Chg w1 W No → ML W := fun W hW => by
  obtain ⟨m, hc⟩ := hm.below hb1
  refine ⟨m, ?_⟩
  have hlt := World.block_lt_of_cell? _ _ hc
  unfold World.cell? at hc ⊢
  rw [hW.block _ hlt (fun e => e)]
  exact hc
 have HSp : Hid (∀ W, Chg w1 W No → Calls Tryz.prog 20 #[.agg #[.int .i64 10, .string path, .string tto, .int .i64 off, .int .i64 len, .slice da dl dc, .int .i64 made, .int .i64 pick]] W fun e w' => ∃ (a : Option Addr) (ls : List ByteArray), e = .returned (.tuple #[.slice a ls.length ls.length, .slice none 0 0, .int .i64 0]) ∧ datas ls = (splitR path.data.toList).1 ∧ LAt w' a ls ∧ Chg W w' No) := hid (fun W hW => splitO_any 10 path tto off len da dl dc made pick W ((hu.keep hc1 (fun e => e)).keep hW (fun e => e)) (hmk W hW) (by decide) (by decide) (by decide) hs)
 unfold opA at hM
 have HM := hid hM
 have HWk := hid hWk
 have HRr := hid hR
 have HKs := hid hks
 have HC1 := hid hc1
 unfold opA at hw1 ⊢
 unfold ansE at hw1
 have hB := HMb.out w1 (Chg.refl _ _)
 have HO1 := hid (HO.out w1 (Chg.refl _ _))
 obtain ⟨W1, hW1⟩ : ∃ y, y = w1 := ⟨_, rfl⟩
 rw [← hW1] at HO HA HMb HSp HC1 hB HO1
 have e1 := hW1.trans hw1
 clear hu hm hz hm0 hm1 hs hM hWk hR hks hcA hc1 hA1 hb1 hmk hw1 hW1
 go_enter Tryz.func9, Tryz.ntmps9
 go_upto_region 1 with fail
 rw [← e1]
 clear e1
 go_upto_region 3 with (first
  | (refine load_R rfl 34 _ rfl w.heap.size rfl 34 #[.int .i64 10, .string path, .string tto, .int .i64 off, .int .i64 len, .slice da dl dc, .int .i64 made, .int .i64 pick] _ HO1.out Tryz.underlying34 rfl (by rw [szOp]; rfl) ?_)
  | (go_at_call 19; go_must (refine hB.mono ?_; rintro e w2 ⟨rfl, hc2⟩; have HC2 := hid hc2; clear hc2))
  | fail)
 have hS := HSp.out w2 HC2.out
 have HO2 := hid (HO.out w2 HC2.out)
 clear hB
 go_upto_region 4 with (first
  | (refine load_R rfl 34 _ rfl w.heap.size rfl 34 #[.int .i64 10, .string path, .string tto, .int .i64 off, .int .i64 len, .slice da dl dc, .int .i64 made, .int .i64 pick] _ HO2.out Tryz.underlying34 rfl (by rw [szOp]; rfl) ?_)
  | (go_at_call 20; go_must (refine hS.mono ?_; rintro e w3 ⟨a, ls, rfl, hd3, hl3, hc3⟩; have HD3 := hid hd3; have HL3 := hid hl3; have HC3 := hid (HC2.out.tr hc3); clear hd3 hl3 hc3))
  | fail)
 have q0 : w3.cell? ⟨w.heap.size, 0, none⟩ = some (.int .i64 10) := (cell_of_row _ _ _ _ _ _ (HO.out w3 HC3.out)).trans rfl
 have hWl := HWk.out w3 a ls (HC1.out.tr HC3.out) HD3.out HL3.out
 have hMk := HM.out w3 (HC1.out.tr HC3.out)
 have HO3 := hid (HO.out w3 HC3.out)
 obtain ⟨n, hnn⟩ : ∃ y, y = ls.length := ⟨_, rfl⟩
 rw [← hnn] at hWl ⊢
 clear hS hnn
 go_wp2_with (first
  | (refine load_R rfl 34 _ rfl w.heap.size rfl 34 #[.int .i64 10, .string path, .string tto, .int .i64 off, .int .i64 len, .slice da dl dc, .int .i64 made, .int .i64 pick] _ HO3.out Tryz.underlying34 rfl (by rw [szOp]; rfl) ?_)
  | (go_at_call 26; go_must (refine hWl.mono ?_; rintro e w7 ⟨rfl, rfl⟩))
  | (go_at_call 27; go_must (refine hMk.mono ?_; rintro e w4 ⟨A, rfl, hAz, hAo, hRa, hc4⟩; have HAz := hid hAz; have HAo := hid hAo; have HRa := hid hRa; have HC4 := hid hc4; have HA4 := hid (HA.out w4 (fun k => ks k) (HC3.out.trans hc4 (fun _ _ e => e.elim) (fun _ _ e => e)) HKs.out); clear hAz hAo hRa hc4))
  | (refine store_R rfl 43 _ _ rfl (w.heap.size + 1) A rfl rfl 43 _ HA4.out (by rw [szAn, HAz.out]) (by rw [HAz.out]; rfl) HAo.out ?_; intro w5 hw5)
  | fail)
 exact bodyPost_ret (v := .agg A) (results_R1 Tryz.results9 _ _ (w.heap.size + 1) _ 43 _ Tryz.underlying43 rfl (by rw [szAn, HAz.out]) rfl hw5.here) rfl ⟨A, rfl, HRr.out A _ _ _ _ HRa.out HA4.out hw5, ((HC1.out.tr HC3.out).trans HC4.out (fun _ _ e => e.elim) (fun _ _ e => e)).trans (kt_new hw5) (fun _ _ e => e) (fun j hj e => by omega)⟩

set_option maxHeartbeats 2000000 in
set_option maxRecDepth 100000 in
theorem do_list {q : PC} (path tto : ByteArray) (off len : Int) (da : Option Addr) (dl dc : Nat) (made pick ii : Int) (w : World) (R : Array Value → World → Prop) (ks : Nat → Prop) (hks : ∀ k, ks k → k < w.heap.size) (hu : UB w) (hm : ML w) (hz : bits .andNot .i64 (givF path tto off len dl made pick) 1 = 0) (hm0 : 0 ≤ made) (hm1 : made ≤ 1099511627776) (hs : (splitR path.data.toList).2 = 0)
  (hWk : ∀ W a ls, Chg w W No → datas ls = (splitR path.data.toList).1 → LAt W a ls → Calls Tryz.prog 26 #[.pointer (some ⟨q.p, 0, none⟩), .slice a ls.length ls.length] W fun e w' => e = .returned (.tuple #[.int .i64 ii, .int .i64 0]) ∧ w' = W)
  (hM : ∀ W, Chg w W No → Calls Tryz.prog 27 #[.pointer (some ⟨q.p, 0, none⟩), .int .i64 ii, .agg (opA 11 path tto off len da dl dc made pick)] W fun e w' => ∃ A, e = .returned (.agg A) ∧ A.size = 10 ∧ A.all (·.oneCell') = true ∧ R A w' ∧ Chg W w' ks)
  (hR : ∀ A w1 w2 r o, R A w1 → w1.heap[w.heap.size + 1]? = some (.cells o 43 (0, 0)) → PutR w1 (w.heap.size + 1) r 43 w2 → R A w2) :
  Calls Tryz.prog 9 #[.pointer (some ⟨q.p, 0, none⟩), .agg (opA 11 path tto off len da dl dc made pick)] w fun e w' => ∃ A, e = .returned (.agg A) ∧ R A w' ∧ Chg w w' ks := by
 obtain ⟨w1, hw1⟩ : ∃ y, y = (w.alloc (.cells (opA 11 path tto off len da dl dc made pick) 34)).alloc (.cells (ansE 0) 43) := ⟨_, rfl⟩
 have hcA : Chg w (w.alloc (.cells (opA 11 path tto off len da dl dc made pick) 34)) No := Chg.alloc w _ No
 have hc1 : Chg w w1 No := by rw [hw1]; exact hcA.tr (Chg.alloc _ _ No)
 have HO : Hid (∀ W, Chg w1 W No → W.heap[w.heap.size]? = some (.cells #[.int .i64 11, .string path, .string tto, .int .i64 off, .int .i64 len, .slice da dl dc, .int .i64 made, .int .i64 pick] 34 (0, 0))) := hid (fun W hW => hW.keep (by rw [hw1]; exact (Chg.alloc _ _ No).keep (heap_alloc_new w _) (fun e => e)) (fun e => e))
 have hA1 : w1.heap[w.heap.size + 1]? = some (.cells (ansE 0) 43 (0, 0)) := by
  have := heap_alloc_new (w.alloc (.cells (opA 11 path tto off len da dl dc made pick) 34)) (.cells (ansE 0) 43)
  rw [show (w.alloc (.cells (opA 11 path tto off len da dl dc made pick) 34)).heap.size = w.heap.size + 1 by simp] at this
  rw [hw1]
  exact this
 have HA : Hid (∀ W ks', Chg w1 W ks' → (∀ k, ks' k → k < w.heap.size) → W.heap[w.heap.size + 1]? = some (.cells (ansE 0) 43 (0, 0))) := hid (fun W ks' hW hk => hW.keep hA1 (fun e => by have := hk _ e; omega))
 have hb1 : Below w.heap.size w w1 := by rw [hw1]; exact ((Below.refl _ w).alloc (Nat.le_refl _) _).alloc (by simp) _
 have HMb : Hid (∀ W, Chg w1 W No → Calls Tryz.prog 19 #[.agg #[.int .i64 11, .string path, .string tto, .int .i64 off, .int .i64 len, .slice da dl dc, .int .i64 made, .int .i64 pick]] W fun e w' => e = .returned (.bool true) ∧ Chg W w' No) := hid (fun W hW => mayBe_ok 11 path tto off len da dl dc made pick W ((hu.keep hc1 (fun e => e)).keep hW (fun e => e)) (by decide) (by decide) hz hm0 hm1)
 have hmk : ∀ W, Chg w1 W No → ML W := fun W hW => by
  obtain ⟨m, hc⟩ := hm.below hb1
  refine ⟨m, ?_⟩
  have hlt := World.block_lt_of_cell? _ _ hc
  unfold World.cell? at hc ⊢
  rw [hW.block _ hlt (fun e => e)]
  exact hc
 have HSp : Hid (∀ W, Chg w1 W No → Calls Tryz.prog 20 #[.agg #[.int .i64 11, .string path, .string tto, .int .i64 off, .int .i64 len, .slice da dl dc, .int .i64 made, .int .i64 pick]] W fun e w' => ∃ (a : Option Addr) (ls : List ByteArray), e = .returned (.tuple #[.slice a ls.length ls.length, .slice none 0 0, .int .i64 0]) ∧ datas ls = (splitR path.data.toList).1 ∧ LAt w' a ls ∧ Chg W w' No) := hid (fun W hW => splitO_any 11 path tto off len da dl dc made pick W ((hu.keep hc1 (fun e => e)).keep hW (fun e => e)) (hmk W hW) (by decide) (by decide) (by decide) hs)
 unfold opA at hM
 have HM := hid hM
 have HWk := hid hWk
 have HRr := hid hR
 have HKs := hid hks
 have HC1 := hid hc1
 unfold opA at hw1 ⊢
 unfold ansE at hw1
 have hB := HMb.out w1 (Chg.refl _ _)
 have HO1 := hid (HO.out w1 (Chg.refl _ _))
 obtain ⟨W1, hW1⟩ : ∃ y, y = w1 := ⟨_, rfl⟩
 rw [← hW1] at HO HA HMb HSp HC1 hB HO1
 have e1 := hW1.trans hw1
 clear hu hm hz hm0 hm1 hs hM hWk hR hks hcA hc1 hA1 hb1 hmk hw1 hW1
 go_enter Tryz.func9, Tryz.ntmps9
 go_upto_region 1 with fail
 rw [← e1]
 clear e1
 go_upto_region 3 with (first
  | (refine load_R rfl 34 _ rfl w.heap.size rfl 34 #[.int .i64 11, .string path, .string tto, .int .i64 off, .int .i64 len, .slice da dl dc, .int .i64 made, .int .i64 pick] _ HO1.out Tryz.underlying34 rfl (by rw [szOp]; rfl) ?_)
  | (go_at_call 19; go_must (refine hB.mono ?_; rintro e w2 ⟨rfl, hc2⟩; have HC2 := hid hc2; clear hc2))
  | fail)
 have hS := HSp.out w2 HC2.out
 have HO2 := hid (HO.out w2 HC2.out)
 clear hB
 go_upto_region 4 with (first
  | (refine load_R rfl 34 _ rfl w.heap.size rfl 34 #[.int .i64 11, .string path, .string tto, .int .i64 off, .int .i64 len, .slice da dl dc, .int .i64 made, .int .i64 pick] _ HO2.out Tryz.underlying34 rfl (by rw [szOp]; rfl) ?_)
  | (go_at_call 20; go_must (refine hS.mono ?_; rintro e w3 ⟨a, ls, rfl, hd3, hl3, hc3⟩; have HD3 := hid hd3; have HL3 := hid hl3; have HC3 := hid (HC2.out.tr hc3); clear hd3 hl3 hc3))
  | fail)
 have q0 : w3.cell? ⟨w.heap.size, 0, none⟩ = some (.int .i64 11) := (cell_of_row _ _ _ _ _ _ (HO.out w3 HC3.out)).trans rfl
 have hWl := HWk.out w3 a ls (HC1.out.tr HC3.out) HD3.out HL3.out
 have hMk := HM.out w3 (HC1.out.tr HC3.out)
 have HO3 := hid (HO.out w3 HC3.out)
 obtain ⟨n, hnn⟩ : ∃ y, y = ls.length := ⟨_, rfl⟩
 rw [← hnn] at hWl ⊢
 clear hS hnn
 go_wp2_with (first
  | (refine load_R rfl 34 _ rfl w.heap.size rfl 34 #[.int .i64 11, .string path, .string tto, .int .i64 off, .int .i64 len, .slice da dl dc, .int .i64 made, .int .i64 pick] _ HO3.out Tryz.underlying34 rfl (by rw [szOp]; rfl) ?_)
  | (go_at_call 26; go_must (refine hWl.mono ?_; rintro e w7 ⟨rfl, rfl⟩))
  | (go_at_call 27; go_must (refine hMk.mono ?_; rintro e w4 ⟨A, rfl, hAz, hAo, hRa, hc4⟩; have HAz := hid hAz; have HAo := hid hAo; have HRa := hid hRa; have HC4 := hid hc4; have HA4 := hid (HA.out w4 (fun k => ks k) (HC3.out.trans hc4 (fun _ _ e => e.elim) (fun _ _ e => e)) HKs.out); clear hAz hAo hRa hc4))
  | (refine store_R rfl 43 _ _ rfl (w.heap.size + 1) A rfl rfl 43 _ HA4.out (by rw [szAn, HAz.out]) (by rw [HAz.out]; rfl) HAo.out ?_; intro w5 hw5)
  | fail)
 exact bodyPost_ret (v := .agg A) (results_R1 Tryz.results9 _ _ (w.heap.size + 1) _ 43 _ Tryz.underlying43 rfl (by rw [szAn, HAz.out]) rfl hw5.here) rfl ⟨A, rfl, HRr.out A _ _ _ _ HRa.out HA4.out hw5, ((HC1.out.tr HC3.out).trans HC4.out (fun _ _ e => e.elim) (fun _ _ e => e)).trans (kt_new hw5) (fun _ _ e => e) (fun j hj e => by omega)⟩
end Go.Proofs.YtmgfilacepnjlaaGreatDoor
