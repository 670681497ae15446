/-
 package plain: helpers for bytes that are laid into a file.
-/
import Derived.Test.YtmgfilacepnjlaaGreatDoorPO
import Derived.Laws.CopyRow
namespace Go.Proofs.YtmgfilacepnjlaaGreatDoor
open Go.RowKit

set_option maxHeartbeats 2000000 in
set_option maxRecDepth 100000 in
theorem do_create {q : PC} (path tto : ByteArray) (off len : Int) (da : Option Addr) (dl dc : Nat) (made pick : Int) (w : World) (R : Array Value → World → Prop) (ks : Nat → Prop) (hks : ∀ k, ks k → k < w.heap.size) (hu : UB w) (hm : ML w) (hz : bits .andNot .i64 (givF path tto off len dl made pick) 33 = 0) (hm0 : 0 ≤ made) (hm1 : made ≤ 1099511627776) (hs : (splitR path.data.toList).2 = 0)
  (hM : ∀ W a ls, Chg w W No → datas ls = (splitR path.data.toList).1 → LAt W a ls → Calls Tryz.prog 21 #[.pointer (some ⟨q.p, 0, none⟩), .slice a ls.length ls.length, .int .i64 1, .int .i64 made] W fun e w' => ∃ A, e = .returned (.agg A) ∧ A.size = 10 ∧ A.all (·.oneCell') = true ∧ R A w' ∧ Chg W w' ks)
  (hR : ∀ A w1 w2 r o, R A w1 → w1.heap[w.heap.size + 1]? = some (.cells o 43 (0, 0)) → PutR w1 (w.heap.size + 1) r 43 w2 → R A w2) :
  Calls Tryz.prog 9 #[.pointer (some ⟨q.p, 0, none⟩), .agg (opA 1 path tto off len da dl dc made pick)] w fun e w' => ∃ A, e = .returned (.agg A) ∧ R A w' ∧ Chg w w' ks := by
 obtain ⟨w1, hw1⟩ : ∃ y, y = (w.alloc (.cells (opA 1 path tto off len da dl dc made pick) 34)).alloc (.cells (ansE 0) 43) := ⟨_, rfl⟩
 have hcA : Chg w (w.alloc (.cells (opA 1 path tto off len da dl dc made pick) 34)) No := Chg.alloc w _ No
 have hc1 : Chg w w1 No := by rw [hw1]; exact hcA.tr (Chg.alloc _ _ No)
 have HO : Hid (∀ W, Chg w1 W No → W.heap[w.heap.size]? = some (.cells #[.int .i64 1, .string path, .string tto, .int .i64 off, .int .i64 len, .slice da dl dc, .int .i64 made, .int .i64 pick] 34 (0, 0))) := hid (fun W hW => hW.keep (by rw [hw1]; exact (Chg.alloc _ _ No).keep (heap_alloc_new w _) (fun e => e)) (fun e => e))
 have hA1 : w1.heap[w.heap.size + 1]? = some (.cells (ansE 0) 43 (0, 0)) := by
  have := heap_alloc_new (w.alloc (.cells (opA 1 path tto off len da dl dc made pick) 34)) (.cells (ansE 0) 43)
  rw [show (w.alloc (.cells (opA 1 path tto off len da dl dc made pick) 34)).heap.size = w.heap.size + 1 by simp] at this
  rw [hw1]
  exact this
 have HA : Hid (∀ W ks', Chg w1 W ks' → (∀ k, ks' k → k < w.heap.size) → W.heap[w.heap.size + 1]? = some (.cells (ansE 0) 43 (0, 0))) := hid (fun W ks' hW hk => hW.keep hA1 (fun e => by have := hk _ e; omega))
 have hb1 : Below w.heap.size w w1 := by rw [hw1]; exact ((Below.refl _ w).alloc (Nat.le_refl _) _).alloc (by simp) _
 have HMb : Hid (∀ W, Chg w1 W No → Calls Tryz.prog 19 #[.agg #[.int .i64 1, .string path, .string tto, .int .i64 off, .int .i64 len, .slice da dl dc, .int .i64 made, .int .i64 pick]] W fun e w' => e = .returned (.bool true) ∧ Chg W w' No) := hid (fun W hW => mayBe_ok 1 path tto off len da dl dc made pick W ((hu.keep hc1 (fun e => e)).keep hW (fun e => e)) (by decide) (by decide) hz hm0 hm1)
 have hmk : ∀ W, Chg w1 W No → ML W := fun W hW => by
  obtain ⟨m, hc⟩ := hm.below hb1
  refine ⟨m, ?_⟩
  have hlt := World.block_lt_of_cell? _ _ hc
  unfold World.cell? at hc ⊢
  rw [hW.block _ hlt (fun e => e)]
  exact hc
 have HSp : Hid (∀ W, Chg w1 W No → Calls Tryz.prog 20 #[.agg #[.int .i64 1, .string path, .string tto, .int .i64 off, .int .i64 len, .slice da dl dc, .int .i64 made, .int .i64 pick]] W fun e w' => ∃ (a : Option Addr) (ls : List ByteArray), e = .returned (.tuple #[.slice a ls.length ls.length, .slice none 0 0, .int .i64 0]) ∧ datas ls = (splitR path.data.toList).1 ∧ LAt w' a ls ∧ Chg W w' No) := hid (fun W hW => splitO_any 1 path tto off len da dl dc made pick W ((hu.keep hc1 (fun e => e)).keep hW (fun e => e)) (hmk W hW) (by decide) (by decide) (by decide) hs)
 have HM := hid hM
 have HRr := hid hR
 have HKs := hid hks
 have HC1 := hid hc1
 unfold opA at hw1 ⊢
 unfold ansE at hw1
 have hB := HMb.out w1 (Chg.refl _ _)
 have HO1 := hid (HO.out w1 (Chg.refl _ _))
 obtain ⟨W1, hW1⟩ : ∃ y, y = w1 := ⟨_, rfl⟩
 rw [← hW1] at HO HA HMb HSp HC1 hB HO1
 have e1 := hW1.trans hw1
 clear hu hm hz hm0 hm1 hs hM hR hks hcA hc1 hA1 hb1 hmk hw1 hW1
 go_enter Tryz.func9, Tryz.ntmps9
 go_upto_region 1 with fail
 rw [← e1]
 clear e1
 go_upto_region 3 with (first
  | (refine load_R rfl 34 _ rfl w.heap.size rfl 34 #[.int .i64 1, .string path, .string tto, .int .i64 off, .int .i64 len, .slice da dl dc, .int .i64 made, .int .i64 pick] _ HO1.out Tryz.underlying34 rfl (by rw [szOp]; rfl) ?_)
  | (go_at_call 19; go_must (refine hB.mono ?_; rintro e w2 ⟨rfl, hc2⟩; have HC2 := hid hc2; clear hc2))
  | fail)
 have hS := HSp.out w2 HC2.out
 have HO2 := hid (HO.out w2 HC2.out)
 clear hB
 go_upto_region 4 with (first
  | (refine load_R rfl 34 _ rfl w.heap.size rfl 34 #[.int .i64 1, .string path, .string tto, .int .i64 off, .int .i64 len, .slice da dl dc, .int .i64 made, .int .i64 pick] _ HO2.out Tryz.underlying34 rfl (by rw [szOp]; rfl) ?_)
  | (go_at_call 20; go_must (refine hS.mono ?_; rintro e w3 ⟨a, ls, rfl, hd3, hl3, hc3⟩; have HD3 := hid hd3; have HL3 := hid hl3; have HC3 := hid (HC2.out.tr hc3); clear hd3 hl3 hc3))
  | fail)
 have q0 : w3.cell? ⟨w.heap.size, 0, none⟩ = some (.int .i64 1) := (cell_of_row _ _ _ _ _ _ (HO.out w3 HC3.out)).trans rfl
 have q6 : w3.cell? ⟨w.heap.size, 6, none⟩ = some (.int .i64 made) := (cell_of_row _ _ _ _ _ _ (HO.out w3 HC3.out)).trans rfl
 have hMk := HM.out w3 a ls (HC1.out.tr HC3.out) HD3.out HL3.out
 obtain ⟨n, hnn⟩ : ∃ y, y = ls.length := ⟨_, rfl⟩
 rw [← hnn] at hMk ⊢
 clear hS hnn
 go_wp2_with (first
  | (go_at_call 21; go_must (refine hMk.mono ?_; rintro e w4 ⟨A, rfl, hAz, hAo, hRa, hc4⟩; have HAz := hid hAz; have HAo := hid hAo; have HRa := hid hRa; have HC4 := hid hc4; have HA4 := hid (HA.out w4 (fun k => ks k) (HC3.out.trans hc4 (fun _ _ e => e.elim) (fun _ _ e => e)) HKs.out); clear hAz hAo hRa hc4))
  | (refine store_R rfl 43 _ _ rfl (w.heap.size + 1) A rfl rfl 43 _ HA4.out (by rw [szAn, HAz.out]) (by rw [HAz.out]; rfl) HAo.out ?_; intro w5 hw5)
  | fail)
 exact bodyPost_ret (v := .agg A) (results_R1 Tryz.results9 _ _ (w.heap.size + 1) _ 43 _ Tryz.underlying43 rfl (by rw [szAn, HAz.out]) rfl hw5.here) rfl ⟨A, rfl, HRr.out A _ _ _ _ HRa.out HA4.out hw5, ((HC1.out.tr HC3.out).trans HC4.out (fun _ _ e => e.elim) (fun _ _ e => e)).trans (kt_new hw5) (fun _ _ e => e) (fun j hj e => by omega)⟩

set_option maxHeartbeats 2000000 in
set_option maxRecDepth 100000 in
theorem do_mkdir {q : PC} (path tto : ByteArray) (off len : Int) (da : Option Addr) (dl dc : Nat) (made pick : Int) (w : World) (R : Array Value → World → Prop) (ks : Nat → Prop) (hks : ∀ k, ks k → k < w.heap.size) (hu : UB w) (hm : ML w) (hz : bits .andNot .i64 (givF path tto off len dl made pick) 33 = 0) (hm0 : 0 ≤ made) (hm1 : made ≤ 1099511627776) (hs : (splitR path.data.toList).2 = 0)
  (hM : ∀ W a ls, Chg w W No → datas ls = (splitR path.data.toList).1 → LAt W a ls → Calls Tryz.prog 21 #[.pointer (some ⟨q.p, 0, none⟩), .slice a ls.length ls.length, .int .i64 2, .int .i64 made] W fun e w' => ∃ A, e = .returned (.agg A) ∧ A.size = 10 ∧ A.all (·.oneCell') = true ∧ R A w' ∧ Chg W w' ks)
  (hR : ∀ A w1 w2 r o, R A w1 → w1.heap[w.heap.size + 1]? = some (.cells o 43 (0, 0)) → PutR w1 (w.heap.size + 1) r 43 w2 → R A w2) :
  Calls Tryz.prog 9 #[.pointer (some ⟨q.p, 0, none⟩), .agg (opA 2 path tto off len da dl dc made pick)] w fun e w' => ∃ A, e = .returned (.agg A) ∧ R A w' ∧ Chg w w' ks := by
 obtain ⟨w1, hw1⟩ : ∃ y, y = (w.alloc (.cells (opA 2 path tto off len da dl dc made pick) 34)).alloc (.cells (ansE 0) 43) := ⟨_, rfl⟩
 have hcA : Chg w (w.alloc (.cells (opA 2 path tto off len da dl dc made pick) 34)) No := Chg.alloc w _ No
 have hc1 : Chg w w1 No := by rw [hw1]; exact hcA.tr (Chg.alloc _ _ No)
 have HO : Hid (∀ W, Chg w1 W No → W.heap[w.heap.size]? = some (.cells #[.int .i64 2, .string path, .string tto, .int .i64 off, .int .i64 len, .slice da dl dc, .int .i64 made, .int .i64 pick] 34 (0, 0))) := hid (fun W hW => hW.keep (by rw [hw1]; exact (Chg.alloc _ _ No).keep (heap_alloc_new w _) (fun e => e)) (fun e => e))
 have hA1 : w1.heap[w.heap.size + 1]? = some (.cells (ansE 0) 43 (0, 0)) := by
  have := heap_alloc_new (w.alloc (.cells (opA 2 path tto off len da dl dc made pick) 34)) (.cells (ansE 0) 43)
  rw [show (w.alloc (.cells (opA 2 path tto off len da dl dc made pick) 34)).heap.size = w.heap.size + 1 by simp] at this
  rw [hw1]
  exact this
 have HA : Hid (∀ W ks', Chg w1 W ks' → (∀ k, ks' k → k < w.heap.size) → W.heap[w.heap.size + 1]? = some (.cells (ansE 0) 43 (0, 0))) := hid (fun W ks' hW hk => hW.keep hA1 (fun e => by have := hk _ e; omega))
 have hb1 : Below w.heap.size w w1 := by rw [hw1]; exact ((Below.refl _ w).alloc (Nat.le_refl _) _).alloc (by simp) _
 have HMb : Hid (∀ W, Chg w1 W No → Calls Tryz.prog 19 #[.agg #[.int .i64 2, .string path, .string tto, .int .i64 off, .int .i64 len, .slice da dl dc, .int .i64 made, .int .i64 pick]] W fun e w' => e = .returned (.bool true) ∧ Chg W w' No) := hid (fun W hW => mayBe_ok 2 path tto off len da dl dc made pick W ((hu.keep hc1 (fun e => e)).keep hW (fun e => e)) (by decide) (by decide) hz hm0 hm1)
 have hmk : ∀ W, Chg w1 W No → ML W := fun W hW => by
  obtain ⟨m, hc⟩ := hm.below hb1
  refine ⟨m, ?_⟩
  have hlt := World.block_lt_of_cell? _ _ hc
  unfold World.cell? at hc ⊢
  rw [hW.block _ hlt (fun e => e)]
  exact hc
 have HSp : Hid (∀ W, Chg w1 W No → Calls Tryz.prog 20 #[.agg #[.int .i64 2, .string path, .string tto, .int .i64 off, .int .i64 len, .slice da dl dc, .int .i64 made, .int .i64 pick]] W fun e w' => ∃ (a : Option Addr) (ls : List ByteArray), e = .returned (.tuple #[.slice a ls.length ls.length, .slice none 0 0, .int .i64 0]) ∧ datas ls = (splitR path.data.toList).1 ∧ LAt w' a ls ∧ Chg W w' No) := hid (fun W hW => splitO_any 2 path tto off len da dl dc made pick W ((hu.keep hc1 (fun e => e)).keep hW (fun e => e)) (hmk W hW) (by decide) (by decide) (by decide) hs)
 have HM := hid hM
 have HRr := hid hR
 have HKs := hid hks
 have HC1 := hid hc1
 unfold opA at hw1 ⊢
 unfold ansE at hw1
 have hB := HMb.out w1 (Chg.refl _ _)
 have HO1 := hid (HO.out w1 (Chg.refl _ _))
 obtain ⟨W1, hW1⟩ : ∃ y, y = w1 := ⟨_, rfl⟩
 rw [← hW1] at HO HA HMb HSp HC1 hB HO1
 have e1 := hW1.trans hw1
 clear hu hm hz hm0 hm1 hs hM hR hks hcA hc1 hA1 hb1 hmk hw1 hW1
 go_enter Tryz.func9, Tryz.ntmps9
 go_upto_region 1 with fail
 rw [← e1]
 clear e1
 go_upto_region 3 with (first
  | (refine load_R rfl 34 _ rfl w.heap.size rfl 34 #[.int .i64 2, .string path, .string tto, .int .i64 off, .int .i64 len, .slice da dl dc, .int .i64 made, .int .i64 pick] _ HO1.out Tryz.underlying34 rfl (by rw [szOp]; rfl) ?_)
  | (go_at_call 19; go_must (refine hB.mono ?_; rintro e w2 ⟨rfl, hc2⟩; have HC2 := hid hc2; clear hc2))
  | fail)
 have hS := HSp.out w2 HC2.out
 have HO2 := hid (HO.out w2 HC2.out)
 clear hB
 go_upto_region 4 with (first
  | (refine load_R rfl 34 _ rfl w.heap.size rfl 34 #[.int .i64 2, .string path, .string tto, .int .i64 off, .int .i64 len, .slice da dl dc, .int .i64 made, .int .i64 pick] _ HO2.out Tryz.underlying34 rfl (by rw [szOp]; rfl) ?_)
  | (go_at_call 20; go_must (refine hS.mono ?_; rintro e w3 ⟨a, ls, rfl, hd3, hl3, hc3⟩; have HD3 := hid hd3; have HL3 := hid hl3; have HC3 := hid (HC2.out.tr hc3); clear hd3 hl3 hc3))
  | fail)
 have q0 : w3.cell? ⟨w.heap.size, 0, none⟩ = some (.int .i64 2) := (cell_of_row _ _ _ _ _ _ (HO.out w3 HC3.out)).trans rfl
 have q6 : w3.cell? ⟨w.heap.size, 6, none⟩ = some (.int .i64 made) := (cell_of_row _ _ _ _ _ _ (HO.out w3 HC3.out)).trans rfl
 have hMk := HM.out w3 a ls (HC1.out.tr HC3.out) HD3.out HL3.out
 obtain ⟨n, hnn⟩ : ∃ y, y = ls.length := ⟨_, rfl⟩
 rw [← hnn] at hMk ⊢
 clear hS hnn
 go_wp2_with (first
  | (go_at_call 21; go_must (refine hMk.mono ?_; rintro e w4 ⟨A, rfl, hAz, hAo, hRa, hc4⟩; have HAz := hid hAz; have HAo := hid hAo; have HRa := hid hRa; have HC4 := hid hc4; have HA4 := hid (HA.out w4 (fun k => ks k) (HC3.out.trans hc4 (fun _ _ e => e.elim) (fun _ _ e => e)) HKs.out); clear hAz hAo hRa hc4))
  | (refine store_R rfl 43 _ _ rfl (w.heap.size + 1) A rfl rfl 43 _ HA4.out (by rw [szAn, HAz.out]) (by rw [HAz.out]; rfl) HAo.out ?_; intro w5 hw5)
  | fail)
 exact bodyPost_ret (v := .agg A) (results_R1 Tryz.results9 _ _ (w.heap.size + 1) _ 43 _ Tryz.underlying43 rfl (by rw [szAn, HAz.out]) rfl hw5.here) rfl ⟨A, rfl, HRr.out A _ _ _ _ HRa.out HA4.out hw5, ((HC1.out.tr HC3.out).trans HC4.out (fun _ _ e => e.elim) (fun _ _ e => e)).trans (kt_new hw5) (fun _ _ e => e) (fun j hj e => by omega)⟩
end Go.Proofs.YtmgfilacepnjlaaGreatDoor

namespace Go.Proofs.YtmgfilacepnjlaaGreatDoor
open Go.RowKit

theorem szSec : (Tryz.prog.info? 131).map (·.size) = some 128 := by kernel_rfl
theorem sz5 : (Tryz.prog.info? 5).map (·.size) = some 1 := by kernel_rfl
theorem SA_size (l : List Int) : (SA l).size = l.length := by simp [SA]
theorem SA_one (l : List Int) : (SA l).all (·.oneCell') = true := by simp [SA, Value.oneCell']
section
variable {ops : Array Oper} {Q : Exit → Act → World → Prop} {S : World → Prop} {fuel : Nat} {listed : Array Bool} {a : Act} {w : World}
theorem stCopy (i d : Nat) (x y : Operand) (g off dLen dCap : Nat) (ad : Addr) (sLen sCap : Nat) (cur : Array Value) (t : TypeId) (cs : List Value) {o : Oper} (hop : ops[i]? = some o) (hd : o.dst = some d) (hw : Region.wanted o (yielded ops a.tmps) = true)
  (ho : o.op = .call { callee := .builtin .copy, args := #[x, y], argTypes := #[32, 32] }) (hx : a.eval x = .slice (some ⟨g, off, none⟩) dLen dCap) (hy : a.eval y = .slice (some ad) sLen sCap)
  (hg : w.heap[g]? = some (.cells cur t (0, 0))) (hn : cs.length = Nat.min sLen dLen) (hsrc : ∀ j v, cs[j]? = some v → w.cell? (ad.add j) = some v) (hfit : off + cs.length ≤ cur.size) (h1 : ∀ v ∈ cs, v.oneCell' = true)
  (h : ∀ w', PutR w g (cur.toList.take off ++ cs ++ cur.toList.drop (off + cs.length)).toArray t w' → S w' ∧ wpAnyH Tryz.prog .any ops Q S fuel (listed.setIfInBounds i true) { a with tmps := a.tmps.setIfInBounds d (goInt cs.length) } w') : St ops Q S fuel listed a w i := by
 have hrun := run_copy_row (P := Tryz.prog) w 32 32 o.type 5 g off dLen dCap ad sLen sCap cur t cs Tryz.underlying32 sz5 hg hn hsrc hfit h1
 have hh := h _ (putR_setRow _ hg)
 refine wpOp_step hop (fun K hK => ?_)
 rw [if_pos hw]
 unfold Oper.wp
 simp [execOp, ho, resolve, invoke, builtin, hx, hy, hrun, Result.andThen]
 refine hK _ _ ?_
 unfold Act.put
 rw [hd]
 simpa using hh
theorem stPutB (i : Nat) (m x v : Operand) (b : Nat) (f : Int → Option Value) (k : Int) (d : Value) {o : Oper} (hop : ops[i]? = some o) (hd : o.dst = none) (hw : Region.wanted o (yielded ops a.tmps) = true) (ho : o.op = Op.mapUpdate 103 m x v)
  (hm : a.eval m = .map (some b)) (hx : a.eval x = .int .i64 k) (hv : a.eval v = d) (h : MapV w b f) (hk : I64 k) (hf : ∃ L : List Int, L.length ≤ 5000 ∧ ∀ x, (f x).isSome = true → x ∈ L)
  (hK : ∀ w', MapV w' b (fun y => if y = k then some d else f y) → Chg w w' (· = b) → w'.heap.size = w.heap.size → S w' ∧ wpAnyH Tryz.prog .any ops Q S fuel (listed.setIfInBounds i true) a w') : St ops Q S fuel listed a w i := by
 obtain ⟨w', hrun, r1, r2, r3⟩ := h.storeB hk d hf
 have hh := hK w' r1 r2 r3
 refine wpOp_step hop (fun K hK => ?_)
 rw [if_pos hw]
 unfold Oper.wp
 simp [execOp, ho, hm, hx, hv, hrun, Result.andThen]
 refine hK _ _ ⟨hh.1, ?_⟩
 unfold Act.put
 rw [hd]
 exact hh.2
end
section
variable {w w' : World} {c : NC} {x : Nd}
theorem IsN.small (h : IsN w c x) : ∃ L : List Int, L.length ≤ 5000 ∧ ∀ k, (x.blk k).isSome = true → k ∈ L := by
 refine ⟨(List.range 1068).map (fun i : Nat => (i : Int)), by simp, fun k hk => ?_⟩
 have := h.dom k (fun e => by rw [e] at hk; cases hk)
 exact List.mem_map.2 ⟨k.toNat, List.mem_range.2 (by omega), by omega⟩
theorem IsN.block (h : IsN w c x) {k : Int} {v : Value} (hk : 0 ≤ k ∧ k < 1068) (hM : MapV w' c.bb (fun y => if y = k then some v else x.blk y)) (hc : Chg w w' (· = c.bb)) : IsN w' c { x with blk := fun y => if y = k then some v else x.blk y } := by
 refine ⟨hc.keep h.me h.pNe.1, hM, h.sl.keep hc (fun j e e2 => (h.ownNe e).2.1 e2), h.nm.keep hc (fun e => h.ne e.symm), h.cn, h.ne, h.len, fun y hy => ?_⟩
 by_cases e : y = k
 ·rw [e]; exact hk
 ·refine h.dom y (fun e2 => hy ?_)
  show (if y = k then some v else x.blk y) = none
  rw [if_neg e]
  exact e2
theorem IsN.sized (h : IsN w c x) (n : Int) : IsN (w.setCell ⟨c.p, 3, none⟩ (.int .i64 n)) c { x with size := n } ∧ Chg w (w.setCell ⟨c.p, 3, none⟩ (.int .i64 n)) (· = c.p) := by
 have hc : Chg w (w.setCell ⟨c.p, 3, none⟩ (.int .i64 n)) (· = c.p) := Chg.setCell
 refine ⟨⟨heap_setCell_same w c.p 3 _ _ _ h.me, h.bl.keep hc (fun e => h.pNe.1 e.symm), h.sl.keep hc (fun j e e2 => (h.ownNe e).1 e2), h.nm.keep hc (fun e => h.pNe.2 e.symm), h.cn, h.ne, h.len, h.dom⟩, hc⟩
end
end Go.Proofs.YtmgfilacepnjlaaGreatDoor
