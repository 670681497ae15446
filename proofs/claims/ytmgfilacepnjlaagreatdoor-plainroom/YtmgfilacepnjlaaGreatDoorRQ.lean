/-
 package plain: split, where there are two paths, and what it refuses.
-/
import Derived.Test.YtmgfilacepnjlaaGreatDoorRP
namespace Go.Proofs.YtmgfilacepnjlaaGreatDoor
open Go.RowKit

set_option maxHeartbeats 2000000 in
set_option maxRecDepth 100000 in
theorem splitT_any (kk : Nat) (path tto : ByteArray) (off len : Int) (da : Option Addr) (dl dc : Nat) (made pick : Int) (w : World) (hu : UB w) (hm : ML w) (h2 : kk ≤ 14) (hb1 : bits .and .i64 (usedL.getD kk 0) 1 = 1) (hb2 : bits .and .i64 (usedL.getD kk 0) 2 = 2) (hs : (splitR path.data.toList).2 = 0) (hst : (splitR tto.data.toList).2 = 0) :
  Calls Tryz.prog 20 #[.agg (opA (kk : Nat) path tto off len da dl dc made pick)] w fun e w' => ∃ (a : Option Addr) (ls : List ByteArray) (b : Option Addr) (ts : List ByteArray), e = .returned (.tuple #[.slice a ls.length ls.length, .slice b ts.length ts.length, .int .i64 0]) ∧ datas ls = (splitR path.data.toList).1 ∧ LAt w' a ls ∧ datas ts = (splitR tto.data.toList).1 ∧ LAt w' b ts ∧ Chg w w' No := by
 obtain ⟨w1, hw1⟩ : ∃ y, y = w.alloc (.cells (opA (kk : Nat) path tto off len da dl dc made pick) 34) := ⟨_, rfl⟩
 have hbl : Below w.heap.size w w1 := by rw [hw1]; exact (Below.refl _ w).alloc (Nat.le_refl _) _
 have hc1 : Chg w w1 No := by rw [hw1]; exact Chg.alloc w _ No
 have hop : w1.heap[w.heap.size]? = some (.cells (opA (kk : Nat) path tto off len da dl dc made pick) 34 (0, 0)) := by rw [hw1]; exact heap_alloc_new w _
 have hu1 := hu.keep hc1 (fun e => e)
 have hSp := split_any path w1 (hm.below hbl)
 rw [hs] at hSp
 have HOp : Hid (∀ W, Below w1.heap.size w1 W → W.cell? ⟨w.heap.size, 0, none⟩ = some (.int .i64 (kk : Nat)) ∧ W.cell? ⟨0, kk, none⟩ = some (.int .i64 (usedL.getD kk 0)) ∧ W.cell? ⟨w.heap.size, 2, none⟩ = some (.string tto) ∧ Chg w W No) := hid (fun W hW => by
  have hC := Chg.of_below hW No
  exact ⟨(cell_of_row _ _ _ _ _ _ (hC.keep hop (fun e => e))).trans rfl, (hu1.keep hC (fun e => e)).2 kk (by omega), (cell_of_row _ _ _ _ _ _ (hC.keep hop (fun e => e))).trans rfl, hc1.tr hC⟩)
 have q0 : w1.cell? ⟨w.heap.size, 0, none⟩ = some (.int .i64 (kk : Nat)) := (cell_of_row _ _ _ _ _ _ hop).trans rfl
 have q1 : w1.cell? ⟨w.heap.size, 1, none⟩ = some (.string path) := (cell_of_row _ _ _ _ _ _ hop).trans rfl
 have qu := hu1.2 kk (by omega)
 obtain ⟨uk, huk⟩ : ∃ y, y = usedL.getD kk 0 := ⟨_, rfl⟩
 rw [← huk] at hb1 hb2 qu HOp
 have k3 : (kk : Int) ≤ 14 := by omega
 have HS2 : Hid (∀ W, Below w1.heap.size w1 W → Calls Tryz.prog 41 #[.string tto] W fun e w' => ∃ (a : Option Addr) (ls : List ByteArray), e = .returned (.tuple #[.slice a ls.length ls.length, .int .i64 0]) ∧ datas ls = (splitR tto.data.toList).1 ∧ LAt w' a ls ∧ Chg W w' No) := hid (fun W hW => by
  have k := split_any tto W ((hm.below hbl).below hW)
  rw [hst] at k
  refine k.mono ?_
  rintro e w' ⟨a, ls, rfl, hd2, ho2, hb2c⟩
  exact ⟨a, ls, rfl, hd2, ho2.at, Chg.of_below hb2c No⟩)
 unfold opA at hw1 ⊢
 rw [hw1] at hSp HOp HS2 q0 q1 qu
 clear hop hc1 hw1 hu hu1 huk hbl hm hs hst
 go_enter Tryz.func20, Tryz.ntmps20
 go_upto_region 3 with (first
  | (go_at_call 41; go_must (refine hSp.mono ?_; rintro e w2 ⟨a, ls, rfl, hd2, ho2, hb2c⟩; have HD := hid hd2; have HO := hid ho2.at; obtain ⟨r0, ru, r2, hcc⟩ := HOp.out w2 hb2c; have HC := hid hcc; have hS2 := HS2.out w2 hb2c; clear hd2 ho2 hb2c hcc q0 q1 qu))
  | fail)
 obtain ⟨n, hnn⟩ : ∃ y, y = ls.length := ⟨_, rfl⟩
 rw [← hnn]
 have HNn := hid hnn
 clear hnn
 go_wp2_with (first
  | (go_at_call 41; go_must (refine hS2.mono ?_; rintro e w4 ⟨b, ts, rfl, hd4, hl4, hc4⟩; have HD4 := hid hd4; have HL4 := hid hl4; have HC4 := hid hc4; clear hd4 hl4 hc4))
  | fail)
 exact bodyPost_ret (results_tmp3 Tryz.results20 _ _ _) rfl ⟨a, ls, b, ts, by rw [HNn.out]; rfl, HD.out, LAt.below HO.out HC4.out.below, HD4.out, HL4.out, HC.out.tr HC4.out⟩
set_option maxHeartbeats 2000000 in
set_option maxRecDepth 100000 in
theorem splitO_bad (kk : Nat) (path tto : ByteArray) (off len : Int) (da : Option Addr) (dl dc : Nat) (made pick : Int) (w : World) (hu : UB w) (hm : ML w) (h2 : kk ≤ 14) (hb1 : bits .and .i64 (usedL.getD kk 0) 1 = 1) (hs : (splitR path.data.toList).2 ≠ 0) :
  Calls Tryz.prog 20 #[.agg (opA (kk : Nat) path tto off len da dl dc made pick)] w fun e w' => e = .returned (.tuple #[.slice none 0 0, .slice none 0 0, .int .i64 (splitR path.data.toList).2]) ∧ Chg w w' No := by
 obtain ⟨w1, hw1⟩ : ∃ y, y = w.alloc (.cells (opA (kk : Nat) path tto off len da dl dc made pick) 34) := ⟨_, rfl⟩
 have hbl : Below w.heap.size w w1 := by rw [hw1]; exact (Below.refl _ w).alloc (Nat.le_refl _) _
 have hc1 : Chg w w1 No := by rw [hw1]; exact Chg.alloc w _ No
 have hop : w1.heap[w.heap.size]? = some (.cells (opA (kk : Nat) path tto off len da dl dc made pick) 34 (0, 0)) := by rw [hw1]; exact heap_alloc_new w _
 have hu1 := hu.keep hc1 (fun e => e)
 have hSp := split_any path w1 (hm.below hbl)
 obtain ⟨E, hE⟩ : ∃ y, y = (splitR path.data.toList).2 := ⟨_, rfl⟩
 rw [← hE] at hs hSp ⊢
 have bE : (E == 0) = false := beq_eq_false_iff_ne.2 hs
 have HOp : Hid (∀ W, Below w1.heap.size w1 W → W.cell? ⟨w.heap.size, 0, none⟩ = some (.int .i64 (kk : Nat)) ∧ W.cell? ⟨0, kk, none⟩ = some (.int .i64 (usedL.getD kk 0)) ∧ Chg w W No) := hid (fun W hW => by
  have hC := Chg.of_below hW No
  exact ⟨(cell_of_row _ _ _ _ _ _ (hC.keep hop (fun e => e))).trans rfl, (hu1.keep hC (fun e => e)).2 kk (by omega), hc1.tr hC⟩)
 have q0 : w1.cell? ⟨w.heap.size, 0, none⟩ = some (.int .i64 (kk : Nat)) := (cell_of_row _ _ _ _ _ _ hop).trans rfl
 have q1 : w1.cell? ⟨w.heap.size, 1, none⟩ = some (.string path) := (cell_of_row _ _ _ _ _ _ hop).trans rfl
 have qu := hu1.2 kk (by omega)
 obtain ⟨uk, huk⟩ : ∃ y, y = usedL.getD kk 0 := ⟨_, rfl⟩
 rw [← huk] at hb1 qu HOp
 have k3 : (kk : Int) ≤ 14 := by omega
 unfold opA at hw1 ⊢
 rw [hw1] at hSp HOp q0 q1 qu
 clear hop hc1 hw1 hu hu1 huk hbl hm hE
 go_enter Tryz.func20, Tryz.ntmps20
 go_wp2_with (first
  | (go_at_call 41; go_must (refine hSp.mono ?_; rintro e w2 ⟨a, ls, rfl, hd2, ho2, hb2c⟩; obtain ⟨r0, ru, hcc⟩ := HOp.out w2 hb2c; have HC := hid hcc; clear hd2 ho2 hb2c hcc q0 q1 qu))
  | fail)
 exact bodyPost_ret (results_tmp3 Tryz.results20 _ _ _) rfl ⟨rfl, HC.out⟩
end Go.Proofs.YtmgfilacepnjlaaGreatDoor
