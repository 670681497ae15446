/-
  package plain: an operation's path, taken apart.
-/
import Derived.Test.YtbkddnibcpjkgaaDoorPB
namespace Go.Proofs.YtbkddnibcpjkgaaDoor
open Go.RowKit

set_option maxHeartbeats 2000000 in
set_option maxRecDepth 100000 in
theorem splitO_any (kk : Nat) (path tto : ByteArray) (off len : Int) (da : Option Addr) (dl dc : Nat) (made pick : Int) (w : World) (hu : UB w) (hm : ML w) (h2 : kk ≤ 14) (hb1 : bits .and .i64 (usedL.getD kk 0) 1 = 1) (hb2 : bits .and .i64 (usedL.getD kk 0) 2 = 0) (hs : (splitR path.data.toList).2 = 0) :
    Calls Tryd.prog 12 #[.agg (opA (kk : Nat) path tto off len da dl dc made pick)] w fun e w' => ∃ (a : Option Addr) (ls : List ByteArray), e = .returned (.tuple #[.slice a ls.length ls.length, .slice none 0 0, .int .i64 0]) ∧ datas ls = (splitR path.data.toList).1 ∧ LAt w' a ls ∧ Chg w w' No := by
  obtain ⟨w1, hw1⟩ : ∃ y, y = w.alloc (.cells (opA (kk : Nat) path tto off len da dl dc made pick) 40) := ⟨_, rfl⟩
  have hbl : Below w.heap.size w w1 := by rw [hw1]; exact (Below.refl _ w).alloc (Nat.le_refl _) _
  have hc1 : Chg w w1 No := by rw [hw1]; exact Chg.alloc w _ No
  have hop : w1.heap[w.heap.size]? = some (.cells (opA (kk : Nat) path tto off len da dl dc made pick) 40 (0, 0)) := by rw [hw1]; exact heap_alloc_new w _
  have hu1 := hu.keep hc1 (fun e => e)
  have hSp := split_any path w1 (hm.below hbl)
  rw [hs] at hSp
  have HOp : Hid (∀ W, Below w1.heap.size w1 W → W.cell? ⟨w.heap.size, 0, none⟩ = some (.int .i64 (kk : Nat)) ∧ W.cell? ⟨0, kk, none⟩ = some (.int .i64 (usedL.getD kk 0)) ∧ Chg w W No) := hid (fun W hW => by
    have hC := Chg.of_below hW No
    exact ⟨(cell_of_row _ _ _ _ _ _ (hC.keep hop (fun e => e))).trans rfl, (hu1.keep hC (fun e => e)).2 kk (by omega), hc1.tr hC⟩)
  have q0 : w1.cell? ⟨w.heap.size, 0, none⟩ = some (.int .i64 (kk : Nat)) := (cell_of_row _ _ _ _ _ _ hop).trans rfl
  have q1 : w1.cell? ⟨w.heap.size, 1, none⟩ = some (.string path) := (cell_of_row _ _ _ _ _ _ hop).trans rfl
  have qu := hu1.2 kk (by omega)
  obtain ⟨uk, huk⟩ : ∃ y, y = usedL.getD kk 0 := ⟨_, rfl⟩
  rw [← huk] at hb1 hb2 qu HOp
  have k3 : (kk : Int) ≤ 14 := by omega
  unfold opA at hw1 ⊢
  rw [hw1] at hSp HOp q0 q1 qu
  clear hop hc1 hw1 hu hu1 huk hbl hm hs
  go_enter Tryd.func12, Tryd.ntmps12
  go_upto_region 3 with (first
    | (go_at_call 22; go_must (refine hSp.mono ?_; rintro e w2 ⟨a, ls, rfl, hd2, ho2, hb2c⟩; have HD := hid hd2; have HO := hid ho2.at; obtain ⟨r0, ru, hcc⟩ := HOp.out w2 hb2c; have HC := hid hcc; clear hd2 ho2 hb2c hcc q0 q1 qu))
    | fail)
  go_wp2_with fail
  exact bodyPost_ret (results_tmp3 Tryd.results12 _ _ _) rfl ⟨a, ls, rfl, HD.out, HO.out, HC.out⟩
end Go.Proofs.YtbkddnibcpjkgaaDoor
