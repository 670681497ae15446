/-
  The document's low: so many bytes of a number.
-/
import Derived.Test.YtiakfgplhdbaeaaAP
namespace Go.Proofs.Ytiakfgplhdbaeaa
open Go.RowKit

set_option maxHeartbeats 2000000 in
set_option maxRecDepth 100000 in
theorem rlow_any (x : Int) (n : Nat) (w : World) (hx0 : 0 ≤ x) (hx1 : x ≤ 4611686018427387904) (hn : n ≤ 100) :
    Calls Try.prog 23 #[.int .i64 x, .int .i64 (n : Int)] w fun e w' => ∃ v, e = .returned v ∧ BOw w' w.heap.size v (numB x n) ∧ Chg w w' No := by
  go_enter Try.func23, Try.ntmps23
  go_wp2_with fail
  go_loopw [0, 5, 6] (fun x0 x5 x6 wr => ∃ (j : Nat) (y : Int) (m : List Int), x6 = .int .i64 (j : Int) ∧ x0 = .int .i64 y ∧ Hid (BOw wr w.heap.size x5 m) ∧ j ≤ n ∧ 0 ≤ y ∧ y ≤ 4611686018427387904 ∧ Hid (m ++ numB y (n - j) = numB x n) ∧ Hid (m.length = j) ∧ Hid (Chg w wr No)) (fun _ _ x6 _ => n - (intOf x6).toNat)
  case atStart => exact ⟨0, x, [], rfl, rfl, hid (BOw.nil _ _), Nat.zero_le _, hx0, hx1, hid (by rw [Nat.sub_zero]; rfl), hid rfl, hid (Chg.refl _ _)⟩
  case round =>
    obtain ⟨j, y, m, rfl, rfl, HO1, hj, hy0, hy1, HE, HLm, HC⟩ := hrel
    by_cases e : j = n
    · subst e
      have HE2 : Hid (m = numB x j) := hid (by have := HE.out; rw [Nat.sub_self] at this; simpa [numB] using this)
      clear HE
      go_wp2_with fail
      go_ret
      exact ⟨_, rfl, by rw [← HE2.out]; exact HO1.out, HC.out⟩
    · have f1 : (j : Int) < (n : Int) := by omega
      have t1 : y.tmod 256 = y % 256 := Int.tmod_eq_emod_of_nonneg hy0
      have t2 : y.tdiv 256 = y / 256 := Int.tdiv_eq_ediv_of_nonneg hy0
      go_wp2_with (first
        | (refine wp_app8 rfl _ _ rfl w.heap.size wr.heap.size 1 u5 m (y % 256) rfl rfl (BOw.call HO1.out (Chg.alloc _ _ No)) ((cell_of_row _ _ _ _ _ _ (heap_alloc_new _ _)).trans rfl) (by have := HLm.out; omega) (by have := HC.out.size; simp; omega) ?_; intro v' w' h1 h2 h3; have H1 := hid h1; have H2 := hid h2; clear h1 h2 h3)
        | fail)
      refine ⟨⟨j + 1, y / 256, m ++ [y % 256], by go_num, rfl, H1, by omega, by omega, by omega, hid ?_, hid ?_, hid ?_⟩, by simp [intOf]; omega⟩
      · rw [← HE.out, show n - j = (n - (j + 1)) + 1 by omega]
        simp [numB]
      · have := HLm.out
        simp
        omega
      · exact (HC.out.tr (Chg.alloc _ _ No)).trans H2.out (fun _ _ e => e) (fun k hk e => by have := (HO1.out.blk e).1; omega)
end Go.Proofs.Ytiakfgplhdbaeaa
