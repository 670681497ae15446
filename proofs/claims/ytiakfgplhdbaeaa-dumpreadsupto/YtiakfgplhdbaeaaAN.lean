/-
  package dump: a number's bytes, behind others.
-/
import Derived.Test.YtiakfgplhdbaeaaBL
namespace Go.Proofs.Ytiakfgplhdbaeaa
open Go.RowKit

/-- So many bytes of a number, the lowest first. -/
def numB : Int → Nat → List Int
  | _, 0 => []
  | x, n + 1 => x % 256 :: numB (x / 256) n
theorem numB_len : ∀ (n : Nat) (x : Int), (numB x n).length = n
  | 0, _ => rfl
  | n + 1, x => by simp [numB, numB_len n]

set_option maxHeartbeats 2000000 in
set_option maxRecDepth 100000 in
theorem appNum_any {B : Nat} {v : Value} {l : List Int} (x : Int) (n : Nat) (w : World) (h : BOw w B v l) (hB : B ≤ w.heap.size) (hn : n ≤ 100) (hl : l.length ≤ 900000000000) (hx : I64 x) :
    Calls Try.prog 22 #[v, .int .i64 x, .int .i64 (n : Int)] w fun e w' => ∃ v', e = .returned v' ∧ BOw w' B v' (l ++ numB x n) ∧ Chg w w' (fun k => v.ownBlock = some k) := by
  have HB := hid hB
  have HO := hid h
  have HL := hid hl
  have HX := hid hx
  clear h hB hl hx
  go_enter Try.func22, Try.ntmps22
  go_wp2_with fail
  go_loopw [0, 1, 8] (fun x0 x1 x8 wr => ∃ (j : Nat) (y : Int) (m : List Int), x8 = .int .i64 (j : Int) ∧ x1 = .int .i64 y ∧ Hid (BOw wr B x0 m) ∧ j ≤ n ∧ Hid (m ++ numB y (n - j) = l ++ numB x n) ∧ Hid (m.length = l.length + j) ∧ Hid (I64 y) ∧ Hid (Chg w wr (fun k => v.ownBlock = some k)) ∧ Hid (∀ k, x0.ownBlock = some k → v.ownBlock = some k ∨ w.heap.size ≤ k)) (fun _ _ x8 _ => n - (intOf x8).toNat)
  case atStart => exact ⟨0, x, l, rfl, rfl, HO, Nat.zero_le _, hid (by rw [Nat.sub_zero]), hid (by omega), HX, hid (Chg.refl _ _), hid (fun k e => .inl e)⟩
  case round =>
    obtain ⟨j, y, m, rfl, rfl, HO1, hj, HE, HLm, HY, HC, HK⟩ := hrel
    clear HO HX
    by_cases e : j = n
    · subst e
      have HE2 : Hid (m = l ++ numB x j) := hid (by have := HE.out; rw [Nat.sub_self] at this; simpa [numB] using this)
      clear HE
      go_wp2_with fail
      go_ret
      exact ⟨_, rfl, by rw [← HE2.out]; exact HO1.out, HC.out⟩
    · have f1 : (j : Int) < (n : Int) := by omega
      go_wp2_with (first
        | (refine wp_app8 rfl _ _ rfl B wr.heap.size 1 u0 m (y % 256) rfl rfl (BOw.call HO1.out (Chg.alloc _ _ No)) ((cell_of_row _ _ _ _ _ _ (heap_alloc_new _ _)).trans rfl) (by have := HLm.out; have := HL.out; omega) (by have := HC.out.size; have := HB.out; simp; omega) ?_; intro v' w' h1 h2 h3; have H1 := hid h1; have H2 := hid h2; have H3 := hid h3; clear h1 h2 h3)
        | fail)
      have hy := HY.out
      refine ⟨⟨j + 1, y / 256, m ++ [y % 256], by go_num, rfl, H1, by omega, hid ?_, hid ?_, hid ?_, hid ?_, hid ?_⟩, by simp [intOf]; omega⟩
      · rw [← HE.out, show n - j = (n - (j + 1)) + 1 by omega]
        simp [numB]
      · have := HLm.out
        simp
        omega
      · exact ⟨by have := hy.1; omega, by have := hy.2; omega⟩
      · refine (HC.out.trans (Chg.alloc _ _ No) (fun _ _ e => e) (fun _ _ e => e.elim)).trans H2.out (fun _ _ e => e) (fun k hk e => ?_)
        rcases HK.out k e with h | h
        · exact h
        · omega
      · intro k e
        rcases H3.out with h | h
        · rw [h] at e
          exact HK.out k e
        · rw [h] at e
          cases e
          right
          have := HC.out.size
          simp
          omega
end Go.Proofs.Ytiakfgplhdbaeaa
