/-
  The statements' own helpers full and marked: a sector of marks; a list of sectors that holds a mark all over.
-/
import Derived.Test.YtibneoajkbblaaaWCut
import Derived.Test.YtibneoajkbblaaaHeld
namespace Go.Proofs.Ytibneoajkbblaaa
open Go.RowKit

def fullK (x : Int) (k : Nat) : List Int := List.replicate k x ++ zl (128 - k)
def fullL (x : Int) : List Int := List.replicate 128 x
theorem fullK_len (x : Int) (k : Nat) (h : k ≤ 128) : (fullK x k).length = 128 := by simp [fullK, zl_len]; omega
theorem fullK_end (x : Int) : fullK x 128 = fullL x := by simp [fullK, fullL, zl]
theorem fullL_len (x : Int) : (fullL x).length = 128 := by simp [fullL]
theorem fullK_set (x : Int) (k : Nat) (h : k < 128) : (fullK x k).set k x = fullK x (k + 1) := by
  unfold fullK
  rw [List.set_append_right _ _ (by simp), List.length_replicate, Nat.sub_self, show 128 - k = (128 - (k + 1)) + 1 by omega, zl, List.replicate_succ, List.set_cons_zero, List.replicate_succ', List.append_assoc]
  rfl

theorem two_zero (w : World) : HB w [(w.heap.size + 1, .cells (SA Zs) 26 (0, 0)), (w.heap.size, .cells (SA Zs) 26 (0, 0))] ((w.alloc (.cells (SA Zs) 26)).alloc (.cells (SA Zs) 26)) := by
  have h0 : HB w [] w := ⟨by simp, by simp, Below.refl _ _⟩
  have h2 := (h0.alloc (.cells (SA Zs) 26)).alloc (.cells (SA Zs) 26)
  rw [show (w.alloc (.cells (SA Zs) 26)).heap.size = w.heap.size + 1 by simp] at h2
  exact h2

set_option maxRecDepth 100000 in
set_option maxHeartbeats 400000 in
theorem full_any (x : Int) (w : World) : Calls Try.prog 16 #[.int .u8 x] w fun e w' => e = .returned (.agg (SA (fullL x))) ∧ Below w.heap.size w w' := by
  have hz := zero_sec
  have HB0 := hid (two_zero w)
  go_enter Try.func16, Try.ntmps16
  go_wp2
  go_loopw [4] (fun i wr => ∃ k : Nat, k ≤ 128 ∧ i = .int .i64 k ∧ Hid (HB w [(w.heap.size + 1, .cells (SA (fullK x k)) 26 (0, 0)), (w.heap.size, .cells (SA Zs) 26 (0, 0))] wr)) (fun i _ => 128 - (intOf i).toNat)
  case atStart => exact ⟨0, by omega, rfl, HB0⟩
  case round =>
    obtain ⟨k, hk, rfl, HR⟩ := hrel
    by_cases hlt : k < 128
    · have hg := HR.out.get (g := w.heap.size + 1) (o := .cells (SA (fullK x k)) 26 (0, 0)) (by simp)
      have hc := sec_cell hg k (by rw [fullK_len x k hk]; exact hlt)
      have hf := sec_free hg k
      have HG := hid hg
      have HS := hid (fullK_set x k hlt)
      clear hg
      go_wp2
      have hw := sec_setCell HG.out k x
      rw [HS.out] at hw
      exact ⟨⟨k + 1, by omega, by go_num, HR.out.write hw (by omega) (by simp)⟩, by simp [intOf]; omega⟩
    · have e : k = 128 := by omega
      subst e
      rw [fullK_end] at HR
      have hlen := fullL_len x
      go_wp2_with (first | refine load_sec rfl _ rfl (w.heap.size + 1) rfl (fullL x) hlen (HR.out.get (by simp)) ?_ | (refine store_sec rfl _ _ rfl w.heap.size rfl (fullL x) rfl hlen Zs Zs_len (HR.out.get (by simp)) ?_; intro w3 hw3))
      exact bodyPost_ret (v := .agg (SA (fullL x))) (results_sec1 Try.results16 _ _ w.heap.size _ hlen rfl hw3.here) rfl ⟨rfl, hw3.below HR.out.old (by omega)⟩

set_option maxRecDepth 100000 in
set_option maxHeartbeats 400000 in
theorem marked_any (x : Int) (m : Nat) (a : Option Addr) (cap : Nat) (w : World) (hm : 128 * m ≤ 140737488355328)
    (h : m = 0 ∨ ∃ b o, a = some ⟨b, o, none⟩ ∧ ∀ j, j < 128 * m → w.cell? ⟨b, o + j, none⟩ = some (.int .u8 x)) :
    Calls Try.prog 19 #[.slice a m cap, .int .u8 x] w fun e w' => e = .returned (.bool true) ∧ w' = w := by
  have H := hid h
  clear h
  go_enter Try.func19, Try.ntmps19
  go_wp2
  go_loop [5] (fun i => ∃ k : Nat, k ≤ m ∧ i = .int .i64 k) (fun i => m - (intOf i).toNat)
  case atStart => exact ⟨0, by omega, rfl⟩
  case round =>
    obtain ⟨k, hk, rfl⟩ := hrel
    by_cases hlt : k < m
    · go_wp2
      go_loop [6] (fun i => ∃ j : Nat, j ≤ 128 ∧ i = .int .i64 j) (fun i => 128 - (intOf i).toNat)
      case atStart => exact ⟨0, by omega, rfl⟩
      case round =>
        obtain ⟨j, hj, rfl⟩ := hrel
        by_cases hlt2 : j < 128
        · rcases H.out with h0 | ⟨b, o, rfl, hc⟩
          · omega
          · have hcell := hc (k * 128 + j) (by omega)
            rw [← Nat.add_assoc] at hcell
            clear hc
            go_wp2
            exact ⟨⟨j + 1, by omega, by go_num⟩, by simp [intOf]; omega⟩
        · go_wp2
          exact ⟨⟨k + 1, by omega, by go_num⟩, by simp [intOf]; omega⟩
    · go_wp2
      go_ret
      exact ⟨rfl, rfl⟩

end Go.Proofs.Ytibneoajkbblaaa
