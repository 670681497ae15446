/-
  package dump: number.
-/
import Derived.Test.YtiakfgplhdbaeaaRD
namespace Go.Proofs.Ytiakfgplhdbaeaa
open Go.RowKit

theorem p62 : (2 : Int) ^ 62 = 4611686018427387904 := by decide
theorem wraps_62 (n : Int) (h0 : 0 ≤ n) (h1 : n < 2 ^ 62) : IntKind.i64.wrap n = n := by rw [p62] at h1; rw [IntKind.wrap_i64]; omega
theorem or_join (i : Nat) (v x : Int) (hv0 : 0 ≤ v) (hv : v < 2 ^ i) (hv1 : v < 2 ^ 62) (hx0 : 0 ≤ x) (hx : x % 2 ^ i = 0) (hx1 : x < 2 ^ 62) : bits .or .i64 v x = v + x := by
  have h1 := bits_join .i64 62 (by decide) wraps_62 i x v hx0 hx hx1 hv0 hv hv1
  obtain ⟨a, rfl⟩ := Int.eq_ofNat_of_zero_le hv0
  obtain ⟨b, rfl⟩ := Int.eq_ofNat_of_zero_le hx0
  have ha : a < 2 ^ 62 := by exact_mod_cast hv1
  have hb : b < 2 ^ 62 := by exact_mod_cast hx1
  rw [(bits_nat .i64 62 (by decide) wraps_62 b a hb ha).2] at h1
  rw [(bits_nat .i64 62 (by decide) wraps_62 a b ha hb).2, Nat.or_comm, h1]
  omega
theorem w64 (n : Int) (h : -9223372036854775808 ≤ n ∧ n ≤ 9223372036854775807) : wrap64 n = n := by unfold wrap64; omega
theorem pow_256 (j : Nat) : (256 : Int) ^ j = 2 ^ (8 * j) := by
  rw [Int.pow_mul]
  rfl
theorem val_take_le : ∀ (l : List Int) (j : Nat), (∀ y ∈ l, 0 ≤ y ∧ y ≤ 255) → valB (l.take j) ≤ valB l
  | [], j, _ => by simp
  | y :: l, 0, h => (val_rng (y :: l) h).1
  | y :: l, j + 1, h => by
    have := val_take_le l j (fun z hz => h z (List.mem_cons_of_mem _ hz))
    show y + 256 * valB (l.take j) ≤ y + 256 * valB l
    omega
theorem or_step {ys : List Int} (hr : ∀ y ∈ ys, 0 ≤ y ∧ y ≤ 255) (hv : valB ys < 4611686018427387904) {j : Nat} (hj : j < ys.length) : bits .or .i64 (valB (ys.take j)) (wrap64 (wrap64 ys[j] * 2 ^ (8 * j))) = valB (ys.take (j + 1)) := by
  have hy := hr ys[j] (List.getElem_mem hj)
  have ht : ys.take (j + 1) = ys.take j ++ [ys[j]] := by rw [List.take_add_one, List.getElem?_eq_getElem hj]; rfl
  have hl : (ys.take j).length = j := by rw [List.length_take]; omega
  have h1 := val_snoc ys[j] (ys.take j)
  rw [← ht, hl] at h1
  have h2 := val_take_le ys (j + 1) hr
  have h3 := val_rng (ys.take j) (fun z hz => hr z (List.mem_of_mem_take hz))
  rw [hl, pow_256] at h3
  rw [pow_256] at h1
  have hp : (0 : Int) < 2 ^ (8 * j) := Int.pow_pos (by decide)
  have hx0 : 0 ≤ ys[j] * 2 ^ (8 * j) := Int.mul_nonneg hy.1 (Int.le_of_lt hp)
  have w1 : wrap64 ys[j] = ys[j] := w64 _ ⟨by omega, by omega⟩
  have w2 : wrap64 (ys[j] * 2 ^ (8 * j)) = ys[j] * 2 ^ (8 * j) := w64 _ ⟨by omega, by omega⟩
  rw [w1, w2, or_join (8 * j) _ _ h3.1 h3.2 (by rw [p62]; omega) hx0 (Int.mul_emod_left _ _) (by rw [p62]; omega), h1]

set_option maxHeartbeats 2000000 in
set_option maxRecDepth 100000 in
theorem number_good {gr b o cap : Nat} {ys rest : List Int} {s : Bool} (w : World) (h : Rd w gr b o (ys ++ rest) cap s) (hy : ys.length ≤ 8) (hr : ∀ y ∈ ys, 0 ≤ y ∧ y ≤ 255) (hv : valB ys < 4611686018427387904) :
    Calls Try.prog 29 #[.pointer (some ⟨gr, 0, none⟩), .int .i64 (ys.length : Int)] w fun e w' => e = .returned (.int .i64 (valB ys)) ∧ (∃ o' cap', Rd w' gr b o' rest cap' s) ∧ Chg w w' (· = gr) := by
  have hT := take_good ys.length w h (by simp)
  rw [List.drop_left, List.take_left] at hT
  have HV := hid hv
  have HRg := hid hr
  obtain ⟨k, hk⟩ : ∃ y, y = ys.length := ⟨_, rfl⟩
  rw [← hk] at hy hT ⊢
  have HK := hid hk
  obtain ⟨V, hV⟩ : ∃ y, y = valB ys := ⟨_, rfl⟩
  rw [← hV]
  have HVv := hid hV
  clear h hr hv hk hV
  go_enter Try.func29, Try.ntmps29
  go_wp2_with (first
    | (go_at_call 39; go_must (refine hT.mono ?_; rintro e w1 ⟨rfl, ⟨o', hr1⟩, ha1, hc1⟩; have HR1 := hid hr1; have HA1 := hid ha1; have HC1 := hid hc1; clear hr1 ha1 hc1))
    | fail)
  go_loopw [5, 12] (fun x5 x12 wr => ∃ j : Nat, x12 = .int .i64 (j : Int) ∧ j ≤ k ∧ x5 = .int .i64 (valB (ys.take j)) ∧ wr = w1) (fun _ x12 _ => k - (intOf x12).toNat)
  case atStart => exact ⟨0, rfl, Nat.zero_le _, rfl, rfl⟩
  case round =>
    obtain ⟨j, rfl, hj, rfl, hwr⟩ := hrel
    have hwr := hwr.symm
    subst hwr
    by_cases e : j = k
    · subst e
      have HE : Hid (valB (ys.take j) = V) := hid (by rw [HK.out, List.take_length, HVv.out])
      rw [HE.out]
      go_wp2_with fail
      go_ret
      exact ⟨rfl, ⟨o', _, HR1.out⟩, HC1.out⟩
    · have f1 : (j : Int) < (k : Int) := by omega
      have hjl : j < ys.length := by rw [← HK.out]; omega
      have cc := HA1.out.2 j hjl
      have HO := hid (or_step HRg.out HV.out hjl)
      go_wp2_with fail
      refine ⟨⟨j + 1, by go_num, by omega, ?_, trivial⟩, by simp [intOf]; omega⟩
      rw [← HO.out]
end Go.Proofs.Ytiakfgplhdbaeaa
