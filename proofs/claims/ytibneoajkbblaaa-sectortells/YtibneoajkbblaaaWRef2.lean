/-
  The document's own Get comes to the same number and error as the plain function, for every sector, place and width.
-/
import Derived.Test.YtibneoajkbblaaaWRef1
namespace Go.Proofs.Ytibneoajkbblaaa
open Go.RowKit

theorem numAt_plus (s : List Int) (p k : Nat) : ∀ m : Nat, numAt s p (k + m) = numAt s p k + numAt s (p + k) m * 256 ^ k
  | 0 => by simp [numAt]
  | m + 1 => by
    have ih := numAt_plus s p k m
    rw [← Nat.add_assoc]
    simp only [numAt]
    rw [ih, Int.add_mul, Int.mul_assoc, Nat.add_assoc, Int.pow_add, Int.mul_comm (256 ^ k), Int.add_assoc]

/-- The number in the bytes above place c. -/
def hiN (s : List Int) (P m : Nat) (c : Int) : Int := numAt s (P + (c + 1).toNat) (m - (c + 1).toNat)
theorem hiN_bd {s : List Int} (hs : IsSec s) (P m : Nat) (c : Int) : 0 ≤ hiN s P m c := (numAt_bd hs _ _).1
theorem hiN_step {s : List Int} (P m : Nat) (c : Int) (h0 : 0 ≤ c) (hc : c < m) : hiN s P m (c - 1) = s.getD (P + c.toNat) 0 + 256 * hiN s P m c := by
  unfold hiN
  have e := numAt_plus s (P + c.toNat) 1 (m - (c + 1).toNat)
  rw [show (c - 1 + 1).toNat = c.toNat by omega, show m - c.toNat = 1 + (m - (c + 1).toNat) by omega, e, show P + c.toNat + 1 = P + (c + 1).toNat by omega]
  simp only [numAt, Int.pow_zero, Int.mul_one, Int.zero_add, Nat.add_zero, Int.pow_succ, Int.one_mul]
  rw [Int.mul_comm (numAt s (P + (c + 1).toNat) (m - (c + 1).toNat))]
theorem hiN_full (s : List Int) (P m : Nat) : hiN s P m (-1) = numAt s P m := by unfold hiN; simp
theorem hiN_start (s : List Int) (P m : Nat) : hiN s P m ((m : Int) - 1) = 0 := by
  unfold hiN
  rw [show ((m : Int) - 1 + 1).toNat = m by omega, Nat.sub_self]
  rfl
theorem hiN_great {s : List Int} (hs : IsSec s) (P m : Nat) (c : Int) (h0 : 0 ≤ c) (hc : c < m) (h : 4611686018427387904 < hiN s P m (c - 1)) : 4611686018427387904 < numAt s P m := by
  have e := numAt_plus s P c.toNat (m - c.toNat)
  rw [show c.toNat + (m - c.toNat) = m by omega] at e
  have h1 := (numAt_bd hs P c.toNat).1
  have h2 : hiN s P m (c - 1) = numAt s (P + c.toNat) (m - c.toNat) := by unfold hiN; rw [show (c - 1 + 1).toNat = c.toNat by omega]
  have hp : (1 : Int) ≤ 256 ^ c.toNat := Int.pow_pos (by decide)
  have h3 : numAt s (P + c.toNat) (m - c.toNat) * 1 ≤ numAt s (P + c.toNat) (m - c.toNat) * 256 ^ c.toNat := Int.mul_le_mul_of_nonneg_left hp (by omega)
  omega

set_option maxHeartbeats 400000 in
theorem rget_width (s : List Int) (p n : Int) (w : World) (h : n < 1 ∨ 8 < n) :
    Calls Try.prog 27 #[.agg (SA s), .int .i64 p, .int .i64 n] w fun e w' => e = .returned (.tuple #[.int .i64 0, .int .i64 10]) ∧ Below w.heap.size w w' := by
  rcases h with h | h
  · go_enter Try.func27, Try.ntmps27
    go_wp2
    go_ret2
    exact ⟨rfl, (Below.refl _ _).alloc (Nat.le_refl _) _⟩
  · have h' : ¬ n < 1 := by omega
    go_enter Try.func27, Try.ntmps27
    go_wp2
    go_ret2
    exact ⟨rfl, (Below.refl _ _).alloc (Nat.le_refl _) _⟩
set_option maxHeartbeats 400000 in
theorem rget_place (s : List Int) (p n : Int) (w : World) (h1 : 1 ≤ n) (h8 : n ≤ 8) (h : rfit p n = false) :
    Calls Try.prog 27 #[.agg (SA s), .int .i64 p, .int .i64 n] w fun e w' => e = .returned (.tuple #[.int .i64 0, .int .i64 10]) ∧ Below w.heap.size w w' := by
  have h0 : 0 ≤ n := by omega
  go_enter Try.func27, Try.ntmps27
  go_wp2_with (go_at_call 35; refine (rfits_any _ _ _ h0).mono ?_; rintro e w' ⟨rfl, rfl⟩)
  go_ret2
  exact ⟨rfl, (Below.refl _ _).alloc (Nat.le_refl _) _⟩

theorem ret_two' {k k' : IntKind} {a b c d : Int} (h : a = b) (h' : c = d) : Ending.returned (.tuple #[.int k a, .int k' c]) = .returned (.tuple #[.int k b, .int k' d]) := by rw [h, h']

set_option maxRecDepth 100000 in
set_option maxHeartbeats 1000000 in
theorem rget_in (s : List Int) (P m : Nat) (w : World) (hs : IsSec s) (h1 : 1 ≤ m) (h8 : m ≤ 8) (hP : P + m ≤ 128) (G E : Int) (hfit : rfit (P : Int) (m : Int) = true)
    (HG : Hid ((numAt s P m ≤ 4611686018427387904 → G = numAt s P m ∧ E = 0) ∧ (4611686018427387904 < numAt s P m → G = 0 ∧ E = 11))) :
    Calls Try.prog 27 #[.agg (SA s), .int .i64 (P : Int), .int .i64 (m : Int)] w fun e w' => e = .returned (.tuple #[.int .i64 G, .int .i64 E]) ∧ Below w.heap.size w w' := by
  have h0 : (0 : Int) ≤ (m : Int) := by omega
  have hm1 : (1 : Int) ≤ (m : Int) := by omega
  have hm8 : (m : Int) ≤ 8 := by omega
  have HO : Hid ((w.alloc (.cells (SA s) 26)).heap[w.heap.size]? = some (.cells (SA s) 26 (0, 0))) := heap_alloc_new w _
  go_enter Try.func27, Try.ntmps27
  go_wp2_with (go_at_call 35; refine (rfits_any _ _ _ h0).mono ?_; rintro e w' ⟨rfl, rfl⟩)
  go_loop [8, 9] (fun v i => ∃ c : Int, -1 ≤ c ∧ c < (m : Int) ∧ i = .int .i64 c ∧ v = .int .i64 (hiN s P m c) ∧ hiN s P m c ≤ 4611686018427387904) (fun _ i => (intOf i + 1).toNat)
  case atStart => exact ⟨(m : Int) - 1, by omega, by omega, rfl, by rw [hiN_start], by rw [hiN_start]; decide⟩
  case round =>
    obtain ⟨c, hc0, hc1, rfl, rfl, hle⟩ := hrel
    have hv0 := hiN_bd hs P m c
    by_cases hc : 0 ≤ c
    · have hcell := sec_cell HO.out (P + c.toNat) (by rw [hs.1]; omega)
      have hb := hs.at (P + c.toNat)
      have HST := hid (hiN_step (s := s) P m c hc hc1)
      have HGR := hid (hiN_great hs P m c hc hc1)
      rw [show P + c.toNat = ((P : Int) + c).toNat by omega] at hcell HST hb
      have hi : (P : Int) + c < 128 := by omega
      generalize s.getD ((P : Int) + c).toNat 0 = by_ at *
      generalize hiN s P m c = v at *
      by_cases t1 : 18014398509481984 < v
      · have hg := (HG.out.2 (HGR.out (by rw [HST.out]; omega)))
        have HE := hid hg
        clear hg
        go_wp2
        go_ret2
        exact ⟨ret_two' HE.out.1.symm HE.out.2.symm, (Below.refl _ _).alloc (Nat.le_refl _) _⟩
      · by_cases t2 : v = 18014398509481984
        · subst t2
          by_cases t3 : 0 < by_
          · have hg := (HG.out.2 (HGR.out (by rw [HST.out]; omega)))
            have HE := hid hg
            clear hg
            go_wp2
            go_ret2
            exact ⟨ret_two' HE.out.1.symm HE.out.2.symm, (Below.refl _ _).alloc (Nat.le_refl _) _⟩
          · go_wp2
            exact ⟨⟨c - 1, by omega, by omega, by go_num, by rw [HST.out]; go_num, by rw [HST.out]; omega⟩, by simp [intOf]; omega⟩
        · have t2' : (v == 18014398509481984) = false := by simp; exact t2
          have T2 := hid t2
          clear t2
          go_wp2
          exact ⟨⟨c - 1, by omega, by omega, by go_num, by rw [HST.out]; go_num, by rw [HST.out]; have := T2.out; omega⟩, by simp [intOf]; omega⟩
    · have e : c = -1 := by omega
      subst e
      rw [hiN_full] at hle
      have hg := HG.out.1 hle
      have HE : Hid (G = hiN s P m (-1) ∧ E = 0) := by show _ ∧ _; rw [hiN_full]; exact hg
      clear hg hle hc
      generalize hiN s P m (-1) = v at *
      go_wp2
      go_ret2
      exact ⟨ret_two' HE.out.1.symm HE.out.2.symm, (Below.refl _ _).alloc (Nat.le_refl _) _⟩

theorem rget_any (s : List Int) (p n : Int) (w : World) (hs : IsSec s) :
    Calls Try.prog 27 #[.agg (SA s), .int .i64 p, .int .i64 n] w fun e w' => e = .returned (.tuple #[.int .i64 (getN s p n), .int .i64 (getE s p n)]) ∧ Below w.heap.size w w' := by
  by_cases hw : n < 1 ∨ 8 < n
  · have h : inB p n = false := inB_false (by omega)
    rw [show getN s p n = 0 by simp [getN, h], show getE s p n = 10 by simp [getE, h]]
    exact rget_width s p n w hw
  · have hr := rfit_in p n (by omega) (by omega)
    cases h : inB p n
    · rw [show getN s p n = 0 by simp [getN, h], show getE s p n = 10 by simp [getE, h]]
      exact rget_place s p n w (by omega) (by omega) (by rw [hr, h])
    · have h' := of_decide_eq_true h
      obtain ⟨P, rfl⟩ := Int.eq_ofNat_of_zero_le h'.2.2.1
      obtain ⟨m, rfl⟩ := Int.eq_ofNat_of_zero_le (show 0 ≤ n by omega)
      refine rget_in s P m w hs (by omega) (by omega) (by omega) _ _ (by rw [hr, h]) ⟨fun ht => ?_, fun ht => ?_⟩
      · have ht' : numAt s (P : Int).toNat (m : Int).toNat ≤ top := ht
        exact ⟨by rw [getN, if_pos ⟨h, ht'⟩]; rfl, by rw [getE, if_pos h, if_pos ht']⟩
      · have ht' : ¬ numAt s (P : Int).toNat (m : Int).toNat ≤ top := by rw [top_eq]; show ¬ numAt s P m ≤ _; omega
        exact ⟨by rw [getN, if_neg fun k => ht' k.2], by rw [getE, if_pos h, if_neg ht']⟩

end Go.Proofs.Ytibneoajkbblaaa
