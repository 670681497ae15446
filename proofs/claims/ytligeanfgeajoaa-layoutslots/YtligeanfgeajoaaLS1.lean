/-
  The document's isName.
-/
import Derived.Test.YtligeanfgeajoaaLH4
import Derived.Test.YtligeanfgeajoaaLF1
namespace Go.Proofs.Ytligeanfgeajoaa
open Go.RowKit Go.Shelf

theorem u8_beq6 {x : UInt8} (n : Int) (c : UInt8) (hc : (c.toNat : Int) = n) : ((x.toNat : Int) == n) = (x == c) := by
  cases e : (x == c)
  · simp only [beq_eq_false_iff_ne]; intro h; have : x = c := UInt8.toNat_inj.1 (by omega); simp [this] at e
  · rw [eq_of_beq e, hc]; simp
theorem dat6 (s : ByteArray) (i : Nat) (hi : i < s.size) : s.data.toList[i]? = some (s[i]'hi) := Lib.data_getElem? s i hi

set_option maxRecDepth 100000 in
set_option maxHeartbeats 1000000 in
theorem risName_any (s : ByteArray) (w : World) (hsz : s.size ≤ 9223372036854775807) :
    Calls Try.prog 40 #[.string s] w fun e w' => e = .returned (.bool (nameB s)) ∧ Below w.heap.size w w' := by
  have e1 := toList_one
  have e2 := toList_two
  have hwi := fun w' => rwithin_any (s.size : Int) 1 40 w'
  go_enter Try.func40, Try.ntmps40
  go_wp2
  go_loopw [3] (fun i wr => ∃ k : Nat, k ≤ s.size ∧ i = .int .i64 k ∧ Below w.heap.size w wr ∧ Hid (Lib.NoAny s.data.toList [0, 47] k)) (fun i _ => s.size - (intOf i).toNat)
  case atStart => exact ⟨0, by omega, rfl, Below.refl _ _, Lib.NoAny.zero _ _⟩
  case round =>
    obtain ⟨k, hk, rfl, hbr, HN⟩ := hrel
    obtain ⟨Wx, hWx⟩ : ∃ y, y = wr := ⟨_, rfl⟩
    subst hWx
    by_cases hlt : k < s.size
    · obtain ⟨x, hx⟩ : ∃ x : UInt8, s[k]'hlt = x := ⟨_, rfl⟩
      have hxl := dat6 s k hlt
      rw [hx] at hxl
      have HX := hid hxl
      have hi0 : (0 : Int) ≤ (k : Int) := by omega
      have hi1 : (k : Int) < (s.size : Int) := by omega
      clear hxl
      have BAD : Hid (([0, 47] : List UInt8).contains x = true → nameB s = false) := fun hc => by
        have h1 := Lib.indexAny_hit HN.out HX.out hc
        have h2 : hasB s = true := by unfold hasB Lib.containsAny; rw [show two.data.toList = [0, 47] from rfl, h1]; simp
        unfold nameB; rw [h2]; simp
      by_cases c0 : x = 0
      · have HB := hid (BAD.out (by rw [c0]; decide))
        subst c0
        go_wp2
        go_ret
        exact ⟨ret_bool HB.out.symm, hbr⟩
      have n0 : ((x.toNat : Int) == 0) = false := by rw [u8_beq6 0 0 rfl]; simpa using c0
      by_cases c1 : x = 47
      · have HB := hid (BAD.out (by rw [c1]; decide))
        subst c1
        clear n0
        go_wp2
        go_ret
        exact ⟨ret_bool HB.out.symm, hbr⟩
      have n1 : ((x.toNat : Int) == 47) = false := by rw [u8_beq6 47 47 rfl]; simpa using c1
      have HNN := hid (HN.out.succ HX.out (by simp [c0, c1]))
      go_wp2
      exact ⟨⟨k + 1, by omega, by go_num, hbr, HNN⟩, by simp [intOf]; omega⟩
    · have HH : Hid (nameB s = (decide (1 ≤ s.size ∧ s.size ≤ 40) && (!(s.toList == [46]) && !(s.toList == [46, 46])))) := by
        show _ = _
        have hk2 : k = s.data.toList.length := by simp; omega
        have h1 := Lib.indexAny_none (s := s.data.toList) (chars := [0, 47]) (by rw [← hk2]; exact HN.out)
        have h2 : hasB s = false := by unfold hasB Lib.containsAny; rw [show two.data.toList = [0, 47] from rfl, h1]; simp
        unfold nameB; rw [h2]; simp
      have HW : Hid (wiB (s.size : Int) 1 40 = decide (1 ≤ s.size ∧ s.size ≤ 40)) := by
        show _ = _
        by_cases h : 1 ≤ s.size ∧ s.size ≤ 40
        · rw [decide_eq_true h, wiB_true (by omega)]
        · rw [decide_eq_false h, wiB_false (by omega)]
      rw [HW.out] at hwi
      generalize decide (1 ≤ s.size ∧ s.size ≤ 40) = D at *
      cases D
      · go_wp2_with (go_at_call 30; refine (hwi _).mono ?_; rintro e w2 ⟨rfl, hw2⟩; rw [hw2])
        go_ret
        exact ⟨ret_bool (by rw [HH.out]; rfl), hbr⟩
      · cases k1 : (s.toList == [46])
        · have m1 : (s.toList != [46]) = true := by rw [bne, k1]; rfl
          cases k2 : (s.toList == [46, 46])
          · have m2 : (s.toList != [46, 46]) = true := by rw [bne, k2]; rfl
            rw [k1, k2] at HH
            go_wp2_with (go_at_call 30; refine (hwi _).mono ?_; rintro e w2 ⟨rfl, hw2⟩; rw [hw2])
            go_ret
            exact ⟨ret_bool (by rw [HH.out]; rfl), hbr⟩
          · have m2 : (s.toList != [46, 46]) = false := by rw [bne, k2]; rfl
            rw [k1, k2] at HH
            go_wp2_with (go_at_call 30; refine (hwi _).mono ?_; rintro e w2 ⟨rfl, hw2⟩; rw [hw2])
            go_ret
            exact ⟨ret_bool (by rw [HH.out]; rfl), hbr⟩
        · have m1 : (s.toList != [46]) = false := by rw [bne, k1]; rfl
          rw [k1] at HH
          go_wp2_with (go_at_call 30; refine (hwi _).mono ?_; rintro e w2 ⟨rfl, hw2⟩; rw [hw2])
          go_ret
          exact ⟨ret_bool (by rw [HH.out]; rfl), hbr⟩

end Go.Proofs.Ytligeanfgeajoaa
