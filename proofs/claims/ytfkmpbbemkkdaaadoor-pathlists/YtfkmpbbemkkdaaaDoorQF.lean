/-
  The document's formed.
-/
import Derived.Test.YtfkmpbbemkkdaaaDoorQC
namespace Go.Proofs.YtfkmpbbemkkdaaaDoor
open Go.RowKit Go.Shelf

/-- Up to place j + 1 no stroke stands behind a stroke, and none at the end. -/
def Run1 (l : List UInt8) (j : Nat) : Prop := ∀ i : Nat, i < j → l[i + 1]? = some 47 → l[i]? ≠ some 47 ∧ i + 2 ≠ l.length
theorem Run1.fine {l : List UInt8} {j : Nat} (h : Run1 l j) (hj : l.length ≤ j + 1) (h2 : 2 ≤ l.length) : noTwo l = true := by
  refine (noTwo_iff l).2 fun k hk => ?_
  have hkl : k < l.length := by
    rcases Nat.lt_or_ge k l.length with g' | g'
    · exact g'
    · rw [List.getElem?_eq_none g'] at hk; cases hk
  rcases Nat.lt_or_ge (k + 1) l.length with g | g
  · refine ⟨_, List.getElem?_eq_getElem g, fun e => ?_⟩
    exact (h k (by omega) (by rw [List.getElem?_eq_getElem g, e])).1 hk
  · cases k with
    | zero => omega
    | succ k => exact absurd (show k + 2 = l.length by omega) (h k (by omega) hk).2
theorem run_bad1 {l : List UInt8} {j : Nat} (h1 : l[j + 1]? = some 47) (h2 : l[j]? = some 47) : noTwo l = false := by
  cases e : noTwo l
  · rfl
  · obtain ⟨b, hb, hn⟩ := (noTwo_iff l).1 e j h2
    rw [h1] at hb; cases hb; exact absurd rfl hn
theorem run_bad2 {l : List UInt8} {j : Nat} (h1 : l[j + 1]? = some 47) (h2 : j + 2 = l.length) : noTwo l = false := by
  cases e : noTwo l
  · rfl
  · obtain ⟨b, hb, hn⟩ := (noTwo_iff l).1 e (j + 1) h1
    rw [List.getElem?_eq_none (by omega)] at hb; cases hb

set_option maxRecDepth 100000 in
set_option maxHeartbeats 1000000 in
theorem rformed_any (s : ByteArray) (w : World) :
    Calls Tryd.prog 16 #[.string s] w fun e w' => e = .returned (.bool (formed s.data.toList)) ∧ Below w.heap.size w w' := by
  have hl := len_eq s
  by_cases h1 : (s.size : Int) < 1
  · have HV : Hid (formed s.data.toList = false) := by
      show _ = _
      refine not_formed_head ?_
      rw [List.length_eq_zero_iff.1 (show s.data.toList.length = 0 by omega)]; simp
    clear hl
    go_enter Tryd.func16, Tryd.ntmps16
    go_wp2
    go_ret
    exact ⟨ret_bool HV.out.symm, Below.refl _ _⟩
  by_cases h2 : (400 : Int) < s.size
  · have HV : Hid (formed s.data.toList = false) := by show _ = _; unfold formed; rw [decide_eq_false (by omega)]; rfl
    clear hl
    go_enter Tryd.func16, Tryd.ntmps16
    go_wp2
    go_ret
    exact ⟨ret_bool HV.out.symm, Below.refl _ _⟩
  have h0 : 0 < s.size := by omega
  obtain ⟨y, hy⟩ : ∃ y : UInt8, s[0]'h0 = y := ⟨_, rfl⟩
  have hyl := dat_at s 0 h0
  rw [hy] at hyl
  have HY := hid hyl
  clear hyl
  by_cases c0 : y = 47
  case neg =>
    have HV : Hid (formed s.data.toList = false) := by
      show _ = _
      refine not_formed_head ?_
      rw [List.head?_eq_getElem?, HY.out]; simpa using c0
    have n0 : ((y.toNat : Int) != 47) = true := by
      have := u8_beq (x := y) 47 47 rfl
      rw [bne, this]; simpa using c0
    clear hl
    go_enter Tryd.func16, Tryd.ntmps16
    go_wp2
    go_ret
    exact ⟨ret_bool HV.out.symm, Below.refl _ _⟩
  subst c0
  have HF : Hid (formed s.data.toList = (s.data.toList == [47] || noTwo s.data.toList)) := by
    show _ = _
    unfold formed
    rw [decide_eq_true (by omega), List.head?_eq_getElem?, HY.out]; rfl
  have HL := hid hl
  clear hl
  go_enter Tryd.func16, Tryd.ntmps16
  go_wp2
  go_loopw [3] (fun i wr => ∃ j : Nat, j + 1 ≤ s.size ∧ i = .int .i64 ((j : Int) + 1) ∧ Below w.heap.size w wr ∧ Hid (Run1 s.data.toList j)) (fun i _ => s.size - (intOf i).toNat)
  case atStart => exact ⟨0, by omega, rfl, Below.refl _ _, fun i hi => by omega⟩
  case round =>
    obtain ⟨j, hj, rfl, hbr, HR⟩ := hrel
    by_cases hlt : j + 1 < s.size
    · have hlt0 : j < s.size := by omega
      obtain ⟨x, hx⟩ : ∃ x : UInt8, s[j + 1]'hlt = x := ⟨_, rfl⟩
      obtain ⟨z, hz⟩ : ∃ z : UInt8, s[j]'hlt0 = z := ⟨_, rfl⟩
      have hxl := dat_at s (j + 1) hlt
      have hzl := dat_at s j hlt0
      rw [hx] at hxl
      rw [hz] at hzl
      have HX := hid hxl
      have HZ := hid hzl
      have hi0 : (0 : Int) ≤ (j : Int) + 1 := by omega
      have hi1 : (j : Int) + 1 < (s.size : Int) := by omega
      have hi2 : (0 : Int) ≤ (j : Int) := by omega
      have hi3 : (j : Int) < (s.size : Int) := by omega
      have et : ((j : Int) + 1).toNat = j + 1 := by omega
      have es : (j : Int) + 1 - 1 = (j : Int) := by omega
      clear hxl hzl
      have HNE : Hid ((s.data.toList == [47]) = false) := by
        show _ = _
        cases e : (s.data.toList == [47])
        · rfl
        · have h1 := HL.out
          rw [eq_of_beq e] at h1; simp at h1; omega
      by_cases c1 : x = 47
      · by_cases c2 : z = 47
        · have HB : Hid (formed s.data.toList = false) := by
            show _ = _
            rw [HF.out, HNE.out, run_bad1 (by rw [HX.out, c1]) (by rw [HZ.out, c2])]; rfl
          subst c1 c2
          go_wp2
          go_ret
          exact ⟨ret_bool HB.out.symm, hbr⟩
        · have n2 : ((z.toNat : Int) == 47) = false := by rw [u8_beq 47 47 rfl]; simpa using c2
          by_cases c3 : j + 2 = s.size
          · have HB : Hid (formed s.data.toList = false) := by
              show _ = _
              rw [HF.out, HNE.out, run_bad2 (by rw [HX.out, c1]) (by rw [HL.out]; exact c3)]; rfl
            have n3 : ((j : Int) + 1 == (s.size : Int) - 1) = true := by simp; omega
            subst c1
            clear c3
            go_wp2
            go_ret
            exact ⟨ret_bool HB.out.symm, hbr⟩
          · have n3 : ((j : Int) + 1 == (s.size : Int) - 1) = false := by simp; omega
            have HR2 : Hid (Run1 s.data.toList (j + 1)) := by
              intro i hi h
              rcases Nat.lt_or_ge i j with g | g
              · exact HR.out i g h
              · obtain rfl : i = j := by omega
                exact ⟨by rw [HZ.out]; simpa using c2, by rw [HL.out]; exact c3⟩
            subst c1
            go_wp2
            exact ⟨⟨j + 1, by omega, by go_num, hbr, HR2⟩, by simp [intOf]; omega⟩
      · have n1 : ((x.toNat : Int) == 47) = false := by rw [u8_beq 47 47 rfl]; simpa using c1
        have HR2 : Hid (Run1 s.data.toList (j + 1)) := by
          intro i hi h
          rcases Nat.lt_or_ge i j with g | g
          · exact HR.out i g h
          · obtain rfl : i = j := by omega
            rw [HX.out] at h; cases h; exact absurd rfl c1
        go_wp2
        exact ⟨⟨j + 1, by omega, by go_num, hbr, HR2⟩, by simp [intOf]; omega⟩
    · have HG : Hid (formed s.data.toList = true) := by
        show _ = _
        rw [HF.out]
        by_cases h3 : 2 ≤ s.data.toList.length
        · rw [HR.out.fine (by rw [HL.out]; omega) h3, Bool.or_true]
        · have h4 := HL.out
          have h5 := HY.out
          match hd : s.data.toList, h3, h4, h5 with
          | [], _, h4, _ => simp at h4; omega
          | [a], _, _, h5 => simp at h5; subst h5; rfl
          | _ :: _ :: _, h3, _, _ => simp at h3
      go_wp2
      go_ret
      exact ⟨ret_bool HG.out.symm, hbr⟩

end Go.Proofs.YtfkmpbbemkkdaaaDoor
