/-
  The walk of PathTells.
-/
import Derived.Test.YtcckjkmkegpekaaDoorQS2
namespace Go.Proofs.YtcckjkmkegpekaaDoor
open Go.RowKit Go.Shelf

set_option maxRecDepth 100000 in
set_option maxHeartbeats 1000000 in
theorem told_any (s : ByteArray) (w : World) (hm : ML w) : Calls Tryd.prog 10 #[.string s] w fun e w' => e = .returned (.bool true) ∧ Below w.heap.size w w' := by
  have hS := split_any s w hm
  have hR := fun w' => rsplit_any s w'
  have hC := fun w' => check_any s w'
  have hD := fun w' => rcheck_any s w'
  generalize chk s.data.toList = C at *
  have HLB : Hid ((splitR s.data.toList).1.length ≤ 401) := by
    show _ ≤ _
    rcases split_err (l := s.data.toList) with ⟨xs, h⟩ | h | h
    · have h1 := (split_ok h).2.1
      have h2 := sizes_len xs
      rw [h]; show xs.length ≤ _; omega
    · rw [h]; simp
    · rw [h]; simp
  generalize splitR s.data.toList = R at *
  clear hm
  go_enter Tryd.func10, Tryd.ntmps10
  go_wp2_with (first
    | (go_at_call 14; go_must (refine hS.mono ?_; rintro e w2 ⟨a2, l2, rfl, d2, o2, hb2⟩; have HA2 := hid o2.at; have HD2 := hid d2; clear d2 o2))
    | (go_at_call 15; go_must (refine (hR _).mono ?_; rintro e w3 ⟨a3, c3, l3, rfl, d3, o3, hb3⟩; have HA3 := hid o3; have HA23 := hid (HA2.out.below hb3); have HB3 := hid (btr hb2 hb3 hb2.size); have hEq : l2 = l3 := datas_inj (by rw [HD2.out, d3]); subst hEq; clear d3 o3))
    | (go_at_call 19; go_must (refine (hC _).mono ?_; rintro e w4 ⟨rfl, hb4⟩; have HB4 := hid (btr HB3.out hb4 HB3.out.size); have HA4 := hid (HA3.out.below hb4); have HA24 := hid (HA23.out.below hb4); clear hb4))
    | (go_at_call 20; go_must (refine (hD _).mono ?_; rintro e w5 ⟨rfl, hb5⟩; have HB5 := hid (btr HB4.out hb5 HB4.out.size); have HA5 := hid (HA4.out.below hb5); have HA25 := hid (HA24.out.below hb5); have HLN : Hid (l2.length ≤ 401) := (by have h1 := HLB.out; rw [← HD2.out, datas_len] at h1; exact h1); clear hb5))
    | (go_at_call 13; go_must (refine (same_is l2 l2 true a2 a3 _ _ _ c3 _ rfl rfl (by have := HLN.out; omega) (by have := HLN.out; omega) HA25.out.at HA5.out.at (by simp)).mono ?_; rintro e w6 ⟨rfl, hb6⟩; have HB6 := hid (btr HB5.out hb6 HB5.out.size); clear hb6))
    | fail)
  go_ret
  exact ⟨rfl, HB6.out⟩

set_option maxRecDepth 100000 in
set_option maxHeartbeats 2000000 in
theorem tells_walk (a b : ByteArray) (w : World) (hm : ML w) (ha : a.size ≤ 140737488355328) (hb : b.size ≤ 140737488355328) : Calls Tryd.prog 4 #[.string a, .string b] w fun e w' => e = .returned (.bool true) ∧ Below w.heap.size w w' := by
  have hT := fun s w' hm' => told_any s w' hm'
  have HT := hid hT
  have hK := fun w' hm' => known_any w' hm'
  have HM := hid hm
  obtain ⟨p1, hp1⟩ : ∃ y, a ++ (⟨#[47]⟩ : ByteArray) = y := ⟨_, rfl⟩
  obtain ⟨p2, hp2⟩ : ∃ y, p1 ++ b = y := ⟨_, rfl⟩
  have hr1 : a.size + (⟨#[47]⟩ : ByteArray).size ≤ 9223372036854775807 := by have : (⟨#[47]⟩ : ByteArray).size = 1 := rfl; omega
  have hr2 : p1.size + b.size ≤ 9223372036854775807 := by rw [← hp1, ByteArray.size_append]; have : (⟨#[47]⟩ : ByteArray).size = 1 := rfl; omega
  have hT1 := HT.out a w hm
  clear hm hT
  go_enter Tryd.func4, Tryd.ntmps4
  go_wp2_with (first
    | (go_at_call 10; go_must (first
        | (refine hT1.mono ?_; rintro e w2 ⟨rfl, hb2⟩; have HB2 := hid hb2; have hT2 := HT.out b w2 (HM.out.below hb2); clear hT1 hb2)
        | (refine hT2.mono ?_; rintro e w3 ⟨rfl, hb3⟩; have HB3 := hid (btr HB2.out hb3 HB2.out.size); have hT3 := HT.out p2 w3 (HM.out.below HB3.out); clear hT2 hb3)
        | (refine hT3.mono ?_; rintro e w4 ⟨rfl, hb4⟩; have HB4 := hid (btr HB3.out hb4 HB3.out.size); clear hT3 hb4)))
    | fail)
  clear hp1 hp2 hr1 hr2
  go_loopw [5] (fun i wr => ∃ k : Nat, (k ≤ a.size + 1 ∧ (k = a.size + 1 → a.size ≤ 500)) ∧ i = .int .i64 k ∧ Below w.heap.size w wr) (fun i _ => a.size + 1 - (intOf i).toNat)
  case atStart => exact ⟨0, ⟨by omega, fun h => by omega⟩, rfl, HB4.out⟩
  case round =>
    obtain ⟨k, hk, rfl, hbr⟩ := hrel
    obtain ⟨Wx, hWx⟩ : ∃ y, y = wr := ⟨_, rfl⟩
    subst hWx
    have HBr := hid hbr
    by_cases hlt : k ≤ a.size
    · by_cases h5 : a.size ≤ 500
      · have hi0 : (0 : Int) ≤ (k : Int) := by omega
        have hi1 : (k : Int) ≤ (a.size : Int) := by omega
        have i5 : (a.size : Int) ≤ 500 := by omega
        have hX1 := HT.out (a.extract 0 k) Wx (HM.out.below hbr)
        clear hbr
        go_wp2_with (first
          | (go_at_call 10; go_must (first
              | (refine hX1.mono ?_; rintro e w5 ⟨rfl, hb5⟩; have HB5 := hid (btr HBr.out hb5 HBr.out.size); have hX2 := HT.out (a.extract k a.size) w5 (HM.out.below HB5.out); clear hX1 hb5)
              | (refine hX2.mono ?_; rintro e w6 ⟨rfl, hb6⟩; have HB6 := hid (btr HB5.out hb6 HB5.out.size); clear hX2 hb6)))
          | fail)
        exact ⟨⟨k + 1, ⟨by omega, fun _ => h5⟩, by go_num, HB6.out⟩, by simp [intOf]; omega⟩
      · have i5 : (500 : Int) < (a.size : Int) := by omega
        have hX1 := HT.out a Wx (HM.out.below hbr)
        clear hbr
        go_wp2_with (first
          | (go_at_call 10; go_must (refine hX1.mono ?_; rintro e w5 ⟨rfl, hb5⟩; have HB5 := hid (btr HBr.out hb5 HBr.out.size); clear hX1 hb5))
          | (go_at_call 9; go_must (refine (hK _ (HM.out.below HB5.out)).mono ?_; rintro e w6 ⟨rfl, hb6⟩; have HB6 := hid (btr HB5.out hb6 HB5.out.size); clear hb6))
          | fail)
        go_ret
        exact ⟨rfl, HB6.out⟩
    · have hX1 := HT.out a Wx (HM.out.below hbr)
      have i1 : (a.size : Int) < (k : Int) := by omega
      clear hbr
      go_wp2_with (first
        | (go_at_call 10; go_must (refine hX1.mono ?_; rintro e w5 ⟨rfl, hb5⟩; have HB5 := hid (btr HBr.out hb5 HBr.out.size); clear hX1 hb5))
        | (go_at_call 9; go_must (refine (hK _ (HM.out.below HB5.out)).mono ?_; rintro e w6 ⟨rfl, hb6⟩; have HB6 := hid (btr HB5.out hb6 HB5.out.size); clear hb6))
        | fail)
      go_ret
      exact ⟨rfl, HB6.out⟩

end Go.Proofs.YtcckjkmkegpekaaDoor
