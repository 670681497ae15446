/-
  SlotSector and ReadSlot, whatever the bytes of a name.
-/
import Derived.Test.YtligeanfgeajoaaLH3
import Derived.Test.YtligeanfgeajoaaLN2
namespace Go.Proofs.Ytligeanfgeajoaa
open Go.RowKit Go.Shelf

theorem idxAny_any (s : ByteArray) (h : s.size ≤ 40) (w : World) :
    Calls Try.prog 61 #[.string s, .string ⟨#[0, 47]⟩] w fun e w' => e = .returned (.int .i64 (Lib.indexAny s.data.toList [0, 47])) ∧ Below w.heap.size w w' := by
  by_cases h8 : s.size ≤ 8
  · exact idxAny_short s h8 w
  · refine (Any.strings_IndexAny_long (P := Try.prog) (ρ := layAny_ren) { layAny with } (zero_of_info set116).1 (zero_of_info set116).2 s two w (by decide) (by omega) (by omega) (by decide) (fun j b hb => by
      match j, hb with
      | 0, hb => cases hb; decide
      | 1, hb => cases hb; decide
      | j + 2, hb => simp [two] at hb)).mono fun e w' ⟨h1, h2⟩ => ⟨h1, ?_⟩
    rw [h2]
    exact ((Below.refl _ _).alloc (Nat.le_refl _) _).alloc (by simp) _

set_option maxHeartbeats 1000000 in
theorem has_all (s : ByteArray) (h : s.size ≤ 40) : Has s := by
  intro w
  have c := idxAny_any s h w
  have HV : Hid (hasB s = decide (0 ≤ Lib.indexAny s.data.toList [0, 47])) := rfl
  unfold two
  generalize Lib.indexAny s.data.toList [0, 47] = I at *
  go_enter Try.func60, Try.ntmps60
  go_wp2_with (go_at_call 61; refine c.mono ?_; rintro e w2 ⟨rfl, hb2⟩)
  go_ret
  exact ⟨by rw [HV.out]; rfl, hb2⟩

theorem nameOf_size {s : List Int} (hs : IsSec s) (hK : szOf s ≤ 40) : (nameOf s).size ≤ 40 := by
  have hl := hs.1
  have : (nameOf s).size = ((s.drop 5).take (szOf s)).length := by simp [nameOf, strOf, ByteArray.size]
  rw [this]
  simp
  omega
theorem slotSector_all (n : Int) (s : ByteArray) (w : World) :
    Calls Try.prog 24 #[.agg #[.int .i64 n, .string s]] w fun e w' => e = .returned (.tuple #[.agg (SA (slotS n s)), .int .i64 (slotE n s)]) ∧ Below w.heap.size w w' := slotSector_any n s (has_all s) w
theorem readSlot_all (s : List Int) (hs : IsSec s) (w : World) :
    Calls Try.prog 26 #[.agg (SA s)] w fun e w' => e = .returned (.tuple #[.agg (SLA (rdSlot (getV s 0 4) s).1 (rdSlot (getV s 0 4) s).2.1), .int .i64 (rdSlot (getV s 0 4) s).2.2]) ∧ Below w.heap.size w w' :=
  readSlot_any s hs (fun hK => has_all _ (nameOf_size hs hK)) w

end Go.Proofs.Ytligeanfgeajoaa
