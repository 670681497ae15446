/-
  The document's Check and formed.
-/
import Derived.Test.YtfkmpbbemkkdaaaDoorPK
namespace Go.Proofs.YtfkmpbbemkkdaaaDoor
open Go.RowKit Go.Shelf

theorem u8_beq {x : UInt8} (n : Int) (c : UInt8) (hc : (c.toNat : Int) = n) : ((x.toNat : Int) == n) = (x == c) := by
  cases e : (x == c)
  · simp only [beq_eq_false_iff_ne]; intro h; have : x = c := UInt8.toNat_inj.1 (by omega); simp [this] at e
  · rw [eq_of_beq e, hc]; simp
def dotsL (l : List UInt8) : Bool := l.all (· == 46)
theorem dots_take {l : List UInt8} {k : Nat} {x : UInt8} (h : l[k]? = some x) : dotsL (l.take (k + 1)) = (dotsL (l.take k) && (x == 46)) := by
  unfold dotsL; rw [List.take_add_one, h]; simp
theorem dots_two {l : List UInt8} (h1 : 1 ≤ l.length) (h2 : l.length ≤ 2) (h : dotsL l = true) : l = [46] ∨ l = [46, 46] := by
  match l, h1, h2 with
  | [a], _, _ => simp [dotsL] at h; left; rw [h]
  | [a, b], _, _ => simp [dotsL] at h; right; rw [h.1, h.2]
  | _ :: _ :: _ :: _, _, h2 => simp at h2
theorem chk_end {l : List UInt8} (h1 : 1 ≤ l.length) (h2 : l.length ≤ 40) (hc : Clean l l.length) : chk l = if dotsL l = true ∧ l.length ≤ 2 then 71 else 0 := by
  split
  · rename_i h
    refine chk_bad fun hk => ?_
    rcases dots_two h1 h.2 h.1 with e | e
    · exact (ok_parts hk).2.2.1 e
    · exact (ok_parts hk).2.2.2.1 e
  · rename_i h
    refine chk_ok (okName_of h1 h2 (fun e => h ?_) (fun e => h ?_) hc.all)
    · subst e; exact ⟨by decide, by decide⟩
    · subst e; exact ⟨by decide, by decide⟩

set_option maxRecDepth 100000 in
set_option maxHeartbeats 1000000 in
theorem rcheck_any (s : ByteArray) (w : World) :
    Calls Tryd.prog 13 #[.string s] w fun e w' => e = .returned (.int .i64 (chk s.data.toList)) ∧ Below w.heap.size w w' := by
  have hl := len_eq s
  by_cases h1 : (s.size : Int) < 1
  · have HV : Hid (chk s.data.toList = 71) := by exact chk_bad fun h => by have := (ok_parts h).1; omega
    clear hl
    go_enter Tryd.func13, Tryd.ntmps13
    go_wp2
    go_ret
    exact ⟨ret_int HV.out.symm, Below.refl _ _⟩
  by_cases h2 : (40 : Int) < s.size
  · have HV : Hid (chk s.data.toList = 71) := by exact chk_bad fun h => by have := (ok_parts h).2.1; omega
    clear hl
    go_enter Tryd.func13, Tryd.ntmps13
    go_wp2
    go_ret
    exact ⟨ret_int HV.out.symm, Below.refl _ _⟩
  have HE : Hid (Clean s.data.toList s.data.toList.length → chk s.data.toList = if dotsL s.data.toList = true ∧ s.data.toList.length ≤ 2 then 71 else 0) := fun hc => chk_end (by omega) (by omega) hc
  have HL := hid hl
  clear hl
  go_enter Tryd.func13, Tryd.ntmps13
  go_wp2
  go_loopw [3, 4] (fun d i wr => ∃ (k : Nat) (b : Bool), k ≤ s.size ∧ i = .int .i64 k ∧ d = .bool b ∧ Hid (b = dotsL (s.data.toList.take k)) ∧ wr = w ∧ Hid (Clean s.data.toList k)) (fun _ i _ => s.size - (intOf i).toNat)
  case atStart => exact ⟨0, true, by omega, rfl, rfl, (by rfl : true = dotsL []), rfl, fun k b hk => by omega⟩
  case round =>
    obtain ⟨k, b, hk, rfl, rfl, HD, hw, HC⟩ := hrel
    have hw' := hw.symm
    subst hw'
    clear hw
    by_cases hlt : k < s.size
    · obtain ⟨x, hx⟩ : ∃ x : UInt8, s[k]'hlt = x := ⟨_, rfl⟩
      have hxl := dat_at s k hlt
      rw [hx] at hxl
      have HX := hid hxl
      have hi0 : (0 : Int) ≤ (k : Int) := by omega
      have hi1 : (k : Int) < (s.size : Int) := by omega
      clear hxl
      have BAD : Hid (x = 0 ∨ x = 47 → chk s.data.toList = 71) := fun hx => chk_bad fun h => by
        have hm : x ∈ s.data.toList := List.mem_of_getElem? HX.out
        rcases hx with e | e
        · exact (ok_parts h).2.2.2.2.1 x hm e
        · exact (ok_parts h).2.2.2.2.2 x hm e
      by_cases c0 : x = 0
      · have HB := hid (BAD.out (.inl c0))
        subst c0
        go_wp2
        go_ret
        exact ⟨ret_int HB.out.symm, Below.refl _ _⟩
      have n0 : ((x.toNat : Int) == 0) = false := by rw [u8_beq 0 0 rfl]; simpa using c0
      by_cases c1 : x = 47
      · have HB := hid (BAD.out (.inr c1))
        subst c1
        clear n0
        go_wp2
        go_ret
        exact ⟨ret_int HB.out.symm, Below.refl _ _⟩
      have n1 : ((x.toNat : Int) == 47) = false := by rw [u8_beq 47 47 rfl]; simpa using c1
      have HCC := hid (HC.out.succ HX.out ⟨c0, c1⟩)
      have HDT := hid (dots_take HX.out)
      rw [← HD.out] at HDT
      have n2 := u8_beq (x := x) 46 46 rfl
      generalize hz : (x == 46) = z at *
      clear c0 c1 hz
      cases b <;> cases z
      all_goals
        go_wp2
        exact ⟨⟨k + 1, _, by omega, by go_num, rfl, HDT.out.symm, by first | trivial | rfl, HCC⟩, by simp [intOf]; omega⟩
    · have HFin := hid (HE.out (by rw [HL.out]; have : k = s.size := by omega
                                   rw [← this]; exact HC.out))
      have HDF : Hid (b = dotsL s.data.toList) := by
        show _ = _
        rw [HD.out, List.take_of_length_le (by rw [HL.out]; omega)]
      rw [← HDF.out, HL.out] at HFin
      cases b
      · have HF : Hid (chk s.data.toList = 0) := by show _ = _; rw [HFin.out, if_neg (by simp)]
        go_wp2
        go_ret
        exact ⟨ret_int HF.out.symm, Below.refl _ _⟩
      · by_cases h3 : (s.size : Int) ≤ 2
        · have HF : Hid (chk s.data.toList = 71) := by show _ = _; rw [HFin.out, if_pos ⟨rfl, by omega⟩]
          go_wp2
          go_ret
          exact ⟨ret_int HF.out.symm, Below.refl _ _⟩
        · have HF : Hid (chk s.data.toList = 0) := by show _ = _; rw [HFin.out, if_neg (fun h => h3 (by omega))]
          go_wp2
          go_ret
          exact ⟨ret_int HF.out.symm, Below.refl _ _⟩

end Go.Proofs.YtfkmpbbemkkdaaaDoor
