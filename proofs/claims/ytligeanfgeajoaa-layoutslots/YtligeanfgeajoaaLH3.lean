/-
  strings.ContainsAny tells of every name of at most 40 bytes, whatever they are, whether it has the zero byte or the stroke.
-/
import Derived.Test.YtligeanfgeajoaaLH2
namespace Go.Proofs.Ytligeanfgeajoaa
open Go.RowKit Go.Shelf

theorem run_nextG (W : World) (g : Nat) (s : ByteArray) (pos : Nat) (ty : TypeId) (hg : W.heap[g]? = some (.stringIter s pos)) (h : pos < s.size) :
    (Instr.next (.pointer (some ⟨g, 0, none⟩)) true ty).run Try.prog W =
      .ok (.tuple #[.bool true, .int .i64 pos, .int .i32 (Utf8.decode s pos).1]) { W with heap := W.heap.setIfInBounds g (.stringIter s (pos + (Utf8.decode s pos).2)) } := by
  simp only [Instr.next, getObj, setObj, Sem.run_bind, Sem.run, hg, Result.andThen, h, if_true]
  simp [goInt]
theorem run_nextE (W : World) (g : Nat) (s : ByteArray) (pos : Nat) (ty : TypeId) (hg : W.heap[g]? = some (.stringIter s pos)) (h : ¬ pos < s.size) :
    (Instr.next (.pointer (some ⟨g, 0, none⟩)) true ty).run Try.prog W = .ok (.tuple #[.bool false]) W := by
  simp [Instr.next, getObj, Sem.run, hg, h]
theorem iter_at {W : World} {g : Nat} {o o' : Obj} (hg : W.heap[g]? = some o) : ({ W with heap := W.heap.setIfInBounds g o' } : World).heap[g]? = some o' := by
  have := slt hg
  show (W.heap.setIfInBounds g o')[g]? = _
  simp [this]
theorem iter_below {B : Nat} {w W : World} {g : Nat} {o' : Obj} (hb : Below B w W) (hB : B ≤ g) : Below B w { W with heap := W.heap.setIfInBounds g o' } :=
  hb.trans ⟨rfl, rfl, rfl, by show W.heap.size ≤ (W.heap.setIfInBounds g o').size; simp, fun k hk => by show (W.heap.setIfInBounds g o')[k]? = _; rw [Array.getElem?_setIfInBounds]; rw [if_neg (by omega)]⟩

theorem two_list : (⟨#[0, 47]⟩ : ByteArray).toList = [0, 47] := by rw [ByteArray.toList_eq]
theorem not_two {x : UInt8} (h : 128 ≤ x.toNat) : ([0, 47] : List UInt8).contains x = false := by
  cases e : ([0, 47] : List UInt8).contains x
  · rfl
  · simp at e
    rcases e with rfl | rfl
    · exact absurd h (by decide)
    · exact absurd h (by decide)
theorem noAny_more {s : ByteArray} {i : Nat} : ∀ n : Nat, Lib.NoAny s.data.toList [0, 47] i → (∀ k, k < n → i + k < s.size ∧ 128 ≤ (s.get! (i + k)).toNat) → Lib.NoAny s.data.toList [0, 47] (i + n)
  | 0, h, _ => h
  | n + 1, h, hk => by
    have ih := noAny_more n h (fun k hk' => hk k (by omega))
    have hn := hk n (by omega)
    have e : s.data.toList[i + n]? = some (s[i + n]'hn.1) := Lib.data_getElem? s (i + n) hn.1
    have e2 : s.get! (i + n) = s[i + n]'hn.1 := by
      show s.data[i + n]! = _
      simp [getElem!_pos, hn.1]
      rfl
    rw [e2] at hn
    exact ih.succ e (not_two hn.2)

set_option maxRecDepth 100000 in
set_option maxHeartbeats 4000000 in
theorem idxAny_short (s : ByteArray) (h8 : s.size ≤ 8) (w : World) :
    Calls Try.prog 61 #[.string s, .string ⟨#[0, 47]⟩] w fun e w' => e = .returned (.int .i64 (Lib.indexAny s.data.toList [0, 47])) ∧ Below w.heap.size w w' := by
  have h8z : decide ((8 : Int) < (s.size : Int)) = false := decide_eq_false (by omega)
  have hsh := fun w' => Any.strings_shouldUseASCIISet (P := Try.prog) (ρ := layAny_ren) { layAny with } (s.size : Int) w'
  rw [h8z] at hsh
  have hsh' : ∀ w', Calls Try.prog 63 #[.int .i64 (s.size : Int)] w' fun e w'' => e = .returned (.bool false) ∧ w'' = w' := hsh
  have e2 := two_list
  have hra : ∀ (r : Int) (w' : World), 0 ≤ r → r < 128 → Calls Try.prog 62 #[.string ⟨#[0, 47]⟩, .int .i32 r] w' fun e w'' => e = .returned (.int .i64 (Lib.indexByte [0, 47] r.toNat.toUInt8)) ∧ w'' = w' := fun r w' h0 h1 => Any.strings_IndexRune_ascii (P := Try.prog) (ρ := layAny_ren) { layAny with } ⟨#[0, 47]⟩ r w' h0 h1
  have HRA := hid hra
  clear hsh hra
  go_enter Try.func61, Try.ntmps61
  go_wp2_with (go_at_call 63; refine (hsh' _).mono ?_; rintro e w2 ⟨rfl, hw2⟩; have hw3 := hw2.symm; subst hw3)
  go_loopg [9, 10] s.size (fun g _ _ wx => ∃ i : Nat, i + g = s.size ∧ wx.heap[w.heap.size]? = some (.stringIter s i) ∧ Below w.heap.size w wx ∧ Hid (Lib.NoAny s.data.toList [0, 47] i))
  case atStart => exact ⟨0, by omega, w.iter_heap s 0, (Below.refl _ _).alloc (Nat.le_refl _) _, Lib.NoAny.zero _ _⟩
  case round =>
    obtain ⟨i, hig, hit, hbw, HN⟩ := hrel
    obtain ⟨Wx, hWx⟩ : ∃ y, y = wr := ⟨_, rfl⟩
    subst hWx
    cases gk with
    | zero =>
      obtain rfl : i = s.size := by omega
      have hnx := fun ty => run_nextE Wx w.heap.size s s.size ty hit (by omega)
      clear hit
      go_wp2
      go_ret
      exact ⟨by rw [Lib.indexAny_none (by rw [← Lib.size_eq]; exact HN.out)]; rfl, hbw⟩
    | succ g =>
      have hi : i < s.size := by omega
      have hnx := fun ty => run_nextG Wx w.heap.size s i ty hit hi
      have hxl : s.data.toList[i]? = some (s[i]'hi) := Lib.data_getElem? s i hi
      have eget : s.get! i = s[i]'hi := by
        show s.data[i]! = _
        simp [getElem!_pos, hi]
        rfl
      by_cases hlo : (s[i]'hi).toNat < 128
      · rw [decode_ascii s i hi hlo] at hnx
        obtain ⟨x, hx⟩ : ∃ x : UInt8, s[i]'hi = x := ⟨_, rfl⟩
        rw [hx] at hnx hxl hlo
        obtain ⟨W2, hW2⟩ : ∃ y, y = ({ Wx with heap := Wx.heap.setIfInBounds w.heap.size (.stringIter s (i + 1)) } : World) := ⟨_, rfl⟩
        have t2 : W2.heap[w.heap.size]? = some (.stringIter s (i + 1)) := by rw [hW2]; exact iter_at hit
        have b2 : Below w.heap.size w W2 := by rw [hW2]; exact iter_below hbw (Nat.le_refl _)
        have hnx' : ∀ ty, (Instr.next (.pointer (some ⟨w.heap.size, 0, none⟩)) true ty).run Try.prog Wx = .ok (.tuple #[.bool true, .int .i64 i, .int .i32 (x.toNat : Int)]) W2 := fun ty => by rw [hW2]; exact hnx ty
        have hcall := HRA.out (x.toNat : Int) W2 (by omega) (by omega)
        have hcon := Lib.contains_iff_indexByte [0, 47] x
        have hback : ((x.toNat : Int)).toNat.toUInt8 = x := by simp
        rw [hback] at hcall
        have HX := hid hxl
        clear hnx hW2 hit eget hx hxl
        cases hin : ([0, 47] : List UInt8).contains x
        · rw [hin] at hcon
          have hlt : ¬ ((0 : Int) ≤ Lib.indexByte [0, 47] x) := of_decide_eq_false hcon.symm
          clear hcon
          generalize Lib.indexByte [0, 47] x = IB at *
          go_wp2_with (go_at_call 62; refine hcall.mono ?_; rintro e w5 ⟨rfl, hw5⟩; rw [hw5])
          go_roundg g
          case measure => omega
          case rel => exact ⟨i + 1, by omega, t2, b2, HN.out.succ HX.out hin⟩
        · rw [hin] at hcon
          have hge : (0 : Int) ≤ Lib.indexByte [0, 47] x := of_decide_eq_true hcon.symm
          clear hcon
          generalize Lib.indexByte [0, 47] x = IB at *
          go_wp2_with (go_at_call 62; refine hcall.mono ?_; rintro e w5 ⟨rfl, hw5⟩; rw [hw5])
          go_ret
          exact ⟨by rw [Lib.indexAny_hit HN.out HX.out hin]; rfl, b2⟩
      · obtain ⟨c, n, hdec, hc0, hc1, hn1, hall⟩ := dec_hi s i hi (by rw [eget]; omega)
        rw [hdec] at hnx
        obtain ⟨W2, hW2⟩ : ∃ y, y = ({ Wx with heap := Wx.heap.setIfInBounds w.heap.size (.stringIter s (i + n)) } : World) := ⟨_, rfl⟩
        have t2 : W2.heap[w.heap.size]? = some (.stringIter s (i + n)) := by rw [hW2]; exact iter_at hit
        have b2 : Below w.heap.size w W2 := by rw [hW2]; exact iter_below hbw (Nat.le_refl _)
        have hnx' : ∀ ty, (Instr.next (.pointer (some ⟨w.heap.size, 0, none⟩)) true ty).run Try.prog Wx = .ok (.tuple #[.bool true, .int .i64 i, .int .i32 (c : Int)]) W2 := fun ty => by rw [hW2]; exact hnx ty
        have hcall : Calls Try.prog 62 #[.string ⟨#[0, 47]⟩, .int .i32 (c : Int)] W2 fun e w' => e = .returned (.int .i64 (-1)) ∧ Below W2.heap.size W2 w' := by
          by_cases he : c = 65533
          · subst he; exact rune_err W2
          · exact rune_hi c W2 (by omega) (by omega) (by omega)
        have HNN := hid (noAny_more n HN.out hall)
        have hlast := (hall (n - 1) (by omega)).1
        clear hnx hW2 hit eget hxl hlo hall hdec
        go_wp2_with (go_at_call 62; refine hcall.mono ?_; rintro e w5 ⟨rfl, hb5⟩)
        go_roundg (s.size - (i + n))
        case measure => omega
        case rel => exact ⟨i + n, by omega, by rw [hb5.block _ (slt t2)]; exact t2, btr b2 hb5 b2.size, HNN⟩

end Go.Proofs.Ytligeanfgeajoaa
