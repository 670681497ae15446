/-
  path.hasForm: whether a text is of a path's form.
-/
import Derived.Test.YthpngfmckkfipaaGreatDoorPP
import Derived.Laws.Runes
import Derived.Deep.LoopGhost
import Derived.Lib.Index
import Derived.Test.YthpngfmckkfipaaGreatDoorShelf
-- may lack
namespace Go.Proofs.YthpngfmckkfipaaGreatDoor
open Go.RowKit

theorem btr {w w1 w2 : World} {B : Nat} (h : Below w.heap.size w w1) (k : Below B w1 w2) (hB : w.heap.size ≤ B) : Below w.heap.size w w2 :=
  h.trans ⟨k.os, k.tape, k.output, k.size, fun j hj => k.block j (by omega)⟩
theorem run_next_any (w : World) (s : ByteArray) (pos : Nat) (ty : TypeId) (h : pos < s.size) :
    (Instr.next (.pointer (some ⟨w.heap.size, 0, none⟩)) true ty).run Tryz.prog (w.iter s pos) =
      .ok (.tuple #[.bool true, .int .i64 pos, .int .i32 (Utf8.decode s pos).1]) (w.iter s (pos + (Utf8.decode s pos).2)) := by
  simp only [Instr.next, getObj, setObj, Sem.run_bind, Sem.run, World.iter_heap, Result.andThen, h, if_true, World.iter_set]
  simp [goInt]

theorem dec_hi (s : ByteArray) (i : Nat) (hi : i < s.size) (h : 128 ≤ (s.get! i).toNat) :
    ∃ c n, Utf8.decode s i = (c, n) ∧ 128 ≤ c ∧ c ≤ 1114111 ∧ 1 ≤ n ∧ ∀ k, k < n → i + k < s.size ∧ 128 ≤ (s.get! (i + k)).toNat := by
  have one : ∀ k, k < 1 → i + k < s.size ∧ 128 ≤ (s.get! (i + k)).toNat := fun k hk => by
    have e : k = 0 := by omega
    subst e; exact ⟨hi, h⟩
  have h0 : ¬ (s.get! (i + 0)).toNat < 128 := by rw [Nat.add_zero]; omega
  unfold Utf8.decode
  simp only [h0, if_false]
  split
  · rename_i c2
    simp only [Bool.and_eq_true, beq_iff_eq, decide_eq_true_eq] at c2
    split
    · rename_i g
      refine ⟨_, _, rfl, g, by omega, by omega, fun k hk => ?_⟩
      match k, hk with
      | 0, _ => exact one 0 (by omega)
      | 1, _ => exact ⟨c2.2.1, by omega⟩
    · exact ⟨_, _, rfl, by decide, by decide, by omega, one⟩
  · split
    · rename_i c3
      simp only [Bool.and_eq_true, beq_iff_eq, decide_eq_true_eq] at c3
      split
      · rename_i g
        simp only [Bool.and_eq_true, decide_eq_true_eq] at g
        refine ⟨_, _, rfl, by omega, by omega, by omega, fun k hk => ?_⟩
        match k, hk with
        | 0, _ => exact one 0 (by omega)
        | 1, _ => exact ⟨c3.1.2.1, by omega⟩
        | 2, _ => exact ⟨c3.2.1, by omega⟩
      · exact ⟨_, _, rfl, by decide, by decide, by omega, one⟩
    · split
      · rename_i c4
        simp only [Bool.and_eq_true, beq_iff_eq, decide_eq_true_eq] at c4
        split
        · rename_i g
          simp only [Bool.and_eq_true, decide_eq_true_eq] at g
          have hv := g.2
          simp only [Utf8.valid, Bool.or_eq_true, Bool.and_eq_true, decide_eq_true_eq] at hv
          refine ⟨_, _, rfl, by omega, by omega, by omega, fun k hk => ?_⟩
          match k, hk with
          | 0, _ => exact one 0 (by omega)
          | 1, _ => exact ⟨c4.1.1.2.1, by omega⟩
          | 2, _ => exact ⟨c4.1.2.1, by omega⟩
          | 3, _ => exact ⟨c4.2.1, by omega⟩
        · exact ⟨_, _, rfl, by decide, by decide, by omega, one⟩
      · exact ⟨_, _, rfl, by decide, by decide, by omega, one⟩

theorem run_nextG (W : World) (g : Nat) (s : ByteArray) (pos : Nat) (ty : TypeId) (hg : W.heap[g]? = some (.stringIter s pos)) (h : pos < s.size) :
    (Instr.next (.pointer (some ⟨g, 0, none⟩)) true ty).run Tryz.prog W =
      .ok (.tuple #[.bool true, .int .i64 pos, .int .i32 (Utf8.decode s pos).1]) { W with heap := W.heap.setIfInBounds g (.stringIter s (pos + (Utf8.decode s pos).2)) } := by
  simp only [Instr.next, getObj, setObj, Sem.run_bind, Sem.run, hg, Result.andThen, h, if_true]
  simp [goInt]
theorem run_nextE (W : World) (g : Nat) (s : ByteArray) (pos : Nat) (ty : TypeId) (hg : W.heap[g]? = some (.stringIter s pos)) (h : ¬ pos < s.size) :
    (Instr.next (.pointer (some ⟨g, 0, none⟩)) true ty).run Tryz.prog W = .ok (.tuple #[.bool false]) W := by
  simp [Instr.next, getObj, Sem.run, hg, h]
theorem iter_at {W : World} {g : Nat} {o o' : Obj} (hg : W.heap[g]? = some o) : ({ W with heap := W.heap.setIfInBounds g o' } : World).heap[g]? = some o' := by
  have := slt hg
  show (W.heap.setIfInBounds g o')[g]? = _
  simp [this]
theorem iter_below {B : Nat} {w W : World} {g : Nat} {o' : Obj} (hb : Below B w W) (hB : B ≤ g) : Below B w { W with heap := W.heap.setIfInBounds g o' } :=
  hb.trans ⟨rfl, rfl, rfl, by show W.heap.size ≤ (W.heap.setIfInBounds g o').size; simp, fun k hk => by show (W.heap.setIfInBounds g o')[k]? = _; rw [Array.getElem?_setIfInBounds]; rw [if_neg (by omega)]⟩


theorem get_at (s : ByteArray) (i : Nat) (hi : i < s.size) : s.get! i = s[i]'hi := by
  show s.data[i]! = _
  simp [getElem!_pos, hi]
  rfl
theorem dat_at (s : ByteArray) (i : Nat) (hi : i < s.size) : s.data.toList[i]? = some (s[i]'hi) := Lib.data_getElem? s i hi

/-- No byte of the first i is one of the two. -/
def Clean (l : List UInt8) (i : Nat) : Prop := ∀ k b, k < i → l[k]? = some b → b ≠ 0 ∧ b ≠ 47
theorem Clean.succ {l : List UInt8} {i : Nat} {b : UInt8} (h : Clean l i) (hb : l[i]? = some b) (h0 : b ≠ 0 ∧ b ≠ 47) : Clean l (i + 1) := fun k c hk hc => by
  rcases Nat.lt_or_ge k i with g | g
  · exact h k c g hc
  · obtain rfl : k = i := by omega
    rw [hb] at hc; cases hc; exact h0
theorem hi_two {x : UInt8} (h : 128 ≤ x.toNat) : x ≠ 0 ∧ x ≠ 47 := ⟨fun e => by subst e; exact absurd h (by decide), fun e => by subst e; exact absurd h (by decide)⟩
theorem Clean.more {s : ByteArray} {i : Nat} : ∀ n : Nat, Clean s.data.toList i → (∀ k, k < n → i + k < s.size ∧ 128 ≤ (s.get! (i + k)).toNat) → Clean s.data.toList (i + n)
  | 0, h, _ => h
  | n + 1, h, hk => by
    have ih := Clean.more n h (fun k hk' => hk k (by omega))
    have hn := hk n (by omega)
    have e2 := hn.2
    rw [get_at s _ hn.1] at e2
    exact ih.succ (dat_at s (i + n) hn.1) (hi_two e2)
theorem Clean.all {l : List UInt8} (h : Clean l l.length) : ∀ b ∈ l, b ≠ 0 ∧ b ≠ 47 := fun b hb => by
  obtain ⟨k, hk, e⟩ := List.mem_iff_getElem.1 hb
  exact h k b hk (by rw [List.getElem?_eq_getElem hk, e])

def chk (l : List UInt8) : Int := if okName l = true then 0 else 71
theorem chk_ok {l : List UInt8} (h : okName l = true) : chk l = 0 := by unfold chk; rw [if_pos h]
theorem chk_bad {l : List UInt8} (h : ¬ okName l = true) : chk l = 71 := by unfold chk; rw [if_neg h]
theorem tl (s : ByteArray) : s.toList = s.data.toList := ByteArray.toList_eq s
theorem len_eq (s : ByteArray) : s.data.toList.length = s.size := by simp
theorem toList_dot : (⟨#[46]⟩ : ByteArray).toList = [46] := by rw [ByteArray.toList_eq]
theorem toList_dots : (⟨#[46, 46]⟩ : ByteArray).toList = [46, 46] := by rw [ByteArray.toList_eq]
theorem toList_stroke : (⟨#[47]⟩ : ByteArray).toList = [47] := by rw [ByteArray.toList_eq]

set_option maxRecDepth 100000 in
set_option maxHeartbeats 2000000 in
theorem check_any (s : ByteArray) (w : World) :
    Calls Tryz.prog 59 #[.string s] w fun e w' => e = .returned (.int .i64 (chk s.data.toList)) ∧ Below w.heap.size w w' := by
  have e1 := toList_dot
  have e2 := toList_dots
  have hl := len_eq s
  by_cases h1 : (s.size : Int) < 1
  · have HV : Hid (chk s.data.toList = 71) := by exact chk_bad fun h => by have := (ok_parts h).1; omega
    clear hl
    go_enter Tryz.func59, Tryz.ntmps59
    go_wp2
    go_ret
    exact ⟨ret_int HV.out.symm, Below.refl _ _⟩
  by_cases h2 : (40 : Int) < s.size
  · have HV : Hid (chk s.data.toList = 71) := by exact chk_bad fun h => by have := (ok_parts h).2.1; omega
    clear hl
    go_enter Tryz.func59, Tryz.ntmps59
    go_wp2
    go_ret
    exact ⟨ret_int HV.out.symm, Below.refl _ _⟩
  cases k1 : (s.toList == [46])
  case true =>
    have HV : Hid (chk s.data.toList = 71) := by exact chk_bad fun h => (ok_parts h).2.2.1 (by rw [← tl]; exact eq_of_beq k1)
    clear hl
    go_enter Tryz.func59, Tryz.ntmps59
    go_wp2
    go_ret
    exact ⟨ret_int HV.out.symm, Below.refl _ _⟩
  cases k2 : (s.toList == [46, 46])
  case true =>
    have HV : Hid (chk s.data.toList = 71) := by exact chk_bad fun h => (ok_parts h).2.2.2.1 (by rw [← tl]; exact eq_of_beq k2)
    clear hl
    go_enter Tryz.func59, Tryz.ntmps59
    go_wp2
    go_ret
    exact ⟨ret_int HV.out.symm, Below.refl _ _⟩
  have HG : Hid (Clean s.data.toList s.data.toList.length → chk s.data.toList = 0) := by
    exact fun hc => chk_ok (okName_of (by omega) (by omega) (fun e => by rw [tl, e] at k1; exact absurd k1 (by decide)) (fun e => by rw [tl, e] at k2; exact absurd k2 (by decide)) hc.all)
  have HL := hid hl
  clear hl
  go_enter Tryz.func59, Tryz.ntmps59
  go_wp2
  clear h1 h2 k1 k2 e1 e2
  go_loopg [4] s.size (fun g _ wx => ∃ i : Nat, i + g = s.size ∧ wx.heap[w.heap.size]? = some (.stringIter s i) ∧ Below w.heap.size w wx ∧ Hid (Clean s.data.toList i))
  case atStart => exact ⟨0, by omega, w.iter_heap s 0, (Below.refl _ _).alloc (Nat.le_refl _) _, fun k b hk => by omega⟩
  case round =>
    obtain ⟨i, hig, hit, hbw, HN⟩ := hrel
    obtain ⟨Wx, hWx⟩ : ∃ y, y = wr := ⟨_, rfl⟩
    subst hWx
    cases gk with
    | zero =>
      obtain rfl : i = s.size := by omega
      have hnx := fun ty => run_nextE Wx w.heap.size s s.size ty hit (by omega)
      clear hit
      go_wp2
      go_ret
      exact ⟨ret_int (HG.out (by rw [HL.out]; exact HN.out)).symm, hbw⟩
    | succ g =>
      have hi : i < s.size := by omega
      have hnx := fun ty => run_nextG Wx w.heap.size s i ty hit hi
      have hxl := dat_at s i hi
      have eget := get_at s i hi
      by_cases hlo : (s[i]'hi).toNat < 128
      · rw [decode_ascii s i hi hlo] at hnx
        obtain ⟨x, hx⟩ : ∃ x : UInt8, s[i]'hi = x := ⟨_, rfl⟩
        rw [hx] at hnx hxl hlo
        obtain ⟨W2, hW2⟩ : ∃ y, y = ({ Wx with heap := Wx.heap.setIfInBounds w.heap.size (.stringIter s (i + 1)) } : World) := ⟨_, rfl⟩
        have t2 : W2.heap[w.heap.size]? = some (.stringIter s (i + 1)) := by rw [hW2]; exact iter_at hit
        have b2 : Below w.heap.size w W2 := by rw [hW2]; exact iter_below hbw (Nat.le_refl _)
        have hnx' : ∀ ty, (Instr.next (.pointer (some ⟨w.heap.size, 0, none⟩)) true ty).run Tryz.prog Wx = .ok (.tuple #[.bool true, .int .i64 i, .int .i32 (x.toNat : Int)]) W2 := fun ty => by rw [hW2]; exact hnx ty
        have HX := hid hxl
        clear hnx hW2 hit eget hx hxl
        have bad : x = 0 ∨ x = 47 → chk s.data.toList = 71 := fun hx => chk_bad fun h => by
          have hm : x ∈ s.data.toList := List.mem_of_getElem? HX.out
          rcases hx with e | e
          · exact (ok_parts h).2.2.2.2.1 x hm e
          · exact (ok_parts h).2.2.2.2.2 x hm e
        have BAD := hid bad
        clear bad
        by_cases c0 : x = 0
        · subst c0
          go_wp2
          go_ret
          exact ⟨ret_int (BAD.out (by simp)).symm, b2⟩
        · by_cases c1 : x = 47
          · subst c1
            go_wp2
            go_ret
            exact ⟨ret_int (BAD.out (by simp)).symm, b2⟩
          · have n0 : ((x.toNat : Int) == 0) = false := by
              simp only [beq_eq_false_iff_ne]; intro e; exact c0 (UInt8.toNat_inj.1 (by have : (0 : UInt8).toNat = 0 := rfl; omega))
            have n1 : ((x.toNat : Int) == 47) = false := by
              simp only [beq_eq_false_iff_ne]; intro e; exact c1 (UInt8.toNat_inj.1 (by have : (47 : UInt8).toNat = 47 := rfl; omega))
            have HC := hid (HN.out.succ HX.out ⟨c0, c1⟩)
            go_wp2
            go_roundg g
            case measure => omega
            case rel => exact ⟨i + 1, by omega, t2, b2, HC⟩
      · obtain ⟨c, n, hdec, hc0, hc1, hn1, hall⟩ := dec_hi s i hi (by rw [eget]; omega)
        rw [hdec] at hnx
        obtain ⟨W2, hW2⟩ : ∃ y, y = ({ Wx with heap := Wx.heap.setIfInBounds w.heap.size (.stringIter s (i + n)) } : World) := ⟨_, rfl⟩
        have t2 : W2.heap[w.heap.size]? = some (.stringIter s (i + n)) := by rw [hW2]; exact iter_at hit
        have b2 : Below w.heap.size w W2 := by rw [hW2]; exact iter_below hbw (Nat.le_refl _)
        have hnx' : ∀ ty, (Instr.next (.pointer (some ⟨w.heap.size, 0, none⟩)) true ty).run Tryz.prog Wx = .ok (.tuple #[.bool true, .int .i64 i, .int .i32 (c : Int)]) W2 := fun ty => by rw [hW2]; exact hnx ty
        have HNN := hid (HN.out.more n hall)
        have hlast := (hall (n - 1) (by omega)).1
        have n0 : ((c : Int) == 0) = false := by simp only [beq_eq_false_iff_ne]; omega
        have n1 : ((c : Int) == 47) = false := by simp only [beq_eq_false_iff_ne]; omega
        clear hnx hW2 hit eget hxl hlo hall hdec
        go_wp2
        go_roundg (s.size - (i + n))
        case measure => omega
        case rel => exact ⟨i + n, by omega, t2, b2, HNN⟩

end Go.Proofs.YthpngfmckkfipaaGreatDoor

namespace Go.Proofs.YthpngfmckkfipaaGreatDoor
open Go.RowKit Go.Shelf

theorem noTwo_iff (l : List UInt8) : noTwo l = true ↔ ∀ k : Nat, l[k]? = some 47 → ∃ b, l[k + 1]? = some b ∧ b ≠ 47 := by
  induction l with
  | nil => simp [noTwo]
  | cons a r ih =>
    cases r with
    | nil =>
      simp only [noTwo, bne_iff_ne, ne_eq]
      constructor
      · intro h k hk
        cases k with
        | zero => simp at hk; exact absurd hk h
        | succ k => simp at hk
      · intro h e
        subst e
        obtain ⟨b, hb, -⟩ := h 0 rfl
        simp at hb
    | cons b r =>
      rw [noTwo, Bool.and_eq_true, ih]
      constructor
      · rintro ⟨h1, h2⟩ k hk
        cases k with
        | zero =>
          simp at hk
          subst hk
          refine ⟨b, rfl, fun e => ?_⟩
          subst e
          simp at h1
        | succ k => exact h2 k hk
      · intro h
        refine ⟨?_, fun k hk => h (k + 1) hk⟩
        cases e : (a == 47 && b == 47)
        · rfl
        · rw [Bool.and_eq_true] at e
          obtain ⟨c, hc, hn⟩ := h 0 (by simp [eq_of_beq e.1])
          simp at hc
          exact absurd (by rw [← hc]; exact eq_of_beq e.2) hn

/-- Of the first i bytes each stroke but the last is followed by another sign; la tells whether the last one is a stroke. -/
structure Seen (l : List UInt8) (i : Nat) (la : Int) : Prop where
  ok : ∀ k : Nat, k + 1 < i → l[k]? = some 47 → ∃ b, l[k + 1]? = some b ∧ b ≠ 47
  la : la = 47 ↔ ∃ j, j + 1 = i ∧ l[j]? = some 47
theorem Seen.zero (l : List UInt8) : Seen l 0 0 := ⟨fun k h => by omega, ⟨fun h => by omega, fun ⟨j, h, _⟩ => by omega⟩⟩
theorem Seen.succ {l : List UInt8} {i : Nat} {la : Int} {x : UInt8} (h : Seen l i la) (hx : l[i]? = some x) (hn : ¬ (x = 47 ∧ la = 47)) : Seen l (i + 1) x.toNat := by
  refine ⟨fun k hk e => ?_, ?_⟩
  · rcases Nat.lt_or_ge (k + 1) i with g | g
    · exact h.ok k g e
    · obtain rfl : k + 1 = i := by omega
      refine ⟨x, hx, fun ex => hn ⟨ex, h.la.2 ⟨k, rfl, e⟩⟩⟩
  · have : ((x.toNat : Int) = 47) ↔ x = 47 := ⟨fun e => UInt8.toNat_inj.1 (by have : (47 : UInt8).toNat = 47 := rfl; omega), fun e => by subst e; rfl⟩
    rw [this]
    constructor
    · intro e; subst e; exact ⟨i, rfl, hx⟩
    · rintro ⟨j, hj, hj2⟩
      obtain rfl : j = i := by omega
      rw [hx] at hj2; cases hj2; rfl
theorem Seen.more {s : ByteArray} {i : Nat} {la c : Int} (n : Nat) (h : Seen s.data.toList i la) (hn : 1 ≤ n) (hc : 128 ≤ c) (hk : ∀ k, k < n → i + k < s.size ∧ 128 ≤ (s.get! (i + k)).toNat) : Seen s.data.toList (i + n) c := by
  have hb : ∀ j, i ≤ j → j < i + n → ∃ x, s.data.toList[j]? = some x ∧ x ≠ 47 := fun j h1 h2 => by
    have g := hk (j - i) (by omega)
    rw [show i + (j - i) = j by omega] at g
    have e2 := g.2
    rw [get_at s _ g.1] at e2
    exact ⟨_, dat_at s j g.1, (hi_two e2).2⟩
  refine ⟨fun k hk' e => ?_, ?_⟩
  · rcases Nat.lt_or_ge (k + 1) i with g | g
    · exact h.ok k g e
    · exact hb (k + 1) g (by omega)
  · constructor
    · intro e; omega
    · rintro ⟨j, hj, hj2⟩
      obtain ⟨x, hx, hx2⟩ := hb j (by omega) (by omega)
      rw [hx] at hj2; cases hj2; exact absurd rfl hx2
theorem Seen.end {l : List UInt8} {la : Int} (h : Seen l l.length la) : noTwo l = (la != 47) := by
  cases e : (la != 47)
  · have hla : la = 47 := by simpa using e
    obtain ⟨j, hj, hj2⟩ := h.la.1 hla
    cases e2 : noTwo l
    · rfl
    · obtain ⟨b, hb, -⟩ := (noTwo_iff l).1 e2 j hj2
      rw [List.getElem?_eq_none (by omega)] at hb; cases hb
  · have hla : la ≠ 47 := by simpa using e
    refine (noTwo_iff l).2 fun k hk => ?_
    rcases Nat.lt_or_ge (k + 1) l.length with g | g
    · exact h.ok k g hk
    · have hkl : k < l.length := by
        rcases Nat.lt_or_ge k l.length with g' | g'
        · exact g'
        · rw [List.getElem?_eq_none g'] at hk; cases hk
      exact absurd (h.la.2 ⟨k, by omega, hk⟩) hla
theorem Seen.bad {l : List UInt8} {i : Nat} {la : Int} (h : Seen l i la) (hx : l[i]? = some 47) (hn : la = 47) : noTwo l = false := by
  obtain ⟨j, rfl, hj2⟩ := h.la.1 hn
  cases e2 : noTwo l
  · rfl
  · obtain ⟨b, hb, hb2⟩ := (noTwo_iff l).1 e2 j hj2
    rw [hx] at hb; cases hb; exact absurd rfl hb2

theorem hasPre (l : List UInt8) : Lib.hasPrefix l [47] = (l.head? == some 47) := by
  cases l with
  | nil => rfl
  | cons a r =>
    have h : Lib.hasPrefix (a :: r) [47] = (a == 47) := by
      simp only [Lib.hasPrefix, List.isPrefixOf, Bool.and_true]
      exact BEq.comm
    rw [h]; simp

theorem prefix_any (s : ByteArray) (w : World) : Calls Tryz.prog 71 #[.string s, .string ⟨#[47]⟩] w fun e w' => e = .returned (.bool (s.data.toList.head? == some 47)) ∧ w' = w := by
  have k := Any.strings_HasPrefix (P := Tryz.prog) (ρ := layPrefix_ren) layPrefix s ⟨#[47]⟩ w
  rw [show (⟨#[47]⟩ : ByteArray).data.toList = [47] from rfl, hasPre] at k
  exact k

set_option maxRecDepth 100000 in
set_option maxHeartbeats 2000000 in
theorem hasForm_any (s : ByteArray) (w : World) :
    Calls Tryz.prog 57 #[.string s] w fun e w' => e = .returned (.bool (formed s.data.toList)) ∧ Below w.heap.size w w' := by
  have e1 := toList_stroke
  have hl := len_eq s
  have hpre := fun w' => prefix_any s w'
  by_cases h2 : (400 : Int) < s.size
  · have HV : Hid (formed s.data.toList = false) := by show _ = _; unfold formed; rw [decide_eq_false (by omega)]; rfl
    clear hl hpre
    go_enter Tryz.func57, Tryz.ntmps57
    go_wp2
    go_ret
    exact ⟨ret_bool HV.out.symm, Below.refl _ _⟩
  have HD := hid (decide_eq_true (show s.data.toList.length ≤ 400 by omega))
  cases hp : (s.data.toList.head? == some 47)
  case false =>
    have HV : Hid (formed s.data.toList = false) := by show _ = _; unfold formed; rw [hp]; simp
    rw [hp] at hpre
    clear hl hp
    go_enter Tryz.func57, Tryz.ntmps57
    go_wp2_with (go_at_call 71; refine (hpre _).mono ?_; rintro e w2 ⟨rfl, hw2⟩; rw [hw2])
    go_ret
    exact ⟨ret_bool HV.out.symm, Below.refl _ _⟩
  have HP := hid hp
  rw [hp] at hpre
  clear hp
  cases k1 : (s.toList == [47])
  case true =>
    have HV : Hid (formed s.data.toList = true) := by show _ = _; unfold formed; rw [HD.out, HP.out, ← tl, k1]; rfl
    clear hl
    go_enter Tryz.func57, Tryz.ntmps57
    go_wp2_with (go_at_call 71; refine (hpre _).mono ?_; rintro e w2 ⟨rfl, hw2⟩; rw [hw2])
    go_ret
    exact ⟨ret_bool HV.out.symm, Below.refl _ _⟩
  have HV : Hid (formed s.data.toList = noTwo s.data.toList) := by
    show _ = _; unfold formed; rw [HD.out, HP.out, ← tl, k1]; rfl
  have HL := hid hl
  clear hl HD HP
  go_enter Tryz.func57, Tryz.ntmps57
  go_wp2_with (go_at_call 71; refine (hpre _).mono ?_; rintro e w2 ⟨rfl, hw2⟩; have hw3 := hw2.symm; subst hw3)
  clear k1 h2 e1 hpre
  go_loopg [3, 5] s.size (fun g a _ wx => ∃ (i : Nat) (la : Int), a = .int .i32 la ∧ i + g = s.size ∧ wx.heap[w.heap.size]? = some (.stringIter s i) ∧ Below w.heap.size w wx ∧ Hid (Seen s.data.toList i la))
  case atStart => exact ⟨0, 0, rfl, by omega, w.iter_heap s 0, (Below.refl _ _).alloc (Nat.le_refl _) _, Seen.zero _⟩
  case round =>
    obtain ⟨i, la, rfl, hig, hit, hbw, HN⟩ := hrel
    obtain ⟨Wx, hWx⟩ : ∃ y, y = wr := ⟨_, rfl⟩
    subst hWx
    cases gk with
    | zero =>
      obtain rfl : i = s.size := by omega
      have hnx := fun ty => run_nextE Wx w.heap.size s s.size ty hit (by omega)
      clear hit
      go_wp2
      go_ret
      exact ⟨ret_bool (by rw [HV.out]; exact (Seen.end (by rw [HL.out]; exact HN.out)).symm), hbw⟩
    | succ g =>
      have hi : i < s.size := by omega
      have hnx := fun ty => run_nextG Wx w.heap.size s i ty hit hi
      have hxl := dat_at s i hi
      have eget := get_at s i hi
      by_cases hlo : (s[i]'hi).toNat < 128
      · rw [decode_ascii s i hi hlo] at hnx
        obtain ⟨x, hx⟩ : ∃ x : UInt8, s[i]'hi = x := ⟨_, rfl⟩
        rw [hx] at hnx hxl hlo
        obtain ⟨W2, hW2⟩ : ∃ y, y = ({ Wx with heap := Wx.heap.setIfInBounds w.heap.size (.stringIter s (i + 1)) } : World) := ⟨_, rfl⟩
        have t2 : W2.heap[w.heap.size]? = some (.stringIter s (i + 1)) := by rw [hW2]; exact iter_at hit
        have b2 : Below w.heap.size w W2 := by rw [hW2]; exact iter_below hbw (Nat.le_refl _)
        have hnx' : ∀ ty, (Instr.next (.pointer (some ⟨w.heap.size, 0, none⟩)) true ty).run Tryz.prog Wx = .ok (.tuple #[.bool true, .int .i64 i, .int .i32 (x.toNat : Int)]) W2 := fun ty => by rw [hW2]; exact hnx ty
        have HX := hid hxl
        clear hnx hW2 hit eget hx hxl
        by_cases c1 : x = 47
        · subst c1
          by_cases c2 : la = 47
          · have HB := hid (HN.out.bad HX.out c2)
            subst c2
            go_wp2
            go_ret
            exact ⟨ret_bool (by rw [HV.out, HB.out]), b2⟩
          · have n1 : (la == 47) = false := by simp [c2]
            have HC := hid (HN.out.succ HX.out (fun h => c2 h.2))
            go_wp2
            go_roundg g
            case measure => omega
            case rel => exact ⟨i + 1, _, rfl, by omega, t2, b2, HC⟩
        · have n1 : ((x.toNat : Int) == 47) = false := by
            simp only [beq_eq_false_iff_ne]; intro e; exact c1 (UInt8.toNat_inj.1 (by have : (47 : UInt8).toNat = 47 := rfl; omega))
          have HC := hid (HN.out.succ HX.out (fun h => c1 h.1))
          go_wp2
          go_roundg g
          case measure => omega
          case rel => exact ⟨i + 1, _, rfl, by omega, t2, b2, HC⟩
      · obtain ⟨c, n, hdec, hc0, hc1, hn1, hall⟩ := dec_hi s i hi (by rw [eget]; omega)
        rw [hdec] at hnx
        obtain ⟨W2, hW2⟩ : ∃ y, y = ({ Wx with heap := Wx.heap.setIfInBounds w.heap.size (.stringIter s (i + n)) } : World) := ⟨_, rfl⟩
        have t2 : W2.heap[w.heap.size]? = some (.stringIter s (i + n)) := by rw [hW2]; exact iter_at hit
        have b2 : Below w.heap.size w W2 := by rw [hW2]; exact iter_below hbw (Nat.le_refl _)
        have hnx' : ∀ ty, (Instr.next (.pointer (some ⟨w.heap.size, 0, none⟩)) true ty).run Tryz.prog Wx = .ok (.tuple #[.bool true, .int .i64 i, .int .i32 (c : Int)]) W2 := fun ty => by rw [hW2]; exact hnx ty
        have HNN := hid (HN.out.more n hn1 (show (128 : Int) ≤ c by omega) hall)
        have hlast := (hall (n - 1) (by omega)).1
        have n1 : ((c : Int) == 47) = false := by simp only [beq_eq_false_iff_ne]; omega
        clear hnx hW2 hit eget hxl hlo hall hdec
        go_wp2
        go_roundg (s.size - (i + n))
        case measure => omega
        case rel => exact ⟨i + n, _, rfl, by omega, t2, b2, HNN⟩

end Go.Proofs.YthpngfmckkfipaaGreatDoor
