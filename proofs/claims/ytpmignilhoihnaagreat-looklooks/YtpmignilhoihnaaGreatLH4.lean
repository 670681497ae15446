/-
 SlotSector and ReadSlot, whatever the bytes of a name.
-/
import Derived.Laws.Runes
import Derived.Deep.LoopGhost
import Derived.Test.YtpmignilhoihnaaGreatLN2
namespace Go.Proofs.YtpmignilhoihnaaGreat
open Go.RowKit Go.Shelf

theorem run_next_any (w : World) (s : ByteArray) (pos : Nat) (ty : TypeId) (h : pos < s.size) :
  (Instr.next (.pointer (some ⟨w.heap.size, 0, none⟩)) true ty).run Tryz.prog (w.iter s pos) =
   .ok (.tuple #[.bool true, .int .i64 pos, .int .i32 (Utf8.decode s pos).1]) (w.iter s (pos + (Utf8.decode s pos).2)) := by
 simp only [Instr.next, getObj, setObj, Sem.run_bind, Sem.run, World.iter_heap, Result.andThen, h, if_true, World.iter_set]
 simp [goInt]

theorem dec_hi (s : ByteArray) (i : Nat) (hi : i < s.size) (h : 128 ≤ (s.get! i).toNat) :
  ∃ c n, Utf8.decode s i = (c, n) ∧ 128 ≤ c ∧ c ≤ 1114111 ∧ 1 ≤ n ∧ ∀ k, k < n → i + k < s.size ∧ 128 ≤ (s.get! (i + k)).toNat := by
 have one : ∀ k, k < 1 → i + k < s.size ∧ 128 ≤ (s.get! (i + k)).toNat := fun k hk => by
  have e : k = 0 := by omega
  subst e; exact ⟨hi, h⟩
 have h0 : ¬ (s.get! (i + 0)).toNat < 128 := by rw [Nat.add_zero]; omega
 unfold Utf8.decode
 simp only [h0, if_false]
 split
 ·rename_i c2
  simp only [Bool.and_eq_true, beq_iff_eq, decide_eq_true_eq] at c2
  split
  ·rename_i g
   refine ⟨_, _, rfl, g, by omega, by omega, fun k hk => ?_⟩
   match k, hk with
   | 0, _ => exact one 0 (by omega)
   | 1, _ => exact ⟨c2.2.1, by omega⟩
  ·exact ⟨_, _, rfl, by decide, by decide, by omega, one⟩
 ·split
  ·rename_i c3
   simp only [Bool.and_eq_true, beq_iff_eq, decide_eq_true_eq] at c3
   split
   ·rename_i g
    simp only [Bool.and_eq_true, decide_eq_true_eq] at g
    refine ⟨_, _, rfl, by omega, by omega, by omega, fun k hk => ?_⟩
    match k, hk with
    | 0, _ => exact one 0 (by omega)
    | 1, _ => exact ⟨c3.1.2.1, by omega⟩
    | 2, _ => exact ⟨c3.2.1, by omega⟩
   ·exact ⟨_, _, rfl, by decide, by decide, by omega, one⟩
  ·split
   ·rename_i c4
    simp only [Bool.and_eq_true, beq_iff_eq, decide_eq_true_eq] at c4
    split
    ·rename_i g
     simp only [Bool.and_eq_true, decide_eq_true_eq] at g
     have hv := g.2
     simp only [Utf8.valid, Bool.or_eq_true, Bool.and_eq_true, decide_eq_true_eq] at hv
     refine ⟨_, _, rfl, by omega, by omega, by omega, fun k hk => ?_⟩
     match k, hk with
     | 0, _ => exact one 0 (by omega)
     | 1, _ => exact ⟨c4.1.1.2.1, by omega⟩
     | 2, _ => exact ⟨c4.1.2.1, by omega⟩
     | 3, _ => exact ⟨c4.2.1, by omega⟩
    ·exact ⟨_, _, rfl, by decide, by decide, by omega, one⟩
   ·exact ⟨_, _, rfl, by decide, by decide, by omega, one⟩

end Go.Proofs.YtpmignilhoihnaaGreat

namespace Go.Proofs.YtpmignilhoihnaaGreat
open Go.RowKit Go.Shelf

theorem enc_form' (C : Nat) (h : ¬ C < 128) : ∀ E : ByteArray, E = (if C < 0x80 then ⟨#[UInt8.ofNat C]⟩ else if C < 0x800 then ⟨#[UInt8.ofNat (0xC0 + C / 64), UInt8.ofNat (0x80 + C % 64)]⟩ else if C < 0x10000 then ⟨#[UInt8.ofNat (0xE0 + C / 4096), UInt8.ofNat (0x80 + C / 64 % 64), UInt8.ofNat (0x80 + C % 64)]⟩ else ⟨#[UInt8.ofNat (0xF0 + C / 262144), UInt8.ofNat (0x80 + C / 4096 % 64), UInt8.ofNat (0x80 + C / 64 % 64), UInt8.ofNat (0x80 + C % 64)]⟩) →
  (∃ X Y : UInt8, E = ⟨#[X, Y]⟩ ∧ 128 ≤ Y.toNat) ∨ (∃ X Y Z : UInt8, E = ⟨#[X, Y, Z]⟩) ∨ (∃ X Y Z T : UInt8, E = ⟨#[X, Y, Z, T]⟩) := by
 intro E hE
 rw [if_neg h] at hE
 split at hE
 ·exact .inl ⟨_, _, hE, by simp; omega⟩
 ·split at hE
  ·exact .inr (.inl ⟨_, _, _, hE⟩)
  ·exact .inr (.inr ⟨_, _, _, _, hE⟩)
theorem enc_form (r : Int) (h : 128 ≤ r) : (∃ X Y : UInt8, Utf8.encode r = ⟨#[X, Y]⟩ ∧ 128 ≤ Y.toNat) ∨ (∃ X Y Z : UInt8, Utf8.encode r = ⟨#[X, Y, Z]⟩) ∨ (∃ X Y Z T : UInt8, Utf8.encode r = ⟨#[X, Y, Z, T]⟩) :=
 enc_form' (if Utf8.valid r then r.toNat else Utf8.runeError) (by split; (· omega); (· decide)) _ rfl

set_option maxHeartbeats 400000 in
theorem validRune_any (r : Int) (w : World) (h0 : 128 ≤ r) (h1 : r ≤ 1114111) :
  Calls Tryz.prog 155 #[.int .i32 r] w fun e w' => e = .returned (.bool (validRune r)) ∧ w' = w := by
 have h00 : (0 : Int) ≤ r := by omega
 by_cases h2 : r < 55296
 ·go_enter Tryz.func155, Tryz.ntmps155
  go_wp2
  go_ret
  exact ⟨ret_bool (by simp [validRune]; omega), rfl⟩
 ·by_cases h3 : 57343 < r
  ·go_enter Tryz.func155, Tryz.ntmps155
   go_wp2
   go_ret
   exact ⟨ret_bool (by simp [validRune]; omega), rfl⟩
  ·go_enter Tryz.func155, Tryz.ntmps155
   go_wp2
   go_ret
   exact ⟨ret_bool (by simp [validRune]; omega), rfl⟩

set_option maxRecDepth 100000 in
set_option maxHeartbeats 2000000 in
theorem rune_err (w : World) : Calls Tryz.prog 150 #[.string ⟨#[0, 47]⟩, .int .i32 65533] w fun e w' => e = .returned (.int .i64 (-1)) ∧ Below w.heap.size w w' := by
 have n0 := fun ty => run_next_any w two 0 ty (by decide)
 have n1 := fun ty => run_next_any w two 1 ty (by decide)
 have n2 := fun ty => run_next_end (P := Tryz.prog) w two 2 ty (by decide)
 rw [show Utf8.decode two 0 = (0, 1) by decide] at n0;rw [show Utf8.decode two 1 = (47, 1) by decide] at n1;unfold two at n0 n1 n2
 have hb : ∀ p, Below w.heap.size w (w.iter ⟨#[0, 47]⟩ p) := fun p => (Below.refl _ _).alloc (Nat.le_refl _) _
 go_enter Tryz.func150, Tryz.ntmps150
 go_wp2
 go_loopg [5, 6] 2 (fun g _ _ wx => ∃ i : Nat, i + g = 2 ∧ wx = w.iter ⟨#[0, 47]⟩ i)
 case atStart => exact ⟨0, by omega, rfl⟩
 case round =>
  obtain ⟨i, hig, rfl⟩ := hrel
  cases gk with
  | zero =>
   obtain rfl : i = 2 := by omega
   have hbb := hb 2;clear n0 n1 hb
   go_wp2
   go_ret
   exact ⟨rfl, hbb⟩
  | succ g =>
   have hi : i = 0 ∨ i = 1 := by omega
   rcases hi with rfl | rfl
   ·clear n1 n2 hb
    go_wp2
    go_roundg g
    case measure => omega
    case rel => exact ⟨1, by omega, rfl⟩
   ·clear n0 n2 hb
    go_wp2
    go_roundg g
    case measure => omega
    case rel => exact ⟨2, by omega, rfl⟩

theorem indexByte_none (c : Int) (w : World) : Calls Tryz.prog 154 #[.string ⟨#[]⟩, .int .u8 c] w fun e w' => e = .returned (.int .i64 (-1)) ∧ w' = w :=
 Any.strings_IndexByte (P := Tryz.prog) (ρ := layAny_ren) { layAny with } ⟨#[]⟩ c w

set_option maxRecDepth 100000 in
set_option maxHeartbeats 4000000 in
theorem rune_hi (r : Int) (w : World) (h0 : 128 ≤ r) (h1 : r ≤ 1114111) (hne : ¬ r = 65533) : Calls Tryz.prog 150 #[.string ⟨#[0, 47]⟩, .int .i32 r] w fun e w' => e = .returned (.int .i64 (-1)) ∧ Below w.heap.size w w' := by
 have h00 : (0 : Int) ≤ r := by omega
 have hn : (r == 65533) = false := by simp [hne]
 have h128 : ¬ r < 128 := by omega
 have hv := fun w' => validRune_any r w' h0 h1
 cases hV : validRune r
 ·rw [hV] at hv
  go_enter Tryz.func150, Tryz.ntmps150
  go_wp2_with (go_at_call 155; refine (hv _).mono ?_; rintro e w2 ⟨rfl, rfl⟩)
  go_ret
  exact ⟨rfl, Below.refl _ _⟩
 ·rw [hV] at hv
  rcases enc_form r h0 with ⟨X, Y, hE, hY⟩ | ⟨X, Y, Z, hE⟩ | ⟨X, Y, Z, T, hE⟩
  ·have hYne : ((47 : Int) != (Y.toNat : Int)) = true := by simp; omega
   go_enter Tryz.func150, Tryz.ntmps150
   go_wp2_with (go_at_call 155; refine (hv _).mono ?_; rintro e w2 ⟨rfl, rfl⟩)
   go_step3
   go_wp2
   go_loopw [9, 10] (fun i f wr => i = .int .i64 1 ∧ f = .int .i64 0 ∧ Below w2.heap.size w2 wr) (fun _ _ _ => 0)
   case atStart => exact ⟨rfl, rfl, Below.refl _ _⟩
   case round =>
    obtain ⟨rfl, rfl, hbr⟩ := hrel
    go_wp2
    go_step3
    go_upto_region 6 with fail
    refine wp_region_noPanic ?_;refine wp_region_held_drew (S := fun _ => True) (by kernel_rfl) trivial (fun hH => ?_);refine tV 0 27 (.string ⟨#[0, 47]⟩) rfl (by kernel_rfl) rfl (by rfl) hH (fun x' hw' => rfl) ?_;simp only [sS];refine tV 1 28 (.int .i64 1) rfl (by kernel_rfl) rfl (by rfl) hH (fun x' hw' => rfl) ?_;simp only [sS];refine tV 2 29 (.int .u8 47) rfl (by kernel_rfl) rfl (by rfl) hH (fun x' hw' => by go_simp; rfl) ?_;simp only [sS];refine tV 3 30 (.string ⟨#[X, Y]⟩) rfl (by kernel_rfl) rfl (by rfl) hH (fun x' hw' => rfl) ?_;simp only [sS];refine tV 4 31 (.int .i64 1) rfl (by kernel_rfl) rfl (by rfl) hH (fun x' hw' => rfl) ?_;simp only [sS];refine tV 5 32 (.int .u8 (Y.toNat : Int)) rfl (by kernel_rfl) rfl (by rfl) hH (fun x' hw' => by go_simp; rfl) ?_;simp only [sS];refine tV 6 33 (.bool true) rfl (by kernel_rfl) rfl (by rfl) hH (fun x' hw' => by go_simp) ?_;simp only [sS];refine wpAnyH_done (by kernel_rfl) ?_ _;refine NoPanic.normal ?_;clear hH
    go_upto_region 7 with fail
    refine wp_region_noPanic ?_;refine wp_region_held_drew (S := fun _ => True) (by kernel_rfl) trivial (fun hH => ?_);refine tV 0 34 (.string ⟨#[0, 47]⟩) rfl (by kernel_rfl) rfl (by rfl) hH (fun x' hw' => rfl) ?_;simp only [sS];refine tV 1 35 (.int .i64 1) rfl (by kernel_rfl) rfl (by rfl) hH (fun x' hw' => rfl) ?_;simp only [sS];refine tV 2 36 (.int .i64 2) rfl (by kernel_rfl) rfl (by rfl) hH (fun x' hw' => by go_simp; rfl) ?_;simp only [sS];refine tV 3 37 (.string ⟨#[]⟩) rfl (by kernel_rfl) rfl (by rfl) hH (fun x' hw' => by go_simp; rfl) ?_;simp only [sS];refine tV 4 38 (.string ⟨#[X, Y]⟩) rfl (by kernel_rfl) rfl (by rfl) hH (fun x' hw' => rfl) ?_;simp only [sS];refine tV 5 39 (.int .i64 1) rfl (by kernel_rfl) rfl (by rfl) hH (fun x' hw' => rfl) ?_;simp only [sS];refine tV 6 40 (.int .u8 (Y.toNat : Int)) rfl (by kernel_rfl) rfl (by rfl) hH (fun x' hw' => by go_simp; rfl) ?_;simp only [sS];refine step1 7 (by kernel_rfl) ?_;refine stCall 7 41 154 #[.string ⟨#[]⟩, .int .u8 (Y.toNat : Int)] _ rfl rfl (by rfl) (by go_simp) (indexByte_none _ _) ?_
    rintro e w5 ⟨rfl, hw5⟩
    have hb5 : Below w2.heap.size w2 w5 := by rw [hw5]; exact below_drew (below_drew hbr)
    clear hw5;refine ⟨_, rfl, trivial, ?_⟩;simp only [sS];refine tV 8 11 (.int .i64 (-1)) rfl (by kernel_rfl) rfl (by rfl) hH (fun x' hw' => rfl) ?_;simp only [sS];refine wpAnyH_done (by kernel_rfl) ?_ _;refine NoPanic.normal ?_;clear hH
    go_wp2
    rw [Exit.noGoto_ret]
    go_wp2
    first | rw [Exit.noGoto_ret] | skip
    first | (go_ret; exact ⟨rfl, hb5⟩) | trace_state
  ·go_enter Tryz.func150, Tryz.ntmps150
   go_wp2_with (go_at_call 155; refine (hv _).mono ?_; rintro e w2 ⟨rfl, rfl⟩)
   go_step3
   go_wp2
   go_loop [9, 10] (fun i f => i = .int .i64 2 ∧ f = .int .i64 0) (fun _ _ => 0)
   case atStart => exact ⟨rfl, rfl⟩
   case round =>
    obtain ⟨rfl, rfl⟩ := hrel
    go_wp2
    go_ret
    exact ⟨rfl, Below.refl _ _⟩
  ·go_enter Tryz.func150, Tryz.ntmps150
   go_wp2_with (go_at_call 155; refine (hv _).mono ?_; rintro e w2 ⟨rfl, rfl⟩)
   go_step3
   go_wp2
   go_loop [9, 10] (fun i f => i = .int .i64 3 ∧ f = .int .i64 0) (fun _ _ => 0)
   case atStart => exact ⟨rfl, rfl⟩
   case round =>
    obtain ⟨rfl, rfl⟩ := hrel
    go_wp2
    go_ret
    exact ⟨rfl, Below.refl _ _⟩

end Go.Proofs.YtpmignilhoihnaaGreat

namespace Go.Proofs.YtpmignilhoihnaaGreat
open Go.RowKit Go.Shelf

theorem run_nextG (W : World) (g : Nat) (s : ByteArray) (pos : Nat) (ty : TypeId) (hg : W.heap[g]? = some (.stringIter s pos)) (h : pos < s.size) :
  (Instr.next (.pointer (some ⟨g, 0, none⟩)) true ty).run Tryz.prog W =
   .ok (.tuple #[.bool true, .int .i64 pos, .int .i32 (Utf8.decode s pos).1]) { W with heap := W.heap.setIfInBounds g (.stringIter s (pos + (Utf8.decode s pos).2)) } := by
 simp only [Instr.next, getObj, setObj, Sem.run_bind, Sem.run, hg, Result.andThen, h, if_true]
 simp [goInt]
theorem run_nextE (W : World) (g : Nat) (s : ByteArray) (pos : Nat) (ty : TypeId) (hg : W.heap[g]? = some (.stringIter s pos)) (h : ¬ pos < s.size) :
  (Instr.next (.pointer (some ⟨g, 0, none⟩)) true ty).run Tryz.prog W = .ok (.tuple #[.bool false]) W := by
 simp [Instr.next, getObj, Sem.run, hg, h]
theorem iter_at {W : World} {g : Nat} {o o' : Obj} (hg : W.heap[g]? = some o) : ({ W with heap := W.heap.setIfInBounds g o' } : World).heap[g]? = some o' := by
 have := slt hg
 show (W.heap.setIfInBounds g o')[g]? = _
 simp [this]
theorem iter_below {B : Nat} {w W : World} {g : Nat} {o' : Obj} (hb : Below B w W) (hB : B ≤ g) : Below B w { W with heap := W.heap.setIfInBounds g o' } :=
 hb.trans ⟨rfl, rfl, rfl, by show W.heap.size ≤ (W.heap.setIfInBounds g o').size; simp, fun k hk => by show (W.heap.setIfInBounds g o')[k]? = _; rw [Array.getElem?_setIfInBounds]; rw [if_neg (by omega)]⟩

theorem two_list : (⟨#[0, 47]⟩ : ByteArray).toList = [0, 47] := by rw [ByteArray.toList_eq]
theorem not_two {x : UInt8} (h : 128 ≤ x.toNat) : ([0, 47] : List UInt8).contains x = false := by
 cases e : ([0, 47] : List UInt8).contains x
 ·rfl
 ·simp at e
  rcases e with rfl | rfl
  ·exact absurd h (by decide)
  ·exact absurd h (by decide)
theorem noAny_more {s : ByteArray} {i : Nat} : ∀ n : Nat, Lib.NoAny s.data.toList [0, 47] i → (∀ k, k < n → i + k < s.size ∧ 128 ≤ (s.get! (i + k)).toNat) → Lib.NoAny s.data.toList [0, 47] (i + n)
 | 0, h, _ => h
 | n + 1, h, hk => by
  have ih := noAny_more n h (fun k hk' => hk k (by omega));have hn := hk n (by omega);have e : s.data.toList[i + n]? = some (s[i + n]'hn.1) := Lib.data_getElem? s (i + n) hn.1
  have e2 : s.get! (i + n) = s[i + n]'hn.1 := by
   show s.data[i + n]! = _
   simp [getElem!_pos, hn.1]
   rfl
  rw [e2] at hn
  exact ih.succ e (not_two hn.2)

set_option maxRecDepth 100000 in
set_option maxHeartbeats 4000000 in
theorem idxAny_short (s : ByteArray) (h8 : s.size ≤ 8) (w : World) :
  Calls Tryz.prog 148 #[.string s, .string ⟨#[0, 47]⟩] w fun e w' => e = .returned (.int .i64 (Lib.indexAny s.data.toList [0, 47])) ∧ Below w.heap.size w w' := by
 have h8z : decide ((8 : Int) < (s.size : Int)) = false := decide_eq_false (by omega)
 have hsh := fun w' => Any.strings_shouldUseASCIISet (P := Tryz.prog) (ρ := layAny_ren) { layAny with } (s.size : Int) w'
 rw [h8z] at hsh
 have hsh' : ∀ w', Calls Tryz.prog 151 #[.int .i64 (s.size : Int)] w' fun e w'' => e = .returned (.bool false) ∧ w'' = w' := hsh
 have e2 := two_list
 have hra : ∀ (r : Int) (w' : World), 0 ≤ r → r < 128 → Calls Tryz.prog 150 #[.string ⟨#[0, 47]⟩, .int .i32 r] w' fun e w'' => e = .returned (.int .i64 (Lib.indexByte [0, 47] r.toNat.toUInt8)) ∧ w'' = w' := fun r w' h0 h1 => Any.strings_IndexRune_ascii (P := Tryz.prog) (ρ := layAny_ren) { layAny with } ⟨#[0, 47]⟩ r w' h0 h1
 have HRA := hid hra;clear hsh hra
 go_enter Tryz.func148, Tryz.ntmps148
 go_wp2_with (go_at_call 151; refine (hsh' _).mono ?_; rintro e w2 ⟨rfl, hw2⟩; have hw3 := hw2.symm; subst hw3)
 go_loopg [9, 10] s.size (fun g _ _ wx => ∃ i : Nat, i + g = s.size ∧ wx.heap[w.heap.size]? = some (.stringIter s i) ∧ Below w.heap.size w wx ∧ Hid (Lib.NoAny s.data.toList [0, 47] i))
 case atStart => exact ⟨0, by omega, w.iter_heap s 0, (Below.refl _ _).alloc (Nat.le_refl _) _, Lib.NoAny.zero _ _⟩
 case round =>
  obtain ⟨i, hig, hit, hbw, HN⟩ := hrel;obtain ⟨Wx, hWx⟩ : ∃ y, y = wr := ⟨_, rfl⟩;subst hWx
  cases gk with
  | zero =>
   obtain rfl : i = s.size := by omega
   have hnx := fun ty => run_nextE Wx w.heap.size s s.size ty hit (by omega)
   clear hit
   go_wp2
   go_ret
   exact ⟨by rw [Lib.indexAny_none (by rw [← Lib.size_eq]; exact HN.out)]; rfl, hbw⟩
  | succ g =>
   have hi : i < s.size := by omega
   have hnx := fun ty => run_nextG Wx w.heap.size s i ty hit hi
   have hxl : s.data.toList[i]? = some (s[i]'hi) := Lib.data_getElem? s i hi
   have eget : s.get! i = s[i]'hi := by
    show s.data[i]! = _
    simp [getElem!_pos, hi]
    rfl
   by_cases hlo : (s[i]'hi).toNat < 128
   ·rw [decode_ascii s i hi hlo] at hnx
    obtain ⟨x, hx⟩ : ∃ x : UInt8, s[i]'hi = x := ⟨_, rfl⟩;rw [hx] at hnx hxl hlo;obtain ⟨W2, hW2⟩ : ∃ y, y = ({ Wx with heap := Wx.heap.setIfInBounds w.heap.size (.stringIter s (i + 1)) } : World) := ⟨_, rfl⟩
    have t2 : W2.heap[w.heap.size]? = some (.stringIter s (i + 1)) := by rw [hW2]; exact iter_at hit
    have b2 : Below w.heap.size w W2 := by rw [hW2]; exact iter_below hbw (Nat.le_refl _)
    have hnx' : ∀ ty, (Instr.next (.pointer (some ⟨w.heap.size, 0, none⟩)) true ty).run Tryz.prog Wx = .ok (.tuple #[.bool true, .int .i64 i, .int .i32 (x.toNat : Int)]) W2 := fun ty => by rw [hW2]; exact hnx ty
    have hcall := HRA.out (x.toNat : Int) W2 (by omega) (by omega);have hcon := Lib.contains_iff_indexByte [0, 47] x
    have hback : ((x.toNat : Int)).toNat.toUInt8 = x := by simp
    rw [hback] at hcall;have HX := hid hxl;clear hnx hW2 hit eget hx hxl
    cases hin : ([0, 47] : List UInt8).contains x
    ·rw [hin] at hcon
     have hlt : ¬ ((0 : Int) ≤ Lib.indexByte [0, 47] x) := of_decide_eq_false hcon.symm;clear hcon
     generalize Lib.indexByte [0, 47] x = IB at *
     go_wp2_with (go_at_call 150; refine hcall.mono ?_; rintro e w5 ⟨rfl, hw5⟩; rw [hw5])
     go_roundg g
     case measure => omega
     case rel => exact ⟨i + 1, by omega, t2, b2, HN.out.succ HX.out hin⟩
    ·rw [hin] at hcon
     have hge : (0 : Int) ≤ Lib.indexByte [0, 47] x := of_decide_eq_true hcon.symm;clear hcon
     generalize Lib.indexByte [0, 47] x = IB at *
     go_wp2_with (go_at_call 150; refine hcall.mono ?_; rintro e w5 ⟨rfl, hw5⟩; rw [hw5])
     go_ret
     exact ⟨by rw [Lib.indexAny_hit HN.out HX.out hin]; rfl, b2⟩
   ·obtain ⟨c, n, hdec, hc0, hc1, hn1, hall⟩ := dec_hi s i hi (by rw [eget]; omega)
    rw [hdec] at hnx;obtain ⟨W2, hW2⟩ : ∃ y, y = ({ Wx with heap := Wx.heap.setIfInBounds w.heap.size (.stringIter s (i + n)) } : World) := ⟨_, rfl⟩
    have t2 : W2.heap[w.heap.size]? = some (.stringIter s (i + n)) := by rw [hW2]; exact iter_at hit
    have b2 : Below w.heap.size w W2 := by rw [hW2]; exact iter_below hbw (Nat.le_refl _)
    have hnx' : ∀ ty, (Instr.next (.pointer (some ⟨w.heap.size, 0, none⟩)) true ty).run Tryz.prog Wx = .ok (.tuple #[.bool true, .int .i64 i, .int .i32 (c : Int)]) W2 := fun ty => by rw [hW2]; exact hnx ty
    have hcall : Calls Tryz.prog 150 #[.string ⟨#[0, 47]⟩, .int .i32 (c : Int)] W2 fun e w' => e = .returned (.int .i64 (-1)) ∧ Below W2.heap.size W2 w' := by
     by_cases he : c = 65533
     ·subst he; exact rune_err W2
     ·exact rune_hi c W2 (by omega) (by omega) (by omega)
    have HNN := hid (noAny_more n HN.out hall);have hlast := (hall (n - 1) (by omega)).1;clear hnx hW2 hit eget hxl hlo hall hdec
    go_wp2_with (go_at_call 150; refine hcall.mono ?_; rintro e w5 ⟨rfl, hb5⟩)
    go_roundg (s.size - (i + n))
    case measure => omega
    case rel => exact ⟨i + n, by omega, by rw [hb5.block _ (slt t2)]; exact t2, btr b2 hb5 b2.size, HNN⟩

end Go.Proofs.YtpmignilhoihnaaGreat

namespace Go.Proofs.YtpmignilhoihnaaGreat
open Go.RowKit Go.Shelf

theorem idxAny_any (s : ByteArray) (h : s.size ≤ 40) (w : World) :
  Calls Tryz.prog 148 #[.string s, .string ⟨#[0, 47]⟩] w fun e w' => e = .returned (.int .i64 (Lib.indexAny s.data.toList [0, 47])) ∧ Below w.heap.size w w' := by
 by_cases h8 : s.size ≤ 8
 ·exact idxAny_short s h8 w
 ·refine (Any.strings_IndexAny_long (P := Tryz.prog) (ρ := layAny_ren) { layAny with } (zero_of_info set116).1 (zero_of_info set116).2 s two w (by decide) (by omega) (by omega) (by decide) (fun j b hb => by
   match j, hb with
   | 0, hb => cases hb; decide
   | 1, hb => cases hb; decide
   | j + 2, hb => simp [two] at hb)).mono fun e w' ⟨h1, h2⟩ => ⟨h1, ?_⟩
  rw [h2]
  exact ((Below.refl _ _).alloc (Nat.le_refl _) _).alloc (by simp) _

set_option maxHeartbeats 1000000 in
theorem has_all (s : ByteArray) (h : s.size ≤ 40) : Has s := by
 intro w
 have c := idxAny_any s h w;have HV : Hid (hasB s = decide (0 ≤ Lib.indexAny s.data.toList [0, 47])) := rfl;unfold two
 generalize Lib.indexAny s.data.toList [0, 47] = I at *
 go_enter Tryz.func141, Tryz.ntmps141
 go_wp2_with (go_at_call 148; refine c.mono ?_; rintro e w2 ⟨rfl, hb2⟩)
 go_ret
 exact ⟨by rw [HV.out]; rfl, hb2⟩

theorem nameOf_size {s : List Int} (hs : IsSec s) (hK : szOf s ≤ 40) : (nameOf s).size ≤ 40 := by
 have hl := hs.1
 have : (nameOf s).size = ((s.drop 5).take (szOf s)).length := by simp [nameOf, strOf, ByteArray.size]
 rw [this]
 simp
 omega
theorem readSlot_all (s : List Int) (hs : IsSec s) (w : World) :
  Calls Tryz.prog 45 #[.agg (SA s)] w fun e w' => e = .returned (.tuple #[.agg (SLA (rdSlot (getV s 0 4) s).1 (rdSlot (getV s 0 4) s).2.1), .int .i64 (rdSlot (getV s 0 4) s).2.2]) ∧ Below w.heap.size w w' :=
 readSlot_any s hs (fun hK => has_all _ (nameOf_size hs hK)) w

end Go.Proofs.YtpmignilhoihnaaGreat
