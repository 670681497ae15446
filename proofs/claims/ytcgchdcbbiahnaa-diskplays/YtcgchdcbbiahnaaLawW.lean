/-
  Write, Read and Arm at what is known of the disk.
-/
import Derived.Test.YtcgchdcbbiahnaaLaw1
namespace Go.Proofs.Ytcgchdcbbiahnaa
open Go.RowKit

theorem new_okI (i : Int) (n : Nat) (hi : i = n) (w : World) (h0 : 1 ≤ n) (h1 : n ≤ 4096) : Calls Try.prog 10 #[.int .i64 i] w fun e w' => ∃ p g, e = .returned (.tuple #[.pointer (some ⟨p, 0, none⟩), .int .i64 0]) ∧ w.heap.size ≤ p ∧ w.heap.size ≤ g ∧ IsD w' p g n (D0 (zl (128 * n))) ∧ Below w.heap.size w w' := by
  subst hi
  exact new_ok n w h0 h1
theorem refE_place {d : St8} {n : Nat} {i : Int} (hd : d.dn = false) (h : i < 0 ∨ (n : Int) ≤ i) : refE d n i = 21 := by
  unfold refE
  rw [if_neg (by simp [hd]), if_pos h]
theorem write_place {p g n : Nat} {d : St8} (i : Int) (s : List Int) (w : World) (h : IsD w p g n d) (hd : d.dn = false) (hi : i < 0 ∨ (n : Int) ≤ i) : Calls Try.prog 29 #[.pointer (some ⟨p, 0, none⟩), .int .i64 i, .agg (SA s)] w fun e w' => e = .returned (.int .i64 21) ∧ IsD w' p g n d ∧ Below w.heap.size w w' := by
  have := write_no i s w h (by rw [refE_place hd hi]; decide)
  rw [refE_place hd hi] at this
  exact this
theorem read_place {p g n : Nat} {d : St8} (i : Int) (w : World) (h : IsD w p g n d) (hd : d.dn = false) (hi : i < 0 ∨ (n : Int) ≤ i) : Calls Try.prog 31 #[.pointer (some ⟨p, 0, none⟩), .int .i64 i] w fun e w' => e = .returned (.tuple #[.agg (SA Zs), .int .i64 21]) ∧ Below w.heap.size w w' := by
  have := read_any i w h
  unfold readS at this
  rw [refE_place hd hi, if_neg (by decide)] at this
  exact this
theorem arm_neg {p g n : Nat} {d : St8} (k : Int) (w : World) (h : IsD w p g n d) (hk : k < 0) : Calls Try.prog 28 #[.pointer (some ⟨p, 0, none⟩), .int .i64 k] w fun e w' => e = .returned (.int .i64 1) ∧ IsD w' p g n d ∧ Mod w w' [p] := by
  have := arm_any k w h
  unfold armE armD at this
  rw [if_pos hk, if_pos hk] at this
  exact this
theorem arm_go {p g n : Nat} {d : St8} (k : Int) (w : World) (h : IsD w p g n d) (hd : d.dn = false) (hk : 0 ≤ k) : Calls Try.prog 28 #[.pointer (some ⟨p, 0, none⟩), .int .i64 k] w fun e w' => e = .returned (.int .i64 0) ∧ IsD w' p g n ⟨d.S, d.wr, d.dn, true, k⟩ ∧ Mod w w' [p] := by
  have := arm_any k w h
  rw [armE_ok hd hk, armD_ok hd hk] at this
  exact this
theorem write_go {p g n : Nat} {S : List Int} {wr lf : Int} (i : Int) (s : List Int) (w : World) (h : IsD w p g n ⟨S, wr, false, true, lf⟩) (hs : s.length = 128) (hw0 : 0 ≤ wr) (hw1 : wr < 4611686018427387904) (hl0 : 0 < lf) (hl1 : lf ≤ 9223372036854775807) (hi0 : 0 ≤ i) (hi1 : i < n) :
    Calls Try.prog 29 #[.pointer (some ⟨p, 0, none⟩), .int .i64 i, .agg (SA s)] w fun e w' => e = .returned (.int .i64 0) ∧ IsD w' p g n ⟨over S (i.toNat * 128) s, wr + 1, false, true, lf - 1⟩ ∧ Mod w w' [p, g] :=
  write_left i s w h (refE_ok rfl hi0 hi1) rfl hl0 hl1 hs hw0 hw1
theorem write_end {p g n : Nat} {S : List Int} {wr : Int} (i : Int) (s : List Int) (w : World) (h : IsD w p g n ⟨S, wr, false, true, 0⟩) (hi0 : 0 ≤ i) (hi1 : i < n) :
    Calls Try.prog 29 #[.pointer (some ⟨p, 0, none⟩), .int .i64 i, .agg (SA s)] w fun e w' => e = .returned (.int .i64 22) ∧ IsD w' p g n ⟨S, wr, true, true, 0⟩ ∧ Mod w w' [p] :=
  write_off i s w h (refE_ok rfl hi0 hi1) rfl rfl

theorem write_down {p g n : Nat} {d : St8} (i : Int) (s : List Int) (w : World) (h : IsD w p g n d) (hd : d.dn = true) : Calls Try.prog 29 #[.pointer (some ⟨p, 0, none⟩), .int .i64 i, .agg (SA s)] w fun e w' => e = .returned (.int .i64 22) ∧ IsD w' p g n d ∧ Below w.heap.size w w' := by
  have he : refE d n i = 22 := by simp [refE, hd]
  have := write_no i s w h (by rw [he]; decide)
  rw [he] at this
  exact this
theorem write_un {p g n : Nat} {S : List Int} {wr lf : Int} (i : Int) (s : List Int) (w : World) (h : IsD w p g n ⟨S, wr, false, false, lf⟩) (hs : s.length = 128) (hw0 : 0 ≤ wr) (hw1 : wr < 4611686018427387904) (hi0 : 0 ≤ i) (hi1 : i < n) :
    Calls Try.prog 29 #[.pointer (some ⟨p, 0, none⟩), .int .i64 i, .agg (SA s)] w fun e w' => e = .returned (.int .i64 0) ∧ IsD w' p g n ⟨over S (i.toNat * 128) s, wr + 1, false, false, lf⟩ ∧ Mod w w' [p, g] :=
  write_free i s w h (refE_ok rfl hi0 hi1) rfl hs hw0 hw1
theorem read_ok {p g n : Nat} {d : St8} (i : Int) (w : World) (h : IsD w p g n d) (hd : d.dn = false) (hi0 : 0 ≤ i) (hi1 : i < n) : Calls Try.prog 31 #[.pointer (some ⟨p, 0, none⟩), .int .i64 i] w fun e w' => e = .returned (.tuple #[.agg (SA (secK d.S i.toNat)), .int .i64 0]) ∧ Below w.heap.size w w' := by
  have := read_any i w h
  unfold readS at this
  rw [refE_ok hd hi0 hi1, if_pos rfl] at this
  exact this
theorem secK_over {l s : List Int} {n k : Nat} (hl : l.length = 128 * n) (hk : k < n) (hs : s.length = 128) : secK (over l (k * 128) s) k = s := by
  unfold secK
  rw [over_eq _ _ _ (by rw [hs, hl]; omega), List.append_assoc, List.drop_left' (by rw [List.length_take, hl]; omega), List.take_left' hs]
theorem over_app (a s c : List Int) (o : Nat) (h : o + s.length ≤ a.length) : over (a ++ c) o s = over a o s ++ c := by
  rw [over_eq _ _ _ (by rw [List.length_append]; omega), over_eq _ _ _ h, List.take_append_of_le_length (by omega), List.drop_append_of_le_length (by omega)]
  simp only [List.append_assoc]

end Go.Proofs.Ytcgchdcbbiahnaa
