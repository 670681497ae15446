/-
 The laws of whole sectors in memory: a new one is zeros, one is loaded, stored and compared as a list of bytes.
-/
import Derived.Test.YtpmignilhoihnaaGreatRows
import Derived.WalkKit
import Derived.WalkSpells
import Derived.WalkLawsBesides
import Derived.Deep.QuietTactic
import Derived.BigQuiet
import Derived.Deep.WholeRow
import Derived.ChangeKeysEq
namespace Go.Proofs.YtpmignilhoihnaaGreat
open Go.RowKit

theorem hid {p : Prop} (h : p) : Hid p := h
def inB (p w : Int) : Bool := decide (1 ≤ w ∧ w ≤ 8 ∧ 0 ≤ p ∧ p ≤ 128 - w)
theorem inB_true {p w : Int} (h : 1 ≤ w ∧ w ≤ 8 ∧ 0 ≤ p ∧ p ≤ 128 - w) : inB p w = true := decide_eq_true h
theorem inB_false {p w : Int} (h : ¬ (1 ≤ w ∧ w ≤ 8 ∧ 0 ≤ p ∧ p ≤ 128 - w)) : inB p w = false := decide_eq_false h
theorem ret_bool {a b : Bool} (h : a = b) : Ending.returned (.bool a) = .returned (.bool b) := by rw [h]

set_option maxHeartbeats 400000 in
theorem within_any (p n : Int) (w : World) :
  Calls Tryz.prog 127 #[.int .i64 p, .int .i64 n] w fun e w' => e = .returned (.bool (inB p n)) ∧ w' = w := by
 by_cases h1 : n < 1
 ·go_enter Tryz.func127, Tryz.ntmps127
  go_wp2
  go_ret
  exact ⟨ret_bool (inB_false (by omega)).symm, rfl⟩
 ·by_cases h2 : 8 < n
  ·go_enter Tryz.func127, Tryz.ntmps127
   go_wp2
   go_ret
   exact ⟨ret_bool (inB_false (by omega)).symm, rfl⟩
  ·by_cases h3 : 0 ≤ p
   ·by_cases h4 : p ≤ 128 - n
    ·go_enter Tryz.func127, Tryz.ntmps127
     go_wp2
     go_ret
     exact ⟨ret_bool (inB_true (by omega)).symm, rfl⟩
    ·go_enter Tryz.func127, Tryz.ntmps127
     go_wp2
     go_ret
     exact ⟨ret_bool (inB_false (by omega)).symm, rfl⟩
   ·go_enter Tryz.func127, Tryz.ntmps127
    go_wp2
    go_ret
    exact ⟨ret_bool (inB_false (by omega)).symm, rfl⟩

def pw (n : Int) : Int := (256 : Int) ^ n.toNat
def top : Int := 4611686018427387904
def fitB (v n : Int) : Bool := decide (0 ≤ v ∧ v ≤ top ∧ v < pw n)
theorem fitB_true {v n : Int} (h : 0 ≤ v ∧ v ≤ top ∧ v < pw n) : fitB v n = true := decide_eq_true h
theorem fitB_false {v n : Int} (h : ¬ (0 ≤ v ∧ v ≤ top ∧ v < pw n)) : fitB v n = false := decide_eq_false h

theorem pw1 : pw 1 = 256 := rfl
theorem pw2 : pw 2 = 65536 := rfl
theorem pw3 : pw 3 = 16777216 := rfl
theorem pw4 : pw 4 = 4294967296 := rfl
theorem pw5 : pw 5 = 1099511627776 := rfl
theorem pw6 : pw 6 = 281474976710656 := rfl
theorem pw7 : pw 7 = 72057594037927936 := rfl
theorem pw8 : pw 8 = 18446744073709551616 := rfl
theorem top_eq : top = 4611686018427387904 := rfl

set_option maxHeartbeats 400000 in
theorem fits_lo (v n : Int) (w : World) (h : v < 0) :
  Calls Tryz.prog 129 #[.int .i64 v, .int .i64 n] w fun e w' => e = .returned (.bool (fitB v n)) ∧ w' = w := by
 go_enter Tryz.func129, Tryz.ntmps129
 go_wp2
 go_ret
 exact ⟨ret_bool (fitB_false (by omega)).symm, rfl⟩

set_option maxHeartbeats 400000 in
theorem fits_hi (v n : Int) (w : World) (h : 4611686018427387904 < v) :
  Calls Tryz.prog 129 #[.int .i64 v, .int .i64 n] w fun e w' => e = .returned (.bool (fitB v n)) ∧ w' = w := by
 go_enter Tryz.func129, Tryz.ntmps129
 go_wp2
 go_ret
 exact ⟨ret_bool (fitB_false (by rw [top_eq]; omega)).symm, rfl⟩

set_option maxHeartbeats 400000 in
theorem fits_mid8 (v : Int) (w : World) (h0 : 0 ≤ v) (h1 : v ≤ 4611686018427387904) :
  Calls Tryz.prog 129 #[.int .i64 v, .int .i64 8] w fun e w' => e = .returned (.bool (fitB v 8)) ∧ w' = w := by
 go_enter Tryz.func129, Tryz.ntmps129
 go_wp2
 go_ret
 exact ⟨ret_bool (fitB_true (by rw [top_eq, pw8]; omega)).symm, rfl⟩

theorem fit_eq {v n m : Int} (h0 : 0 ≤ v) (h1 : v ≤ 4611686018427387904) (hm : pw n = m) : decide (v < m) = fitB v n := by
 unfold fitB;rw [hm, top_eq]
 by_cases h : v < m
 ·rw [decide_eq_true h, decide_eq_true ⟨h0, h1, h⟩]
 ·rw [decide_eq_false h, decide_eq_false fun k => h k.2.2]

set_option maxHeartbeats 400000 in
theorem fits_mid1 (v : Int) (w : World) (h0 : 0 ≤ v) (h1 : v ≤ 4611686018427387904) :
  Calls Tryz.prog 129 #[.int .i64 v, .int .i64 1] w fun e w' => e = .returned (.bool (fitB v 1)) ∧ w' = w := by
 go_enter Tryz.func129, Tryz.ntmps129
 go_wp2
 go_ret
 exact ⟨ret_bool (fit_eq h0 h1 pw1), rfl⟩

set_option maxHeartbeats 400000 in
theorem fits_mid2 (v : Int) (w : World) (h0 : 0 ≤ v) (h1 : v ≤ 4611686018427387904) :
  Calls Tryz.prog 129 #[.int .i64 v, .int .i64 2] w fun e w' => e = .returned (.bool (fitB v 2)) ∧ w' = w := by
 go_enter Tryz.func129, Tryz.ntmps129
 go_wp2
 go_ret
 exact ⟨ret_bool (fit_eq h0 h1 pw2), rfl⟩

set_option maxHeartbeats 400000 in
theorem fits_mid3 (v : Int) (w : World) (h0 : 0 ≤ v) (h1 : v ≤ 4611686018427387904) :
  Calls Tryz.prog 129 #[.int .i64 v, .int .i64 3] w fun e w' => e = .returned (.bool (fitB v 3)) ∧ w' = w := by
 go_enter Tryz.func129, Tryz.ntmps129
 go_wp2
 go_ret
 exact ⟨ret_bool (fit_eq h0 h1 pw3), rfl⟩

set_option maxHeartbeats 400000 in
theorem fits_mid4 (v : Int) (w : World) (h0 : 0 ≤ v) (h1 : v ≤ 4611686018427387904) :
  Calls Tryz.prog 129 #[.int .i64 v, .int .i64 4] w fun e w' => e = .returned (.bool (fitB v 4)) ∧ w' = w := by
 go_enter Tryz.func129, Tryz.ntmps129
 go_wp2
 go_ret
 exact ⟨ret_bool (fit_eq h0 h1 pw4), rfl⟩

set_option maxHeartbeats 400000 in
theorem fits_mid5 (v : Int) (w : World) (h0 : 0 ≤ v) (h1 : v ≤ 4611686018427387904) :
  Calls Tryz.prog 129 #[.int .i64 v, .int .i64 5] w fun e w' => e = .returned (.bool (fitB v 5)) ∧ w' = w := by
 go_enter Tryz.func129, Tryz.ntmps129
 go_wp2
 go_ret
 exact ⟨ret_bool (fit_eq h0 h1 pw5), rfl⟩

set_option maxHeartbeats 400000 in
theorem fits_mid6 (v : Int) (w : World) (h0 : 0 ≤ v) (h1 : v ≤ 4611686018427387904) :
  Calls Tryz.prog 129 #[.int .i64 v, .int .i64 6] w fun e w' => e = .returned (.bool (fitB v 6)) ∧ w' = w := by
 go_enter Tryz.func129, Tryz.ntmps129
 go_wp2
 go_ret
 exact ⟨ret_bool (fit_eq h0 h1 pw6), rfl⟩

set_option maxHeartbeats 400000 in
theorem fits_mid7 (v : Int) (w : World) (h0 : 0 ≤ v) (h1 : v ≤ 4611686018427387904) :
  Calls Tryz.prog 129 #[.int .i64 v, .int .i64 7] w fun e w' => e = .returned (.bool (fitB v 7)) ∧ w' = w := by
 go_enter Tryz.func129, Tryz.ntmps129
 go_wp2
 go_ret
 exact ⟨ret_bool (fit_eq h0 h1 pw7), rfl⟩

theorem fits_any (v n : Int) (w : World) (h1 : 1 ≤ n) (h8 : n ≤ 8) :
  Calls Tryz.prog 129 #[.int .i64 v, .int .i64 n] w fun e w' => e = .returned (.bool (fitB v n)) ∧ w' = w := by
 by_cases a : v < 0
 ·exact fits_lo v n w a
 ·by_cases b : 4611686018427387904 < v
  ·exact fits_hi v n w b
  ·have a' : 0 ≤ v := by omega
   have b' : v ≤ 4611686018427387904 := by omega
   have c : n = 1 ∨ n = 2 ∨ n = 3 ∨ n = 4 ∨ n = 5 ∨ n = 6 ∨ n = 7 ∨ n = 8 := by omega
   rcases c with rfl | rfl | rfl | rfl | rfl | rfl | rfl | rfl
   ·exact fits_mid1 v w a' b'
   ·exact fits_mid2 v w a' b'
   ·exact fits_mid3 v w a' b'
   ·exact fits_mid4 v w a' b'
   ·exact fits_mid5 v w a' b'
   ·exact fits_mid6 v w a' b'
   ·exact fits_mid7 v w a' b'
   ·exact fits_mid8 v w a' b'

end Go.Proofs.YtpmignilhoihnaaGreat

namespace Go.Proofs.YtpmignilhoihnaaGreat
open Go.RowKit

def SA (s : List Int) : Array Value := (s.map (Value.int .u8)).toArray
def IsSec (s : List Int) : Prop := s.length = 128 ∧ ∀ x ∈ s, 0 ≤ x ∧ x ≤ 255
theorem SA_size (s : List Int) : (SA s).size = s.length := by simp [SA]
theorem SA_get (s : List Int) (j : Nat) (h : j < s.length) : (SA s)[j]? = some (.int .u8 (s.getD j 0)) := by
 simp [SA, h]
theorem IsSec.at {s : List Int} (h : IsSec s) (j : Nat) : 0 ≤ s.getD j 0 ∧ s.getD j 0 ≤ 255 := by
 by_cases hj : j < s.length
 ·simp only [List.getD_eq_getElem?_getD, List.getElem?_eq_getElem hj, Option.getD_some]
  exact h.2 _ (List.getElem_mem hj)
 ·simp [List.getD_eq_getElem?_getD, List.getElem?_eq_none (Nat.le_of_not_lt hj)]

theorem SA_cell (w : World) (t : TypeId) (s : List Int) (j : Nat) (h : j < s.length) : (w.alloc (.cells (SA s) t)).cell? ⟨w.heap.size, j, none⟩ = some (.int .u8 (s.getD j 0)) := by
 rw [cell_of_row _ _ _ (SA s) t (0, 0) (heap_alloc_new _ _)]
 exact SA_get s j h

def numAt (s : List Int) (p : Nat) : Nat → Int
 | 0 => 0
 | k + 1 => numAt s p k + s.getD (p + k) 0 * 256 ^ k

theorem nat_or_mul (a b k : Nat) (h : a < 2 ^ k) : a ||| b * 2 ^ k = a + b * 2 ^ k := by
 rw [Nat.mul_comm, Nat.or_comm, ← Nat.two_pow_add_eq_or_of_lt h, Nat.add_comm]

theorem pow_le8 {k : Nat} (h : k ≤ 7) : (256 : Nat) ^ k ≤ 72057594037927936 := Nat.le_trans (Nat.pow_le_pow_right (by decide) h) (by decide)

theorem or_step (v b : Int) (k : Nat) (hk : k ≤ 7) (hv0 : 0 ≤ v) (hv1 : v < 256 ^ k) (hb0 : 0 ≤ b) (hb1 : b ≤ 255) :
  bits .or .u64 v (IntKind.u64.wrap (IntKind.u64.wrap b * 2 ^ (8 * k))) = v + b * 256 ^ k := by
 obtain ⟨V, rfl⟩ := Int.eq_ofNat_of_zero_le hv0;obtain ⟨B, rfl⟩ := Int.eq_ofNat_of_zero_le hb0;have hp := pow_le8 hk
 have e2 : (2 : Nat) ^ (8 * k) = 256 ^ k := by rw [Nat.pow_mul]
 have hv : V < 256 ^ k := by
  have : ((V : Int)) < ((256 ^ k : Nat) : Int) := by rw [Int.natCast_pow]; exact hv1
  omega
 have hB : B ≤ 255 := by omega
 have hm : B * 256 ^ k ≤ 255 * 256 ^ k := Nat.mul_le_mul_right _ hB
 have e3 : ((B : Int)) * 2 ^ (8 * k) = ((B * 2 ^ (8 * k) : Nat) : Int) := by simp
 rw [IntWalk.u64_in (B : Int) (by omega), e3, e2, IntWalk.u64_in _ (by omega)];rw [u64_or_nat _ _ (by omega) (by omega), ← e2, nat_or_mul _ _ _ (by rw [e2]; exact hv), e2]
 simp

theorem numAt_bd {s : List Int} (hs : IsSec s) (p : Nat) : ∀ k : Nat, 0 ≤ numAt s p k ∧ numAt s p k < 256 ^ k
 | 0 => by simp [numAt]
 | k + 1 => by
  have ih := numAt_bd hs p k;have hb := hs.at (p + k);have hp : (0 : Int) < 256 ^ k := Int.pow_pos (by decide);have e : (256 : Int) ^ (k + 1) = 256 ^ k * 256 := Int.pow_succ ..;have hm : s.getD (p + k) 0 * 256 ^ k ≤ 255 * 256 ^ k := Int.mul_le_mul_of_nonneg_right hb.2 (by omega);have hz : 0 ≤ s.getD (p + k) 0 * 256 ^ k := Int.mul_nonneg hb.1 (by omega)
  simp only [numAt]
  omega

end Go.Proofs.YtpmignilhoihnaaGreat

namespace Go.Proofs.YtpmignilhoihnaaGreat
open Go.RowKit

def Zs : List Int := List.replicate 128 0
theorem Zs_len : Zs.length = 128 := by simp [Zs]
theorem Zs_sec : IsSec Zs := ⟨Zs_len, fun x hx => by simp [Zs] at hx; omega⟩
theorem sz26 : (Tryz.prog.info? 33).map (·.size) = some 128 := by kernel_rfl
theorem cells5 : Tryz.prog.cellsOf 5 = 1 := by kernel_rfl
theorem zero_sec (w : World) : (zeroValue 33).run Tryz.prog w = .ok (.agg (SA Zs)) w := by kernel_rfl
theorem build_sec (w : World) : (Instr.build 33 #[]).run Tryz.prog w = .ok (.agg (SA Zs)) w := by kernel_rfl
theorem info5 : ∃ i, Tryz.prog.info? 5 = some i := by
 cases h : Tryz.prog.info? 5 with
 | some i => exact ⟨i, rfl⟩
 | none =>
  have : (Tryz.prog.info? 5).isSome = true := by kernel_rfl
  rw [h] at this
  cases this

theorem SA_one (c : List Int) : (SA c).all (·.oneCell') = true := by
 rw [Array.all_eq_true_iff_forall_mem]
 intro v hv
 simp only [SA, List.mem_toArray, List.mem_map] at hv
 obtain ⟨x, _, rfl⟩ := hv
 rfl

theorem SA_set (c : List Int) (j : Nat) (x : Int) : (SA c).setIfInBounds j (.int .u8 x) = SA (c.set j x) := by
 simp [SA, List.map_set]

theorem run_part_sec (c : List Int) (j : Nat) (h : j < c.length) (w : World) : (part 5 (SA c) j).run Tryz.prog w = .ok (.int .u8 (c.getD j 0)) w := by
 have hag : (isAgg 5).run Tryz.prog w = .ok false w := by kernel_rfl
 simp only [part, Sem.run_bind, hag, Result.andThen_ok, Bool.false_eq_true, if_false, SA_get c j h, Sem.run_pure, Sem.run_ite]

theorem eqItems_sec (a b : List Int) (d : Nat) : ∀ (is : List Nat) (w : World), (∀ i ∈ is, i < a.length ∧ i < b.length) →
  (Op.eqItems (d + 1) 5 1 (SA a) (SA b) is).run Tryz.prog w = .ok (is.all fun i => a.getD i 0 == b.getD i 0) w
 | [], w, _ => by simp [Op.eqItems]
 | i :: is, w, h => by
  have hi := h i (by simp)
  simp only [Op.eqItems, Sem.run_bind, Nat.mul_one, run_part_sec a i hi.1, run_part_sec b i hi.2, Result.andThen_ok, run_equalIn_int _ d 5 .u8 .u8 _ _ Tryz.underlying5]
  cases hq : (a.getD i 0 == b.getD i 0)
  ·simp only [Bool.not_false, if_true, Sem.run_pure, List.all_cons, hq, Bool.false_and]
  ·simp only [Bool.not_true, Bool.false_eq_true, if_false, List.all_cons, hq, Bool.true_and]
   exact eqItems_sec a b d is w fun j hj => h j (by simp [hj])

theorem all_eq (a b : List Int) (h : a.length = b.length) : ((List.range a.length).all fun i => a.getD i 0 == b.getD i 0) = decide (a = b) := by
 rw [Bool.eq_iff_iff, List.all_eq_true, decide_eq_true_iff]
 constructor
 ·intro k
  apply List.ext_getElem h
  intro i h1 h2
  have := k i (by simpa using h1)
  simpa [h1, h2] using this
 ·rintro rfl i _
  simp

theorem eq_sec (a b : List Int) (ha : a.length = 128) (hb : b.length = 128) (w : World) :
  (Op.equalIn 10000 33 (.agg (SA a)) (.agg (SA b))).run Tryz.prog w = .ok (decide (a = b)) w := by
 obtain ⟨i, hi⟩ := info5;rw [run_equalIn_array w 9999 (SA a) (SA b) Tryz.underlying33 hi, cells5, eqItems_sec a b 9998 _ w (by simp [ha, hb]), ← ha, all_eq a b (by omega)]

theorem guard_sec : Tryz.prog.eqGuardType Tryz.prog.depth 33 = false := by kernel_rfl

theorem load_sec {ops : Array Oper} {rest : List Oper} {o : Oper} {a : Act} {w : World} {Q : Exit → Act → World → Prop} (hgd : o.guard = none) (x : Operand) (ho : o.op = .load 33 x)
  (g : Nat) (hx : a.eval x = .pointer (some ⟨g, 0, none⟩)) (c : List Int) (hc : c.length = 128) (hg : w.heap[g]? = some (.cells (SA c) 33 (0, 0)))
  (h : wpList Tryz.prog ops Q rest (a.put o.dst (.agg (SA c))) w) : wpList Tryz.prog ops Q (o :: rest) a w :=
 wpList_load_row hgd 33 x ho g hx 33 (SA c) (0, 0) _ hg Tryz.underlying33 rfl (by rw [sz26, SA_size, hc]) h

theorem wpList_want {ops : Array Oper} {rest : List Oper} {o : Oper} {a : Act} {w : World} {Q : Exit → Act → World → Prop} (hw : Region.wanted o (yielded ops a.tmps) = true)
  (h : ∀ K : Act → World → Prop, (∀ a w, wpList Tryz.prog ops Q rest a w → K a w) → o.wp Tryz.prog a w K Q) : wpList Tryz.prog ops Q (o :: rest) a w :=
 wpList_step fun K hK => by rw [if_pos hw]; exact h K hK
theorem load_sec_g {ops : Array Oper} {rest : List Oper} {o : Oper} {a : Act} {w : World} {Q : Exit → Act → World → Prop} (x : Operand) (ho : o.op = .load 33 x)
  (g : Nat) (hx : a.eval x = .pointer (some ⟨g, 0, none⟩)) (c : List Int) (hc : c.length = 128) (hg : w.heap[g]? = some (.cells (SA c) 33 (0, 0)))
  (hw : Region.wanted o (yielded ops a.tmps) = true) (h : wpList Tryz.prog ops Q rest (a.put o.dst (.agg (SA c))) w) : wpList Tryz.prog ops Q (o :: rest) a w :=
 wpList_want hw fun _ hK => wp_load_row 33 x ho g hx 33 (SA c) (0, 0) _ hg Tryz.underlying33 rfl (by rw [sz26, SA_size, hc]) (hK _ _ h)

structure Wrote (w : World) (g : Nat) (c : List Int) (w' : World) : Prop where
 here : w'.heap[g]? = some (.cells (SA c) 33 (0, 0))
 other : ∀ k, k ≠ g → w'.heap[k]? = w.heap[k]?
 size : w'.heap.size = w.heap.size
 os : w'.os = w.os
 tape : w'.tape = w.tape
 output : w'.output = w.output

theorem wrote_setRow {w : World} {g : Nat} {old : Array Value} (c : List Int) (hg : w.heap[g]? = some (.cells old 33 (0, 0))) : Wrote w g c (w.setRow g (SA c)) := by
 refine ⟨?_, ?_, ?_, rfl, rfl, rfl⟩
 ·simp [World.setRow, Array.getElem?_modify, hg]
 ·intro k hk
  simp only [World.setRow, Array.getElem?_modify]
  rw [if_neg (fun e => hk e.symm)]
 ·simp [World.setRow]

theorem Wrote.below {B g : Nat} {w0 w w' : World} {c : List Int} (h : Wrote w g c w') (hb : Below B w0 w) (hB : B ≤ g) : Below B w0 w' :=
 hb.trans ⟨h.os, h.tape, h.output, Nat.le_of_eq h.size.symm, fun k hk => h.other k (by omega)⟩

theorem store_sec {ops : Array Oper} {rest : List Oper} {o : Oper} {a : Act} {w : World} {Q : Exit → Act → World → Prop} (hgd : o.guard = none) (x y : Operand) (ho : o.op = .store 33 x y)
  (g : Nat) (hx : a.eval x = .pointer (some ⟨g, 0, none⟩)) (c : List Int) (hy : a.eval y = .agg (SA c)) (hc : c.length = 128) (old : List Int) (hold : old.length = 128) (hg : w.heap[g]? = some (.cells (SA old) 33 (0, 0)))
  (h : ∀ w', Wrote w g c w' → wpList Tryz.prog ops Q rest (a.put o.dst undef) w') : wpList Tryz.prog ops Q (o :: rest) a w :=
 wpList_store_row hgd 33 x y ho g (SA c) hx hy 33 (SA old) hg (by rw [sz26, SA_size, hc]) (by rw [SA_size, SA_size, hc, hold]) (SA_one c) (h _ (wrote_setRow c hg))

theorem sec_cell {w : World} {g : Nat} {c : List Int} {t : TypeId} (hg : w.heap[g]? = some (.cells (SA c) t (0, 0))) (j : Nat) (h : j < c.length) : w.cell? ⟨g, j, none⟩ = some (.int .u8 (c.getD j 0)) := by
 rw [cell_of_row _ _ _ (SA c) t (0, 0) hg]
 exact SA_get c j h
theorem sec_free {w : World} {g : Nat} {c : List Int} {t : TypeId} (hg : w.heap[g]? = some (.cells (SA c) t (0, 0))) (j : Nat) : w.frozen? ⟨g, j, none⟩ = false := frozen_of_row w g j (SA c) t hg

theorem sec_setCell {w : World} {g : Nat} {c : List Int} (hg : w.heap[g]? = some (.cells (SA c) 33 (0, 0))) (j : Nat) (x : Int) : Wrote w g (c.set j x) (w.setCell ⟨g, j, none⟩ (.int .u8 x)) := by
 refine ⟨?_, ?_, ?_, rfl, rfl, rfl⟩
 ·rw [heap_setCell_same w g j (SA c) 33 _ hg, SA_set]
 ·intro k hk
  exact heap_setCell_other w ⟨g, j, none⟩ k _ hk
 ·simp [World.setCell]

theorem results_sec {fn : Func} {p u : Tmp} (h : fn.results = #[.cell p 33, .tmp u]) (tmps : Array Value) (w : World) (g : Nat) (c : List Int) (hc : c.length = 128) (v : Value)
  (hp : tmps.getD p undef = .pointer (some ⟨g, 0, none⟩)) (hu : tmps.getD u undef = v) (hg : w.heap[g]? = some (.cells (SA c) 33 (0, 0))) :
  (results fn tmps).run Tryz.prog w = .ok (.tuple #[.agg (SA c), v]) w := by
 rw [results_cell_tmp h, hp, hu]
 simp [asAddr, run_loadVar_row w g 33 33 (SA c) (0, 0) _ hg Tryz.underlying33 rfl (by rw [sz26, SA_size, hc])]

theorem results_sec1 {fn : Func} {p : Tmp} (h : fn.results = #[.cell p 33]) (tmps : Array Value) (w : World) (g : Nat) (c : List Int) (hc : c.length = 128)
  (hp : tmps.getD p undef = .pointer (some ⟨g, 0, none⟩)) (hg : w.heap[g]? = some (.cells (SA c) 33 (0, 0))) :
  (results fn tmps).run Tryz.prog w = .ok (.agg (SA c)) w :=
 results_cell_row h tmps w g 33 (SA c) (0, 0) _ hp hg Tryz.underlying33 rfl (by rw [sz26, SA_size, hc])

end Go.Proofs.YtpmignilhoihnaaGreat
