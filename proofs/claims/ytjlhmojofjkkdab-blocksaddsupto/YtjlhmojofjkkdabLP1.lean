/-
  layout.PointersSector and ReadPointers: 32 numbers, both ways.
-/
import Derived.Test.YtjlhmojofjkkdabLI0
import Derived.Test.YtjlhmojofjkkdabLF1
-- may lack
namespace Go.Proofs.Ytjlhmojofjkkdab
open Go.RowKit

theorem okN_of {p n v : Int} (h1 : 1 ≤ n) (h2 : n ≤ 8) (h3 : 0 ≤ p) (h4 : p ≤ 128 - n) (h5 : 0 ≤ v) (h6 : v ≤ top) (h7 : v < pw n) : okN (p, n, v) := ⟨inB_true ⟨h1, h2, h3, h4⟩, fitB_true ⟨h5, h6, h7⟩⟩
theorem part_int (z : List Int) (j : Nat) (h : j < z.length) (w : World) : (part 3 (NA z) j).run Try.prog w = .ok (.int .i64 (z.getD j 0)) w := by
  have hag : (isAgg 3).run Try.prog w = .ok false w := by kernel_rfl
  simp only [part, Sem.run_bind, hag, Result.andThen_ok, Bool.false_eq_true, if_false, NA_get z j h, Sem.run_pure, Sem.run_ite]
def numP (x : List Int) (i : Nat) : Num := (4 * (i : Int), 4, x.getD i 0)
def numsPtr (x : List Int) (n : Nat) : List Num := (List.range n).map (numP x)
theorem numsPtr_len (x : List Int) (n : Nat) : (numsPtr x n).length = n := by simp [numsPtr]
theorem numsPtr_succ (x : List Int) (n : Nat) : numsPtr x (n + 1) = numsPtr x n ++ [numP x n] := by simp [numsPtr, List.range_succ]
def okP (x : List Int) (i : Nat) : Prop := 0 ≤ x.getD i 0 ∧ x.getD i 0 ≤ 4294967295
def ptrB (x : List Int) : Bool := (List.range 32).all fun i => decide (0 ≤ x.getD i 0 ∧ x.getD i 0 ≤ 4294967295)
theorem ptrB_true {x : List Int} (h : ∀ i, i < 32 → okP x i) : ptrB x = true := by
  rw [ptrB, List.all_eq_true]
  intro m hm
  exact decide_eq_true (h m (List.mem_range.1 hm))
theorem ptrB_of {x : List Int} (h : ptrB x = true) (i : Nat) (hi : i < 32) : okP x i := by
  have := of_decide_eq_true (List.all_eq_true.1 h i (List.mem_range.2 hi))
  exact this
theorem ptrB_false {x : List Int} {i : Nat} (hi : i < 32) (h : ¬ okP x i) : ptrB x = false := by
  cases e : ptrB x
  · rfl
  · exact absurd (ptrB_of e i hi) h
def ptrS (x : List Int) : List Int := if ptrB x = true then layS (numsPtr x 32) else Zs
def ptrE (x : List Int) : Int := if ptrB x = true then 0 else 62
theorem ptrS_sec (x : List Int) : IsSec (ptrS x) := by
  unfold ptrS; split
  · exact layS_sec _
  · exact Zs_sec
theorem ptr_ok {x : List Int} (h : ∀ i, i < 32 → okP x i) : ∀ n ∈ numsPtr x 32, okN n := by
  intro n hn
  obtain ⟨i, hi, rfl⟩ := List.mem_map.1 hn
  have hi' := List.mem_range.1 hi
  have := h i hi'
  unfold okP at this
  exact okN_of (by decide) (by decide) (by omega) (by omega) this.1 (by rw [top_eq]; omega) (by rw [pw4]; omega)
theorem szP : (Try.prog.info? 59).map (·.size) = some 32 := by kernel_rfl
def Zp : List Int := List.replicate 32 0
theorem zero_ptr (w : World) : (zeroValue 59).run Try.prog w = .ok (.agg (NA Zp)) w := by kernel_rfl

theorem index_ptr (x : List Int) (n : Nat) (hx : x.length = 32) (hn : n < 32) (w : World) : (Instr.index 59 (.agg (NA x)) (.int .i64 (n : Int))).run Try.prog w = .ok (.int .i64 (x.getD n 0)) w := by
  have hsz : (sizeOf 3).run Try.prog w = .ok 1 w := by kernel_rfl
  have hlt : (0 : Int) ≤ (n : Int) ∧ (n : Int) < ((32 : Nat) : Int) := by omega
  have hu : Try.prog.underlying 59 = some (.array 32 3) := by kernel_rfl
  have hp := part_int x n (by omega) w
  simp only [Instr.index, asIntOf, Sem.run_bind, Sem.run_pure, Result.andThen_ok, run_underlying hu, hlt, and_self, if_true, Sem.run_ite, hsz, Int.toNat_natCast, Nat.mul_one, hp]

end Go.Proofs.Ytjlhmojofjkkdab
