/-
  What is known of memory: which blocks a call may have turned; small words.
-/
import Derived.Test.YtamoepninddbcaaGreatRows
import Derived.WalkKit
import Derived.WalkSpells
import Derived.WalkLawsBesides
import Derived.Deep.QuietTactic
import Derived.BigQuiet
import Derived.Deep.WholeRow
import Derived.ChangeKeysEq
namespace Go.Proofs.YtamoepninddbcaaGreat
open Go.RowKit

theorem hid {p : Prop} (h : p) : Hid p := h
theorem ret_bool {a b : Bool} (h : a = b) : Ending.returned (.bool a) = .returned (.bool b) := by rw [h]
theorem ret_int {k : IntKind} {a b : Int} (h : a = b) : Ending.returned (.int k a) = .returned (.int k b) := by rw [h]
/-- An int. -/
def I64 (c : Int) : Prop := -9223372036854775808 ≤ c ∧ c ≤ 9223372036854775807

theorem slt {w : World} {g : Nat} {o : Obj} (h : w.heap[g]? = some o) : g < w.heap.size := by
  rcases Nat.lt_or_ge g w.heap.size with k | k
  · exact k
  · rw [Array.getElem?_eq_none k] at h; cases h

/-- Nothing that was there has turned but these blocks. -/
structure Chg (w w' : World) (ks : Nat → Prop) : Prop where
  os : w'.os = w.os
  tape : w'.tape = w.tape
  output : w'.output = w.output
  size : w.heap.size ≤ w'.heap.size
  block : ∀ k, k < w.heap.size → ¬ ks k → w'.heap[k]? = w.heap[k]?

/-- None. -/
def No (_ : Nat) : Prop := False

theorem Chg.refl (w : World) (ks : Nat → Prop) : Chg w w ks := ⟨rfl, rfl, rfl, Nat.le_refl _, fun _ _ _ => rfl⟩
theorem Chg.of_below {w w' : World} (h : Below w.heap.size w w') (ks : Nat → Prop) : Chg w w' ks := ⟨h.os, h.tape, h.output, h.size, fun k hk _ => h.block k hk⟩
theorem Chg.below {w w' : World} (h : Chg w w' No) : Below w.heap.size w w' := ⟨h.os, h.tape, h.output, h.size, fun k hk => h.block k hk (fun h => h)⟩
/-- One behind the other: what the second one turns was turned by the first, or is new, or is named. -/
theorem Chg.trans {w w1 w2 : World} {a b c : Nat → Prop} (h : Chg w w1 a) (k : Chg w1 w2 b) (ha : ∀ j, j < w.heap.size → a j → c j) (hb : ∀ j, j < w.heap.size → b j → c j) : Chg w w2 c :=
  ⟨k.os.trans h.os, k.tape.trans h.tape, k.output.trans h.output, Nat.le_trans h.size k.size, fun j hj hn => by
    rw [k.block j (Nat.lt_of_lt_of_le hj h.size) (fun e => hn (hb j hj e)), h.block j hj (fun e => hn (ha j hj e))]⟩
theorem Chg.mono {w w' : World} {a b : Nat → Prop} (h : Chg w w' a) (hs : ∀ j, j < w.heap.size → a j → b j) : Chg w w' b :=
  ⟨h.os, h.tape, h.output, h.size, fun k hk hn => h.block k hk (fun e => hn (hs k hk e))⟩
theorem Chg.drew {w w' : World} {a : Nat → Prop} (h : Chg w w' a) : Chg w w'.drew a := ⟨h.os, h.tape, h.output, h.size, h.block⟩
theorem Chg.alloc (w : World) (o : Obj) (ks : Nat → Prop) : Chg w (w.alloc o) ks := ⟨rfl, rfl, rfl, by simp, fun k hk _ => Below.heap_alloc _ _ _ hk⟩
theorem Chg.grown {w w' : World} {row : Option Nat} (h : w.grownBy w' row) : Chg w w' (fun k => some k = row) := ⟨h.os, h.tape, h.output, h.size, fun k hk hn => h.block k hk hn⟩
theorem Chg.setCell {w : World} {g j : Nat} {v : Value} : Chg w (w.setCell ⟨g, j, none⟩ v) (· = g) :=
  ⟨rfl, rfl, rfl, by simp [World.setCell], fun k _ hn => heap_setCell_other w ⟨g, j, none⟩ k _ hn⟩
theorem Chg.keep {w w' : World} {ks : Nat → Prop} (h : Chg w w' ks) {g : Nat} {o : Obj} (hg : w.heap[g]? = some o) (hn : ¬ ks g) : w'.heap[g]? = some o := by
  rw [h.block g (slt hg) hn]; exact hg
theorem Chg.to {w0 w w' : World} {ks : Nat → Prop} {B : Nat} (h : Chg w w' ks) (hb : Below B w0 w) (hB : B ≤ w.heap.size) (hk : ∀ k, ks k → B ≤ k) : Below B w0 w' :=
  hb.trans ⟨h.os, h.tape, h.output, h.size, fun k hkB => h.block k (Nat.lt_of_lt_of_le hkB hB) (fun e => by have := hk k e; omega)⟩

theorem heap_alloc_if (w : World) (o : Obj) (i : Nat) : (w.alloc o).heap[i]? = if i = w.heap.size then some o else w.heap[i]? := by
  by_cases h : i = w.heap.size
  · subst h; rw [if_pos rfl]; exact heap_alloc_new w o
  · rw [if_neg h]
    rcases Nat.lt_or_ge i w.heap.size with k | k
    · exact Below.heap_alloc _ _ _ k
    · rw [Array.getElem?_eq_none k, Array.getElem?_eq_none (by simp; omega)]

end Go.Proofs.YtamoepninddbcaaGreat
