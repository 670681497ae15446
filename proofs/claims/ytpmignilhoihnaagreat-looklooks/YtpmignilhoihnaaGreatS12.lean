/-
 The document's sight: rows of inodes and of numbers, in memory.
-/
import Derived.Test.YtpmignilhoihnaaGreatS10
import Derived.BigQuiet
namespace Go.Proofs.YtpmignilhoihnaaGreat
open Go.RowKit Go.Shelf

end Go.Proofs.YtpmignilhoihnaaGreat

namespace Go.Proofs.YtpmignilhoihnaaGreat
open Go.RowKit Go.Shelf

def InAt (w : World) (b n : Nat) (f : Nat → List Int) : Prop := ∃ A, w.heap[b]? = some (.cells A 51 (0, 0)) ∧ ∀ i, i < n → ∀ j, j < 18 → A[i * 18 + j]? = some (.int .i64 ((f i).getD j 0))
theorem InAt.keep {w w' : World} {b n : Nat} {f : Nat → List Int} {ks : Nat → Prop} (h : InAt w b n f) (hc : Chg w w' ks) (hn : ¬ ks b) : InAt w' b n f := by
 obtain ⟨A, h1, h2⟩ := h
 exact ⟨A, hc.keep h1 hn, h2⟩
theorem InAt.cell {w : World} {b n : Nat} {f : Nat → List Int} (h : InAt w b n f) {i j : Nat} (hi : i < n) (hj : j < 18) : w.cell? ⟨b, i * 18 + j, none⟩ = some (.int .i64 ((f i).getD j 0)) := by
 obtain ⟨A, h1, h2⟩ := h
 exact (cell_of_row _ _ _ _ _ _ h1).trans (h2 i hi j hj)
theorem InAt.cell0 {w : World} {b n : Nat} {f : Nat → List Int} (h : InAt w b n f) {i : Nat} (hi : i < n) : w.cell? ⟨b, i * 18, none⟩ = some (.int .i64 ((f i).getD 0 0)) := by
 have q := h.cell hi (j := 0) (by omega);rw [Nat.add_zero] at q
 exact q
theorem InAt.range {w : World} {b n : Nat} {f : Nat → List Int} (h : InAt w b n f) {i : Nat} (hi : i < n) (hl : (f i).length = 18) : w.rangeAt b (i * 18) ((f i).map (Value.int .i64)) := by
 intro j v hv
 rw [List.getElem?_map] at hv
 cases hx : (f i)[j]? with
 | none => rw [hx] at hv; cases hv
 | some x =>
  rw [hx] at hv;have := Option.some.inj hv;subst this
  have hj : j < 18 := by have := (List.getElem?_eq_some_iff.1 hx).1; omega
  rw [h.cell hi hj, List.getD_eq_getElem?_getD, hx]
  rfl
theorem InAt.lt {w : World} {b n : Nat} {f : Nat → List Int} (h : InAt w b n f) : b < w.heap.size := let ⟨_, h, _⟩ := h; slt h
def putF18 (f : Nat → List Int) (i : Nat) (z : List Int) : Nat → List Int := fun j => if j = i then z else f j
theorem InAt.set {w : World} {b n : Nat} {f : Nat → List Int} (h : InAt w b n f) {k : Nat} (hk : k < n) {z : List Int} (hz : z.length = 18) :
  InAt (w.setCells b (k * 18) (z.map (Value.int .i64))) b n (putF18 f k z) ∧ Chg w (w.setCells b (k * 18) (z.map (Value.int .i64))) (· = b) := by
 obtain ⟨A, h1, h2⟩ := h;obtain ⟨A', k1, k2, k3, k4, k5⟩ := setCells_row (z.map (Value.int .i64)) (k * 18) w A h1;refine ⟨⟨A', k1, fun i hi j hj => ?_⟩, k4⟩;rw [k3, List.length_map, hz];have hb : i * 18 + j < A.size := (Array.getElem?_eq_some_iff.1 (h2 i hi j hj)).1;unfold putF18
 by_cases e : i = k
 ·subst e
  rw [if_pos ⟨by omega, by omega, hb⟩, if_pos rfl, show i * 18 + j - i * 18 = j by omega, List.getElem?_map, List.getElem?_eq_getElem (by omega)]
  simp [hz, hj]
 ·rw [if_neg (by omega), if_neg e]
  exact h2 i hi j hj
def NAt (w : World) (g n : Nat) (f : Int → Int) : Prop := ∃ A, w.heap[g]? = some (.cells A 3 (0, 0)) ∧ ∀ k, k < n → A[k]? = some (.int .i64 (f (k : Int)))
theorem NAt.keep {w w' : World} {g n : Nat} {f : Int → Int} {ks : Nat → Prop} (h : NAt w g n f) (hc : Chg w w' ks) (hn : ¬ ks g) : NAt w' g n f := by
 obtain ⟨A, h1, h2⟩ := h
 exact ⟨A, hc.keep h1 hn, h2⟩
theorem NAt.cell {w : World} {g n : Nat} {f : Int → Int} (h : NAt w g n f) {k : Nat} (hk : k < n) : w.cell? ⟨g, k, none⟩ = some (.int .i64 (f (k : Int))) ∧ w.frozen? ⟨g, k, none⟩ = false := by
 obtain ⟨A, h1, h2⟩ := h
 exact ⟨(cell_of_row _ _ _ _ _ _ h1).trans (h2 k hk), frozen_of_row _ _ _ _ _ h1⟩
theorem NAt.put {w : World} {g n : Nat} {f : Int → Int} (h : NAt w g n f) {k : Nat} (hk : k < n) (v : Int) : NAt (w.setCell ⟨g, k, none⟩ (.int .i64 v)) g n (putI f (k : Int) v) := by
 obtain ⟨A, h1, h2⟩ := h;refine ⟨_, heap_setCell_same w g k A _ _ h1, fun j hj => ?_⟩;rw [Array.getElem?_setIfInBounds];have hs : k < A.size := (Array.getElem?_eq_some_iff.1 (h2 k hk)).1
 by_cases e : k = j
 ·subst e
  rw [if_pos rfl, if_pos hs]
  simp [putI]
 ·rw [if_neg e, h2 j hj]
  have : ¬ (j : Int) = (k : Int) := by omega
  simp [putI, this]
def TA (n : Nat) : Array Value := Array.replicate n (.int .i64 0)
def UA (n : Nat) : Array Value := Array.replicate n (.bool false)
theorem infoBo : ∃ i, Tryz.prog.info? 4 = some i ∧ i.zero = some (.bool false) ∧ i.size = 1 ∧ i.bytes = 1 := by
 have h : (Tryz.prog.info? 4).map (fun i => (i.zero, i.size, i.bytes)) = some (some (.bool false), 1, 1) := by kernel_rfl
 cases hq : Tryz.prog.info? 4 with
 | none => rw [hq] at h; cases h
 | some i =>
  rw [hq] at h
  simp at h
  exact ⟨i, rfl, h.1, h.2.1, h.2.2⟩
theorem made_one (v : Value) (n : Nat) : madeCells #[v] n = Array.replicate n v := by
 apply Array.ext
 ·simp [size_madeCells]
 ·intro i h1 h2
  have e : (#[v] : Array Value)[i % 1]! = v := by rw [Nat.mod_one]; rfl
  simp only [madeCells, Array.getElem_map, Array.getElem_range]
  rw [show (#[v] : Array Value).size = 1 from rfl, e]
  simp
theorem make_bools (n : Nat) (h1 : n ≤ 5000) (w : World) :
  (Instr.makeSlice 64 (.int .i64 (n : Int)) (.int .i64 (n : Int))).run Tryz.prog w = .ok (.slice (some ⟨w.heap.size, 0, none⟩) n n) (w.alloc (.cells (UA n) 4)) := by
 obtain ⟨i, hi, hz, hs, hb⟩ := infoBo;rw [run_make w 64 4 i _ Tryz.underlying64 hi hz .i64 .i64 n n (by omega) (Int.le_refl _) (by rw [hb]; omega) (by omega), hs, Nat.mul_one];rw [show Value.cells (.bool false) = #[Value.bool false] from rfl, made_one, Int.toNat_natCast]
 rfl
theorem make_ints (n : Nat) (h1 : n ≤ 5000) (w : World) :
  (Instr.makeSlice 24 (.int .i64 (n : Int)) (.int .i64 (n : Int))).run Tryz.prog w = .ok (.slice (some ⟨w.heap.size, 0, none⟩) n n) (w.alloc (.cells (TA n) 3)) := by
 obtain ⟨i, hi, hz, hs, hb⟩ := infoI;rw [run_make w 24 3 i _ Tryz.underlying24 hi hz .i64 .i64 n n (by omega) (Int.le_refl _) (by rw [hb]; omega) (by omega), hs, Nat.mul_one];rw [show Value.cells (.int .i64 0) = #[Value.int .i64 0] from rfl, made_one, Int.toNat_natCast]
 rfl
theorem nat_made (w : World) (n : Nat) : NAt (w.alloc (.cells (TA n) 3)) w.heap.size n (fun _ => 0) :=
 ⟨_, heap_alloc_new _ _, fun k hk => by simp [TA, hk]⟩
theorem bat_made (w : World) (n : Nat) : BAt (w.alloc (.cells (UA n) 4)) w.heap.size n (fun _ => false) :=
 ⟨_, heap_alloc_new _ _, fun k hk => by simp [UA, hk]⟩
section
variable {w0 w w' : World} {c : SC} {sn : Int → Bool} {n tb rb : Nat} {f : Nat → List Int} {tm : Int → Int} {R : Int → Bool}
end
end Go.Proofs.YtpmignilhoihnaaGreat
