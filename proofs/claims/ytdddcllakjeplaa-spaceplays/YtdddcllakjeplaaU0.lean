/-
  Rows of truths and of numbers that the statements keep for themselves.
-/
import Derived.Test.YtdddcllakjeplaaW1
namespace Go.Proofs.Ytdddcllakjeplaa
open Go.RowKit
-- may lack

def BA (L : List Bool) : Array Value := (L.map Value.bool).toArray
theorem BA_size (L : List Bool) : (BA L).size = L.length := by simp [BA]
theorem BA_get (L : List Bool) (j : Nat) (h : j < L.length) : (BA L)[j]? = some (.bool (L.getD j false)) := by simp [BA, h]
theorem BA_set (L : List Bool) (j : Nat) (x : Bool) : (BA L).setIfInBounds j (.bool x) = BA (L.set j x) := by simp [BA, List.map_set]
def IA (T : List Nat) : Array Value := (T.map fun (x : Nat) => Value.int .i64 (x : Int)).toArray
theorem IA_size (T : List Nat) : (IA T).size = T.length := by simp [IA]
theorem IA_get (T : List Nat) (j : Nat) (h : j < T.length) : (IA T)[j]? = some (.int .i64 (T.getD j 0 : Nat)) := by simp [IA, h]
theorem IA_set (T : List Nat) (j x : Nat) : (IA T).setIfInBounds j (.int .i64 (x : Int)) = IA (T.set j x) := by simp [IA, List.map_set]

theorem infoBo : ∃ i, Try.prog.info? 4 = some i ∧ i.zero = some (.bool false) ∧ i.size = 1 ∧ i.bytes = 1 := by
  have h : (Try.prog.info? 4).map (fun i => (i.zero, i.size, i.bytes)) = some (some (.bool false), 1, 1) := by kernel_rfl
  cases hq : Try.prog.info? 4 with
  | none => rw [hq] at h; cases h
  | some i =>
    rw [hq] at h
    simp at h
    exact ⟨i, rfl, h.1, h.2.1, h.2.2⟩
theorem made_bools (n : Nat) : madeCells #[Value.bool false] n = BA (noneL n) := by
  apply Array.ext
  · simp [size_madeCells, BA_size, noneL]
  · intro i h1 h2
    have e : (#[Value.bool false] : Array Value)[i % 1]! = Value.bool false := by rw [Nat.mod_one]; rfl
    simp only [madeCells, Array.getElem_map, Array.getElem_range]
    rw [show (#[Value.bool false] : Array Value).size = 1 from rfl, e]
    simp [BA, noneL]
theorem infoI : ∃ i, Try.prog.info? 3 = some i ∧ i.zero = some (.int .i64 0) ∧ i.size = 1 ∧ i.bytes = 8 := by
  have h : (Try.prog.info? 3).map (fun i => (i.zero, i.size, i.bytes)) = some (some (.int .i64 0), 1, 8) := by kernel_rfl
  cases hq : Try.prog.info? 3 with
  | none => rw [hq] at h; cases h
  | some i =>
    rw [hq] at h
    simp at h
    exact ⟨i, rfl, h.1, h.2.1, h.2.2⟩
theorem made_ints (n : Nat) : madeCells #[Value.int .i64 0] n = IA (List.replicate n 0) := by
  apply Array.ext
  · simp [size_madeCells, IA_size]
  · intro i h1 h2
    have e : (#[Value.int .i64 0] : Array Value)[i % 1]! = Value.int .i64 0 := by rw [Nat.mod_one]; rfl
    simp only [madeCells, Array.getElem_map, Array.getElem_range]
    rw [show (#[Value.int .i64 0] : Array Value).size = 1 from rfl, e]
    simp [IA]
theorem make_ints (n : Nat) (h1 : n ≤ 17592186044416) (w : World) :
    (Instr.makeSlice 24 (.int .i64 (n : Int)) (.int .i64 (n : Int))).run Try.prog w = .ok (.slice (some ⟨w.heap.size, 0, none⟩) n n) (w.alloc (.cells (IA (List.replicate n 0)) 3)) := by
  obtain ⟨i, hi, hz, hs, hb⟩ := infoI
  rw [run_make w 24 3 i _ Try.underlying24 hi hz .i64 .i64 n n (by omega) (Int.le_refl _) (by rw [hb]; omega) (by omega), hs, Nat.mul_one]
  rw [show Value.cells (.int .i64 0) = #[Value.int .i64 0] from rfl, made_ints, Int.toNat_natCast]

/-- Behind a store in a row of truths, of numbers. -/
theorem BA_put {w : World} {g : Nat} {L : List Bool} {t : TypeId} (h : w.heap[g]? = some (.cells (BA L) t (0, 0))) (j : Nat) (x : Bool) : (w.setCell ⟨g, j, none⟩ (.bool x)).heap[g]? = some (.cells (BA (L.set j x)) t (0, 0)) := by
  rw [heap_setCell_same w g j (BA L) t _ h, BA_set]
theorem IA_put {w : World} {g : Nat} {T : List Nat} {t : TypeId} (h : w.heap[g]? = some (.cells (IA T) t (0, 0))) (j x : Nat) : (w.setCell ⟨g, j, none⟩ (.int .i64 (x : Int))).heap[g]? = some (.cells (IA (T.set j x)) t (0, 0)) := by
  rw [heap_setCell_same w g j (IA T) t _ h, IA_set]
theorem Kit.set {w wk : World} {X lo hi p a b : Nat} {s : SS} (h : Kit w wk X lo hi p a b s) {g : Nat} (hg : hi ≤ g) (j : Nat) (v : Value) : Kit w (wk.setCell ⟨g, j, none⟩ v) X lo hi p a b s := by
  have hc : Chg wk (wk.setCell ⟨g, j, none⟩ v) (· = g) := Chg.setCell
  have hr := h.s.rp
  refine ⟨h.s.keep hc (fun k hk e => ?_), hc.keep h.x (fun e => ?_), hc.to h.b h.b.size (fun k e => ?_), h.l⟩
  · have := hk.2; omega
  · have := h.l.1; have := hr.1; have := hr.2; omega
  · have := h.l.2; have := hr.1; have := hr.2; omega
theorem tdiv64 {x : Int} (k : Int) (hk : 1 ≤ k) (h : I64 x) : I64 (x.tdiv k) := by
  obtain ⟨h0, h1⟩ := h
  rcases Int.le_total 0 x with c | c
  · rw [Int.tdiv_eq_ediv_of_nonneg c]
    have a1 := Int.ediv_nonneg c (show 0 ≤ k by omega)
    have a2 := Int.ediv_le_self k c
    exact ⟨by omega, by omega⟩
  · have e : x.tdiv k = -((-x) / k) := by
      rw [← Int.tdiv_eq_ediv_of_nonneg (by omega), Int.neg_tdiv, Int.neg_neg]
    rw [e]
    have a1 := Int.ediv_nonneg (show 0 ≤ -x by omega) (show 0 ≤ k by omega)
    have a2 := Int.ediv_le_self k (show 0 ≤ -x by omega)
    exact ⟨by omega, by omega⟩
theorem wrapdiv {x : Int} (k : Int) (hk : 1 ≤ k) (h : I64 x) : I64 (wrap64 (x.tdiv k)) := by
  rw [IntWalk.wrap64_in _ (tdiv64 k hk h)]
  exact tdiv64 k hk h

end Go.Proofs.Ytdddcllakjeplaa
