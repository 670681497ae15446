/-
 The laws of whole sectors in memory: a new one is zeros, one is loaded, stored and compared as a list of bytes.
-/
import Derived.Test.YtpmignilhoihnabGreatPlain
import Derived.Deep.WholeRow
import Derived.ChangeKeysEq
namespace Go.Proofs.YtpmignilhoihnabGreat
open Go.RowKit

def Zs : List Int := List.replicate 128 0
theorem Zs_len : Zs.length = 128 := by simp [Zs]
theorem Zs_sec : IsSec Zs := ⟨Zs_len, fun x hx => by simp [Zs] at hx; omega⟩
theorem sz26 : (Tryz.prog.info? 36).map (·.size) = some 128 := by kernel_rfl
theorem cells5 : Tryz.prog.cellsOf 5 = 1 := by kernel_rfl
theorem zero_sec (w : World) : (zeroValue 36).run Tryz.prog w = .ok (.agg (SA Zs)) w := by kernel_rfl
theorem build_sec (w : World) : (Instr.build 36 #[]).run Tryz.prog w = .ok (.agg (SA Zs)) w := by kernel_rfl
theorem info5 : ∃ i, Tryz.prog.info? 5 = some i := by
 cases h : Tryz.prog.info? 5 with
 | some i => exact ⟨i, rfl⟩
 | none =>
  have : (Tryz.prog.info? 5).isSome = true := by kernel_rfl
  rw [h] at this
  cases this

theorem SA_one (c : List Int) : (SA c).all (·.oneCell') = true := by
 rw [Array.all_eq_true_iff_forall_mem]
 intro v hv
 simp only [SA, List.mem_toArray, List.mem_map] at hv
 obtain ⟨x, _, rfl⟩ := hv
 rfl

theorem SA_set (c : List Int) (j : Nat) (x : Int) : (SA c).setIfInBounds j (.int .u8 x) = SA (c.set j x) := by
 simp [SA, List.map_set]

theorem run_part_sec (c : List Int) (j : Nat) (h : j < c.length) (w : World) : (part 5 (SA c) j).run Tryz.prog w = .ok (.int .u8 (c.getD j 0)) w := by
 have hag : (isAgg 5).run Tryz.prog w = .ok false w := by kernel_rfl
 simp only [part, Sem.run_bind, hag, Result.andThen_ok, Bool.false_eq_true, if_false, SA_get c j h, Sem.run_pure, Sem.run_ite]

theorem eqItems_sec (a b : List Int) (d : Nat) : ∀ (is : List Nat) (w : World), (∀ i ∈ is, i < a.length ∧ i < b.length) →
  (Op.eqItems (d + 1) 5 1 (SA a) (SA b) is).run Tryz.prog w = .ok (is.all fun i => a.getD i 0 == b.getD i 0) w
 | [], w, _ => by simp [Op.eqItems]
 | i :: is, w, h => by
  have hi := h i (by simp)
  simp only [Op.eqItems, Sem.run_bind, Nat.mul_one, run_part_sec a i hi.1, run_part_sec b i hi.2, Result.andThen_ok, run_equalIn_int _ d 5 .u8 .u8 _ _ Tryz.underlying5]
  cases hq : (a.getD i 0 == b.getD i 0)
  ·simp only [Bool.not_false, if_true, Sem.run_pure, List.all_cons, hq, Bool.false_and]
  ·simp only [Bool.not_true, Bool.false_eq_true, if_false, List.all_cons, hq, Bool.true_and]
   exact eqItems_sec a b d is w fun j hj => h j (by simp [hj])

theorem all_eq (a b : List Int) (h : a.length = b.length) : ((List.range a.length).all fun i => a.getD i 0 == b.getD i 0) = decide (a = b) := by
 rw [Bool.eq_iff_iff, List.all_eq_true, decide_eq_true_iff]
 constructor
 ·intro k
  apply List.ext_getElem h
  intro i h1 h2
  have := k i (by simpa using h1)
  simpa [h1, h2] using this
 ·rintro rfl i _
  simp

theorem eq_sec (a b : List Int) (ha : a.length = 128) (hb : b.length = 128) (w : World) :
  (Op.equalIn 10000 36 (.agg (SA a)) (.agg (SA b))).run Tryz.prog w = .ok (decide (a = b)) w := by
 obtain ⟨i, hi⟩ := info5;rw [run_equalIn_array w 9999 (SA a) (SA b) Tryz.underlying36 hi, cells5, eqItems_sec a b 9998 _ w (by simp [ha, hb]), ← ha, all_eq a b (by omega)]

theorem guard_sec : Tryz.prog.eqGuardType Tryz.prog.depth 36 = false := by kernel_rfl

theorem load_sec {ops : Array Oper} {rest : List Oper} {o : Oper} {a : Act} {w : World} {Q : Exit → Act → World → Prop} (hgd : o.guard = none) (x : Operand) (ho : o.op = .load 36 x)
  (g : Nat) (hx : a.eval x = .pointer (some ⟨g, 0, none⟩)) (c : List Int) (hc : c.length = 128) (hg : w.heap[g]? = some (.cells (SA c) 36 (0, 0)))
  (h : wpList Tryz.prog ops Q rest (a.put o.dst (.agg (SA c))) w) : wpList Tryz.prog ops Q (o :: rest) a w :=
 wpList_load_row hgd 36 x ho g hx 36 (SA c) (0, 0) _ hg Tryz.underlying36 rfl (by rw [sz26, SA_size, hc]) h

theorem wpList_want {ops : Array Oper} {rest : List Oper} {o : Oper} {a : Act} {w : World} {Q : Exit → Act → World → Prop} (hw : Region.wanted o (yielded ops a.tmps) = true)
  (h : ∀ K : Act → World → Prop, (∀ a w, wpList Tryz.prog ops Q rest a w → K a w) → o.wp Tryz.prog a w K Q) : wpList Tryz.prog ops Q (o :: rest) a w :=
 wpList_step fun K hK => by rw [if_pos hw]; exact h K hK
theorem load_sec_g {ops : Array Oper} {rest : List Oper} {o : Oper} {a : Act} {w : World} {Q : Exit → Act → World → Prop} (x : Operand) (ho : o.op = .load 36 x)
  (g : Nat) (hx : a.eval x = .pointer (some ⟨g, 0, none⟩)) (c : List Int) (hc : c.length = 128) (hg : w.heap[g]? = some (.cells (SA c) 36 (0, 0)))
  (hw : Region.wanted o (yielded ops a.tmps) = true) (h : wpList Tryz.prog ops Q rest (a.put o.dst (.agg (SA c))) w) : wpList Tryz.prog ops Q (o :: rest) a w :=
 wpList_want hw fun _ hK => wp_load_row 36 x ho g hx 36 (SA c) (0, 0) _ hg Tryz.underlying36 rfl (by rw [sz26, SA_size, hc]) (hK _ _ h)

structure Wrote (w : World) (g : Nat) (c : List Int) (w' : World) : Prop where
 here : w'.heap[g]? = some (.cells (SA c) 36 (0, 0))
 other : ∀ k, k ≠ g → w'.heap[k]? = w.heap[k]?
 size : w'.heap.size = w.heap.size
 os : w'.os = w.os
 tape : w'.tape = w.tape
 output : w'.output = w.output

theorem wrote_setRow {w : World} {g : Nat} {old : Array Value} (c : List Int) (hg : w.heap[g]? = some (.cells old 36 (0, 0))) : Wrote w g c (w.setRow g (SA c)) := by
 refine ⟨?_, ?_, ?_, rfl, rfl, rfl⟩
 ·simp [World.setRow, Array.getElem?_modify, hg]
 ·intro k hk
  simp only [World.setRow, Array.getElem?_modify]
  rw [if_neg (fun e => hk e.symm)]
 ·simp [World.setRow]

theorem Wrote.below {B g : Nat} {w0 w w' : World} {c : List Int} (h : Wrote w g c w') (hb : Below B w0 w) (hB : B ≤ g) : Below B w0 w' :=
 hb.trans ⟨h.os, h.tape, h.output, Nat.le_of_eq h.size.symm, fun k hk => h.other k (by omega)⟩

theorem store_sec {ops : Array Oper} {rest : List Oper} {o : Oper} {a : Act} {w : World} {Q : Exit → Act → World → Prop} (hgd : o.guard = none) (x y : Operand) (ho : o.op = .store 36 x y)
  (g : Nat) (hx : a.eval x = .pointer (some ⟨g, 0, none⟩)) (c : List Int) (hy : a.eval y = .agg (SA c)) (hc : c.length = 128) (old : List Int) (hold : old.length = 128) (hg : w.heap[g]? = some (.cells (SA old) 36 (0, 0)))
  (h : ∀ w', Wrote w g c w' → wpList Tryz.prog ops Q rest (a.put o.dst undef) w') : wpList Tryz.prog ops Q (o :: rest) a w :=
 wpList_store_row hgd 36 x y ho g (SA c) hx hy 36 (SA old) hg (by rw [sz26, SA_size, hc]) (by rw [SA_size, SA_size, hc, hold]) (SA_one c) (h _ (wrote_setRow c hg))

theorem sec_cell {w : World} {g : Nat} {c : List Int} {t : TypeId} (hg : w.heap[g]? = some (.cells (SA c) t (0, 0))) (j : Nat) (h : j < c.length) : w.cell? ⟨g, j, none⟩ = some (.int .u8 (c.getD j 0)) := by
 rw [cell_of_row _ _ _ (SA c) t (0, 0) hg]
 exact SA_get c j h
theorem sec_free {w : World} {g : Nat} {c : List Int} {t : TypeId} (hg : w.heap[g]? = some (.cells (SA c) t (0, 0))) (j : Nat) : w.frozen? ⟨g, j, none⟩ = false := frozen_of_row w g j (SA c) t hg

theorem sec_setCell {w : World} {g : Nat} {c : List Int} (hg : w.heap[g]? = some (.cells (SA c) 36 (0, 0))) (j : Nat) (x : Int) : Wrote w g (c.set j x) (w.setCell ⟨g, j, none⟩ (.int .u8 x)) := by
 refine ⟨?_, ?_, ?_, rfl, rfl, rfl⟩
 ·rw [heap_setCell_same w g j (SA c) 36 _ hg, SA_set]
 ·intro k hk
  exact heap_setCell_other w ⟨g, j, none⟩ k _ hk
 ·simp [World.setCell]

theorem results_sec {fn : Func} {p u : Tmp} (h : fn.results = #[.cell p 36, .tmp u]) (tmps : Array Value) (w : World) (g : Nat) (c : List Int) (hc : c.length = 128) (v : Value)
  (hp : tmps.getD p undef = .pointer (some ⟨g, 0, none⟩)) (hu : tmps.getD u undef = v) (hg : w.heap[g]? = some (.cells (SA c) 36 (0, 0))) :
  (results fn tmps).run Tryz.prog w = .ok (.tuple #[.agg (SA c), v]) w := by
 rw [results_cell_tmp h, hp, hu]
 simp [asAddr, run_loadVar_row w g 36 36 (SA c) (0, 0) _ hg Tryz.underlying36 rfl (by rw [sz26, SA_size, hc])]

theorem results_sec1 {fn : Func} {p : Tmp} (h : fn.results = #[.cell p 36]) (tmps : Array Value) (w : World) (g : Nat) (c : List Int) (hc : c.length = 128)
  (hp : tmps.getD p undef = .pointer (some ⟨g, 0, none⟩)) (hg : w.heap[g]? = some (.cells (SA c) 36 (0, 0))) :
  (results fn tmps).run Tryz.prog w = .ok (.agg (SA c)) w :=
 results_cell_row h tmps w g 36 (SA c) (0, 0) _ hp hg Tryz.underlying36 rfl (by rw [sz26, SA_size, hc])

end Go.Proofs.YtpmignilhoihnabGreat
