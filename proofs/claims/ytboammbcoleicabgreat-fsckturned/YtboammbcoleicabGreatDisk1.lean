/-
 The calls of package disk that make a disk and tell of one: what they answer, for every input.
-/
import Derived.Test.YtboammbcoleicabGreatRows
import Derived.WalkKit
import Derived.WalkSpells
import Derived.WalkLawsBesides
import Derived.Deep.QuietTactic
import Derived.BigQuiet
import Derived.Deep.WholeRow
import Derived.ChangeKeysEq
import Derived.Deep.RegionHeld3
import Derived.Laws.CopyOwn
import Derived.Deep.RegionLaw
import Derived.Deep.MidRow
import Derived.Maps.AppendAt
import Derived.Deep.AppendLies
import Derived.Deep.CutRange
import Derived.Deep.DeepCutAuto
namespace Go.Proofs.YtboammbcoleicabGreat.D
open Go.RowKit
-- may lack

theorem hid {p : Prop} (h : p) : Hid p := h
theorem ret_bool {a b : Bool} (h : a = b) : Ending.returned (.bool a) = .returned (.bool b) := by rw [h]

def SA (s : List Int) : Array Value := (s.map (Value.int .u8)).toArray
def IsSec (s : List Int) : Prop := s.length = 128 ∧ ∀ x ∈ s, 0 ≤ x ∧ x ≤ 255
theorem SA_size (s : List Int) : (SA s).size = s.length := by simp [SA]
theorem SA_get (s : List Int) (j : Nat) (h : j < s.length) : (SA s)[j]? = some (.int .u8 (s.getD j 0)) := by
 simp [SA, h]
theorem IsSec.at {s : List Int} (h : IsSec s) (j : Nat) : 0 ≤ s.getD j 0 ∧ s.getD j 0 ≤ 255 := by
 by_cases hj : j < s.length
 ·simp only [List.getD_eq_getElem?_getD, List.getElem?_eq_getElem hj, Option.getD_some]
  exact h.2 _ (List.getElem_mem hj)
 ·simp [List.getD_eq_getElem?_getD, List.getElem?_eq_none (Nat.le_of_not_lt hj)]

theorem SA_cell (w : World) (t : TypeId) (s : List Int) (j : Nat) (h : j < s.length) : (w.alloc (.cells (SA s) t)).cell? ⟨w.heap.size, j, none⟩ = some (.int .u8 (s.getD j 0)) := by
 rw [cell_of_row _ _ _ (SA s) t (0, 0) (heap_alloc_new _ _)]
 exact SA_get s j h

def Zs : List Int := List.replicate 128 0
theorem Zs_len : Zs.length = 128 := by simp [Zs]
theorem Zs_sec : IsSec Zs := ⟨Zs_len, fun x hx => by simp [Zs] at hx; omega⟩
theorem sz26 : (Tryz.prog.info? 46).map (·.size) = some 128 := by kernel_rfl
theorem cells5 : Tryz.prog.cellsOf 5 = 1 := by kernel_rfl
theorem zero_sec (w : World) : (zeroValue 46).run Tryz.prog w = .ok (.agg (SA Zs)) w := by kernel_rfl
theorem build_sec (w : World) : (Instr.build 46 #[]).run Tryz.prog w = .ok (.agg (SA Zs)) w := by kernel_rfl
theorem info5 : ∃ i, Tryz.prog.info? 5 = some i := by
 cases h : Tryz.prog.info? 5 with
 | some i => exact ⟨i, rfl⟩
 | none =>
  have : (Tryz.prog.info? 5).isSome = true := by kernel_rfl
  rw [h] at this
  cases this

theorem SA_one (c : List Int) : (SA c).all (·.oneCell') = true := by
 rw [Array.all_eq_true_iff_forall_mem]
 intro v hv
 simp only [SA, List.mem_toArray, List.mem_map] at hv
 obtain ⟨x, _, rfl⟩ := hv
 rfl

theorem SA_set (c : List Int) (j : Nat) (x : Int) : (SA c).setIfInBounds j (.int .u8 x) = SA (c.set j x) := by
 simp [SA, List.map_set]

theorem run_part_sec (c : List Int) (j : Nat) (h : j < c.length) (w : World) : (part 5 (SA c) j).run Tryz.prog w = .ok (.int .u8 (c.getD j 0)) w := by
 have hag : (isAgg 5).run Tryz.prog w = .ok false w := by kernel_rfl
 simp only [part, Sem.run_bind, hag, Result.andThen_ok, Bool.false_eq_true, if_false, SA_get c j h, Sem.run_pure, Sem.run_ite]

theorem eqItems_sec (a b : List Int) (d : Nat) : ∀ (is : List Nat) (w : World), (∀ i ∈ is, i < a.length ∧ i < b.length) →
  (Op.eqItems (d + 1) 5 1 (SA a) (SA b) is).run Tryz.prog w = .ok (is.all fun i => a.getD i 0 == b.getD i 0) w
 | [], w, _ => by simp [Op.eqItems]
 | i :: is, w, h => by
  have hi := h i (by simp)
  simp only [Op.eqItems, Sem.run_bind, Nat.mul_one, run_part_sec a i hi.1, run_part_sec b i hi.2, Result.andThen_ok, run_equalIn_int _ d 5 .u8 .u8 _ _ Tryz.underlying5]
  cases hq : (a.getD i 0 == b.getD i 0)
  ·simp only [Bool.not_false, if_true, Sem.run_pure, List.all_cons, hq, Bool.false_and]
  ·simp only [Bool.not_true, Bool.false_eq_true, if_false, List.all_cons, hq, Bool.true_and]
   exact eqItems_sec a b d is w fun j hj => h j (by simp [hj])

theorem all_eq (a b : List Int) (h : a.length = b.length) : ((List.range a.length).all fun i => a.getD i 0 == b.getD i 0) = decide (a = b) := by
 rw [Bool.eq_iff_iff, List.all_eq_true, decide_eq_true_iff]
 constructor
 ·intro k
  apply List.ext_getElem h
  intro i h1 h2
  have := k i (by simpa using h1)
  simpa [h1, h2] using this
 ·rintro rfl i _
  simp

theorem eq_sec (a b : List Int) (ha : a.length = 128) (hb : b.length = 128) (w : World) :
  (Op.equalIn 10000 46 (.agg (SA a)) (.agg (SA b))).run Tryz.prog w = .ok (decide (a = b)) w := by
 obtain ⟨i, hi⟩ := info5;rw [run_equalIn_array w 9999 (SA a) (SA b) Tryz.underlying46 hi, cells5, eqItems_sec a b 9998 _ w (by simp [ha, hb]), ← ha, all_eq a b (by omega)]

theorem guard_sec : Tryz.prog.eqGuardType Tryz.prog.depth 46 = false := by kernel_rfl

theorem load_sec {ops : Array Oper} {rest : List Oper} {o : Oper} {a : Act} {w : World} {Q : Exit → Act → World → Prop} (hgd : o.guard = none) (x : Operand) (ho : o.op = .load 46 x)
  (g : Nat) (hx : a.eval x = .pointer (some ⟨g, 0, none⟩)) (c : List Int) (hc : c.length = 128) (hg : w.heap[g]? = some (.cells (SA c) 46 (0, 0)))
  (h : wpList Tryz.prog ops Q rest (a.put o.dst (.agg (SA c))) w) : wpList Tryz.prog ops Q (o :: rest) a w :=
 wpList_load_row hgd 46 x ho g hx 46 (SA c) (0, 0) _ hg Tryz.underlying46 rfl (by rw [sz26, SA_size, hc]) h

theorem wpList_want {ops : Array Oper} {rest : List Oper} {o : Oper} {a : Act} {w : World} {Q : Exit → Act → World → Prop} (hw : Region.wanted o (yielded ops a.tmps) = true)
  (h : ∀ K : Act → World → Prop, (∀ a w, wpList Tryz.prog ops Q rest a w → K a w) → o.wp Tryz.prog a w K Q) : wpList Tryz.prog ops Q (o :: rest) a w :=
 wpList_step fun K hK => by rw [if_pos hw]; exact h K hK
theorem load_sec_g {ops : Array Oper} {rest : List Oper} {o : Oper} {a : Act} {w : World} {Q : Exit → Act → World → Prop} (x : Operand) (ho : o.op = .load 46 x)
  (g : Nat) (hx : a.eval x = .pointer (some ⟨g, 0, none⟩)) (c : List Int) (hc : c.length = 128) (hg : w.heap[g]? = some (.cells (SA c) 46 (0, 0)))
  (hw : Region.wanted o (yielded ops a.tmps) = true) (h : wpList Tryz.prog ops Q rest (a.put o.dst (.agg (SA c))) w) : wpList Tryz.prog ops Q (o :: rest) a w :=
 wpList_want hw fun _ hK => wp_load_row 46 x ho g hx 46 (SA c) (0, 0) _ hg Tryz.underlying46 rfl (by rw [sz26, SA_size, hc]) (hK _ _ h)

structure Wrote (w : World) (g : Nat) (c : List Int) (w' : World) : Prop where
 here : w'.heap[g]? = some (.cells (SA c) 46 (0, 0))
 other : ∀ k, k ≠ g → w'.heap[k]? = w.heap[k]?
 size : w'.heap.size = w.heap.size
 os : w'.os = w.os
 tape : w'.tape = w.tape
 output : w'.output = w.output

theorem wrote_setRow {w : World} {g : Nat} {old : Array Value} (c : List Int) (hg : w.heap[g]? = some (.cells old 46 (0, 0))) : Wrote w g c (w.setRow g (SA c)) := by
 refine ⟨?_, ?_, ?_, rfl, rfl, rfl⟩
 ·simp [World.setRow, Array.getElem?_modify, hg]
 ·intro k hk
  simp only [World.setRow, Array.getElem?_modify]
  rw [if_neg (fun e => hk e.symm)]
 ·simp [World.setRow]

theorem Wrote.below {B g : Nat} {w0 w w' : World} {c : List Int} (h : Wrote w g c w') (hb : Below B w0 w) (hB : B ≤ g) : Below B w0 w' :=
 hb.trans ⟨h.os, h.tape, h.output, Nat.le_of_eq h.size.symm, fun k hk => h.other k (by omega)⟩

theorem store_sec {ops : Array Oper} {rest : List Oper} {o : Oper} {a : Act} {w : World} {Q : Exit → Act → World → Prop} (hgd : o.guard = none) (x y : Operand) (ho : o.op = .store 46 x y)
  (g : Nat) (hx : a.eval x = .pointer (some ⟨g, 0, none⟩)) (c : List Int) (hy : a.eval y = .agg (SA c)) (hc : c.length = 128) (old : List Int) (hold : old.length = 128) (hg : w.heap[g]? = some (.cells (SA old) 46 (0, 0)))
  (h : ∀ w', Wrote w g c w' → wpList Tryz.prog ops Q rest (a.put o.dst undef) w') : wpList Tryz.prog ops Q (o :: rest) a w :=
 wpList_store_row hgd 46 x y ho g (SA c) hx hy 46 (SA old) hg (by rw [sz26, SA_size, hc]) (by rw [SA_size, SA_size, hc, hold]) (SA_one c) (h _ (wrote_setRow c hg))

theorem sec_cell {w : World} {g : Nat} {c : List Int} {t : TypeId} (hg : w.heap[g]? = some (.cells (SA c) t (0, 0))) (j : Nat) (h : j < c.length) : w.cell? ⟨g, j, none⟩ = some (.int .u8 (c.getD j 0)) := by
 rw [cell_of_row _ _ _ (SA c) t (0, 0) hg]
 exact SA_get c j h
theorem sec_free {w : World} {g : Nat} {c : List Int} {t : TypeId} (hg : w.heap[g]? = some (.cells (SA c) t (0, 0))) (j : Nat) : w.frozen? ⟨g, j, none⟩ = false := frozen_of_row w g j (SA c) t hg

theorem sec_setCell {w : World} {g : Nat} {c : List Int} (hg : w.heap[g]? = some (.cells (SA c) 46 (0, 0))) (j : Nat) (x : Int) : Wrote w g (c.set j x) (w.setCell ⟨g, j, none⟩ (.int .u8 x)) := by
 refine ⟨?_, ?_, ?_, rfl, rfl, rfl⟩
 ·rw [heap_setCell_same w g j (SA c) 46 _ hg, SA_set]
 ·intro k hk
  exact heap_setCell_other w ⟨g, j, none⟩ k _ hk
 ·simp [World.setCell]

theorem results_sec {fn : Func} {p u : Tmp} (h : fn.results = #[.cell p 46, .tmp u]) (tmps : Array Value) (w : World) (g : Nat) (c : List Int) (hc : c.length = 128) (v : Value)
  (hp : tmps.getD p undef = .pointer (some ⟨g, 0, none⟩)) (hu : tmps.getD u undef = v) (hg : w.heap[g]? = some (.cells (SA c) 46 (0, 0))) :
  (results fn tmps).run Tryz.prog w = .ok (.tuple #[.agg (SA c), v]) w := by
 rw [results_cell_tmp h, hp, hu]
 simp [asAddr, run_loadVar_row w g 46 46 (SA c) (0, 0) _ hg Tryz.underlying46 rfl (by rw [sz26, SA_size, hc])]

theorem results_sec1 {fn : Func} {p : Tmp} (h : fn.results = #[.cell p 46]) (tmps : Array Value) (w : World) (g : Nat) (c : List Int) (hc : c.length = 128)
  (hp : tmps.getD p undef = .pointer (some ⟨g, 0, none⟩)) (hg : w.heap[g]? = some (.cells (SA c) 46 (0, 0))) :
  (results fn tmps).run Tryz.prog w = .ok (.agg (SA c)) w :=
 results_cell_row h tmps w g 46 (SA c) (0, 0) _ hp hg Tryz.underlying46 rfl (by rw [sz26, SA_size, hc])

def zl (n : Nat) : List Int := List.replicate n 0
theorem zl_len (n : Nat) : (zl n).length = n := by simp [zl]
theorem zl_get (n j : Nat) : (zl n).getD j 0 = 0 := by
 unfold zl
 by_cases h : j < n
 ·simp [List.getD_eq_getElem?_getD, h]
 ·simp [List.getD_eq_getElem?_getD, h]

theorem infoS : ∃ i, Tryz.prog.info? 46 = some i ∧ i.zero = some (.agg (SA Zs)) ∧ i.size = 128 ∧ i.bytes = 128 := by
 have h : (Tryz.prog.info? 46).map (fun i => (i.zero, i.size, i.bytes)) = some (some (.agg (SA Zs)), 128, 128) := by kernel_rfl
 cases hq : Tryz.prog.info? 46 with
 | none => rw [hq] at h; cases h
 | some i =>
  rw [hq] at h
  simp at h
  exact ⟨i, rfl, h.1, h.2.1, h.2.2⟩

theorem made_secs (n : Nat) : madeCells (SA Zs) n = SA (zl n) := by
 apply Array.ext
 ·simp [size_madeCells, SA_size, zl_len]
 ·intro i h1 h2
  have hs : (SA Zs).size = 128 := by rw [SA_size, Zs_len]
  have hi : i % 128 < 128 := Nat.mod_lt _ (by decide)
  have e : (SA Zs)[i % 128]! = Value.int .u8 0 := by
   rw [Array.getElem!_eq_getD, Array.getD_eq_getD_getElem?, SA_get Zs _ (by rw [Zs_len]; exact hi), show Zs.getD (i % 128) 0 = 0 from zl_get 128 _]
   rfl
  simp only [madeCells, Array.getElem_map, Array.getElem_range, hs, e]
  simp [SA, zl]

theorem make_secs (n : Int) (h0 : 0 ≤ n) (h1 : 128 * n ≤ 281474976710656) (w : World) :
  (Instr.makeSlice 25 (.int .i64 n) (.int .i64 n)).run Tryz.prog w = .ok (.slice (some ⟨w.heap.size, 0, none⟩) n.toNat n.toNat) (w.alloc (.cells (SA (zl (128 * n.toNat))) 46)) := by
 obtain ⟨i, hi, hz, hs, hb⟩ := infoS;rw [run_make w 25 46 i _ Tryz.underlying25 hi hz .i64 .i64 n n h0 (Int.le_refl _) (by rw [hb]; omega) (by omega), hs, Nat.mul_comm];rw [show Value.cells (.agg (SA Zs)) = SA Zs from rfl, made_secs]

structure WroteB (w : World) (g : Nat) (t : TypeId) (c : List Int) (w' : World) : Prop where
 here : w'.heap[g]? = some (.cells (SA c) t (0, 0))
 other : ∀ k, k ≠ g → w'.heap[k]? = w.heap[k]?
 size : w'.heap.size = w.heap.size
 os : w'.os = w.os
 tape : w'.tape = w.tape
 output : w'.output = w.output
theorem WroteB.below {B g : Nat} {t : TypeId} {w0 w w' : World} {c : List Int} (h : WroteB w g t c w') (hb : Below B w0 w) (hB : B ≤ g) : Below B w0 w' :=
 hb.trans ⟨h.os, h.tape, h.output, Nat.le_of_eq h.size.symm, fun k hk => h.other k (by omega)⟩
theorem row_setCell {w : World} {g : Nat} {t : TypeId} {c : List Int} (hg : w.heap[g]? = some (.cells (SA c) t (0, 0))) (j : Nat) (x : Int) : WroteB w g t (c.set j x) (w.setCell ⟨g, j, none⟩ (.int .u8 x)) := by
 refine ⟨?_, ?_, ?_, rfl, rfl, rfl⟩
 ·rw [heap_setCell_same w g j (SA c) t _ hg, SA_set]
 ·intro k hk
  exact heap_setCell_other w ⟨g, j, none⟩ k _ hk
 ·simp [World.setCell]

theorem kept_write {w w' : World} {g k : Nat} {c : List Int} {x : Option Obj} (h : Wrote w g c w') (hx : Hid (w.heap[k]? = x)) (hk : k ≠ g) : Hid (w'.heap[k]? = x) := by
 show _ = _
 rw [h.other _ hk]
 exact hx.out

end Go.Proofs.YtboammbcoleicabGreat.D

namespace Go.Proofs.YtboammbcoleicabGreat.D
open Go.RowKit
-- may lack

theorem sS {α : Type} : (∀ (l : List α) (i : Nat) (a : α), l.toArray.setIfInBounds i a = (l.set i a).toArray) ∧ (∀ (x y : α) (l : List α), (x :: l).set 0 y = y :: l) ∧ ∀ (x y : α) (l : List α) (n : Nat), (x :: l).set (n + 1) y = x :: l.set n y := ⟨fun l i a => List.setIfInBounds_toArray l i a, fun _ _ _ => rfl, fun _ _ _ _ => rfl⟩
section
variable {ops : Array Oper} {Q : Exit → Act → World → Prop} {S : World → Prop} {fuel : Nat} {listed : Array Bool} {a : Act} {w : World}

theorem takeVal (i d : Nat) (v : Value) {o : Oper} (hop : ops[i]? = some o) (hs : Region.noSelect ops = true) (hf : Region.free .any ops listed i = true) (hr : (Region.ready .any ops listed).contains i = true)
  (hd : o.dst = some d) (hw : Region.wanted o (yielded ops a.tmps) = true) (hQ : ∀ c a w, ¬ Q (.panic c) a w) (hS : S w)
  (hy : ∀ w, S w → (execOp a.eval o).run Tryz.prog w = .ok (.value v) w)
  (h : wpAnyH Tryz.prog .any ops Q S fuel (listed.setIfInBounds i true) { a with tmps := a.tmps.setIfInBounds d v } w) : wpAnyH Tryz.prog .any ops Q S (fuel + 1) listed a w := by
 refine wpAnyH_take (v := v) hop hs hf hr (fun c a w k => absurd k (hQ c _ w)) (.inl ⟨hw, hy⟩) hS ?_;unfold Act.put;rw [hd]
 exact h

theorem takeNot (i d : Nat) {o : Oper} (hop : ops[i]? = some o) (hs : Region.noSelect ops = true) (hf : Region.free .any ops listed i = true) (hr : (Region.ready .any ops listed).contains i = true)
  (hd : o.dst = some d) (hw : Region.wanted o (yielded ops a.tmps) = false) (hQ : ∀ c a w, ¬ Q (.panic c) a w) (hS : S w)
  (h : wpAnyH Tryz.prog .any ops Q S fuel (listed.setIfInBounds i true) { a with tmps := a.tmps.setIfInBounds d undef } w) : wpAnyH Tryz.prog .any ops Q S (fuel + 1) listed a w := by
 refine wpAnyH_take (v := undef) hop hs hf hr (fun c a w k => absurd k (hQ c _ w)) (.inr ⟨hw, rfl⟩) hS ?_;unfold Act.put;rw [hd]
 exact h

theorem takeSec (i d : Nat) (x : Operand) (g : Nat) (c : List Int) (hc : c.length = 128) {o : Oper} (hop : ops[i]? = some o) (hs : Region.noSelect ops = true) (hf : Region.free .any ops listed i = true) (hr : (Region.ready .any ops listed).contains i = true)
  (hd : o.dst = some d) (ho : o.op = .load 46 x) (hx : a.eval x = .pointer (some ⟨g, 0, none⟩)) (hw : Region.wanted o (yielded ops a.tmps) = true) (hQ : ∀ c a w, ¬ Q (.panic c) a w) (hS : S w)
  (hg : ∀ w, S w → w.heap[g]? = some (.cells (SA c) 46 (0, 0)))
  (h : wpAnyH Tryz.prog .any ops Q S fuel (listed.setIfInBounds i true) { a with tmps := a.tmps.setIfInBounds d (.agg (SA c)) } w) : wpAnyH Tryz.prog .any ops Q S (fuel + 1) listed a w := by
 refine takeVal i d (.agg (SA c)) hop hs hf hr hd hw hQ hS (fun w hw' => ?_) h;unfold execOp
 simp only [ho, hx, Instr.loadAt, Instr.sureAddr, Sem.run_bind, Sem.run_pure, Result.andThen_ok, run_loadVar_row w g 46 46 (SA c) (0, 0) _ (hg w hw') Tryz.underlying46 rfl (by rw [sz26, SA_size, hc])]

end

end Go.Proofs.YtboammbcoleicabGreat.D

namespace Go.Proofs.YtboammbcoleicabGreat.D
open Go.RowKit
-- may lack

structure HB (w0 : World) (bl : List (Nat × Obj)) (w : World) : Prop where
 at_ : ∀ x, x ∈ bl → w.heap[x.1]? = some x.2
 low : ∀ x, x ∈ bl → x.1 < w.heap.size
 old : Below w0.heap.size w0 w

section
variable {ops : Array Oper} {Q : Exit → Act → World → Prop} {S : World → Prop} {fuel : Nat} {listed : Array Bool} {a : Act} {w : World}

abbrev St (ops : Array Oper) (Q : Exit → Act → World → Prop) (S : World → Prop) (fuel : Nat) (listed : Array Bool) (a : Act) (w : World) (i : Nat) : Prop :=
 wpOp Tryz.prog ops Q i (fun a' w' => S w' ∧ wpAnyH Tryz.prog .any ops Q S fuel (listed.setIfInBounds i true) a' w') a w

theorem tV (i d : Nat) (v : Value) {o : Oper} (hop : ops[i]? = some o) (hq : (Region.noSelect ops && (Region.free .any ops listed i && (Region.ready .any ops listed).contains i)) = true) (hd : o.dst = some d) (hw : Region.wanted o (yielded ops a.tmps) = true) (hS : S w)
 (hy : ∀ w, S w → (execOp a.eval o).run Tryz.prog w = .ok (.value v) w)
 (h : wpAnyH Tryz.prog .any ops Q S fuel (listed.setIfInBounds i true) { a with tmps := a.tmps.setIfInBounds d v } w) (hQ : ∀ c a w, ¬ Q (.panic c) a w := by exact fun _ _ _ h => h) : wpAnyH Tryz.prog .any ops Q S (fuel + 1) listed a w := by
 rw [Bool.and_eq_true, Bool.and_eq_true] at hq
 exact takeVal i d v hop hq.1 hq.2.1 hq.2.2 hd hw hQ hS hy h
theorem step1 (i : Nat) (hr : Region.ready .any ops listed = [i]) (h : St ops Q S fuel listed a w i) : wpAnyH Tryz.prog .any ops Q S (fuel + 1) listed a w :=
 wpAnyH_all hr (by simp) fun j hj => by simp at hj; subst hj; exact h
theorem step2 (i j : Nat) (hr : Region.ready .any ops listed = [i, j]) (h : St ops Q S fuel listed a w i) (k : St ops Q S fuel listed a w j) : wpAnyH Tryz.prog .any ops Q S (fuel + 1) listed a w :=
 wpAnyH_all hr (by simp) fun l hl => by
  simp at hl
  rcases hl with rfl | rfl
  ·exact h
  ·exact k

theorem stCall (i d f : Nat) (args : Array Value) (R : Ending → World → Prop) {o : Oper} (hop : ops[i]? = some o)
  (hd : o.dst = some d) (hw : Region.wanted o (yielded ops a.tmps) = true) (hrun : (execOp a.eval o).run Tryz.prog w = .ok (.enter f args) w) (hc : Calls Tryz.prog f args w R)
  (h : ∀ e w', R e w' → ∃ v, e = .returned v ∧ S w' ∧ wpAnyH Tryz.prog .any ops Q S fuel (listed.setIfInBounds i true) { a with tmps := a.tmps.setIfInBounds d v } w') : St ops Q S fuel listed a w i := by
 refine wpOp_step hop (fun K hK => ?_);rw [if_pos hw];unfold Oper.wp;rw [hrun, Oper.upon_enter];refine hc.mono ?_
 intro e w' hR
 obtain ⟨v, rfl, hS, hrest⟩ := h e w' hR;refine hK _ _ ⟨hS, ?_⟩;unfold Act.put;rw [hd]
 exact hrest
end

end Go.Proofs.YtboammbcoleicabGreat.D

namespace Go.Proofs.YtboammbcoleicabGreat.D
open Go.RowKit
-- may lack

def BytesAt (w : World) (a : Option Addr) (zs : List Int) : Prop :=
 zs = [] ∨ ∃ b o, a = some ⟨b, o, none⟩ ∧ b < w.heap.size ∧ ∀ j, j < zs.length → w.cell? ⟨b, o + j, none⟩ = some (.int .u8 (zs.getD j 0))

theorem one_cells (l : List Int) : ∀ v ∈ l.map (Value.int .u8), v.oneCell' = true := by
 intro v hv
 rw [List.mem_map] at hv;obtain ⟨x, _, rfl⟩ := hv
 rfl
theorem sz5 : (Tryz.prog.info? 5).map (·.size) = some 1 := by kernel_rfl
theorem addr_add (b o j : Nat) : (⟨b, o, none⟩ : Addr).add j = ⟨b, o + j, none⟩ := by unfold Addr.add; split <;> simp_all

section
variable {ops : Array Oper} {Q : Exit → Act → World → Prop} {S : World → Prop} {fuel : Nat} {listed : Array Bool} {a : Act} {w : World}
end

def secK (fl : List Int) (k : Nat) : List Int := (fl.drop (k * 128)).take 128
theorem secK_len {fl : List Int} {m k : Nat} (hl : fl.length = 128 * m) (hk : k < m) : (secK fl k).length = 128 := by
 unfold secK;rw [List.length_take, List.length_drop]
 omega
theorem secK_range {w : World} {b o m k : Nat} {fl : List Int} (hl : fl.length = 128 * m) (hk : k < m) (h : ∀ j, j < fl.length → w.cell? ⟨b, o + j, none⟩ = some (.int .u8 (fl.getD j 0))) : w.rangeAt b (o + k * 128) ((secK fl k).map (Value.int .u8)) := by
 intro j x hj
 have hlt : j < 128 := by
  rcases Nat.lt_or_ge j 128 with c | c
  ·exact c
  ·rw [List.getElem?_eq_none (by rw [List.length_map, secK_len hl hk]; exact c)] at hj; cases hj
 have h1 := h (k * 128 + j) (by omega);rw [Nat.add_assoc, h1];unfold secK at hj
 simp only [List.getElem?_map, List.getElem?_take, List.getElem?_drop, if_pos hlt] at hj
 rw [List.getElem?_eq_getElem (show k * 128 + j < fl.length by omega)] at hj
 simp only [Option.map_some, Option.some.injEq] at hj
 rw [← hj, List.getD_eq_getElem?_getD, List.getElem?_eq_getElem (show k * 128 + j < fl.length by omega)]
 rfl

theorem bytes_below {w w' : World} {ad : Option Addr} {zs : List Int} (h : BytesAt w ad zs) (hb : Below w.heap.size w w') : BytesAt w' ad zs := by
 rcases h with h | ⟨b, o, rfl, hlt, hc⟩
 ·exact .inl h
 ·exact .inr ⟨b, o, rfl, by have := hb.size; omega, fun j hj => by rw [hb.cell (p := ⟨b, o + j, none⟩) hlt]; exact hc j hj⟩

end Go.Proofs.YtboammbcoleicabGreat.D

namespace Go.Proofs.YtboammbcoleicabGreat.D
open Go.RowKit
-- may lack

theorem src_of {w : World} {ad : Addr} {l : List Int} (h : BytesAt w (some ad) l) : ∀ j u, (l.map (Value.int .u8))[j]? = some u → w.cell? (ad.add j) = some u := by
 intro j u hj
 have hlt : j < l.length := by
  rcases Nat.lt_or_ge j l.length with c | c
  ·exact c
  ·rw [List.getElem?_eq_none (by simpa using c)] at hj; cases hj
 rcases h with rfl | ⟨b, o, he, _, hc⟩
 ·simp at hlt
 ·cases he
  rw [addr_add, hc j hlt]
  simp [hlt] at hj
  simp [hlt, hj]

end Go.Proofs.YtboammbcoleicabGreat.D

namespace Go.Proofs.YtboammbcoleicabGreat.D
open Go.RowKit
-- may lack

section
variable {ops : Array Oper} {Q : Exit → Act → World → Prop} {S : World → Prop} {fuel : Nat} {listed : Array Bool} {a : Act} {w : World}
theorem stVal (i d : Nat) (v : Value) {o : Oper} (hop : ops[i]? = some o) (hd : o.dst = some d) (hw : Region.wanted o (yielded ops a.tmps) = true)
  (hrun : (execOp a.eval o).run Tryz.prog w = .ok (.value v) w) (hS : S w)
  (h : wpAnyH Tryz.prog .any ops Q S fuel (listed.setIfInBounds i true) { a with tmps := a.tmps.setIfInBounds d v } w) : St ops Q S fuel listed a w i := by
 refine wpOp_step hop (fun K hK => ?_);rw [if_pos hw];unfold Oper.wp;rw [hrun];refine hK _ _ ⟨hS, ?_⟩;unfold Act.put;rw [hd]
 exact h
end

theorem row_bytes {w : World} {g : Nat} {t : TypeId} {l : List Int} (h : w.heap[g]? = some (.cells (SA l) t (0, 0))) : BytesAt w (some ⟨g, 0, none⟩) l := by
 have hlt : g < w.heap.size := by
  rcases Nat.lt_or_ge g w.heap.size with k | k
  ·exact k
  ·rw [Array.getElem?_eq_none k] at h; cases h
 exact .inr ⟨g, 0, rfl, hlt, fun j hj => by rw [Nat.zero_add]; exact sec_cell h j hj⟩
def Apart (w0 : World) (bl : List (Nat × Obj)) (v : Value) : Prop := ∀ k, v.ownBlock = some k → w0.heap.size ≤ k ∧ ∀ x, x ∈ bl → x.1 ≠ k
section
variable {ops : Array Oper} {Q : Exit → Act → World → Prop} {S : World → Prop} {fuel : Nat} {listed : Array Bool} {a : Act} {w : World}
theorem stNew (i d : Nat) (v : Value) (ob : Obj) {o : Oper} (hop : ops[i]? = some o) (hd : o.dst = some d) (hw : Region.wanted o (yielded ops a.tmps) = true)
  (hrun : (execOp a.eval o).run Tryz.prog w = .ok (.value v) (w.alloc ob))
  (h : S (w.alloc ob) ∧ wpAnyH Tryz.prog .any ops Q S fuel (listed.setIfInBounds i true) { a with tmps := a.tmps.setIfInBounds d v } (w.alloc ob)) : St ops Q S fuel listed a w i := by
 refine wpOp_step hop (fun K hK => ?_);rw [if_pos hw];unfold Oper.wp;rw [hrun];refine hK _ _ ⟨h.1, ?_⟩;unfold Act.put;rw [hd]
 exact h.2
end

end Go.Proofs.YtboammbcoleicabGreat.D

namespace Go.Proofs.YtboammbcoleicabGreat.D
open Go.RowKit
-- may lack

def over : List Int → Nat → List Int → List Int
 | l, _, [] => l
 | l, o, x :: r => over (l.set o x) (o + 1) r
theorem over_eq : ∀ (r l : List Int) (o : Nat), o + r.length ≤ l.length → over l o r = l.take o ++ r ++ l.drop (o + r.length)
 | [], l, o, _ => by simp [over]
 | x :: r, l, o, h => by
  simp only [List.length_cons] at h
  rw [over, over_eq r (l.set o x) (o + 1) (by simp; omega)]
  have t1 : (l.set o x).take (o + 1) = l.take o ++ [x] := by
   rw [List.take_succ_eq_append_getElem (by simp; omega), List.take_set_of_le (Nat.le_refl _)]
   simp
  have t2 : (l.set o x).drop (o + 1 + r.length) = l.drop (o + (x :: r).length) := by
   rw [List.drop_set_of_lt (by omega), List.length_cons]
   congr 1
   omega
  rw [t1, t2, List.append_assoc, List.append_assoc, List.append_assoc]
  rfl
theorem WroteB.refl {w : World} {g : Nat} {t : TypeId} {c : List Int} (h : w.heap[g]? = some (.cells (SA c) t (0, 0))) : WroteB w g t c w := ⟨h, fun _ _ => rfl, rfl, rfl, rfl, rfl⟩
theorem WroteB.trans {w w1 w2 : World} {g : Nat} {t : TypeId} {c c' : List Int} (h : WroteB w g t c w1) (k : WroteB w1 g t c' w2) : WroteB w g t c' w2 :=
 ⟨k.here, fun j hj => (k.other j hj).trans (h.other j hj), k.size.trans h.size, k.os.trans h.os, k.tape.trans h.tape, k.output.trans h.output⟩
theorem over_cells {g : Nat} {t : TypeId} : ∀ (r l : List Int) (o : Nat) (w : World), w.heap[g]? = some (.cells (SA l) t (0, 0)) → WroteB w g t (over l o r) (w.setCells g o (r.map (Value.int .u8)))
 | [], _, _, _, h => WroteB.refl h
 | x :: r, l, o, w, h => by
  have h1 := row_setCell h o x
  exact h1.trans (over_cells r (l.set o x) (o + 1) _ h1.here)

theorem Below.refl_call (w : World) (o : Obj) : Below w.heap.size w (w.alloc o) := (Below.refl _ _).alloc (Nat.le_refl _) o

end Go.Proofs.YtboammbcoleicabGreat.D

namespace Go.Proofs.YtboammbcoleicabGreat.D
open Go.RowKit
-- may lack

def pickN (c n : Int) : Int := (if c < 0 then -(c + 1) else c) % n
theorem pickN_bd (c : Int) {n : Int} (hn : 1 ≤ n) : 0 ≤ pickN c n ∧ pickN c n < n :=
 ⟨Int.emod_nonneg _ (by omega), Int.emod_lt_of_pos _ (by omega)⟩
def I64 (c : Int) : Prop := -9223372036854775808 ≤ c ∧ c ≤ 9223372036854775807
theorem ret_int {k : IntKind} {a b : Int} (h : a = b) : Ending.returned (.int k a) = .returned (.int k b) := by rw [h]

set_option maxHeartbeats 400000 in
theorem pick_any (c n : Int) (w : World) (hc : I64 c) (hn : 1 ≤ n) (hn2 : n ≤ 4611686018427387904) :
  Calls Tryz.prog 13 #[.int .i64 c, .int .i64 n] w fun e w' => e = .returned (.int .i64 (pickN c n)) ∧ w' = w := by
 obtain ⟨h0, h1⟩ := hc
 have hn0 : (n == 0) = false := by simp; omega
 by_cases h : c < 0
 ·have HP : Hid (pickN c n = (-(c + 1)) % n) := by show _ = _; rw [pickN, if_pos h]
  go_enter Tryz.func13, Tryz.ntmps13
  go_wp2
  go_ret
  exact ⟨ret_int (by rw [HP.out, ← Int.tmod_eq_emod_of_nonneg (by omega), Int.neg_tmod]), rfl⟩
 ·have HP : Hid (pickN c n = c % n) := by show _ = _; rw [pickN, if_neg h]
  have h' : 0 ≤ c := by omega
  go_enter Tryz.func13, Tryz.ntmps13
  go_wp2
  go_ret
  exact ⟨ret_int (by rw [HP.out]), rfl⟩

end Go.Proofs.YtboammbcoleicabGreat.D

namespace Go.Proofs.YtboammbcoleicabGreat.D
open Go.RowKit
-- may lack

theorem slt {w : World} {g : Nat} {o : Obj} (h : w.heap[g]? = some o) : g < w.heap.size := by
 rcases Nat.lt_or_ge g w.heap.size with k | k
 ·exact k
 ·rw [Array.getElem?_eq_none k] at h; cases h

structure Mod (w w' : World) (ks : List Nat) : Prop where
 os : w'.os = w.os
 tape : w'.tape = w.tape
 output : w'.output = w.output
 size : w.heap.size ≤ w'.heap.size
 block : ∀ k, k < w.heap.size → k ∉ ks → w'.heap[k]? = w.heap[k]?

theorem Mod.of_below {w w' : World} (h : Below w.heap.size w w') : Mod w w' [] := ⟨h.os, h.tape, h.output, h.size, fun k hk _ => h.block k hk⟩
theorem Mod.trans {w w1 w2 : World} {a b : List Nat} (h : Mod w w1 a) (k : Mod w1 w2 b) : Mod w w2 (a ++ b) :=
 ⟨k.os.trans h.os, k.tape.trans h.tape, k.output.trans h.output, Nat.le_trans h.size k.size, fun j hj hn => by
  rw [k.block j (Nat.lt_of_lt_of_le hj h.size) (fun e => hn (List.mem_append_right _ e)), h.block j hj (fun e => hn (List.mem_append_left _ e))]⟩
theorem Mod.mono {w w' : World} {a b : List Nat} (h : Mod w w' a) (hs : ∀ k, k ∈ a → k < w.heap.size → k ∈ b) : Mod w w' b :=
 ⟨h.os, h.tape, h.output, h.size, fun k hk hn => h.block k hk (fun e => hn (hs k e hk))⟩
theorem Mod.drew {w w' : World} {a : List Nat} (h : Mod w w' a) : Mod w w'.drew a := ⟨h.os, h.tape, h.output, h.size, h.block⟩
theorem Mod.set {w : World} {g j : Nat} {v : Value} : Mod w (w.setCell ⟨g, j, none⟩ v) [g] :=
 ⟨rfl, rfl, rfl, by simp [World.setCell], fun k _ hn => heap_setCell_other w ⟨g, j, none⟩ k _ (fun e => hn (by simp [e]))⟩
theorem Mod.wrote {w w' : World} {g : Nat} {t : TypeId} {c : List Int} (h : WroteB w g t c w') : Mod w w' [g] :=
 ⟨h.os, h.tape, h.output, Nat.le_of_eq h.size.symm, fun k _ hn => h.other k (fun e => hn (by simp [e]))⟩
def DC (g n : Nat) (wr : Int) (dn ar : Bool) (lf : Int) : Array Value := #[.slice (some ⟨g, 0, none⟩) n n, .int .i64 wr, .bool dn, .bool ar, .int .i64 lf]
structure St8 where
 S : List Int
 wr : Int
 dn : Bool
 ar : Bool
 lf : Int

structure IsD (w : World) (p g n : Nat) (d : St8) : Prop where
 me : w.heap[p]? = some (.cells (DC g n d.wr d.dn d.ar d.lf) 51 (0, 0))
 row : w.heap[g]? = some (.cells (SA d.S) 46 (0, 0))
 len : d.S.length = 128 * n
 pos : 1 ≤ n
 top : n ≤ 4096
theorem IsD.ne {w : World} {p g n : Nat} {d : St8} (h : IsD w p g n d) : p ≠ g := by
 intro e
 have h1 := h.me;rw [e, h.row] at h1
 injection h1 with h1
 injection h1 with _ h2
 revert h2
 decide
theorem IsD.keep {w w' : World} {p g n : Nat} {d : St8} {ks : List Nat} (h : IsD w p g n d) (hm : Mod w w' ks) (hp : p ∉ ks) (hg : g ∉ ks) : IsD w' p g n d :=
 ⟨by rw [hm.block p (slt h.me) hp]; exact h.me, by rw [hm.block g (slt h.row) hg]; exact h.row, h.len, h.pos, h.top⟩
theorem IsD.call {w w' : World} {p g n : Nat} {d : St8} (h : IsD w p g n d) (hb : Below w.heap.size w w') : IsD w' p g n d := h.keep (Mod.of_below hb) (by simp) (by simp)

theorem IsD.c0 {w : World} {p g n : Nat} {d : St8} (h : IsD w p g n d) : w.cell? ⟨p, 0, none⟩ = some (.slice (some ⟨g, 0, none⟩) n n) := by rw [cell_of_row _ _ _ _ _ _ h.me]; rfl
theorem IsD.c1 {w : World} {p g n : Nat} {d : St8} (h : IsD w p g n d) : w.cell? ⟨p, 1, none⟩ = some (.int .i64 d.wr) := by rw [cell_of_row _ _ _ _ _ _ h.me]; rfl
theorem IsD.c2 {w : World} {p g n : Nat} {d : St8} (h : IsD w p g n d) : w.cell? ⟨p, 2, none⟩ = some (.bool d.dn) := by rw [cell_of_row _ _ _ _ _ _ h.me]; rfl
theorem IsD.c3 {w : World} {p g n : Nat} {d : St8} (h : IsD w p g n d) : w.cell? ⟨p, 3, none⟩ = some (.bool d.ar) := by rw [cell_of_row _ _ _ _ _ _ h.me]; rfl
theorem IsD.c4 {w : World} {p g n : Nat} {d : St8} (h : IsD w p g n d) : w.cell? ⟨p, 4, none⟩ = some (.int .i64 d.lf) := by rw [cell_of_row _ _ _ _ _ _ h.me]; rfl
theorem IsD.fz {w : World} {p g n : Nat} {d : St8} (h : IsD w p g n d) (j : Nat) : w.frozen? ⟨p, j, none⟩ = false := frozen_of_row w p j _ _ h.me

theorem run_copy_secs (w : World) (ty : TypeId) (g m c : Nat) (a : Addr) (sc : Nat) (old new : List Int) (hg : w.heap[g]? = some (.cells (SA old) 46 (0, 0))) (ho : old.length = 128 * m) (hl : new.length = 128 * m) (hs : BytesAt w (some a) new) :
  (Builtin.copy_ #[25, 25] ty #[.slice (some ⟨g, 0, none⟩) m c, .slice (some a) m sc]).run Tryz.prog w = .ok (goInt m) (w.setRow g (SA new)) := by
 obtain ⟨i, hi, hz, hsz, hby⟩ := infoS;have h1 := run_loadCells_list (P := Tryz.prog) w a (new.map (Value.int .u8)) (src_of hs);have h2 := run_storeCells_at Tryz.prog g 0 46 (new.map (Value.int .u8)) 0 (SA old) w hg (by rw [SA_size, List.length_map]; omega) (one_cells new);rw [List.length_map, hl] at h1
 have e : ((SA old).toList.take (0 + 0) ++ new.map (Value.int .u8) ++ (SA old).toList.drop (0 + 0 + (new.map (Value.int .u8)).length)).toArray = SA new := by
  rw [List.drop_of_length_le (by simp [SA]; omega)]
  simp [SA]
 rw [e] at h2;have hm : m * 128 = 128 * m := Nat.mul_comm _ _
 simp [Builtin.copy_, run_underlying Tryz.underlying25, Builtin.lenOf, Builtin.firstCells, sizeOf, typeInfo, hi, hsz, hm, h1, h2]
theorem wrote_row {w : World} {g : Nat} {t : TypeId} {old : Array Value} (c : List Int) (hg : w.heap[g]? = some (.cells old t (0, 0))) : WroteB w g t c (w.setRow g (SA c)) := by
 refine ⟨?_, ?_, ?_, rfl, rfl, rfl⟩
 ·simp [World.setRow, Array.getElem?_modify, hg]
 ·intro k hk
  simp only [World.setRow, Array.getElem?_modify]
  rw [if_neg (fun e => hk e.symm)]
 ·simp [World.setRow]

end Go.Proofs.YtboammbcoleicabGreat.D

namespace Go.Proofs.YtboammbcoleicabGreat.D
open Go.RowKit
-- may lack

def mayB (n : Int) : Bool := decide (1 ≤ n ∧ n ≤ 4096)
theorem mayB_true {n : Int} (h : 1 ≤ n ∧ n ≤ 4096) : mayB n = true := decide_eq_true h
theorem mayB_false {n : Int} (h : ¬ (1 ≤ n ∧ n ≤ 4096)) : mayB n = false := decide_eq_false h

set_option maxHeartbeats 400000 in
theorem maySize_any (n : Int) (w : World) : Calls Tryz.prog 14 #[.int .i64 n] w fun e w' => e = .returned (.bool (mayB n)) ∧ w' = w := by
 by_cases h1 : 1 ≤ n
 ·by_cases h2 : n ≤ 4096
  ·go_enter Tryz.func14, Tryz.ntmps14
   go_wp2
   go_ret
   exact ⟨ret_bool (mayB_true (by omega)).symm, rfl⟩
  ·go_enter Tryz.func14, Tryz.ntmps14
   go_wp2
   go_ret
   exact ⟨ret_bool (mayB_false (by omega)).symm, rfl⟩
 ·go_enter Tryz.func14, Tryz.ntmps14
  go_wp2
  go_ret
  exact ⟨ret_bool (mayB_false (by omega)).symm, rfl⟩

def D0 (S : List Int) : St8 := ⟨S, 0, false, false, 0⟩

theorem build_disk (v : Value) (a : Option Addr) (n c : Nat) (hv : v = .slice a n c) (w : World) : (Instr.build 51 #[(0, v)]).run Tryz.prog w = .ok (.agg #[v, .int .i64 0, .bool false, .bool false, .int .i64 0]) w := by
 subst hv
 kernel_rfl

set_option maxHeartbeats 400000 in
theorem laid_any (m cap : Nat) (ad : Addr) (fl : List Int) (w : World) (h1 : m ≤ 5003) (hl : Hid (fl.length = 128 * m)) (HZ : Hid (BytesAt w (some ad) fl)) :
  Calls Tryz.prog 15 #[.slice (some ad) m cap] w fun e w' => ∃ g, e = .returned (.slice (some ⟨g, 0, none⟩) m m) ∧ w.heap.size ≤ g ∧ w'.heap[g]? = some (.cells (SA fl) 46 (0, 0)) ∧ Below w.heap.size w w' := by
 have hmk := make_secs (m : Int) (by omega) (by omega);rw [Int.toNat_natCast] at hmk;have hb : Below w.heap.size w (w.alloc (.cells (SA (zl (128 * m))) 46)) := Below.refl_call w _;have hcp := run_copy_secs (w.alloc (.cells (SA (zl (128 * m))) 46)) 3 w.heap.size m m ad cap (zl (128 * m)) fl (heap_alloc_new _ _) (zl_len _) hl.out (bytes_below HZ.out hb);have HW := hid (wrote_row fl (heap_alloc_new w (.cells (SA (zl (128 * m))) 46)))
 go_enter Tryz.func15, Tryz.ntmps15
 go_wp2
 go_ret
 exact ⟨_, rfl, Nat.le_refl _, HW.out.here, HW.out.below hb (Nat.le_refl _)⟩

set_option maxHeartbeats 400000 in
theorem writes_any {p g n : Nat} {d : St8} (w : World) (h : IsD w p g n d) : Calls Tryz.prog 10 #[.pointer (some ⟨p, 0, none⟩)] w fun e w' => e = .returned (.int .i64 d.wr) ∧ w' = w := by
 have h0 := h.c1
 go_enter Tryz.func10, Tryz.ntmps10
 go_wp2
 go_ret
 exact ⟨rfl, rfl⟩
def refE (d : St8) (n : Nat) (i : Int) : Int := if d.dn = true then 22 else if i < 0 ∨ (n : Int) ≤ i then 21 else 0
set_option maxHeartbeats 400000 in
theorem refusal_any {p g n : Nat} {d : St8} (i : Int) (w : World) (h : IsD w p g n d) : Calls Tryz.prog 44 #[.pointer (some ⟨p, 0, none⟩), .int .i64 i] w fun e w' => e = .returned (.int .i64 (refE d n i)) ∧ w' = w := by
 have h0 := h.c0;have h2 := h.c2
 cases hd : d.dn
 ·rw [hd] at h2
  by_cases hi : i < 0
  ·have HE : Hid (refE d n i = 21) := by show _ = _; simp [refE, hd, hi]
   clear hd
   go_enter Tryz.func44, Tryz.ntmps44
   go_wp2
   go_ret
   exact ⟨ret_int HE.out.symm, rfl⟩
  ·by_cases hn : (n : Int) ≤ i
   ·have HE : Hid (refE d n i = 21) := by show _ = _; simp [refE, hd, hn]
    clear hd
    go_enter Tryz.func44, Tryz.ntmps44
    go_wp2
    go_ret
    exact ⟨ret_int HE.out.symm, rfl⟩
   ·have HE : Hid (refE d n i = 0) := by show _ = _; simp [refE, hd, hn, hi]
    clear hd
    go_enter Tryz.func44, Tryz.ntmps44
    go_wp2
    go_ret
    exact ⟨ret_int HE.out.symm, rfl⟩
 ·have HE : Hid (refE d n i = 22) := by show _ = _; simp [refE, hd]
  rw [hd] at h2;clear hd
  go_enter Tryz.func44, Tryz.ntmps44
  go_wp2
  go_ret
  exact ⟨ret_int HE.out.symm, rfl⟩

theorem IsD.put {w : World} {p g n : Nat} {d d' : St8} (h : IsD w p g n d) (j : Nat) (v : Value) (hS : d'.S = d.S) (he : (DC g n d.wr d.dn d.ar d.lf).setIfInBounds j v = DC g n d'.wr d'.dn d'.ar d'.lf) : IsD (w.setCell ⟨p, j, none⟩ v) p g n d' := by
 refine ⟨?_, ?_, by rw [hS]; exact h.len, h.pos, h.top⟩
 ·rw [heap_setCell_same w p j _ 51 v h.me, he]
 ·rw [heap_setCell_other w ⟨p, j, none⟩ g v (fun e => h.ne e.symm), hS]
  exact h.row

set_option maxHeartbeats 400000 in
theorem image_any {p g n : Nat} {d : St8} (w : World) (h : IsD w p g n d) : Calls Tryz.prog 12 #[.pointer (some ⟨p, 0, none⟩)] w fun e w' => ∃ q, e = .returned (.slice (some ⟨q, 0, none⟩) n n) ∧ w.heap.size ≤ q ∧ w'.heap[q]? = some (.cells (SA d.S) 46 (0, 0)) ∧ Below w.heap.size w w' := by
 have h0 := h.c0;have HT := h.top;have HL := laid_any n n ⟨g, 0, none⟩ d.S w (by omega) h.len (row_bytes h.row);clear HT
 go_enter Tryz.func12, Tryz.ntmps12
 go_wp2_with (go_at_call 15; refine HL.mono ?_; rintro e w1 ⟨q, rfl, h1, h2, h3⟩)
 go_ret
 exact ⟨q, rfl, h1, h2, h3⟩

end Go.Proofs.YtboammbcoleicabGreat.D
