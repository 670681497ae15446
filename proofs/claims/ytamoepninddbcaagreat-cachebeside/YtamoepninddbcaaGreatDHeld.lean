/-
  What is known of memory, block by block, and how it stands behind calls, new variables and writes.
-/
import Derived.Test.YtamoepninddbcaaGreatRows
import Derived.WalkKit
import Derived.WalkSpells
import Derived.WalkLawsBesides
import Derived.Deep.QuietTactic
import Derived.BigQuiet
import Derived.Deep.WholeRow
import Derived.ChangeKeysEq
import Derived.Deep.RegionHeld3
namespace Go.Proofs.YtamoepninddbcaaGreat.D
open Go.RowKit
-- may lack

theorem hid {p : Prop} (h : p) : Hid p := h
theorem ret_bool {a b : Bool} (h : a = b) : Ending.returned (.bool a) = .returned (.bool b) := by rw [h]

/-- The cells of a sector whose bytes are s. -/
def SA (s : List Int) : Array Value := (s.map (Value.int .u8)).toArray
def IsSec (s : List Int) : Prop := s.length = 128 ∧ ∀ x ∈ s, 0 ≤ x ∧ x ≤ 255
theorem SA_size (s : List Int) : (SA s).size = s.length := by simp [SA]
theorem SA_get (s : List Int) (j : Nat) (h : j < s.length) : (SA s)[j]? = some (.int .u8 (s.getD j 0)) := by
  simp [SA, h]
theorem IsSec.at {s : List Int} (h : IsSec s) (j : Nat) : 0 ≤ s.getD j 0 ∧ s.getD j 0 ≤ 255 := by
  by_cases hj : j < s.length
  · simp only [List.getD_eq_getElem?_getD, List.getElem?_eq_getElem hj, Option.getD_some]
    exact h.2 _ (List.getElem_mem hj)
  · simp [List.getD_eq_getElem?_getD, List.getElem?_eq_none (Nat.le_of_not_lt hj)]

theorem SA_cell (w : World) (t : TypeId) (s : List Int) (j : Nat) (h : j < s.length) : (w.alloc (.cells (SA s) t)).cell? ⟨w.heap.size, j, none⟩ = some (.int .u8 (s.getD j 0)) := by
  rw [cell_of_row _ _ _ (SA s) t (0, 0) (heap_alloc_new _ _)]
  exact SA_get s j h

def Zs : List Int := List.replicate 128 0
theorem Zs_len : Zs.length = 128 := by simp [Zs]
theorem Zs_sec : IsSec Zs := ⟨Zs_len, fun x hx => by simp [Zs] at hx; omega⟩
theorem sz26 : (Tryz.prog.info? 47).map (·.size) = some 128 := by kernel_rfl
theorem cells5 : Tryz.prog.cellsOf 5 = 1 := by kernel_rfl
theorem zero_sec (w : World) : (zeroValue 47).run Tryz.prog w = .ok (.agg (SA Zs)) w := by kernel_rfl
theorem build_sec (w : World) : (Instr.build 47 #[]).run Tryz.prog w = .ok (.agg (SA Zs)) w := by kernel_rfl
theorem info5 : ∃ i, Tryz.prog.info? 5 = some i := by
  cases h : Tryz.prog.info? 5 with
  | some i => exact ⟨i, rfl⟩
  | none =>
    have : (Tryz.prog.info? 5).isSome = true := by kernel_rfl
    rw [h] at this
    cases this

theorem SA_one (c : List Int) : (SA c).all (·.oneCell') = true := by
  rw [Array.all_eq_true_iff_forall_mem]
  intro v hv
  simp only [SA, List.mem_toArray, List.mem_map] at hv
  obtain ⟨x, _, rfl⟩ := hv
  rfl

theorem SA_set (c : List Int) (j : Nat) (x : Int) : (SA c).setIfInBounds j (.int .u8 x) = SA (c.set j x) := by
  simp [SA, List.map_set]

/-- part of a sector's cells -/
theorem run_part_sec (c : List Int) (j : Nat) (h : j < c.length) (w : World) : (part 5 (SA c) j).run Tryz.prog w = .ok (.int .u8 (c.getD j 0)) w := by
  have hag : (isAgg 5).run Tryz.prog w = .ok false w := by kernel_rfl
  simp only [part, Sem.run_bind, hag, Result.andThen_ok, Bool.false_eq_true, if_false, SA_get c j h, Sem.run_pure, Sem.run_ite]

theorem eqItems_sec (a b : List Int) (d : Nat) : ∀ (is : List Nat) (w : World), (∀ i ∈ is, i < a.length ∧ i < b.length) →
    (Op.eqItems (d + 1) 5 1 (SA a) (SA b) is).run Tryz.prog w = .ok (is.all fun i => a.getD i 0 == b.getD i 0) w
  | [], w, _ => by simp [Op.eqItems]
  | i :: is, w, h => by
    have hi := h i (by simp)
    simp only [Op.eqItems, Sem.run_bind, Nat.mul_one, run_part_sec a i hi.1, run_part_sec b i hi.2, Result.andThen_ok, run_equalIn_int _ d 5 .u8 .u8 _ _ Tryz.underlying5]
    cases hq : (a.getD i 0 == b.getD i 0)
    · simp only [Bool.not_false, if_true, Sem.run_pure, List.all_cons, hq, Bool.false_and]
    · simp only [Bool.not_true, Bool.false_eq_true, if_false, List.all_cons, hq, Bool.true_and]
      exact eqItems_sec a b d is w fun j hj => h j (by simp [hj])

theorem all_eq (a b : List Int) (h : a.length = b.length) : ((List.range a.length).all fun i => a.getD i 0 == b.getD i 0) = decide (a = b) := by
  rw [Bool.eq_iff_iff, List.all_eq_true, decide_eq_true_iff]
  constructor
  · intro k
    apply List.ext_getElem h
    intro i h1 h2
    have := k i (by simpa using h1)
    simpa [h1, h2] using this
  · rintro rfl i _
    simp

theorem eq_sec (a b : List Int) (ha : a.length = 128) (hb : b.length = 128) (w : World) :
    (Op.equalIn 10000 47 (.agg (SA a)) (.agg (SA b))).run Tryz.prog w = .ok (decide (a = b)) w := by
  obtain ⟨i, hi⟩ := info5
  rw [run_equalIn_array w 9999 (SA a) (SA b) Tryz.underlying47 hi, cells5, eqItems_sec a b 9998 _ w (by simp [ha, hb]), ← ha, all_eq a b (by omega)]

theorem guard_sec : Tryz.prog.eqGuardType Tryz.prog.depth 47 = false := by kernel_rfl

theorem load_sec {ops : Array Oper} {rest : List Oper} {o : Oper} {a : Act} {w : World} {Q : Exit → Act → World → Prop} (hgd : o.guard = none) (x : Operand) (ho : o.op = .load 47 x)
    (g : Nat) (hx : a.eval x = .pointer (some ⟨g, 0, none⟩)) (c : List Int) (hc : c.length = 128) (hg : w.heap[g]? = some (.cells (SA c) 47 (0, 0)))
    (h : wpList Tryz.prog ops Q rest (a.put o.dst (.agg (SA c))) w) : wpList Tryz.prog ops Q (o :: rest) a w :=
  wpList_load_row hgd 47 x ho g hx 47 (SA c) (0, 0) _ hg Tryz.underlying47 rfl (by rw [sz26, SA_size, hc]) h

theorem wpList_want {ops : Array Oper} {rest : List Oper} {o : Oper} {a : Act} {w : World} {Q : Exit → Act → World → Prop} (hw : Region.wanted o (yielded ops a.tmps) = true)
    (h : ∀ K : Act → World → Prop, (∀ a w, wpList Tryz.prog ops Q rest a w → K a w) → o.wp Tryz.prog a w K Q) : wpList Tryz.prog ops Q (o :: rest) a w :=
  wpList_step fun K hK => by rw [if_pos hw]; exact h K hK
/-- load, where the operation stands behind a guard that says yes. -/
theorem load_sec_g {ops : Array Oper} {rest : List Oper} {o : Oper} {a : Act} {w : World} {Q : Exit → Act → World → Prop} (x : Operand) (ho : o.op = .load 47 x)
    (g : Nat) (hx : a.eval x = .pointer (some ⟨g, 0, none⟩)) (c : List Int) (hc : c.length = 128) (hg : w.heap[g]? = some (.cells (SA c) 47 (0, 0)))
    (hw : Region.wanted o (yielded ops a.tmps) = true) (h : wpList Tryz.prog ops Q rest (a.put o.dst (.agg (SA c))) w) : wpList Tryz.prog ops Q (o :: rest) a w :=
  wpList_want hw fun _ hK => wp_load_row 47 x ho g hx 47 (SA c) (0, 0) _ hg Tryz.underlying47 rfl (by rw [sz26, SA_size, hc]) (hK _ _ h)

/-- w' is w with one sector written at block g. -/
structure Wrote (w : World) (g : Nat) (c : List Int) (w' : World) : Prop where
  here : w'.heap[g]? = some (.cells (SA c) 47 (0, 0))
  other : ∀ k, k ≠ g → w'.heap[k]? = w.heap[k]?
  size : w'.heap.size = w.heap.size
  os : w'.os = w.os
  tape : w'.tape = w.tape
  output : w'.output = w.output

theorem wrote_setRow {w : World} {g : Nat} {old : Array Value} (c : List Int) (hg : w.heap[g]? = some (.cells old 47 (0, 0))) : Wrote w g c (w.setRow g (SA c)) := by
  refine ⟨?_, ?_, ?_, rfl, rfl, rfl⟩
  · simp [World.setRow, Array.getElem?_modify, hg]
  · intro k hk
    simp only [World.setRow, Array.getElem?_modify]
    rw [if_neg (fun e => hk e.symm)]
  · simp [World.setRow]

theorem Wrote.below {B g : Nat} {w0 w w' : World} {c : List Int} (h : Wrote w g c w') (hb : Below B w0 w) (hB : B ≤ g) : Below B w0 w' :=
  hb.trans ⟨h.os, h.tape, h.output, Nat.le_of_eq h.size.symm, fun k hk => h.other k (by omega)⟩

theorem store_sec {ops : Array Oper} {rest : List Oper} {o : Oper} {a : Act} {w : World} {Q : Exit → Act → World → Prop} (hgd : o.guard = none) (x y : Operand) (ho : o.op = .store 47 x y)
    (g : Nat) (hx : a.eval x = .pointer (some ⟨g, 0, none⟩)) (c : List Int) (hy : a.eval y = .agg (SA c)) (hc : c.length = 128) (old : List Int) (hold : old.length = 128) (hg : w.heap[g]? = some (.cells (SA old) 47 (0, 0)))
    (h : ∀ w', Wrote w g c w' → wpList Tryz.prog ops Q rest (a.put o.dst undef) w') : wpList Tryz.prog ops Q (o :: rest) a w :=
  wpList_store_row hgd 47 x y ho g (SA c) hx hy 47 (SA old) hg (by rw [sz26, SA_size, hc]) (by rw [SA_size, SA_size, hc, hold]) (SA_one c) (h _ (wrote_setRow c hg))

theorem sec_cell {w : World} {g : Nat} {c : List Int} {t : TypeId} (hg : w.heap[g]? = some (.cells (SA c) t (0, 0))) (j : Nat) (h : j < c.length) : w.cell? ⟨g, j, none⟩ = some (.int .u8 (c.getD j 0)) := by
  rw [cell_of_row _ _ _ (SA c) t (0, 0) hg]
  exact SA_get c j h
theorem sec_free {w : World} {g : Nat} {c : List Int} {t : TypeId} (hg : w.heap[g]? = some (.cells (SA c) t (0, 0))) (j : Nat) : w.frozen? ⟨g, j, none⟩ = false := frozen_of_row w g j (SA c) t hg

/-- One byte written into the sector at block g. -/
theorem sec_setCell {w : World} {g : Nat} {c : List Int} (hg : w.heap[g]? = some (.cells (SA c) 47 (0, 0))) (j : Nat) (x : Int) : Wrote w g (c.set j x) (w.setCell ⟨g, j, none⟩ (.int .u8 x)) := by
  refine ⟨?_, ?_, ?_, rfl, rfl, rfl⟩
  · rw [heap_setCell_same w g j (SA c) 47 _ hg, SA_set]
  · intro k hk
    exact heap_setCell_other w ⟨g, j, none⟩ k _ hk
  · simp [World.setCell]

/-- Two results, the first a sector in memory. -/
theorem results_sec {fn : Func} {p u : Tmp} (h : fn.results = #[.cell p 47, .tmp u]) (tmps : Array Value) (w : World) (g : Nat) (c : List Int) (hc : c.length = 128) (v : Value)
    (hp : tmps.getD p undef = .pointer (some ⟨g, 0, none⟩)) (hu : tmps.getD u undef = v) (hg : w.heap[g]? = some (.cells (SA c) 47 (0, 0))) :
    (results fn tmps).run Tryz.prog w = .ok (.tuple #[.agg (SA c), v]) w := by
  rw [results_cell_tmp h, hp, hu]
  simp [asAddr, run_loadVar_row w g 47 47 (SA c) (0, 0) _ hg Tryz.underlying47 rfl (by rw [sz26, SA_size, hc])]

theorem results_sec1 {fn : Func} {p : Tmp} (h : fn.results = #[.cell p 47]) (tmps : Array Value) (w : World) (g : Nat) (c : List Int) (hc : c.length = 128)
    (hp : tmps.getD p undef = .pointer (some ⟨g, 0, none⟩)) (hg : w.heap[g]? = some (.cells (SA c) 47 (0, 0))) :
    (results fn tmps).run Tryz.prog w = .ok (.agg (SA c)) w :=
  results_cell_row h tmps w g 47 (SA c) (0, 0) _ hp hg Tryz.underlying47 rfl (by rw [sz26, SA_size, hc])

def zl (n : Nat) : List Int := List.replicate n 0
theorem zl_len (n : Nat) : (zl n).length = n := by simp [zl]
theorem zl_get (n j : Nat) : (zl n).getD j 0 = 0 := by
  unfold zl
  by_cases h : j < n
  · simp [List.getD_eq_getElem?_getD, h]
  · simp [List.getD_eq_getElem?_getD, h]

theorem infoB : ∃ i, Tryz.prog.info? 5 = some i ∧ i.zero = some (.int .u8 0) ∧ i.size = 1 ∧ i.bytes = 1 := by
  have h : (Tryz.prog.info? 5).map (fun i => (i.zero, i.size, i.bytes)) = some (some (.int .u8 0), 1, 1) := by kernel_rfl
  cases hq : Tryz.prog.info? 5 with
  | none => rw [hq] at h; cases h
  | some i =>
    rw [hq] at h
    simp at h
    exact ⟨i, rfl, h.1, h.2.1, h.2.2⟩
theorem infoS : ∃ i, Tryz.prog.info? 47 = some i ∧ i.zero = some (.agg (SA Zs)) ∧ i.size = 128 ∧ i.bytes = 128 := by
  have h : (Tryz.prog.info? 47).map (fun i => (i.zero, i.size, i.bytes)) = some (some (.agg (SA Zs)), 128, 128) := by kernel_rfl
  cases hq : Tryz.prog.info? 47 with
  | none => rw [hq] at h; cases h
  | some i =>
    rw [hq] at h
    simp at h
    exact ⟨i, rfl, h.1, h.2.1, h.2.2⟩

theorem made_bytes (n : Nat) : madeCells #[Value.int .u8 0] n = SA (zl n) := by
  apply Array.ext
  · simp [size_madeCells, SA_size, zl_len]
  · intro i h1 h2
    have e : (#[Value.int .u8 0] : Array Value)[i % 1]! = Value.int .u8 0 := by rw [Nat.mod_one]; rfl
    simp only [madeCells, Array.getElem_map, Array.getElem_range]
    rw [show (#[Value.int .u8 0] : Array Value).size = 1 from rfl, e]
    simp [SA, zl]
theorem made_secs (n : Nat) : madeCells (SA Zs) n = SA (zl n) := by
  apply Array.ext
  · simp [size_madeCells, SA_size, zl_len]
  · intro i h1 h2
    have hs : (SA Zs).size = 128 := by rw [SA_size, Zs_len]
    have hi : i % 128 < 128 := Nat.mod_lt _ (by decide)
    have e : (SA Zs)[i % 128]! = Value.int .u8 0 := by
      rw [Array.getElem!_eq_getD, Array.getD_eq_getD_getElem?, SA_get Zs _ (by rw [Zs_len]; exact hi), show Zs.getD (i % 128) 0 = 0 from zl_get 128 _]
      rfl
    simp only [madeCells, Array.getElem_map, Array.getElem_range, hs, e]
    simp [SA, zl]

theorem make_secs (n : Int) (h0 : 0 ≤ n) (h1 : 128 * n ≤ 281474976710656) (w : World) :
    (Instr.makeSlice 74 (.int .i64 n) (.int .i64 n)).run Tryz.prog w = .ok (.slice (some ⟨w.heap.size, 0, none⟩) n.toNat n.toNat) (w.alloc (.cells (SA (zl (128 * n.toNat))) 47)) := by
  obtain ⟨i, hi, hz, hs, hb⟩ := infoS
  rw [run_make w 74 47 i _ Tryz.underlying74 hi hz .i64 .i64 n n h0 (Int.le_refl _) (by rw [hb]; omega) (by omega), hs, Nat.mul_comm]
  rw [show Value.cells (.agg (SA Zs)) = SA Zs from rfl, made_secs]

/-- One byte written into the row of bytes at block g. -/
structure WroteB (w : World) (g : Nat) (t : TypeId) (c : List Int) (w' : World) : Prop where
  here : w'.heap[g]? = some (.cells (SA c) t (0, 0))
  other : ∀ k, k ≠ g → w'.heap[k]? = w.heap[k]?
  size : w'.heap.size = w.heap.size
  os : w'.os = w.os
  tape : w'.tape = w.tape
  output : w'.output = w.output
theorem WroteB.below {B g : Nat} {t : TypeId} {w0 w w' : World} {c : List Int} (h : WroteB w g t c w') (hb : Below B w0 w) (hB : B ≤ g) : Below B w0 w' :=
  hb.trans ⟨h.os, h.tape, h.output, Nat.le_of_eq h.size.symm, fun k hk => h.other k (by omega)⟩
theorem row_setCell {w : World} {g : Nat} {t : TypeId} {c : List Int} (hg : w.heap[g]? = some (.cells (SA c) t (0, 0))) (j : Nat) (x : Int) : WroteB w g t (c.set j x) (w.setCell ⟨g, j, none⟩ (.int .u8 x)) := by
  refine ⟨?_, ?_, ?_, rfl, rfl, rfl⟩
  · rw [heap_setCell_same w g j (SA c) t _ hg, SA_set]
  · intro k hk
    exact heap_setCell_other w ⟨g, j, none⟩ k _ hk
  · simp [World.setCell]

/-- A block that was there stands, behind a new one that is written. -/
theorem kept_wrote {w w' : World} {o : Obj} {g : Nat} {c : List Int} {x : Option Obj} (h : Wrote (w.alloc o) w.heap.size c w') (hx : Hid (w.heap[g]? = x)) (hg : g + 1 ≤ w.heap.size) : Hid (w'.heap[g]? = x) := by
  show _ = _
  rw [h.other _ (by omega), Below.heap_alloc _ _ _ (by omega)]
  exact hx.out
/-- A block that was there stands behind a call. -/
theorem kept_below {w w' : World} {B g : Nat} {x : Option Obj} (h : Below B w w') (hx : Hid (w.heap[g]? = x)) (hg : g + 1 ≤ B) : Hid (w'.heap[g]? = x) := by
  show _ = _
  rw [h.block _ (by omega)]
  exact hx.out

theorem kept_write {w w' : World} {g k : Nat} {c : List Int} {x : Option Obj} (h : Wrote w g c w') (hx : Hid (w.heap[k]? = x)) (hk : k ≠ g) : Hid (w'.heap[k]? = x) := by
  show _ = _
  rw [h.other _ hk]
  exact hx.out

end Go.Proofs.YtamoepninddbcaaGreat.D

namespace Go.Proofs.YtamoepninddbcaaGreat.D
open Go.RowKit
-- may lack

section
variable {ops : Array Oper} {Q : Exit → Act → World → Prop} {S : World → Prop} {fuel : Nat} {listed : Array Bool} {a : Act} {w : World}

/-- An operation that yields v in every world that meets S is taken first. -/
theorem takeVal (i d : Nat) (v : Value) {o : Oper} (hop : ops[i]? = some o) (hs : Region.noSelect ops = true) (hf : Region.free .any ops listed i = true) (hr : (Region.ready .any ops listed).contains i = true)
    (hd : o.dst = some d) (hw : Region.wanted o (yielded ops a.tmps) = true) (hQ : ∀ c a w, ¬ Q (.panic c) a w) (hS : S w)
    (hy : ∀ w, S w → (execOp a.eval o).run Tryz.prog w = .ok (.value v) w)
    (h : wpAnyH Tryz.prog .any ops Q S fuel (listed.setIfInBounds i true) { a with tmps := a.tmps.setIfInBounds d v } w) : wpAnyH Tryz.prog .any ops Q S (fuel + 1) listed a w := by
  refine wpAnyH_take (v := v) hop hs hf hr (fun c a w k => absurd k (hQ c _ w)) (.inl ⟨hw, hy⟩) hS ?_
  unfold Act.put
  rw [hd]
  exact h

/-- An operation that is not wanted. -/
theorem takeNot (i d : Nat) {o : Oper} (hop : ops[i]? = some o) (hs : Region.noSelect ops = true) (hf : Region.free .any ops listed i = true) (hr : (Region.ready .any ops listed).contains i = true)
    (hd : o.dst = some d) (hw : Region.wanted o (yielded ops a.tmps) = false) (hQ : ∀ c a w, ¬ Q (.panic c) a w) (hS : S w)
    (h : wpAnyH Tryz.prog .any ops Q S fuel (listed.setIfInBounds i true) { a with tmps := a.tmps.setIfInBounds d undef } w) : wpAnyH Tryz.prog .any ops Q S (fuel + 1) listed a w := by
  refine wpAnyH_take (v := undef) hop hs hf hr (fun c a w k => absurd k (hQ c _ w)) (.inr ⟨hw, rfl⟩) hS ?_
  unfold Act.put
  rw [hd]
  exact h

/-- A sector is loaded. -/
theorem takeSec (i d : Nat) (x : Operand) (g : Nat) (c : List Int) (hc : c.length = 128) {o : Oper} (hop : ops[i]? = some o) (hs : Region.noSelect ops = true) (hf : Region.free .any ops listed i = true) (hr : (Region.ready .any ops listed).contains i = true)
    (hd : o.dst = some d) (ho : o.op = .load 47 x) (hx : a.eval x = .pointer (some ⟨g, 0, none⟩)) (hw : Region.wanted o (yielded ops a.tmps) = true) (hQ : ∀ c a w, ¬ Q (.panic c) a w) (hS : S w)
    (hg : ∀ w, S w → w.heap[g]? = some (.cells (SA c) 47 (0, 0)))
    (h : wpAnyH Tryz.prog .any ops Q S fuel (listed.setIfInBounds i true) { a with tmps := a.tmps.setIfInBounds d (.agg (SA c)) } w) : wpAnyH Tryz.prog .any ops Q S (fuel + 1) listed a w := by
  refine takeVal i d (.agg (SA c)) hop hs hf hr hd hw hQ hS (fun w hw' => ?_) h
  unfold execOp
  simp only [ho, hx, Instr.loadAt, Instr.sureAddr, Sem.run_bind, Sem.run_pure, Result.andThen_ok, run_loadVar_row w g 47 47 (SA c) (0, 0) _ (hg w hw') Tryz.underlying47 rfl (by rw [sz26, SA_size, hc])]

/-- The one operation that may come up is a call: its contract. -/
theorem stepCall (i d f : Nat) (args : Array Value) (R : Ending → World → Prop) {o : Oper} (hop : ops[i]? = some o) (hr : Region.ready .any ops listed = [i])
    (hd : o.dst = some d) (hw : Region.wanted o (yielded ops a.tmps) = true) (hrun : (execOp a.eval o).run Tryz.prog w = .ok (.enter f args) w) (hc : Calls Tryz.prog f args w R)
    (h : ∀ e w', R e w' → ∃ v, e = .returned v ∧ S w' ∧ (S w' → wpAnyH Tryz.prog .any ops Q S fuel (listed.setIfInBounds i true) { a with tmps := a.tmps.setIfInBounds d v } w')) : wpAnyH Tryz.prog .any ops Q S (fuel + 1) listed a w := by
  refine wpAnyH_ready (rs := [i]) hr (by simp) ?_
  refine AllReadyH.cons hop (fun K hK => ?_) AllReadyH.nil
  rw [if_pos hw]
  unfold Oper.wp
  rw [hrun, Oper.upon_enter]
  refine hc.mono ?_
  intro e w' hR
  obtain ⟨v, rfl, hS, hrest⟩ := h e w' hR
  refine hK.out _ _ hS ?_
  intro hS'
  have := hrest hS'
  unfold Act.put
  rw [hd]
  exact this
end

end Go.Proofs.YtamoepninddbcaaGreat.D

namespace Go.Proofs.YtamoepninddbcaaGreat.D
open Go.RowKit
-- may lack

/-- The blocks of the list hold what the list says; nothing that was there in w0 has turned. -/
structure HB (w0 : World) (bl : List (Nat × Obj)) (w : World) : Prop where
  at_ : ∀ x, x ∈ bl → w.heap[x.1]? = some x.2
  low : ∀ x, x ∈ bl → x.1 < w.heap.size
  old : Below w0.heap.size w0 w

theorem HB.get {w0 w : World} {bl : List (Nat × Obj)} (h : HB w0 bl w) {g : Nat} {o : Obj} (hm : (g, o) ∈ bl) : w.heap[g]? = some o := h.at_ _ hm
theorem HB.call {w0 w w' : World} {bl : List (Nat × Obj)} (h : HB w0 bl w) (hb : Below w.heap.size w w') : HB w0 bl w' :=
  ⟨fun x hx => by rw [hb.block _ (h.low x hx)]; exact h.at_ x hx, fun x hx => by have := h.low x hx; have := hb.size; omega, h.old.trans (hb.mono h.old.size)⟩
theorem HB.drew {w0 w : World} {bl : List (Nat × Obj)} (h : HB w0 bl w) : HB w0 bl w.drew := ⟨h.at_, h.low, h.old.drew⟩
theorem HB.drewN {w0 w : World} {bl : List (Nat × Obj)} {n : Nat} (h : HB w0 bl w) : HB w0 bl (w.drewN n) := ⟨h.at_, h.low, h.old.os, h.old.tape, h.old.output, h.old.size, h.old.block⟩
theorem HB.alloc {w0 w : World} {bl : List (Nat × Obj)} (h : HB w0 bl w) (o : Obj) : HB w0 ((w.heap.size, o) :: bl) (w.alloc o) := by
  refine ⟨fun x hx => ?_, fun x hx => ?_, h.old.alloc h.old.size o⟩
  · rcases List.mem_cons.1 hx with rfl | hx
    · exact heap_alloc_new w o
    · rw [Below.heap_alloc _ _ _ (h.low x hx)]; exact h.at_ x hx
  · rcases List.mem_cons.1 hx with rfl | hx
    · simp
    · have := h.low x hx; simp; omega
/-- A sector is written at a block that comes behind all others of the list. -/
theorem HB.write {w0 w w' : World} {bl : List (Nat × Obj)} {g : Nat} {o : Obj} {c : List Int} (h : HB w0 ((g, o) :: bl) w) (hw : Wrote w g c w') (hg : w0.heap.size ≤ g) (hne : ∀ x, x ∈ bl → x.1 ≠ g) : HB w0 ((g, .cells (SA c) 47 (0, 0)) :: bl) w' := by
  refine ⟨fun x hx => ?_, fun x hx => ?_, hw.below h.old hg⟩
  · rcases List.mem_cons.1 hx with rfl | hx
    · exact hw.here
    · rw [hw.other _ (hne x hx)]; exact h.at_ x (List.mem_cons_of_mem _ hx)
  · rcases List.mem_cons.1 hx with rfl | hx
    · rw [hw.size]; exact h.low (g, o) (by simp)
    · rw [hw.size]; exact h.low x (List.mem_cons_of_mem _ hx)
theorem HB.tail {w0 w : World} {x : Nat × Obj} {bl : List (Nat × Obj)} (h : HB w0 (x :: bl) w) : HB w0 bl w := ⟨fun y hy => h.at_ y (List.mem_cons_of_mem _ hy), fun y hy => h.low y (List.mem_cons_of_mem _ hy), h.old⟩
/-- A new variable is another block than all of the list. -/
theorem HB.fresh {w0 w : World} {bl : List (Nat × Obj)} (h : HB w0 bl w) : ∀ x, x ∈ bl → x.1 ≠ w.heap.size := fun x hx => Nat.ne_of_lt (h.low x hx)

section
variable {ops : Array Oper} {Q : Exit → Act → World → Prop} {S : World → Prop} {fuel : Nat} {listed : Array Bool} {a : Act} {w : World}

/-- One of those that may come up: the step, and what follows. -/
abbrev St (ops : Array Oper) (Q : Exit → Act → World → Prop) (S : World → Prop) (fuel : Nat) (listed : Array Bool) (a : Act) (w : World) (i : Nat) : Prop :=
  wpOp Tryz.prog ops Q i (fun a' w' => S w' ∧ wpAnyH Tryz.prog .any ops Q S fuel (listed.setIfInBounds i true) a' w') a w

theorem step1 (i : Nat) (hr : Region.ready .any ops listed = [i]) (h : St ops Q S fuel listed a w i) : wpAnyH Tryz.prog .any ops Q S (fuel + 1) listed a w :=
  wpAnyH_all hr (by simp) fun j hj => by simp at hj; subst hj; exact h
theorem step2 (i j : Nat) (hr : Region.ready .any ops listed = [i, j]) (h : St ops Q S fuel listed a w i) (k : St ops Q S fuel listed a w j) : wpAnyH Tryz.prog .any ops Q S (fuel + 1) listed a w :=
  wpAnyH_all hr (by simp) fun l hl => by
    simp at hl
    rcases hl with rfl | rfl
    · exact h
    · exact k

theorem stCall (i d f : Nat) (args : Array Value) (R : Ending → World → Prop) {o : Oper} (hop : ops[i]? = some o)
    (hd : o.dst = some d) (hw : Region.wanted o (yielded ops a.tmps) = true) (hrun : (execOp a.eval o).run Tryz.prog w = .ok (.enter f args) w) (hc : Calls Tryz.prog f args w R)
    (h : ∀ e w', R e w' → ∃ v, e = .returned v ∧ S w' ∧ wpAnyH Tryz.prog .any ops Q S fuel (listed.setIfInBounds i true) { a with tmps := a.tmps.setIfInBounds d v } w') : St ops Q S fuel listed a w i := by
  refine wpOp_step hop (fun K hK => ?_)
  rw [if_pos hw]
  unfold Oper.wp
  rw [hrun, Oper.upon_enter]
  refine hc.mono ?_
  intro e w' hR
  obtain ⟨v, rfl, hS, hrest⟩ := h e w' hR
  refine hK _ _ ⟨hS, ?_⟩
  unfold Act.put
  rw [hd]
  exact hrest
theorem stAlloc (i d : Nat) {o : Oper} (hop : ops[i]? = some o) (hd : o.dst = some d) (hw : Region.wanted o (yielded ops a.tmps) = true)
    (hrun : (execOp a.eval o).run Tryz.prog w = .ok (.value (.pointer (some ⟨w.heap.size, 0, none⟩))) (w.alloc (.cells (SA Zs) 47)))
    (h : S (w.alloc (.cells (SA Zs) 47)) ∧ wpAnyH Tryz.prog .any ops Q S fuel (listed.setIfInBounds i true) { a with tmps := a.tmps.setIfInBounds d (.pointer (some ⟨w.heap.size, 0, none⟩)) } (w.alloc (.cells (SA Zs) 47))) : St ops Q S fuel listed a w i := by
  refine wpOp_step hop (fun K hK => ?_)
  rw [if_pos hw]
  unfold Oper.wp
  rw [hrun]
  refine hK _ _ ⟨h.1, ?_⟩
  unfold Act.put
  rw [hd]
  exact h.2
theorem stStore (i : Nat) {o : Oper} (hop : ops[i]? = some o) (hd : o.dst = none) (hw : Region.wanted o (yielded ops a.tmps) = true) (x y : Operand) (ho : o.op = .store 47 x y)
    (g : Nat) (hx : a.eval x = .pointer (some ⟨g, 0, none⟩)) (c : List Int) (hy : a.eval y = .agg (SA c)) (hc : c.length = 128) (old : List Int) (hold : old.length = 128) (hg : w.heap[g]? = some (.cells (SA old) 47 (0, 0)))
    (h : ∀ w', Wrote w g c w' → S w' ∧ wpAnyH Tryz.prog .any ops Q S fuel (listed.setIfInBounds i true) a w') : St ops Q S fuel listed a w i := by
  refine wpOp_step hop (fun K hK => ?_)
  rw [if_pos hw]
  refine wp_store_row 47 x y ho g (SA c) hx hy 47 (SA old) hg (by rw [sz26, SA_size, hc]) (by rw [SA_size, SA_size, hc, hold]) (SA_one c) ?_
  have := h _ (wrote_setRow c hg)
  refine hK _ _ ⟨this.1, ?_⟩
  unfold Act.put
  rw [hd]
  exact this.2
end

end Go.Proofs.YtamoepninddbcaaGreat.D
