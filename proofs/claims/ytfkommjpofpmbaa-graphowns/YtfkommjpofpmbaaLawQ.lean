/-
  A queue of numbers: the first one taken, one put behind; which sectors were seen.
-/
import Derived.Test.YtfkommjpofpmbaaLawE
import Derived.ArgAppend
namespace Go.Proofs.Ytfkommjpofpmbaa
open Go.RowKit

/-- A queue of numbers. -/
def Que (w : World) (base : Nat) (v : Value) (q : List Int) : Prop :=
  ∃ g o cap cur, v = .slice (some ⟨g, o, none⟩) q.length cap ∧ base ≤ g ∧ w.heap[g]? = some (.cells cur 3 (0, 0)) ∧ q.length ≤ cap ∧ o + cap ≤ cur.size ∧ ∀ j x, q[j]? = some x → cur[o + j]? = some (.int .i64 x)
theorem Que.keep {w w' : World} {base : Nat} {v : Value} {q : List Int} {ks : Nat → Prop} (h : Que w base v q) (hc : Chg w w' ks) (hn : ∀ g, v.ownBlock = some g → ¬ ks g) : Que w' base v q := by
  obtain ⟨g, o, cap, cur, rfl, hb, hw, r⟩ := h
  exact ⟨g, o, cap, cur, rfl, hb, hc.keep hw (hn g rfl), r⟩
theorem Que.kind {w : World} {base : Nat} {v : Value} {q : List Int} (h : Que w base v q) {g : Nat} (hg : v.ownBlock = some g) : base ≤ g ∧ ∃ cur, w.heap[g]? = some (.cells cur 3 (0, 0)) := by
  obtain ⟨g', o, cap, cur, rfl, hb, hw, r⟩ := h
  have e : g' = g := by simpa [Value.ownBlock] using hg
  subst e
  exact ⟨hb, cur, hw⟩
theorem Que.shape {w : World} {base : Nat} {v : Value} {x : Int} {q : List Int} (h : Que w base v (x :: q)) : ∃ g o cap, v = .slice (some ⟨g, o, none⟩) (q.length + 1) cap ∧ w.cell? ⟨g, o, none⟩ = some (.int .i64 x) ∧ q.length + 1 ≤ cap := by
  obtain ⟨g, o, cap, cur, rfl, hb, hw, hq, hc, hx⟩ := h
  refine ⟨g, o, cap, rfl, ?_, hq⟩
  rw [cell_of_row _ _ _ _ _ _ hw]
  exact hx 0 x rfl
/-- The first one goes. -/
theorem Que.pop {w : World} {base g o cap : Nat} {x : Int} {q : List Int} (h : Que w base (.slice (some ⟨g, o, none⟩) (q.length + 1) cap) (x :: q)) :
    Que w base (.slice (if cap = 1 then some ⟨g, o, none⟩ else some ⟨g, o + 1, none⟩) q.length (cap - 1)) q := by
  obtain ⟨g', o', cap', cur, e, hb, hw, hq, hc, hx⟩ := h
  cases e
  simp at hq
  by_cases h1 : cap = 1
  · rw [if_pos h1]
    refine ⟨g, o, cap - 1, cur, rfl, hb, hw, by omega, by omega, fun j y hj => ?_⟩
    have : q = [] := List.eq_nil_of_length_eq_zero (by omega)
    subst this
    simp at hj
  · rw [if_neg h1]
    refine ⟨g, o + 1, cap - 1, cur, rfl, hb, hw, by omega, by omega, fun j y hj => ?_⟩
    have := hx (j + 1) y (by simpa using hj)
    rw [show o + 1 + j = o + (j + 1) by omega]
    exact this

section
variable {ops : Array Oper} {rest : List Oper} {o : Oper} {a : Act} {Q : Exit → Act → World → Prop} {w : World}
theorem wp_push (hg : o.guard = none) (s x : Operand) (hop : o.op = .call { callee := .builtin .append, args := #[s, x], argTypes := #[29, 29] }) (base h c : Nat) (v : Value) (q : List Int) (y : Int) (hs : a.eval s = v) (hx : a.eval x = .slice (some ⟨h, 0, none⟩) 1 c)
    (hq : Que w base v q) (hat : w.cell? ⟨h, 0, none⟩ = some (.int .i64 y)) (hl : q.length ≤ 1000000000000) (hbase : base ≤ w.heap.size)
    (hK : ∀ v' w', Que w' base v' (q ++ [y]) → Chg w w' (fun k => v.ownBlock = some k) → wpList Try.prog ops Q rest (a.put o.dst v') w') : wpList Try.prog ops Q (o :: rest) a w := by
  obtain ⟨i, hi, hz, hsz, hby⟩ := infoI
  obtain ⟨g, of, cap, cur, rfl, hb, hw, hqc, hcap, hcell⟩ := hq
  have hget : ∀ j u, (q.map (Value.int .i64))[j]? = some u → w.cell? ⟨g, of + j, none⟩ = some u := fun j u hj => by
    rw [List.getElem?_map] at hj
    cases hqj : q[j]? with
    | none => rw [hqj] at hj; cases hj
    | some z =>
      rw [hqj] at hj
      cases hj
      rw [cell_of_row _ _ _ _ _ _ hw]
      exact hcell j z hqj
  refine wpList_append_arg w hg s x 29 hop 3 i _ 1 8 Try.underlying29 hi hz hsz hby rfl (by decide) g of q.length cap (q.map (Value.int .i64)) hs (by simp) hget ⟨h, 0, none⟩ 1 c [.int .i64 y] hx rfl (fun j u hj => ?_) (by simp [Value.oneCell']) (fun hr j hj => ?_) (by unfold maxLen; omega) (by omega) (fun hr => ?_) (fun hr v' w' h1 h2 => ?_)
  · cases j with
    | zero => simp at hj; subst hj; exact hat
    | succ j => simp at hj
  · have hj0 : j = 0 := by simpa using hj
    subst hj0
    rw [cell_of_row _ _ _ _ _ _ hw]
    refine ⟨?_, frozen_of_row w g _ cur 3 hw⟩
    rw [Array.getElem?_eq_getElem (by omega)]
    rfl
  · refine hK _ _ ⟨g, of, cap, cur.setIfInBounds (of + q.length * 1) (.int .i64 y), by simp, hb, ?_, by simp; omega, by simp; omega, fun j z hj => ?_⟩ ?_
    · exact heap_setCell_same w g (of + q.length * 1) cur 3 (.int .i64 y) hw
    · by_cases hjq : j < q.length
      · rw [List.getElem?_append_left hjq] at hj
        rw [Array.getElem?_setIfInBounds_ne (by omega)]
        exact hcell j z hj
      · rw [List.getElem?_append_right (by omega)] at hj
        have : j - q.length = 0 := by
          rcases Nat.eq_zero_or_pos (j - q.length) with k | k
          · exact k
          · rw [List.getElem?_eq_none (by simp; omega)] at hj; cases hj
        rw [this] at hj
        simp at hj
        subst hj
        rw [show of + j = of + q.length * 1 by omega]
        rw [Array.getElem?_setIfInBounds_self_of_lt (by omega)]
    · exact Chg.setCell.mono fun j _ e => by rw [e]; rfl
  · refine hK v' w' ?_ ((Chg.grown h2).mono fun j _ e => by cases e)
    rcases h1.2 with ⟨_, h0⟩ | ⟨g2, cap2, cur2, rfl, hg2, hw2, k1, k2, k3, k4⟩
    · omega
    · refine ⟨g2, 0, cap2, cur2, by simp, by omega, hw2, by simpa using k1, by omega, fun j z hj => ?_⟩
      have e : (cur2.toList.take ((q.length + 1) * 1))[j]? = (q.map (Value.int .i64) ++ [.int .i64 y])[j]? := by rw [k4]
      have hlt : j < q.length + 1 := by
        rcases Nat.lt_or_ge j (q.length + 1) with c | c
        · exact c
        · rw [List.getElem?_eq_none (by simpa using c)] at hj; cases hj
      rw [List.getElem?_take, if_pos (by omega), Array.getElem?_toList, show q.map (Value.int .i64) ++ [.int .i64 y] = (q ++ [y]).map (Value.int .i64) by simp, List.getElem?_map, hj] at e
      rw [Nat.zero_add]
      exact e
end

theorem run_pop {w : World} {g o L cap : Nat} (h1 : 1 ≤ L) : (Instr.sliceAt 29 (.slice (some ⟨g, o, none⟩) L cap) (some (.int .i64 1)) none none).run Try.prog w = .ok (.slice (if cap = 1 then some ⟨g, o, none⟩ else some ⟨g, o + 1, none⟩) (L - 1) (cap - 1)) w := by
  have ht : Try.prog.underlying 29 = some (.slice (Try.prog.elem 29)) := by kernel_rfl
  have he : ∀ w, (sizeOf (Try.prog.elem 29)).run Try.prog w = .ok 1 w := fun w => by kernel_rfl
  rw [run_sliceAt_slice _ _ _ _ _ _ ht, run_slice_l w 29 (some ⟨g, o, none⟩) L cap ht .i64 1 (by omega) (by omega), he w]
  simp only [Result.andThen_ok, sliced]
  rw [show (1 : Int).toNat = 1 from rfl]
  congr 2
section
variable {ops : Array Oper} {rest : List Oper} {o : Oper} {a : Act} {Q : Exit → Act → World → Prop} {w : World}
theorem wp_pop (hg : o.guard = none) (x : Operand) (hop : o.op = .slice 29 x (some (.const (.int .i64 1))) none none) (base g of L cap : Nat) (y : Int) (q : List Int) (hx : a.eval x = .slice (some ⟨g, of, none⟩) L cap) (hL : L = q.length + 1)
    (hq : Que w base (.slice (some ⟨g, of, none⟩) (q.length + 1) cap) (y :: q)) (hK : ∀ v', Que w base v' q → wpList Try.prog ops Q rest (a.put o.dst v') w) : wpList Try.prog ops Q (o :: rest) a w := by
  refine wpList_plain hg fun K' hK' => ?_
  have hrun := run_pop (w := w) (g := g) (o := of) (L := L) (cap := cap) (by omega)
  have hc : a.eval (.const (.int .i64 1)) = .int .i64 1 := rfl
  unfold Oper.wp
  simp [execOp, hop, hx, hc, hrun, Result.andThen]
  have := hq.pop
  rw [show L - 1 = q.length by omega]
  exact hK' _ _ (hK _ this)
end

/-- Which sectors were seen. -/
def BoolsAt (w : World) (g : Nat) (s : List Bool) : Prop := w.heap[g]? = some (.cells (s.map Value.bool).toArray 4 (0, 0)) ∧ s.length = 4096
theorem BoolsAt.keep {w w' : World} {g : Nat} {s : List Bool} {ks : Nat → Prop} (h : BoolsAt w g s) (hc : Chg w w' ks) (hn : ¬ ks g) : BoolsAt w' g s := ⟨hc.keep h.1 hn, h.2⟩
theorem BoolsAt.cell {w : World} {g : Nat} {s : List Bool} (h : BoolsAt w g s) {j : Nat} (hj : j < 4096) : w.cell? ⟨g, j, none⟩ = some (.bool (s.getD j false)) := by
  have := h.2
  rw [cell_of_row _ _ _ _ _ _ h.1]
  simp [show j < s.length by omega]
theorem BoolsAt.free {w : World} {g : Nat} {s : List Bool} (h : BoolsAt w g s) (j : Nat) : w.frozen? ⟨g, j, none⟩ = false := frozen_of_row w g j _ _ h.1
theorem BoolsAt.set {w : World} {g : Nat} {s : List Bool} (h : BoolsAt w g s) (j : Nat) (b : Bool) : BoolsAt (w.setCell ⟨g, j, none⟩ (.bool b)) g (s.set j b) := by
  refine ⟨?_, by rw [List.length_set]; exact h.2⟩
  rw [heap_setCell_same w g j _ 4 _ h.1]
  simp [List.map_set]
theorem BoolsAt.que {w : World} {g base : Nat} {s : List Bool} {v : Value} {q : List Int} (h : BoolsAt w g s) (hq : Que w base v q) : ¬ v.ownBlock = some g := fun e => by
  obtain ⟨_, cur, k⟩ := hq.kind e
  rw [h.1] at k
  cases k
/-- How many were not. -/
def isF : Value → Bool
  | .bool false => true
  | _ => false
def falses (w : World) (g : Nat) : Nat :=
  match w.heap[g]? with
  | some (.cells c _ _) => c.toList.countP isF
  | _ => 0
def nF (s : List Bool) : Nat := s.countP (fun b => !b)
theorem BoolsAt.falses {w : World} {g : Nat} {s : List Bool} (h : BoolsAt w g s) : falses w g = nF s := by
  unfold Go.Proofs.Ytfkommjpofpmbaa.falses nF
  rw [h.1]
  simp only [List.countP_map]
  congr 1
  funext b
  cases b <;> rfl
theorem nF_set : ∀ (s : List Bool) (j : Nat), s.getD j true = false → nF (s.set j true) + 1 = nF s
  | [], j, h => by simp at h
  | b :: s, 0, h => by simp at h; subst h; simp [nF]
  | b :: s, j + 1, h => by
    have := nF_set s j (by simpa using h)
    unfold nF at *
    cases b <;> simp at * <;> omega

theorem infoBo : ∃ i, Try.prog.info? 4 = some i ∧ i.zero = some (.bool false) ∧ i.size = 1 ∧ i.bytes = 1 := by
  have h : (Try.prog.info? 4).map (fun i => (i.zero, i.size, i.bytes)) = some (some (.bool false), 1, 1) := by kernel_rfl
  cases hq : Try.prog.info? 4 with
  | none => rw [hq] at h; cases h
  | some i =>
    rw [hq] at h
    simp at h
    exact ⟨i, rfl, h.1, h.2.1, h.2.2⟩
def zb (n : Nat) : List Bool := List.replicate n false
theorem made_bools (n : Nat) : madeCells #[Value.bool false] n = ((zb n).map Value.bool).toArray := by
  apply Array.ext
  · simp [size_madeCells, zb]
  · intro i h1 h2
    have e : (#[Value.bool false] : Array Value)[i % 1]! = Value.bool false := by rw [Nat.mod_one]; rfl
    simp only [madeCells, Array.getElem_map, Array.getElem_range]
    rw [show (#[Value.bool false] : Array Value).size = 1 from rfl, e]
    simp [zb]
def Fs : List Bool := zb 4096
theorem Fs_len : Fs.length = 4096 := List.length_replicate
theorem Fs_get (j : Nat) : Fs.getD j false = false := by
  unfold Fs zb
  rw [List.getD_eq_getElem?_getD, List.getElem?_replicate]
  split <;> rfl
theorem make_bools (w : World) : (Instr.makeSlice 67 (.int .i64 4096) (.int .i64 4096)).run Try.prog w = .ok (.slice (some ⟨w.heap.size, 0, none⟩) 4096 4096) (w.alloc (.cells (Fs.map Value.bool).toArray 4)) := by
  obtain ⟨i, hi, hz, hs, hb⟩ := infoBo
  rw [run_make w 67 4 i _ Try.underlying67 hi hz .i64 .i64 4096 4096 (by omega) (by omega) (by rw [hb]; omega) (by omega), hs]
  rw [show Value.cells (.bool false) = #[Value.bool false] from rfl, show ((4096 : Int).toNat * 1) = 4096 from rfl, made_bools]
  rfl

end Go.Proofs.Ytfkommjpofpmbaa
