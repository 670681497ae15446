/-
  Lists of numbers and of edges of the call's own; sorted by the library.
-/
import Derived.Deep.RegionHeld3
import Derived.Deep.RegionLaw
import Derived.Test.YtamoepninddbcaaGreatGMap
import Derived.Maps.AppendAt
import Derived.Deep.DeepMust
namespace Go.Proofs.YtamoepninddbcaaGreat
open Go.RowKit

section
variable {ops : Array Oper} {Q : Exit → Act → World → Prop} {S : World → Prop} {fuel : Nat} {listed : Array Bool} {a : Act} {w : World}

/-- An operation that yields v in every world that meets S is taken first. -/
theorem takeVal (i d : Nat) (v : Value) {o : Oper} (hop : ops[i]? = some o) (hs : Region.noSelect ops = true) (hf : Region.free .any ops listed i = true) (hr : (Region.ready .any ops listed).contains i = true)
    (hd : o.dst = some d) (hw : Region.wanted o (yielded ops a.tmps) = true) (hQ : ∀ c a w, ¬ Q (.panic c) a w) (hS : S w)
    (hy : ∀ w, S w → (execOp a.eval o).run Tryz.prog w = .ok (.value v) w)
    (h : wpAnyH Tryz.prog .any ops Q S fuel (listed.setIfInBounds i true) { a with tmps := a.tmps.setIfInBounds d v } w) : wpAnyH Tryz.prog .any ops Q S (fuel + 1) listed a w := by
  refine wpAnyH_take (v := v) hop hs hf hr (fun c a w k => absurd k (hQ c _ w)) (.inl ⟨hw, hy⟩) hS ?_
  unfold Act.put
  rw [hd]
  exact h

/-- An operation that is not wanted. -/
theorem takeNot (i d : Nat) {o : Oper} (hop : ops[i]? = some o) (hs : Region.noSelect ops = true) (hf : Region.free .any ops listed i = true) (hr : (Region.ready .any ops listed).contains i = true)
    (hd : o.dst = some d) (hw : Region.wanted o (yielded ops a.tmps) = false) (hQ : ∀ c a w, ¬ Q (.panic c) a w) (hS : S w)
    (h : wpAnyH Tryz.prog .any ops Q S fuel (listed.setIfInBounds i true) { a with tmps := a.tmps.setIfInBounds d undef } w) : wpAnyH Tryz.prog .any ops Q S (fuel + 1) listed a w := by
  refine wpAnyH_take (v := undef) hop hs hf hr (fun c a w k => absurd k (hQ c _ w)) (.inr ⟨hw, rfl⟩) hS ?_
  unfold Act.put
  rw [hd]
  exact h

/-- One of those that may come up: the step, and what follows. -/
abbrev St (ops : Array Oper) (Q : Exit → Act → World → Prop) (S : World → Prop) (fuel : Nat) (listed : Array Bool) (a : Act) (w : World) (i : Nat) : Prop :=
  wpOp Tryz.prog ops Q i (fun a' w' => S w' ∧ wpAnyH Tryz.prog .any ops Q S fuel (listed.setIfInBounds i true) a' w') a w

theorem step1 (i : Nat) (hr : Region.ready .any ops listed = [i]) (h : St ops Q S fuel listed a w i) : wpAnyH Tryz.prog .any ops Q S (fuel + 1) listed a w :=
  wpAnyH_all hr (by simp) fun j hj => by simp at hj; subst hj; exact h
theorem step2 (i j : Nat) (hr : Region.ready .any ops listed = [i, j]) (h : St ops Q S fuel listed a w i) (k : St ops Q S fuel listed a w j) : wpAnyH Tryz.prog .any ops Q S (fuel + 1) listed a w :=
  wpAnyH_all hr (by simp) fun l hl => by
    simp at hl
    rcases hl with rfl | rfl
    · exact h
    · exact k

theorem stCall (i d f : Nat) (args : Array Value) (R : Ending → World → Prop) {o : Oper} (hop : ops[i]? = some o)
    (hd : o.dst = some d) (hw : Region.wanted o (yielded ops a.tmps) = true) (hrun : (execOp a.eval o).run Tryz.prog w = .ok (.enter f args) w) (hc : Calls Tryz.prog f args w R)
    (h : ∀ e w', R e w' → ∃ v, e = .returned v ∧ S w' ∧ wpAnyH Tryz.prog .any ops Q S fuel (listed.setIfInBounds i true) { a with tmps := a.tmps.setIfInBounds d v } w') : St ops Q S fuel listed a w i := by
  refine wpOp_step hop (fun K hK => ?_)
  rw [if_pos hw]
  unfold Oper.wp
  rw [hrun, Oper.upon_enter]
  refine hc.mono ?_
  intro e w' hR
  obtain ⟨v, rfl, hS, hrest⟩ := h e w' hR
  refine hK _ _ ⟨hS, ?_⟩
  unfold Act.put
  rw [hd]
  exact hrest
theorem stVal (i d : Nat) (v : Value) {o : Oper} (hop : ops[i]? = some o) (hd : o.dst = some d) (hw : Region.wanted o (yielded ops a.tmps) = true)
    (hrun : (execOp a.eval o).run Tryz.prog w = .ok (.value v) w) (hS : S w)
    (h : wpAnyH Tryz.prog .any ops Q S fuel (listed.setIfInBounds i true) { a with tmps := a.tmps.setIfInBounds d v } w) : St ops Q S fuel listed a w i := by
  refine wpOp_step hop (fun K hK => ?_)
  rw [if_pos hw]
  unfold Oper.wp
  rw [hrun]
  refine hK _ _ ⟨hS, ?_⟩
  unfold Act.put
  rw [hd]
  exact h
/-- Something new is made. -/
theorem stNew (i d : Nat) (v : Value) (ob : Obj) {o : Oper} (hop : ops[i]? = some o) (hd : o.dst = some d) (hw : Region.wanted o (yielded ops a.tmps) = true)
    (hrun : (execOp a.eval o).run Tryz.prog w = .ok (.value v) (w.alloc ob))
    (h : S (w.alloc ob) ∧ wpAnyH Tryz.prog .any ops Q S fuel (listed.setIfInBounds i true) { a with tmps := a.tmps.setIfInBounds d v } (w.alloc ob)) : St ops Q S fuel listed a w i := by
  refine wpOp_step hop (fun K hK => ?_)
  rw [if_pos hw]
  unfold Oper.wp
  rw [hrun]
  refine hK _ _ ⟨h.1, ?_⟩
  unfold Act.put
  rw [hd]
  exact h.2
end

/-- A fact on memory may be made stronger on the way through a statement whose order is open. -/
theorem wpAnyH_more {ops : Array Oper} {Q : Exit → Act → World → Prop} {S S' : World → Prop} (hS : ∀ w, S' w → S w) : ∀ (fuel : Nat) (listed : Array Bool) (a : Act) (w : World), wpAnyH Tryz.prog .any ops Q S' fuel listed a w → wpAnyH Tryz.prog .any ops Q S fuel listed a w
  | 0, _, _, _, h => h
  | fuel + 1, _, _, _, h => ⟨h.1, fun i hi => wpOp_mono (fun a' w' hh => ⟨hS w' hh.1, wpAnyH_more hS fuel _ a' w' hh.2⟩) (h.2 i hi)⟩

end Go.Proofs.YtamoepninddbcaaGreat

namespace Go.Proofs.YtamoepninddbcaaGreat
open Go.RowKit

/-- An edge's two cells. -/
def encE (x : Int × Int) : List Value := [.int .i64 x.1, .int .i64 x.2]
def cellsE : List (Int × Int) → List Value
  | [] => []
  | x :: l => .int .i64 x.1 :: .int .i64 x.2 :: cellsE l
/-- A list of numbers that lies in memory from block base on. -/
def Ints (w : World) (base : Nat) (v : Value) (l : List Int) : Prop := w.ownsRow base 3 1 v l.length (l.map (Value.int .i64))
/-- A list of edges that lies in memory from block base on. -/
def Edgs (w : World) (base : Nat) (v : Value) (l : List (Int × Int)) : Prop := w.ownsRow base 73 2 v l.length (cellsE l)

theorem cellsE_len : ∀ l, (cellsE l).length = l.length * 2
  | [] => rfl
  | _ :: l => by simp [cellsE, cellsE_len l]; omega
theorem cellsE_append : ∀ l m, cellsE (l ++ m) = cellsE l ++ cellsE m
  | [], _ => rfl
  | _ :: l, m => by simp [cellsE, cellsE_append l m]
theorem cellsE_one : ∀ l, ∀ u ∈ cellsE l, u.oneCell' = true
  | [], u, h => by simp [cellsE] at h
  | x :: l, u, h => by
    simp only [cellsE, List.mem_cons] at h
    rcases h with rfl | rfl | h
    · rfl
    · rfl
    · exact cellsE_one l u h
theorem cellsE_get : ∀ (l : List (Int × Int)) (j : Nat), (cellsE l)[2 * j]? = (l[j]?).map (fun x => Value.int .i64 x.1) ∧ (cellsE l)[2 * j + 1]? = (l[j]?).map (fun x => Value.int .i64 x.2)
  | [], j => by simp [cellsE]
  | x :: l, 0 => by simp [cellsE]
  | x :: l, j + 1 => by
    have := cellsE_get l j
    rw [show 2 * (j + 1) = 2 * j + 1 + 1 by omega]
    simp only [cellsE, List.getElem?_cons_succ]
    exact this

theorem row_keep {w w' : World} {base e k n : Nat} {v : Value} {xs : List Value} {ks : Nat → Prop} (h : w.ownsRow base e k v n xs) (hc : Chg w w' ks) (hn : ∀ j, v.ownBlock = some j → ¬ ks j) : w'.ownsRow base e k v n xs := by
  refine ⟨h.1, ?_⟩
  rcases h.2 with h | ⟨g, cap, cur, rfl, hg, hb, r⟩
  · exact .inl h
  · exact .inr ⟨g, cap, cur, rfl, hg, hc.keep hb (hn g rfl), r⟩
theorem row_ge {w : World} {base e k n : Nat} {v : Value} {xs : List Value} (h : w.ownsRow base e k v n xs) {j : Nat} (hj : v.ownBlock = some j) : base ≤ j ∧ j < w.heap.size := by
  rcases h.2 with ⟨rfl, _⟩ | ⟨g, cap, cur, rfl, hg, hb, _⟩
  · simp [Value.ownBlock] at hj
  · have e : g = j := by simpa [Value.ownBlock] using hj
    subst e
    exact ⟨hg, slt hb⟩
theorem row_base {w : World} {base base' e k n : Nat} {v : Value} {xs : List Value} (h : w.ownsRow base e k v n xs) (hb : base' ≤ base) : w.ownsRow base' e k v n xs := by
  refine ⟨h.1, ?_⟩
  rcases h.2 with h | ⟨g, cap, cur, rfl, hg, r⟩
  · exact .inl h
  · exact .inr ⟨g, cap, cur, rfl, by omega, r⟩

theorem infoI : ∃ i, Tryz.prog.info? 3 = some i ∧ i.zero = some (.int .i64 0) ∧ i.size = 1 ∧ i.bytes = 8 := by
  have h : (Tryz.prog.info? 3).map (fun i => (i.zero, i.size, i.bytes)) = some (some (.int .i64 0), 1, 8) := by kernel_rfl
  cases hq : Tryz.prog.info? 3 with
  | none => rw [hq] at h; cases h
  | some i =>
    rw [hq] at h
    simp at h
    exact ⟨i, rfl, h.1, h.2.1, h.2.2⟩
theorem infoE : ∃ i, Tryz.prog.info? 73 = some i ∧ i.zero = some (.agg #[.int .i64 0, .int .i64 0]) ∧ i.size = 2 ∧ i.bytes = 16 := by
  have h : (Tryz.prog.info? 73).map (fun i => (i.zero, i.size, i.bytes)) = some (some (.agg #[.int .i64 0, .int .i64 0]), 2, 16) := by kernel_rfl
  cases hq : Tryz.prog.info? 73 with
  | none => rw [hq] at h; cases h
  | some i =>
    rw [hq] at h
    simp at h
    exact ⟨i, rfl, h.1, h.2.1, h.2.2⟩

section
variable {ops : Array Oper} {rest : List Oper} {o : Oper} {a : Act} {Q : Exit → Act → World → Prop} {w : World}
/-- append of one number. -/
theorem wp_appI (hg : o.guard = none) (s x : Operand) (hop : o.op = .call { callee := .builtin .append, args := #[s, x], argTypes := #[27, 27] }) (base g c : Nat) (v : Value) (l : List Int) (y : Int) (hs : a.eval s = v) (hx : a.eval x = .slice (some ⟨g, 0, none⟩) 1 c)
    (hown : Ints w base v l) (hat : w.cell? ⟨g, 0, none⟩ = some (.int .i64 y)) (hl : l.length ≤ 17592186044000) (hbase : base ≤ w.heap.size)
    (hK : ∀ v' w', Ints w' base v' (l ++ [y]) → Chg w w' (fun k => v.ownBlock = some k) → (v'.ownBlock = v.ownBlock ∨ v'.ownBlock = some w.heap.size) → wpList Tryz.prog ops Q rest (a.put o.dst v') w') : wpList Tryz.prog ops Q (o :: rest) a w := by
  obtain ⟨i, hi, hz, hsz, hby⟩ := infoI
  refine wpList_append_own_at w hg s x 27 hop base 3 i _ 1 8 Tryz.underlying27 hi hz hsz hby rfl (by decide) v l.length (l.map (Value.int .i64)) hs hown ⟨g, 0, none⟩ 1 c [.int .i64 y] hx rfl (fun j u hj => ?_) (by simp [Value.oneCell']) (by unfold maxLen; omega) (by omega) hbase ?_
  · cases j with
    | zero => simp at hj; subst hj; exact hat
    | succ j => simp at hj
  · intro v' w' h1 h2 _ h4
    refine hK v' w' ?_ ((Chg.grown h2).mono fun j _ e => e.symm) h4
    unfold Ints
    rw [List.map_append, List.length_append]
    exact h1
/-- append of one edge. -/
theorem wp_appE (hg : o.guard = none) (s x : Operand) (hop : o.op = .call { callee := .builtin .append, args := #[s, x], argTypes := #[64, 64] }) (base g c : Nat) (v : Value) (l : List (Int × Int)) (y : Int × Int) (hs : a.eval s = v) (hx : a.eval x = .slice (some ⟨g, 0, none⟩) 1 c)
    (hown : Edgs w base v l) (hat : w.cell? ⟨g, 0, none⟩ = some (.int .i64 y.1)) (hat1 : w.cell? ⟨g, 1, none⟩ = some (.int .i64 y.2)) (hl : l.length ≤ 1000000000000) (hbase : base ≤ w.heap.size)
    (hK : ∀ v' w', Edgs w' base v' (l ++ [y]) → Chg w w' (fun k => v.ownBlock = some k) → (v'.ownBlock = v.ownBlock ∨ v'.ownBlock = some w.heap.size) → wpList Tryz.prog ops Q rest (a.put o.dst v') w') : wpList Tryz.prog ops Q (o :: rest) a w := by
  obtain ⟨i, hi, hz, hsz, hby⟩ := infoE
  refine wpList_append_own_at w hg s x 64 hop base 73 i _ 2 16 Tryz.underlying64 hi hz hsz hby rfl (by decide) v l.length (cellsE l) hs hown ⟨g, 0, none⟩ 1 c [.int .i64 y.1, .int .i64 y.2] hx rfl (fun j u hj => ?_) (by simp [Value.oneCell']) (by unfold maxLen; omega) (by omega) hbase ?_
  · match j, hj with
    | 0, hj => simp at hj; subst hj; exact hat
    | 1, hj => simp at hj; subst hj; exact hat1
    | j + 2, hj => simp at hj
  · intro v' w' h1 h2 _ h4
    refine hK v' w' ?_ ((Chg.grown h2).mono fun j _ e => e.symm) h4
    unfold Edgs
    rw [cellsE_append, List.length_append]
    exact h1
end

end Go.Proofs.YtamoepninddbcaaGreat
