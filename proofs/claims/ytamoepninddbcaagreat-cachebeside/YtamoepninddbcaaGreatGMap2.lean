/-
  A range over a map from numbers to sets; which blocks are no lists.
-/
import Derived.Test.YtamoepninddbcaaGreatGMap
namespace Go.Proofs.YtamoepninddbcaaGreat
open Go.RowKit

/-- A range over a map from numbers to sets, under way: which are still to come. -/
def RangeM (w : World) (b r : Nat) (f : Int → Option Nat) (left : Int → Prop) (cnt : Nat) : Prop :=
  ∃ (D : DataW Unit) (lf : Lit → Bool), w.ranges Tryz.prog 3 decM b r (Maps.size D) D lf cnt ∧ (∀ x, Maps.has D (.int .i64 x) = (f x).isSome) ∧ (∀ x c, f x = some c → ∀ z, D.atKey (.int .i64 x) z = .lit (.int .i64 c)) ∧ ∀ x, lf (.int .i64 x) = true ↔ left x
theorem RangeM.leftN {w : World} {b r : Nat} {f : Int → Option Nat} {left : Int → Prop} {cnt : Nat} (h : RangeM w b r f left cnt) : w.rangeLeft b r = cnt := by
  obtain ⟨D, lf, h, _⟩ := h; exact h.left_eq
theorem RangeM.keep {w w' : World} {b r : Nat} {f : Int → Option Nat} {left : Int → Prop} {cnt : Nat} {ks : Nat → Prop} (h : RangeM w b r f left cnt) (hc : Chg w w' ks) (hb : ¬ ks b) (hr : ¬ ks r) : RangeM w' b r f left cnt := by
  obtain ⟨D, lf, h, k⟩ := h
  obtain ⟨es, clock, since, seen, c0, e1, F, hs, hD, e2, rest⟩ := h
  exact ⟨D, lf, ⟨es, clock, since, seen, c0, hc.keep e1 hb, F, hs, hD, hc.keep e2 hr, rest⟩, k⟩
theorem RangeM.iter {w : World} {b r : Nat} {f : Int → Option Nat} {left : Int → Prop} {cnt : Nat} (h : RangeM w b r f left cnt) : ∃ x n0 s0 n1, w.heap[r]? = some (.mapIter x n0 s0 n1) := by
  obtain ⟨D, lf, ⟨es, clock, since, seen, c0, e1, F, hs, hD, e2, rest⟩, k⟩ := h
  exact ⟨_, _, _, _, e2⟩
theorem RangeS.iter {w : World} {c : Option Nat} {r : Nat} {S left : Int → Prop} {cnt : Nat} (h : RangeS w c r S left cnt) : ∃ x n0 s0 n1, w.heap[r]? = some (.mapIter x n0 s0 n1) := by
  cases c with
  | none => obtain ⟨⟨n0, s0, n1, h⟩, _⟩ := h; exact ⟨_, _, _, _, h⟩
  | some b =>
    obtain ⟨D, lf, ⟨es, clock, since, seen, c0, e1, F, hs, hD, e2, rest⟩, k⟩ := h
    exact ⟨_, _, _, _, e2⟩
theorem SetAt.isMap {w : World} {b : Nat} {S : Int → Prop} (h : SetAt w b S) : ∃ es clock, w.heap[b]? = some (.map es clock) := by
  obtain ⟨D, ⟨es, clock, h, _⟩, _⟩ := h
  exact ⟨es, clock, h⟩
theorem MapAt.isMap {w : World} {b : Nat} {f : Int → Option Nat} (h : MapAt w b f) : ∃ es clock, w.heap[b]? = some (.map es clock) := by
  obtain ⟨D, ⟨es, clock, h, _⟩, _⟩ := h
  exact ⟨es, clock, h⟩
/-- A list's own block is a row of cells. -/
theorem row_kind {w : World} {base e k n : Nat} {v : Value} {xs : List Value} (h : w.ownsRow base e k v n xs) {j : Nat} (hj : v.ownBlock = some j) : ∃ cur, w.heap[j]? = some (.cells cur e (0, 0)) := by
  rcases h.2 with ⟨rfl, _⟩ | ⟨g, cap, cur, rfl, hg, hb, _⟩
  · simp [Value.ownBlock] at hj
  · have e : g = j := by simpa [Value.ownBlock] using hj
    subst e
    exact ⟨cur, hb⟩

section
variable {ops : Array Oper} {rest : List Oper} {o : Oper} {a : Act} {Q : Exit → Act → World → Prop} {w : World}
theorem wp_rangeM (hg : o.guard = none) (m : Operand) (hop : o.op = Op.range 115 m) (b : Nat) (f : Int → Option Nat) (hm : a.eval m = .map (some b)) (h : MapAt w b f)
    (hK : ∀ w' cnt, RangeM w' b w.heap.size f (fun x => (f x).isSome = true) cnt → Chg w w' No → w'.heap.size = w.heap.size + 1 → wpList Tryz.prog ops Q rest (a.put o.dst (.pointer (some ⟨w.heap.size, 0, none⟩))) w') : wpList Tryz.prog ops Q (o :: rest) a w := by
  obtain ⟨D, h, hh, ha⟩ := h
  refine wpList_range_own w hg m 115 hop 3 121 keyI Tryz.underlying115 decM b _ D hm h ?_
  intro w' hr hgr hs
  exact hK w' _ ⟨D, _, hr, hh, ha, fun x => by rw [hh x]⟩ ((Chg.grown hgr).mono fun j _ e => by cases e) hs
theorem wp_nextM (hg : o.guard = none) (it : Operand) (hop : o.op = Op.next it false) (b r : Nat) (f : Int → Option Nat) (left : Int → Prop) (cnt : Nat) (hit : a.eval it = .pointer (some ⟨r, 0, none⟩)) (h : RangeM w b r f left cnt)
    (hDone : (∀ x, ¬ left x) → wpList Tryz.prog ops Q rest (a.put o.dst (.tuple #[.bool false])) w)
    (hMore : ∀ (x : Int) (d : Nat) (w' : World) (cnt' : Nat), left x → f x = some d → I64 x → RangeM w' b r f (fun y => left y ∧ y ≠ x) cnt' → cnt' < cnt → Chg w w' (· = r) → w'.heap.size = w.heap.size →
      (Instr.entry (.pointer (some ⟨r, 0, none⟩))).run Tryz.prog w' = .ok (.tuple #[.int .i64 x, .map (some d)]) w' → wpList Tryz.prog ops Q rest (a.put o.dst (.tuple #[.bool true, .int .i64 x, .map (some d)])) w') : wpList Tryz.prog ops Q (o :: rest) a w := by
  obtain ⟨D, lf, h, hh, ha, hl⟩ := h
  refine wpList_next_ranges w hg it hop 3 keyI decM (Value.int .i64) Value.map (fun key kl hkey => by obtain ⟨x, rfl, _⟩ := Maps.keyOf_int_inv Tryz.underlying3 hkey; exact ⟨x, rfl⟩) (fun v y hv => let ⟨c, e, _⟩ := decM_inv hv; ⟨c, e⟩)
    b r _ D lf cnt hit h (fun _ k => hDone fun x hx => absurd ((hl x).2 hx) (by rw [k]; simp)) ?_
  intro x c kl y w' cnt' hkey hlk hv hat hrg hlt hgr hsz hen
  obtain ⟨x', ex, rfl, hwx⟩ := Maps.keyOf_int_inv Tryz.underlying3 hkey
  cases ex
  have hhas : Maps.has D (.int .i64 x) = true := Maps.has_true_of_atKey hat
  rw [hh x] at hhas
  obtain ⟨d, hd⟩ := Option.isSome_iff_exists.1 hhas
  have hc : c = some d := by
    obtain ⟨c', e1, e2⟩ := decM_inv hv
    cases e1
    have e3 := hat (.lit (.int .i64 0))
    rw [ha x d hd, e2] at e3
    cases c with
    | none => simp at e3
    | some c =>
      have : (d : Int) = c := by simpa using e3
      rw [show d = c by omega]
  subst hc
  refine hMore x d w' cnt' ((hl x).1 hlk) hd (wfI hwx) ⟨D, _, hrg, hh, ha, fun y => ?_⟩ hlt ((Chg.grown hgr).mono fun j _ e => by simpa using e) hsz hen
  by_cases hy : y = x
  · subst hy
    simp [WideAt.sameKey_self (keyLit y)]
  · have hk : (Lit.int .i64 y).sameKey (.int .i64 x) = false := Maps.sameKey_ne (by simpa using hy)
    simp [hk, hl y, hy]
end

end Go.Proofs.YtamoepninddbcaaGreat
