/-
  Maps from texts to numbers, in memory.
-/
import Derived.Test.YtbkddnibcpjkgaaDoorMI
import Derived.StringKeys
namespace Go.Proofs.YtbkddnibcpjkgaaDoor
open Go.RowKit

theorem keyS : Maps.Keyed Tryd.prog 9 := Maps.string_keyed Tryd.underlying9
theorem keyOfS {s : ByteArray} (h : s.size ≤ 1000) : keyOf Tryd.prog 9 (.string s) = some (.string s.data.toList) := WideMaps.keyOf_string_mk Tryd.underlying9 (by unfold maxLen; omega)
theorem keyLitS (l : List UInt8) : WideAt.IsKeyLit (.string l) := trivial
theorem zeroI (w : World) : (zeroValue 3).run Tryd.prog w = .ok (.int .i64 0) w := by kernel_rfl
/-- A block is a map from texts to numbers, of at most n. -/
def MapT (w : World) (b : Nat) (f : ByteArray → Option Int) (n : Nat) : Prop :=
  ∃ D : DataW Value, w.ownsMap Tryd.prog 9 decV b (Maps.size D) D ∧ Maps.size D ≤ n ∧ (∀ x : ByteArray, Maps.has D (.string x.data.toList) = (f x).isSome) ∧ ∀ x v, f x = some v → ∀ z, D.atKey (.string x.data.toList) z = .held (.int .i64 v)
section
variable {w w' : World} {b n : Nat} {f : ByteArray → Option Int}
theorem MapT.lt (h : MapT w b f n) : b < w.heap.size := let ⟨_, h, _⟩ := h; h.lt
theorem MapT.isMap (h : MapT w b f n) : ∃ es clock, w.heap[b]? = some (.map es clock) := by
  obtain ⟨D, ⟨es, clock, h, _⟩, _⟩ := h
  exact ⟨es, clock, h⟩
theorem MapT.keep {ks : Nat → Prop} (h : MapT w b f n) (hc : Chg w w' ks) (hn : ¬ ks b) : MapT w' b f n := by
  obtain ⟨D, ⟨es, clock, hb, r⟩, k⟩ := h
  exact ⟨D, ⟨es, clock, hc.keep hb hn, r⟩, k⟩
theorem MapT.made (w : World) : MapT (w.alloc (.map #[] 0)) w.heap.size (fun _ => none) 0 :=
  ⟨.map [], World.ownsMap_made w Tryd.prog 9 decV, by simp [Maps.size], fun x => by simp [Maps.has], fun x c h => by cases h⟩
theorem MapT.look_ok (h : MapT w b f n) {x : ByteArray} (hx : x.size ≤ 1000) : (Instr.lookup 66 (.map (some b)) (.string x) true).run Tryd.prog w = .ok (.tuple #[.int .i64 ((f x).getD 0), .bool (f x).isSome]) w := by
  obtain ⟨D, h, _, hh, ha⟩ := h
  obtain ⟨v, ps, hrun, hv⟩ := h.look_ok keyS Tryd.underlying66 (zeroI w) (zd := .held (.int .i64 0)) (zp := []) rfl (keyOfS hx)
  rw [hrun, hh x]
  have hz : DataW.held v = D.atKey (.string x.data.toList) (.held (.int .i64 0)) := by
    have : decV v = some (.held v, []) := rfl
    rw [this] at hv
    simpa using congrArg (fun o => o.map Prod.fst) hv
  cases hf : f x with
  | none =>
    have h0 : Maps.has D (.string x.data.toList) = false := by rw [hh x, hf]; rfl
    rw [Maps.atKey_of_not_has h0] at hz
    cases hz
    rfl
  | some u =>
    rw [ha x u hf] at hz
    cases hz
    rfl
theorem MapT.look (h : MapT w b f n) {x : ByteArray} (hx : x.size ≤ 1000) : (Instr.lookup 66 (.map (some b)) (.string x) false).run Tryd.prog w = .ok (.int .i64 ((f x).getD 0)) w := by
  obtain ⟨D, h, _, hh, ha⟩ := h
  obtain ⟨v, ps, hrun, hv⟩ := h.lookup keyS Tryd.underlying66 (zeroI w) (zd := .held (.int .i64 0)) (zp := []) rfl (keyOfS hx)
  rw [hrun]
  have hz : DataW.held v = D.atKey (.string x.data.toList) (.held (.int .i64 0)) := by
    have : decV v = some (.held v, []) := rfl
    rw [this] at hv
    simpa using congrArg (fun o => o.map Prod.fst) hv
  cases hf : f x with
  | none =>
    have h0 : Maps.has D (.string x.data.toList) = false := by rw [hh x, hf]; rfl
    rw [Maps.atKey_of_not_has h0] at hz
    cases hz
    rfl
  | some u =>
    rw [ha x u hf] at hz
    cases hz
    rfl
theorem tightT {n : Nat} {D : DataW Value} (h : w.ownsMap Tryd.prog 9 decV b n D) : w.ownsMap Tryd.prog 9 decV b (Maps.size D) D := by
  obtain ⟨es, clock, hb, F, hs, hD⟩ := h
  refine ⟨es, clock, hb, F, ?_, hD⟩
  rw [hD]
  simp [Maps.size, length_sorted]
theorem MapT.store (h : MapT w b f n) {x : ByteArray} (hx : x.size ≤ 1000) (v : Int) (hn : n ≤ 100000) :
    ∃ w', (Instr.mapUpdate 66 (.map (some b)) (.string x) (.int .i64 v)).run Tryd.prog w = .ok () w' ∧ MapT w' b (fun y => if y = x then some v else f y) (n + 1) ∧ Chg w w' (· = b) ∧ w'.heap.size = w.heap.size := by
  obtain ⟨D, h, hs, hh, ha⟩ := h
  obtain ⟨w', hrun, ho, ht⟩ := h.store keyS Tryd.underlying66 (by unfold maxLen; omega) (keyOfS hx) (d := .held (.int .i64 v)) (ps := []) (val := .int .i64 v) rfl
  obtain ⟨h1, h2⟩ := turned_chg ht
  refine ⟨w', hrun, ⟨_, tightT ho, ?_, fun y => ?_, fun y c hc z => ?_⟩, h1, h2⟩
  · rw [Maps.size_put (h.tidy keyS)]
    split <;> omega
  · by_cases hy : y = x
    · subst hy
      simp [Maps.has_put_same h.isMap (keyLitS y.data.toList)]
    · rw [Maps.has_put_other (by simpa using fun e => hy (by cases y; cases x; congr 1)), hh y]
      simp [hy]
  · by_cases hy : y = x
    · subst hy
      simp at hc
      rw [Maps.atKey_put_same h.isMap (keyLitS y.data.toList), hc]
    · rw [Maps.atKey_put_other (by simpa using fun e => hy (by cases y; cases x; congr 1))]
      simp [hy] at hc
      exact ha y c hc z
end
section
variable {ops : Array Oper} {rest : List Oper} {o : Oper} {a : Act} {Q : Exit → Act → World → Prop} {w : World}
theorem wp_okT (hg : o.guard = none) (m x : Operand) (hop : o.op = Op.lookup 66 m x true) (b n : Nat) (f : ByteArray → Option Int) (k : ByteArray) (hm : a.eval m = .map (some b)) (hx : a.eval x = .string k)
    (h : MapT w b f n) (hk : k.size ≤ 1000) (hK : wpList Tryd.prog ops Q rest (a.put o.dst (.tuple #[.int .i64 ((f k).getD 0), .bool (f k).isSome])) w) : wpList Tryd.prog ops Q (o :: rest) a w := by
  refine wpList_plain hg fun K' hK' => ?_
  unfold Oper.wp
  simp [execOp, hop, hm, hx, h.look_ok hk, Result.andThen]
  exact hK' _ _ hK
theorem wp_lookT (hg : o.guard = none) (m x : Operand) (hop : o.op = Op.lookup 66 m x false) (b n : Nat) (f : ByteArray → Option Int) (k : ByteArray) (hm : a.eval m = .map (some b)) (hx : a.eval x = .string k)
    (h : MapT w b f n) (hk : k.size ≤ 1000) (hK : wpList Tryd.prog ops Q rest (a.put o.dst (.int .i64 ((f k).getD 0))) w) : wpList Tryd.prog ops Q (o :: rest) a w := by
  refine wpList_plain hg fun K' hK' => ?_
  unfold Oper.wp
  simp [execOp, hop, hm, hx, h.look hk, Result.andThen]
  exact hK' _ _ hK
theorem wp_storeT (hg : o.guard = none) (m x v : Operand) (hop : o.op = Op.mapUpdate 66 m x v) (b n : Nat) (f : ByteArray → Option Int) (k : ByteArray) (d : Int) (hm : a.eval m = .map (some b)) (hx : a.eval x = .string k) (hv : a.eval v = .int .i64 d)
    (h : MapT w b f n) (hk : k.size ≤ 1000) (hn : n ≤ 100000)
    (hK : ∀ w', MapT w' b (fun y => if y = k then some d else f y) (n + 1) → Chg w w' (· = b) → w'.heap.size = w.heap.size → wpList Tryd.prog ops Q rest (a.put o.dst undef) w') : wpList Tryd.prog ops Q (o :: rest) a w := by
  refine wpList_plain hg fun K' hK' => ?_
  obtain ⟨w', hrun, r1, r2, r3⟩ := h.store hk d hn
  unfold Oper.wp
  simp [execOp, hop, hm, hx, hv, hrun, Result.andThen]
  exact hK' _ _ (hK w' r1 r2 r3)
end
end Go.Proofs.YtbkddnibcpjkgaaDoor
