/-
  A map from numbers to what is to be written to a sector, in memory.
-/
import Derived.Test.YtgkanfmkohlmcaaGreatGMap2
import Derived.Test.YtgkanfmkohlmcaaGreatDisk2
import Derived.Test.YtgkanfmkohlmcaaGreatLists
namespace Go.Proofs.YtgkanfmkohlmcaaGreat
open Go.RowKit

/-- How an element reads: as it is. -/
def decV (v : Value) : Option (DataW Value × List MemPlace) := some (.held v, [])
/-- The cells of what is to be written: the content, and the tags. -/
def pend (s : List Int) (t : Value) : Array Value := (s.map (Value.int .u8) ++ [t]).toArray
/-- What is there where nothing was put. -/
def pend0 : Array Value := pend D.Zs (.slice none 0 0)
theorem zeroP (w : World) : (zeroValue 74).run Tryz.prog w = .ok (.agg pend0) w := by kernel_rfl

/-- A block is a map from numbers to values. -/
def MapV (w : World) (b : Nat) (f : Int → Option Value) : Prop :=
  ∃ D : DataW Value, w.ownsMap Tryz.prog 3 decV b (Maps.size D) D ∧ (∀ x, Maps.has D (.int .i64 x) = (f x).isSome) ∧ ∀ x v, f x = some v → ∀ z, D.atKey (.int .i64 x) z = .held v

section
variable {R : Value → Option (DataW Value × List MemPlace)} {w : World} {b n : Nat} {D : DataW Value}
theorem tightV (h : w.ownsMap Tryz.prog 3 R b n D) : w.ownsMap Tryz.prog 3 R b (Maps.size D) D := by
  obtain ⟨es, clock, hb, F, hs, hD⟩ := h
  refine ⟨es, clock, hb, F, ?_, hD⟩
  rw [hD]
  simp [Maps.size, length_sorted]
/-- Its keys, each once. -/
theorem keys_ofV (h : w.ownsMap Tryz.prog 3 R b n D) : ∃ l : List Int, l.Pairwise (· ≠ ·) ∧ l.length = Maps.size D ∧ (∀ x, x ∈ l ↔ Maps.has D (.int .i64 x) = true) ∧ ∀ x, x ∈ l → I64 x := by
  obtain ⟨es, hD, hp, hk⟩ := h.entries keyI
  have hint : ∀ p ∈ es, ∃ x, p.1 = .int .i64 x ∧ I64 x := by
    obtain ⟨es', clock, _, F, _, hD'⟩ := h
    rw [hD] at hD'
    cases hD'
    intro p hp
    obtain ⟨x, hx, rfl⟩ := List.mem_map.1 (mem_sorted.1 hp)
    obtain ⟨y, hy⟩ := F.reads x hx
    obtain ⟨k, _, hk, hw⟩ := Maps.keyOf_int_inv Tryz.underlying3 (WideElems.rd_key hy)
    rw [WideElems.rg_of hy]
    exact ⟨k, hk, wfI hw⟩
  refine ⟨es.map (fun p => match p.1 with | .int _ x => x | _ => 0), ?_, ?_, ?_, ?_⟩
  · rw [List.pairwise_map]
    refine List.Pairwise.imp_of_mem ?_ hp
    intro p q hp hq hne
    obtain ⟨x, hx, _⟩ := hint p hp
    obtain ⟨y, hy, _⟩ := hint q hq
    rw [hx, hy] at hne
    rw [hx, hy]
    simpa using hne
  · rw [hD]; simp [Maps.size]
  · intro x
    rw [hD, Maps.has_eq, List.any_eq_true]
    constructor
    · intro hx
      obtain ⟨p, hp, e⟩ := List.mem_map.1 hx
      obtain ⟨y, hy, _⟩ := hint p hp
      rw [hy] at e
      simp at e
      subst e
      exact ⟨p, hp, by rw [hy]; exact WideAt.sameKey_self (keyLit _)⟩
    · rintro ⟨p, hp, hs⟩
      have := WideAt.sameKey_eq hs
      exact List.mem_map.2 ⟨p, hp, by rw [this]⟩
  · intro x hx
    obtain ⟨p, hp, e⟩ := List.mem_map.1 hx
    obtain ⟨y, hy, hw⟩ := hint p hp
    rw [hy] at e
    simp at e
    rw [← e]
    exact hw
theorem size_leV (h : w.ownsMap Tryz.prog 3 R b n D) (L : List Int) (hL : ∀ x, Maps.has D (.int .i64 x) = true → x ∈ L) : Maps.size D ≤ L.length := by
  obtain ⟨l, hp, hl, hm, _⟩ := keys_ofV h
  rw [← hl]
  exact nodup_len l L hp fun x hx => hL x ((hm x).1 hx)
end

variable {w : World} {b : Nat} {f : Int → Option Value}
theorem MapV.lt (h : MapV w b f) : b < w.heap.size := let ⟨_, h, _⟩ := h; h.lt
theorem MapV.keep {w' : World} {ks : Nat → Prop} (h : MapV w b f) (hc : Chg w w' ks) (hn : ¬ ks b) : MapV w' b f := by
  obtain ⟨D, ⟨es, clock, hb, r⟩, k⟩ := h
  exact ⟨D, ⟨es, clock, hc.keep hb hn, r⟩, k⟩
theorem MapV.cong {g : Int → Option Value} (h : MapV w b f) (hs : ∀ x, f x = g x) : MapV w b g := by
  have : f = g := funext hs
  exact this ▸ h
theorem MapV.isMap (h : MapV w b f) : ∃ es clock, w.heap[b]? = some (.map es clock) := by
  obtain ⟨D, ⟨es, clock, h, _⟩, _⟩ := h
  exact ⟨es, clock, h⟩
theorem MapV.made (w : World) : MapV (w.alloc (.map #[] 0)) w.heap.size (fun _ => none) :=
  ⟨.map [], World.ownsMap_made w Tryz.prog 3 decV, fun x => by simp [Maps.has], fun x c h => by cases h⟩
/-- 'm[n]', and whether it is there. -/
theorem MapV.look (h : MapV w b f) {x : Int} (hx : I64 x) : (Instr.lookup 69 (.map (some b)) (.int .i64 x) false).run Tryz.prog w = .ok (match f x with | some v => v | none => .agg pend0) w := by
  obtain ⟨D, h, hh, ha⟩ := h
  obtain ⟨v, ps, hrun, hv⟩ := h.lookup keyI Tryz.underlying69 (zeroP w) (zd := .held (.agg pend0)) (zp := []) rfl (keyOfI hx)
  rw [hrun]
  have hz : DataW.held v = D.atKey (.int .i64 x) (.held (.agg pend0)) := by
    have : decV v = some (.held v, []) := rfl
    rw [this] at hv
    simpa using congrArg (fun o => o.map Prod.fst) hv
  cases hf : f x with
  | none =>
    have h0 : Maps.has D (.int .i64 x) = false := by rw [hh x, hf]; rfl
    rw [Maps.atKey_of_not_has h0] at hz
    cases hz
    rfl
  | some u =>
    rw [ha x u hf] at hz
    cases hz
    rfl
theorem MapV.look_ok (h : MapV w b f) {x : Int} (hx : I64 x) : (Instr.lookup 69 (.map (some b)) (.int .i64 x) true).run Tryz.prog w = .ok (.tuple #[match f x with | some v => v | none => .agg pend0, .bool (f x).isSome]) w := by
  obtain ⟨D, h, hh, ha⟩ := h
  obtain ⟨v, ps, hrun, hv⟩ := h.look_ok keyI Tryz.underlying69 (zeroP w) (zd := .held (.agg pend0)) (zp := []) rfl (keyOfI hx)
  rw [hrun, hh x]
  have hz : DataW.held v = D.atKey (.int .i64 x) (.held (.agg pend0)) := by
    have : decV v = some (.held v, []) := rfl
    rw [this] at hv
    simpa using congrArg (fun o => o.map Prod.fst) hv
  cases hf : f x with
  | none =>
    have h0 : Maps.has D (.int .i64 x) = false := by rw [hh x, hf]; rfl
    rw [Maps.atKey_of_not_has h0] at hz
    cases hz
    rfl
  | some u =>
    rw [ha x u hf] at hz
    cases hz
    rfl
theorem MapV.store (h : MapV w b f) {x : Int} (hx : I64 x) (v : Value) (hf : ∃ L : List Int, L.length ≤ 5000 ∧ ∀ x, (f x).isSome = true → x ∈ L) :
    ∃ w', (Instr.mapUpdate 69 (.map (some b)) (.int .i64 x) v).run Tryz.prog w = .ok () w' ∧ MapV w' b (fun y => if y = x then some v else f y) ∧ Chg w w' (· = b) ∧ w'.heap.size = w.heap.size := by
  obtain ⟨D, h, hh, ha⟩ := h
  obtain ⟨L, hL, hm⟩ := hf
  have hs := size_leV h L (fun y hy => hm y ((hh y).symm.trans hy))
  obtain ⟨w', hrun, ho, ht⟩ := h.store keyI Tryz.underlying69 (by unfold maxLen; omega) (keyOfI hx) (d := .held v) (ps := []) (val := v) rfl
  obtain ⟨h1, h2⟩ := turned_chg ht
  refine ⟨w', hrun, ⟨_, tightV ho, fun y => ?_, fun y c hc z => ?_⟩, h1, h2⟩
  · by_cases hy : y = x
    · subst hy
      simp [Maps.has_put_same h.isMap (keyLit y)]
    · rw [Maps.has_put_other (by simpa using hy), hh y]
      simp [hy]
  · by_cases hy : y = x
    · subst hy
      simp at hc
      rw [Maps.atKey_put_same h.isMap (keyLit y), hc]
    · rw [Maps.atKey_put_other (by simpa using hy)]
      simp [hy] at hc
      exact ha y c hc z
theorem MapV.del (h : MapV w b f) {x : Int} (hx : I64 x) (ty : TypeId) :
    ∃ w', (Builtin.delete_ #[69, 3] ty #[.map (some b), .int .i64 x]).run Tryz.prog w = .ok (.tuple #[]) w' ∧ MapV w' b (fun y => if y = x then none else f y) ∧ Chg w w' (· = b) ∧ w'.heap.size = w.heap.size := by
  obtain ⟨D, h, hh, ha⟩ := h
  obtain ⟨w', hrun, ho, ht⟩ := h.drop keyI Tryz.underlying69 (keyOfI hx) ty
  obtain ⟨h1, h2⟩ := turned_chg ht
  refine ⟨w', hrun, ⟨_, tightV ho, fun y => ?_, fun y c hc z => ?_⟩, h1, h2⟩
  · by_cases hy : y = x
    · subst hy
      simp [Maps.has_del_same]
    · rw [Maps.has_del_other (by simpa using hy), hh y]
      simp [hy]
  · by_cases hy : y = x
    · subst hy
      simp at hc
    · rw [Maps.atKey_del_other (by simpa using hy)]
      simp [hy] at hc
      exact ha y c hc z

section
variable {ops : Array Oper} {rest : List Oper} {o : Oper} {a : Act} {Q : Exit → Act → World → Prop}
theorem wp_lookV (hg : o.guard = none) (m x : Operand) (hop : o.op = Op.lookup 69 m x false) (b : Nat) (f : Int → Option Value) (k : Int) (c : Value) (hc : (match f k with | some v => v | none => .agg pend0) = c) (hm : a.eval m = .map (some b)) (hx : a.eval x = .int .i64 k)
    (h : MapV w b f) (hk : I64 k) (hK : wpList Tryz.prog ops Q rest (a.put o.dst c) w) : wpList Tryz.prog ops Q (o :: rest) a w := by
  subst hc
  refine wpList_plain hg fun K' hK' => ?_
  unfold Oper.wp
  simp [execOp, hop, hm, hx, h.look hk, Result.andThen]
  exact hK' _ _ hK
theorem wp_okV (hg : o.guard = none) (m x : Operand) (hop : o.op = Op.lookup 69 m x true) (b : Nat) (f : Int → Option Value) (k : Int) (c : Value) (r : Bool) (hc : (match f k with | some v => v | none => .agg pend0) = c) (hr : (f k).isSome = r) (hm : a.eval m = .map (some b)) (hx : a.eval x = .int .i64 k)
    (h : MapV w b f) (hk : I64 k) (hK : wpList Tryz.prog ops Q rest (a.put o.dst (.tuple #[c, .bool r])) w) : wpList Tryz.prog ops Q (o :: rest) a w := by
  subst hc hr
  refine wpList_plain hg fun K' hK' => ?_
  unfold Oper.wp
  simp [execOp, hop, hm, hx, h.look_ok hk, Result.andThen]
  exact hK' _ _ hK
theorem wp_storeV (hg : o.guard = none) (m x v : Operand) (hop : o.op = Op.mapUpdate 69 m x v) (b : Nat) (f : Int → Option Value) (k : Int) (d : Value) (hm : a.eval m = .map (some b)) (hx : a.eval x = .int .i64 k) (hv : a.eval v = d)
    (h : MapV w b f) (hk : I64 k) (hf : ∃ L : List Int, L.length ≤ 5000 ∧ ∀ x, (f x).isSome = true → x ∈ L)
    (hK : ∀ w', MapV w' b (fun y => if y = k then some d else f y) → Chg w w' (· = b) → w'.heap.size = w.heap.size → wpList Tryz.prog ops Q rest (a.put o.dst undef) w') : wpList Tryz.prog ops Q (o :: rest) a w := by
  refine wpList_plain hg fun K' hK' => ?_
  obtain ⟨w', hrun, r1, r2, r3⟩ := h.store hk d hf
  unfold Oper.wp
  simp [execOp, hop, hm, hx, hv, hrun, Result.andThen]
  exact hK' _ _ (hK w' r1 r2 r3)
theorem wp_delV (hg : o.guard = none) (m x : Operand) (hop : o.op = Op.call { callee := Callee.builtin Builtin.delete, args := #[m, x], argTypes := #[69, 3] }) (b : Nat) (f : Int → Option Value) (k : Int) (hm : a.eval m = .map (some b)) (hx : a.eval x = .int .i64 k)
    (h : MapV w b f) (hk : I64 k)
    (hK : ∀ w', MapV w' b (fun y => if y = k then none else f y) → Chg w w' (· = b) → w'.heap.size = w.heap.size → wpList Tryz.prog ops Q rest (a.put o.dst (.tuple #[])) w') : wpList Tryz.prog ops Q (o :: rest) a w := by
  refine wpList_plain hg fun K' hK' => ?_
  obtain ⟨w', hrun, r1, r2, r3⟩ := h.del hk o.type
  unfold Oper.wp
  simp [execOp, hop, resolve, invoke, builtin, hm, hx, hrun, Result.andThen]
  exact hK' _ _ (hK w' r1 r2 r3)
end

end Go.Proofs.YtgkanfmkohlmcaaGreat
