/-
  Maps from numbers in memory: sets of numbers, and maps from numbers to sets.
-/
import Derived.Test.YtamoepninddbcaaGreatBase
import Derived.Maps.RangeWalk
namespace Go.Proofs.YtamoepninddbcaaGreat
open Go.RowKit

theorem keyI : Maps.Keyed Tryz.prog 3 := Maps.int_keyed Tryz.underlying3
theorem keyOfI {x : Int} (h : I64 x) : keyOf Tryz.prog 3 (.int .i64 x) = some (.int .i64 x) := Maps.keyOf_int_mk Tryz.underlying3 (WalkArith.wf_i64 h)
theorem wfI {x : Int} (h : (Lit.int .i64 x).wf = true) : I64 x := by
  have h : IntKind.i64.min ≤ x ∧ x ≤ 9223372036854775807 := by simpa [Lit.wf] using h
  exact ⟨h.1, h.2⟩
theorem keyLit (x : Int) : WideAt.IsKeyLit (.int .i64 x) := trivial

/-- How an element that is a map reads: by its block. -/
def decM : Value → Option (DataW Unit × List MemPlace)
  | .map (some b) => some (.lit (.int .i64 b), [])
  | .map none => some (.lit (.int .i64 (-1)), [])
  | _ => none

theorem decM_inv {v : Value} {z : DataW Unit × List MemPlace} (h : decM v = some z) : ∃ b, v = .map b ∧ z = (.lit (.int .i64 (match b with | some b => (b : Int) | none => -1)), []) := by
  unfold decM at h
  split at h
  · cases h; exact ⟨_, rfl, rfl⟩
  · cases h; exact ⟨_, rfl, rfl⟩
  · cases h

/-- A block is a set of just these numbers. -/
def SetAt (w : World) (b : Nat) (S : Int → Prop) : Prop :=
  ∃ D : DataW Unit, w.ownsMap Tryz.prog 3 unitElem b (Maps.size D) D ∧ ∀ x, Maps.has D (.int .i64 x) = true ↔ S x
/-- A block is a map from numbers to maps. -/
def MapAt (w : World) (b : Nat) (f : Int → Option Nat) : Prop :=
  ∃ D : DataW Unit, w.ownsMap Tryz.prog 3 decM b (Maps.size D) D ∧ (∀ x, Maps.has D (.int .i64 x) = (f x).isSome) ∧ ∀ x c, f x = some c → ∀ z, D.atKey (.int .i64 x) z = .lit (.int .i64 c)

section
variable {R : Value → Option (DataW Unit × List MemPlace)} {w : World} {b n : Nat} {D : DataW Unit}

theorem tight (h : w.ownsMap Tryz.prog 3 R b n D) : w.ownsMap Tryz.prog 3 R b (Maps.size D) D := by
  obtain ⟨es, clock, hb, F, hs, hD⟩ := h
  refine ⟨es, clock, hb, F, ?_, hD⟩
  rw [hD]
  simp [Maps.size, length_sorted]

theorem nodup_len : ∀ (l L : List Int), l.Pairwise (· ≠ ·) → (∀ x, x ∈ l → x ∈ L) → l.length ≤ L.length
  | [], _, _, _ => Nat.zero_le _
  | x :: l, L, hp, hs => by
    obtain ⟨h1, h2⟩ := List.pairwise_cons.1 hp
    have hx : x ∈ L := hs x (by simp)
    have := nodup_len l (L.erase x) h2 (fun y hy => (List.mem_erase_of_ne (fun e => h1 y hy e.symm)).2 (hs y (by simp [hy])))
    rw [List.length_erase_of_mem hx] at this
    have := List.length_pos_of_mem hx
    simp
    omega

/-- Its keys, each once. -/
theorem keys_of (h : w.ownsMap Tryz.prog 3 R b n D) : ∃ l : List Int, l.Pairwise (· ≠ ·) ∧ l.length = Maps.size D ∧ (∀ x, x ∈ l ↔ Maps.has D (.int .i64 x) = true) ∧ ∀ x, x ∈ l → I64 x := by
  obtain ⟨es, hD, hp, hk⟩ := h.entries keyI
  have hint : ∀ p ∈ es, ∃ x, p.1 = .int .i64 x ∧ I64 x := by
    obtain ⟨es', clock, _, F, _, hD'⟩ := h
    rw [hD] at hD'
    cases hD'
    intro p hp
    obtain ⟨x, hx, rfl⟩ := List.mem_map.1 (mem_sorted.1 hp)
    obtain ⟨y, hy⟩ := F.reads x hx
    obtain ⟨k, _, hk, hw⟩ := Maps.keyOf_int_inv Tryz.underlying3 (WideElems.rd_key hy)
    rw [WideElems.rg_of hy]
    exact ⟨k, hk, wfI hw⟩
  refine ⟨es.map (fun p => match p.1 with | .int _ x => x | _ => 0), ?_, ?_, ?_, ?_⟩
  · rw [List.pairwise_map]
    refine List.Pairwise.imp_of_mem ?_ hp
    intro p q hp hq hne
    obtain ⟨x, hx, _⟩ := hint p hp
    obtain ⟨y, hy, _⟩ := hint q hq
    rw [hx, hy] at hne
    rw [hx, hy]
    simpa using hne
  · rw [hD]; simp [Maps.size]
  · intro x
    rw [hD, Maps.has_eq, List.any_eq_true]
    constructor
    · intro hx
      obtain ⟨p, hp, e⟩ := List.mem_map.1 hx
      obtain ⟨y, hy, _⟩ := hint p hp
      rw [hy] at e
      simp at e
      subst e
      exact ⟨p, hp, by rw [hy]; exact WideAt.sameKey_self (keyLit _)⟩
    · rintro ⟨p, hp, hs⟩
      have := WideAt.sameKey_eq hs
      exact List.mem_map.2 ⟨p, hp, by rw [this]⟩
  · intro x hx
    obtain ⟨p, hp, e⟩ := List.mem_map.1 hx
    obtain ⟨y, hy, hw⟩ := hint p hp
    rw [hy] at e
    simp at e
    rw [← e]
    exact hw

theorem size_le_of (h : w.ownsMap Tryz.prog 3 R b n D) (L : List Int) (hL : ∀ x, Maps.has D (.int .i64 x) = true → x ∈ L) : Maps.size D ≤ L.length := by
  obtain ⟨l, hp, hl, hm, _⟩ := keys_of h
  rw [← hl]
  exact nodup_len l L hp fun x hx => hL x ((hm x).1 hx)
theorem size_zero_iff (h : w.ownsMap Tryz.prog 3 R b n D) : Maps.size D = 0 ↔ ∀ x, Maps.has D (.int .i64 x) = false := by
  obtain ⟨l, hp, hl, hm, _⟩ := keys_of h
  rw [← hl]
  constructor
  · intro h0 x
    have := List.eq_nil_of_length_eq_zero h0
    subst this
    cases hx : Maps.has D (.int .i64 x)
    · rfl
    · exact absurd ((hm x).2 hx) (by simp)
  · intro h0
    cases l with
    | nil => rfl
    | cons x l =>
      have := (hm x).1 (by simp)
      rw [h0 x] at this
      cases this
theorem own_keep {w' : World} {ks : Nat → Prop} (h : w.ownsMap Tryz.prog 3 R b n D) (hc : Chg w w' ks) (hn : ¬ ks b) : w'.ownsMap Tryz.prog 3 R b n D := by
  obtain ⟨es, clock, hb, r⟩ := h
  exact ⟨es, clock, hc.keep hb hn, r⟩
end

theorem SetAt.lt {w : World} {b : Nat} {S : Int → Prop} (h : SetAt w b S) : b < w.heap.size := let ⟨_, h, _⟩ := h; h.lt
theorem MapAt.lt {w : World} {b : Nat} {f : Int → Option Nat} (h : MapAt w b f) : b < w.heap.size := let ⟨_, h, _⟩ := h; h.lt
theorem SetAt.keep {w w' : World} {b : Nat} {S : Int → Prop} {ks : Nat → Prop} (h : SetAt w b S) (hc : Chg w w' ks) (hn : ¬ ks b) : SetAt w' b S := let ⟨D, h, k⟩ := h; ⟨D, own_keep h hc hn, k⟩
theorem MapAt.keep {w w' : World} {b : Nat} {f : Int → Option Nat} {ks : Nat → Prop} (h : MapAt w b f) (hc : Chg w w' ks) (hn : ¬ ks b) : MapAt w' b f := let ⟨D, h, k⟩ := h; ⟨D, own_keep h hc hn, k⟩
theorem SetAt.cong {w : World} {b : Nat} {S T : Int → Prop} (h : SetAt w b S) (hs : ∀ x, S x ↔ T x) : SetAt w b T := let ⟨D, h, k⟩ := h; ⟨D, h, fun x => (k x).trans (hs x)⟩
theorem SetAt.i64 {w : World} {b : Nat} {S : Int → Prop} (h : SetAt w b S) {x : Int} (hx : S x) : I64 x := by
  obtain ⟨D, h, k⟩ := h
  obtain ⟨l, _, _, hm, hi⟩ := keys_of h
  exact hi x ((hm x).2 ((k x).2 hx))
theorem MapAt.i64 {w : World} {b : Nat} {f : Int → Option Nat} (h : MapAt w b f) {x : Int} (hx : (f x).isSome = true) : I64 x := by
  obtain ⟨D, h, k, _⟩ := h
  obtain ⟨l, _, _, hm, hi⟩ := keys_of h
  exact hi x ((hm x).2 ((k x).trans hx))
theorem SetAt.made (w : World) : SetAt (w.alloc (.map #[] 0)) w.heap.size (fun _ => False) :=
  ⟨.map [], World.ownsMap_made w Tryz.prog 3 unitElem, fun x => by simp [Maps.has]⟩
theorem MapAt.made (w : World) : MapAt (w.alloc (.map #[] 0)) w.heap.size (fun _ => none) :=
  ⟨.map [], World.ownsMap_made w Tryz.prog 3 decM, fun x => by simp [Maps.has], fun x c h => by cases h⟩

theorem turned_chg {w w' : World} {b : Nat} (h : w.mapTurned w' b) : Chg w w' (· = b) ∧ w'.heap.size = w.heap.size := by
  refine ⟨?_, ?_⟩
  · have := Chg.grown h.grown
    exact this.mono fun j _ e => by simpa using e
  · obtain ⟨es, clock, es', clock', hb, rfl⟩ := h
    simp [ChangeMaps.setBlock]

theorem zeroU (w : World) : (zeroValue 128).run Tryz.prog w = .ok (.agg #[]) w := by kernel_rfl
theorem zeroS (w : World) : (zeroValue 121).run Tryz.prog w = .ok (.map none) w := by kernel_rfl

/-- 's[n]' of a map from numbers to sets. -/
theorem MapAt.look {w : World} {b : Nat} {f : Int → Option Nat} (h : MapAt w b f) {x : Int} (hx : I64 x) : (Instr.lookup 115 (.map (some b)) (.int .i64 x) false).run Tryz.prog w = .ok (.map (f x)) w := by
  obtain ⟨D, h, hh, ha⟩ := h
  obtain ⟨v, ps, hrun, hv⟩ := h.lookup keyI Tryz.underlying115 (zeroS w) (zd := .lit (.int .i64 (-1))) (zp := []) rfl (keyOfI hx)
  rw [hrun]
  obtain ⟨c, rfl, hz⟩ := decM_inv hv
  have hz := congrArg Prod.fst hz
  simp only at hz
  cases hf : f x with
  | none =>
    have h0 : Maps.has D (.int .i64 x) = false := by rw [hh x, hf]; rfl
    rw [Maps.atKey_of_not_has h0] at hz
    cases c with
    | none => rfl
    | some c => simp at hz
  | some d =>
    rw [ha x d hf] at hz
    cases c with
    | none => simp at hz
    | some c =>
      have : (d : Int) = c := by simpa using hz
      have : d = c := by omega
      rw [this]

theorem SetAt.store {w : World} {b : Nat} {S : Int → Prop} (h : SetAt w b S) {x : Int} (hx : I64 x) (hf : ∃ L : List Int, L.length ≤ 5000 ∧ ∀ x, S x → x ∈ L) :
    ∃ w', (Instr.mapUpdate 121 (.map (some b)) (.int .i64 x) (.agg #[])).run Tryz.prog w = .ok () w' ∧ SetAt w' b (fun y => y = x ∨ S y) ∧ Chg w w' (· = b) ∧ w'.heap.size = w.heap.size := by
  obtain ⟨D, h, hh⟩ := h
  obtain ⟨L, hL, hm⟩ := hf
  have hs := size_le_of h L (fun y hy => hm y ((hh y).1 hy))
  obtain ⟨w', hrun, ho, ht⟩ := h.store keyI Tryz.underlying121 (by unfold maxLen; omega) (keyOfI hx) (unitElem_mk (H := Unit))
  obtain ⟨h1, h2⟩ := turned_chg ht
  refine ⟨w', hrun, ⟨_, tight ho, fun y => ?_⟩, h1, h2⟩
  by_cases hy : y = x
  · subst hy
    simp [Maps.has_put_same h.isMap (keyLit y)]
  · rw [Maps.has_put_other (by simpa using hy), hh y]
    simp [hy]
theorem MapAt.store {w : World} {b : Nat} {f : Int → Option Nat} (h : MapAt w b f) {x : Int} (hx : I64 x) (d : Nat) (hf : ∃ L : List Int, L.length ≤ 5000 ∧ ∀ x, (f x).isSome = true → x ∈ L) :
    ∃ w', (Instr.mapUpdate 115 (.map (some b)) (.int .i64 x) (.map (some d))).run Tryz.prog w = .ok () w' ∧ MapAt w' b (fun y => if y = x then some d else f y) ∧ Chg w w' (· = b) ∧ w'.heap.size = w.heap.size := by
  obtain ⟨D, h, hh, ha⟩ := h
  obtain ⟨L, hL, hm⟩ := hf
  have hs := size_le_of h L (fun y hy => hm y ((hh y).symm.trans hy))
  obtain ⟨w', hrun, ho, ht⟩ := h.store keyI Tryz.underlying115 (by unfold maxLen; omega) (keyOfI hx) (d := .lit (.int .i64 d)) (ps := []) (val := .map (some d)) rfl
  obtain ⟨h1, h2⟩ := turned_chg ht
  refine ⟨w', hrun, ⟨_, tight ho, fun y => ?_, fun y c hc z => ?_⟩, h1, h2⟩
  · by_cases hy : y = x
    · subst hy
      simp [Maps.has_put_same h.isMap (keyLit y)]
    · rw [Maps.has_put_other (by simpa using hy), hh y]
      simp [hy]
  · by_cases hy : y = x
    · subst hy
      simp at hc
      rw [Maps.atKey_put_same h.isMap (keyLit y), hc]
    · rw [Maps.atKey_put_other (by simpa using hy)]
      simp [hy] at hc
      exact ha y c hc z
theorem SetAt.del {w : World} {b : Nat} {S : Int → Prop} (h : SetAt w b S) {x : Int} (hx : I64 x) (ty : TypeId) :
    ∃ w', (Builtin.delete_ #[121, 3] ty #[.map (some b), .int .i64 x]).run Tryz.prog w = .ok (.tuple #[]) w' ∧ SetAt w' b (fun y => S y ∧ y ≠ x) ∧ Chg w w' (· = b) ∧ w'.heap.size = w.heap.size := by
  obtain ⟨D, h, hh⟩ := h
  obtain ⟨w', hrun, ho, ht⟩ := h.drop keyI Tryz.underlying121 (keyOfI hx) ty
  obtain ⟨h1, h2⟩ := turned_chg ht
  refine ⟨w', hrun, ⟨_, tight ho, fun y => ?_⟩, h1, h2⟩
  by_cases hy : y = x
  · subst hy
    simp [Maps.has_del_same]
  · rw [Maps.has_del_other (by simpa using hy), hh y]
    simp [hy]
theorem MapAt.del {w : World} {b : Nat} {f : Int → Option Nat} (h : MapAt w b f) {x : Int} (hx : I64 x) (ty : TypeId) :
    ∃ w', (Builtin.delete_ #[115, 3] ty #[.map (some b), .int .i64 x]).run Tryz.prog w = .ok (.tuple #[]) w' ∧ MapAt w' b (fun y => if y = x then none else f y) ∧ Chg w w' (· = b) ∧ w'.heap.size = w.heap.size := by
  obtain ⟨D, h, hh, ha⟩ := h
  obtain ⟨w', hrun, ho, ht⟩ := h.drop keyI Tryz.underlying115 (keyOfI hx) ty
  obtain ⟨h1, h2⟩ := turned_chg ht
  refine ⟨w', hrun, ⟨_, tight ho, fun y => ?_, fun y c hc z => ?_⟩, h1, h2⟩
  · by_cases hy : y = x
    · subst hy
      simp [Maps.has_del_same]
    · rw [Maps.has_del_other (by simpa using hy), hh y]
      simp [hy]
  · by_cases hy : y = x
    · subst hy
      simp at hc
    · rw [Maps.atKey_del_other (by simpa using hy)]
      simp [hy] at hc
      exact ha y c hc z
/-- 'len' of a set, of no set. -/
theorem SetAt.len {w : World} {b : Nat} {S : Int → Prop} (h : SetAt w b S) (ty : TypeId) : ∃ s : Nat, (Builtin.len_ #[121] ty #[.map (some b)]).run Tryz.prog w = .ok (.int .i64 s) w ∧ (s = 0 ↔ ∀ x, ¬ S x) := by
  obtain ⟨D, h, hh⟩ := h
  refine ⟨Maps.size D, h.len Tryz.underlying121 ty, ?_⟩
  rw [size_zero_iff h]
  constructor
  · intro k x hx
    exact absurd (k x) (by rw [(hh x).2 hx]; simp)
  · intro k x
    cases hx : Maps.has D (.int .i64 x)
    · rfl
    · exact absurd ((hh x).1 hx) (k x)

section
variable {ops : Array Oper} {rest : List Oper} {o : Oper} {a : Act} {Q : Exit → Act → World → Prop} {w : World}

theorem wp_look (hg : o.guard = none) (m x : Operand) (hop : o.op = Op.lookup 115 m x false) (b : Nat) (f : Int → Option Nat) (k : Int) (c : Option Nat) (hc : f k = c) (hm : a.eval m = .map (some b)) (hx : a.eval x = .int .i64 k)
    (h : MapAt w b f) (hk : I64 k) (hK : wpList Tryz.prog ops Q rest (a.put o.dst (.map c)) w) : wpList Tryz.prog ops Q (o :: rest) a w := by
  subst hc
  refine wpList_plain hg fun K' hK' => ?_
  unfold Oper.wp
  simp [execOp, hop, hm, hx, h.look hk, Result.andThen]
  exact hK' _ _ hK
theorem wp_ok (hg : o.guard = none) (m x : Operand) (hop : o.op = Op.lookup 121 m x true) (b : Nat) (S : Int → Prop) (k : Int) (hm : a.eval m = .map (some b)) (hx : a.eval x = .int .i64 k)
    (h : SetAt w b S) (hk : I64 k) (hK : ∀ r : Bool, (r = true ↔ S k) → wpList Tryz.prog ops Q rest (a.put o.dst (.tuple #[.agg #[], .bool r])) w) : wpList Tryz.prog ops Q (o :: rest) a w := by
  obtain ⟨D, h, hh⟩ := h
  exact wpList_lookup_own_unit w hg m x 121 hop 3 128 keyI Tryz.underlying121 (zeroU w) b _ D hm h _ _ hx (keyOfI hk) (hK _ (hh k))
theorem wp_storeS (hg : o.guard = none) (m x v : Operand) (hop : o.op = Op.mapUpdate 121 m x v) (b : Nat) (S : Int → Prop) (k : Int) (hm : a.eval m = .map (some b)) (hx : a.eval x = .int .i64 k) (hv : a.eval v = .agg #[])
    (h : SetAt w b S) (hk : I64 k) (hf : ∃ L : List Int, L.length ≤ 5000 ∧ ∀ x, S x → x ∈ L)
    (hK : ∀ w', SetAt w' b (fun y => y = k ∨ S y) → Chg w w' (· = b) → w'.heap.size = w.heap.size → wpList Tryz.prog ops Q rest (a.put o.dst undef) w') : wpList Tryz.prog ops Q (o :: rest) a w := by
  refine wpList_plain hg fun K' hK' => ?_
  obtain ⟨w', hrun, r1, r2, r3⟩ := h.store hk hf
  unfold Oper.wp
  simp [execOp, hop, hm, hx, hv, hrun, Result.andThen]
  exact hK' _ _ (hK w' r1 r2 r3)
theorem wp_storeM (hg : o.guard = none) (m x v : Operand) (hop : o.op = Op.mapUpdate 115 m x v) (b : Nat) (f : Int → Option Nat) (k : Int) (d : Nat) (hm : a.eval m = .map (some b)) (hx : a.eval x = .int .i64 k) (hv : a.eval v = .map (some d))
    (h : MapAt w b f) (hk : I64 k) (hf : ∃ L : List Int, L.length ≤ 5000 ∧ ∀ x, (f x).isSome = true → x ∈ L)
    (hK : ∀ w', MapAt w' b (fun y => if y = k then some d else f y) → Chg w w' (· = b) → w'.heap.size = w.heap.size → wpList Tryz.prog ops Q rest (a.put o.dst undef) w') : wpList Tryz.prog ops Q (o :: rest) a w := by
  refine wpList_plain hg fun K' hK' => ?_
  obtain ⟨w', hrun, r1, r2, r3⟩ := h.store hk d hf
  unfold Oper.wp
  simp [execOp, hop, hm, hx, hv, hrun, Result.andThen]
  exact hK' _ _ (hK w' r1 r2 r3)
theorem wp_delS (hg : o.guard = none) (m x : Operand) (hop : o.op = Op.call { callee := Callee.builtin Builtin.delete, args := #[m, x], argTypes := #[121, 3] }) (b : Nat) (S : Int → Prop) (k : Int) (hm : a.eval m = .map (some b)) (hx : a.eval x = .int .i64 k)
    (h : SetAt w b S) (hk : I64 k)
    (hK : ∀ w', SetAt w' b (fun y => S y ∧ y ≠ k) → Chg w w' (· = b) → w'.heap.size = w.heap.size → wpList Tryz.prog ops Q rest (a.put o.dst (.tuple #[])) w') : wpList Tryz.prog ops Q (o :: rest) a w := by
  refine wpList_plain hg fun K' hK' => ?_
  obtain ⟨w', hrun, r1, r2, r3⟩ := h.del hk o.type
  unfold Oper.wp
  simp [execOp, hop, resolve, invoke, builtin, hm, hx, hrun, Result.andThen]
  exact hK' _ _ (hK w' r1 r2 r3)
theorem wp_delM (hg : o.guard = none) (m x : Operand) (hop : o.op = Op.call { callee := Callee.builtin Builtin.delete, args := #[m, x], argTypes := #[115, 3] }) (b : Nat) (f : Int → Option Nat) (k : Int) (hm : a.eval m = .map (some b)) (hx : a.eval x = .int .i64 k)
    (h : MapAt w b f) (hk : I64 k)
    (hK : ∀ w', MapAt w' b (fun y => if y = k then none else f y) → Chg w w' (· = b) → w'.heap.size = w.heap.size → wpList Tryz.prog ops Q rest (a.put o.dst (.tuple #[])) w') : wpList Tryz.prog ops Q (o :: rest) a w := by
  refine wpList_plain hg fun K' hK' => ?_
  obtain ⟨w', hrun, r1, r2, r3⟩ := h.del hk o.type
  unfold Oper.wp
  simp [execOp, hop, resolve, invoke, builtin, hm, hx, hrun, Result.andThen]
  exact hK' _ _ (hK w' r1 r2 r3)
/-- 'len' of what a map from numbers to sets has at a number: nought, if there is nothing in it. -/
theorem wp_len (hg : o.guard = none) (m : Operand) (hop : o.op = Op.call { callee := Callee.builtin Builtin.len, args := #[m], argTypes := #[121] }) (c : Option Nat) (S : Int → Prop) (hm : a.eval m = .map c)
    (h : ∀ b, c = some b → SetAt w b S) (h0 : c = none → ∀ x, ¬ S x)
    (hK : ∀ s : Nat, (s = 0 ↔ ∀ x, ¬ S x) → wpList Tryz.prog ops Q rest (a.put o.dst (.int .i64 s)) w) : wpList Tryz.prog ops Q (o :: rest) a w := by
  refine wpList_plain hg fun K' hK' => ?_
  unfold Oper.wp
  cases c with
  | none =>
    simp [execOp, hop, resolve, invoke, builtin, hm, Maps.len_nil (w := w) Tryz.underlying121 o.type, Result.andThen]
    exact hK' _ _ (hK 0 (by simpa using h0 rfl))
  | some b =>
    obtain ⟨s, hrun, hs⟩ := (h b rfl).len o.type
    simp [execOp, hop, resolve, invoke, builtin, hm, hrun, Result.andThen]
    exact hK' _ _ (hK s hs)
end

/-- A range over a set, or over no set, under way: which are still to come. -/
def RangeS (w : World) (c : Option Nat) (r : Nat) (S left : Int → Prop) (cnt : Nat) : Prop :=
  match c with
  | some b => ∃ (D : DataW Unit) (lf : Lit → Bool), w.ranges Tryz.prog 3 unitElem b r (Maps.size D) D lf cnt ∧ (∀ x, Maps.has D (.int .i64 x) = true ↔ S x) ∧ ∀ x, lf (.int .i64 x) = true ↔ left x
  | none => (∃ n0 s0 n1, w.heap[r]? = some (.mapIter none n0 s0 n1)) ∧ (∀ x, ¬ S x) ∧ (∀ x, ¬ left x) ∧ cnt = 0
/-- How many are still to come. -/
def leftN (w : World) (c : Option Nat) (r : Nat) : Nat := match c with | some b => w.rangeLeft b r | none => 0
theorem RangeS.leftN {w : World} {c : Option Nat} {r : Nat} {S left : Int → Prop} {cnt : Nat} (h : RangeS w c r S left cnt) : leftN w c r = cnt := by
  cases c with
  | none => exact h.2.2.2.symm
  | some b => obtain ⟨D, lf, h, _⟩ := h; exact h.left_eq
theorem RangeS.lt {w : World} {c : Option Nat} {r : Nat} {S left : Int → Prop} {cnt : Nat} (h : RangeS w c r S left cnt) : r < w.heap.size := by
  cases c with
  | none => obtain ⟨⟨_, _, _, h⟩, _⟩ := h; exact slt h
  | some b => obtain ⟨D, lf, h, _⟩ := h; exact h.lt
theorem RangeS.keep {w w' : World} {c : Option Nat} {r : Nat} {S left : Int → Prop} {cnt : Nat} {ks : Nat → Prop} (h : RangeS w c r S left cnt) (hc : Chg w w' ks) (hb : ∀ b, c = some b → ¬ ks b) (hr : ¬ ks r) : RangeS w' c r S left cnt := by
  cases c with
  | none => obtain ⟨⟨n0, s0, n1, h⟩, k⟩ := h; exact ⟨⟨n0, s0, n1, hc.keep h hr⟩, k⟩
  | some b =>
    obtain ⟨D, lf, h, k⟩ := h
    have hb := hb b rfl
    obtain ⟨es, clock, since, seen, c0, e1, F, hs, hD, e2, rest⟩ := h
    exact ⟨D, lf, ⟨es, clock, since, seen, c0, hc.keep e1 hb, F, hs, hD, hc.keep e2 hr, rest⟩, k⟩
theorem RangeS.cong {w : World} {c : Option Nat} {r : Nat} {S left left' : Int → Prop} {cnt : Nat} (h : RangeS w c r S left cnt) (hl : ∀ x, left x ↔ left' x) : RangeS w c r S left' cnt := by
  cases c with
  | none => exact ⟨h.1, h.2.1, fun x hx => h.2.2.1 x ((hl x).2 hx), h.2.2.2⟩
  | some b => obtain ⟨D, lf, h, k, l⟩ := h; exact ⟨D, lf, h, k, fun x => (l x).trans (hl x)⟩

section
variable {ops : Array Oper} {rest : List Oper} {o : Oper} {a : Act} {Q : Exit → Act → World → Prop} {w : World}
theorem wp_rangeS (hg : o.guard = none) (m : Operand) (hop : o.op = Op.range 121 m) (c : Option Nat) (S : Int → Prop) (hm : a.eval m = .map c) (h : ∀ b, c = some b → SetAt w b S) (h0 : c = none → ∀ x, ¬ S x)
    (hK : ∀ w' cnt, RangeS w' c w.heap.size S S cnt → Chg w w' No → w'.heap.size = w.heap.size + 1 → wpList Tryz.prog ops Q rest (a.put o.dst (.pointer (some ⟨w.heap.size, 0, none⟩))) w') : wpList Tryz.prog ops Q (o :: rest) a w := by
  cases c with
  | none =>
    refine wpList_plain hg fun K' hK' => ?_
    unfold Oper.wp
    simp [execOp, hop, hm, run_range_nilMap w 121 3 128 Tryz.underlying121, Result.andThen]
    exact hK' _ _ (hK _ 0 ⟨⟨_, _, _, heap_alloc_new _ _⟩, h0 rfl, h0 rfl, rfl⟩ (Chg.alloc _ _ _) (by simp))
  | some b =>
    obtain ⟨D, h, hh⟩ := h b rfl
    refine wpList_range_own w hg m 121 hop 3 128 keyI Tryz.underlying121 unitElem b _ D hm h ?_
    intro w' hr hgr hs
    exact hK w' _ ⟨D, _, hr, hh, hh⟩ ((Chg.grown hgr).mono fun j _ e => by cases e) hs
theorem wp_nextS (hg : o.guard = none) (it : Operand) (hop : o.op = Op.next it false) (c : Option Nat) (r : Nat) (S left : Int → Prop) (cnt : Nat) (hit : a.eval it = .pointer (some ⟨r, 0, none⟩)) (h : RangeS w c r S left cnt)
    (hDone : (∀ x, ¬ left x) → wpList Tryz.prog ops Q rest (a.put o.dst (.tuple #[.bool false])) w)
    (hMore : ∀ (x : Int) (w' : World) (cnt' : Nat), left x → S x → I64 x → RangeS w' c r S (fun y => left y ∧ y ≠ x) cnt' → cnt' < cnt → Chg w w' (· = r) → w'.heap.size = w.heap.size →
      (Instr.entry (.pointer (some ⟨r, 0, none⟩))).run Tryz.prog w' = .ok (.tuple #[.int .i64 x, .agg #[]]) w' → wpList Tryz.prog ops Q rest (a.put o.dst (.tuple #[.bool true, .int .i64 x, .agg #[]])) w') : wpList Tryz.prog ops Q (o :: rest) a w := by
  cases c with
  | none =>
    obtain ⟨⟨n0, s0, n1, hr⟩, _, hl, _⟩ := h
    refine wpList_plain hg fun K' hK' => ?_
    unfold Oper.wp
    have hrun : (Instr.next (.pointer (some ⟨r, 0, none⟩)) false o.type).run Tryz.prog w = .ok (.tuple #[.bool false]) w := by
      simp only [Instr.next, getObj, Sem.run_bind, Sem.run, hr, Result.andThen]
      rfl
    simp [execOp, hop, hit, hrun, Result.andThen]
    exact hK' _ _ (hDone hl)
  | some b =>
    obtain ⟨D, lf, h, hh, hl⟩ := h
    refine wpList_next_ranges w hg it hop 3 keyI unitElem (Value.int .i64) (fun _ : Unit => .agg #[]) (fun key kl hkey => by obtain ⟨x, rfl, _⟩ := Maps.keyOf_int_inv Tryz.underlying3 hkey; exact ⟨x, rfl⟩) (fun v y hv => ⟨(), (unitElem_inv hv).1⟩)
      b r _ D lf cnt hit h (fun _ k => hDone fun x hx => absurd ((hl x).2 hx) (by rw [k]; simp)) ?_
    intro x _ kl y w' cnt' hkey hlk hv hat hrg hlt hgr hsz hen
    obtain ⟨x', ex, rfl, hwx⟩ := Maps.keyOf_int_inv Tryz.underlying3 hkey
    cases ex
    have hx : left x := (hl x).1 hlk
    have hhas : Maps.has D (.int .i64 x) = true := Maps.has_true_of_atKey hat
    refine hMore x w' cnt' hx ((hh x).1 hhas) (wfI hwx) ⟨D, _, hrg, hh, fun y => ?_⟩ hlt ((Chg.grown hgr).mono fun j _ e => by simpa using e) hsz hen
    by_cases hy : y = x
    · subst hy
      simp [WideAt.sameKey_self (keyLit y)]
    · have hk : (Lit.int .i64 y).sameKey (.int .i64 x) = false := Maps.sameKey_ne (by simpa using hy)
      simp [hk, hl y, hy]
end

end Go.Proofs.YtamoepninddbcaaGreat
