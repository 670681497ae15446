/-
  Sets of numbers in memory.
-/
import Derived.Test.YtpmignilhoihnaaGreatC0
import Derived.Maps.RangeWalk
namespace Go.Proofs.YtpmignilhoihnaaGreat
open Go.RowKit

theorem keyI : Maps.Keyed Tryz.prog 3 := Maps.int_keyed Tryz.underlying3
theorem keyOfI {x : Int} (h : I64 x) : keyOf Tryz.prog 3 (.int .i64 x) = some (.int .i64 x) := Maps.keyOf_int_mk Tryz.underlying3 (WalkArith.wf_i64 h)
theorem wfI {x : Int} (h : (Lit.int .i64 x).wf = true) : I64 x := by
  have h : IntKind.i64.min ≤ x ∧ x ≤ 9223372036854775807 := by simpa [Lit.wf] using h
  exact ⟨h.1, h.2⟩
theorem keyLit (x : Int) : WideAt.IsKeyLit (.int .i64 x) := trivial

/-- A block is a set of just these numbers. -/
def SetAt (w : World) (b : Nat) (S : Int → Prop) : Prop :=
  ∃ D : DataW Unit, w.ownsMap Tryz.prog 3 unitElem b (Maps.size D) D ∧ ∀ x, Maps.has D (.int .i64 x) = true ↔ S x
section
variable {R : Value → Option (DataW Unit × List MemPlace)} {w : World} {b n : Nat} {D : DataW Unit}

theorem tight (h : w.ownsMap Tryz.prog 3 R b n D) : w.ownsMap Tryz.prog 3 R b (Maps.size D) D := by
  obtain ⟨es, clock, hb, F, hs, hD⟩ := h
  refine ⟨es, clock, hb, F, ?_, hD⟩
  rw [hD]
  simp [Maps.size, length_sorted]

theorem nodup_len : ∀ (l L : List Int), l.Pairwise (· ≠ ·) → (∀ x, x ∈ l → x ∈ L) → l.length ≤ L.length
  | [], _, _, _ => Nat.zero_le _
  | x :: l, L, hp, hs => by
    obtain ⟨h1, h2⟩ := List.pairwise_cons.1 hp
    have hx : x ∈ L := hs x (by simp)
    have := nodup_len l (L.erase x) h2 (fun y hy => (List.mem_erase_of_ne (fun e => h1 y hy e.symm)).2 (hs y (by simp [hy])))
    rw [List.length_erase_of_mem hx] at this
    have := List.length_pos_of_mem hx
    simp
    omega

/-- Its keys, each once. -/
theorem keys_of (h : w.ownsMap Tryz.prog 3 R b n D) : ∃ l : List Int, l.Pairwise (· ≠ ·) ∧ l.length = Maps.size D ∧ (∀ x, x ∈ l ↔ Maps.has D (.int .i64 x) = true) ∧ ∀ x, x ∈ l → I64 x := by
  obtain ⟨es, hD, hp, hk⟩ := h.entries keyI
  have hint : ∀ p ∈ es, ∃ x, p.1 = .int .i64 x ∧ I64 x := by
    obtain ⟨es', clock, _, F, _, hD'⟩ := h
    rw [hD] at hD'
    cases hD'
    intro p hp
    obtain ⟨x, hx, rfl⟩ := List.mem_map.1 (mem_sorted.1 hp)
    obtain ⟨y, hy⟩ := F.reads x hx
    obtain ⟨k, _, hk, hw⟩ := Maps.keyOf_int_inv Tryz.underlying3 (WideElems.rd_key hy)
    rw [WideElems.rg_of hy]
    exact ⟨k, hk, wfI hw⟩
  refine ⟨es.map (fun p => match p.1 with | .int _ x => x | _ => 0), ?_, ?_, ?_, ?_⟩
  · rw [List.pairwise_map]
    refine List.Pairwise.imp_of_mem ?_ hp
    intro p q hp hq hne
    obtain ⟨x, hx, _⟩ := hint p hp
    obtain ⟨y, hy, _⟩ := hint q hq
    rw [hx, hy] at hne
    rw [hx, hy]
    simpa using hne
  · rw [hD]; simp [Maps.size]
  · intro x
    rw [hD, Maps.has_eq, List.any_eq_true]
    constructor
    · intro hx
      obtain ⟨p, hp, e⟩ := List.mem_map.1 hx
      obtain ⟨y, hy, _⟩ := hint p hp
      rw [hy] at e
      simp at e
      subst e
      exact ⟨p, hp, by rw [hy]; exact WideAt.sameKey_self (keyLit _)⟩
    · rintro ⟨p, hp, hs⟩
      have := WideAt.sameKey_eq hs
      exact List.mem_map.2 ⟨p, hp, by rw [this]⟩
  · intro x hx
    obtain ⟨p, hp, e⟩ := List.mem_map.1 hx
    obtain ⟨y, hy, hw⟩ := hint p hp
    rw [hy] at e
    simp at e
    rw [← e]
    exact hw

theorem size_le_of (h : w.ownsMap Tryz.prog 3 R b n D) (L : List Int) (hL : ∀ x, Maps.has D (.int .i64 x) = true → x ∈ L) : Maps.size D ≤ L.length := by
  obtain ⟨l, hp, hl, hm, _⟩ := keys_of h
  rw [← hl]
  exact nodup_len l L hp fun x hx => hL x ((hm x).1 hx)
theorem size_zero_iff (h : w.ownsMap Tryz.prog 3 R b n D) : Maps.size D = 0 ↔ ∀ x, Maps.has D (.int .i64 x) = false := by
  obtain ⟨l, hp, hl, hm, _⟩ := keys_of h
  rw [← hl]
  constructor
  · intro h0 x
    have := List.eq_nil_of_length_eq_zero h0
    subst this
    cases hx : Maps.has D (.int .i64 x)
    · rfl
    · exact absurd ((hm x).2 hx) (by simp)
  · intro h0
    cases l with
    | nil => rfl
    | cons x l =>
      have := (hm x).1 (by simp)
      rw [h0 x] at this
      cases this
theorem own_keep {w' : World} {ks : Nat → Prop} (h : w.ownsMap Tryz.prog 3 R b n D) (hc : Chg w w' ks) (hn : ¬ ks b) : w'.ownsMap Tryz.prog 3 R b n D := by
  obtain ⟨es, clock, hb, r⟩ := h
  exact ⟨es, clock, hc.keep hb hn, r⟩
end

theorem SetAt.lt {w : World} {b : Nat} {S : Int → Prop} (h : SetAt w b S) : b < w.heap.size := let ⟨_, h, _⟩ := h; h.lt
theorem SetAt.keep {w w' : World} {b : Nat} {S : Int → Prop} {ks : Nat → Prop} (h : SetAt w b S) (hc : Chg w w' ks) (hn : ¬ ks b) : SetAt w' b S := let ⟨D, h, k⟩ := h; ⟨D, own_keep h hc hn, k⟩
theorem SetAt.cong {w : World} {b : Nat} {S T : Int → Prop} (h : SetAt w b S) (hs : ∀ x, S x ↔ T x) : SetAt w b T := let ⟨D, h, k⟩ := h; ⟨D, h, fun x => (k x).trans (hs x)⟩
theorem SetAt.i64 {w : World} {b : Nat} {S : Int → Prop} (h : SetAt w b S) {x : Int} (hx : S x) : I64 x := by
  obtain ⟨D, h, k⟩ := h
  obtain ⟨l, _, _, hm, hi⟩ := keys_of h
  exact hi x ((hm x).2 ((k x).2 hx))
theorem SetAt.made (w : World) : SetAt (w.alloc (.map #[] 0)) w.heap.size (fun _ => False) :=
  ⟨.map [], World.ownsMap_made w Tryz.prog 3 unitElem, fun x => by simp [Maps.has]⟩
theorem turned_chg {w w' : World} {b : Nat} (h : w.mapTurned w' b) : Chg w w' (· = b) ∧ w'.heap.size = w.heap.size := by
  refine ⟨?_, ?_⟩
  · have := Chg.grown h.grown
    exact this.mono fun j _ e => by simpa using e
  · obtain ⟨es, clock, es', clock', hb, rfl⟩ := h
    simp [ChangeMaps.setBlock]

theorem zeroU (w : World) : (zeroValue 92).run Tryz.prog w = .ok (.agg #[]) w := by kernel_rfl
theorem SetAt.store {w : World} {b : Nat} {S : Int → Prop} (h : SetAt w b S) {x : Int} (hx : I64 x) (hf : ∃ L : List Int, L.length ≤ 5000 ∧ ∀ x, S x → x ∈ L) :
    ∃ w', (Instr.mapUpdate 56 (.map (some b)) (.int .i64 x) (.agg #[])).run Tryz.prog w = .ok () w' ∧ SetAt w' b (fun y => y = x ∨ S y) ∧ Chg w w' (· = b) ∧ w'.heap.size = w.heap.size := by
  obtain ⟨D, h, hh⟩ := h
  obtain ⟨L, hL, hm⟩ := hf
  have hs := size_le_of h L (fun y hy => hm y ((hh y).1 hy))
  obtain ⟨w', hrun, ho, ht⟩ := h.store keyI Tryz.underlying56 (by unfold maxLen; omega) (keyOfI hx) (unitElem_mk (H := Unit))
  obtain ⟨h1, h2⟩ := turned_chg ht
  refine ⟨w', hrun, ⟨_, tight ho, fun y => ?_⟩, h1, h2⟩
  by_cases hy : y = x
  · subst hy
    simp [Maps.has_put_same h.isMap (keyLit y)]
  · rw [Maps.has_put_other (by simpa using hy), hh y]
    simp [hy]
theorem SetAt.del {w : World} {b : Nat} {S : Int → Prop} (h : SetAt w b S) {x : Int} (hx : I64 x) (ty : TypeId) :
    ∃ w', (Builtin.delete_ #[56, 3] ty #[.map (some b), .int .i64 x]).run Tryz.prog w = .ok (.tuple #[]) w' ∧ SetAt w' b (fun y => S y ∧ y ≠ x) ∧ Chg w w' (· = b) ∧ w'.heap.size = w.heap.size := by
  obtain ⟨D, h, hh⟩ := h
  obtain ⟨w', hrun, ho, ht⟩ := h.drop keyI Tryz.underlying56 (keyOfI hx) ty
  obtain ⟨h1, h2⟩ := turned_chg ht
  refine ⟨w', hrun, ⟨_, tight ho, fun y => ?_⟩, h1, h2⟩
  by_cases hy : y = x
  · subst hy
    simp [Maps.has_del_same]
  · rw [Maps.has_del_other (by simpa using hy), hh y]
    simp [hy]
section
variable {ops : Array Oper} {rest : List Oper} {o : Oper} {a : Act} {Q : Exit → Act → World → Prop} {w : World}

theorem wp_ok (hg : o.guard = none) (m x : Operand) (hop : o.op = Op.lookup 56 m x true) (b : Nat) (S : Int → Prop) (k : Int) (hm : a.eval m = .map (some b)) (hx : a.eval x = .int .i64 k)
    (h : SetAt w b S) (hk : I64 k) (hK : ∀ r : Bool, (r = true ↔ S k) → wpList Tryz.prog ops Q rest (a.put o.dst (.tuple #[.agg #[], .bool r])) w) : wpList Tryz.prog ops Q (o :: rest) a w := by
  obtain ⟨D, h, hh⟩ := h
  exact wpList_lookup_own_unit w hg m x 56 hop 3 92 keyI Tryz.underlying56 (zeroU w) b _ D hm h _ _ hx (keyOfI hk) (hK _ (hh k))
theorem wp_storeS (hg : o.guard = none) (m x v : Operand) (hop : o.op = Op.mapUpdate 56 m x v) (b : Nat) (S : Int → Prop) (k : Int) (hm : a.eval m = .map (some b)) (hx : a.eval x = .int .i64 k) (hv : a.eval v = .agg #[])
    (h : SetAt w b S) (hk : I64 k) (hf : ∃ L : List Int, L.length ≤ 5000 ∧ ∀ x, S x → x ∈ L)
    (hK : ∀ w', SetAt w' b (fun y => y = k ∨ S y) → Chg w w' (· = b) → w'.heap.size = w.heap.size → wpList Tryz.prog ops Q rest (a.put o.dst undef) w') : wpList Tryz.prog ops Q (o :: rest) a w := by
  refine wpList_plain hg fun K' hK' => ?_
  obtain ⟨w', hrun, r1, r2, r3⟩ := h.store hk hf
  unfold Oper.wp
  simp [execOp, hop, hm, hx, hv, hrun, Result.andThen]
  exact hK' _ _ (hK w' r1 r2 r3)
theorem wp_delS (hg : o.guard = none) (m x : Operand) (hop : o.op = Op.call { callee := Callee.builtin Builtin.delete, args := #[m, x], argTypes := #[56, 3] }) (b : Nat) (S : Int → Prop) (k : Int) (hm : a.eval m = .map (some b)) (hx : a.eval x = .int .i64 k)
    (h : SetAt w b S) (hk : I64 k)
    (hK : ∀ w', SetAt w' b (fun y => S y ∧ y ≠ k) → Chg w w' (· = b) → w'.heap.size = w.heap.size → wpList Tryz.prog ops Q rest (a.put o.dst (.tuple #[])) w') : wpList Tryz.prog ops Q (o :: rest) a w := by
  refine wpList_plain hg fun K' hK' => ?_
  obtain ⟨w', hrun, r1, r2, r3⟩ := h.del hk o.type
  unfold Oper.wp
  simp [execOp, hop, resolve, invoke, builtin, hm, hx, hrun, Result.andThen]
  exact hK' _ _ (hK w' r1 r2 r3)
end


/-- 'len' of a set whose numbers are listed, each once. -/
theorem SetAt.lenL {w : World} {b : Nat} {S : Int → Prop} (h : SetAt w b S) (L : List Int) (hp : L.Pairwise (· ≠ ·)) (hL : ∀ x, x ∈ L ↔ S x) (ty : TypeId) : (Builtin.len_ #[56] ty #[.map (some b)]).run Tryz.prog w = .ok (.int .i64 L.length) w := by
  obtain ⟨D, h, hh⟩ := h
  have e : Maps.size D = L.length := by
    obtain ⟨l, hl1, hl2, hl3, _⟩ := keys_of h
    have a1 := nodup_len l L hl1 (fun x hx => (hL x).2 ((hh x).1 ((hl3 x).1 hx)))
    have a2 := nodup_len L l hp (fun x hx => (hl3 x).2 ((hh x).2 ((hL x).1 hx)))
    omega
  rw [← e]
  exact h.len Tryz.underlying56 ty

end Go.Proofs.YtpmignilhoihnaaGreat
