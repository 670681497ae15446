/-
  Small parts of package cache: refusal, markLoss, forget; the first free one of a list.
-/
import Derived.Test.YtamoepninddbcaaGreatGMap2
import Derived.Test.YtamoepninddbcaaGreatLists
import Derived.Test.YtamoepninddbcaaGreatGraph3
import Derived.Test.YtamoepninddbcaaGreatCacheS
import Derived.Defers
import Derived.Deep.CutRange
import Derived.Deep.DeepCutAuto
namespace Go.Proofs.YtamoepninddbcaaGreat
open Go.RowKit

/-- How an element reads: as it is. -/
def decV (v : Value) : Option (DataW Value × List MemPlace) := some (.held v, [])
/-- The cells of what is to be written: the content, and the tags. -/
def pend (s : List Int) (t : Value) : Array Value := (s.map (Value.int .u8) ++ [t]).toArray
/-- What is there where nothing was put. -/
def pend0 : Array Value := pend D.Zs (.slice none 0 0)
theorem zeroP (w : World) : (zeroValue 95).run Tryz.prog w = .ok (.agg pend0) w := by kernel_rfl

/-- A block is a map from numbers to values. -/
def MapV (w : World) (b : Nat) (f : Int → Option Value) : Prop :=
  ∃ D : DataW Value, w.ownsMap Tryz.prog 3 decV b (Maps.size D) D ∧ (∀ x, Maps.has D (.int .i64 x) = (f x).isSome) ∧ ∀ x v, f x = some v → ∀ z, D.atKey (.int .i64 x) z = .held v

section
variable {R : Value → Option (DataW Value × List MemPlace)} {w : World} {b n : Nat} {D : DataW Value}
theorem tightV (h : w.ownsMap Tryz.prog 3 R b n D) : w.ownsMap Tryz.prog 3 R b (Maps.size D) D := by
  obtain ⟨es, clock, hb, F, hs, hD⟩ := h
  refine ⟨es, clock, hb, F, ?_, hD⟩
  rw [hD]
  simp [Maps.size, length_sorted]
/-- Its keys, each once. -/
theorem keys_ofV (h : w.ownsMap Tryz.prog 3 R b n D) : ∃ l : List Int, l.Pairwise (· ≠ ·) ∧ l.length = Maps.size D ∧ (∀ x, x ∈ l ↔ Maps.has D (.int .i64 x) = true) ∧ ∀ x, x ∈ l → I64 x := by
  obtain ⟨es, hD, hp, hk⟩ := h.entries keyI
  have hint : ∀ p ∈ es, ∃ x, p.1 = .int .i64 x ∧ I64 x := by
    obtain ⟨es', clock, _, F, _, hD'⟩ := h
    rw [hD] at hD'
    cases hD'
    intro p hp
    obtain ⟨x, hx, rfl⟩ := List.mem_map.1 (mem_sorted.1 hp)
    obtain ⟨y, hy⟩ := F.reads x hx
    obtain ⟨k, _, hk, hw⟩ := Maps.keyOf_int_inv Tryz.underlying3 (WideElems.rd_key hy)
    rw [WideElems.rg_of hy]
    exact ⟨k, hk, wfI hw⟩
  refine ⟨es.map (fun p => match p.1 with | .int _ x => x | _ => 0), ?_, ?_, ?_, ?_⟩
  · rw [List.pairwise_map]
    refine List.Pairwise.imp_of_mem ?_ hp
    intro p q hp hq hne
    obtain ⟨x, hx, _⟩ := hint p hp
    obtain ⟨y, hy, _⟩ := hint q hq
    rw [hx, hy] at hne
    rw [hx, hy]
    simpa using hne
  · rw [hD]; simp [Maps.size]
  · intro x
    rw [hD, Maps.has_eq, List.any_eq_true]
    constructor
    · intro hx
      obtain ⟨p, hp, e⟩ := List.mem_map.1 hx
      obtain ⟨y, hy, _⟩ := hint p hp
      rw [hy] at e
      simp at e
      subst e
      exact ⟨p, hp, by rw [hy]; exact WideAt.sameKey_self (keyLit _)⟩
    · rintro ⟨p, hp, hs⟩
      have := WideAt.sameKey_eq hs
      exact List.mem_map.2 ⟨p, hp, by rw [this]⟩
  · intro x hx
    obtain ⟨p, hp, e⟩ := List.mem_map.1 hx
    obtain ⟨y, hy, hw⟩ := hint p hp
    rw [hy] at e
    simp at e
    rw [← e]
    exact hw
theorem size_leV (h : w.ownsMap Tryz.prog 3 R b n D) (L : List Int) (hL : ∀ x, Maps.has D (.int .i64 x) = true → x ∈ L) : Maps.size D ≤ L.length := by
  obtain ⟨l, hp, hl, hm, _⟩ := keys_ofV h
  rw [← hl]
  exact nodup_len l L hp fun x hx => hL x ((hm x).1 hx)
end

variable {w : World} {b : Nat} {f : Int → Option Value}
theorem MapV.lt (h : MapV w b f) : b < w.heap.size := let ⟨_, h, _⟩ := h; h.lt
theorem MapV.keep {w' : World} {ks : Nat → Prop} (h : MapV w b f) (hc : Chg w w' ks) (hn : ¬ ks b) : MapV w' b f := by
  obtain ⟨D, ⟨es, clock, hb, r⟩, k⟩ := h
  exact ⟨D, ⟨es, clock, hc.keep hb hn, r⟩, k⟩
theorem MapV.cong {g : Int → Option Value} (h : MapV w b f) (hs : ∀ x, f x = g x) : MapV w b g := by
  have : f = g := funext hs
  exact this ▸ h
theorem MapV.isMap (h : MapV w b f) : ∃ es clock, w.heap[b]? = some (.map es clock) := by
  obtain ⟨D, ⟨es, clock, h, _⟩, _⟩ := h
  exact ⟨es, clock, h⟩
theorem MapV.made (w : World) : MapV (w.alloc (.map #[] 0)) w.heap.size (fun _ => none) :=
  ⟨.map [], World.ownsMap_made w Tryz.prog 3 decV, fun x => by simp [Maps.has], fun x c h => by cases h⟩
/-- 'm[n]', and whether it is there. -/
theorem MapV.look (h : MapV w b f) {x : Int} (hx : I64 x) : (Instr.lookup 86 (.map (some b)) (.int .i64 x) false).run Tryz.prog w = .ok (match f x with | some v => v | none => .agg pend0) w := by
  obtain ⟨D, h, hh, ha⟩ := h
  obtain ⟨v, ps, hrun, hv⟩ := h.lookup keyI Tryz.underlying86 (zeroP w) (zd := .held (.agg pend0)) (zp := []) rfl (keyOfI hx)
  rw [hrun]
  have hz : DataW.held v = D.atKey (.int .i64 x) (.held (.agg pend0)) := by
    have : decV v = some (.held v, []) := rfl
    rw [this] at hv
    simpa using congrArg (fun o => o.map Prod.fst) hv
  cases hf : f x with
  | none =>
    have h0 : Maps.has D (.int .i64 x) = false := by rw [hh x, hf]; rfl
    rw [Maps.atKey_of_not_has h0] at hz
    cases hz
    rfl
  | some u =>
    rw [ha x u hf] at hz
    cases hz
    rfl
theorem MapV.look_ok (h : MapV w b f) {x : Int} (hx : I64 x) : (Instr.lookup 86 (.map (some b)) (.int .i64 x) true).run Tryz.prog w = .ok (.tuple #[match f x with | some v => v | none => .agg pend0, .bool (f x).isSome]) w := by
  obtain ⟨D, h, hh, ha⟩ := h
  obtain ⟨v, ps, hrun, hv⟩ := h.look_ok keyI Tryz.underlying86 (zeroP w) (zd := .held (.agg pend0)) (zp := []) rfl (keyOfI hx)
  rw [hrun, hh x]
  have hz : DataW.held v = D.atKey (.int .i64 x) (.held (.agg pend0)) := by
    have : decV v = some (.held v, []) := rfl
    rw [this] at hv
    simpa using congrArg (fun o => o.map Prod.fst) hv
  cases hf : f x with
  | none =>
    have h0 : Maps.has D (.int .i64 x) = false := by rw [hh x, hf]; rfl
    rw [Maps.atKey_of_not_has h0] at hz
    cases hz
    rfl
  | some u =>
    rw [ha x u hf] at hz
    cases hz
    rfl
theorem MapV.store (h : MapV w b f) {x : Int} (hx : I64 x) (v : Value) (hf : ∃ L : List Int, L.length ≤ 5000 ∧ ∀ x, (f x).isSome = true → x ∈ L) :
    ∃ w', (Instr.mapUpdate 86 (.map (some b)) (.int .i64 x) v).run Tryz.prog w = .ok () w' ∧ MapV w' b (fun y => if y = x then some v else f y) ∧ Chg w w' (· = b) ∧ w'.heap.size = w.heap.size := by
  obtain ⟨D, h, hh, ha⟩ := h
  obtain ⟨L, hL, hm⟩ := hf
  have hs := size_leV h L (fun y hy => hm y ((hh y).symm.trans hy))
  obtain ⟨w', hrun, ho, ht⟩ := h.store keyI Tryz.underlying86 (by unfold maxLen; omega) (keyOfI hx) (d := .held v) (ps := []) (val := v) rfl
  obtain ⟨h1, h2⟩ := turned_chg ht
  refine ⟨w', hrun, ⟨_, tightV ho, fun y => ?_, fun y c hc z => ?_⟩, h1, h2⟩
  · by_cases hy : y = x
    · subst hy
      simp [Maps.has_put_same h.isMap (keyLit y)]
    · rw [Maps.has_put_other (by simpa using hy), hh y]
      simp [hy]
  · by_cases hy : y = x
    · subst hy
      simp at hc
      rw [Maps.atKey_put_same h.isMap (keyLit y), hc]
    · rw [Maps.atKey_put_other (by simpa using hy)]
      simp [hy] at hc
      exact ha y c hc z
theorem MapV.del (h : MapV w b f) {x : Int} (hx : I64 x) (ty : TypeId) :
    ∃ w', (Builtin.delete_ #[86, 3] ty #[.map (some b), .int .i64 x]).run Tryz.prog w = .ok (.tuple #[]) w' ∧ MapV w' b (fun y => if y = x then none else f y) ∧ Chg w w' (· = b) ∧ w'.heap.size = w.heap.size := by
  obtain ⟨D, h, hh, ha⟩ := h
  obtain ⟨w', hrun, ho, ht⟩ := h.drop keyI Tryz.underlying86 (keyOfI hx) ty
  obtain ⟨h1, h2⟩ := turned_chg ht
  refine ⟨w', hrun, ⟨_, tightV ho, fun y => ?_, fun y c hc z => ?_⟩, h1, h2⟩
  · by_cases hy : y = x
    · subst hy
      simp [Maps.has_del_same]
    · rw [Maps.has_del_other (by simpa using hy), hh y]
      simp [hy]
  · by_cases hy : y = x
    · subst hy
      simp at hc
    · rw [Maps.atKey_del_other (by simpa using hy)]
      simp [hy] at hc
      exact ha y c hc z

section
variable {ops : Array Oper} {rest : List Oper} {o : Oper} {a : Act} {Q : Exit → Act → World → Prop}
theorem wp_lookV (hg : o.guard = none) (m x : Operand) (hop : o.op = Op.lookup 86 m x false) (b : Nat) (f : Int → Option Value) (k : Int) (c : Value) (hc : (match f k with | some v => v | none => .agg pend0) = c) (hm : a.eval m = .map (some b)) (hx : a.eval x = .int .i64 k)
    (h : MapV w b f) (hk : I64 k) (hK : wpList Tryz.prog ops Q rest (a.put o.dst c) w) : wpList Tryz.prog ops Q (o :: rest) a w := by
  subst hc
  refine wpList_plain hg fun K' hK' => ?_
  unfold Oper.wp
  simp [execOp, hop, hm, hx, h.look hk, Result.andThen]
  exact hK' _ _ hK
theorem wp_okV (hg : o.guard = none) (m x : Operand) (hop : o.op = Op.lookup 86 m x true) (b : Nat) (f : Int → Option Value) (k : Int) (c : Value) (r : Bool) (hc : (match f k with | some v => v | none => .agg pend0) = c) (hr : (f k).isSome = r) (hm : a.eval m = .map (some b)) (hx : a.eval x = .int .i64 k)
    (h : MapV w b f) (hk : I64 k) (hK : wpList Tryz.prog ops Q rest (a.put o.dst (.tuple #[c, .bool r])) w) : wpList Tryz.prog ops Q (o :: rest) a w := by
  subst hc hr
  refine wpList_plain hg fun K' hK' => ?_
  unfold Oper.wp
  simp [execOp, hop, hm, hx, h.look_ok hk, Result.andThen]
  exact hK' _ _ hK
theorem wp_storeV (hg : o.guard = none) (m x v : Operand) (hop : o.op = Op.mapUpdate 86 m x v) (b : Nat) (f : Int → Option Value) (k : Int) (d : Value) (hm : a.eval m = .map (some b)) (hx : a.eval x = .int .i64 k) (hv : a.eval v = d)
    (h : MapV w b f) (hk : I64 k) (hf : ∃ L : List Int, L.length ≤ 5000 ∧ ∀ x, (f x).isSome = true → x ∈ L)
    (hK : ∀ w', MapV w' b (fun y => if y = k then some d else f y) → Chg w w' (· = b) → w'.heap.size = w.heap.size → wpList Tryz.prog ops Q rest (a.put o.dst undef) w') : wpList Tryz.prog ops Q (o :: rest) a w := by
  refine wpList_plain hg fun K' hK' => ?_
  obtain ⟨w', hrun, r1, r2, r3⟩ := h.store hk d hf
  unfold Oper.wp
  simp [execOp, hop, hm, hx, hv, hrun, Result.andThen]
  exact hK' _ _ (hK w' r1 r2 r3)
theorem wp_delV (hg : o.guard = none) (m x : Operand) (hop : o.op = Op.call { callee := Callee.builtin Builtin.delete, args := #[m, x], argTypes := #[86, 3] }) (b : Nat) (f : Int → Option Value) (k : Int) (hm : a.eval m = .map (some b)) (hx : a.eval x = .int .i64 k)
    (h : MapV w b f) (hk : I64 k)
    (hK : ∀ w', MapV w' b (fun y => if y = k then none else f y) → Chg w w' (· = b) → w'.heap.size = w.heap.size → wpList Tryz.prog ops Q rest (a.put o.dst (.tuple #[])) w') : wpList Tryz.prog ops Q (o :: rest) a w := by
  refine wpList_plain hg fun K' hK' => ?_
  obtain ⟨w', hrun, r1, r2, r3⟩ := h.del hk o.type
  unfold Oper.wp
  simp [execOp, hop, resolve, invoke, builtin, hm, hx, hrun, Result.andThen]
  exact hK' _ _ (hK w' r1 r2 r3)
end

end Go.Proofs.YtamoepninddbcaaGreat

namespace Go.Proofs.YtamoepninddbcaaGreat.D
open Go.RowKit
-- may lack

set_option maxHeartbeats 400000 in
theorem restart_any {p g n : Nat} {d : St8} (w : World) (h : IsD w p g n d) : Calls Tryz.prog 41 #[.pointer (some ⟨p, 0, none⟩)] w fun e w' => e = .returned (.tuple #[]) ∧ IsD w' p g n ⟨d.S, d.wr, false, false, 0⟩ ∧ Mod w w' [p] := by
  have h2 := h.c2
  have h3 := h.c3
  have h4 := h.c4
  have f2 := h.fz 2
  have f3 := h.fz 3
  have f4 := h.fz 4
  go_enter Tryz.func41, Tryz.ntmps41
  go_wp2
  go_end0
  have a1 : IsD (w.setCell ⟨p, 2, none⟩ (.bool false)) p g n ⟨d.S, d.wr, false, d.ar, d.lf⟩ := h.put 2 _ rfl rfl
  have a2 : IsD ((w.setCell ⟨p, 2, none⟩ (.bool false)).setCell ⟨p, 3, none⟩ (.bool false)) p g n ⟨d.S, d.wr, false, false, d.lf⟩ := a1.put 3 _ rfl rfl
  exact ⟨rfl, a2.put 4 _ rfl rfl, ((Mod.set.trans Mod.set).trans Mod.set).mono (by simp)⟩

set_option maxHeartbeats 400000 in
theorem len_any {p g n : Nat} {d : St8} (w : World) (h : IsD w p g n d) : Calls Tryz.prog 91 #[.pointer (some ⟨p, 0, none⟩)] w fun e w' => e = .returned (.int .i64 n) ∧ w' = w := by
  have h0 := h.c0
  go_enter Tryz.func91, Tryz.ntmps91
  go_wp2
  go_ret
  exact ⟨rfl, rfl⟩
end Go.Proofs.YtamoepninddbcaaGreat.D

namespace Go.Proofs.YtamoepninddbcaaGreat
open Go.RowKit

theorem Chg.of_mod {w w' : World} {l : List Nat} (h : D.Mod w w' l) : Chg w w' (· ∈ l) := ⟨h.os, h.tape, h.output, h.size, h.block⟩
theorem isD_keep {w w' : World} {p g n : Nat} {d : D.St8} {ks : Nat → Prop} (h : D.IsD w p g n d) (hc : Chg w w' ks) (hp : ¬ ks p) (hg : ¬ ks g) : D.IsD w' p g n d :=
  ⟨hc.keep h.me hp, hc.keep h.row hg, h.len, h.pos, h.top⟩

/-- Whose a block is: the cache's own cells, the disk's, its sectors, the graph's, the map, a dirty sector's tags, the tags that have landed. -/
inductive Role
  | c | p | g | gr | mb | tag (x : Int) | ld

/-- The cells of a cache. -/
def CC (p gp mb : Nat) (lv : Value) (lost : Bool) : Array Value := #[.pointer (some ⟨p, 0, none⟩), .pointer (some ⟨gp, 0, none⟩), .map (some mb), lv, .bool lost]

structure IsC0 (w : World) (c p g n gp mb : Nat) (go : Nat → Prop) (tv : Int → Value) (lv : Value) (ρ : Nat → Option Role) (z : CSt) : Prop where
  me : w.heap[c]? = some (.cells (CC p gp mb lv z.lost) 88 (0, 0))
  dk : D.IsD w p g n z.d
  gr : IsG w gp go z.E
  mp : MapV w mb (fun x => (z.P x).map fun q => .agg (pend q.1 (tv x)))
  tg : ∀ x q, z.P x = some q → Ints w 0 (tv x) q.2
  ld : Ints w 0 lv z.ld
  rc : ρ c = some .c
  rp : ρ p = some .p
  rg : ρ g = some .g
  rr : ∀ k, go k → ρ k = some .gr
  rm : ρ mb = some .mb
  rt : ∀ x k, z.dirty x → (tv x).ownBlock = some k → ρ k = some (.tag x)
  rl : ∀ k, lv.ownBlock = some k → ρ k = some .ld
  lt : ∀ k r, ρ k = some r → k < w.heap.size
  inv : CInv n z

/-- A cache lies at c, its disk at p. -/
def IsC (w : World) (c p g n : Nat) (ρ : Nat → Option Role) (z : CSt) : Prop := ∃ gp mb go tv lv, IsC0 w c p g n gp mb go tv lv ρ z
/-- The cache's own blocks. -/
def Own (ρ : Nat → Option Role) (k : Nat) : Prop := ∃ r, ρ k = some r
theorem own_not {ρ : Nat → Option Role} {k j : Nat} {r s : Role} (h : ρ k = some r) (h2 : ρ j = some s) (hne : r ≠ s) : k ≠ j := fun e => by
  subst e
  rw [h] at h2
  cases h2
  exact hne rfl

section
variable {w w' : World} {c p g n gp mb : Nat} {go : Nat → Prop} {tv : Int → Value} {lv : Value} {ρ : Nat → Option Role} {z : CSt}
theorem IsC0.keep {ks : Nat → Prop} (h : IsC0 w c p g n gp mb go tv lv ρ z) (hc : Chg w w' ks) (hn : ∀ k, Own ρ k → ¬ ks k) : IsC0 w' c p g n gp mb go tv lv ρ z :=
  ⟨hc.keep h.me (hn c ⟨_, h.rc⟩), isD_keep h.dk hc (hn p ⟨_, h.rp⟩) (hn g ⟨_, h.rg⟩), h.gr.keep hc fun k hk => hn k ⟨_, h.rr k hk⟩, h.mp.keep hc (hn mb ⟨_, h.rm⟩),
    fun x q hx => row_keep (h.tg x q hx) hc fun k hk => hn k ⟨_, h.rt x k (by unfold CSt.dirty; rw [hx]; rfl) hk⟩, row_keep h.ld hc fun k hk => hn k ⟨_, h.rl k hk⟩,
    h.rc, h.rp, h.rg, h.rr, h.rm, h.rt, h.rl, fun k r hk => Nat.lt_of_lt_of_le (h.lt k r hk) hc.size, h.inv⟩
theorem IsC.keep {ks : Nat → Prop} (h : IsC w c p g n ρ z) (hc : Chg w w' ks) (hn : ∀ k, Own ρ k → ¬ ks k) : IsC w' c p g n ρ z := by
  obtain ⟨gp, mb, go, tv, lv, h⟩ := h
  exact ⟨gp, mb, go, tv, lv, h.keep hc hn⟩
theorem IsC.call (h : IsC w c p g n ρ z) (hc : Chg w w' No) : IsC w' c p g n ρ z := h.keep hc fun _ _ e => e
theorem IsC0.call (h : IsC0 w c p g n gp mb go tv lv ρ z) (hc : Chg w w' No) : IsC0 w' c p g n gp mb go tv lv ρ z := h.keep hc fun _ _ e => e
theorem IsC.inv (h : IsC w c p g n ρ z) : CInv n z := let ⟨_, _, _, _, _, h⟩ := h; h.inv
theorem IsC.lt (h : IsC w c p g n ρ z) {k : Nat} (hk : Own ρ k) : k < w.heap.size := let ⟨_, _, _, _, _, h⟩ := h; let ⟨r, hr⟩ := hk; h.lt k r hr
theorem IsC0.c0 (h : IsC0 w c p g n gp mb go tv lv ρ z) : w.cell? ⟨c, 0, none⟩ = some (.pointer (some ⟨p, 0, none⟩)) := by rw [cell_of_row _ _ _ _ _ _ h.me]; rfl
theorem IsC0.c1 (h : IsC0 w c p g n gp mb go tv lv ρ z) : w.cell? ⟨c, 1, none⟩ = some (.pointer (some ⟨gp, 0, none⟩)) := by rw [cell_of_row _ _ _ _ _ _ h.me]; rfl
theorem IsC0.c2 (h : IsC0 w c p g n gp mb go tv lv ρ z) : w.cell? ⟨c, 2, none⟩ = some (.map (some mb)) := by rw [cell_of_row _ _ _ _ _ _ h.me]; rfl
theorem IsC0.c3 (h : IsC0 w c p g n gp mb go tv lv ρ z) : w.cell? ⟨c, 3, none⟩ = some lv := by rw [cell_of_row _ _ _ _ _ _ h.me]; rfl
theorem IsC0.c4 (h : IsC0 w c p g n gp mb go tv lv ρ z) : w.cell? ⟨c, 4, none⟩ = some (.bool z.lost) := by rw [cell_of_row _ _ _ _ _ _ h.me]; rfl
theorem IsC0.fz (h : IsC0 w c p g n gp mb go tv lv ρ z) (j : Nat) : w.frozen? ⟨c, j, none⟩ = false := frozen_of_row w c j _ _ h.me
theorem IsC0.i64 (h : IsC0 w c p g n gp mb go tv lv ρ z) {x : Int} (hx : z.dirty x) : I64 x := by
  have := h.inv.ok x hx
  have := h.inv.top
  exact ⟨by omega, by omega⟩
theorem IsC0.few (h : IsC0 w c p g n gp mb go tv lv ρ z) : ∃ L : List Int, L.length ≤ 5000 ∧ ∀ x, ((z.P x).map fun q => Value.agg (pend q.1 (tv x))).isSome = true → x ∈ L := by
  obtain ⟨L, hL, hm⟩ := few_sec
  exact ⟨L, by omega, fun x hx => hm x (h.inv.sec (by unfold CSt.dirty; simpa using hx))⟩
end

/-- What stands behind a call on a cache: it has z' now; it owns no more than it did, and what is new; nothing else has turned. -/
def CPost (w w' : World) (c p g n : Nat) (ρ : Nat → Option Role) (z' : CSt) : Prop :=
  ∃ ρ', IsC w' c p g n ρ' z' ∧ (∀ k, Own ρ' k → Own ρ k ∨ w.heap.size ≤ k) ∧ Chg w w' (Own ρ)
section
variable {w w1 w2 : World} {c p g n : Nat} {ρ : Nat → Option Role} {z z1 z2 : CSt}
theorem CPost.same (h : IsC w c p g n ρ z) (hc : Chg w w1 No) : CPost w w1 c p g n ρ z := ⟨ρ, h.call hc, fun _ k => .inl k, hc.mono fun _ _ e => e.elim⟩
theorem CPost.isC (h : CPost w w1 c p g n ρ z) : ∃ ρ', IsC w1 c p g n ρ' z := let ⟨ρ', h, _⟩ := h; ⟨ρ', h⟩
theorem CPost.then (h : ∃ ρ1, (IsC w1 c p g n ρ1 z1 ∧ (∀ k, Own ρ1 k → Own ρ k ∨ w.heap.size ≤ k) ∧ Chg w w1 (Own ρ)) ∧ CPost w1 w2 c p g n ρ1 z2) : CPost w w2 c p g n ρ z2 := by
  obtain ⟨ρ1, ⟨_, h2, h3⟩, ρ2, k1, k2, k3⟩ := h
  refine ⟨ρ2, k1, fun k hk => ?_, h3.trans k3 (fun _ _ e => e) fun j hj e => ?_⟩
  · rcases k2 k hk with e | e
    · exact h2 k e
    · exact .inr (Nat.le_trans h3.size e)
  · rcases h2 j e with e | e
    · exact e
    · omega
theorem CPost.step (h2 : ∀ k, Own ρ k → Own ρ k) (hc : Chg w w1 No) (h : CPost w1 w2 c p g n ρ z2) : CPost w w2 c p g n ρ z2 := by
  obtain ⟨ρ2, k1, k2, k3⟩ := h
  refine ⟨ρ2, k1, fun k hk => ?_, hc.trans k3 (fun _ _ e => e.elim) fun j _ e => h2 j e⟩
  rcases k2 k hk with e | e
  · exact .inl e
  · exact .inr (Nat.le_trans hc.size e)
theorem CPost.after (h : CPost w w1 c p g n ρ z) (hc : Chg w1 w2 No) : CPost w w2 c p g n ρ z := by
  obtain ⟨ρ1, k1, k2, k3⟩ := h
  exact ⟨ρ1, k1.call hc, k2, k3.trans hc (fun _ _ e => e) fun _ _ e => e.elim⟩
end

end Go.Proofs.YtamoepninddbcaaGreat

namespace Go.Proofs.YtamoepninddbcaaGreat
open Go.RowKit

theorem Chg.tr {w w1 w2 : World} (h : Chg w w1 No) (k : Chg w1 w2 No) : Chg w w2 No := h.trans k (fun _ _ e => e) (fun _ _ e => e)
theorem chg_drewN (w : World) (n : Nat) : Chg w (w.drewN n) No := ⟨rfl, rfl, rfl, Nat.le_refl _, fun _ _ _ => rfl⟩
theorem cell_keep {w w' : World} {g j : Nat} {v : Value} {ks : Nat → Prop} (h : w.cell? ⟨g, j, none⟩ = some v) (hc : Chg w w' ks) (hg : g < w.heap.size) (hn : ¬ ks g) : w'.cell? ⟨g, j, none⟩ = some v := by
  rw [World.cell?_of_block (hc.block g hg hn)]
  exact h
/-- Numbers that lie in memory. -/
def LAt (w : World) (a : Option Addr) (l : List Int) : Prop := l = [] ∨ ∃ g, a = some ⟨g, 0, none⟩ ∧ g < w.heap.size ∧ ∀ k, k < l.length → w.cell? ⟨g, k, none⟩ = some (.int .i64 (l.getD k 0))
theorem LAt.keep {w w' : World} {a : Option Addr} {l : List Int} {ks : Nat → Prop} (h : LAt w a l) (hc : Chg w w' ks) (hn : ∀ g, a = some ⟨g, 0, none⟩ → ¬ ks g) : LAt w' a l := by
  rcases h with h | ⟨g, rfl, hg, h⟩
  · exact .inl h
  · exact .inr ⟨g, rfl, Nat.lt_of_lt_of_le hg hc.size, fun j hj => cell_keep (h j hj) hc hg (hn g rfl)⟩
theorem LAt.call {w w' : World} {a : Option Addr} {l : List Int} (h : LAt w a l) (hc : Chg w w' No) : LAt w' a l := h.keep hc fun _ _ e => e
theorem Ints.lat {w : World} {base : Nat} {v : Value} {l : List Int} (h : Ints w base v l) : ∃ a c, v = .slice a l.length c ∧ LAt w a l ∧ ∀ g, a = some ⟨g, 0, none⟩ → base ≤ g := by
  rcases h.2 with ⟨rfl, h0⟩ | ⟨g, cap, cur, rfl, hge, hb, h1, h2, h3, h4⟩
  · have : l = [] := List.eq_nil_of_length_eq_zero h0
    subst this
    exact ⟨none, 0, rfl, .inl rfl, fun g e => by cases e⟩
  · refine ⟨_, cap, rfl, .inr ⟨g, rfl, slt hb, fun k hk => ?_⟩, fun g' e => by cases e; exact hge⟩
    rw [cell_of_row _ _ _ _ _ _ hb, ← Array.getElem?_toList]
    have e := congrArg (fun t => t[k]?) h4
    simp only [Nat.mul_one] at e
    rw [List.getElem?_take_of_lt hk] at e
    rw [e]
    simp [hk]

section
variable {n : Nat} {z : CSt} {l : List Int}
theorem refC_bad {k : Nat} (hk : k < l.length) (hb : okN n (l.getD k 0) = false) : refC n z l = 40 := by
  unfold refC
  rw [if_neg]
  intro h
  rw [List.all_eq_true] at h
  have := h (l.getD k 0) (by rw [List.getD_eq_getElem?_getD, List.getElem?_eq_getElem hk]; exact List.getElem_mem hk)
  rw [hb] at this
  cases this
theorem refC_ok (h : ∀ k, k < l.length → okN n (l.getD k 0) = true) : refC n z l = if z.lost = true then 22 else 0 := by
  unfold refC
  rw [if_pos]
  rw [List.all_eq_true]
  intro x hx
  obtain ⟨k, hk, rfl⟩ := List.getElem_of_mem hx
  have := h k hk
  rw [List.getD_eq_getElem?_getD, List.getElem?_eq_getElem hk] at this
  exact this
theorem refC_zero (h : refC n z l = 0) : z.lost = false ∧ ∀ x, x ∈ l → 0 ≤ x ∧ x < n := by
  unfold refC at h
  split at h
  · rename_i h1
    rw [List.all_eq_true] at h1
    split at h
    · cases h
    · rename_i h2
      exact ⟨by simpa using h2, fun x hx => okN_iff.1 (h1 x hx)⟩
  · cases h
end

variable {w : World} {c p g n : Nat} {ρ : Nat → Option Role} {z : CSt}

set_option maxRecDepth 100000 in
set_option maxHeartbeats 1000000 in
theorem refusalC_any (l : List Int) (a : Option Addr) (ca : Nat) (h : IsC w c p g n ρ z) (hl : LAt w a l) (hm : l.length ≤ 17592186044000) :
    Calls Tryz.prog 58 #[.pointer (some ⟨c, 0, none⟩), .slice a l.length ca] w fun e w' => e = .returned (.int .i64 (refC n z l)) ∧ w = w' := by
  obtain ⟨gp, mb, go, tv, lv, h⟩ := h
  have k0 := h.c0
  have k4 := h.c4
  have HL := D.len_any w h.dk
  have HA := hid hl
  have htop := h.inv.top
  clear h hl
  generalize hlen : l.length = m at *
  go_enter Tryz.func58, Tryz.ntmps58
  go_wp2_with fail
  go_loopw [6, 9] (fun _ i wr => ∃ k : Nat, k ≤ m ∧ i = .int .i64 k ∧ w = wr ∧ Hid (∀ j, j < k → okN n (l.getD j 0) = true)) (fun _ i _ => m - (intOf i).toNat)
  case atStart => exact ⟨0, by omega, rfl, rfl, fun j hj => absurd hj (by omega)⟩
  case round =>
    obtain ⟨k, hk, rfl, rfl, hall⟩ := hrel
    by_cases hlt : k < m
    · rcases HA.out with h0 | ⟨g1, rfl, hg1, h1⟩
      · rw [h0] at hlen; simp at hlen; omega
      · have p1 := h1 k (by omega)
        have HX : Hid (∀ v, okN n (l.getD k 0) = v → okN n (l.getD k 0) = v) := fun _ e => e
        generalize hx : l.getD k 0 = x at *
        have HXe := hid hx
        have hi0 : (0 : Int) ≤ (k : Int) := by omega
        have hi1 : (k : Int) < (m : Int) := by omega
        clear h1 hx HX
        by_cases hx0 : x < 0
        · go_wp2_with fail
          go_ret
          exact ⟨ret_int (refC_bad (k := k) (by omega) (by rw [HXe.out]; simp [okN]; omega)).symm, rfl⟩
        · by_cases hx1 : (n : Int) ≤ x
          · go_wp2_with (first
              | (go_at_call 91; go_must (refine HL.mono ?_; rintro e w1 ⟨rfl, rfl⟩))
              | fail)
            go_ret
            exact ⟨ret_int (refC_bad (k := k) (by omega) (by rw [HXe.out]; simp [okN]; omega)).symm, rfl⟩
          · go_wp2_with (first
              | (go_at_call 91; go_must (refine HL.mono ?_; rintro e w1 ⟨rfl, rfl⟩))
              | fail)
            refine ⟨⟨k + 1, by omega, by go_num, trivial, fun j hj => ?_⟩, by simp [intOf]; omega⟩
            by_cases e : j = k
            · subst e
              rw [HXe.out]
              simp [okN]
              omega
            · exact hall.out j (by omega)
    · have hkm : k = m := by omega
      have HR := hid (refC_ok (n := n) (z := z) (l := l) (fun j hj => hall.out j (by omega)))
      cases hlo : z.lost
      · rw [hlo] at k4
        go_wp2_with fail
        go_ret
        exact ⟨ret_int (by rw [HR.out, hlo]; rfl), rfl⟩
      · rw [hlo] at k4
        go_wp2_with fail
        go_ret
        exact ⟨ret_int (by rw [HR.out, hlo]; rfl), rfl⟩

/-- What a change of some parts of a cache leaves of the others. -/
theorem IsC0.parts {w w' : World} {c p g n gp mb : Nat} {go : Nat → Prop} {tv : Int → Value} {lv : Value} {ρ : Nat → Option Role} {z : CSt} {ks : Nat → Prop} (h : IsC0 w c p g n gp mb go tv lv ρ z) (hc : Chg w w' ks) (A : Role → Prop) (hA : ∀ k, ks k → ∀ r, ρ k = some r → A r) :
    (¬ A .c → w'.heap[c]? = some (.cells (CC p gp mb lv z.lost) 88 (0, 0))) ∧ (¬ A .p → ¬ A .g → D.IsD w' p g n z.d) ∧ (¬ A .gr → IsG w' gp go z.E) ∧ (¬ A .mb → MapV w' mb (fun x => (z.P x).map fun q => .agg (pend q.1 (tv x)))) ∧
      (∀ x q, ¬ A (.tag x) → z.P x = some q → Ints w' 0 (tv x) q.2) ∧ (¬ A .ld → Ints w' 0 lv z.ld) ∧ ∀ k r, ρ k = some r → k < w'.heap.size :=
  ⟨fun e => hc.keep h.me fun k => e (hA _ k _ h.rc), fun e f => isD_keep h.dk hc (fun k => e (hA _ k _ h.rp)) (fun k => f (hA _ k _ h.rg)), fun e => h.gr.keep hc fun k hk k2 => e (hA _ k2 _ (h.rr k hk)), fun e => h.mp.keep hc fun k => e (hA _ k _ h.rm),
    fun x q e hx => row_keep (h.tg x q hx) hc fun k hk k2 => e (hA _ k2 _ (h.rt x k (by unfold CSt.dirty; rw [hx]; rfl) hk)), fun e => row_keep h.ld hc fun k hk k2 => e (hA _ k2 _ (h.rl k hk)), fun k r hk => Nat.lt_of_lt_of_le (h.lt k r hk) hc.size⟩

set_option maxRecDepth 100000 in
set_option maxHeartbeats 1000000 in
theorem markLoss_d (b : Nat) (v : Int) (u : FrameMode) (w : World) (c : Nat) (hb : w.cell? ⟨b, 0, none⟩ = some (.int .i64 v)) (lo : Bool) (hc : w.cell? ⟨c, 4, none⟩ = some (.bool lo)) (hz : w.frozen? ⟨c, 4, none⟩ = false) :
    CallsD Tryz.prog 66 #[.pointer (some ⟨c, 0, none⟩), .pointer (some ⟨b, 0, none⟩)] u w fun e u' w' => u' = u ∧ (e = .returned (.tuple #[]) ∧ w' = if v = 22 then w.setCell ⟨c, 4, none⟩ (.bool true) else w) := by
  by_cases hv : v = 22
  · subst hv
    go_enter_d Tryz.func66, Tryz.ntmps66
    go_wp2
    go_end0
    exact ⟨rfl, rfl⟩
  · have hv2 : (v == 22) = false := by simpa using hv
    go_enter_d Tryz.func66, Tryz.ntmps66
    go_wp2
    go_end0
    exact ⟨rfl, rfl⟩

set_option maxRecDepth 100000 in
set_option maxHeartbeats 1000000 in
theorem forget_any (x : Int) (h : IsC w c p g n ρ z) (hx : Sec x) : Calls Tryz.prog 79 #[.pointer (some ⟨c, 0, none⟩), .int .i64 x] w fun e w' => e = .returned (.tuple #[]) ∧ CPost w w' c p g n ρ (forC z x) := by
  obtain ⟨gp, mb, go, tv, lv, h⟩ := h
  have hI : I64 x := ⟨by have := hx.1; omega, by have := hx.2; omega⟩
  have k1 := h.c1
  have k2 := h.c2
  have HM := h.mp
  have HH := hid h
  clear h
  go_enter Tryz.func79, Tryz.ntmps79
  go_wp2_with (first
    | (at_delete; go_must (refine wp_delV rfl _ _ rfl mb _ x rfl rfl HM hI ?_; intro w1 hM1 hc1 hz1; have HP1 := HH.out.parts hc1 (· = .mb) (fun k e r hr => by subst e; rw [HH.out.rm] at hr; cases hr; rfl); have HG := removeG_any x (HP1.2.2.1 (by simp)); have k11 : w1.cell? ⟨c, 1, none⟩ = some (.pointer (some ⟨gp, 0, none⟩)) := (by rw [cell_of_row _ _ _ _ _ _ (HP1.1 (by simp))]; rfl); have HP1 := hid HP1; have HM1 := hid hM1; clear hM1))
    | (go_at_call 106; go_must (refine HG.mono ?_; rintro e w2 ⟨cc, E', rfl, hR, hG2, hc2⟩))
    | go_in)
  go_end0
  have h := HH.out
  have hE : E' = delE z.E x := by
    rcases hR with ⟨hn, _⟩ | ⟨_, _, e⟩
    · exact absurd hx hn
    · exact e
  subst hE
  have hgo : ∀ k, go k → ¬ k = mb := fun k hk e => by
    subst e
    have := h.rr _ hk
    rw [h.rm] at this
    cases this
  have hc12 : Chg w w2 (fun k => k = mb ∨ go k) := hc1.trans hc2 (fun _ _ e => .inl e) (fun _ _ e => .inr e)
  have HP := h.parts hc12 (fun r => r = .mb ∨ r = .gr) (fun k e r hr => by
    rcases e with rfl | e
    · rw [h.rm] at hr; cases hr; exact .inl rfl
    · rw [h.rr k e] at hr; cases hr; exact .inr rfl)
  obtain ⟨q1, q2, _, _, q5, q6, q7⟩ := HP
  have hM2 : MapV w2 mb _ := HM1.out.keep hc2 (fun e => hgo _ e rfl)
  refine ⟨rfl, ρ, ⟨gp, mb, go, tv, lv, ⟨q1 (by simp), q2 (by simp) (by simp), hG2, hM2.cong fun y => ?_, fun y q hy => ?_, q6 (by simp), h.rc, h.rp, h.rg, h.rr, h.rm, fun y k hy hk => ?_, h.rl, q7, ?_⟩⟩, fun _ k => .inl k, hc12.mono fun k _ e => ?_⟩
  · simp only [forC]
    by_cases e : y = x
    · simp [e]
    · simp [e]
  · simp only [forC] at hy
    by_cases e : y = x
    · rw [if_pos e] at hy; cases hy
    · rw [if_neg e] at hy
      exact q5 y q (by simp) hy
  · refine h.rt y k ?_ hk
    unfold CSt.dirty forC at hy
    simp only at hy
    unfold CSt.dirty
    by_cases e : y = x
    · rw [if_pos e] at hy; cases hy
    · rw [if_neg e] at hy; exact hy
  · exact forC_inv h.inv x
  · rcases e with rfl | e
    · exact ⟨_, h.rm⟩
    · exact ⟨_, h.rr k e⟩

end Go.Proofs.YtamoepninddbcaaGreat
