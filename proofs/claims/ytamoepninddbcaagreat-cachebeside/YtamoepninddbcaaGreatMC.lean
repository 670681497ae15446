/-
  The statements' own sector and after.
-/
import Derived.Test.YtamoepninddbcaaGreatMJ1
namespace Go.Proofs.YtamoepninddbcaaGreat
open Go.RowKit

/-- The blocks of a list of lists. -/
def LotB (v : Value) (V : List Lst) (k : Nat) : Prop := v.ownBlock = some k ∨ ∃ (j : Nat) (x : Lst), V[j]? = some x ∧ x.v.ownBlock = some k
theorem Lot.blk_lt {B eo e k : Nat} {v : Value} {V : List Lst} {w : World} (h : Lot B eo e k v V w) {g : Nat} (hg : LotB v V g) : g < w.heap.size := by
  rcases hg with hg | ⟨j, x, hx, hg⟩
  · exact slt (own_block h.row hg).2.choose_spec
  · exact slt (own_block (h.own j x hx) hg).2.choose_spec
theorem Lot.kept {B eo e k : Nat} {v : Value} {V : List Lst} {w w' : World} {ks : Nat → Prop} (h : Lot B eo e k v V w) (hc : Chg w w' ks) (hn : ∀ g, LotB v V g → ¬ ks g) : Lot B eo e k v V w' :=
  h.keep (fun g hg => hc.block g (h.blk_lt (.inl hg)) (hn g (.inl hg))) (fun j x g hx hg => hc.block g (h.blk_lt (.inr ⟨j, x, hx, hg⟩)) (hn g (.inr ⟨j, x, hx, hg⟩)))
theorem Lot.type {B eo e k : Nat} {v : Value} {V : List Lst} {w : World} (h : Lot B eo e k v V w) {g : Nat} (hg : LotB v V g) : ∃ cur t, w.heap[g]? = some (.cells cur t (0, 0)) ∧ (t = eo ∨ t = e) := by
  rcases hg with hg | ⟨j, x, hx, hg⟩
  · obtain ⟨_, cur, hc⟩ := own_block h.row hg
    exact ⟨cur, _, hc, .inl rfl⟩
  · obtain ⟨_, cur, hc⟩ := own_block (h.own j x hx) hg
    exact ⟨cur, _, hc, .inr rfl⟩
theorem lotB_more {v v' : Value} {V : List Lst} {y : Lst} {k s : Nat} (h : v'.ownBlock = v.ownBlock ∨ v'.ownBlock = some s) (hk : LotB v' (V ++ [y]) k) : LotB v V k ∨ k = s ∨ y.v.ownBlock = some k := by
  rcases hk with e | ⟨j, x, hx, e⟩
  · rcases h with h | h
    · exact .inl (.inl (by rw [← h]; exact e))
    · rw [h] at e
      exact .inr (.inl (Option.some.inj e).symm)
  · rcases get_more hx with ⟨h1, _⟩ | ⟨rfl, _⟩
    · exact .inl (.inr ⟨j, x, h1, e⟩)
    · exact .inr (.inr e)

def BkC (lv mv ev : Value) : Array Value := #[lv, mv, ev]
structure IsBk (w : World) (ok : Nat) (lv mv ev : Value) (V M E : List Lst) : Prop where
  me : w.heap[ok]? = some (.cells (BkC lv mv ev) 57 (0, 0))
  l : Lot 0 27 3 1 lv V w
  m : Lot 0 27 3 1 mv M w
  e : Lot 0 64 73 2 ev E w
  lm : ∀ k, LotB lv V k → ¬ LotB mv M k
  len : M.length = V.length
  vn : V.length ≤ 2000
  en : E.length ≤ 1000
  vs : ∀ (j : Nat) x, V[j]? = some x → x.n ≤ 17592186044000
  ms : ∀ (j : Nat) x, M[j]? = some x → x.n ≤ 17592186044000
  es : ∀ (j : Nat) x, E[j]? = some x → x.n ≤ 100000000
def BkB (ok : Nat) (lv mv ev : Value) (V M E : List Lst) (k : Nat) : Prop := k = ok ∨ LotB lv V k ∨ LotB mv M k ∨ LotB ev E k
/-- The answers are what they must be. -/
def BkEq (V M : List Lst) : Prop := ∀ (j : Nat) x y, V[j]? = some x → M[j]? = some y → ∃ l : List Int, x.xs = l.map (Value.int .i64) ∧ y.xs = l.map (Value.int .i64) ∧ x.n = l.length ∧ y.n = l.length
section
variable {w w' : World} {ok : Nat} {lv mv ev : Value} {V M E : List Lst}
theorem IsBk.lt (h : IsBk w ok lv mv ev V M E) {k : Nat} (hk : BkB ok lv mv ev V M E k) : k < w.heap.size := by
  rcases hk with rfl | hk | hk | hk
  · exact slt h.me
  · exact h.l.blk_lt hk
  · exact h.m.blk_lt hk
  · exact h.e.blk_lt hk
theorem IsBk.keep {ks : Nat → Prop} (h : IsBk w ok lv mv ev V M E) (hc : Chg w w' ks) (hn : ∀ k, BkB ok lv mv ev V M E k → ¬ ks k) : IsBk w' ok lv mv ev V M E :=
  ⟨hc.keep h.me (hn _ (.inl rfl)), h.l.kept hc fun g hg => hn g (.inr (.inl hg)), h.m.kept hc fun g hg => hn g (.inr (.inr (.inl hg))), h.e.kept hc fun g hg => hn g (.inr (.inr (.inr hg))), h.lm, h.len, h.vn, h.en, h.vs, h.ms, h.es⟩
theorem IsBk.call (h : IsBk w ok lv mv ev V M E) (hc : Chg w w' No) : IsBk w' ok lv mv ev V M E := h.keep hc fun _ _ e => e
theorem IsBk.c0 (h : IsBk w ok lv mv ev V M E) : w.cell? ⟨ok, 0, none⟩ = some lv := by rw [cell_of_row _ _ _ _ _ _ h.me]; rfl
theorem IsBk.c1 (h : IsBk w ok lv mv ev V M E) : w.cell? ⟨ok, 1, none⟩ = some mv := by rw [cell_of_row _ _ _ _ _ _ h.me]; rfl
theorem IsBk.c2 (h : IsBk w ok lv mv ev V M E) : w.cell? ⟨ok, 2, none⟩ = some ev := by rw [cell_of_row _ _ _ _ _ _ h.me]; rfl
theorem IsBk.okl (h : IsBk w ok lv mv ev V M E) : ¬ LotB lv V ok := fun e => by
  obtain ⟨c, t, h1, h2⟩ := h.l.type e
  rw [h.me] at h1
  cases h1
  rcases h2 with e | e <;> cases e
theorem IsBk.okm (h : IsBk w ok lv mv ev V M E) : ¬ LotB mv M ok := fun e => by
  obtain ⟨c, t, h1, h2⟩ := h.m.type e
  rw [h.me] at h1
  cases h1
  rcases h2 with e | e <;> cases e
theorem IsBk.oke (h : IsBk w ok lv mv ev V M E) : ¬ LotB ev E ok := fun e => by
  obtain ⟨c, t, h1, h2⟩ := h.e.type e
  rw [h.me] at h1
  cases h1
  rcases h2 with e | e <;> cases e
theorem IsBk.le_ (h : IsBk w ok lv mv ev V M E) {k : Nat} (hk : LotB lv V k) : ¬ LotB ev E k := fun e => by
  obtain ⟨c, t, h1, h2⟩ := h.l.type hk
  obtain ⟨c', t', h3, h4⟩ := h.e.type e
  rw [h1] at h3
  cases h3
  rcases h2 with rfl | rfl <;> rcases h4 with e | e <;> cases e
theorem IsBk.me_ (h : IsBk w ok lv mv ev V M E) {k : Nat} (hk : LotB mv M k) : ¬ LotB ev E k := fun e => by
  obtain ⟨c, t, h1, h2⟩ := h.m.type hk
  obtain ⟨c', t', h3, h4⟩ := h.e.type e
  rw [h1] at h3
  cases h3
  rcases h2 with rfl | rfl <;> rcases h4 with e | e <;> cases e
end

/-- Where a pair lies. -/
structure PA where
  pp : Nat
  p : Nat
  c : Nat
  g : Nat
  n : Nat
  rd : Nat
  r : Nat
  ok : Nat
inductive PRole
  | me | pc | pd | bk
def PrC (A : PA) (lo : Bool) : Array Value := #[.pointer (some ⟨A.p, 0, none⟩), .pointer (some ⟨A.c, 0, none⟩), .pointer (some ⟨A.rd, 0, none⟩), .pointer (some ⟨A.r, 0, none⟩), .bool lo, .pointer (some ⟨A.ok, 0, none⟩)]
structure IsP0 (w : World) (A : PA) (ρ : Nat → Option Role) (ρ' : Nat → Option RRole) (lv mv ev : Value) (σ : Nat → Option PRole) (zc zr : CSt) (lo : Bool) (V M E : List Lst) : Prop where
  me : w.heap[A.pp]? = some (.cells (PrC A lo) 36 (0, 0))
  ca : IsC w A.c A.p A.g A.n ρ zc
  rc : IsRC w A.r A.rd A.n ρ' zr
  bk : IsBk w A.ok lv mv ev V M E
  sm : σ A.pp = some .me
  sc : ∀ k, Own ρ k → σ k = some .pc
  sr : ∀ k, OwnR ρ' k → σ k = some .pd
  sb : ∀ k, BkB A.ok lv mv ev V M E k → σ k = some .bk
  lt : ∀ k q, σ k = some q → k < w.heap.size
def IsP (w : World) (A : PA) (σ : Nat → Option PRole) (zc zr : CSt) (lo : Bool) (V M E : List Lst) : Prop := ∃ ρ ρ' lv mv ev, IsP0 w A ρ ρ' lv mv ev σ zc zr lo V M E
def OwnP (σ : Nat → Option PRole) (k : Nat) : Prop := ∃ q, σ k = some q
/-- What is known of a pair since w0. -/
def PF (w0 w : World) (A : PA) (σ0 : Nat → Option PRole) (zc zr : CSt) (lo : Bool) (V M E : List Lst) : Prop := ∃ σ, IsP w A σ zc zr lo V M E ∧ (∀ k, OwnP σ k → OwnP σ0 k ∨ w0.heap.size ≤ k) ∧ Chg w0 w (OwnP σ0)
theorem role_ne {σ : Nat → Option PRole} {k : Nat} {a b : PRole} (h : σ k = some a) (h2 : σ k = some b) (hne : a ≠ b) : False := by
  rw [h] at h2
  cases h2
  exact hne rfl
open Classical in
/-- Blocks without a role get one. -/
noncomputable def addR (σ : Nat → Option PRole) (P : Nat → Prop) (q : PRole) (k : Nat) : Option PRole := match σ k with | some r => some r | none => if P k then some q else none
theorem addR_old {σ : Nat → Option PRole} {P : Nat → Prop} {q r : PRole} {k : Nat} (h : σ k = some r) : addR σ P q k = some r := by unfold addR; rw [h]
theorem addR_new {σ : Nat → Option PRole} {P : Nat → Prop} {q : PRole} {k : Nat} (h : σ k = none) (hp : P k) : addR σ P q k = some q := by
  unfold addR
  rw [h]
  simp only [if_pos hp]
theorem addR_own {σ : Nat → Option PRole} {P : Nat → Prop} {q : PRole} {k : Nat} (h : OwnP (addR σ P q) k) : OwnP σ k ∨ P k := by
  obtain ⟨r, hr⟩ := h
  unfold addR at hr
  cases hs : σ k with
  | some r' => exact .inl ⟨r', hs⟩
  | none =>
    rw [hs] at hr
    simp only at hr
    split at hr
    · rename_i h2
      exact .inr h2
    · cases hr
theorem role_none {σ : Nat → Option PRole} {k : Nat} (h : ¬ OwnP σ k) : σ k = none := by
  cases hs : σ k with
  | some r => exact absurd ⟨r, hs⟩ h
  | none => rfl

section
variable {w w' w0 w1 w2 : World} {A : PA} {ρ : Nat → Option Role} {ρ' : Nat → Option RRole} {lv mv ev : Value} {σ σ0 : Nat → Option PRole} {zc zr z' : CSt} {lo : Bool} {V M E : List Lst}
theorem IsP0.c (h : IsP0 w A ρ ρ' lv mv ev σ zc zr lo V M E) (i : Nat) : w.cell? ⟨A.pp, i, none⟩ = (PrC A lo)[i]? := cell_of_row _ _ _ _ _ _ h.me
theorem IsP0.keep {ks : Nat → Prop} (h : IsP0 w A ρ ρ' lv mv ev σ zc zr lo V M E) (hc : Chg w w' ks) (hn : ∀ k, OwnP σ k → ¬ ks k) : IsP0 w' A ρ ρ' lv mv ev σ zc zr lo V M E :=
  ⟨hc.keep h.me (hn _ ⟨_, h.sm⟩), h.ca.keep hc fun k hk => hn k ⟨_, h.sc k hk⟩, h.rc.keep hc fun k hk => hn k ⟨_, h.sr k hk⟩, h.bk.keep hc fun k hk => hn k ⟨_, h.sb k hk⟩, h.sm, h.sc, h.sr, h.sb, fun k q hk => Nat.lt_of_lt_of_le (h.lt k q hk) hc.size⟩
theorem IsP.keep {ks : Nat → Prop} (h : IsP w A σ zc zr lo V M E) (hc : Chg w w' ks) (hn : ∀ k, OwnP σ k → ¬ ks k) : IsP w' A σ zc zr lo V M E := by
  obtain ⟨ρ, ρ', lv, mv, ev, h⟩ := h
  exact ⟨ρ, ρ', lv, mv, ev, h.keep hc hn⟩
theorem IsP.call (h : IsP w A σ zc zr lo V M E) (hc : Chg w w' No) : IsP w' A σ zc zr lo V M E := h.keep hc fun _ _ e => e
theorem IsP.lt (h : IsP w A σ zc zr lo V M E) {k : Nat} (hk : OwnP σ k) : k < w.heap.size := by
  obtain ⟨ρ, ρ', lv, mv, ev, h⟩ := h
  obtain ⟨q, hq⟩ := hk
  exact h.lt k q hq
theorem IsP.me (h : IsP w A σ zc zr lo V M E) : w.heap[A.pp]? = some (.cells (PrC A lo) 36 (0, 0)) := by
  obtain ⟨ρ, ρ', lv, mv, ev, h⟩ := h
  exact h.me
theorem PF.start (h : IsP w A σ zc zr lo V M E) : PF w w A σ zc zr lo V M E := ⟨σ, h, fun _ e => .inl e, Chg.refl _ _⟩
theorem PF.call (h : PF w0 w A σ0 zc zr lo V M E) (hc : Chg w w' No) : PF w0 w' A σ0 zc zr lo V M E := by
  obtain ⟨σ, h1, h2, h3⟩ := h
  exact ⟨σ, h1.call hc, h2, h3.trans hc (fun _ _ e => e) (fun _ _ e => e.elim)⟩
theorem PF.me (h : PF w0 w A σ0 zc zr lo V M E) : w.heap[A.pp]? = some (.cells (PrC A lo) 36 (0, 0)) := by
  obtain ⟨σ, h1, h2, h3⟩ := h
  exact h1.me
theorem PF.cell (h : PF w0 w A σ0 zc zr lo V M E) (i : Nat) : w.cell? ⟨A.pp, i, none⟩ = (PrC A lo)[i]? := cell_of_row _ _ _ _ _ _ h.me
theorem PF.size (h : PF w0 w A σ0 zc zr lo V M E) : w0.heap.size ≤ w.heap.size := by
  obtain ⟨σ, h1, h2, h3⟩ := h
  exact h3.size
/-- One behind the other. -/
theorem PF.and {zc1 zr1 : CSt} {lo1 : Bool} {V1 M1 E1 : List Lst} (ho : ∀ k, OwnP σ k → OwnP σ0 k ∨ w0.heap.size ≤ k) (hc : Chg w0 w1 (OwnP σ0)) (h : PF w1 w2 A σ zc1 zr1 lo1 V1 M1 E1) : PF w0 w2 A σ0 zc1 zr1 lo1 V1 M1 E1 := by
  obtain ⟨σ2, k1, k2, k3⟩ := h
  refine ⟨σ2, k1, fun k hk => ?_, hc.trans k3 (fun _ _ e => e) fun j hj e => ?_⟩
  · rcases k2 k hk with e | e
    · exact ho k e
    · exact .inr (Nat.le_trans hc.size e)
  · rcases ho j e with e | e
    · exact e
    · omega
theorem PF.then {zc1 zr1 : CSt} {lo1 : Bool} {V1 M1 E1 : List Lst} (h : PF w0 w1 A σ0 zc zr lo V M E) (k : ∀ σ, IsP w1 A σ zc zr lo V M E → PF w1 w2 A σ zc1 zr1 lo1 V1 M1 E1) : PF w0 w2 A σ0 zc1 zr1 lo1 V1 M1 E1 := by
  obtain ⟨σ, h1, h2, h3⟩ := h
  exact PF.and h2 h3 (k σ h1)
theorem PF.inv (h : PF w0 w A σ0 zc zr lo V M E) : CInv A.n zc ∧ CInv A.n zr := by
  obtain ⟨σ, ⟨ρ, ρ', lv, mv, ev, h⟩, h2, h3⟩ := h
  exact ⟨h.ca.inv, h.rc.inv⟩
theorem IsP0.fresh (h : IsP0 w A ρ ρ' lv mv ev σ zc zr lo V M E) {k : Nat} (hk : w.heap.size ≤ k) : σ k = none :=
  role_none fun ⟨q, hq⟩ => by have := h.lt k q hq; omega
/-- The program's cache has turned. -/
theorem IsP0.progC (h : IsP0 w A ρ ρ' lv mv ev σ zc zr lo V M E) (hp : CPost w w' A.c A.p A.g A.n ρ z') : PF w w' A σ z' zr lo V M E := by
  obtain ⟨ρ2, k1, k2, k3⟩ := hp
  have hne : ∀ k q, σ k = some q → q ≠ .pc → ¬ Own ρ k := fun k q hq hn ho => role_ne hq (h.sc k ho) hn
  have hs := k3.size
  have hcs : ∀ k, Own ρ2 k → σ k = some .pc ∨ (w.heap.size ≤ k ∧ σ k = none) := fun k hk => by
    rcases k2 k hk with e | e
    · exact .inl (h.sc k e)
    · exact .inr ⟨e, h.fresh e⟩
  refine ⟨addR σ (fun k => Own ρ2 k ∧ w.heap.size ≤ k) .pc, ⟨ρ2, ρ', lv, mv, ev, k3.keep h.me (hne _ _ h.sm (by simp)), k1, h.rc.keep k3 fun k hk => hne k _ (h.sr k hk) (by simp), h.bk.keep k3 fun k hk => hne k _ (h.sb k hk) (by simp), addR_old h.sm, fun k hk => ?_, fun k hk => addR_old (h.sr k hk), fun k hk => addR_old (h.sb k hk), fun k q hk => ?_⟩, fun k hk => ?_, k3.mono fun j _ e => ⟨_, h.sc j e⟩⟩
  · rcases hcs k hk with e | ⟨e1, e2⟩
    · exact addR_old e
    · exact addR_new e2 ⟨hk, e1⟩
  · rcases addR_own (⟨q, hk⟩ : OwnP _ k) with ⟨r, e⟩ | ⟨e, _⟩
    · exact Nat.lt_of_lt_of_le (h.lt k r e) hs
    · exact k1.lt e
  · rcases addR_own hk with e | ⟨_, e⟩
    · exact .inl e
    · exact .inr e
/-- The document's cache has turned. -/
theorem IsP0.docC (h : IsP0 w A ρ ρ' lv mv ev σ zc zr lo V M E) (hp : RPost w w' A.r A.rd A.n ρ' z') : PF w w' A σ zc z' lo V M E := by
  obtain ⟨ρ2, k1, k2, k3⟩ := hp
  have hne : ∀ k q, σ k = some q → q ≠ .pd → ¬ OwnR ρ' k := fun k q hq hn ho => role_ne hq (h.sr k ho) hn
  have hs := k3.size
  have hcs : ∀ k, OwnR ρ2 k → σ k = some .pd ∨ (w.heap.size ≤ k ∧ σ k = none) := fun k hk => by
    rcases k2 k hk with e | e
    · exact .inl (h.sr k e)
    · exact .inr ⟨e, h.fresh e⟩
  refine ⟨addR σ (fun k => OwnR ρ2 k ∧ w.heap.size ≤ k) .pd, ⟨ρ, ρ2, lv, mv, ev, k3.keep h.me (hne _ _ h.sm (by simp)), h.ca.keep k3 fun k hk => hne k _ (h.sc k hk) (by simp), k1, h.bk.keep k3 fun k hk => hne k _ (h.sb k hk) (by simp), addR_old h.sm, fun k hk => addR_old (h.sc k hk), fun k hk => ?_, fun k hk => addR_old (h.sb k hk), fun k q hk => ?_⟩, fun k hk => ?_, k3.mono fun j _ e => ⟨_, h.sr j e⟩⟩
  · rcases hcs k hk with e | ⟨e1, e2⟩
    · exact addR_old e
    · exact addR_new e2 ⟨hk, e1⟩
  · rcases addR_own (⟨q, hk⟩ : OwnP _ k) with ⟨r, e⟩ | ⟨e, _⟩
    · exact Nat.lt_of_lt_of_le (h.lt k r e) hs
    · exact k1.lt e
  · rcases addR_own hk with e | ⟨_, e⟩
    · exact .inl e
    · exact .inr e
/-- The book has turned, and owns what nobody did. -/
theorem IsP0.bookC {lv' mv' ev' : Value} {V' M' E' : List Lst} (h : IsP0 w A ρ ρ' lv mv ev σ zc zr lo V M E) (h2 : ∀ k, OwnP σ k → OwnP σ0 k ∨ w0.heap.size ≤ k) (h3 : Chg w0 w (OwnP σ0)) (hb : IsBk w' A.ok lv' mv' ev' V' M' E')
    (ho : ∀ k, BkB A.ok lv' mv' ev' V' M' E' k → BkB A.ok lv mv ev V M E k ∨ (σ k = none ∧ (OwnP σ0 k ∨ w0.heap.size ≤ k))) (hc : Chg w w' (BkB A.ok lv mv ev V M E)) : PF w0 w' A σ0 zc zr lo V' M' E' := by
  have hne : ∀ k q, σ k = some q → q ≠ .bk → ¬ BkB A.ok lv mv ev V M E k := fun k q hq hn ho => role_ne hq (h.sb k ho) hn
  have hs := hc.size
  refine ⟨addR σ (fun k => BkB A.ok lv' mv' ev' V' M' E' k ∧ σ k = none) .bk, ⟨ρ, ρ', lv', mv', ev', hc.keep h.me (hne _ _ h.sm (by simp)), h.ca.keep hc fun k hk => hne k _ (h.sc k hk) (by simp), h.rc.keep hc fun k hk => hne k _ (h.sr k hk) (by simp), hb, addR_old h.sm, fun k hk => addR_old (h.sc k hk), fun k hk => addR_old (h.sr k hk), fun k hk => ?_, fun k q hk => ?_⟩, fun k hk => ?_, h3.trans hc (fun _ _ e => e) fun j hj e => ?_⟩
  · rcases ho k hk with e | ⟨e, _⟩
    · exact addR_old (h.sb k e)
    · exact addR_new e ⟨hk, e⟩
  · rcases addR_own (⟨q, hk⟩ : OwnP _ k) with ⟨r, e⟩ | ⟨e, _⟩
    · exact Nat.lt_of_lt_of_le (h.lt k r e) hs
    · exact hb.lt e
  · rcases addR_own hk with e | ⟨e, e2⟩
    · exact h2 k e
    · rcases ho k e with e3 | ⟨_, e3⟩
      · exact h2 k ⟨_, h.sb k e3⟩
      · exact e3
  · rcases h2 j ⟨_, h.sb j e⟩ with e | e
    · exact e
    · omega
/-- The program's cache gives a block away. -/
theorem IsP0.loseC {ρ2 : Nat → Option Role} (h : IsP0 w A ρ ρ' lv mv ev σ zc zr lo V M E) (D : Nat → Prop) (hD : ∀ k, D k → Own ρ k ∧ ¬ Own ρ2 k) (k1 : IsC w' A.c A.p A.g A.n ρ2 z') (k2 : ∀ k, Own ρ2 k → Own ρ k) (k3 : Chg w w' (Own ρ)) :
    ∃ σ2, IsP0 w' A ρ2 ρ' lv mv ev σ2 z' zr lo V M E ∧ (∀ k, D k → σ2 k = none) ∧ (∀ k, OwnP σ2 k → OwnP σ k) ∧ Chg w w' (OwnP σ) := by
  classical
  have hne : ∀ k q, σ k = some q → q ≠ .pc → ¬ Own ρ k := fun k q hq hn ho => role_ne hq (h.sc k ho) hn
  have hk : ∀ k q, σ k = some q → ¬ D k → (if D k then none else σ k) = some q := fun k q hq hn => by rw [if_neg hn]; exact hq
  refine ⟨fun k => if D k then none else σ k, ⟨k3.keep h.me (hne _ _ h.sm (by simp)), k1, h.rc.keep k3 fun k hk => hne k _ (h.sr k hk) (by simp), h.bk.keep k3 fun k hk => hne k _ (h.sb k hk) (by simp),
    hk _ _ h.sm fun e => hne _ _ h.sm (by simp) (hD _ e).1, fun k ho => hk _ _ (h.sc k (k2 k ho)) fun e => (hD k e).2 ho, fun k ho => hk _ _ (h.sr k ho) fun e => hne _ _ (h.sr k ho) (by simp) (hD _ e).1, fun k ho => hk _ _ (h.sb k ho) fun e => hne _ _ (h.sb k ho) (by simp) (hD _ e).1, fun k q hq => ?_⟩, fun k e => if_pos e, ?_, k3.mono fun j _ e => ⟨_, h.sc j e⟩⟩
  · split at hq
    · cases hq
    · exact Nat.lt_of_lt_of_le (h.lt k q hq) k3.size
  · rintro k ⟨q, hq⟩
    simp only at hq
    split at hq
    · cases hq
    · exact ⟨q, hq⟩
/-- The flag is set. -/
theorem IsP0.flag (h : IsP0 w A ρ ρ' lv mv ev σ zc zr lo V M E) (b : Bool) : PF w (w.setCell ⟨A.pp, 4, none⟩ (.bool b)) A σ zc zr b V M E := by
  have hc : Chg w (w.setCell ⟨A.pp, 4, none⟩ (.bool b)) (· = A.pp) := Chg.setCell
  have hne : ∀ k q, σ k = some q → q ≠ .me → ¬ k = A.pp := fun k q hq hn e => by subst e; exact role_ne hq h.sm hn
  refine ⟨σ, ⟨ρ, ρ', lv, mv, ev, ?_, h.ca.keep hc fun k hk => hne k _ (h.sc k hk) (by simp), h.rc.keep hc fun k hk => hne k _ (h.sr k hk) (by simp), h.bk.keep hc fun k hk => hne k _ (h.sb k hk) (by simp), h.sm, h.sc, h.sr, h.sb, fun k q hk => Nat.lt_of_lt_of_le (h.lt k q hk) hc.size⟩, fun k hk => .inl hk, hc.mono fun j _ e => ⟨.me, by rw [e]; exact h.sm⟩⟩
  rw [heap_setCell_same w A.pp 4 _ _ _ h.me]
  rfl
theorem PF.flag (h : PF w0 w A σ0 zc zr lo V M E) (b : Bool) : PF w0 (w.setCell ⟨A.pp, 4, none⟩ (.bool b)) A σ0 zc zr b V M E := h.then fun _ ⟨_, _, _, _, _, h⟩ => h.flag b
/-- A contract of the program's cache. -/
theorem PF.prog {f : FuncId} {args : Array Value} {R : Ending → Prop} (h : PF w0 w A σ0 zc zr lo V M E) (hq : ∀ ρ, IsC w A.c A.p A.g A.n ρ zc → Calls Tryz.prog f args w fun e w' => R e ∧ CPost w w' A.c A.p A.g A.n ρ z') : Calls Tryz.prog f args w fun e w' => R e ∧ PF w0 w' A σ0 z' zr lo V M E := by
  obtain ⟨σ, ⟨ρ, ρ', lv, mv, ev, h1⟩, h2, h3⟩ := h
  exact (hq ρ h1.ca).mono fun e w' hh => ⟨hh.1, PF.and h2 h3 (h1.progC hh.2)⟩
/-- A contract of the document's cache. -/
theorem PF.doc {f : FuncId} {args : Array Value} {R : Ending → Prop} (h : PF w0 w A σ0 zc zr lo V M E) (hq : ∀ ρ, IsRC w A.r A.rd A.n ρ zr → Calls Tryz.prog f args w fun e w' => R e ∧ RPost w w' A.r A.rd A.n ρ z') : Calls Tryz.prog f args w fun e w' => R e ∧ PF w0 w' A σ0 zc z' lo V M E := by
  obtain ⟨σ, ⟨ρ, ρ', lv, mv, ev, h1⟩, h2, h3⟩ := h
  exact (hq ρ' h1.rc).mono fun e w' hh => ⟨hh.1, PF.and h2 h3 (h1.docC hh.2)⟩
end
end Go.Proofs.YtamoepninddbcaaGreat

namespace Go.Proofs.YtamoepninddbcaaGreat
open Go.RowKit

/-- Which sector a raw number speaks of. -/
def secP (n : Nat) (x : Int) : Int := if 40 < x ∨ x < -40 then x else D.pickN x ((n : Int) + 1)
theorem secP_i64 {n : Nat} {x : Int} (hn : n ≤ 4096) (hx : I64 x) : I64 (secP n x) := by
  unfold secP
  split
  · exact hx
  · have := D.pickN_bd x (n := (n : Int) + 1) (by omega)
    exact ⟨by omega, by omega⟩
theorem secP_in {n : Nat} {x : Int} (h : ¬ (40 < x ∨ x < -40)) : secP n x = D.pickN x ((n : Int) + 1) := if_neg h
theorem secP_out {n : Nat} {x : Int} (h : 40 < x ∨ x < -40) : secP n x = x := if_pos h

/-- Numbers that were handed in. -/
def AAt (w : World) (a : Option Addr) (l : List Int) : Prop := l = [] ∨ ∃ b o, a = some ⟨b, o, none⟩ ∧ b < w.heap.size ∧ ∀ k, k < l.length → w.cell? ⟨b, o + k, none⟩ = some (.int .i64 (l.getD k 0))
theorem AAt.keep {w w' : World} {a : Option Addr} {l : List Int} {ks : Nat → Prop} (h : AAt w a l) (hc : Chg w w' ks) (hn : ∀ b o, a = some ⟨b, o, none⟩ → ¬ ks b) : AAt w' a l := by
  rcases h with h | ⟨b, o, rfl, hb, h⟩
  · exact .inl h
  · exact .inr ⟨b, o, rfl, Nat.lt_of_lt_of_le hb hc.size, fun j hj => cell_keep (h j hj) hc hb (hn b o rfl)⟩
theorem AAt.call {w w' : World} {a : Option Addr} {l : List Int} (h : AAt w a l) (hc : Chg w w' No) : AAt w' a l := h.keep hc fun _ _ _ e => e
theorem aat_at {w : World} {a : Option Addr} {l : List Int} (h : AAt w a l) {i : Nat} (hi : i < l.length) : ∃ b o, a = some ⟨b, o, none⟩ ∧ b < w.heap.size ∧ w.cell? ⟨b, o + i, none⟩ = some (.int .i64 (l.getD i 0)) := by
  rcases h with e | ⟨b, o, e, hg, hc⟩
  · rw [e] at hi; exact absurd hi (Nat.not_lt_zero _)
  · exact ⟨b, o, e, hg, hc i hi⟩
section
variable {w w' w0 : World} {A : PA} {σ σ0 : Nat → Option PRole} {zc zr : CSt} {lo : Bool} {V M E : List Lst}
theorem IsP.rlen (h : IsP w A σ zc zr lo V M E) : Calls Tryz.prog 53 #[.pointer (some ⟨A.rd, 0, none⟩)] w fun e w' => e = .returned (.int .i64 A.n) ∧ w' = w := by
  obtain ⟨ρ, ρ', lv, mv, ev, h⟩ := h
  obtain ⟨rk, rc, X, v0, v1, lv', tv, W, hr⟩ := h.rc
  exact D.rlen_any w hr.dk
theorem IsP.inv (h : IsP w A σ zc zr lo V M E) : CInv A.n zc ∧ CInv A.n zr := (PF.start h).inv
set_option maxRecDepth 100000 in
set_option maxHeartbeats 2000000 in
theorem sector_any (x : Int) (h : IsP w A σ zc zr lo V M E) (hx : I64 x) : Calls Tryz.prog 25 #[.pointer (some ⟨A.pp, 0, none⟩), .int .i64 x] w fun e w' => e = .returned (.int .i64 (secP A.n x)) ∧ w' = w := by
  have k2 : w.cell? ⟨A.pp, 2, none⟩ = some (.pointer (some ⟨A.rd, 0, none⟩)) := (PF.start h).cell 2
  have HL := h.rlen
  have hn := h.inv.1.top
  obtain ⟨hx0, hx1⟩ := hx
  have HPK := D.pick_any x ((A.n : Int) + 1) w ⟨hx0, hx1⟩ (by omega) (by omega)
  clear h
  by_cases h1 : 40 < x
  · have HE := hid (secP_out (n := A.n) (.inl h1))
    go_enter Tryz.func25, Tryz.ntmps25
    go_wp2_with fail
    go_ret
    exact ⟨ret_int HE.out.symm, rfl⟩
  · by_cases h2 : x < -40
    · have HE := hid (secP_out (n := A.n) (.inr h2))
      go_enter Tryz.func25, Tryz.ntmps25
      go_wp2_with fail
      go_ret
      exact ⟨ret_int HE.out.symm, rfl⟩
    · have HE := hid (secP_in (n := A.n) (x := x) (by omega))
      generalize secP A.n x = y at *
      generalize hnn : A.n = nn at *
      clear hnn
      go_enter Tryz.func25, Tryz.ntmps25
      go_wp2_with (first
        | (go_at_call 53; go_must (refine HL.mono ?_; rintro e w' ⟨rfl, hw⟩; have hw := hw.symm; subst hw))
        | (go_at_call 26; go_must (refine HPK.mono ?_; rintro e w' ⟨rfl, hw⟩; have hw := hw.symm; subst hw))
        | fail)
      go_ret
      exact ⟨ret_int HE.out.symm, rfl⟩
set_option maxRecDepth 100000 in
set_option maxHeartbeats 4000000 in
theorem after_any (l : List Int) (a : Option Addr) (ca : Nat) (h : IsP w A σ zc zr lo V M E) (hl : AAt w a l) (hm : l.length ≤ 17592186044000) (hI : ∀ k, k < l.length → I64 (l.getD k 0)) :
    Calls Tryz.prog 44 #[.pointer (some ⟨A.pp, 0, none⟩), .slice a l.length ca] w fun e w' => ∃ v, e = .returned v ∧ Ints w' w.heap.size v (l.map (secP A.n)) ∧ Chg w w' No := by
  have HH := hid h
  have HL := hid hl
  have HI := hid hI
  obtain ⟨m, hml⟩ : ∃ m, m = l.length := ⟨_, rfl⟩
  have HM := hid hml
  rw [← hml] at hm
  rw [← hml]
  clear h hl hI hml
  go_enter Tryz.func44, Tryz.ntmps44
  go_wp2_with fail
  go_loopw [5, 6] (fun x5 x6 wr => ∃ k : Nat, x6 = .int .i64 (k : Int) ∧ k ≤ m ∧ Hid (Ints wr w.heap.size x5 ((l.take k).map (secP A.n))) ∧ Hid (Chg w wr No)) (fun _ x6 _ => m - (intOf x6).toNat)
  case atStart => exact ⟨0, rfl, Nat.zero_le _, hid (World.ownsRow_nil _ _ _ _), hid (Chg.refl _ _)⟩
  case round =>
    obtain ⟨k, rfl, hk, HV, HC⟩ := hrel
    obtain ⟨a5, c5, hv5, _, _⟩ := HV.out.lat
    have hlk : ((l.take k).map (secP A.n)).length = k := by rw [List.length_map, List.length_take]; have := HM.out; omega
    rw [hlk] at hv5
    subst hv5
    by_cases hlt : k < m
    · have hkl : k < l.length := by rw [← HM.out]; exact hlt
      have hki : (k : Int) < (m : Int) := by omega
      obtain ⟨g, o, hga, _, p1⟩ := aat_at (HL.out.call HC.out) hkl
      subst hga
      have HTk : Hid ((l.take (k + 1)).map (secP A.n) = (l.take k).map (secP A.n) ++ [secP A.n (l.getD k 0)]) := hid (by rw [take_snoc hkl, List.map_append]; rfl)
      have hS := sector_any (l.getD k 0) (HH.out.call HC.out) (HI.out k hkl)
      generalize l.getD k 0 = y at *
      generalize secP A.n y = sy at *
      have HLK := hid hlk
      clear hkl hlk
      go_wp2_with (first
        | (go_at_call 25; go_must (refine hS.mono ?_; rintro e w' ⟨rfl, hw⟩; have hw := hw.symm; subst hw))
        | (at_builtin; go_must (refine wp_appL rfl _ _ rfl w.heap.size (.slice a5 k c5) ((l.take k).map (secP A.n)) [sy] (some ⟨wr.heap.size, 0, none⟩) 1 rfl rfl (row_keep HV.out (Chg.alloc wr _ No) (fun _ _ e => e)) (lat_one _ _) (fun e => by cases e) (by have := HLK.out; simp only [List.length_singleton]; omega) (by have := HC.out.size; simp; omega) ?_; intro v6 w6 h61 h62 h63; have H61 := hid h61; have H62 := hid h62; clear h61 h62 h63))
        | fail)
      refine ⟨⟨k + 1, by go_num, by omega, hid (by rw [HTk.out]; exact H61.out), hid ?_⟩, by simp [intOf]; omega⟩
      refine (HC.out.tr (Chg.alloc wr _ No)).trans H62.out (fun _ _ e => e) (fun j hj e => ?_)
      have := (row_ge HV.out e).1
      omega
    · have hki : ¬ (k : Int) < (m : Int) := by omega
      have HTl : Hid ((l.take k).map (secP A.n) = l.map (secP A.n)) := hid (by rw [List.take_of_length_le (by rw [← HM.out]; omega)])
      go_wp2_with fail
      go_ret
      exact ⟨_, rfl, by rw [← HTl.out]; exact HV.out, HC.out⟩
end
end Go.Proofs.YtamoepninddbcaaGreat
