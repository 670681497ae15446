/-
  CacheTags: a teller, a list of lists of tags, and a list of tags, side by side.
-/
import Derived.Test.YtgkanfmkohlmcaaGreatCTagP
import Derived.Test.YtgkanfmkohlmcaaGreatJL
import Derived.Test.YtgkanfmkohlmcaaGreatT4b
import Derived.Test.YtgkanfmkohlmcaaGreatCElig
namespace Go.Proofs.YtgkanfmkohlmcaaGreat
open Go.RowKit

section
variable {w0 w w' : World} {t c p g n lb db : Nat} {ρ : Nat → Option Role} {ov : Value} {s : TSt}
theorem IsT.asideT {ks : Nat → Prop} (h : IsT w0 w t c p g n lb db ρ ov s) (hc : Chg w w' ks) (hn : ∀ k, BlkT t lb db ov ρ k → ¬ ks k) (hb : ∀ k, ks k → w0.heap.size ≤ k) : IsT w0 w' t c p g n lb db ρ ov s :=
  ⟨hc.keep h.me (hn _ (.inl rfl)), h.ca.keep hc (fun k hk => hn k (.inr (.inr (.inr (.inr hk))))), hc.keep h.la (hn _ (.inr (.inl rfl))), hc.keep h.da (hn _ (.inr (.inr (.inl rfl)))),
    row_keep h.oa hc (fun k hk => hn k (.inr (.inr (.inr (.inl hk))))), h.ll, h.dl, h.nt, h.nl, h.nd, h.no, h.bt, h.bl, h.bd, h.bo, h.ch.trans hc (fun _ _ e => e) (fun j hj e => by have := hb j e; omega)⟩

/-- Side by side: a teller; lists of tags; a list of tags. -/
structure Dk (w0 w : World) (t c p g n lb db : Nat) (ρ : Nat → Option Role) (ov : Value) (s : TSt) (gl : Nat) (V : List Lst) (LL : List (List Int)) (nv : Value) (nw : List Int) (B : Nat) : Prop where
  T : IsT w0 w t c p g n lb db ρ ov s
  L : Lot B 26 3 1 (.slice (some ⟨gl, 0, none⟩) n n) V w
  vl : V.length = n
  ll : LL.length = n
  vx : ∀ (j : Nat) x, V[j]? = some x → x.n = (LL.getD j []).length ∧ x.xs = (LL.getD j []).map (Value.int .i64)
  N : Ints w B nv nw
  d1 : ∀ k, LotB (.slice (some ⟨gl, 0, none⟩) n n) V k → ¬ BlkT t lb db ov ρ k
  d2 : ∀ k, nv.ownBlock = some k → ¬ BlkT t lb db ov ρ k ∧ ¬ LotB (.slice (some ⟨gl, 0, none⟩) n n) V k
  b0 : w0.heap.size ≤ B
  b1 : B ≤ w.heap.size
variable {gl : Nat} {V : List Lst} {LL : List (List Int)} {nv : Value} {nw : List Int} {B : Nat}
theorem Dk.lotB_ge (h : Dk w0 w t c p g n lb db ρ ov s gl V LL nv nw B) {k : Nat} (hk : LotB (.slice (some ⟨gl, 0, none⟩) n n) V k) : B ≤ k := by
  rcases hk with e | ⟨j, x, hx, e⟩
  · exact (own_block h.L.row e).1
  · exact (own_block (h.L.own j x hx) e).1
theorem Dk.call (h : Dk w0 w t c p g n lb db ρ ov s gl V LL nv nw B) (hc : Chg w w' No) : Dk w0 w' t c p g n lb db ρ ov s gl V LL nv nw B :=
  ⟨h.T.call hc, h.L.kept hc (fun _ _ e => e), h.vl, h.ll, h.vx, row_keep h.N hc (fun _ _ e => e), h.d1, h.d2, h.b0, Nat.le_trans h.b1 hc.size⟩
/-- The teller has turned, and owns what it did and what is new. -/
theorem Dk.tell {ρ' : Nat → Option Role} {ov' : Value} {s' : TSt} (h : Dk w0 w t c p g n lb db ρ ov s gl V LL nv nw B) (hT : IsT w0 w' t c p g n lb db ρ' ov' s') (hb : ∀ k, BlkT t lb db ov' ρ' k → BlkT t lb db ov ρ k ∨ w.heap.size ≤ k) (hc : Chg w w' (BlkT t lb db ov ρ)) :
    Dk w0 w' t c p g n lb db ρ' ov' s' gl V LL nv nw B :=
  ⟨hT, h.L.kept hc (fun k hk e => h.d1 k hk e), h.vl, h.ll, h.vx, row_keep h.N hc (fun k hk e => (h.d2 k hk).1 e), fun k hk e => by
    rcases hb k e with e | e
    · exact h.d1 k hk e
    · have := h.L.blk_lt hk; omega, fun k hk => ⟨fun e => by
    rcases hb k e with e | e
    · exact (h.d2 k hk).1 e
    · have := (row_ge h.N hk).2; omega, (h.d2 k hk).2⟩, h.b0, Nat.le_trans h.b1 hc.size⟩
theorem Dk.post {z' : CSt} (h : Dk w0 w t c p g n lb db ρ ov s gl V LL nv nw B) (hP : CPost w w' c p g n ρ z') : ∃ ρ', Dk w0 w' t c p g n lb db ρ' ov { s with z := z' } gl V LL nv nw B := by
  obtain ⟨ρ', h1, h2⟩ := h.T.cache2 hP
  exact ⟨ρ', h.tell h1 (fun k hk => blk_own h2 hk) ((post_chg hP).mono fun _ _ e => .inr (.inr (.inr (.inr e))))⟩
/-- The list of tags has grown. -/
theorem Dk.now {nv' : Value} {nw' : List Int} (h : Dk w0 w t c p g n lb db ρ ov s gl V LL nv nw B) (hN : Ints w' B nv' nw') (hc : Chg w w' (fun k => nv.ownBlock = some k)) (ho : nv'.ownBlock = nv.ownBlock ∨ nv'.ownBlock = some w.heap.size) :
    Dk w0 w' t c p g n lb db ρ ov s gl V LL nv' nw' B := by
  refine ⟨h.T.asideT hc (fun k hk e => (h.d2 k e).1 hk) (fun k e => ?_), h.L.kept hc (fun k hk e => (h.d2 k e).2 hk), h.vl, h.ll, h.vx, hN, h.d1, fun k hk => ?_, h.b0, Nat.le_trans h.b1 hc.size⟩
  · exact Nat.le_trans h.b0 (row_ge h.N e).1
  · rcases ho with e | e
    · exact h.d2 k (by rw [← e]; exact hk)
    · rw [e] at hk
      have := Option.some.inj hk
      exact ⟨fun k1 => by have := blkT_lt h.T k1; omega, fun k1 => by have := h.L.blk_lt k1; omega⟩
/-- One of the lists has grown. -/
theorem Dk.later {x : Lst} {k : Nat} {v5 : Value} {l : List Int} (h : Dk w0 w t c p g n lb db ρ ov s gl V LL nv nw B) (hx : V[k]? = some x) (hI : Ints w' B v5 l) (hg : w.grownBy w' x.v.ownBlock) (h5 : v5.ownBlock = x.v.ownBlock ∨ v5.ownBlock = some w.heap.size) :
    Dk w0 (w'.setCell ⟨gl, k, none⟩ v5) t c p g n lb db ρ ov s gl (V.set k ⟨v5, l.length, l.map (Value.int .i64)⟩) (LL.set k l) nv nw B := by
  obtain ⟨r1, r2⟩ := h.L.regrow (by decide) hx hI hg h5
  have hkl : k < V.length := (List.getElem?_eq_some_iff.1 hx).1
  have hgB : LotB (.slice (some ⟨gl, 0, none⟩) n n) V gl := .inl rfl
  have hc : Chg w (w'.setCell ⟨gl, k, none⟩ v5) (LotB (.slice (some ⟨gl, 0, none⟩) n n) V) :=
    (Chg.grown hg).trans Chg.setCell (fun j _ e => .inr ⟨k, x, hx, e.symm⟩) (fun j _ e => by rw [e]; exact hgB)
  refine ⟨h.T.asideT hc (fun j hj e => h.d1 j e hj) (fun j e => Nat.le_trans h.b0 (h.lotB_ge e)), r1, by rw [List.length_set]; exact h.vl, by rw [List.length_set]; exact h.ll, fun j y hy => ?_, row_keep h.N hc (fun j hj e => (h.d2 j hj).2 e), fun j hj e => ?_, fun j hj => ⟨(h.d2 j hj).1, fun e => ?_⟩, h.b0, Nat.le_trans h.b1 hc.size⟩
  · rw [List.getElem?_set] at hy
    by_cases e : k = j
    · subst e
      rw [if_pos rfl, if_pos hkl] at hy
      have := (Option.some.inj hy).symm
      subst this
      rw [List.getD_eq_getElem?_getD, List.getElem?_set, if_pos rfl, if_pos (by rw [h.ll, ← h.vl]; exact hkl)]
      exact ⟨rfl, rfl⟩
    · rw [if_neg e] at hy
      rw [List.getD_eq_getElem?_getD, List.getElem?_set, if_neg e, ← List.getD_eq_getElem?_getD]
      exact h.vx j y hy
  · rcases r2 j hj with e2 | e2
    · exact h.d1 j e2 e
    · have := blkT_lt h.T e; omega
  · rcases r2 j e with e2 | e2
    · exact (h.d2 j hj).2 e2
    · have := (row_ge h.N hj).2; omega
theorem Dk.at_ (h : Dk w0 w t c p g n lb db ρ ov s gl V LL nv nw B) {k : Nat} (hk : k < n) : ∃ x a cc, V[k]? = some x ∧ x.v = .slice a (LL.getD k []).length cc ∧ w.cell? ⟨gl, k, none⟩ = some (.slice a (LL.getD k []).length cc) ∧ LAt w a (LL.getD k []) ∧ Ints w B x.v (LL.getD k []) := by
  obtain ⟨x, hx⟩ : ∃ x, V[k]? = some x := ⟨_, List.getElem?_eq_getElem (by rw [h.vl]; exact hk)⟩
  have ho := h.L.own k x hx
  have hv := h.vx k x hx
  have hc := h.L.at hx
  rw [hv.1, hv.2] at ho
  obtain ⟨a, cc, e, hl, _⟩ := Ints.lat (show Ints w B x.v (LL.getD k []) from ho)
  rw [e] at hc
  exact ⟨x, a, cc, hx, e, hc, hl, ho⟩
theorem landed_t (h : IsC w c p g n ρ s.z) : Calls Tryz.prog 7 #[.pointer (some ⟨c, 0, none⟩)] w fun e w' => ∃ (a : Option Addr) (cc : Nat), e = .returned (.slice a s.z.ld.length cc) ∧ LAt w' a s.z.ld ∧ CPost w w' c p g n ρ (toldC s.z) := by
  have hc : Own ρ c := by obtain ⟨_, _, _, _, _, h0⟩ := h; exact ⟨_, h0.rc⟩
  refine (landed_any h).mono ?_
  rintro e w' ⟨a, cc, ρ', rfl, h1, _, h3, h4, h5⟩
  exact ⟨a, cc, rfl, h1, ρ', h3, fun k hk => .inl (h4 k hk), h5.mono fun j _ e => by rw [e]; exact hc⟩
end

end Go.Proofs.YtgkanfmkohlmcaaGreat
