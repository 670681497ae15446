/-
  The book's answers: as they came, one's own, and the room behind each one's own.
-/
import Derived.Test.YtamoepninddbcaaGreatMD
namespace Go.Proofs.YtamoepninddbcaaGreat
open Go.RowKit

def mkQ (i : Nat) : Value := .int .i64 (-9000 - (i : Int))
/-- The lists ahead of m hold marks alone. -/
def MSq (b st m : Nat) (V : List Lst) : Prop := ∀ (j : Nat) x, V[j]? = some x → x.n ≤ b ∧ (j < m → ∀ q, q < x.n → x.xs[q * st]? = some (mkQ j))
theorem set_atQ {V : List Lst} {k : Nat} {x y : Lst} (hx : V[k]? = some x) : (V.set k y)[k]? = some y := by
  rw [List.getElem?_set, if_pos rfl, if_pos (List.getElem?_eq_some_iff.1 hx).1]
theorem MSq.put {b st k : Nat} {V : List Lst} {x : Lst} {ys : List Value} (h : MSq b st k V) (hx : V[k]? = some x) : MSq b st k (V.set k ⟨x.v, x.n, ys⟩) := by
  intro j y hy
  by_cases e : j = k
  · subst e
    rw [set_atQ hx] at hy
    cases hy
    exact ⟨(h _ x hx).1, fun e => absurd e (Nat.lt_irrefl _)⟩
  · rw [List.getElem?_set, if_neg (fun e' => e e'.symm)] at hy
    exact h j y hy
theorem MSq.next {b st k : Nat} {V : List Lst} {x : Lst} (h : MSq b st k V) (hx : V[k]? = some x) (hm : ∀ p, p < x.n → x.xs[p * st]? = some (mkQ k)) : MSq b st (k + 1) V := by
  intro j y hy
  refine ⟨(h j y hy).1, fun hj => ?_⟩
  by_cases e : j = k
  · subst e
    rw [hx] at hy
    cases hy
    exact hm
  · exact (h j y hy).2 (by omega)
theorem markQ2 {xs : List Value} {q : Nat} {m z : Value} (h : ∀ p, p < q → xs[p * 2]? = some m) (hl : q * 2 + 1 < xs.length) : ∀ p, p < q + 1 → ((xs.set (q * 2) m).set (q * 2 + 1) z)[p * 2]? = some m := by
  intro p hp
  rw [List.getElem?_set, if_neg (by omega), List.getElem?_set]
  by_cases e : q * 2 = p * 2
  · rw [if_pos e, if_pos (by omega)]
  · rw [if_neg e]; exact h p (by omega)
theorem markQ1 {xs : List Value} {q : Nat} {m : Value} (h : ∀ p, p < q → xs[p * 1]? = some m) (hl : q < xs.length) : ∀ p, p < q + 1 → (xs.set q m)[p * 1]? = some m := by
  intro p hp
  rw [Nat.mul_one]
  rw [List.getElem?_set]
  by_cases e : q = p
  · rw [if_pos e, if_pos hl]
  · rw [if_neg e]; have := h p (by omega); rwa [Nat.mul_one] at this
/-- A list of marks alone. -/
def GQ (st k : Nat) (A : Lst) : Prop := A.xs.length = A.n * st ∧ ∀ q, q < A.n → A.xs[q * st]? = some (mkQ k)
theorem GQ.grow {st k : Nat} {A : Lst} (h : GQ st k A) (v : Value) (ys : List Value) (hy : ys.length = st) (h0 : ys[0]? = some (mkQ k)) : GQ st k ⟨v, A.n + 1, A.xs ++ ys⟩ := by
  refine ⟨by rw [List.length_append, h.1, hy, Nat.add_mul, Nat.one_mul], fun q hq => ?_⟩
  have hq' : q < A.n + 1 := hq
  have hl := h.1
  have hs : 0 < st := by
    rcases Nat.eq_zero_or_pos st with e | e
    · rw [e] at hy
      rw [List.eq_nil_of_length_eq_zero hy] at h0
      cases h0
    · exact e
  by_cases e : q < A.n
  · show (A.xs ++ ys)[q * st]? = _
    rw [List.getElem?_append_left (by rw [hl]; exact Nat.mul_lt_mul_of_pos_right e hs)]
    exact h.2 q e
  · have e2 : q = A.n := by omega
    subst e2
    show (A.xs ++ ys)[A.n * st]? = _
    rw [List.getElem?_append_right (by omega), hl, Nat.sub_self]
    exact h0
/-- The second lists are the first ones, and nine marks each. -/
def GMq (st : Nat) (V M : List Lst) : Prop := ∀ (j : Nat) x y, V[j]? = some x → M[j]? = some y → y.n = x.n + 9 ∧ GQ st j y
theorem GMq.nil (st : Nat) (V : List Lst) : GMq st V [] := fun j x y _ h => by simp at h
theorem GMq.more {st : Nat} {V M : List Lst} {x y : Lst} {k : Nat} (h : GMq st V M) (hk : M.length = k) (hx : V[k]? = some x) (hn : y.n = x.n + 9) (hc : GQ st k y) : GMq st V (M ++ [y]) := by
  intro j u v hu hv
  rcases get_more hv with ⟨h1, _⟩ | ⟨rfl, rfl⟩
  · exact h j u v hu h1
  · rw [hk] at hu ⊢
    rw [hx] at hu
    cases hu
    exact ⟨hn, hc⟩
theorem MSq.gc {b st m k : Nat} {V : List Lst} {x : Lst} (h : MSq b st m V) (hx : V[k]? = some x) (hk : k < m) (hl : x.xs.length = x.n * st) : GQ st k x :=
  ⟨hl, fun q hq => (h k x hx).2 hk q hq⟩
theorem own_cellQ {w : World} {B e k n g c : Nat} {xs : List Value} (h : w.ownsRow B e k (.slice (some ⟨g, 0, none⟩) n c) n xs) {q : Nat} {v : Value} (hq : xs[q]? = some v) : w.cell? ⟨g, q, none⟩ = some v := by
  have := World.ownsRow.cells h (g := g) rfl q v hq
  rwa [addr_addJ, Nat.zero_add] at this
theorem Duo.readsQ {b B eo e st gl cl gm cm k n : Nat} {V M : List Lst} {w : World} (h : Duo B eo e st (.slice (some ⟨gl, 0, none⟩) n cl) (.slice (some ⟨gm, 0, none⟩) n cm) V M w) (hm : GMq st V M)
    (hs : ∀ x, V[k]? = some x → x.n ≤ b ∧ GQ st k x) (hV : V.length = n) (hM : M.length = n) (hk : k < n) :
    ∃ ax cx N gA cA NA, N ≤ b ∧ NA = N + 9 ∧ w.cell? ⟨gl, k, none⟩ = some (.slice ax N cx) ∧ w.cell? ⟨gm, k, none⟩ = some (.slice (some ⟨gA, 0, none⟩) NA cA) ∧
      (∀ q, q < NA → w.cell? ⟨gA, q * st, none⟩ = some (mkQ k)) ∧ (∀ q, q < N → ∃ g, ax = some ⟨g, 0, none⟩ ∧ w.cell? ⟨g, q * st, none⟩ = some (mkQ k)) := by
  obtain ⟨x, hx⟩ : ∃ x, V[k]? = some x := ⟨_, List.getElem?_eq_getElem (by omega)⟩
  obtain ⟨y, hy⟩ : ∃ x, M[k]? = some x := ⟨_, List.getElem?_eq_getElem (by omega)⟩
  obtain ⟨h1, h2⟩ := hm k x y hx hy
  obtain ⟨h3, h4⟩ := hs x hx
  have ox := h.l.own k x hx
  have oy := h.r.own k y hy
  have fx := h.l.at hx
  have fy := h.r.at hy
  obtain ⟨ax, cx, vx, _, _⟩ := row_shape9 ox
  obtain ⟨gA, cA, vy, _⟩ := oy.form (by rw [h1]; omega)
  rw [vy] at oy fy
  rw [vx] at fx
  refine ⟨ax, cx, x.n, gA, cA, y.n, h3, h1, fx, fy, fun q hq => own_cellQ oy (h2.2 q hq), fun q hq => ?_⟩
  obtain ⟨g, c, e1, _⟩ := ox.form (by omega)
  have e2 := e1
  rw [vx] at e2
  injection e2 with e3 _ _
  rw [e1] at ox
  exact ⟨g, e3, own_cellQ ox (h4.2 q hq)⟩
theorem lotB_set {v : Value} {V : List Lst} {j : Nat} {x : Lst} {ys : List Value} (hx : V[j]? = some x) {g : Nat} (hg : LotB v (V.set j ⟨x.v, x.n, ys⟩) g) : LotB v V g := by
  rcases hg with hg | ⟨i, y, hy, hg⟩
  · exact .inl hg
  · by_cases e : j = i
    · subst e
      rw [set_atQ hx] at hy
      cases hy
      exact .inr ⟨j, x, hx, hg⟩
    · rw [List.getElem?_set, if_neg e] at hy
      exact .inr ⟨i, y, hy, hg⟩
theorem Duo.kept {B eo e k : Nat} {v m : Value} {V M : List Lst} {w w' : World} {ks : Nat → Prop} (h : Duo B eo e k v m V M w) (hc : Chg w w' ks) (hl : ∀ g, LotB v V g → ¬ ks g) (hr : ∀ g, LotB m M g → ¬ ks g) : Duo B eo e k v m V M w' :=
  ⟨h.l.kept hc hl, h.r.kept hc hr, h.outer, h.cross⟩
theorem Cur.call {B e k : Nat} {V M : List Lst} {x a : Lst} {w w' : World} (h : Cur B e k V M x a w) (hc : Chg w w' No) : Cur B e k V M x a w' := h.below hc.below
theorem Duo.call {B eo e k : Nat} {v m : Value} {V M : List Lst} {w w' : World} (h : Duo B eo e k v m V M w) (hc : Chg w w' No) : Duo B eo e k v m V M w' := h.below hc.below
theorem chg_grownQ {w w' : World} {g : Nat} {P : Nat → Prop} (h : w.grownBy w' (some g)) (hg : P g) : Chg w w' P := (Chg.grown h).mono fun j _ e => by rw [Option.some.inj e]; exact hg
theorem ownMq {v' v : Value} {s B : Nat} (h : v'.ownBlock = v.ownBlock ∨ v'.ownBlock = some s) (hm : ∀ j, v.ownBlock = some j → B ≤ j) (hs : B ≤ s) : ∀ j, v'.ownBlock = some j → B ≤ j := fun j e => by
  rcases h with e2 | e2
  · exact hm j (by rw [← e2]; exact e)
  · rw [e2] at e
    have := Option.some.inj e
    omega
theorem ownYq {g7 s B : Nat} {v : Value} {P : Nat → Prop} (h : v.ownBlock = some g7 ∨ g7 = s) (hy : ∀ j, v.ownBlock = some j → P j ∨ B ≤ j) (hs : B ≤ s) : ∀ j, some g7 = some j → P j ∨ B ≤ j := fun j e => by
  rcases h with e2 | e2
  · exact hy j (by rw [e2]; exact e)
  · have := Option.some.inj e
    exact .inr (by omega)
theorem len_setQ {V : List Lst} {j : Nat} {y : Lst} : (V.set j y).length = V.length := List.length_set
set_option maxRecDepth 100000 in
set_option maxHeartbeats 40000000 in
theorem still_any {w : World} {ok : Nat} {lv mv ev : Value} {V M E : List Lst} (h : IsBk w ok lv mv ev V M E) (hq : BkEq V M) :
    Calls Tryz.prog 8 #[.pointer (some ⟨ok, 0, none⟩)] w fun e w' => e = .returned (.bool true) ∧ ∃ V' E', IsBk w' ok lv mv ev V' M E' ∧ (∀ k, BkB ok lv mv ev V' M E' k → BkB ok lv mv ev V M E k) ∧ Chg w w' (BkB ok lv mv ev V M E) := by
  obtain ⟨al, cl, hlv⟩ := row_shK h.l.row
  obtain ⟨am, cm, hmv⟩ := row_shK h.m.row
  obtain ⟨ae, ce, hev⟩ := row_shK h.e.row
  obtain ⟨nV, hnV⟩ : ∃ q, q = V.length := ⟨_, rfl⟩
  obtain ⟨nE, hnE⟩ : ∃ q, q = E.length := ⟨_, rfl⟩
  have hvb := h.vn
  have heb := h.en
  rw [← hnV] at hlv hvb
  rw [h.len, ← hnV] at hmv
  rw [← hnE] at hev heb
  subst hlv hmv hev
  have HH := hid h
  have HQ := hid hq
  have HLenV : Hid (V.length = nV) := hid hnV.symm
  have HLenM : Hid (M.length = nV) := hid (h.len.trans hnV.symm)
  have HLenE : Hid (E.length = nE) := hid hnE.symm
  have HBdV : Hid (∀ (j : Nat) x, V[j]? = some x → x.n ≤ 17592186044000) := hid h.vs
  have HBdE : Hid (∀ (j : Nat) x, E[j]? = some x → x.n ≤ 100000000) := hid h.es
  have HnB : Hid (nV ≤ 2000 ∧ nE ≤ 1000) := hid ⟨hvb, heb⟩
  have HK0 : Hid (∀ W, Chg w W (fun k => LotB (.slice al nV cl) V k ∨ LotB (.slice ae nE ce) E k) → W.cell? ⟨ok, 0, none⟩ = some (.slice al nV cl) ∧ W.cell? ⟨ok, 1, none⟩ = some (.slice am nV cm) ∧ W.cell? ⟨ok, 2, none⟩ = some (.slice ae nE ce)) := hid (fun W hW => by
    have hm := hW.keep HH.out.me (fun e => e.elim HH.out.okl HH.out.oke)
    exact ⟨(cell_of_row _ _ 0 _ _ _ hm).trans rfl, (cell_of_row _ _ 1 _ _ _ hm).trans rfl, (cell_of_row _ _ 2 _ _ _ hm).trans rfl⟩)
  clear h hq hnV hnE
  go_enter Tryz.func8, Tryz.ntmps8
  go_wp2_with fail
  go_loopw [3] (fun x3 wr => ∃ k : Nat, x3 = .int .i64 (k : Int) ∧ k ≤ nV ∧ Hid (Chg w wr No)) (fun x3 _ => nV - (intOf x3).toNat)
  case atStart => exact ⟨0, rfl, Nat.zero_le _, hid (Chg.refl _ _)⟩
  case round =>
    obtain ⟨k, rfl, hk, HC⟩ := hrel
    obtain ⟨c0, c1, _⟩ := HK0.out wr (HC.out.mono fun _ _ e => e.elim)
    have k0 : (0 : Int) ≤ (k : Int) := by omega
    by_cases hlt : k < nV
    · have k1 : (k : Int) < (nV : Int) := by omega
      obtain ⟨x, hx⟩ : ∃ x, V[k]? = some x := ⟨_, List.getElem?_eq_getElem (by have := HLenV.out; omega)⟩
      obtain ⟨y, hy⟩ : ∃ y, M[k]? = some y := ⟨_, List.getElem?_eq_getElem (by have := HLenM.out; omega)⟩
      obtain ⟨l, hxl, hyl, hxn, hyn⟩ := HQ.out k x y hx hy
      have hI := HH.out.call HC.out
      have hxb := HBdV.out k x hx
      obtain ⟨gl, cl', hgl⟩ := hI.l.form (by have := HLenV.out; omega)
      obtain ⟨gm, cm', hgm⟩ := hI.m.form (by have := HLenM.out; omega)
      have e1 := (Value.slice.inj hgl).1
      have e2 := (Value.slice.inj hgm).1
      subst e1 e2
      have cx := hI.l.at hx
      have cy := hI.m.at hy
      have ox := hI.l.own k x hx
      have oy := hI.m.own k y hy
      rw [hxl, hxn] at ox
      rw [hyl, hyn] at oy
      obtain ⟨ax, bx, hxv, lx, _⟩ := Ints.lat (w := wr) (base := 0) (v := x.v) (l := l) ox
      obtain ⟨ay, by_, hyv, ly, _⟩ := Ints.lat (w := wr) (base := 0) (v := y.v) (l := l) oy
      rw [hxv] at cx
      rw [hyv] at cy
      have HS : Hid (∀ W, Chg wr W No → Calls Tryz.prog 40 #[.slice ax l.length bx, .slice ay l.length by_] W fun e w' => e = .returned (.bool true) ∧ Chg W w' No) := hid (fun W hW => sameInts_same l ax ay bx by_ W (by omega) (lx.call hW) (ly.call hW))
      have HCc : Hid (∀ W, Chg wr W No → W.cell? ⟨gl, k, none⟩ = some (.slice ax l.length bx) ∧ W.cell? ⟨gm, k, none⟩ = some (.slice ay l.length by_)) := hid (fun W hW => by
        have hI2 := hI.call hW
        have a1 := hI2.l.at hx
        have a2 := hI2.m.at hy
        rw [hxv] at a1
        rw [hyv] at a2
        exact ⟨a1, a2⟩)
      generalize l.length = ll at *
      clear hx hy hxl hyl hxn hyn hI hgl hgm hxv hyv cx cy ox oy lx ly hxb
      go_upto_region 4 with fail
      clear c0 c1
      refine wp_region_noPanic ?_
      refine wp_region_held_drew (S := fun W => Chg wr W No) (by as_aux_lemma => kernel_rfl) (Chg.refl wr No).drew (fun hHeld => ?_)
      refine takeVal 0 29 (.pointer (some ⟨ok, 0, none⟩)) rfl (by as_aux_lemma => kernel_rfl) (by as_aux_lemma => kernel_rfl) (by as_aux_lemma => kernel_rfl) rfl (by rfl) (fun _ _ _ h => h) hHeld (fun _ hw' => rfl) ?_
      simp only [List.setIfInBounds_toArray, List.set_cons_zero, List.set_cons_succ]
      refine takeVal 1 30 (.pointer (some ⟨ok, 0, none⟩)) rfl (by as_aux_lemma => kernel_rfl) (by as_aux_lemma => kernel_rfl) (by as_aux_lemma => kernel_rfl) rfl (by rfl) (fun _ _ _ h => h) hHeld (fun _ hw' => by go_simp) ?_
      simp only [List.setIfInBounds_toArray, List.set_cons_zero, List.set_cons_succ]
      refine takeVal 2 31 (.pointer (some ⟨ok, 0, none⟩)) rfl (by as_aux_lemma => kernel_rfl) (by as_aux_lemma => kernel_rfl) (by as_aux_lemma => kernel_rfl) rfl (by rfl) (fun _ _ _ h => h) hHeld (fun _ hw' => by go_simp) ?_
      simp only [List.setIfInBounds_toArray, List.set_cons_zero, List.set_cons_succ]
      refine takeVal 3 32 (.slice (some ⟨gl, 0, none⟩) nV cl) rfl (by as_aux_lemma => kernel_rfl) (by as_aux_lemma => kernel_rfl) (by as_aux_lemma => kernel_rfl) rfl (by rfl) (fun _ _ _ h => h) hHeld (fun _ hw' => by have hc := (HK0.out _ ((HC.out.tr hw').mono fun _ _ e => e.elim)).1; go_simp) ?_
      simp only [List.setIfInBounds_toArray, List.set_cons_zero, List.set_cons_succ]
      refine takeVal 4 33 (.int .i64 (k : Int)) rfl (by as_aux_lemma => kernel_rfl) (by as_aux_lemma => kernel_rfl) (by as_aux_lemma => kernel_rfl) rfl (by rfl) (fun _ _ _ h => h) hHeld (fun _ hw' => rfl) ?_
      simp only [List.setIfInBounds_toArray, List.set_cons_zero, List.set_cons_succ]
      refine takeVal 5 34 (.pointer (some ⟨gl, k, none⟩)) rfl (by as_aux_lemma => kernel_rfl) (by as_aux_lemma => kernel_rfl) (by as_aux_lemma => kernel_rfl) rfl (by rfl) (fun _ _ _ h => h) hHeld (fun _ hw' => by go_simp) ?_
      simp only [List.setIfInBounds_toArray, List.set_cons_zero, List.set_cons_succ]
      refine takeVal 6 35 (.slice ax ll bx) rfl (by as_aux_lemma => kernel_rfl) (by as_aux_lemma => kernel_rfl) (by as_aux_lemma => kernel_rfl) rfl (by rfl) (fun _ _ _ h => h) hHeld (fun _ hw' => by have hc := (HCc.out _ hw').1; go_simp) ?_
      simp only [List.setIfInBounds_toArray, List.set_cons_zero, List.set_cons_succ]
      refine takeVal 7 36 (.pointer (some ⟨ok, 0, none⟩)) rfl (by as_aux_lemma => kernel_rfl) (by as_aux_lemma => kernel_rfl) (by as_aux_lemma => kernel_rfl) rfl (by rfl) (fun _ _ _ h => h) hHeld (fun _ hw' => rfl) ?_
      simp only [List.setIfInBounds_toArray, List.set_cons_zero, List.set_cons_succ]
      refine takeVal 8 37 (.pointer (some ⟨ok, 0, none⟩)) rfl (by as_aux_lemma => kernel_rfl) (by as_aux_lemma => kernel_rfl) (by as_aux_lemma => kernel_rfl) rfl (by rfl) (fun _ _ _ h => h) hHeld (fun _ hw' => by go_simp) ?_
      simp only [List.setIfInBounds_toArray, List.set_cons_zero, List.set_cons_succ]
      refine takeVal 9 38 (.pointer (some ⟨ok, 1, none⟩)) rfl (by as_aux_lemma => kernel_rfl) (by as_aux_lemma => kernel_rfl) (by as_aux_lemma => kernel_rfl) rfl (by rfl) (fun _ _ _ h => h) hHeld (fun _ hw' => by go_simp) ?_
      simp only [List.setIfInBounds_toArray, List.set_cons_zero, List.set_cons_succ]
      refine takeVal 10 39 (.slice (some ⟨gm, 0, none⟩) nV cm) rfl (by as_aux_lemma => kernel_rfl) (by as_aux_lemma => kernel_rfl) (by as_aux_lemma => kernel_rfl) rfl (by rfl) (fun _ _ _ h => h) hHeld (fun _ hw' => by have hc := (HK0.out _ ((HC.out.tr hw').mono fun _ _ e => e.elim)).2.1; go_simp) ?_
      simp only [List.setIfInBounds_toArray, List.set_cons_zero, List.set_cons_succ]
      refine takeVal 11 40 (.int .i64 (k : Int)) rfl (by as_aux_lemma => kernel_rfl) (by as_aux_lemma => kernel_rfl) (by as_aux_lemma => kernel_rfl) rfl (by rfl) (fun _ _ _ h => h) hHeld (fun _ hw' => rfl) ?_
      simp only [List.setIfInBounds_toArray, List.set_cons_zero, List.set_cons_succ]
      refine takeVal 12 41 (.pointer (some ⟨gm, k, none⟩)) rfl (by as_aux_lemma => kernel_rfl) (by as_aux_lemma => kernel_rfl) (by as_aux_lemma => kernel_rfl) rfl (by rfl) (fun _ _ _ h => h) hHeld (fun _ hw' => by go_simp) ?_
      simp only [List.setIfInBounds_toArray, List.set_cons_zero, List.set_cons_succ]
      refine takeVal 13 42 (.slice ay ll by_) rfl (by as_aux_lemma => kernel_rfl) (by as_aux_lemma => kernel_rfl) (by as_aux_lemma => kernel_rfl) rfl (by rfl) (fun _ _ _ h => h) hHeld (fun _ hw' => by have hc := (HCc.out _ hw').2; go_simp) ?_
      simp only [List.setIfInBounds_toArray, List.set_cons_zero, List.set_cons_succ]
      refine step1 14 (by as_aux_lemma => kernel_rfl) ?_
      refine stCall 14 43 40 #[.slice ax ll bx, .slice ay ll by_] _ rfl rfl (by rfl) (by go_simp) (HS.out _ hHeld) ?_
      rintro e w2 ⟨rfl, hc2⟩
      have hHeld : Chg wr w2 No := hHeld.tr hc2
      refine ⟨_, rfl, hHeld, ?_⟩
      simp only [List.setIfInBounds_toArray, List.set_cons_zero, List.set_cons_succ]
      refine takeVal 15 44 (.bool false) rfl (by as_aux_lemma => kernel_rfl) (by as_aux_lemma => kernel_rfl) (by as_aux_lemma => kernel_rfl) rfl (by rfl) (fun _ _ _ h => h) hHeld (fun _ hw' => by go_simp) ?_
      simp only [List.setIfInBounds_toArray, List.set_cons_zero, List.set_cons_succ]
      refine wpAnyH_done (by as_aux_lemma => kernel_rfl) ?_ _
      refine NoPanic.normal ?_
      have HX := hid (HC.out.tr hHeld)
      clear hHeld hc2
      go_wp2_with fail
      exact ⟨⟨k + 1, by go_num, by omega, HX⟩, by simp [intOf]; omega⟩
    · have k1 : ¬ (k : Int) < (nV : Int) := by omega
      go_wp2_with fail
      clear c0 c1
      obtain ⟨wp, hwp⟩ : ∃ y, y = wr := ⟨_, rfl⟩
      subst hwp
      have HIp := hid (HH.out.call HC.out)
      have HL0V := hid HIp.out.l
      have HCel : Hid (∀ W, Chg wp W (LotB (.slice al nV cl) V) → W.cell? ⟨ok, 0, none⟩ = some (.slice al nV cl)) := hid (fun W hW => (HK0.out W (HC.out.trans hW (fun _ _ e => e.elim) (fun _ _ e => .inl e))).1)
      go_loopw [4] (fun i wq => ∃ (k : Nat) (V' : List Lst), k ≤ nV ∧ i = .int .i64 k ∧ V'.length = nV ∧ Hid (Lot 0 27 3 1 (Value.slice al nV cl) V' wq) ∧ Hid (MSq 17592186044000 1 k V') ∧ Hid (∀ g, LotB (Value.slice al nV cl) V' g → LotB (Value.slice al nV cl) V g) ∧ Hid (Chg wp wq (LotB (Value.slice al nV cl) V))) (fun i _ => nV - (intOf i).toNat)
      case atStart => exact ⟨0, V, by omega, rfl, HLenV.out, HL0V, hid (fun j x hx => ⟨HBdV.out j x hx, fun e => absurd e (Nat.not_lt_zero _)⟩), hid (fun _ e => e), hid (Chg.refl _ _)⟩
      case round =>
        obtain ⟨k, V', hk, rfl, hVk, HV, HS, HSub, HK⟩ := hrel
        have q0 := HCel.out wr HK.out
        have k0 : (0 : Int) ≤ (k : Int) := by omega
        by_cases hlt : k < nV
        · have k1 : (k : Int) < (nV : Int) := by omega
          obtain ⟨gl, cl', hgl⟩ := HV.out.form (by omega)
          obtain ⟨x, hx⟩ : ∃ x, V'[k]? = some x := ⟨_, List.getElem?_eq_getElem (by omega)⟩
          obtain ⟨ax, cx, hxv, hxc, hxd⟩ := row_shape9 (HV.out.own k x hx)
          clear hxc hxd
          have hN : x.n ≤ 17592186044000 := (HS.out k x hx).1
          obtain ⟨xv, N, xs⟩ := x
          simp only at hxv hN
          subst hxv
          have HX := hid hx
          have HGl : Hid ((Value.slice al nV cl) = .slice (some ⟨gl, 0, none⟩) nV cl') := hid (by have h9 := hgl; rw [hVk] at h9; exact h9)
          rw [HGl.out] at q0
          have HVk := hid hVk
          clear hx hgl hVk
          go_wp2_with fail
          obtain ⟨wo, hwo⟩ : ∃ y, y = wr := ⟨_, rfl⟩
          subst hwo
          clear q0
          go_loopw [5] (fun i wq => ∃ (q : Nat) (V' : List Lst) (xs : List Value), q ≤ N ∧ i = .int .i64 q ∧ Hid (V'.length = nV) ∧ Hid (V'[k]? = some ⟨.slice ax N cx, N, xs⟩) ∧ Hid (Lot 0 27 3 1 (Value.slice al nV cl) V' wq) ∧ Hid (MSq 17592186044000 1 k V') ∧ Hid (∀ p, p < q → xs[p * 1]? = some (mkQ k)) ∧ Hid (∀ g, LotB (Value.slice al nV cl) V' g → LotB (Value.slice al nV cl) V g) ∧ Hid (Chg wp wq (LotB (Value.slice al nV cl) V))) (fun i _ => N - (intOf i).toNat)
          case atStart => exact ⟨0, V', xs, by omega, rfl, HVk, HX, HV, HS, hid (fun p hp => absurd hp (Nat.not_lt_zero _)), HSub, HK⟩
          case round =>
            clear HX HV HS HK HVk HSub
            clear V' xs
            obtain ⟨q, V', xs, hq, rfl, HVk, HX, HV, HS, HQ, HSub, HK⟩ := hrel
            have q0 := HCel.out wr HK.out
            rw [HGl.out] at q0
            have hLv := HV.out
            rw [HGl.out] at hLv
            have hc : wr.cell? ⟨gl, k, none⟩ = some (.slice ax N cx) := hLv.at HX.out
            clear hLv
            have i0 : (0 : Int) ≤ (q : Int) := by omega
            by_cases hlq : q < N
            · have i1 : (q : Int) < (N : Int) := by omega
              have hxo := HV.out.own k _ HX.out
              obtain ⟨gx, cx', hxv, hBx, _⟩ := hxo.form (by show 0 < N; omega)
              injection hxv with e1 e2 e3
              subst e1 e3
              clear e2 hBx
              have HGx : Hid (LotB (Value.slice al nV cl) V gx) := hid (HSub.out gx (.inr ⟨k, _, HX.out, rfl⟩))
              have hxl : xs.length = N * 1 := hxo.1
              obtain ⟨u, hu⟩ : ∃ u, xs[q]? = some u := ⟨_, List.getElem?_eq_getElem (by omega)⟩
              have hcr : wr.cell? ⟨gx, q, none⟩ = some u := (World.ownsRow.cellAt hxo q (by omega)).trans hu
              have hfr : wr.frozen? ⟨gx, q, none⟩ = false := World.ownsRow.frozenAt hxo q
              have st := World.ownsRow.stored hxo q (.int .i64 (-9000 - (k : Int)))
              obtain ⟨w5, hw5⟩ : ∃ y, y = wr.setCell ⟨gx, q, none⟩ (.int .i64 (-9000 - (k : Int))) := ⟨_, rfl⟩
              rw [← hw5] at st
              have L5 := hid (HV.out.put (by decide) HX.out rfl st.2 st.1)
              have K5 := hid (HK.out.trans (chg_grownQ st.2 HGx.out) (fun _ _ e => e) (fun _ _ e => e))
              clear hxo st hu
              go_upto_region 11 with fail
              rw [← hw5]
              clear hw5 hc hcr hfr q0
              go_wp2_with fail
              exact ⟨⟨q + 1, _, _, by omega, by go_num, hid (len_setQ.trans HVk.out), hid (set_atQ HX.out), L5, hid (HS.out.put HX.out), hid (markQ1 HQ.out (by show q < xs.length; omega)), hid (fun g hg => HSub.out g (lotB_set HX.out hg)), K5⟩, by simp [intOf]; omega⟩
            · have hqN : q = N := by omega
              subst hqN
              have hge : ¬ ((q : Int) < (q : Int)) := by omega
              have HS2 := hid (HS.out.next HX.out HQ.out)
              clear HS HQ HX
              go_wp2_with fail
              exact ⟨⟨k + 1, V', by omega, by go_num, HVk.out, HV, HS2, HSub, HK⟩, by simp [intOf]; omega⟩
        · have hkn : k = nV := by omega
          have hge : ¬ ((k : Int) < (nV : Int)) := by omega
          go_wp2_with fail
          obtain ⟨w2, hw2⟩ : ∃ y, y = wr := ⟨_, rfl⟩
          subst hw2
          have HLV2 := HV
          have HMSV : Hid (MSq 17592186044000 1 nV V') := hid (by rw [← hkn]; exact HS.out)
          have HSubV := HSub
          have HC2 : Hid (Chg w w2 (LotB (.slice al nV cl) V)) := hid (HC.out.trans HK.out (fun _ _ e => e.elim) (fun _ _ e => e))
          obtain ⟨V2, hV2⟩ : ∃ q, q = V' := ⟨_, rfl⟩
          rw [← hV2] at HLV2 HMSV HSubV hVk
          have HLenV2 := hid hVk
          clear hV2 HV HS HSub HK hge hkn hlt k0 hk hVk q0 HIp HL0V HCel
          have HL0E : Hid (Lot 0 64 73 2 (.slice ae nE ce) E w2) := hid (HH.out.e.kept HC2.out (fun g hg e => HH.out.le_ e hg))
          have HCelE : Hid (∀ W, Chg w2 W (LotB (.slice ae nE ce) E) → W.cell? ⟨ok, 2, none⟩ = some (.slice ae nE ce)) := hid (fun W hW => (HK0.out W (HC2.out.trans hW (fun _ _ e => .inl e) (fun _ _ e => .inr e))).2.2)
          clear HC
          obtain ⟨wp, hwp⟩ : ∃ y, y = w2 := ⟨_, rfl⟩
          subst hwp
          go_loopw [6] (fun i wq => ∃ (k : Nat) (V' : List Lst), k ≤ nE ∧ i = .int .i64 k ∧ V'.length = nE ∧ Hid (Lot 0 64 73 2 (Value.slice ae nE ce) V' wq) ∧ Hid (MSq 100000000 2 k V') ∧ Hid (∀ g, LotB (Value.slice ae nE ce) V' g → LotB (Value.slice ae nE ce) E g) ∧ Hid (Chg wp wq (LotB (Value.slice ae nE ce) E))) (fun i _ => nE - (intOf i).toNat)
          case atStart => exact ⟨0, E, by omega, rfl, HLenE.out, HL0E, hid (fun j x hx => ⟨HBdE.out j x hx, fun e => absurd e (Nat.not_lt_zero _)⟩), hid (fun _ e => e), hid (Chg.refl _ _)⟩
          case round =>
            obtain ⟨k, V', hk, rfl, hVk, HV, HS, HSub, HK⟩ := hrel
            have q0 := HCelE.out wr HK.out
            have k0 : (0 : Int) ≤ (k : Int) := by omega
            by_cases hlt : k < nE
            · have k1 : (k : Int) < (nE : Int) := by omega
              obtain ⟨gl, cl', hgl⟩ := HV.out.form (by omega)
              obtain ⟨x, hx⟩ : ∃ x, V'[k]? = some x := ⟨_, List.getElem?_eq_getElem (by omega)⟩
              obtain ⟨ax, cx, hxv, hxc, hxd⟩ := row_shape9 (HV.out.own k x hx)
              clear hxc hxd
              have hN : x.n ≤ 100000000 := (HS.out k x hx).1
              obtain ⟨xv, N, xs⟩ := x
              simp only at hxv hN
              subst hxv
              have HX := hid hx
              have HGl : Hid ((Value.slice ae nE ce) = .slice (some ⟨gl, 0, none⟩) nE cl') := hid (by have h9 := hgl; rw [hVk] at h9; exact h9)
              rw [HGl.out] at q0
              have HVk := hid hVk
              clear hx hgl hVk
              go_wp2_with fail
              obtain ⟨wo, hwo⟩ : ∃ y, y = wr := ⟨_, rfl⟩
              subst hwo
              clear q0
              go_loopw [7] (fun i wq => ∃ (q : Nat) (V' : List Lst) (xs : List Value), q ≤ N ∧ i = .int .i64 q ∧ Hid (V'.length = nE) ∧ Hid (V'[k]? = some ⟨.slice ax N cx, N, xs⟩) ∧ Hid (Lot 0 64 73 2 (Value.slice ae nE ce) V' wq) ∧ Hid (MSq 100000000 2 k V') ∧ Hid (∀ p, p < q → xs[p * 2]? = some (mkQ k)) ∧ Hid (∀ g, LotB (Value.slice ae nE ce) V' g → LotB (Value.slice ae nE ce) E g) ∧ Hid (Chg wp wq (LotB (Value.slice ae nE ce) E))) (fun i _ => N - (intOf i).toNat)
              case atStart => exact ⟨0, V', xs, by omega, rfl, HVk, HX, HV, HS, hid (fun p hp => absurd hp (Nat.not_lt_zero _)), HSub, HK⟩
              case round =>
                clear HX HV HS HK HVk HSub
                clear V' xs
                obtain ⟨q, V', xs, hq, rfl, HVk, HX, HV, HS, HQ, HSub, HK⟩ := hrel
                have q0 := HCelE.out wr HK.out
                rw [HGl.out] at q0
                have hLv := HV.out
                rw [HGl.out] at hLv
                have hc : wr.cell? ⟨gl, k, none⟩ = some (.slice ax N cx) := hLv.at HX.out
                clear hLv
                have i0 : (0 : Int) ≤ (q : Int) := by omega
                by_cases hlq : q < N
                · have i1 : (q : Int) < (N : Int) := by omega
                  have hxo := HV.out.own k _ HX.out
                  obtain ⟨gx, cx', hxv, hBx, _⟩ := hxo.form (by show 0 < N; omega)
                  injection hxv with e1 e2 e3
                  subst e1 e3
                  clear e2 hBx
                  have HGx : Hid (LotB (Value.slice ae nE ce) E gx) := hid (HSub.out gx (.inr ⟨k, _, HX.out, rfl⟩))
                  have hxl : xs.length = N * 2 := hxo.1
                  clear hxo
                  go_upto_region 18 with (first
                    | (refine wp_putE rfl (.tmp 109) (.tmp 108) rfl 0 gx cx k q _ V' ⟨.slice (some ⟨gx, 0, none⟩) N cx, N, xs⟩ (-9000 - (k : Int)) 5 rfl rfl HV.out HX.out rfl hlq ?_; intro w5 hl5 hg5; have L5 := hid hl5; have K5 := hid (HK.out.trans (chg_grownQ hg5 HGx.out) (fun _ _ e => e) (fun _ _ e => e)); clear hl5 hg5)
                    | fail)
                  clear hc q0
                  go_wp2_with fail
                  exact ⟨⟨q + 1, _, _, by omega, by go_num, hid (len_setQ.trans HVk.out), hid (set_atQ HX.out), L5, hid (HS.out.put HX.out), hid (markQ2 HQ.out (by show q * 2 + 1 < xs.length; omega)), hid (fun g hg => HSub.out g (lotB_set HX.out hg)), K5⟩, by simp [intOf]; omega⟩
                · have hqN : q = N := by omega
                  subst hqN
                  have hge : ¬ ((q : Int) < (q : Int)) := by omega
                  have HS2 := hid (HS.out.next HX.out HQ.out)
                  clear HS HQ HX
                  go_wp2_with fail
                  exact ⟨⟨k + 1, V', by omega, by go_num, HVk.out, HV, HS2, HSub, HK⟩, by simp [intOf]; omega⟩
            · have hkn : k = nE := by omega
              have hge : ¬ ((k : Int) < (nE : Int)) := by omega
              go_wp2_with fail
              obtain ⟨w3, hw3⟩ : ∃ y, y = wr := ⟨_, rfl⟩
              subst hw3
              have HMSE : Hid (MSq 100000000 2 nE V') := hid (by rw [← hkn]; exact HS.out)
              have HSubE := HSub
              have HC3 : Hid (Chg w w3 (fun k => LotB (.slice al nV cl) V k ∨ LotB (.slice ae nE ce) E k)) := hid (HC2.out.trans HK.out (fun _ _ e => .inl e) (fun _ _ e => .inr e))
              obtain ⟨E2, hE2⟩ : ∃ q, q = V' := ⟨_, rfl⟩
              have HLE2 := HV
              rw [← hE2] at HLE2 HMSE HSubE hVk
              have HLenE2 := hid hVk
              have HLV3 : Hid (Lot 0 27 3 1 (.slice al nV cl) V2 w3) := hid (HLV2.out.kept HK.out (fun g hg e => HH.out.le_ (HSubV.out g hg) e))
              clear hE2 HV HS HSub HK hge hkn hlt k0 hk hVk q0 HL0E HCelE HLV2
              have HCelV : Hid (∀ W, Chg w3 W (LotB (.slice al nV cl) V2) → W.cell? ⟨ok, 0, none⟩ = some (.slice al nV cl)) := hid (fun W hW => (HK0.out W (HC3.out.trans hW (fun _ _ e => e) (fun _ _ e => .inl (HSubV.out _ e)))).1)
              clear HC2
              obtain ⟨wp, hwp⟩ : ∃ y, y = w3 := ⟨_, rfl⟩
              subst hwp
              have HL0V2 := HLV3
              have HMSV2 := HMSV
              go_loopw [8, 10] (fun m i wq => ∃ (k : Nat) (M : List Lst) (mv : Value), mv = m ∧ k ≤ nV ∧ i = .int .i64 k ∧ M.length = k ∧ Hid (Duo 0 27 3 1 (Value.slice al nV cl) mv V2 M wq) ∧ Hid (GMq 1 V2 M) ∧ Hid (∀ j, mv.ownBlock = some j → wp.heap.size ≤ j) ∧ Hid (Chg wp wq (LotB (Value.slice al nV cl) V2))) (fun _ i _ => nV - (intOf i).toNat)
              case atStart => exact ⟨0, [], _, rfl, by omega, rfl, rfl, hid (Duo.start HL0V2.out), hid (GMq.nil _ _), hid (fun j e => by cases e), hid (Chg.refl _ _)⟩
              case round =>
                obtain ⟨k, M', mv', rfl, hk, rfl, hMk, HD, HGM, HMo, HK⟩ := hrel
                have q0 := HCelV.out wr HK.out
                have k0 : (0 : Int) ≤ (k : Int) := by omega
                by_cases hlt : k < nV
                · have k1 : (k : Int) < (nV : Int) := by omega
                  obtain ⟨gl, cl', hgl⟩ := HD.out.l.form (by have := HLenV2.out; omega)
                  have HGl : Hid ((Value.slice al nV cl) = .slice (some ⟨gl, 0, none⟩) nV cl') := hid (by have h9 := hgl; rw [HLenV2.out] at h9; exact h9)
                  rw [HGl.out] at q0
                  obtain ⟨x, hx⟩ : ∃ x, V2[k]? = some x := ⟨_, List.getElem?_eq_getElem (by have := HLenV2.out; omega)⟩
                  have hN : x.n ≤ 17592186044000 := (HMSV2.out k x hx).1
                  have G0 := hid (HMSV2.out.gc hx hlt (HD.out.l.own k x hx).1)
                  have C0 := hid (HD.out.cur hx)
                  have hcx : wr.cell? ⟨gl, k, none⟩ = some x.v := (by have hL := HD.out.l; rw [HGl.out] at hL; exact hL.at hx)
                  obtain ⟨ax, cx, hxv, hxc, hxd⟩ := row_shape9 (HD.out.l.own k x hx)
                  clear hxc hxd hgl
                  have HXV := hid hxv
                  rw [hxv] at hcx
                  have HX := hid (show V2[M'.length]? = some x by rw [hMk]; exact hx)
                  have HYb : Hid (∀ j, x.v.ownBlock = some j → LotB (Value.slice al nV cl) V2 j ∨ wp.heap.size ≤ j) := hid (fun j e => .inl (.inr ⟨k, x, hx, e⟩))
                  have HMk := hid hMk
                  clear hx hxv hMk
                  obtain ⟨N, hNn⟩ : ∃ N, N = x.n := ⟨_, rfl⟩
                  rw [← hNn] at hcx hN
                  have HNn := hid hNn
                  clear hNn
                  go_wp2_with fail
                  clear hcx q0
                  obtain ⟨wo, hwo⟩ : ∃ y, y = wr := ⟨_, rfl⟩
                  subst hwo
                  go_loopw [11, 12] (fun a i wq => ∃ (r : Nat) (A : Lst), r ≤ 9 ∧ i = .int .i64 r ∧ a = A.v ∧ A.n = N + r ∧ Hid (Duo 0 27 3 1 (Value.slice al nV cl) mv' V2 M' wq) ∧ Hid (Cur 0 3 1 V2 M' x A wq) ∧ Hid (GQ 1 k A) ∧ Hid (∀ j, A.v.ownBlock = some j → LotB (Value.slice al nV cl) V2 j ∨ wp.heap.size ≤ j) ∧ Hid (Chg wp wq (LotB (Value.slice al nV cl) V2))) (fun _ i _ => 9 - (intOf i).toNat)
                  case atStart => exact ⟨0, x, by omega, rfl, by rw [HXV.out, HNn.out], by rw [HNn.out]; rfl, HD, C0, G0, HYb, HK⟩
                  case round =>
                    clear HD C0 G0 HK HYb
                    obtain ⟨r, A, hr, rfl, rfl, hAn, HD, C0, G0, HYb, HK⟩ := hrel
                    have r0 : (0 : Int) ≤ (r : Int) := by omega
                    by_cases hlr : r < 9
                    · have r1 : (r : Int) < 9 := by omega
                      have HAn := hid hAn
                      clear hAn
                      go_wp2_with (first
                        | (at_builtin; go_must (refine wp_growI rfl _ _ rfl 0 wr.heap.size 1 _ _ V2 M' x A (-9000 - (k : Int)) rfl rfl (HD.out.call (Chg.alloc wr _ No)) (heap_alloc_new _ _) HX.out (C0.out.call (Chg.alloc wr _ No)) (by have := HAn.out; omega) (Nat.zero_le _) ?_; intro g7 c7 w7 hd7 hc7 hch7 ho7; have D7 := hid hd7; have C7 := hid hc7; have K7 := hid ((HK.out.trans (Chg.alloc wr _ No) (fun _ _ e => e) (fun _ _ e => e.elim)).trans hch7 (fun _ _ e => e) (fun j hj e => (HYb.out j e).resolve_right (by omega))); have Y7 : Hid (∀ j, (Value.slice (some ⟨g7, 0, none⟩) (A.n + 1) c7).ownBlock = some j → LotB (Value.slice al nV cl) V2 j ∨ wp.heap.size ≤ j) := hid (ownYq ho7 HYb.out (by have h9 := HK.out.size; simp only [World.size_alloc]; omega)); clear hd7 hc7 hch7 ho7 HD C0 HK HYb))
                        | fail)
                      exact ⟨⟨r + 1, _, by omega, by go_num, rfl, by show A.n + 1 = _; rw [HAn.out]; omega, D7, C7, hid (G0.out.grow _ _ rfl rfl), Y7, K7⟩, by simp [intOf]; omega⟩
                    · have hr9 : r = 9 := by omega
                      subst hr9
                      have hge : ¬ (((9 : Nat) : Int) < 9) := by decide
                      have HAn := hid hAn
                      clear hAn
                      obtain ⟨aA, cA, hAv, ha1, ha2⟩ := row_shape9 C0.out.own
                      have HAv := hid hAv
                      rw [hAv]
                      clear ha1 ha2 hAv
                      go_wp2_with (first
                        | (at_builtin; go_must (refine wp_pushJ rfl _ _ 54 27 rfl Tryz.underlying54 infoLi 0 3 1 wr.heap.size 1 _ _ V2 M' x A (by decide) rfl rfl (HD.out.call (Chg.alloc wr _ No)) (by rw [HAv.out]; go_simp) HX.out (C0.out.call (Chg.alloc wr _ No)) (by have := HMk.out; have := HnB.out; omega) (Nat.zero_le _) ?_; intro m7 w7 hd7 hch7 ho7; have D7 := hid hd7; have K7 := hid ((HK.out.trans (Chg.alloc wr _ No) (fun _ _ e => e) (fun _ _ e => e.elim)).trans hch7 (fun _ _ e => e) (fun j hj e => absurd (HMo.out j e) (by omega))); have M7 : Hid (∀ j, m7.ownBlock = some j → wp.heap.size ≤ j) := hid (ownMq ho7 HMo.out (by have h9 := HK.out.size; simp only [World.size_alloc]; omega)); clear hd7 hch7 ho7 HD C0 HK))
                        | fail)
                      have hMk := HMk.out
                      have HX' := HX.out
                      rw [hMk] at HX'
                      have M8 := hid (HGM.out.more hMk HX' (by rw [HAn.out, HNn.out]) G0.out)
                      clear HX'
                      exact ⟨⟨k + 1, _, _, rfl, by omega, by go_num, by simp [hMk], D7, M8, M7, K7⟩, by simp [intOf]; omega⟩
                · have hkn : k = nV := by omega
                  have hge : ¬ ((k : Int) < (nV : Int)) := by omega
                  go_wp2_with fail
                  obtain ⟨w4, hw4⟩ : ∃ y, y = wr := ⟨_, rfl⟩
                  subst hw4
                  obtain ⟨L4, hL4⟩ : ∃ q, q = M' := ⟨_, rfl⟩
                  obtain ⟨lv4, hlv4⟩ : ∃ q, q = mv' := ⟨_, rfl⟩
                  rw [← hL4] at HD HGM hMk
                  rw [← hlv4] at HD ⊢
                  have HDV := HD
                  have HGMV := HGM
                  have HMLV : Hid (L4.length = nV) := hid (by rw [hMk]; exact hkn)
                  have HC4 : Hid (Chg w w4 (fun k => LotB (.slice al nV cl) V k ∨ LotB (.slice ae nE ce) E k)) := hid (HC3.out.trans HK.out (fun _ _ e => e) (fun _ _ e => .inl (HSubV.out _ e)))
                  have HLE4 : Hid (Lot 0 64 73 2 (.slice ae nE ce) E2 w4) := hid (HLE2.out.kept HK.out (fun g hg e => HH.out.le_ (HSubV.out g e) (HSubE.out g hg)))
                  clear hL4 hlv4 HD HGM HMo HK hge hkn hlt k0 hk hMk q0 HCelV HLE2 HL0V2 HLV3
                  have HCelE : Hid (∀ W, Chg w4 W (LotB (.slice ae nE ce) E2) → W.cell? ⟨ok, 2, none⟩ = some (.slice ae nE ce)) := hid (fun W hW => (HK0.out W (HC4.out.trans hW (fun _ _ e => e) (fun _ _ e => .inr (HSubE.out _ e)))).2.2)
                  clear HC3
                  obtain ⟨wp, hwp⟩ : ∃ y, y = w4 := ⟨_, rfl⟩
                  subst hwp
                  have HL0E2 := HLE4
                  have HMSE2 := HMSE
                  go_loopw [9, 13] (fun m i wq => ∃ (k : Nat) (M : List Lst) (mv : Value), mv = m ∧ k ≤ nE ∧ i = .int .i64 k ∧ M.length = k ∧ Hid (Duo 0 64 73 2 (Value.slice ae nE ce) mv E2 M wq) ∧ Hid (GMq 2 E2 M) ∧ Hid (∀ j, mv.ownBlock = some j → wp.heap.size ≤ j) ∧ Hid (Chg wp wq (LotB (Value.slice ae nE ce) E2))) (fun _ i _ => nE - (intOf i).toNat)
                  case atStart => exact ⟨0, [], _, rfl, by omega, rfl, rfl, hid (Duo.start HL0E2.out), hid (GMq.nil _ _), hid (fun j e => by cases e), hid (Chg.refl _ _)⟩
                  case round =>
                    obtain ⟨k, M', mv', rfl, hk, rfl, hMk, HD, HGM, HMo, HK⟩ := hrel
                    have q0 := HCelE.out wr HK.out
                    have k0 : (0 : Int) ≤ (k : Int) := by omega
                    by_cases hlt : k < nE
                    · have k1 : (k : Int) < (nE : Int) := by omega
                      obtain ⟨gl, cl', hgl⟩ := HD.out.l.form (by have := HLenE2.out; omega)
                      have HGl : Hid ((Value.slice ae nE ce) = .slice (some ⟨gl, 0, none⟩) nE cl') := hid (by have h9 := hgl; rw [HLenE2.out] at h9; exact h9)
                      rw [HGl.out] at q0
                      obtain ⟨x, hx⟩ : ∃ x, E2[k]? = some x := ⟨_, List.getElem?_eq_getElem (by have := HLenE2.out; omega)⟩
                      have hN : x.n ≤ 100000000 := (HMSE2.out k x hx).1
                      have G0 := hid (HMSE2.out.gc hx hlt (HD.out.l.own k x hx).1)
                      have C0 := hid (HD.out.cur hx)
                      have hcx : wr.cell? ⟨gl, k, none⟩ = some x.v := (by have hL := HD.out.l; rw [HGl.out] at hL; exact hL.at hx)
                      obtain ⟨ax, cx, hxv, hxc, hxd⟩ := row_shape9 (HD.out.l.own k x hx)
                      clear hxc hxd hgl
                      have HXV := hid hxv
                      rw [hxv] at hcx
                      have HX := hid (show E2[M'.length]? = some x by rw [hMk]; exact hx)
                      have HYb : Hid (∀ j, x.v.ownBlock = some j → LotB (Value.slice ae nE ce) E2 j ∨ wp.heap.size ≤ j) := hid (fun j e => .inl (.inr ⟨k, x, hx, e⟩))
                      have HMk := hid hMk
                      clear hx hxv hMk
                      obtain ⟨N, hNn⟩ : ∃ N, N = x.n := ⟨_, rfl⟩
                      rw [← hNn] at hcx hN
                      have HNn := hid hNn
                      clear hNn
                      go_wp2_with fail
                      clear hcx q0
                      obtain ⟨wo, hwo⟩ : ∃ y, y = wr := ⟨_, rfl⟩
                      subst hwo
                      go_loopw [14, 15] (fun a i wq => ∃ (r : Nat) (A : Lst), r ≤ 9 ∧ i = .int .i64 r ∧ a = A.v ∧ A.n = N + r ∧ Hid (Duo 0 64 73 2 (Value.slice ae nE ce) mv' E2 M' wq) ∧ Hid (Cur 0 73 2 E2 M' x A wq) ∧ Hid (GQ 2 k A) ∧ Hid (∀ j, A.v.ownBlock = some j → LotB (Value.slice ae nE ce) E2 j ∨ wp.heap.size ≤ j) ∧ Hid (Chg wp wq (LotB (Value.slice ae nE ce) E2))) (fun _ i _ => 9 - (intOf i).toNat)
                      case atStart => exact ⟨0, x, by omega, rfl, by rw [HXV.out, HNn.out], by rw [HNn.out]; rfl, HD, C0, G0, HYb, HK⟩
                      case round =>
                        clear HD C0 G0 HK HYb
                        obtain ⟨r, A, hr, rfl, rfl, hAn, HD, C0, G0, HYb, HK⟩ := hrel
                        have r0 : (0 : Int) ≤ (r : Int) := by omega
                        by_cases hlr : r < 9
                        · have r1 : (r : Int) < 9 := by omega
                          have HAn := hid hAn
                          clear hAn
                          go_wp2_with (first
                            | (at_builtin; go_must (refine wp_growE rfl _ _ rfl 0 wr.heap.size 1 _ _ E2 M' x A (-9000 - (k : Int)) 5 rfl rfl (HD.out.call (Chg.alloc wr _ No)) (heap_alloc_new _ _) HX.out (C0.out.call (Chg.alloc wr _ No)) (by have := HAn.out; omega) (Nat.zero_le _) ?_; intro g7 c7 w7 hd7 hc7 hch7 ho7; have D7 := hid hd7; have C7 := hid hc7; have K7 := hid ((HK.out.trans (Chg.alloc wr _ No) (fun _ _ e => e) (fun _ _ e => e.elim)).trans hch7 (fun _ _ e => e) (fun j hj e => (HYb.out j e).resolve_right (by omega))); have Y7 : Hid (∀ j, (Value.slice (some ⟨g7, 0, none⟩) (A.n + 1) c7).ownBlock = some j → LotB (Value.slice ae nE ce) E2 j ∨ wp.heap.size ≤ j) := hid (ownYq ho7 HYb.out (by have h9 := HK.out.size; simp only [World.size_alloc]; omega)); clear hd7 hc7 hch7 ho7 HD C0 HK HYb))
                            | fail)
                          exact ⟨⟨r + 1, _, by omega, by go_num, rfl, by show A.n + 1 = _; rw [HAn.out]; omega, D7, C7, hid (G0.out.grow _ _ rfl rfl), Y7, K7⟩, by simp [intOf]; omega⟩
                        · have hr9 : r = 9 := by omega
                          subst hr9
                          have hge : ¬ (((9 : Nat) : Int) < 9) := by decide
                          have HAn := hid hAn
                          clear hAn
                          obtain ⟨aA, cA, hAv, ha1, ha2⟩ := row_shape9 C0.out.own
                          have HAv := hid hAv
                          rw [hAv]
                          clear ha1 ha2 hAv
                          go_wp2_with (first
                            | (at_builtin; go_must (refine wp_pushJ rfl _ _ 55 64 rfl Tryz.underlying55 infoLs 0 73 2 wr.heap.size 1 _ _ E2 M' x A (by decide) rfl rfl (HD.out.call (Chg.alloc wr _ No)) (by rw [HAv.out]; go_simp) HX.out (C0.out.call (Chg.alloc wr _ No)) (by have := HMk.out; have := HnB.out; omega) (Nat.zero_le _) ?_; intro m7 w7 hd7 hch7 ho7; have D7 := hid hd7; have K7 := hid ((HK.out.trans (Chg.alloc wr _ No) (fun _ _ e => e) (fun _ _ e => e.elim)).trans hch7 (fun _ _ e => e) (fun j hj e => absurd (HMo.out j e) (by omega))); have M7 : Hid (∀ j, m7.ownBlock = some j → wp.heap.size ≤ j) := hid (ownMq ho7 HMo.out (by have h9 := HK.out.size; simp only [World.size_alloc]; omega)); clear hd7 hch7 ho7 HD C0 HK))
                            | fail)
                          have hMk := HMk.out
                          have HX' := HX.out
                          rw [hMk] at HX'
                          have M8 := hid (HGM.out.more hMk HX' (by rw [HAn.out, HNn.out]) G0.out)
                          clear HX'
                          exact ⟨⟨k + 1, _, _, rfl, by omega, by go_num, by simp [hMk], D7, M8, M7, K7⟩, by simp [intOf]; omega⟩
                    · have hkn : k = nE := by omega
                      have hge : ¬ ((k : Int) < (nE : Int)) := by omega
                      go_wp2_with fail
                      obtain ⟨w5, hw5⟩ : ∃ y, y = wr := ⟨_, rfl⟩
                      subst hw5
                      obtain ⟨L5, hL5⟩ : ∃ q, q = M' := ⟨_, rfl⟩
                      obtain ⟨lv5, hlv5⟩ : ∃ q, q = mv' := ⟨_, rfl⟩
                      rw [← hL5] at HD HGM hMk
                      rw [← hlv5] at HD ⊢
                      have HDE := HD
                      have HGME := HGM
                      have HMLE : Hid (L5.length = nE) := hid (by rw [hMk]; exact hkn)
                      have HC5 : Hid (Chg w w5 (fun k => LotB (.slice al nV cl) V k ∨ LotB (.slice ae nE ce) E k)) := hid (HC4.out.trans HK.out (fun _ _ e => e) (fun _ _ e => .inr (HSubE.out _ e)))
                      have HDV5 : Hid (Duo 0 27 3 1 (.slice al nV cl) lv4 V2 L4 w5) := hid (HDV.out.kept HK.out (fun g hg e => HH.out.le_ (HSubV.out g hg) (HSubE.out g e)) (fun g hg e => by
                        obtain ⟨c1, t1, h1, h2⟩ := HDV.out.r.type hg
                        obtain ⟨c2, t2, h3, h4⟩ := HLE4.out.type e
                        rw [h1] at h3
                        cases h3
                        rcases h2 with rfl | rfl <;> rcases h4 with e | e <;> cases e))
                      have HFin : Hid (IsBk w5 ok (.slice al nV cl) (.slice am nV cm) (.slice ae nE ce) V2 M E2) := hid ⟨HC5.out.keep HH.out.me (fun e => e.elim HH.out.okl HH.out.oke), HDV5.out.l, HH.out.m.kept HC5.out (fun g hg e => e.elim (fun e => HH.out.lm g e hg) (HH.out.me_ hg)), HDE.out.l, fun k hk => HH.out.lm k (HSubV.out k hk), HLenM.out.trans HLenV2.out.symm, by have := HLenV2.out; have := HnB.out; omega, by have := HLenE2.out; have := HnB.out; omega, fun j x hx => (HMSV2.out j x hx).1, HH.out.ms, fun j x hx => (HMSE2.out j x hx).1⟩
                      have HC0 : Hid (w5.cell? ⟨ok, 0, none⟩ = some (.slice al nV cl)) := hid (HK0.out w5 HC5.out).1
                      have HC20 : Hid (w5.cell? ⟨ok, 2, none⟩ = some (.slice ae nE ce)) := hid (HK0.out w5 HC5.out).2.2
                      clear hL5 hlv5 HD HGM HMo HK hge hkn hlt k0 hk hMk q0 HCelE HL0E2 HLE4 HDV
                      have HDV := HDV5
                      clear HDV5 HC4
                      obtain ⟨wp, hwp⟩ : ∃ y, y = w5 := ⟨_, rfl⟩
                      subst hwp
                      have HLenV := HLenV2
                      have HLenE := HLenE2
                      have HMSV := HMSV2
                      have HMSE := HMSE2
                      obtain ⟨a4, b4, hv4⟩ := row_shK HDV.out.r.row
                      rw [HMLV.out] at hv4
                      subst hv4
                      obtain ⟨a5, b5, hv5⟩ := row_shK HDE.out.r.row
                      rw [HMLE.out] at hv5
                      subst hv5
                      go_loopw [16] (fun i wq => ∃ (k : Nat), k ≤ nV ∧ i = .int .i64 k ∧ wq = wp) (fun i _ => nV - (intOf i).toNat)
                      case atStart => exact ⟨0, by omega, rfl, rfl⟩
                      case round =>
                        obtain ⟨k, hk, rfl, hwq⟩ := hrel
                        subst hwq
                        have k0 : (0 : Int) ≤ (k : Int) := by omega
                        by_cases hlt : k < nV
                        · have k1 : (k : Int) < (nV : Int) := by omega
                          obtain ⟨gl, cl', hgl⟩ := HDV.out.l.form (by have := HLenV.out; omega)
                          have HGl : Hid ((Value.slice al nV cl) = .slice (some ⟨gl, 0, none⟩) nV cl') := hid (by have h9 := hgl; rw [HLenV.out] at h9; exact h9)
                          obtain ⟨gm, cm', hgm⟩ := HDV.out.r.form (by have := HMLV.out; omega)
                          have HGm : Hid ((Value.slice a4 nV b4) = .slice (some ⟨gm, 0, none⟩) nV cm') := hid (by have h9 := hgm; rw [HMLV.out] at h9; exact h9)
                          have hDuo := HDV.out
                          rw [HGl.out, HGm.out] at hDuo
                          obtain ⟨ax, cx, N, gA, cA, NA, hN, hNA, hcx, hcA, t1, t3⟩ := hDuo.readsQ (b := 17592186044000) HGMV.out (fun x hx => ⟨(HMSV.out k x hx).1, HMSV.out.gc hx hlt (HDV.out.l.own k x hx).1⟩) HLenV.out HMLV.out hlt
                          have q0 := HC0.out
                          rw [HGl.out] at q0
                          rw [HGm.out]
                          have T1 := hid t1
                          have T3 := hid t3
                          have HNA := hid hNA
                          clear t1 t3 hNA hDuo hgl hgm
                          have hNAb : NA ≤ 17592186044000 + 9 := by have := HNA.out; omega
                          go_wp2_with fail
                          obtain ⟨w7, hw7⟩ : ∃ y, y = wr := ⟨_, rfl⟩
                          subst hw7
                          go_loopw [17] (fun i wq => ∃ (q : Nat), q ≤ NA ∧ i = .int .i64 q ∧ wq = w7) (fun i _ => NA - (intOf i).toNat)
                          case atStart => exact ⟨0, by omega, rfl, rfl⟩
                          case round =>
                            obtain ⟨q, hq, rfl, hwq⟩ := hrel
                            subst hwq
                            have i0 : (0 : Int) ≤ (q : Int) := by omega
                            by_cases hlq : q < NA
                            · have i1 : (q : Int) < (NA : Int) := by omega
                              have hc : wr.cell? ⟨gA, q * 1, none⟩ = some (.int .i64 (-9000 - (k : Int))) := T1.out q hlq
                              by_cases hqn : q < N
                              · have i2 : (q : Int) < (N : Int) := by omega
                                obtain ⟨gx, hgx, hc3⟩ := T3.out q hqn
                                have hc2 : wr.cell? ⟨gx, q * 1, none⟩ = some (.int .i64 (-9000 - (k : Int))) := hc3
                                clear hc3
                                subst hgx
                                rw [Nat.mul_one] at hc hc2
                                go_wp2_with fail
                                exact ⟨⟨q + 1, by omega, by go_num, by first | rfl | trivial⟩, by simp [intOf]; omega⟩
                              · have i2 : ¬ ((q : Int) < (N : Int)) := by omega
                                rw [Nat.mul_one] at hc
                                go_wp2_with fail
                                exact ⟨⟨q + 1, by omega, by go_num, by first | rfl | trivial⟩, by simp [intOf]; omega⟩
                            · have hqN : q = NA := by omega
                              subst hqN
                              have hge : ¬ ((q : Int) < (q : Int)) := by omega
                              go_wp2_with fail
                              exact ⟨⟨k + 1, by omega, by go_num, by first | rfl | trivial⟩, by simp [intOf]; omega⟩
                        · have hkn : k = nV := by omega
                          have hge : ¬ ((k : Int) < (nV : Int)) := by omega
                          go_wp2_with fail
                          clear hge hkn hlt k0 hk
                          obtain ⟨wp, hwp⟩ : ∃ y, y = wr := ⟨_, rfl⟩
                          subst hwp
                          go_loopw [18] (fun i wq => ∃ (k : Nat), k ≤ nE ∧ i = .int .i64 k ∧ wq = wp) (fun i _ => nE - (intOf i).toNat)
                          case atStart => exact ⟨0, by omega, rfl, rfl⟩
                          case round =>
                            obtain ⟨k, hk, rfl, hwq⟩ := hrel
                            subst hwq
                            have k0 : (0 : Int) ≤ (k : Int) := by omega
                            by_cases hlt : k < nE
                            · have k1 : (k : Int) < (nE : Int) := by omega
                              obtain ⟨gl, cl', hgl⟩ := HDE.out.l.form (by have := HLenE.out; omega)
                              have HGl : Hid ((Value.slice ae nE ce) = .slice (some ⟨gl, 0, none⟩) nE cl') := hid (by have h9 := hgl; rw [HLenE.out] at h9; exact h9)
                              obtain ⟨gm, cm', hgm⟩ := HDE.out.r.form (by have := HMLE.out; omega)
                              have HGm : Hid ((Value.slice a5 nE b5) = .slice (some ⟨gm, 0, none⟩) nE cm') := hid (by have h9 := hgm; rw [HMLE.out] at h9; exact h9)
                              have hDuo := HDE.out
                              rw [HGl.out, HGm.out] at hDuo
                              obtain ⟨ax, cx, N, gA, cA, NA, hN, hNA, hcx, hcA, t1, t3⟩ := hDuo.readsQ (b := 100000000) HGME.out (fun x hx => ⟨(HMSE.out k x hx).1, HMSE.out.gc hx hlt (HDE.out.l.own k x hx).1⟩) HLenE.out HMLE.out hlt
                              have q0 := HC20.out
                              rw [HGl.out] at q0
                              rw [HGm.out]
                              have T1 := hid t1
                              have T3 := hid t3
                              have HNA := hid hNA
                              clear t1 t3 hNA hDuo hgl hgm
                              have hNAb : NA ≤ 100000000 + 9 := by have := HNA.out; omega
                              go_wp2_with fail
                              obtain ⟨w7, hw7⟩ : ∃ y, y = wr := ⟨_, rfl⟩
                              subst hw7
                              go_loopw [19] (fun i wq => ∃ (q : Nat), q ≤ NA ∧ i = .int .i64 q ∧ wq = w7) (fun i _ => NA - (intOf i).toNat)
                              case atStart => exact ⟨0, by omega, rfl, rfl⟩
                              case round =>
                                obtain ⟨q, hq, rfl, hwq⟩ := hrel
                                subst hwq
                                have i0 : (0 : Int) ≤ (q : Int) := by omega
                                by_cases hlq : q < NA
                                · have i1 : (q : Int) < (NA : Int) := by omega
                                  have hc : wr.cell? ⟨gA, q * 2, none⟩ = some (.int .i64 (-9000 - (k : Int))) := T1.out q hlq
                                  by_cases hqn : q < N
                                  · have i2 : (q : Int) < (N : Int) := by omega
                                    obtain ⟨gx, hgx, hc3⟩ := T3.out q hqn
                                    have hc2 : wr.cell? ⟨gx, q * 2, none⟩ = some (.int .i64 (-9000 - (k : Int))) := hc3
                                    clear hc3
                                    subst hgx
                                    skip
                                    go_wp2_with fail
                                    exact ⟨⟨q + 1, by omega, by go_num, by first | rfl | trivial⟩, by simp [intOf]; omega⟩
                                  · have i2 : ¬ ((q : Int) < (N : Int)) := by omega
                                    skip
                                    go_wp2_with fail
                                    exact ⟨⟨q + 1, by omega, by go_num, by first | rfl | trivial⟩, by simp [intOf]; omega⟩
                                · have hqN : q = NA := by omega
                                  subst hqN
                                  have hge : ¬ ((q : Int) < (q : Int)) := by omega
                                  go_wp2_with fail
                                  exact ⟨⟨k + 1, by omega, by go_num, by first | rfl | trivial⟩, by simp [intOf]; omega⟩
                            · have hkn : k = nE := by omega
                              have hge : ¬ ((k : Int) < (nE : Int)) := by omega
                              go_wp2_with fail
                              go_ret
                              refine ⟨rfl, V2, E2, HFin.out, fun k hk => ?_, HC5.out.mono fun j _ e => e.elim (fun e => .inr (.inl e)) (fun e => .inr (.inr (.inr e)))⟩
                              rcases hk with e | e | e | e
                              · exact .inl e
                              · exact .inr (.inl (HSubV.out k e))
                              · exact .inr (.inr (.inl e))
                              · exact .inr (.inr (.inr (HSubE.out k e)))
end Go.Proofs.YtamoepninddbcaaGreat
