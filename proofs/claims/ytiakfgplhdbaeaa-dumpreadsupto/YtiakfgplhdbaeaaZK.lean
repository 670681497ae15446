/-
  Lists of lists: append and store; marks, and what has grown.
-/
import Derived.Test.YtiakfgplhdbaeaaZJ
import Derived.Test.YtiakfgplhdbaeaaNR
import Derived.Deep.MidRow
namespace Go.Proofs.Ytiakfgplhdbaeaa
open Go.RowKit

/-- What is known of a type whose values are slices. -/
def InfoL (eo : TypeId) : Prop := ∃ i, Try.prog.info? eo = some i ∧ i.zero = some (.slice none 0 0) ∧ i.size = 1 ∧ i.bytes = 24
theorem infoLs : InfoL 22 := by
  have h : (Try.prog.info? 22).map (fun i => (i.zero, i.size, i.bytes)) = some (some (.slice none 0 0), 1, 24) := by kernel_rfl
  unfold InfoL
  cases hq : Try.prog.info? 22 with
  | none => rw [hq] at h; cases h
  | some i =>
    rw [hq] at h
    simp at h
    exact ⟨i, rfl, h.1, h.2.1, h.2.2⟩
theorem infoLi : InfoL 29 := by
  have h : (Try.prog.info? 29).map (fun i => (i.zero, i.size, i.bytes)) = some (some (.slice none 0 0), 1, 24) := by kernel_rfl
  unfold InfoL
  cases hq : Try.prog.info? 29 with
  | none => rw [hq] at h; cases h
  | some i =>
    rw [hq] at h
    simp at h
    exact ⟨i, rfl, h.1, h.2.1, h.2.2⟩
theorem own_one {w : World} {B e k n : Nat} {v : Value} {xs : List Value} (h : w.ownsRow B e k v n xs) : v.oneCell' = true := by
  obtain ⟨a, c, rfl, _⟩ := row_shape9 h
  rfl
/-- append: it grows in its place, or it moves and the old block stays as it was. -/
theorem run_append_keep {P : Program} (w : World) (base : Nat) (t ty e : TypeId) (i : TypeInfo) (z : Value) (size bytes : Nat) (ht : P.underlying t = some (.slice e)) (hi : P.info? e = some i) (hz : i.zero = some z)
    (hsize : i.size = size) (hby : i.bytes = bytes) (hzs : z.cells.size = size) (hsz : 0 < size)
    (v : Value) (n : Nat) (xs : List Value) (hown : w.ownsRow base e size v n xs)
    (a : Addr) (m c : Nat) (news : List Value) (hl : news.length = m * size) (hnews : ∀ j u, news[j]? = some u → w.cell? (a.add j) = some u) (h1 : ∀ u ∈ news, u.oneCell' = true)
    (hm : 0 < m) (h63 : n + m ≤ maxLen) (hbytes : (n + m) * bytes ≤ 140737488355328) (hbase : base ≤ w.heap.size) :
    ∃ g cap w', (Builtin.append_ #[t, t] ty #[v, .slice (some a) m c]).run P w = .ok (.slice (some ⟨g, 0, none⟩) (n + m) cap) w' ∧ w'.ownsRow base e size (.slice (some ⟨g, 0, none⟩) (n + m) cap) (n + m) (xs ++ news) ∧
      ((v = .slice (some ⟨g, 0, none⟩) n cap ∧ w.grownBy w' (some g)) ∨ (g = w.heap.size ∧ w.grownBy w' none)) ∧ w.grownBy w' v.ownBlock := by
  obtain ⟨v', w', hr, h2, h3, _, h5⟩ := run_append_own_at (P := P) w base t ty e i z size bytes ht hi hz hsize hby hzs hsz v n xs hown a m c news hl hnews h1 h63 hbytes hbase
  obtain ⟨g', cap', rfl, _, _⟩ := h2.form (by omega)
  rcases hown.2 with ⟨hv, hn⟩ | ⟨g, cap, cur, rfl, hbg, hg, hnc, hcm, hcs, htake⟩
  · refine ⟨g', cap', w', hr, h2, .inr ⟨?_, ?_⟩, h3⟩
    · rw [hv] at h5
      rcases h5 with h5 | h5
      · cases h5
      · simpa [Value.ownBlock] using h5
    · rw [hv] at h3; exact h3
  · by_cases hroom : n + m ≤ cap
    · obtain ⟨w2, hr2, h4, h6⟩ := run_append_fits (P := P) w base t ty e i size ht hi hsize g n cap xs hown a m c news hl hnews h1 hroom
      exact ⟨g, cap, w2, hr2, h4, .inl ⟨rfl, h6⟩, h6⟩
    · subst hsize
      subst hby
      have hsmall : n + m ≤ 9223372036854775807 := by simp only [maxLen] at h63; omega
      have holds : ∀ j u, xs[j]? = some u → w.cell? ((⟨g, 0, none⟩ : Addr).add j) = some u := hown.cells (g := g) rfl
      have hr2 := run_append_grow (P := P) w t ty e i z ht hi hz ⟨g, 0, none⟩ n cap xs hown.1 holds a m c news hl hnews (by omega) (by omega) (growslice_fits (by omega) hbytes)
      rw [hr2] at hr
      have e1 := (Result.ok.inj hr).1
      have e2 := (Result.ok.inj hr).2
      subst e2
      rw [← e1] at h2
      exact ⟨_, _, _, hr2, h2, .inr ⟨rfl, ⟨rfl, rfl, rfl, by simp, fun k hk _ => heap_alloc_old w.drew _ hk⟩⟩, h3⟩
section
variable {ops : Array Oper} {rest : List Oper} {o : Oper} {a : Act} {Q : Exit → Act → World → Prop} {w : World}
/-- append of one list. -/
theorem wp_more (hg : o.guard = none) (s x : Operand) (t eo : TypeId) (hop : o.op = .call { callee := .builtin .append, args := #[s, x], argTypes := #[t, t] }) (ht : Try.prog.underlying t = some (.slice eo)) (hinf : InfoL eo) (B e k g c : Nat) (v : Value) (V : List Lst) (y : Lst) (hne : eo ≠ e)
    (hs : a.eval s = v) (hx : a.eval x = .slice (some ⟨g, 0, none⟩) 1 c) (hl : Lot B eo e k v V w) (hat : w.cell? ⟨g, 0, none⟩ = some y.v) (ho : w.ownsRow B e k y.v y.n y.xs) (hap : ∀ (j : Nat) u g, V[j]? = some u → y.v.ownBlock = some g → u.v.ownBlock ≠ some g)
    (hn : V.length ≤ 1000000) (hB : B ≤ w.heap.size)
    (hK : ∀ v' w', Lot B eo e k v' (V ++ [y]) w' → Grow eo B w w' → wpList Try.prog ops Q rest (a.put o.dst v') w') : wpList Try.prog ops Q (o :: rest) a w := by
  obtain ⟨i, hi, hz, hsz, hby⟩ := hinf
  refine wpList_append_own_at w hg s x t hop B eo i _ 1 24 ht hi hz hsz hby rfl (by decide) v V.length (V.map Lst.v) hs hl.row ⟨g, 0, none⟩ 1 c [y.v] hx rfl (fun j u hj => ?_) (by simpa using own_one ho) (by unfold maxLen; omega) (by omega) hB ?_
  · cases j with
    | zero => simp at hj; subst hj; exact hat
    | succ j => simp at hj
  · intro v' w' h1 h2 _ _
    exact hK v' w' (hl.more hne ho hap h1 h2) (grow_of hl.row hB h2)
/-- append of a grown list. -/
theorem wp_pushJ (hg : o.guard = none) (s x : Operand) (t eo : TypeId) (hop : o.op = .call { callee := .builtin .append, args := #[s, x], argTypes := #[t, t] }) (ht : Try.prog.underlying t = some (.slice eo)) (hinf : InfoL eo) (B e k g c : Nat) (v m : Value) (V M : List Lst) (u y : Lst) (hne : eo ≠ e)
    (hs : a.eval s = m) (hx : a.eval x = .slice (some ⟨g, 0, none⟩) 1 c) (hl : Duo B eo e k v m V M w) (hat : w.cell? ⟨g, 0, none⟩ = some y.v) (hu : V[M.length]? = some u) (ho : Cur B e k V M u y w)
    (hn : M.length ≤ 1000000) (hB : B ≤ w.heap.size)
    (hK : ∀ m' w', Duo B eo e k v m' V (M ++ [y]) w' → Grow eo B w w' → wpList Try.prog ops Q rest (a.put o.dst m') w') : wpList Try.prog ops Q (o :: rest) a w := by
  obtain ⟨i, hi, hz, hsz, hby⟩ := hinf
  refine wpList_append_own_at w hg s x t hop B eo i _ 1 24 ht hi hz hsz hby rfl (by decide) m M.length (M.map Lst.v) hs hl.r.row ⟨g, 0, none⟩ 1 c [y.v] hx rfl (fun j u hj => ?_) (by simpa using own_one ho.own) (by unfold maxLen; omega) (by omega) hB ?_
  · cases j with
    | zero => simp at hj; subst hj; exact hat
    | succ j => simp at hj
  · intro v' w' h1 h2 _ h4
    exact hK v' w' (hl.push hne hu ho h1 h2 h4) (grow_of hl.r.row hB h2)
/-- append of one node onto a growing list. -/
theorem wp_growN (hg : o.guard = none) (s x : Operand) (hop : o.op = .call { callee := .builtin .append, args := #[s, x], argTypes := #[22, 22] }) (B g c : Nat) (v m : Value) (V M : List Lst) (u y : Lst) (cs : List Value) (hl5 : cs.length = 5) (h1 : ∀ z ∈ cs, z.oneCell' = true)
    (hs : a.eval s = y.v) (hx : a.eval x = .slice (some ⟨g, 0, none⟩) 1 c) (hl : Duo B 22 47 5 v m V M w) (hat : w.heap[g]? = some (.cells cs.toArray 47 (0, 0))) (hu : V[M.length]? = some u) (ho : Cur B 47 5 V M u y w)
    (hn : y.n ≤ 1000000000) (hB : B ≤ w.heap.size)
    (hK : ∀ g' c' w', Duo B 22 47 5 v m V M w' → Cur B 47 5 V M u ⟨.slice (some ⟨g', 0, none⟩) (y.n + 1) c', y.n + 1, y.xs ++ cs⟩ w' → Grow 47 B w w' → wpList Try.prog ops Q rest (a.put o.dst (.slice (some ⟨g', 0, none⟩) (y.n + 1) c')) w') : wpList Try.prog ops Q (o :: rest) a w := by
  obtain ⟨i, hi, hz, hsz, hby⟩ := infoNd
  obtain ⟨g', c', w', hr, h2, h3, h4⟩ := run_append_keep (P := Try.prog) w B 22 o.type 47 i _ 5 72 Try.underlying22 hi hz hsz hby rfl (by decide) y.v y.n y.xs ho.own ⟨g, 0, none⟩ 1 c cs (by rw [hl5]) (fun j u hj => by
      rw [addr_addJ, Nat.zero_add, cell_of_row _ _ _ _ _ _ hat]
      simpa using hj) h1 (by decide) (by unfold maxLen; omega) (by omega) hB
  obtain ⟨k1, k2⟩ := hl.app (by decide) hu ho h2 h3
  refine wpList_plain hg fun K hK' => ?_
  unfold Oper.wp execOp
  simp only [hop, resolve, invoke, builtin, Sem.run_bind, Sem.run_pure, Result.andThen_ok, List.map_toArray, List.map_cons, List.map_nil, hs, hx, hr]
  exact hK' _ _ (hK g' c' w' k1 k2 (grow_of ho.own hB h4))
/-- append of one byte onto a growing list. -/
theorem wp_growB (hg : o.guard = none) (s x : Operand) (hop : o.op = .call { callee := .builtin .append, args := #[s, x], argTypes := #[29, 29] }) (B g c : Nat) (v m : Value) (V M : List Lst) (u y : Lst) (i1 : Int)
    (hs : a.eval s = y.v) (hx : a.eval x = .slice (some ⟨g, 0, none⟩) 1 c) (hl : Duo B 29 5 1 v m V M w) (hat : w.heap[g]? = some (.cells #[.int .u8 i1] 5 (0, 0))) (hu : V[M.length]? = some u) (ho : Cur B 5 1 V M u y w)
    (hn : y.n ≤ 100000000) (hB : B ≤ w.heap.size)
    (hK : ∀ g' c' w', Duo B 29 5 1 v m V M w' → Cur B 5 1 V M u ⟨.slice (some ⟨g', 0, none⟩) (y.n + 1) c', y.n + 1, y.xs ++ [.int .u8 i1]⟩ w' → Grow 5 B w w' → wpList Try.prog ops Q rest (a.put o.dst (.slice (some ⟨g', 0, none⟩) (y.n + 1) c')) w') : wpList Try.prog ops Q (o :: rest) a w := by
  obtain ⟨i, hi, hz, hsz, hby⟩ := info8
  obtain ⟨g', c', w', hr, h2, h3, h4⟩ := run_append_keep (P := Try.prog) w B 29 o.type 5 i _ 1 1 Try.underlying29 hi hz hsz hby rfl (by decide) y.v y.n y.xs ho.own ⟨g, 0, none⟩ 1 c [.int .u8 i1] rfl (fun j u hj => by
      rw [addr_addJ, Nat.zero_add, cell_of_row _ _ _ _ _ _ hat]
      simpa using hj) (by simp [Value.oneCell']) (by decide) (by unfold maxLen; omega) (by omega) hB
  obtain ⟨k1, k2⟩ := hl.app (by decide) hu ho h2 h3
  refine wpList_plain hg fun K hK' => ?_
  unfold Oper.wp execOp
  simp only [hop, resolve, invoke, builtin, Sem.run_bind, Sem.run_pure, Result.andThen_ok, List.map_toArray, List.map_cons, List.map_nil, hs, hx, hr]
  exact hK' _ _ (hK g' c' w' k1 k2 (grow_of ho.own hB h4))
def set5 (xs : List Value) (i : Nat) (a0 a1 a2 a3 a4 : Value) : List Value := ((((xs.set (i * 5) a0).set (i * 5 + 1) a1).set (i * 5 + 2) a2).set (i * 5 + 3) a3).set (i * 5 + 4) a4
/-- A node is written over in one list. -/
theorem wp_putN (hgd : o.guard = none) (x y : Operand) (ho : o.op = .store 47 x y) (B g c j i : Nat) (v : Value) (V : List Lst) (u : Lst) (a0 a1 a2 a3 a4 : Value) (h1 : ∀ z ∈ [a0, a1, a2, a3, a4], z.oneCell' = true) (hx : a.eval x = .pointer (some ⟨g, i * 5, none⟩)) (hy : a.eval y = .agg #[a0, a1, a2, a3, a4])
    (hl : Lot B 22 47 5 v V w) (hj : V[j]? = some u) (hu : u.v = .slice (some ⟨g, 0, none⟩) u.n c) (hi : i < u.n)
    (hK : ∀ w', Lot B 22 47 5 v (V.set j ⟨u.v, u.n, set5 u.xs i a0 a1 a2 a3 a4⟩) w' → w.grownBy w' (some g) → wpList Try.prog ops Q rest (a.put o.dst undef) w') : wpList Try.prog ops Q (o :: rest) a w := by
  have h0 := hl.own j u hj
  have hlen := h0.1
  rw [hu] at h0
  refine wpList_store_mid hgd 47 x y ho g (i * 5) #[a0, a1, a2, a3, a4] hx hy (fun q hq => ?_) (by rw [szNd]; rfl) (by simpa using h1) ?_
  · have hq2 : q < 5 := hq
    exact ⟨by rw [h0.cellAt (i * 5 + q) (by omega), List.getElem?_eq_getElem (by omega)]; rfl, h0.frozenAt _⟩
  · have s1 := h0.stored (i * 5) a0
    have s2 := s1.1.stored (i * 5 + 1) a1
    have s3 := s2.1.stored (i * 5 + 2) a2
    have s4 := s3.1.stored (i * 5 + 3) a3
    have s5 := s4.1.stored (i * 5 + 4) a4
    have hg2 := (((s1.2.trans s2.2).trans s3.2).trans s4.2).trans s5.2
    rw [← hu] at s5
    exact hK _ (hl.put (by decide) hj (by rw [hu]; rfl) hg2 s5.1) hg2
end
theorem ownr_mono {w : World} {B B' e k n : Nat} {v : Value} {xs : List Value} (h : w.ownsRow B e k v n xs) (hB : B' ≤ B) : w.ownsRow B' e k v n xs := by
  refine ⟨h.1, ?_⟩
  rcases h.2 with h | ⟨g, cap, cur, hv, hb, r⟩
  · exact .inl h
  · exact .inr ⟨g, cap, cur, hv, Nat.le_trans hB hb, r⟩
theorem ownr_below {w w' : World} {B e k n : Nat} {v : Value} {xs : List Value} (h : w.ownsRow B e k v n xs) (hb : Below w.heap.size w w') : w'.ownsRow B e k v n xs :=
  own_keepJ h (fun _ hg => hb.block _ (slt (own_block h hg).2.choose_spec))
theorem ownr_grow {w w' : World} {B B' e k n t : Nat} {v : Value} {xs : List Value} (h : w.ownsRow B e k v n xs) (hg : Grow t B' w w') (ht : e ≠ t) : w'.ownsRow B e k v n xs :=
  own_keepJ h (fun _ hv => by obtain ⟨_, cur, hc⟩ := own_block h hv; rw [hc]; exact hg.keep _ _ _ _ hc ht)
theorem Lot.grow {B B' eo e k t : Nat} {v : Value} {V : List Lst} {w w' : World} (h : Lot B eo e k v V w) (hg : Grow t B' w w') (h1 : eo ≠ t) (h2 : e ≠ t) : Lot B eo e k v V w' :=
  h.types (fun _ _ _ _ hb ht => hg.keep _ _ _ _ hb (by rcases ht with e | e <;> rw [e] <;> assumption))
theorem Duo.grow {B B' eo e k t : Nat} {v m : Value} {V M : List Lst} {w w' : World} (h : Duo B eo e k v m V M w) (hg : Grow t B' w w') (h1 : eo ≠ t) (h2 : e ≠ t) : Duo B eo e k v m V M w' :=
  h.types (fun _ _ _ _ hb ht => hg.keep _ _ _ _ hb (by rcases ht with e | e <;> rw [e] <;> assumption))
theorem below_alloc (w : World) (o : Obj) : Below w.heap.size w (w.alloc o) := (Below.refl _ _).alloc (Nat.le_refl _) _
/-- The lists ahead of m hold marks alone. -/
def MS (st off : Nat) (mk : Nat → Value) (m : Nat) (V : List Lst) : Prop := ∀ (j : Nat) x, V[j]? = some x → x.n ≤ 10000000 ∧ (j < m → ∀ q, q < x.n → x.xs[q * st + off]? = some (mk j))
theorem below_put {w w' : World} {B g : Nat} {U : World} (hb : Below B U w) (hBU : B ≤ U.heap.size) (hg : w.grownBy w' (some g)) (hB : B ≤ g) : Below B U w' :=
  hb.trans ((Below.refl B w).grown hg (Nat.le_trans hBU hb.size) (fun j hj => by have := Option.some.inj hj; omega))
theorem Lot.other {B eo e k g t : Nat} {v : Value} {V : List Lst} {w w' : World} {cur : Array Value} {f : Nat × Nat} (h : Lot B eo e k v V w) (hg : w.grownBy w' (some g)) (hc : w.heap[g]? = some (.cells cur t f)) (h1 : eo ≠ t) (h2 : e ≠ t) : Lot B eo e k v V w' := by
  refine h.types (fun i cs t' f' hb ht => ?_)
  rw [hg.block i (slt hb) (fun e' => ?_)]
  · exact hb
  · have := Option.some.inj e'
    subst this
    rw [hc] at hb
    cases hb
    rcases ht with e | e
    · exact h1 e.symm
    · exact h2 e.symm
theorem set_at {V : List Lst} {k : Nat} {x y : Lst} (hx : V[k]? = some x) : (V.set k y)[k]? = some y := by
  rw [List.getElem?_set, if_pos rfl, if_pos (List.getElem?_eq_some_iff.1 hx).1]
theorem MS.put {st off k : Nat} {mk : Nat → Value} {V : List Lst} {x : Lst} {ys : List Value} (h : MS st off mk k V) (hx : V[k]? = some x) : MS st off mk k (V.set k ⟨x.v, x.n, ys⟩) := by
  intro j y hy
  by_cases e : j = k
  · subst e
    rw [set_at hx] at hy
    cases hy
    exact ⟨(h _ x hx).1, fun e => absurd e (Nat.lt_irrefl _)⟩
  · rw [List.getElem?_set, if_neg (fun e' => e e'.symm)] at hy
    exact h j y hy
theorem MS.next {st off k : Nat} {mk : Nat → Value} {V : List Lst} {x : Lst} (h : MS st off mk k V) (hx : V[k]? = some x) (hm : ∀ p, p < x.n → x.xs[p * st + off]? = some (mk k)) : MS st off mk (k + 1) V := by
  intro j y hy
  refine ⟨(h j y hy).1, fun hj => ?_⟩
  by_cases e : j = k
  · subst e
    rw [hx] at hy
    cases hy
    exact hm
  · exact (h j y hy).2 (by omega)
theorem mark_put1 {xs : List Value} {q : Nat} {m : Value} (h : ∀ p, p < q → xs[p * 1 + 0]? = some m) (hl : q < xs.length) : ∀ p, p < q + 1 → (xs.set q m)[p * 1 + 0]? = some m := by
  intro p hp
  rw [Nat.mul_one, Nat.add_zero, List.getElem?_set]
  by_cases e : q = p
  · rw [if_pos e, if_pos hl]
  · rw [if_neg e]; have := h p (by omega); rwa [Nat.mul_one, Nat.add_zero] at this
theorem mark_put5 {xs : List Value} {q : Nat} {a0 m a2 a3 a4 : Value} (h : ∀ p, p < q → xs[p * 5 + 1]? = some m) (hl : q * 5 + 4 < xs.length) : ∀ p, p < q + 1 → (set5 xs q a0 m a2 a3 a4)[p * 5 + 1]? = some m := by
  intro p hp
  unfold set5
  rw [List.getElem?_set, if_neg (by omega), List.getElem?_set, if_neg (by omega), List.getElem?_set, if_neg (by omega), List.getElem?_set]
  by_cases e : q * 5 + 1 = p * 5 + 1
  · rw [if_pos e, if_pos (by rw [List.length_set]; omega)]
  · rw [if_neg e, List.getElem?_set, if_neg (by omega)]
    exact h p (by omega)
theorem set5_len {xs : List Value} {q : Nat} {a0 m a2 a3 a4 : Value} : (set5 xs q a0 m a2 a3 a4).length = xs.length := by simp [set5]
/-- A list that holds marks alone. -/
def GC (st off : Nat) (m : Value) (A : Lst) : Prop := A.xs.length = A.n * st ∧ ∀ q, q < A.n → A.xs[q * st + off]? = some m
theorem GC.grow {st off : Nat} {m : Value} {A : Lst} (h : GC st off m A) (cs : List Value) (hc : cs.length = st) (hm : cs[off]? = some m) (ho : off < st) (v : Value) : GC st off m ⟨v, A.n + 1, A.xs ++ cs⟩ := by
  have hl := h.1
  refine ⟨by show (A.xs ++ cs).length = (A.n + 1) * st; rw [List.length_append, hl, hc, Nat.succ_mul], fun q hq => ?_⟩
  have hq' : q < A.n + 1 := hq
  show (A.xs ++ cs)[q * st + off]? = _
  by_cases e : q < A.n
  · have : (q + 1) * st ≤ A.n * st := Nat.mul_le_mul_right _ e
    rw [Nat.succ_mul] at this
    rw [List.getElem?_append_left (by omega)]
    exact h.2 q e
  · have e2 : q = A.n := by omega
    subst e2
    rw [List.getElem?_append_right (by omega), hl, Nat.add_sub_cancel_left]
    exact hm
/-- The second lists are the first ones, and so many marks each. -/
def GM (st off : Nat) (mk : Nat → Value) (ext : Nat) (V M : List Lst) : Prop := ∀ (j : Nat) x y, V[j]? = some x → M[j]? = some y → y.n = x.n + ext ∧ GC st off (mk j) y
theorem GM.nil (st off : Nat) (mk : Nat → Value) (ext : Nat) (V : List Lst) : GM st off mk ext V [] := fun j x y _ h => by simp at h
theorem GM.more {st off ext : Nat} {mk : Nat → Value} {V M : List Lst} {x y : Lst} {k : Nat} (h : GM st off mk ext V M) (hk : M.length = k) (hx : V[k]? = some x) (hn : y.n = x.n + ext) (hc : GC st off (mk k) y) : GM st off mk ext V (M ++ [y]) := by
  intro j u v hu hv
  rcases get_more hv with ⟨h1, _⟩ | ⟨rfl, rfl⟩
  · exact h j u v hu h1
  · rw [hk] at hu ⊢
    rw [hx] at hu
    cases hu
    exact ⟨hn, hc⟩
theorem MS.gc {st off m k : Nat} {mk : Nat → Value} {V : List Lst} {x : Lst} (h : MS st off mk m V) (hx : V[k]? = some x) (hk : k < m) (hl : x.xs.length = x.n * st) : GC st off (mk k) x := ⟨hl, fun q hq => (h k x hx).2 hk q hq⟩
theorem Cur.grow {B B' e k t : Nat} {V M : List Lst} {x a : Lst} {w w' : World} (h : Cur B e k V M x a w) (hg : Grow t B' w w') (h1 : e ≠ t) : Cur B e k V M x a w' :=
  h.types (fun _ _ _ hb => hg.keep _ _ _ _ hb h1)
/-- What a list of a list of lists has at a place. -/
theorem own_cell {w : World} {B e k n g c : Nat} {xs : List Value} (h : w.ownsRow B e k (.slice (some ⟨g, 0, none⟩) n c) n xs) {q : Nat} {v : Value} (hq : xs[q]? = some v) : w.cell? ⟨g, q, none⟩ = some v := by
  have := World.ownsRow.cells h (g := g) rfl q v hq
  rwa [addr_addJ, Nat.zero_add] at this
/-- What is read of two lists of lists at one place. -/
theorem Duo.reads {B eo e st off ext gl cl gm cm k n : Nat} {mk : Nat → Value} {V M : List Lst} {w : World} (h : Duo B eo e st (.slice (some ⟨gl, 0, none⟩) n cl) (.slice (some ⟨gm, 0, none⟩) n cm) V M w) (hm : GM st off mk ext V M) (hext : 0 < ext)
    (hs : ∀ x, V[k]? = some x → x.n ≤ 10000000 ∧ GC st off (mk k) x) (hV : V.length = n) (hM : M.length = n) (hk : k < n) :
    ∃ ax cx N gA cA NA, N ≤ 10000000 ∧ NA = N + ext ∧ w.cell? ⟨gl, k, none⟩ = some (.slice ax N cx) ∧ w.cell? ⟨gm, k, none⟩ = some (.slice (some ⟨gA, 0, none⟩) NA cA) ∧
      (∀ q, q < NA → w.cell? ⟨gA, q * st + off, none⟩ = some (mk k)) ∧ (∀ q, q < N → ∃ g, ax = some ⟨g, 0, none⟩ ∧ w.cell? ⟨g, q * st + off, none⟩ = some (mk k)) := by
  obtain ⟨x, hx⟩ : ∃ x, V[k]? = some x := ⟨_, List.getElem?_eq_getElem (by omega)⟩
  obtain ⟨y, hy⟩ : ∃ x, M[k]? = some x := ⟨_, List.getElem?_eq_getElem (by omega)⟩
  obtain ⟨h1, h2⟩ := hm k x y hx hy
  obtain ⟨h3, h4⟩ := hs x hx
  have ox := h.l.own k x hx
  have oy := h.r.own k y hy
  have fx := h.l.at hx
  have fy := h.r.at hy
  obtain ⟨ax, cx, vx, _, _⟩ := row_shape9 ox
  obtain ⟨gA, cA, vy, _⟩ := oy.form (by rw [h1]; omega)
  rw [vy] at oy fy
  rw [vx] at fx
  refine ⟨ax, cx, x.n, gA, cA, y.n, h3, h1, fx, fy, fun q hq => own_cell oy (h2.2 q hq), fun q hq => ?_⟩
  obtain ⟨g, c, e1, _⟩ := ox.form (by omega)
  have e2 := e1
  rw [vx] at e2
  injection e2 with e3 _ _
  rw [e1] at ox
  exact ⟨g, e3, own_cell ox (h4.2 q hq)⟩
end Go.Proofs.Ytiakfgplhdbaeaa
