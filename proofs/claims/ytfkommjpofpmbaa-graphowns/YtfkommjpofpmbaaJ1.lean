/-
  Lists of lists: append and store.
-/
import Derived.Test.YtfkommjpofpmbaaJ0
import Derived.Deep.MidRow
namespace Go.Proofs.Ytfkommjpofpmbaa
open Go.RowKit

/-- What is known of a type whose values are slices. -/
def InfoL (eo : TypeId) : Prop := ∃ i, Try.prog.info? eo = some i ∧ i.zero = some (.slice none 0 0) ∧ i.size = 1 ∧ i.bytes = 24
theorem infoLs : InfoL 30 := by
  have h : (Try.prog.info? 30).map (fun i => (i.zero, i.size, i.bytes)) = some (some (.slice none 0 0), 1, 24) := by kernel_rfl
  unfold InfoL
  cases hq : Try.prog.info? 30 with
  | none => rw [hq] at h; cases h
  | some i =>
    rw [hq] at h
    simp at h
    exact ⟨i, rfl, h.1, h.2.1, h.2.2⟩
theorem infoLi : InfoL 29 := by
  have h : (Try.prog.info? 29).map (fun i => (i.zero, i.size, i.bytes)) = some (some (.slice none 0 0), 1, 24) := by kernel_rfl
  unfold InfoL
  cases hq : Try.prog.info? 29 with
  | none => rw [hq] at h; cases h
  | some i =>
    rw [hq] at h
    simp at h
    exact ⟨i, rfl, h.1, h.2.1, h.2.2⟩
theorem own_one {w : World} {B e k n : Nat} {v : Value} {xs : List Value} (h : w.ownsRow B e k v n xs) : v.oneCell' = true := by
  obtain ⟨a, c, rfl, _⟩ := row_shape9 h
  rfl
/-- append: it grows in its place, or it moves and the old block stays as it was. -/
theorem run_append_keep {P : Program} (w : World) (base : Nat) (t ty e : TypeId) (i : TypeInfo) (z : Value) (size bytes : Nat) (ht : P.underlying t = some (.slice e)) (hi : P.info? e = some i) (hz : i.zero = some z)
    (hsize : i.size = size) (hby : i.bytes = bytes) (hzs : z.cells.size = size) (hsz : 0 < size)
    (v : Value) (n : Nat) (xs : List Value) (hown : w.ownsRow base e size v n xs)
    (a : Addr) (m c : Nat) (news : List Value) (hl : news.length = m * size) (hnews : ∀ j u, news[j]? = some u → w.cell? (a.add j) = some u) (h1 : ∀ u ∈ news, u.oneCell' = true)
    (hm : 0 < m) (h63 : n + m ≤ maxLen) (hbytes : (n + m) * bytes ≤ 140737488355328) (hbase : base ≤ w.heap.size) :
    ∃ g cap w', (Builtin.append_ #[t, t] ty #[v, .slice (some a) m c]).run P w = .ok (.slice (some ⟨g, 0, none⟩) (n + m) cap) w' ∧ w'.ownsRow base e size (.slice (some ⟨g, 0, none⟩) (n + m) cap) (n + m) (xs ++ news) ∧
      ((v = .slice (some ⟨g, 0, none⟩) n cap ∧ w.grownBy w' (some g)) ∨ (g = w.heap.size ∧ w.grownBy w' none)) ∧ w.grownBy w' v.ownBlock := by
  obtain ⟨v', w', hr, h2, h3, _, h5⟩ := run_append_own_at (P := P) w base t ty e i z size bytes ht hi hz hsize hby hzs hsz v n xs hown a m c news hl hnews h1 h63 hbytes hbase
  obtain ⟨g', cap', rfl, _, _⟩ := h2.form (by omega)
  rcases hown.2 with ⟨hv, hn⟩ | ⟨g, cap, cur, rfl, hbg, hg, hnc, hcm, hcs, htake⟩
  · refine ⟨g', cap', w', hr, h2, .inr ⟨?_, ?_⟩, h3⟩
    · rw [hv] at h5
      rcases h5 with h5 | h5
      · cases h5
      · simpa [Value.ownBlock] using h5
    · rw [hv] at h3; exact h3
  · by_cases hroom : n + m ≤ cap
    · obtain ⟨w2, hr2, h4, h6⟩ := run_append_fits (P := P) w base t ty e i size ht hi hsize g n cap xs hown a m c news hl hnews h1 hroom
      exact ⟨g, cap, w2, hr2, h4, .inl ⟨rfl, h6⟩, h6⟩
    · subst hsize
      subst hby
      have hsmall : n + m ≤ 9223372036854775807 := by simp only [maxLen] at h63; omega
      have holds : ∀ j u, xs[j]? = some u → w.cell? ((⟨g, 0, none⟩ : Addr).add j) = some u := hown.cells (g := g) rfl
      have hr2 := run_append_grow (P := P) w t ty e i z ht hi hz ⟨g, 0, none⟩ n cap xs hown.1 holds a m c news hl hnews (by omega) (by omega) (growslice_fits (by omega) hbytes)
      rw [hr2] at hr
      have e1 := (Result.ok.inj hr).1
      have e2 := (Result.ok.inj hr).2
      subst e2
      rw [← e1] at h2
      exact ⟨_, _, _, hr2, h2, .inr ⟨rfl, ⟨rfl, rfl, rfl, by simp, fun k hk _ => heap_alloc_old w.drew _ hk⟩⟩, h3⟩
theorem infoIJ : ∃ i, Try.prog.info? 3 = some i ∧ i.zero = some (.int .i64 0) ∧ i.size = 1 ∧ i.bytes = 8 := by
  have h : (Try.prog.info? 3).map (fun i => (i.zero, i.size, i.bytes)) = some (some (.int .i64 0), 1, 8) := by kernel_rfl
  cases hq : Try.prog.info? 3 with
  | none => rw [hq] at h; cases h
  | some i =>
    rw [hq] at h
    simp at h
    exact ⟨i, rfl, h.1, h.2.1, h.2.2⟩
theorem infoEJ : ∃ i, Try.prog.info? 48 = some i ∧ i.zero = some (.agg #[.int .i64 0, .int .i64 0]) ∧ i.size = 2 ∧ i.bytes = 16 := by
  have h : (Try.prog.info? 48).map (fun i => (i.zero, i.size, i.bytes)) = some (some (.agg #[.int .i64 0, .int .i64 0]), 2, 16) := by kernel_rfl
  cases hq : Try.prog.info? 48 with
  | none => rw [hq] at h; cases h
  | some i =>
    rw [hq] at h
    simp at h
    exact ⟨i, rfl, h.1, h.2.1, h.2.2⟩
theorem szEJ : (Try.prog.info? 48).map (·.size) = some 2 := by kernel_rfl
section
variable {ops : Array Oper} {rest : List Oper} {o : Oper} {a : Act} {Q : Exit → Act → World → Prop} {w : World}
/-- append of one list. -/
theorem wp_more (hg : o.guard = none) (s x : Operand) (t eo : TypeId) (hop : o.op = .call { callee := .builtin .append, args := #[s, x], argTypes := #[t, t] }) (ht : Try.prog.underlying t = some (.slice eo)) (hinf : InfoL eo) (B e k g c : Nat) (v : Value) (V : List Lst) (y : Lst) (hne : eo ≠ e)
    (hs : a.eval s = v) (hx : a.eval x = .slice (some ⟨g, 0, none⟩) 1 c) (hl : Lot B eo e k v V w) (hat : w.cell? ⟨g, 0, none⟩ = some y.v) (ho : w.ownsRow B e k y.v y.n y.xs) (hap : ∀ (j : Nat) u g, V[j]? = some u → y.v.ownBlock = some g → u.v.ownBlock ≠ some g)
    (hn : V.length ≤ 1000) (hB : B ≤ w.heap.size)
    (hK : ∀ v' w', Lot B eo e k v' (V ++ [y]) w' → Grow eo B w w' → wpList Try.prog ops Q rest (a.put o.dst v') w') : wpList Try.prog ops Q (o :: rest) a w := by
  obtain ⟨i, hi, hz, hsz, hby⟩ := hinf
  refine wpList_append_own_at w hg s x t hop B eo i _ 1 24 ht hi hz hsz hby rfl (by decide) v V.length (V.map Lst.v) hs hl.row ⟨g, 0, none⟩ 1 c [y.v] hx rfl (fun j u hj => ?_) (by simpa using own_one ho) (by unfold maxLen; omega) (by omega) hB ?_
  · cases j with
    | zero => simp at hj; subst hj; exact hat
    | succ j => simp at hj
  · intro v' w' h1 h2 _ _
    exact hK v' w' (hl.more hne ho hap h1 h2) (grow_of hl.row hB h2)
/-- append of a grown list. -/
theorem wp_pushJ (hg : o.guard = none) (s x : Operand) (t eo : TypeId) (hop : o.op = .call { callee := .builtin .append, args := #[s, x], argTypes := #[t, t] }) (ht : Try.prog.underlying t = some (.slice eo)) (hinf : InfoL eo) (B e k g c : Nat) (v m : Value) (V M : List Lst) (u y : Lst) (hne : eo ≠ e)
    (hs : a.eval s = m) (hx : a.eval x = .slice (some ⟨g, 0, none⟩) 1 c) (hl : Duo B eo e k v m V M w) (hat : w.cell? ⟨g, 0, none⟩ = some y.v) (hu : V[M.length]? = some u) (ho : Cur B e k V M u y w)
    (hn : M.length ≤ 1000) (hB : B ≤ w.heap.size)
    (hK : ∀ m' w', Duo B eo e k v m' V (M ++ [y]) w' → Grow eo B w w' → wpList Try.prog ops Q rest (a.put o.dst m') w') : wpList Try.prog ops Q (o :: rest) a w := by
  obtain ⟨i, hi, hz, hsz, hby⟩ := hinf
  refine wpList_append_own_at w hg s x t hop B eo i _ 1 24 ht hi hz hsz hby rfl (by decide) m M.length (M.map Lst.v) hs hl.r.row ⟨g, 0, none⟩ 1 c [y.v] hx rfl (fun j u hj => ?_) (by simpa using own_one ho.own) (by unfold maxLen; omega) (by omega) hB ?_
  · cases j with
    | zero => simp at hj; subst hj; exact hat
    | succ j => simp at hj
  · intro v' w' h1 h2 _ h4
    exact hK v' w' (hl.push hne hu ho h1 h2 h4) (grow_of hl.r.row hB h2)
/-- append of one block onto a growing list. -/
theorem wp_growE (hg : o.guard = none) (s x : Operand) (hop : o.op = .call { callee := .builtin .append, args := #[s, x], argTypes := #[30, 30] }) (B g c : Nat) (v m : Value) (V M : List Lst) (u y : Lst) (i1 i2 : Int)
    (hs : a.eval s = y.v) (hx : a.eval x = .slice (some ⟨g, 0, none⟩) 1 c) (hl : Duo B 30 48 2 v m V M w) (hat : w.heap[g]? = some (.cells #[.int .i64 i1, .int .i64 i2] 48 (0, 0))) (hu : V[M.length]? = some u) (ho : Cur B 48 2 V M u y w)
    (hn : y.n ≤ 1000000000) (hB : B ≤ w.heap.size)
    (hK : ∀ g' c' w', Duo B 30 48 2 v m V M w' → Cur B 48 2 V M u ⟨.slice (some ⟨g', 0, none⟩) (y.n + 1) c', y.n + 1, y.xs ++ [.int .i64 i1, .int .i64 i2]⟩ w' → Grow 48 B w w' → wpList Try.prog ops Q rest (a.put o.dst (.slice (some ⟨g', 0, none⟩) (y.n + 1) c')) w') : wpList Try.prog ops Q (o :: rest) a w := by
  obtain ⟨i, hi, hz, hsz, hby⟩ := infoEJ
  obtain ⟨g', c', w', hr, h2, h3, h4⟩ := run_append_keep (P := Try.prog) w B 30 o.type 48 i _ 2 16 Try.underlying30 hi hz hsz hby rfl (by decide) y.v y.n y.xs ho.own ⟨g, 0, none⟩ 1 c [.int .i64 i1, .int .i64 i2] rfl (fun j u hj => by
      rw [addr_addJ, Nat.zero_add, cell_of_row _ _ _ _ _ _ hat]
      simpa using hj) (by simp [Value.oneCell']) (by decide) (by unfold maxLen; omega) (by omega) hB
  obtain ⟨k1, k2⟩ := hl.app (by decide) hu ho h2 h3
  refine wpList_plain hg fun K hK' => ?_
  unfold Oper.wp execOp
  simp only [hop, resolve, invoke, builtin, Sem.run_bind, Sem.run_pure, Result.andThen_ok, List.map_toArray, List.map_cons, List.map_nil, hs, hx, hr]
  exact hK' _ _ (hK g' c' w' k1 k2 (grow_of ho.own hB h4))
/-- append of one number onto a growing list. -/
theorem wp_growI (hg : o.guard = none) (s x : Operand) (hop : o.op = .call { callee := .builtin .append, args := #[s, x], argTypes := #[29, 29] }) (B g c : Nat) (v m : Value) (V M : List Lst) (u y : Lst) (i1 : Int)
    (hs : a.eval s = y.v) (hx : a.eval x = .slice (some ⟨g, 0, none⟩) 1 c) (hl : Duo B 29 3 1 v m V M w) (hat : w.heap[g]? = some (.cells #[.int .i64 i1] 3 (0, 0))) (hu : V[M.length]? = some u) (ho : Cur B 3 1 V M u y w)
    (hn : y.n ≤ 1000000000) (hB : B ≤ w.heap.size)
    (hK : ∀ g' c' w', Duo B 29 3 1 v m V M w' → Cur B 3 1 V M u ⟨.slice (some ⟨g', 0, none⟩) (y.n + 1) c', y.n + 1, y.xs ++ [.int .i64 i1]⟩ w' → Grow 3 B w w' → wpList Try.prog ops Q rest (a.put o.dst (.slice (some ⟨g', 0, none⟩) (y.n + 1) c')) w') : wpList Try.prog ops Q (o :: rest) a w := by
  obtain ⟨i, hi, hz, hsz, hby⟩ := infoIJ
  obtain ⟨g', c', w', hr, h2, h3, h4⟩ := run_append_keep (P := Try.prog) w B 29 o.type 3 i _ 1 8 Try.underlying29 hi hz hsz hby rfl (by decide) y.v y.n y.xs ho.own ⟨g, 0, none⟩ 1 c [.int .i64 i1] rfl (fun j u hj => by
      rw [addr_addJ, Nat.zero_add, cell_of_row _ _ _ _ _ _ hat]
      simpa using hj) (by simp [Value.oneCell']) (by decide) (by unfold maxLen; omega) (by omega) hB
  obtain ⟨k1, k2⟩ := hl.app (by decide) hu ho h2 h3
  refine wpList_plain hg fun K hK' => ?_
  unfold Oper.wp execOp
  simp only [hop, resolve, invoke, builtin, Sem.run_bind, Sem.run_pure, Result.andThen_ok, List.map_toArray, List.map_cons, List.map_nil, hs, hx, hr]
  exact hK' _ _ (hK g' c' w' k1 k2 (grow_of ho.own hB h4))
/-- A block is written over in one list. -/
theorem wp_putE (hgd : o.guard = none) (x y : Operand) (ho : o.op = .store 48 x y) (B g c j i : Nat) (v : Value) (V : List Lst) (u : Lst) (i1 i2 : Int) (hx : a.eval x = .pointer (some ⟨g, i * 2, none⟩)) (hy : a.eval y = .agg #[.int .i64 i1, .int .i64 i2])
    (hl : Lot B 30 48 2 v V w) (hj : V[j]? = some u) (hu : u.v = .slice (some ⟨g, 0, none⟩) u.n c) (hi : i < u.n)
    (hK : ∀ w', Lot B 30 48 2 v (V.set j ⟨u.v, u.n, (u.xs.set (i * 2) (.int .i64 i1)).set (i * 2 + 1) (.int .i64 i2)⟩) w' → w.grownBy w' (some g) → wpList Try.prog ops Q rest (a.put o.dst undef) w') : wpList Try.prog ops Q (o :: rest) a w := by
  have h0 := hl.own j u hj
  have hlen := h0.1
  rw [hu] at h0
  refine wpList_store_mid hgd 48 x y ho g (i * 2) #[.int .i64 i1, .int .i64 i2] hx hy (fun q hq => ?_) (by rw [szEJ]; rfl) (by simp [Value.oneCell']) ?_
  · have hq2 : q < 2 := hq
    exact ⟨by rw [h0.cellAt (i * 2 + q) (by omega), List.getElem?_eq_getElem (by omega)]; rfl, h0.frozenAt _⟩
  · have s1 := h0.stored (i * 2) (.int .i64 i1)
    have s2 := s1.1.stored (i * 2 + 1) (.int .i64 i2)
    have hg2 := s1.2.trans s2.2
    rw [← hu] at s2
    exact hK _ (hl.put (by decide) hj (by rw [hu]; rfl) hg2 s2.1) hg2
end

end Go.Proofs.Ytfkommjpofpmbaa
