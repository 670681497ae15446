/-
  BlocksOwns: four files in a row; what the lists of lists hold.
-/
import Derived.Test.YtjlhmojofjkkdaaJ1
import Derived.Test.YtjlhmojofjkkdaaE4
import Derived.Test.YtjlhmojofjkkdaaWSpots
import Derived.Great.BuildSlice
namespace Go.Proofs.Ytjlhmojofjkkdaa
open Go.RowKit Go.Shelf

/-- Four files in a row. -/
def fourV (F G : Array Value) : Array Value := F ++ G ++ F ++ F
def FilesAt (w : World) (CF : Array Value) (fl : Nat → List Int × Src) : Prop :=
  ∀ k, k < 4 → ∃ z a c s, fl k = (z, s) ∧ z.length = 18 ∧ ImgAt w a s.im ∧ ∀ (j : Nat) v, (fileV z a c s)[j]? = some v → CF[k * 21 + j]? = some v
theorem four_key {F G : Array Value} (hF : F.size = 21) (hG : G.size = 21) (j : Nat) (v : Value) :
    (F[j]? = some v → (fourV F G)[0 * 21 + j]? = some v) ∧ (G[j]? = some v → (fourV F G)[1 * 21 + j]? = some v) ∧ (F[j]? = some v → (fourV F G)[2 * 21 + j]? = some v) ∧ (F[j]? = some v → (fourV F G)[3 * 21 + j]? = some v) := by
  unfold fourV
  refine ⟨fun h => ?_, fun h => ?_, fun h => ?_, fun h => ?_⟩ <;> have hj := (Array.getElem?_eq_some_iff.1 h).1
  · rw [Array.getElem?_append_left (by simp only [Array.size_append]; omega), Array.getElem?_append_left (by simp only [Array.size_append]; omega), Array.getElem?_append_left (by omega), show 0 * 21 + j = j by omega]; exact h
  · rw [Array.getElem?_append_left (by simp only [Array.size_append]; omega), Array.getElem?_append_left (by simp only [Array.size_append]; omega), Array.getElem?_append_right (by omega), show 1 * 21 + j - F.size = j by omega]; exact h
  · rw [Array.getElem?_append_left (by simp only [Array.size_append]; omega), Array.getElem?_append_right (by simp only [Array.size_append]; omega), Array.size_append, show 2 * 21 + j - (F.size + G.size) = j by omega]; exact h
  · rw [Array.getElem?_append_right (by simp only [Array.size_append]; omega), Array.size_append, Array.size_append, show 3 * 21 + j - (F.size + G.size + F.size) = j by omega]; exact h
def flF (z z' : List Int) (s s' : Src) (k : Nat) : List Int × Src := if k = 1 then (z', s') else (z, s)
theorem four_at {w : World} {z z' : List Int} {a a' : Option Addr} {c c' : Nat} {s s' : Src} (hz : z.length = 18) (hz' : z'.length = 18) (hi : ImgAt w a s.im) (hi' : ImgAt w a' s'.im) :
    FilesAt w (fourV (fileV z a c s) (fileV z' a' c' s')) (flF z z' s s') := by
  intro k hk
  have key := four_key (fileV_size hz a c s) (fileV_size hz' a' c' s')
  have hk4 : k = 0 ∨ k = 1 ∨ k = 2 ∨ k = 3 := by omega
  rcases hk4 with rfl | rfl | rfl | rfl
  · exact ⟨z, a, c, s, if_neg (by decide), hz, hi, fun j v h => (key j v).1 h⟩
  · exact ⟨z', a', c', s', if_pos rfl, hz', hi', fun j v h => (key j v).2.1 h⟩
  · exact ⟨z, a, c, s, if_neg (by decide), hz, hi, fun j v h => (key j v).2.2.1 h⟩
  · exact ⟨z, a, c, s, if_neg (by decide), hz, hi, fun j v h => (key j v).2.2.2 h⟩
theorem infoFile : ∃ i z, Try.prog.info? 32 = some i ∧ i.zero = some z ∧ i.size = 21 := by
  have h : (Try.prog.info? 32).map (fun i => (i.zero.isSome, i.size)) = some (true, 21) := by kernel_rfl
  cases hq : Try.prog.info? 32 with
  | none => rw [hq] at h; cases h
  | some i =>
    rw [hq] at h
    simp at h
    obtain ⟨z, hz⟩ := Option.isSome_iff_exists.1 h.1
    exact ⟨i, z, rfl, hz, h.2⟩
theorem wp_four {ops : Array Oper} {rest : List Oper} {o : Oper} {a : Act} {Q : Exit → Act → World → Prop} {w : World} (hg : o.guard = none) (x0 x1 x2 x3 : Operand) (ho : o.op = .buildSlice 59 4 #[(0, x0), (1, x1), (2, x2), (3, x3)]) (F G : Array Value) (hF : F.size = 21) (hG : G.size = 21)
    (h0 : a.eval x0 = .agg F) (h1 : a.eval x1 = .agg G) (h2 : a.eval x2 = .agg F) (h3 : a.eval x3 = .agg F)
    (h : wpList Try.prog ops Q rest (a.put o.dst (.slice (some ⟨w.heap.size, 0, none⟩) 4 4)) (w.alloc (.cells (fourV F G) 32))) : wpList Try.prog ops Q (o :: rest) a w := by
  obtain ⟨i, z, hi, hz, hsz⟩ := infoFile
  refine wpList_buildSlice hg 59 32 4 _ ho (fourV F G) i z Try.underlying59 hi hz (by rw [hsz]; decide) (by rw [hsz]; decide) ?_ h
  have key := Great.fill_whole (s := 21) (by decide) [.agg F, .agg G, .agg F, .agg F] ((Array.range (4 * 21)).map (z.cells[· % z.cells.size]!)) (by
    intro v hv
    simp only [List.mem_cons, List.not_mem_nil, or_false] at hv
    rcases hv with rfl | rfl | rfl | rfl
    · exact hF
    · exact hG
    · exact hF
    · exact hF) (by simp)
  have e1 : ((#[(0, x0), (1, x1), (2, x2), (3, x3)] : Array (Nat × Operand)).map fun (i, x) => (i, a.eval x)).toList = (([.agg F, .agg G, .agg F, .agg F] : List Value).zipIdx 0).map fun x => (x.2, x.1) := by
    simp [h0, h1, h2, h3]
  have e2 : (([.agg F, .agg G, .agg F, .agg F] : List Value).flatMap fun v => v.cells.toList).toArray = fourV F G := by
    apply Array.toList_inj.1
    unfold fourV
    simp [Value.cells]
  rw [hsz, e1, key, e2]
theorem sz84 {F G : Array Value} (hF : F.size = 21) (hG : G.size = 21) : (fourV F G).size = 84 := by unfold fourV; simp only [Array.size_append]; omega
/-- What the two lists of lists hold. -/
def SpIs (fl : Nat → List Int × Src) (V : List Lst) : Prop := ∀ (j : Nat) x, V[j]? = some x → x.n = (rowsAns (rowsL (fl j).2 (fl j).1)).1.length ∧ x.xs = flatS (rowsAns (rowsL (fl j).2 (fl j).1)).1
def TbIs (fl : Nat → List Int × Src) (V : List Lst) : Prop := ∀ (j : Nat) x, V[j]? = some x → x.n = (tblR (fl j).2 (fl j).1).1.length ∧ x.xs = (tblR (fl j).2 (fl j).1).1.map (Value.int .i64)
abbrev LotS (B : Nat) (v : Value) (V : List Lst) (w : World) : Prop := Lot B 44 61 2 v V w
abbrev LotI (B : Nat) (v : Value) (V : List Lst) (w : World) : Prop := Lot B 33 3 1 v V w
theorem SpIs.more {fl : Nat → List Int × Src} {V : List Lst} {x : Lst} (h : SpIs fl V) (hx : x.n = (rowsAns (rowsL (fl V.length).2 (fl V.length).1)).1.length ∧ x.xs = flatS (rowsAns (rowsL (fl V.length).2 (fl V.length).1)).1) : SpIs fl (V ++ [x]) := by
  intro j y hy
  rcases get_more hy with ⟨h1, _⟩ | ⟨rfl, rfl⟩
  · exact h j y h1
  · exact hx
theorem TbIs.more {fl : Nat → List Int × Src} {V : List Lst} {x : Lst} (h : TbIs fl V) (hx : x.n = (tblR (fl V.length).2 (fl V.length).1).1.length ∧ x.xs = (tblR (fl V.length).2 (fl V.length).1).1.map (Value.int .i64)) : TbIs fl (V ++ [x]) := by
  intro j y hy
  rcases get_more hy with ⟨h1, _⟩ | ⟨rfl, rfl⟩
  · exact h j y h1
  · exact hx
theorem lot_new {B eo e k : Nat} {v : Value} {V : List Lst} {w w' : World} (h : Lot B eo e k v V w) {x : Value} {n : Nat} {xs : List Value} (ho : w'.ownsRow w.heap.size e k x n xs) : ∀ (j : Nat) u g, V[j]? = some u → x.ownBlock = some g → u.v.ownBlock ≠ some g := by
  intro j u g hu hg e1
  have h1 := (own_block ho hg).1
  have h2 := slt (own_block (h.own j u hu) e1).2.choose_spec
  omega

theorem ownr_mono {w : World} {B B' e k n : Nat} {v : Value} {xs : List Value} (h : w.ownsRow B e k v n xs) (hB : B' ≤ B) : w.ownsRow B' e k v n xs := by
  refine ⟨h.1, ?_⟩
  rcases h.2 with h | ⟨g, cap, cur, hv, hb, r⟩
  · exact .inl h
  · exact .inr ⟨g, cap, cur, hv, Nat.le_trans hB hb, r⟩
theorem ownr_below {w w' : World} {B e k n : Nat} {v : Value} {xs : List Value} (h : w.ownsRow B e k v n xs) (hb : Below w.heap.size w w') : w'.ownsRow B e k v n xs :=
  own_keep h (fun _ hg => hb.block _ (slt (own_block h hg).2.choose_spec))
theorem ownr_grow {w w' : World} {B B' e k n t : Nat} {v : Value} {xs : List Value} (h : w.ownsRow B e k v n xs) (hg : Grow t B' w w') (ht : e ≠ t) : w'.ownsRow B e k v n xs :=
  own_keep h (fun _ hv => by obtain ⟨_, cur, hc⟩ := own_block h hv; rw [hc]; exact hg.keep _ _ _ _ hc ht)
theorem Lot.grow {B B' eo e k t : Nat} {v : Value} {V : List Lst} {w w' : World} (h : Lot B eo e k v V w) (hg : Grow t B' w w') (h1 : eo ≠ t) (h2 : e ≠ t) : Lot B eo e k v V w' :=
  h.types (fun _ _ _ _ hb ht => hg.keep _ _ _ _ hb (by rcases ht with e | e <;> rw [e] <;> assumption))
theorem Duo.grow {B B' eo e k t : Nat} {v m : Value} {V M : List Lst} {w w' : World} (h : Duo B eo e k v m V M w) (hg : Grow t B' w w') (h1 : eo ≠ t) (h2 : e ≠ t) : Duo B eo e k v m V M w' :=
  h.types (fun _ _ _ _ hb ht => hg.keep _ _ _ _ hb (by rcases ht with e | e <;> rw [e] <;> assumption))
theorem below_alloc (w : World) (o : Obj) : Below w.heap.size w (w.alloc o) := (Below.refl _ _).alloc (Nat.le_refl _) _
/-- The lists ahead of k hold marks alone. -/
def SM (k : Nat) (V : List Lst) : Prop := ∀ (j : Nat) x, V[j]? = some x → x.n ≤ 2000 ∧ (j < k → ∀ q, q < x.n → x.xs[q * 2]? = some (.int .i64 (-(j : Int) - 1)))
def IM (k : Nat) (V : List Lst) : Prop := ∀ (j : Nat) x, V[j]? = some x → x.n ≤ 2000 ∧ (j < k → ∀ q, q < x.n → x.xs[q]? = some (.int .i64 (-(j : Int) - 1)))
theorem below_put {w w' : World} {B g : Nat} {U : World} (hb : Below B U w) (hBU : B ≤ U.heap.size) (hg : w.grownBy w' (some g)) (hB : B ≤ g) : Below B U w' :=
  hb.trans ((Below.refl B w).grown hg (Nat.le_trans hBU hb.size) (fun j hj => by have := Option.some.inj hj; omega))
theorem ans_small (s : Src) (z : List Int) : (rowsAns (rowsL s z)).1.length ≤ 2000 := by
  have h1 := rowsAns_le (rowsL s z) rows_ps
  have h2 := rows_le s z
  omega
theorem tbl_small (s : Src) (z : List Int) : (tblR s z).1.length ≤ 2000 := by
  have := there_le32 s (z.getD 17 0)
  unfold tblR
  generalize thereL (tabS s (z.getD 17 0)).1 = L at *
  split
  · split <;> simp
  · split
    · split <;> simp <;> omega
    · simp
theorem SpIs.sm {fl : Nat → List Int × Src} {V : List Lst} (h : SpIs fl V) : SM 0 V := fun j x hx => ⟨by rw [(h j x hx).1]; exact ans_small _ _, fun e => absurd e (Nat.not_lt_zero _)⟩
theorem TbIs.im {fl : Nat → List Int × Src} {V : List Lst} (h : TbIs fl V) : IM 0 V := fun j x hx => ⟨by rw [(h j x hx).1]; exact tbl_small _ _, fun e => absurd e (Nat.not_lt_zero _)⟩
theorem Lot.other {B eo e k g t : Nat} {v : Value} {V : List Lst} {w w' : World} {cur : Array Value} {f : Nat × Nat} (h : Lot B eo e k v V w) (hg : w.grownBy w' (some g)) (hc : w.heap[g]? = some (.cells cur t f)) (h1 : eo ≠ t) (h2 : e ≠ t) : Lot B eo e k v V w' := by
  refine h.types (fun i cs t' f' hb ht => ?_)
  rw [hg.block i (slt hb) (fun e' => ?_)]
  · exact hb
  · have := Option.some.inj e'
    subst this
    rw [hc] at hb
    cases hb
    rcases ht with e | e
    · exact h1 e.symm
    · exact h2 e.symm
theorem set_at {V : List Lst} {k : Nat} {x y : Lst} (hx : V[k]? = some x) : (V.set k y)[k]? = some y := by
  rw [List.getElem?_set, if_pos rfl, if_pos (List.getElem?_eq_some_iff.1 hx).1]
theorem SM.put {k : Nat} {V : List Lst} {x : Lst} {ys : List Value} (h : SM k V) (hx : V[k]? = some x) : SM k (V.set k ⟨x.v, x.n, ys⟩) := by
  intro j y hy
  by_cases e : j = k
  · subst e
    rw [set_at hx] at hy
    cases hy
    exact ⟨(h _ x hx).1, fun e => absurd e (Nat.lt_irrefl _)⟩
  · rw [List.getElem?_set, if_neg (fun e' => e e'.symm)] at hy
    exact h j y hy
theorem IM.put {k : Nat} {V : List Lst} {x : Lst} {ys : List Value} (h : IM k V) (hx : V[k]? = some x) : IM k (V.set k ⟨x.v, x.n, ys⟩) := by
  intro j y hy
  by_cases e : j = k
  · subst e
    rw [set_at hx] at hy
    cases hy
    exact ⟨(h _ x hx).1, fun e => absurd e (Nat.lt_irrefl _)⟩
  · rw [List.getElem?_set, if_neg (fun e' => e e'.symm)] at hy
    exact h j y hy
theorem SM.next {k : Nat} {V : List Lst} {x : Lst} (h : SM k V) (hx : V[k]? = some x) (hm : ∀ p, p < x.n → x.xs[p * 2]? = some (.int .i64 (-(k : Int) - 1))) : SM (k + 1) V := by
  intro j y hy
  refine ⟨(h j y hy).1, fun hj => ?_⟩
  by_cases e : j = k
  · subst e
    rw [hx] at hy
    cases hy
    exact hm
  · exact (h j y hy).2 (by omega)
theorem IM.next {k : Nat} {V : List Lst} {x : Lst} (h : IM k V) (hx : V[k]? = some x) (hm : ∀ p, p < x.n → x.xs[p]? = some (.int .i64 (-(k : Int) - 1))) : IM (k + 1) V := by
  intro j y hy
  refine ⟨(h j y hy).1, fun hj => ?_⟩
  by_cases e : j = k
  · subst e
    rw [hx] at hy
    cases hy
    exact hm
  · exact (h j y hy).2 (by omega)
theorem mark_put {xs : List Value} {q : Nat} {m z : Value} (h : ∀ p, p < q → xs[p * 2]? = some m) (hl : q * 2 + 1 < xs.length) : ∀ p, p < q + 1 → ((xs.set (q * 2) m).set (q * 2 + 1) z)[p * 2]? = some m := by
  intro p hp
  rw [List.getElem?_set, if_neg (by omega), List.getElem?_set]
  by_cases e : q * 2 = p * 2
  · rw [if_pos e, if_pos (by omega)]
  · rw [if_neg e]; exact h p (by omega)
theorem mark_put1 {xs : List Value} {q : Nat} {m : Value} (h : ∀ p, p < q → xs[p]? = some m) (hl : q < xs.length) : ∀ p, p < q + 1 → (xs.set q m)[p]? = some m := by
  intro p hp
  rw [List.getElem?_set]
  by_cases e : q = p
  · rw [if_pos e, if_pos hl]
  · rw [if_neg e]; exact h p (by omega)

end Go.Proofs.Ytjlhmojofjkkdaa
