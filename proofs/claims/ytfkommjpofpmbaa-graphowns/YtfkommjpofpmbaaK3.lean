/-
  Two lists more at once, in a statement whose order of evaluation is left open; what the lists of Before and Edges hold.
-/
import Derived.Test.YtfkommjpofpmbaaK0
import Derived.Test.YtfkommjpofpmbaaLawM2
import Derived.Test.YtfkommjpofpmbaaRef5
namespace Go.Proofs.Ytfkommjpofpmbaa
open Go.RowKit

theorem get_moreL {α : Type} {V L : List α} {j : Nat} {y : α} (hy : (V ++ L)[j]? = some y) : (V[j]? = some y ∧ j < V.length) ∨ (L[j - V.length]? = some y ∧ V.length ≤ j) := by
  rcases Nat.lt_or_ge j V.length with g | g
  · rw [List.getElem?_append_left g] at hy; exact .inl ⟨hy, g⟩
  · rw [List.getElem?_append_right g] at hy; exact .inr ⟨hy, g⟩
theorem Lot.moreL {B eo e k : Nat} {v v' : Value} {V L : List Lst} {w w' : World} (h : Lot B eo e k v V w) (hne : eo ≠ e) (ho : ∀ (j : Nat) x, L[j]? = some x → w.ownsRow B e k x.v x.n x.xs)
    (h2 : ∀ (i j : Nat) x y g, L[i]? = some x → L[j]? = some y → x.v.ownBlock = some g → y.v.ownBlock = some g → i = j) (hx : ∀ (i j : Nat) x y g, V[i]? = some x → L[j]? = some y → x.v.ownBlock = some g → y.v.ownBlock ≠ some g)
    (hr : w'.ownsRow B eo 1 v' (V.length + L.length) (V.map Lst.v ++ L.map Lst.v)) (hg : w.grownBy w' v.ownBlock) : Lot B eo e k v' (V ++ L) w' := by
  have far : ∀ y : Lst, w.ownsRow B e k y.v y.n y.xs → w'.ownsRow B e k y.v y.n y.xs := by
    intro y hy
    refine own_keepJ hy (fun g hgy => hg.block g ?_ ?_)
    · exact slt (own_block hy hgy).2.choose_spec
    · intro e1
      obtain ⟨_, c1, h1⟩ := own_block hy hgy
      obtain ⟨_, c2, h2⟩ := own_block h.row e1.symm
      rw [h1] at h2
      cases h2
      exact hne rfl
  refine ⟨by rw [List.map_append, List.length_append]; exact hr, ?_, ?_⟩
  · intro j y hy
    rcases get_moreL hy with ⟨h1, _⟩ | ⟨h1, _⟩
    · exact far y (h.own j y h1)
    · exact far y (ho _ y h1)
  · intro i j y z g hy hz hgy hgz
    rcases get_moreL hy with ⟨h1, l1⟩ | ⟨h1, l1⟩
    · rcases get_moreL hz with ⟨k1, l2⟩ | ⟨k1, l2⟩
      · exact h.two i j y z g h1 k1 hgy hgz
      · exact absurd hgz (hx i _ y z g h1 k1 hgy)
    · rcases get_moreL hz with ⟨k1, l2⟩ | ⟨k1, l2⟩
      · exact absurd hgy (hx j _ z y g k1 h1 hgz)
      · have := h2 _ _ y z g h1 k1 hgy hgz
        omega
/-- Two lists, each in a block of its own. -/
theorem two_apart {e k : Nat} {w w1 w2 : World} {y z : Lst} (h1 : w1.ownsRow w.heap.size e k y.v y.n y.xs) (h2 : w2.ownsRow w1.heap.size e k z.v z.n z.xs) : ∀ g, y.v.ownBlock = some g → z.v.ownBlock ≠ some g := by
  intro g hy hz
  have a := slt (own_block h1 hy).2.choose_spec
  have b := (own_block h2 hz).1
  omega
section
variable {ops : Array Oper} {Q : Exit → Act → World → Prop} {S : World → Prop} {fuel : Nat} {listed : Array Bool} {a : Act} {w : World}
/-- append of two lists, in a statement whose order is open. -/
theorem stAppL2 (i d : Nat) {o : Oper} (hop : ops[i]? = some o) (hd : o.dst = some d) (hw : Region.wanted o (yielded ops a.tmps) = true) (s x : Operand)
    (ho : o.op = .call { callee := .builtin .append, args := #[s, x], argTypes := #[36, 36] }) (B b ca : Nat) (v : Value) (V : List Lst) (y z : Lst) (hs : a.eval s = v) (hx : a.eval x = .slice (some ⟨b, 0, none⟩) 2 ca)
    (hl : Lot B 29 3 1 v V w) (hb : w.heap[b]? = some (.cells #[y.v, z.v] 29 (0, 0))) (h1 : w.ownsRow B 3 1 y.v y.n y.xs) (h2 : w.ownsRow B 3 1 z.v z.n z.xs)
    (hyz : ∀ g, y.v.ownBlock = some g → z.v.ownBlock ≠ some g) (hVy : ∀ (j : Nat) u g, V[j]? = some u → u.v.ownBlock = some g → y.v.ownBlock ≠ some g) (hVz : ∀ (j : Nat) u g, V[j]? = some u → u.v.ownBlock = some g → z.v.ownBlock ≠ some g)
    (hn : V.length ≤ 1000) (hB : B ≤ w.heap.size)
    (h : ∀ v' w', Lot B 29 3 1 v' (V ++ [y, z]) w' → Grow 29 B w w' →
      S w' ∧ wpAnyH Try.prog .any ops Q S fuel (listed.setIfInBounds i true) { a with tmps := a.tmps.setIfInBounds d v' } w') : St ops Q S fuel listed a w i := by
  obtain ⟨inf, hi, hz, hsz, hby⟩ := infoLi
  obtain ⟨v', w', hr, k2, k3, _, _⟩ := run_append_own_at (P := Try.prog) w B 36 o.type 29 inf _ 1 24 Try.underlying36 hi hz hsz hby rfl (by decide) v V.length (V.map Lst.v) hl.row ⟨b, 0, none⟩ 2 ca [y.v, z.v] rfl (fun j u hj => by
      rw [addr_addJ, Nat.zero_add, cell_of_row _ _ _ _ _ _ hb]
      simpa using hj) (by
      intro u hu
      simp only [List.mem_cons, List.not_mem_nil, or_false] at hu
      rcases hu with rfl | rfl
      · exact own_one h1
      · exact own_one h2) (by unfold maxLen; omega) (by omega) hB
  have get2 : ∀ (j : Nat) u, [y, z][j]? = some u → (j = 0 ∧ u = y) ∨ (j = 1 ∧ u = z) := by
    intro j u hj
    match j, hj with
    | 0, hj => simp at hj; exact .inl ⟨rfl, hj.symm⟩
    | 1, hj => simp at hj; exact .inr ⟨rfl, hj.symm⟩
    | j + 2, hj => simp at hj
  have hh := h v' w' (hl.moreL (by decide) (fun j u hj => by
      rcases get2 j u hj with ⟨_, rfl⟩ | ⟨_, rfl⟩
      · exact h1
      · exact h2) (fun p q u t g hu ht gu gt => by
      rcases get2 p u hu with ⟨rfl, rfl⟩ | ⟨rfl, rfl⟩ <;> rcases get2 q t ht with ⟨rfl, rfl⟩ | ⟨rfl, rfl⟩
      · rfl
      · exact absurd gt (hyz g gu)
      · exact absurd gu (hyz g gt)
      · rfl) (fun p q u t g hu ht gu => by
      rcases get2 q t ht with ⟨_, rfl⟩ | ⟨_, rfl⟩
      · exact hVy p u g hu gu
      · exact hVz p u g hu gu) k2 k3) (grow_of hl.row hB k3)
  refine wpOp_step hop (fun K hK => ?_)
  rw [if_pos hw]
  unfold Oper.wp execOp
  simp only [ho, resolve, invoke, builtin, Sem.run_bind, Sem.run_pure, Result.andThen_ok, List.map_toArray, List.map_cons, List.map_nil, hs, hx, hr]
  refine hK _ _ ⟨hh.1, ?_⟩
  unfold Act.put
  rw [hd]
  exact hh.2
end
/-- Which sector the i-th list is asked of. -/
def argO (ws : List StV) (j : Nat) : Int := if j % 2 = 1 then (ws.getD (j / 2) StV.z).b else (ws.getD (j / 2) StV.z).a
def BsIs (E : Int → Int → Prop) (ws : List StV) (V : List Lst) : Prop := ∀ (j : Nat) x, V[j]? = some x → ∃ l : List Int, BList E (argO ws j) l ∧ l.length ≤ 100000 ∧ x.n = l.length ∧ x.xs = l.map (Value.int .i64)
def EsIs (E : Int → Int → Prop) (V : List Lst) : Prop := ∀ (j : Nat) x, V[j]? = some x → ∃ l : List (Int × Int), EList E l ∧ l.length ≤ 16777216 ∧ x.n = l.length ∧ x.xs = cellsE l
theorem BsIs.more {E : Int → Int → Prop} {ws : List StV} {V : List Lst} {k : Nat} {y z : Lst} {l m : List Int} (h : BsIs E ws V) (hV : V.length = 2 * k) (hl : BList E (ws.getD k StV.z).a l) (hm : BList E (ws.getD k StV.z).b m)
    (h1 : l.length ≤ 100000) (h2 : m.length ≤ 100000) (hy : y.n = l.length ∧ y.xs = l.map (Value.int .i64)) (hz : z.n = m.length ∧ z.xs = m.map (Value.int .i64)) : BsIs E ws (V ++ [y, z]) := by
  intro j x hx
  rcases get_moreL hx with ⟨k1, _⟩ | ⟨k1, k2⟩
  · exact h j x k1
  · have hj : j - V.length = 0 ∨ j - V.length = 1 := by
      have := (List.getElem?_eq_some_iff.1 k1).1
      simp at this
      omega
    rcases hj with e | e
    · rw [e] at k1
      have : y = x := by simpa using k1
      subst this
      refine ⟨l, ?_, h1, hy.1, hy.2⟩
      unfold argO
      rw [if_neg (by omega), show j / 2 = k by omega]
      exact hl
    · rw [e] at k1
      have : z = x := by simpa using k1
      subst this
      refine ⟨m, ?_, h2, hz.1, hz.2⟩
      unfold argO
      rw [if_pos (by omega), show j / 2 = k by omega]
      exact hm
theorem EsIs.more {E : Int → Int → Prop} {V : List Lst} {y : Lst} {l : List (Int × Int)} (h : EsIs E V) (hl : EList E l) (h1 : l.length ≤ 16777216) (hy : y.n = l.length ∧ y.xs = cellsE l) : EsIs E (V ++ [y]) := by
  intro j x hx
  rcases get_more hx with ⟨k1, _⟩ | ⟨rfl, _⟩
  · exact h j x k1
  · exact ⟨l, hl, h1, hy.1, hy.2⟩
theorem blist_small {E : Int → Int → Prop} {n : Int} {l : List Int} (h : BList E n l) (hs : InSec E) : l.length ≤ 100000 := by
  obtain ⟨L, hL, hm⟩ := few_sec.one n
  refine Nat.le_trans (nodup_len l L (h.1.imp fun {a b} h e => by omega) fun x hx => hm x ?_) (by omega)
  rcases ((h.2 x).1 hx).2 with e | e
  · exact .inl e
  · exact .inr (e.sec hs).1
theorem lot_newO {B eo e k : Nat} {v : Value} {V : List Lst} {w w' : World} {C : Nat} (h : Lot B eo e k v V w) (hC : w.heap.size ≤ C) {x : Value} {n : Nat} {xs : List Value} (ho : w'.ownsRow C e k x n xs) : ∀ (j : Nat) u g, V[j]? = some u → u.v.ownBlock = some g → x.ownBlock ≠ some g := by
  intro j u g hu e1 hg
  have h1 := (own_block ho hg).1
  have h2 := slt (own_block (h.own j u hu) e1).2.choose_spec
  omega
theorem lot_newB {B eo e k : Nat} {v : Value} {V : List Lst} {w w' : World} {C : Nat} (h : Lot B eo e k v V w) (hC : w.heap.size ≤ C) {x : Value} {n : Nat} {xs : List Value} (ho : w'.ownsRow C e k x n xs) : ∀ (j : Nat) u g, V[j]? = some u → x.ownBlock = some g → u.v.ownBlock ≠ some g :=
  fun j u g hu hg e1 => lot_newO h hC ho j u g hu e1 hg
theorem own_iat {w : World} {B : Nat} {x : Lst} {l : List Int} {a : Option Addr} {c : Nat} (h : w.ownsRow B 3 1 x.v x.n x.xs) (h1 : x.n = l.length) (h2 : x.xs = l.map (Value.int .i64)) (hv : x.v = .slice a x.n c) : IAt w a l := by
  rw [h1, h2] at h
  rw [h1] at hv
  obtain ⟨a', c', e1, hI, _⟩ := Ints.at_ h
  rw [hv] at e1
  injection e1 with e2 _ _
  subst e2
  exact hI
theorem own_eat {w : World} {B : Nat} {x : Lst} {l : List (Int × Int)} {a : Option Addr} {c : Nat} (h : w.ownsRow B 48 2 x.v x.n x.xs) (h1 : x.n = l.length) (h2 : x.xs = cellsE l) (hv : x.v = .slice a x.n c) : EAt w a l := by
  rw [h1, h2] at h
  rw [h1] at hv
  obtain ⟨a', c', e1, hI, _⟩ := Edgs.at_ h
  rw [hv] at e1
  injection e1 with e2 _ _
  subst e2
  exact hI

end Go.Proofs.Ytfkommjpofpmbaa
