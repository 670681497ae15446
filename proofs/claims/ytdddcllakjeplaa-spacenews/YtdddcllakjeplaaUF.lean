/-
  What SpaceFull goes through, without a program; a list of numbers that grows.
-/
import Derived.Test.YtdddcllakjeplaaUG
import Derived.Maps.AppendAt
import Derived.Deep.DeepMust
namespace Go.Proofs.Ytdddcllakjeplaa
open Go.RowKit

/-- A list of numbers of the call's own, from block B on. -/
def IOwn (w : World) (B : Nat) (v : Value) (l : List Int) : Prop := w.ownsRow B 3 1 v l.length (l.map (Value.int .i64))
theorem IOwn.keep {w w' : World} {B : Nat} {v : Value} {l : List Int} (h : IOwn w B v l) (hk : ∀ g, v.ownBlock = some g → w'.heap[g]? = w.heap[g]?) : IOwn w' B v l := by
  refine ⟨h.1, ?_⟩
  rcases h.2 with h | ⟨g, cap, cur, rfl, r1, r2, r3⟩
  · exact .inl h
  · exact .inr ⟨g, cap, cur, rfl, r1, by rw [hk g rfl]; exact r2, r3⟩
theorem IOwn.lt {w : World} {B : Nat} {v : Value} {l : List Int} (h : IOwn w B v l) {g : Nat} (hg : v.ownBlock = some g) : B ≤ g ∧ g < w.heap.size := by
  rcases h.2 with h | ⟨g', cap, cur, rfl, r1, r2, r3⟩
  · rw [h.1] at hg; cases hg
  · cases hg; exact ⟨r1, slt r2⟩
theorem IOwn.nil (w : World) (B : Nat) : IOwn w B (.slice none 0 0) [] := ⟨rfl, .inl ⟨rfl, rfl⟩⟩
theorem addr_add0 (g j : Nat) : (⟨g, 0, none⟩ : Addr).add j = ⟨g, j, none⟩ := by unfold Addr.add; split <;> simp_all
theorem IOwn.slice {w : World} {B : Nat} {v : Value} {l : List Int} (h : IOwn w B v l) : ∃ ad cap, v = .slice ad l.length cap ∧ IntsAt w ad l ∧ ∀ b o, ad = some ⟨b, o, none⟩ → B ≤ b := by
  have hc := fun {g} (hg : v.ownBlock = some g) => World.ownsRow.cells h hg
  rcases h.2 with ⟨rfl, h0⟩ | ⟨g', cap, cur, rfl, r1, r2, r3⟩
  · have e : l = [] := List.eq_nil_of_length_eq_zero h0
    subst e
    exact ⟨none, 0, rfl, .inl rfl, fun b o e => by cases e⟩
  · refine ⟨_, cap, rfl, .inr ⟨g', 0, rfl, slt r2, fun j hj => ?_⟩, fun b o e => by cases e; exact r1⟩
    have := hc rfl j (.int .i64 (l.getD j 0)) (by simp [hj])
    rw [addr_add0] at this
    rw [Nat.zero_add]
    exact this
theorem run_appI {w : World} {B b ca : Nat} {v : Value} {l : List Int} (y : Int) (ty : TypeId) (hown : IOwn w B v l) (hb : w.heap[b]? = some (.cells #[.int .i64 y] 3 (0, 0))) (hl : l.length + 1 ≤ 17592186044416) (hbase : B ≤ w.heap.size) :
    ∃ v' w', (Builtin.append_ #[24, 24] ty #[v, .slice (some ⟨b, 0, none⟩) 1 ca]).run Try.prog w = .ok v' w' ∧ IOwn w' B v' (l ++ [y]) ∧ w.grownBy w' v.ownBlock ∧ (v'.ownBlock = v.ownBlock ∨ v'.ownBlock = some w.heap.size) := by
  obtain ⟨i, hi, hz, hsz, hby⟩ := infoI
  obtain ⟨v', w', hr, h2, h3, _, h5⟩ := run_append_own_at (P := Try.prog) w B 24 ty 3 i _ 1 8 Try.underlying24 hi hz hsz hby rfl (by decide) v l.length (l.map (Value.int .i64)) hown ⟨b, 0, none⟩ 1 ca [.int .i64 y] rfl (fun j u hj => by
      rw [addr_add0, cell_of_row _ _ _ _ _ _ hb]
      simpa using hj) (fun u hu => by rw [List.mem_singleton.1 hu]; rfl) (by unfold maxLen; omega) (by omega) hbase
  refine ⟨v', w', hr, ?_, h3, h5⟩
  unfold IOwn
  rw [List.length_append, List.map_append]
  exact h2
section
variable {ops : Array Oper} {rest : List Oper} {o : Oper} {a : Act} {Q : Exit → Act → World → Prop} {w : World}
theorem wp_appI (hg : o.guard = none) (s x : Operand) (hop : o.op = .call { callee := .builtin .append, args := #[s, x], argTypes := #[24, 24] }) (B b ca : Nat) (v : Value) (l : List Int) (y : Int) (hs : a.eval s = v) (hx : a.eval x = .slice (some ⟨b, 0, none⟩) 1 ca)
    (hown : IOwn w B v l) (hb : w.heap[b]? = some (.cells #[.int .i64 y] 3 (0, 0))) (hl : l.length + 1 ≤ 17592186044416) (hbase : B ≤ w.heap.size)
    (hK : ∀ v' w', IOwn w' B v' (l ++ [y]) → w.grownBy w' v.ownBlock → (v'.ownBlock = v.ownBlock ∨ v'.ownBlock = some w.heap.size) → wpList Try.prog ops Q rest (a.put o.dst v') w') : wpList Try.prog ops Q (o :: rest) a w := by
  obtain ⟨v', w', hr, h2, h3, h4⟩ := run_appI y o.type hown hb hl hbase (ca := ca)
  refine wpList_plain hg fun K' hK' => ?_
  unfold Oper.wp execOp
  simp only [hop, resolve, invoke, builtin, Sem.run_bind, Sem.run_pure, Result.andThen_ok, List.map_toArray, List.map_cons, List.map_nil, hs, hx, hr]
  exact hK' _ _ (hK v' w' h2 h3 h4)
end

/-- What is known of memory. -/
def InF (w wr : World) (X lo hi p a b : Nat) (s : SS) : Prop := Kit w wr X lo hi p a b s ∧ s.ni = b ∧ s.ns = a
section
variable {w wr wr' : World} {X lo hi p a b : Nat} {s s' : SS}
theorem InF.chg (h : InF w wr X lo hi p a b s) (hs : IsS wr' lo hi p s') (hc : Chg wr wr' (Rg lo hi)) (h1 : s'.ni = s.ni) (h2 : s'.ns = s.ns) : InF w wr' X lo hi p a b s' := ⟨h.1.chg hs hc, h1.trans h.2.1, h2.trans h.2.2⟩
theorem InF.call (h : InF w wr X lo hi p a b s) (hb : Below wr.heap.size wr wr') : InF w wr' X lo hi p a b s := ⟨h.1.call hb, h.2⟩
theorem InF.drewN (h : InF w wr X lo hi p a b s) (n : Nat) : InF w (wr.drewN n) X lo hi p a b s := ⟨h.1.drewN n, h.2⟩
end
/-- The first one that is free. -/
theorem first_at {s : SS} (h : s.Ok) (k : Nat) (hk : s.ni < k) (hk2 : k < s.ns) (h0 : atT s.T k = 0) (hl : ∀ j : Nat, s.ni < j → j < k → atT s.T j ≠ 0) : FirstIs (bt s.T) ((s.ni : Int) + 1) k true := by
  refine ⟨fun _ => ⟨by omega, by omega, by rw [bt_len, h.lT]; omega, by rw [bt_has, h0]; rfl, fun j h1 h2 h3 => ?_⟩, fun e => by cases e⟩
  obtain ⟨J, rfl⟩ := Int.eq_ofNat_of_zero_le h2
  have := hl J (by omega) (by omega)
  rw [bt_has]
  simpa using this
theorem first_no {s : SS} (h : s.Ok) (hl : ∀ j : Nat, s.ni < j → j < s.ns → atT s.T j ≠ 0) : FirstIs (bt s.T) ((s.ni : Int) + 1) 0 false := by
  refine ⟨fun e => (by cases e), fun _ => ⟨rfl, fun j h1 h2 h3 => ?_⟩⟩
  obtain ⟨J, rfl⟩ := Int.eq_ofNat_of_zero_le h2
  rw [bt_len, h.lT] at h3
  have := hl J (by omega) (by omega)
  rw [bt_has]
  simpa using this
theorem setT_at {s : SS} (h : s.Ok) (i : Nat) (v : Nat) (hi : i < s.ns) (j : Nat) : atT (s.setT i v).T j = if j = i then v else atT s.T j := by
  show atT (putT s.T i v) j = _
  rw [atT_put _ _ _ _ ⟨by omega, by rw [h.lT]; omega⟩]
  by_cases e : j = i
  · rw [if_pos e, if_pos (by omega)]
  · rw [if_neg e, if_neg (by omega)]
theorem land_at : ∀ (l : List Int) (T : List Nat) (i : Int), atT (landL T l) i = if atT T i = 2 ∧ i ∈ l then 0 else atT T i
  | [], T, i => by simp [landL]
  | x :: l, T, i => by
    rw [landL_cons, land_at l (land1 T x) i]
    have e : atT (land1 T x) i = if atT T i = 2 ∧ i = x then 0 else atT T i := by
      unfold land1
      by_cases c : atT T x = 2
      · rw [if_pos c, atT_put _ _ _ _ (atT_in (by rw [c]; decide))]
        by_cases d : i = x
        · rw [if_pos d, if_pos ⟨by rw [d]; exact c, d⟩]
        · rw [if_neg d, if_neg (fun q => d q.2)]
      · rw [if_neg c, if_neg (fun q => c (by rw [← q.2]; exact q.1))]
    rw [e]
    by_cases c : atT T i = 2
    · by_cases d : i = x
      · subst d
        simp [c]
      · simp [c, d]
    · simp [c]

/-- Which of the sectors that were told have been free later. -/
def toldL (a b : Nat) (l : List Int) : List Bool := (List.range a).map fun j => decide (b + 1 < j) && decide ((j : Int) ∈ l)
theorem toldL_len (a b : Nat) (l : List Int) : (toldL a b l).length = a := by simp [toldL]
theorem toldL_get {a b : Nat} (l : List Int) {j : Nat} (h : j < a) : (toldL a b l).getD j false = (decide (b + 1 < j) && decide ((j : Int) ∈ l)) := by
  unfold toldL
  rw [List.getD_eq_getElem?_getD, List.getElem?_map, List.getElem?_range h]
  rfl
theorem toldL_nil (a b : Nat) : noneL a = toldL a b [] := by
  apply List.ext_getElem
  · simp [noneL, toldL]
  · intro i h1 h2
    simp [noneL, toldL]
theorem toldL_snoc {a b : Nat} (l : List Int) (x : Nat) : (toldL a b l).set x (decide (b + 1 < x)) = toldL a b (l ++ [(x : Int)]) := by
  apply List.ext_getElem
  · simp [toldL]
  · intro i h1 h2
    simp only [toldL, List.getElem_set, List.getElem_map, List.getElem_range]
    by_cases e : x = i
    · subst e
      rw [if_pos rfl]
      simp
    · rw [if_neg e]
      have : ¬ (i : Int) = (x : Int) := by omega
      simp [this]

end Go.Proofs.Ytdddcllakjeplaa
