/-
  Lists of numbers that are copied and grow; what some and others need.
-/
import Derived.Test.YtjlhmojofjkkdabF1
import Derived.Test.YtjlhmojofjkkdabG1
-- may lack
namespace Go.Proofs.Ytjlhmojofjkkdab
open Go.RowKit Go.Shelf

section
variable {ops : Array Oper} {rest : List Oper} {o : Oper} {a : Act} {Q : Exit → Act → World → Prop} {w : World} {S : World → Prop} {fuel : Nat} {listed : Array Bool}
/-- append of a list of numbers. -/
theorem wp_appIs (hg : o.guard = none) (s x : Operand) (hop : o.op = .call { callee := .builtin .append, args := #[s, x], argTypes := #[39, 39] }) (B : Nat) (v : Value) (l m : List Int) (am : Option Addr) (cm : Nat) (hs : a.eval s = v) (hx : a.eval x = .slice am m.length cm)
    (hown : IOwn w B v l) (hat : LI w am m) (hl : (l.length + m.length) * 8 ≤ 140737488355328) (hB : B ≤ w.heap.size)
    (hK : ∀ v' w', IOwn w' B v' (l ++ m) → Grow 3 B w w' → wpList Try.prog ops Q rest (a.put o.dst v') w') : wpList Try.prog ops Q (o :: rest) a w := by
  obtain ⟨i, hi, hz, hsz, hby⟩ := infoI
  cases am with
  | none =>
    have h0 : m = [] := by
      cases m with
      | nil => rfl
      | cons y m => obtain ⟨_, _, e, _⟩ := hat 0 y rfl; cases e
    subst h0
    obtain ⟨a1, c1, rfl, hlen, _⟩ := row_shape9 hown
    refine wpList_plain hg fun K hK' => ?_
    unfold Oper.wp execOp
    have hr : (Builtin.append_ #[39, 39] o.type #[.slice a1 l.length c1, .slice none 0 cm]).run Try.prog w = .ok (.slice a1 l.length c1) w := by
      simp [Builtin.append_, run_underlying Try.underlying39, sizeOf, typeInfo, hi, Builtin.lenOf, Builtin.firstCells, hlen]
      cases a1 <;> simp [storeCells]
    have hx' : a.eval x = .slice none 0 cm := hx
    simp only [hop, resolve, invoke, builtin, Sem.run_bind, Sem.run_pure, Result.andThen_ok, List.map_toArray, List.map_cons, List.map_nil, hs, hx', hr]
    exact hK' _ _ (hK _ _ (by rw [List.append_nil]; exact hown) ⟨Below.refl _ _, fun _ _ _ _ h _ => h, Nat.le_refl _⟩)
  | some ad =>
    refine wpList_append_own_at w hg s x 39 hop B 3 i _ 1 8 Try.underlying39 hi hz hsz hby rfl (by decide) v l.length (l.map (Value.int .i64)) hs hown ad m.length cm (m.map (Value.int .i64)) hx (by simp) (fun j u hj => ?_) (fun u hu => ?_) (by unfold maxLen; omega) hl hB ?_
    · rw [List.getElem?_map] at hj
      cases hy : m[j]? with
      | none => rw [hy] at hj; cases hj
      | some y =>
        rw [hy] at hj
        obtain ⟨g, o, e, hc⟩ := hat j y hy
        cases e
        rw [addr_add, hc]
        exact hj
    · obtain ⟨y, _, rfl⟩ := List.mem_map.1 hu; rfl
    · intro v' w' h1 h2 _ _
      refine hK v' w' ?_ (grow_of hown hB h2)
      unfold IOwn
      rw [List.map_append, List.length_append]
      exact h1
/-- append of two numbers, in a statement whose order is open. -/
theorem stAppI2 (i d : Nat) {o : Oper} (hop : ops[i]? = some o) (hd : o.dst = some d) (hw : Region.wanted o (yielded ops a.tmps) = true) (s x : Operand)
    (ho : o.op = .call { callee := .builtin .append, args := #[s, x], argTypes := #[39, 39] }) (B b ca : Nat) (v : Value) (l : List Int) (y y2 : Int) (hs : a.eval s = v) (hx : a.eval x = .slice (some ⟨b, 0, none⟩) 2 ca)
    (hown : IOwn w B v l) (hb : w.heap[b]? = some (.cells #[.int .i64 y, .int .i64 y2] 3 (0, 0))) (hl : l.length ≤ 1000000000) (hbase : B ≤ w.heap.size)
    (h : ∀ v' w', IOwn w' B v' (l ++ [y, y2]) → Grow 3 B w w' →
      S w' ∧ wpAnyH Try.prog .any ops Q S fuel (listed.setIfInBounds i true) { a with tmps := a.tmps.setIfInBounds d v' } w') : St ops Q S fuel listed a w i := by
  obtain ⟨inf, hi, hz, hsz, hby⟩ := infoI
  obtain ⟨v', w', hr, h2, h3, _, _⟩ := run_append_own_at (P := Try.prog) w B 39 o.type 3 inf _ 1 8 Try.underlying39 hi hz hsz hby rfl (by decide) v l.length (l.map (Value.int .i64)) hown ⟨b, 0, none⟩ 2 ca [.int .i64 y, .int .i64 y2] rfl (fun j u hj => by
      rw [addr_add, Nat.zero_add, cell_of_row _ _ _ _ _ _ hb]
      simpa using hj) (by simp [Value.oneCell']) (by unfold maxLen; omega) (by omega) hbase
  have hh := h v' w' (by unfold IOwn; rw [List.map_append, List.length_append]; exact h2) (grow_of hown hbase h3)
  refine wpOp_step hop (fun K hK => ?_)
  rw [if_pos hw]
  unfold Oper.wp execOp
  simp only [ho, resolve, invoke, builtin, Sem.run_bind, Sem.run_pure, Result.andThen_ok, List.map_toArray, List.map_cons, List.map_nil, hs, hx, hr]
  refine hK _ _ ⟨hh.1, ?_⟩
  unfold Act.put
  rw [hd]
  exact hh.2
end
theorem IOwn.mono {w : World} {B B' : Nat} {v : Value} {l : List Int} (h : IOwn w B v l) (hB : B' ≤ B) : IOwn w B' v l := by
  refine ⟨h.1, ?_⟩
  rcases h.2 with e | ⟨g, cap, cur, e, hb, r⟩
  · exact .inl e
  · exact .inr ⟨g, cap, cur, e, by omega, r⟩

/-- What is known of Need, where nothing is refused. -/
structure Needs (s : Src) (z ks : List Int) : Prop where
  good : ks.any badK = false
  ok : ∀ k ∈ ks, (folK s z k).2.2 = 0
theorem Needs.of {s : Src} {z ks : List Int} (h : (needR s z ks).2 = 0) : Needs s z ks := ⟨(needR_iff h).1, (needR_iff h).2.1⟩
theorem Needs.eq {s : Src} {z ks : List Int} (h : Needs s z ks) : needR s z ks = (((needL s z ks).length : Int), 0) := needR_good h.good h.ok
theorem Needs.sub {s : Src} {z ks js : List Int} (h : Needs s z ks) (hs : ∀ k ∈ js, k ∈ ks) : Needs s z js := by
  refine ⟨?_, fun k hk => h.ok k (hs k hk)⟩
  rw [Bool.eq_false_iff]
  intro hb
  obtain ⟨x, hx, hb⟩ := List.any_eq_true.1 hb
  have := h.good
  rw [Bool.eq_false_iff] at this
  exact this (List.any_eq_true.2 ⟨x, hs x hx, hb⟩)
theorem Needs.app {s : Src} {z a b : List Int} (ha : Needs s z a) (hb : Needs s z b) : Needs s z (a ++ b) := by
  refine ⟨by rw [List.any_append, ha.good, hb.good]; rfl, fun k hk => ?_⟩
  rcases List.mem_append.1 hk with h | h
  · exact ha.ok k h
  · exact hb.ok k h
theorem Needs.le {s : Src} {z a b : List Int} (ha : Needs s z a) (hb : Needs s z b) (hs : ∀ k ∈ a, k ∈ b) : (needL s z a).length ≤ (needL s z b).length := by
  refine len_le_of_sub _ _ (needL_nodup _ _ _) fun p hp => ?_
  obtain ⟨k, hk, hm⟩ := (needL_mem ha.ok p).1 hp
  exact (needL_mem hb.ok p).2 ⟨k, hs k hk, hm⟩
theorem need_none (s : Src) (z : List Int) : needR s z [] = (0, 0) := rfl
theorem adds_err {s : Src} {z a b : List Int} (h : (needR s z a).2 ≠ 0 ∨ (needR s z b).2 ≠ 0) : (needR s z (a ++ b)).2 ≠ 0 := by
  intro he
  have hn := Needs.of he
  rcases h with h | h
  · exact h (by rw [(hn.sub (fun k hk => List.mem_append_left _ hk)).eq])
  · exact h (by rw [(hn.sub (fun k hk => List.mem_append_right _ hk)).eq])
theorem adds_ok {s : Src} {z a b : List Int} (h1 : (needR s z a).2 = 0) (h2 : (needR s z b).2 = 0) : (needR s z (a ++ b)).2 = 0 ∧ 0 ≤ (needR s z a).1 ∧ 0 ≤ (needR s z b).1 ∧ (needR s z a).1 ≤ (needR s z (a ++ b)).1 ∧ (needR s z b).1 ≤ (needR s z (a ++ b)).1 ∧ (needR s z (a ++ b)).1 ≤ (needR s z a).1 + (needR s z b).1 := by
  have ha := Needs.of h1
  have hb := Needs.of h2
  have hc := ha.app hb
  rw [ha.eq, hb.eq, hc.eq]
  have l1 := ha.le hc (fun k hk => List.mem_append_left _ hk)
  have l2 := hb.le hc (fun k hk => List.mem_append_right _ hk)
  have l3 : (needL s z (a ++ b)).length ≤ (needL s z a ++ needL s z b).length := by
    refine len_le_of_sub _ _ (needL_nodup _ _ _) fun p hp => ?_
    obtain ⟨k, hk, hm⟩ := (needL_mem hc.ok p).1 hp
    rcases List.mem_append.1 hk with h | h
    · exact List.mem_append_left _ ((needL_mem ha.ok p).2 ⟨k, h, hm⟩)
    · exact List.mem_append_right _ ((needL_mem hb.ok p).2 ⟨k, h, hm⟩)
  rw [List.length_append] at l3
  refine ⟨rfl, ?_, ?_, ?_, ?_, ?_⟩ <;> simp only <;> omega
theorem need_same {s : Src} {z a b : List Int} (h : (needR s z a).2 = 0) (hs : ∀ k, k ∈ a ↔ k ∈ b) : needR s z b = needR s z a := by
  have ha := Needs.of h
  have hb := ha.sub (fun k hk => (hs k).2 hk)
  rw [ha.eq, hb.eq, Nat.le_antisymm (hb.le ha (fun k hk => (hs k).2 hk)) (ha.le hb (fun k hk => (hs k).1 hk))]
def dbl (l : List Int) : List Int := l.flatMap fun x => [x, x]
theorem dbl_mem (l : List Int) (k : Int) : k ∈ dbl l.reverse ↔ k ∈ l := by
  unfold dbl
  rw [List.mem_flatMap]
  constructor
  · rintro ⟨x, hx, hk⟩
    simp at hk
    subst hk
    simpa using hx
  · intro h
    exact ⟨k, by simpa using h, by simp⟩
theorem dbl_len (l : List Int) : (dbl l).length = 2 * l.length := by
  induction l with
  | nil => rfl
  | cons x l ih => unfold dbl at *; rw [List.flatMap_cons, List.length_append, ih]; simp; omega
theorem dbl_step {l : List Int} {q : Nat} {x : Int} (h : l[q]? = some x) : dbl (l.drop q).reverse = dbl (l.drop (q + 1)).reverse ++ [x, x] := by
  have hq := (List.getElem?_eq_some_iff.1 h).1
  rw [List.drop_eq_getElem_cons hq, (List.getElem?_eq_some_iff.1 h).2]
  unfold dbl
  simp
theorem there_need {s : Src} {z : List Int} (hz : z.length = 18) (h : (rowsAns (rowsL s z)).2 = 0) : needR s z ((rowsAns (rowsL s z)).1.map (·.idx)) = (0, 0) := by
  have hA := (ans_iff s z).1 h
  rw [spots_canon hz hA]
  have hmem : ∀ k ∈ (segS (secK s z) 0 1068).map (·.idx), ∃ j : Nat, k = (j : Int) ∧ j < 1068 ∧ secK s z j ≠ 0 := by
    intro k hk
    obtain ⟨x, hx, rfl⟩ := List.mem_map.1 hk
    unfold segS at hx
    obtain ⟨j, hj, rfl⟩ := List.mem_map.1 hx
    obtain ⟨h1, h2⟩ := List.mem_filter.1 hj
    rw [← List.range_eq_range'] at h1
    exact ⟨j, rfl, by simpa using h1, by simpa using h2⟩
  have hn : Needs s z ((segS (secK s z) 0 1068).map (·.idx)) := by
    refine ⟨?_, fun k hk => ?_⟩
    · rw [Bool.eq_false_iff]
      intro hb
      obtain ⟨x, hx, hb⟩ := List.any_eq_true.1 hb
      obtain ⟨j, rfl, hj, _⟩ := hmem x hx
      have : badK (j : Int) = false := by unfold badK; exact decide_eq_false (by omega)
      rw [this] at hb
      cases hb
    · obtain ⟨j, rfl, hj, _⟩ := hmem k hk
      exact folK_err hA j hj
  rw [hn.eq]
  have : needL s z ((segS (secK s z) 0 1068).map (·.idx)) = [] := by
    rw [List.eq_nil_iff_forall_not_mem]
    intro p hp
    obtain ⟨k, hk, hm⟩ := (needL_mem hn.ok p).1 hp
    obtain ⟨j, rfl, _, hj⟩ := hmem k hk
    exact hj hm.1
  rw [this]
  rfl

end Go.Proofs.Ytjlhmojofjkkdab
