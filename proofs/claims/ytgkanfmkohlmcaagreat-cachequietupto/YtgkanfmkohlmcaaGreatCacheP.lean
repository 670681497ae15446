/-
  What holds of drains and puts, without a program.
-/
import Derived.Test.YtgkanfmkohlmcaaGreatCache5
namespace Go.Proofs.YtgkanfmkohlmcaaGreat

variable {n : Nat} {z : CSt}

/-- What holds behind a list was written. -/
structure Wrote (n : Nat) (z : CSt) (l : List Int) (r : CSt × Int) : Prop where
  inv : CInv n r.1
  tb : TB r.1
  wr : z.d.wr ≤ r.1.d.wr ∧ r.1.d.wr ≤ z.d.wr + l.length
  sub : ∀ y, r.1.dirty y → z.dirty y ∧ r.1.P y = z.P y
  ed : ∀ a b, r.1.E a b ↔ z.E a b ∧ r.1.dirty a ∧ r.1.dirty b
  ok : r.2 = 0 → z.lost = r.1.lost ∧ ∀ y, r.1.dirty y ↔ z.dirty y ∧ y ∉ l
  rest : ∀ y, z.dirty y → y ∉ l → r.1.dirty y
  code : r.2 = 0 ∨ r.2 = 22 ∧ r.1.lost = true

theorem wrC_code (hi : CInv n z) {x : Int} (hx : z.dirty x) : (wrC n z x).2 = 0 ∨ (wrC n z x).2 = 22 ∧ (wrC n z x).1.lost = true ∧ (wrC n z x).1.P = z.P ∧ (wrC n z x).1.E = z.E := by
  obtain ⟨q, hq⟩ := Option.isSome_iff_exists.1 hx
  have hok := hi.ok x hx
  cases hlo : z.lost with
  | true =>
    have e : wrC n z x = (z, 22) := by unfold wrC; rw [if_pos hlo]
    rw [e]
    exact .inr ⟨rfl, hlo, rfl, rfl⟩
  | false =>
    rcases writeE_cases z.d n x hok.1 hok.2 with he | he
    · rw [wrC_done hlo hq he]
      exact .inl rfl
    · rw [wrC_down hlo hq he]
      exact .inr ⟨rfl, rfl, rfl, rfl⟩

theorem Wrote.nothing (h : CInv n z) (ht : TB z) : Wrote n z [] (z, 0) :=
  ⟨h, ht, by simp, fun y hy => ⟨hy, rfl⟩, fun a b => ⟨fun e => ⟨e, h.ed a b e⟩, fun e => e.1⟩, fun _ => ⟨rfl, fun y => by simp⟩, fun y hy _ => hy, .inl rfl⟩

theorem wAll_wrote : ∀ (k : Nat) (l : List Int) (z : CSt), l.length = k → CInv n z → ToDo n z l → Wrote n z l (wAll n l.length z l)
  | 0, l, z, hk, hi, ht => by
    have : l = [] := List.eq_nil_of_length_eq_zero hk
    subst this
    exact Wrote.nothing hi ht.tb
  | k + 1, l, z, hk, hi, ht => by
    obtain ⟨k0, hk0, hf0⟩ := ht.free hi (fun e => by rw [e] at hk; simp at hk)
    -- the first free one
    have hex : ∃ k1, FirstFree z.E l k1 := by
      have : ∀ (m : Nat), (∃ j, j < m ∧ j < l.length ∧ FreeE z.E (l.getD j 0)) → ∃ k1, FirstFree z.E l k1 := by
        intro m
        induction m with
        | zero => rintro ⟨j, hj, _⟩; omega
        | succ m ih =>
          intro ⟨j, hj, hjl, hf⟩
          by_cases hc : ∃ i, i < m ∧ i < l.length ∧ FreeE z.E (l.getD i 0)
          · exact ih hc
          · have hjm : j = m := by
              by_cases e : j = m
              · exact e
              · exact absurd ⟨j, by omega, hjl, hf⟩ hc
            subst hjm
            exact ⟨j, hjl, hf, fun i hi hfi => hc ⟨i, hi, by omega, hfi⟩⟩
      exact this (k0 + 1) ⟨k0, by omega, hk0, hf0⟩
    obtain ⟨k1, hk1⟩ := hex
    rw [wAll_step hk1]
    have hm := getD_mem hk1.1
    generalize hx : l.getD k1 0 = x at *
    have hdx := ht.di x hm
    have hlen := List.length_erase_of_mem hm
    have hwr := wrC_wr (n := n) (z := z) x
    by_cases h0 : (wrC n z x).2 = 0
    · rw [if_pos h0]
      have hnx := ht.next hi hm h0
      have ih := wAll_wrote k (l.erase x) (wrC n z x).1 (by omega) (wrC_inv hi x) hnx
      obtain ⟨q, hq, hlo, e⟩ := wrC_zero h0 hdx (hi.ok x hdx)
      have hP : ∀ y, (wrC n z x).1.P y = if y = x then none else z.P y := fun y => by rw [e]; rfl
      have hE : ∀ a b, (wrC n z x).1.E a b ↔ z.E a b ∧ a ≠ x ∧ b ≠ x := fun a b => by rw [e]; exact Iff.rfl
      have hD : ∀ y, (wrC n z x).1.dirty y ↔ z.dirty y ∧ y ≠ x := fun y => by
        unfold CSt.dirty
        rw [hP]
        by_cases hy : y = x
        · simp [hy]
        · simp [hy]
      refine ⟨ih.inv, ih.tb, ?_, fun y hy => ?_, fun a b => ?_, fun hz => ?_, fun y hy hn => ?_, ih.code⟩
      · have := ih.wr
        omega
      · obtain ⟨h1, h2⟩ := ih.sub y hy
        have h1 := (hD y).1 h1
        rw [hP, if_neg h1.2] at h2
        exact ⟨h1.1, h2⟩
      · rw [ih.ed, hE]
        constructor
        · exact fun k => ⟨k.1.1, k.2⟩
        · exact fun k => ⟨⟨k.1, ((hD a).1 (ih.sub a k.2.1).1).2, ((hD b).1 (ih.sub b k.2.2).1).2⟩, k.2⟩
      · obtain ⟨h1, h2⟩ := ih.ok hz
        refine ⟨?_, fun y => ?_⟩
        · rw [← h1, e]
          rfl
        · rw [h2, hD, nodup_mem_erase ht.nd]
          constructor
          · rintro ⟨⟨a, b⟩, c⟩
            exact ⟨a, fun k => c ⟨b, k⟩⟩
          · rintro ⟨a, b⟩
            exact ⟨⟨a, fun k => b (k ▸ hm)⟩, fun k => b k.2⟩
      · refine ih.rest y ?_ (fun k => hn ((nodup_mem_erase ht.nd).1 k).2)
        rw [hD]
        exact ⟨hy, fun k => hn (k ▸ hm)⟩
    · rw [if_neg h0]
      rcases wrC_code hi hdx with e | ⟨e1, e2, e3, e4⟩
      · exact absurd e h0
      · refine ⟨wrC_inv hi x, wrC_tb hi x ht.tb, ?_, fun y hy => ?_, fun a b => ?_, fun hz => absurd hz h0, fun y hy _ => ?_, .inr ⟨e1, e2⟩⟩
        · have := List.length_pos_of_mem hm
          omega
        · unfold CSt.dirty at hy ⊢
          rw [e3] at hy ⊢
          exact ⟨hy, rfl⟩
        · unfold CSt.dirty
          rw [e3, e4]
          exact ⟨fun k => ⟨k, hi.ed a b k⟩, fun k => k.1⟩
        · unfold CSt.dirty at hy ⊢
          rw [e3]
          exact hy

open Classical in
/-- A drain. -/
theorem drainC_wrote (hi : CInv n z) (x : Int) (ht : TB z) (hw : z.d.wr < 4611686018427380000) : Wrote n z (if z.dirty x then befC z x ++ [x] else []) (drainC n z x) := by
  unfold drainC
  by_cases hx : z.dirty x
  · rw [if_pos hx, if_pos hx]
    have := wAll_wrote _ (befC z x ++ [x]) z rfl hi (drain_todo hi hx ht hw)
    simpa using this
  · rw [if_neg hx, if_neg hx]
    exact Wrote.nothing hi ht
open Classical in
/-- What is written when the way is cleared. -/
noncomputable def clearL (z : CSt) (x : Int) (l : List Int) : List Int := if (∃ a, a ∈ l ∧ z.dirty a ∧ a ≠ x ∧ Reach z.E x a) ∧ z.dirty x then befC z x ++ [x] else []
theorem clearC_wrote (hi : CInv n z) (x : Int) (l : List Int) (ht : TB z) (hw : z.d.wr < 4611686018427380000) : Wrote n z (clearL z x l) (clearC n z x l) := by
  unfold clearC clearL
  by_cases hc : ∃ a, a ∈ l ∧ z.dirty a ∧ a ≠ x ∧ Reach z.E x a
  · rw [if_pos hc]
    have := drainC_wrote hi x ht hw
    by_cases hx : z.dirty x
    · rw [if_pos hx] at this
      rw [if_pos ⟨hc, hx⟩]
      exact this
    · rw [if_neg hx] at this
      rw [if_neg (fun e => hx e.2)]
      exact this
  · rw [if_neg hc, if_neg (fun e => hc e.1)]
    exact Wrote.nothing hi ht
theorem reach_dirty (hi : CInv n z) {x a : Int} (h : Reach z.E x a) (hne : a ≠ x) : z.dirty x := by
  rcases h with h | h
  · exact absurd h.symm hne
  · obtain ⟨d, hd⟩ := h.first
    exact (hi.ed _ _ hd).1
/-- Where the way is cleared, none of those that it is to land behind is reached. -/
theorem clearC_free (hi : CInv n z) (x : Int) (l : List Int) (ht : TB z) (hw : z.d.wr < 4611686018427380000) (h0 : (clearC n z x l).2 = 0) {a : Int} (ha : a ∈ l) (hd : (clearC n z x l).1.dirty a) (hne : a ≠ x) : ¬ Reach (clearC n z x l).1.E x a := by
  intro hr
  have hW := clearC_wrote hi x l ht hw
  by_cases hc : ∃ a, a ∈ l ∧ z.dirty a ∧ a ≠ x ∧ Reach z.E x a
  · have hx : z.dirty x := by
      obtain ⟨b, _, _, h1, h2⟩ := hc
      exact reach_dirty hi h2 h1
    have hL : clearL z x l = befC z x ++ [x] := by unfold clearL; rw [if_pos ⟨hc, hx⟩]
    have hdx := reach_dirty hW.inv hr hne
    have := ((hW.ok h0).2 x).1 hdx
    rw [hL] at this
    exact this.2 (by simp)
  · have e : clearC n z x l = (z, 0) := by unfold clearC; rw [if_neg hc]
    rw [e] at hr hd
    exact hc ⟨a, ha, hd, hne, hr⟩

/-- Edges to a sector from those of a list, too. -/
def layE (E : Int → Int → Prop) (x : Int) (m : List Int) (a b : Int) : Prop := (b = x ∧ a ∈ m) ∨ E a b
theorem layE_nil (E : Int → Int → Prop) (x : Int) : layE E x [] = E := by
  funext a b
  simp [layE]
theorem layE_snoc (E : Int → Int → Prop) (x : Int) (m : List Int) (y : Int) : layE E x (m ++ [y]) = addE (layE E x m) y x := by
  funext a b
  refine propext ?_
  unfold layE addE
  simp only [List.mem_append, List.mem_singleton]
  constructor
  · rintro (⟨h1, h2 | h2⟩ | h)
    · exact .inr (.inl ⟨h1, h2⟩)
    · exact .inl ⟨h2, h1⟩
    · exact .inr (.inr h)
  · rintro (⟨h1, h2⟩ | ⟨h1, h2⟩ | h)
    · exact .inl ⟨h2, .inr h1⟩
    · exact .inl ⟨h1, .inl h2⟩
    · exact .inr h
theorem layE_reach {E : Int → Int → Prop} {x : Int} : ∀ (k : Nat) (m : List Int), m.length = k → (∀ a, a ∈ m → ¬ Reach E x a) → ∀ {y : Int}, Reach (layE E x m) x y → Reach E x y
  | 0, m, hk, _, y, h => by
    have : m = [] := List.eq_nil_of_length_eq_zero hk
    subst this
    rw [layE_nil] at h
    exact h
  | k + 1, m, hk, hm, y, h => by
    obtain ⟨m', b, rfl⟩ : ∃ m' b, m = m' ++ [b] := by
      rcases List.eq_nil_or_concat m with e | ⟨m', b, e⟩
      · rw [e] at hk; simp at hk
      · exact ⟨m', b, by simpa using e⟩
    rw [layE_snoc] at h
    have ih := fun {y} => layE_reach k m' (by simp at hk; exact hk) (fun a ha => hm a (by simp [ha])) (y := y)
    rcases h with h | h
    · exact .inl h
    · rcases way_add h with h | ⟨h1, _⟩
      · exact ih (.inr h)
      · exact absurd (ih h1) (hm b (by simp))
theorem layE_ring {E : Int → Int → Prop} {x : Int} (hr : NoRing E) : ∀ (k : Nat) (m : List Int), m.length = k → (∀ a, a ∈ m → ¬ Reach E x a) → NoRing (layE E x m)
  | 0, m, hk, _ => by
    have : m = [] := List.eq_nil_of_length_eq_zero hk
    subst this
    rw [layE_nil]
    exact hr
  | k + 1, m, hk, hm => by
    obtain ⟨m', b, rfl⟩ : ∃ m' b, m = m' ++ [b] := by
      rcases List.eq_nil_or_concat m with e | ⟨m', b, e⟩
      · rw [e] at hk; simp at hk
      · exact ⟨m', b, by simpa using e⟩
    rw [layE_snoc]
    have hm' : ∀ a, a ∈ m' → ¬ Reach E x a := fun a ha => hm a (by simp [ha])
    refine noRing_add (layE_ring hr k m' (by simp at hk; exact hk) hm') (fun e => ?_)
    exact hm b (by simp) (layE_reach _ m' rfl hm' e)

/-- What may be laid behind a list. -/
structure Lay (n : Nat) (z : CSt) (x : Int) (m : List Int) : Prop where
  di : ∀ a, a ∈ m → z.dirty a ∧ a ≠ x
  no : ∀ a, a ∈ m → ¬ Reach z.E x a
theorem layC_E (s m : List Int) (x : Int) : (layC z x s m).E = layE z.E x m := rfl
theorem layC_P (s m : List Int) (x y : Int) : (layC z x s m).P y = if y = x then some (s, match z.P x with | some q => q.2 | none => []) else z.P y := rfl
theorem layC_dirty (s m : List Int) (x y : Int) : (layC z x s m).dirty y ↔ z.dirty y ∨ y = x := by
  unfold CSt.dirty
  rw [layC_P]
  by_cases hy : y = x
  · simp [hy]
  · simp [hy]
theorem layC_inv (hi : CInv n z) {x : Int} {s m : List Int} (hx : 0 ≤ x ∧ x < n) (hs : s.length = 128) (hl : Lay n z x m) : CInv n (layC z x s m) := by
  refine ⟨fun a b e => ?_, fun y hy => ?_, fun y q hy => ?_, ?_, hi.top, hi.w0, hi.lf⟩
  · rw [layC_dirty, layC_dirty]
    rcases e with ⟨e1, e2⟩ | e
    · exact ⟨.inl (hl.di a e2).1, .inr e1⟩
    · exact ⟨.inl (hi.ed a b e).1, .inl (hi.ed a b e).2⟩
  · rw [layC_dirty] at hy
    rcases hy with hy | hy
    · exact hi.ok y hy
    · rw [hy]; exact hx
  · rw [layC_P] at hy
    split at hy
    · cases hy; exact hs
    · exact hi.ln y q hy
  · rw [layC_E]
    exact layE_ring hi.ring _ m rfl hl.no
theorem Lay.sub {x : Int} {m m' : List Int} (h : Lay n z x m) (hs : ∀ a, a ∈ m' → a ∈ m) : Lay n z x m' := ⟨fun a ha => h.di a (hs a ha), fun a ha => h.no a (hs a ha)⟩
theorem layC_tb (hi : CInv n z) {x : Int} {s m : List Int} (hx : 0 ≤ x ∧ x < n) (ht : TB z) : TB (layC z x s m) := by
  have hsx : Sec x := ⟨hx.1, by have := hi.top; omega⟩
  have h := tsum_upd z.P x hsx (some (s, match z.P x with | some q => q.2 | none => []))
  unfold TB at ht ⊢
  have e : tsum (layC z x s m).P = tsum (fun y => if y = x then some (s, match z.P x with | some q => q.2 | none => []) else z.P y) := rfl
  have e2 : (layC z x s m).ld = z.ld := rfl
  rw [e, e2]
  have : tl (some (s, match z.P x with | some q => q.2 | none => [])) = tl (z.P x) := by
    cases z.P x with
    | none => rfl
    | some q => rfl
  rw [this] at h
  omega
theorem lay_of_clear (hi : CInv n z) (x : Int) (l : List Int) (ht : TB z) (hw : z.d.wr < 4611686018427380000) (h0 : (clearC n z x l).2 = 0) : Lay n (clearC n z x l).1 x (dofC (clearC n z x l).1 l x) := by
  refine ⟨fun a ha => ?_, fun a ha => ?_⟩
  · unfold dofC at ha
    rw [secs_mem] at ha
    exact ha.2.2
  · unfold dofC at ha
    rw [secs_mem] at ha
    exact clearC_free hi x l ht hw h0 ha.2.1 ha.2.2.1 ha.2.2.2

end Go.Proofs.YtgkanfmkohlmcaaGreat
