/-
  What a drain and a Sync write, counted; the statements' own helper ahead.
-/
import Derived.Test.YtgkanfmkohlmcaaGreatT9
-- may lack
namespace Go.Proofs.YtgkanfmkohlmcaaGreat
open Go.RowKit

/-- Edges that lie in memory. -/
def EdAt (w : World) (a : Option Addr) (l : List (Int × Int)) : Prop :=
  l = [] ∨ ∃ g, a = some ⟨g, 0, none⟩ ∧ g < w.heap.size ∧ ∀ k, k < l.length → w.cell? ⟨g, k * 2, none⟩ = some (.int .i64 (l.getD k (0, 0)).1) ∧ w.cell? ⟨g, k * 2 + 1, none⟩ = some (.int .i64 (l.getD k (0, 0)).2)
theorem EdAt.call {w w' : World} {a : Option Addr} {l : List (Int × Int)} (h : EdAt w a l) (hc : Chg w w' No) : EdAt w' a l := by
  rcases h with h | ⟨g, rfl, hg, h⟩
  · exact .inl h
  · exact .inr ⟨g, rfl, Nat.lt_of_lt_of_le hg hc.size, fun k hk => ⟨cell_keep (h k hk).1 hc hg (fun e => e), cell_keep (h k hk).2 hc hg (fun e => e)⟩⟩
theorem EdAt.keep {w w' : World} {a : Option Addr} {l : List (Int × Int)} {ks : Nat → Prop} (h : EdAt w a l) (hc : Chg w w' ks) (hn : ∀ g, a = some ⟨g, 0, none⟩ → ¬ ks g) : EdAt w' a l := by
  rcases h with h | ⟨g, rfl, hg, h⟩
  · exact .inl h
  · exact .inr ⟨g, rfl, Nat.lt_of_lt_of_le hg hc.size, fun k hk => ⟨cell_keep (h k hk).1 hc hg (hn g rfl), cell_keep (h k hk).2 hc hg (hn g rfl)⟩⟩
theorem Edgs.edat {w : World} {base : Nat} {v : Value} {l : List (Int × Int)} (h : Edgs w base v l) : ∃ a c, v = .slice a l.length c ∧ EdAt w a l ∧ ∀ g, a = some ⟨g, 0, none⟩ → base ≤ g := by
  rcases h.2 with ⟨rfl, h0⟩ | ⟨g, cap, cur, rfl, hge, hb, h1, h2, h3, h4⟩
  · have : l = [] := List.eq_nil_of_length_eq_zero h0
    subst this
    exact ⟨none, 0, rfl, .inl rfl, fun g e => by cases e⟩
  · have key : ∀ j u, (cellsE l)[j]? = some u → w.cell? ⟨g, j, none⟩ = some u := by
      intro j u hu
      have hj : j < l.length * 2 := by
        rcases Nat.lt_or_ge j (cellsE l).length with k | k
        · rw [cellsE_len] at k; exact k
        · rw [List.getElem?_eq_none k] at hu; cases hu
      rw [cell_of_row _ _ _ _ _ _ hb, ← Array.getElem?_toList]
      have e : (cur.toList.take (l.length * 2))[j]? = (cellsE l)[j]? := by rw [h4]
      rw [List.getElem?_take_of_lt hj] at e
      rw [e]
      exact hu
    refine ⟨_, cap, rfl, .inr ⟨g, rfl, slt hb, fun k hk => ?_⟩, fun g' e => by cases e; exact hge⟩
    have hg := cellsE_get l k
    rw [List.getElem?_eq_getElem hk] at hg
    have e : l.getD k (0, 0) = l[k] := by simp [hk]
    rw [e, Nat.mul_comm]
    exact ⟨key _ _ hg.1, key _ _ hg.2⟩

variable {n : Nat} {z : CSt}

theorem writeD_one {d : D.St8} {x : Int} {v : List Int} (h : D.writeE d n x = 0) : (D.writeD d n x v).wr = d.wr + 1 := by
  unfold D.writeE at h
  unfold D.writeD
  by_cases h0 : D.refE d n x = 0
  · rw [if_pos h0] at h
    rw [if_pos h0]
    by_cases h1 : d.ar = true ∧ d.lf = 0
    · rw [if_pos h1] at h
      exact absurd h (by decide)
    · rw [if_neg h1]
  · rw [if_neg h0] at h
    exact absurd h h0
theorem wrC_one (hi : CInv n z) {x : Int} (hx : z.dirty x) (h0 : (wrC n z x).2 = 0) : (wrC n z x).1.d.wr = z.d.wr + 1 := by
  obtain ⟨q, hq⟩ := Option.isSome_iff_exists.1 hx
  have hok := hi.ok x hx
  cases hlo : z.lost with
  | true =>
    have e : wrC n z x = (z, 22) := by unfold wrC; rw [if_pos hlo]
    rw [e] at h0
    exact absurd h0 (by simp)
  | false =>
    rcases writeE_cases z.d n x hok.1 hok.2 with he | he
    · rw [wrC_done hlo hq he]
      exact writeD_one he
    · rw [wrC_down hlo hq he] at h0
      exact absurd h0 (by simp)
open Classical in
/-- What was written, counted: all but those that are left. -/
theorem wAll_count : ∀ (k : Nat) (z : CSt) (l : List Int), CInv n z → l.length = k → l.Pairwise (· ≠ ·) → (∀ x, x ∈ l → z.dirty x) → (wAll n k z l).2 = 0 →
    ∃ r : List Int, (∀ x, x ∈ r → x ∈ l ∧ (wAll n k z l).1.dirty x) ∧ (wAll n k z l).1.d.wr + r.length = z.d.wr + l.length
  | 0, z, l, _, hl, _, _, _ => ⟨[], by simp, by rw [hl]; rfl⟩
  | k + 1, z, l, hi, hl, hnd, hdi, h0 => by
    unfold wAll at h0 ⊢
    cases hf : l.find? (fun x => decide (FreeE z.E x)) with
    | none =>
      rw [hf] at h0
      exact ⟨l, fun x hx => ⟨hx, hdi x hx⟩, rfl⟩
    | some x =>
      rw [hf] at h0
      simp only at h0 ⊢
      have hm : x ∈ l := List.mem_of_find?_eq_some hf
      by_cases h1 : (wrC n z x).2 = 0
      · rw [if_pos h1] at h0 ⊢
        have hle : (l.erase x).length = k := by rw [List.length_erase_of_mem hm]; omega
        obtain ⟨r, r1, r2⟩ := wAll_count k (wrC n z x).1 (l.erase x) (wrC_inv hi x) hle (hnd.sublist List.erase_sublist) (wrC_left hi hnd hdi hm h1) h0
        refine ⟨r, fun y hy => ⟨List.mem_of_mem_erase (r1 y hy).1, (r1 y hy).2⟩, ?_⟩
        rw [r2, wrC_one hi (hdi x hm) h1, hle, hl]
        omega
      · rw [if_neg h1] at h0
        exact absurd h0 h1
theorem wAll_exact {l : List Int} (hi : CInv n z) (ht : ToDo n z l) (h0 : (wAll n l.length z l).2 = 0) : (wAll n l.length z l).1.d.wr = z.d.wr + l.length := by
  obtain ⟨r, r1, r2⟩ := wAll_count l.length z l hi rfl ht.nd ht.di h0
  have hw := (wAll_wrote l.length l z rfl hi ht).ok h0
  have : r = [] := by
    cases r with
    | nil => rfl
    | cons a r =>
      have h1 := r1 a (by simp)
      exact absurd h1.1 ((hw.2 a).1 h1.2).2
  rw [this] at r2
  simpa using r2
/-- Those that are left, counted. -/
theorem secs_rest {p q : Int → Prop} {l : List Int} (hl : l.Pairwise (· ≠ ·)) (hs : ∀ x, x ∈ l → Sec x ∧ p x) (hq : ∀ y, q y ↔ p y ∧ y ∉ l) : (secs q).length + l.length = (secs p).length := by
  have hp : (secs q ++ l).Perm (secs p) := by
    refine (List.perm_ext_iff_of_nodup ?_ ?_).2 fun a => ?_
    · refine List.nodup_append.2 ⟨(secs_up q).imp fun {a b} e => by omega, hl, fun a ha b hb e => ?_⟩
      subst e
      exact ((hq a).1 (secs_mem.1 ha).2).2 hb
    · exact (secs_up p).imp fun {a b} e => by omega
    · rw [List.mem_append, secs_mem, secs_mem, hq]
      constructor
      · rintro (⟨h1, h2, _⟩ | h)
        · exact ⟨h1, h2⟩
        · exact hs a h
      · rintro ⟨h1, h2⟩
        by_cases h : a ∈ l
        · exact .inr h
        · exact .inl ⟨h1, h2, h⟩
  rw [← hp.length_eq, List.length_append]
theorem secs_empty {p : Int → Prop} (h : ∀ x, ¬ p x) : secs p = [] := by
  cases he : secs p with
  | nil => rfl
  | cons a r =>
    have : a ∈ secs p := by rw [he]; simp
    exact absurd (secs_mem.1 this).2 (h a)

theorem Reach.sec {E : Int → Int → Prop} (hs : InSec E) {a k : Int} (hk : Sec k) (h : Reach E a k) : Sec a := by
  rcases h with rfl | h
  · exact hk
  · cases h with
    | one h => exact (hs _ _ h).1
    | more h _ => exact (hs _ _ h).1
/-- All that must land ahead of a sector, and it. -/
theorem bef_len (hi : CInv n z) {k : Int} (hk : z.dirty k) : (secs fun a => Reach z.E a k).length = (befC z k).length + 1 := by
  have h := secs_rest (p := fun a => Reach z.E a k) (q := fun a => a ≠ k ∧ Reach z.E a k) (l := [k]) (by simp) (fun x hx => by
    rw [List.mem_singleton.1 hx]
    exact ⟨hi.sec hk, .inl rfl⟩) (fun y => by simp only [List.mem_singleton]; exact ⟨fun e => ⟨e.2, e.1⟩, fun e => ⟨e.2, e.1⟩⟩)
  unfold befC
  simp at h ⊢
  omega

/-- What is known of those that were found. -/
structure AInv (E : Int → Int → Prop) (k : Int) (L : List Int) : Prop where
  nd : L.Pairwise (· ≠ ·)
  me : k ∈ L
  re : ∀ a, a ∈ L → Reach E a k
theorem AInv.len {E : Int → Int → Prop} {k : Int} {L : List Int} (h : AInv E k L) (hs : InSec E) (hk : Sec k) : L.length ≤ 4096 :=
  Nat.le_trans (nodup_len L (secs Sec) h.nd fun x hx => secs_mem.2 ⟨(h.re x hx).sec hs hk, (h.re x hx).sec hs hk⟩) (secs_len _)
theorem AInv.more {E : Int → Int → Prop} {k a b : Int} {L : List Int} (h : AInv E k L) (hb : b ∈ L) (he : E a b) (hn : a ∉ L) : AInv E k (L ++ [a]) := by
  refine ⟨?_, List.mem_append_left _ h.me, fun x hx => ?_⟩
  · rw [List.pairwise_append]
    refine ⟨h.nd, by simp, fun x hx y hy e => ?_⟩
    rw [List.mem_singleton.1 hy] at e
    exact hn (e ▸ hx)
  · rcases List.mem_append.1 hx with e | e
    · exact h.re x e
    · rw [List.mem_singleton.1 e]
      exact Reach.step he (h.re b hb)
theorem AInv.all {E : Int → Int → Prop} {k : Int} {L : List Int} (h : AInv E k L) (hs : InSec E) (hk : Sec k) (hc : ∀ a b, b ∈ L → E a b → a ∈ L) : L.length = (secs fun a => Reach E a k).length := by
  have hp : L.Perm (secs fun a => Reach E a k) := by
    refine (List.perm_ext_iff_of_nodup h.nd ((secs_up _).imp fun {a b} e => by omega)).2 fun a => ?_
    rw [secs_mem]
    refine ⟨fun e => ⟨(h.re a e).sec hs hk, h.re a e⟩, fun e => ?_⟩
    have := (Reach.rev_iff (E := E) (a := k) (b := a)).2 e.2
    exact this.closed (S := fun x => x ∈ L) h.me (fun x y hx hy => hc y x hx hy)
  exact hp.length_eq
theorem take_mem {L : List Int} {j : Nat} (hj : j < L.length) {x : Int} : x ∈ L.take (j + 1) ↔ x ∈ L.take j ∨ L.getD j 0 = x := by
  rw [List.take_add_one, List.getElem?_eq_getElem hj, List.mem_append]
  have e : L.getD j 0 = L[j] := by simp [hj]
  rw [e]
  simp [eq_comm]
theorem gmem {L : List Int} {j : Nat} (hj : j < L.length) : L.getD j 0 ∈ L := by
  have e : L.getD j 0 = L[j] := by simp [hj]
  rw [e]
  exact List.getElem_mem hj
theorem getD_app {L M : List Int} {j : Nat} (hj : j < L.length) : (L ++ M).getD j 0 = L.getD j 0 := by
  rw [List.getD_eq_getElem?_getD, List.getElem?_append_left hj, ← List.getD_eq_getElem?_getD]

structure KB (b : Bool) (X : Prop) : Prop where
  go1 : b = true → X
  go2 : X → b = true
theorem elist_len2 {E : Int → Int → Prop} {l : List (Int × Int)} (h : EList E l) (hs : InSec E) : l.length ≤ 16777216 :=
  edges_len l (h.1.imp fun {a b} e k => by subst k; unfold ltE at e; omega) fun x hx => hs _ _ ((h.2 x).1 hx)

end Go.Proofs.YtgkanfmkohlmcaaGreat
