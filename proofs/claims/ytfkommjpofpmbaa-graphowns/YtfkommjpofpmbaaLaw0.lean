/-
  A graph does what it must: the statements' own first calls.
-/
import Derived.Test.YtfkommjpofpmbaaLawS
import Derived.Deep.MidRow
namespace Go.Proofs.Ytfkommjpofpmbaa
open Go.RowKit

/-- Two lists in one strict order that have the same things are one. -/
theorem eq_of_up {α : Type} {R : α → α → Prop} (hi : ∀ a, ¬ R a a) (ht : ∀ a b, R a b → ¬ R b a) : ∀ (l m : List α), l.Pairwise R → m.Pairwise R → (∀ x, x ∈ l ↔ x ∈ m) → l = m
  | [], [], _, _, _ => rfl
  | [], y :: m, _, _, h => absurd ((h y).2 (by simp)) (by simp)
  | x :: l, [], _, _, h => absurd ((h x).1 (by simp)) (by simp)
  | x :: l, y :: m, hl, hm, h => by
    obtain ⟨l1, l2⟩ := List.pairwise_cons.1 hl
    obtain ⟨m1, m2⟩ := List.pairwise_cons.1 hm
    have e : x = y := by
      rcases List.mem_cons.1 ((h x).1 (by simp)) with e | e
      · exact e
      · rcases List.mem_cons.1 ((h y).2 (by simp)) with k | k
        · exact k.symm
        · exact absurd (l1 y k) (ht y x (m1 x e))
    subst e
    congr 1
    refine eq_of_up hi ht l m l2 m2 fun z => ?_
    constructor
    · intro hz
      rcases List.mem_cons.1 ((h z).1 (by simp [hz])) with e | e
      · subst e; exact absurd (l1 z hz) (hi z)
      · exact e
    · intro hz
      rcases List.mem_cons.1 ((h z).2 (by simp [hz])) with e | e
      · subst e; exact absurd (m1 z hz) (hi z)
      · exact e
theorem blist_eq {E : Int → Int → Prop} {n : Int} {l m : List Int} (h : BList E n l) (k : m.Pairwise (· < ·)) (hm : ∀ x, x ∈ m ↔ x ≠ n ∧ Reach E x n) : l = m :=
  eq_of_up (fun a => by omega) (fun a b h => by omega) l m h.1 k fun x => (h.2 x).trans (hm x).symm
theorem elist_eq {E : Int → Int → Prop} {l m : List (Int × Int)} (h : EList E l) (k : m.Pairwise ltE) (hm : ∀ x, x ∈ m ↔ E x.1 x.2) : l = m :=
  eq_of_up (R := ltE) (fun a => by unfold ltE; omega) (fun a b h => by unfold ltE at *; omega) l m h.1 k fun x => (h.2 x).trans (hm x).symm
theorem elist_one {E : Int → Int → Prop} {l m : List (Int × Int)} (h : EList E l) (k : EList E m) : l = m := elist_eq h k.1 k.2
theorem blist_one {E : Int → Int → Prop} {n : Int} {l m : List Int} (h : BList E n l) (k : BList E n m) : l = m := blist_eq h k.1 k.2

def E0 : Int → Int → Prop := fun _ _ => False
def E1 : Int → Int → Prop := addE E0 3 1
def E2 : Int → Int → Prop := addE E1 1 2
theorem e2_iff (a b : Int) : E2 a b ↔ (a = 1 ∧ b = 2) ∨ (a = 3 ∧ b = 1) := by simp [E2, E1, E0, addE]
theorem e1_iff (a b : Int) : E1 a b ↔ (a = 3 ∧ b = 1) := by simp [E1, E0, addE]
theorem r01 : ¬ Reach E0 1 3 := by
  rintro (h | h)
  · omega
  · obtain ⟨_, h⟩ := h.first; exact h
theorem r12 : ¬ Reach E1 2 1 := by
  rintro (h | h)
  · omega
  · obtain ⟨_, h⟩ := h.first; rw [e1_iff] at h; omega
theorem r2 {a b : Int} : Reach E2 a b ↔ a = b ∨ (a = 1 ∧ b = 2) ∨ (a = 3 ∧ b = 1) ∨ (a = 3 ∧ b = 2) := by
  constructor
  · intro h
    by_cases e : a = 1
    · have := h.closed (S := fun x => x = 1 ∨ x = 2) (.inl e) (fun x y hx hxy => by rw [e2_iff] at hxy; omega)
      omega
    · by_cases e3 : a = 3
      · have := h.closed (S := fun x => x = 3 ∨ x = 1 ∨ x = 2) (.inl e3) (fun x y hx hxy => by rw [e2_iff] at hxy; omega)
        omega
      · rcases h with h | h
        · exact .inl h
        · obtain ⟨_, h⟩ := h.first; rw [e2_iff] at h; omega
  · have h12 : E2 1 2 := (e2_iff 1 2).2 (by omega)
    have h31 : E2 3 1 := (e2_iff 3 1).2 (by omega)
    rintro (rfl | ⟨rfl, rfl⟩ | ⟨rfl, rfl⟩ | ⟨rfl, rfl⟩)
    · exact .inl rfl
    · exact .inr (.one h12)
    · exact .inr (.one h31)
    · exact .inr (.more h31 (.one h12))
theorem sec_of {x : Int} (h : 0 ≤ x ∧ x < 4096) : Sec x := h
theorem added_ok {E E' : Int → Int → Prop} {p q c : Int} (h : Added E p q c E') (hp : Sec p) (hq : Sec q) (hr : ¬ Reach E q p) : c = 0 ∧ E' = addE E p q := by
  rcases h with ⟨k, _⟩ | ⟨_, _, k, _⟩ | ⟨_, _, _, h1, h2⟩
  · exact absurd ⟨hp, hq⟩ k
  · exact absurd k hr
  · exact ⟨h1, h2⟩
theorem added_ring {E E' : Int → Int → Prop} {p q c : Int} (h : Added E p q c E') (hp : Sec p) (hq : Sec q) (hr : Reach E q p) : c = 30 ∧ E' = E := by
  rcases h with ⟨k, _⟩ | ⟨_, _, _, h1, h2⟩ | ⟨_, _, k, _⟩
  · exact absurd ⟨hp, hq⟩ k
  · exact ⟨h1, h2⟩
  · exact absurd hr k
theorem known_l {l : List Int} (h : BList E2 2 l) : l = [1, 3] := blist_eq h (by simp) (fun x => by rw [r2]; simp; omega)
theorem known_e {l : List (Int × Int)} (h : EList E2 l) : l = [(1, 2), (3, 1)] := elist_eq h (by simp [ltE]) (fun x => by rw [e2_iff]; simp [Prod.ext_iff])

theorem guardE : Try.prog.eqGuardType Try.prog.depth 48 = false := by kernel_rfl
theorem eqE (a b c d : Int) (w : World) : (Op.equalIn 10000 48 (.agg #[.int .i64 a, .int .i64 b]) (.agg #[.int .i64 c, .int .i64 d])).run Try.prog w = .ok (a == c && b == d) w := by
  have hS : Try.prog.underlying 48 = some (.struct (Try.prog.fieldsOf 48)) := by kernel_rfl
  have hp : Try.prog.stoodInHeld 48 = false := by kernel_rfl
  have u3 := Try.underlying3
  have a3 := Try.isAgg3
  have z3 := Try.sizeOf3
  rw [show (10000 : Nat) = 9999 + 1 from rfl, run_equalIn_agg w 9999 48 _ _ hS hp]
  simp only [Program.fieldsOf, Try.underlying48]
  go_simp
  by_cases h1 : a = c <;> by_cases h2 : b = d <;> simp [h1, h2]

/-- A row of cells of a list. -/
theorem row_cells {w : World} {base e k n : Nat} {v : Value} {xs : List Value} (h : w.ownsRow base e k v n xs) (hn : 0 < n) : ∃ g cap, v = .slice (some ⟨g, 0, none⟩) n cap ∧ base ≤ g ∧ g < w.heap.size ∧ ∀ j u, xs[j]? = some u → w.cell? ⟨g, j, none⟩ = some u := by
  rcases h.2 with ⟨_, h0⟩ | ⟨g, cap, cur, rfl, hg, hb, _, _, _, ht⟩
  · omega
  · refine ⟨g, cap, rfl, hg, slt hb, fun j u hj => ?_⟩
    have hlt : j < xs.length := by
      rcases Nat.lt_or_ge j xs.length with c | c
      · exact c
      · rw [List.getElem?_eq_none c] at hj; cases hj
    rw [cell_of_row _ _ _ _ _ _ hb]
    rw [← ht, List.getElem?_take, if_pos (by have := h.1; omega), Array.getElem?_toList] at hj
    exact hj
theorem szE : (Try.prog.info? 48).map (·.size) = some 2 := by kernel_rfl
theorem cell_keep {w w' : World} {g j : Nat} {v : Value} {ks : Nat → Prop} (h : w.cell? ⟨g, j, none⟩ = some v) (hc : Chg w w' ks) (hg : g < w.heap.size) (hn : ¬ ks g) : w'.cell? ⟨g, j, none⟩ = some v := by
  rw [World.cell?_of_block (hc.block g hg hn)]
  exact h

end Go.Proofs.Ytfkommjpofpmbaa
