/-
  The statements' own helpers ints and same.
-/
import Derived.Test.YtfkommjpofpmbaaLawT
-- may lack
namespace Go.Proofs.Ytfkommjpofpmbaa
open Go.RowKit

/-- Numbers that lie in memory. -/
def IAt (w : World) (a : Option Addr) (l : List Int) : Prop := l = [] ∨ ∃ g, a = some ⟨g, 0, none⟩ ∧ g < w.heap.size ∧ ∀ j u, (l.map (Value.int .i64))[j]? = some u → w.cell? ⟨g, j, none⟩ = some u
theorem IAt.keep {w w' : World} {a : Option Addr} {l : List Int} {ks : Nat → Prop} (h : IAt w a l) (hc : Chg w w' ks) (hn : ∀ g, a = some ⟨g, 0, none⟩ → ¬ ks g) : IAt w' a l := by
  rcases h with h | ⟨g, rfl, hg, h⟩
  · exact .inl h
  · exact .inr ⟨g, rfl, Nat.lt_of_lt_of_le hg hc.size, fun j u hu => cell_keep (h j u hu) hc hg (hn g rfl)⟩
theorem IAt.call {w w' : World} {a : Option Addr} {l : List Int} (h : IAt w a l) (hc : Chg w w' No) : IAt w' a l := h.keep hc fun _ _ e => e
theorem Ints.at_ {w : World} {base : Nat} {v : Value} {l : List Int} (h : Ints w base v l) : ∃ a c, v = .slice a l.length c ∧ IAt w a l ∧ ∀ g, a = some ⟨g, 0, none⟩ → base ≤ g := by
  cases l with
  | nil =>
    obtain ⟨a, c, rfl⟩ := row_shape h
    refine ⟨a, c, rfl, .inl rfl, fun g hg => ?_⟩
    subst hg
    exact (row_ge h rfl).1
  | cons x l =>
    obtain ⟨g, cap, rfl, hb, hg, hc⟩ := row_cells h (by simp)
    exact ⟨_, _, rfl, .inr ⟨g, rfl, hg, hc⟩, fun g' e => by cases e; exact hb⟩

set_option maxRecDepth 100000 in
set_option maxHeartbeats 1000000 in
theorem ints_any (l : List Int) (a b : Option Addr) (ca cb : Nat) (w : World) (hm : l.length ≤ 1000000000000) (ha : IAt w a l) (hb : IAt w b l) :
    Calls Try.prog 10 #[.slice a l.length ca, .slice b l.length cb] w fun e w' => e = .returned (.bool true) ∧ ∃ n, w' = w.drewN n := by
  have HA := hid ha
  have HBb := hid hb
  generalize hlen : l.length = m at *
  clear ha hb
  go_enter Try.func10, Try.ntmps10
  go_wp2_with fail
  go_loopw [5] (fun i wr => ∃ k n : Nat, k ≤ m ∧ i = .int .i64 k ∧ w.drewN n = wr) (fun i _ => m - (intOf i).toNat)
  case atStart => exact ⟨0, 0, by omega, rfl, rfl⟩
  case round =>
    obtain ⟨k, n, hk, rfl, rfl⟩ := hrel
    by_cases hlt : k < m
    · rcases HA.out with h0 | ⟨g1, rfl, hg1, h1⟩
      · rw [h0] at hlen; simp at hlen; omega
      · rcases HBb.out with h0 | ⟨g2, rfl, hg2, h2⟩
        · rw [h0] at hlen; simp at hlen; omega
        have p1 := ints_cell h1 (k := k) (by omega)
        have p2 := ints_cell h2 (k := k) (by omega)
        generalize l.getD k 0 = y at *
        have hi0 : (0 : Int) ≤ (k : Int) := by omega
        have hi1 : (k : Int) < (m : Int) := by omega
        clear h1 h2
        go_wp2_with fail
        go_quiet (fail)
        go_wp2_with fail
        exact ⟨⟨k + 1, _, by omega, by go_num, rfl⟩, by simp [intOf]; omega⟩
    · go_wp2_with fail
      go_ret
      exact ⟨rfl, n, rfl⟩

theorem lenI (a : Option Addr) (n c : Nat) (w : World) : (Builtin.len_ #[29] 3 #[.slice a n c]).run Try.prog w = .ok (.int .i64 n) w := by
  simp [Builtin.len_, run_underlying Try.underlying29, goInt]

/-- Two answers to the same step are the same. -/
theorem Says.one {E E1 E2 : Int → Int → Prop} {s : StV} {t u : Ans} (h : Says E s t E1) (k : Says E s u E2) : t = u ∧ E1 = E2 := by
  have hb : ∀ {x y : Bool} {P : Prop}, (x = true ↔ P) → (y = true ↔ P) → x = y := fun {x y P} h k => by
    cases x <;> cases y
    · rfl
    · exact absurd (h.2 (k.1 rfl)) (by simp)
    · exact absurd (k.2 (h.1 rfl)) (by simp)
    · rfl
  obtain ⟨c, r, L, M⟩ := t
  obtain ⟨c', r', L', M'⟩ := u
  rcases h with ⟨h0, h1, h2, h3, h4⟩ | ⟨h0, h1, h2, h3, h4, h5⟩ | ⟨h0, h1, h2, h3, h4, h5⟩ | ⟨h0, h1, h2, h3, h4, h5⟩ | ⟨h0, h1, h2, h3, h4⟩ | ⟨h0, h1, h2, h3, h4, h5⟩ <;>
  rcases k with ⟨k0, k1, k2, k3, k4⟩ | ⟨k0, k1, k2, k3, k4, k5⟩ | ⟨k0, k1, k2, k3, k4, k5⟩ | ⟨k0, k1, k2, k3, k4, k5⟩ | ⟨k0, k1, k2, k3, k4⟩ | ⟨k0, k1, k2, k3, k4, k5⟩ <;>
  first
  | (exfalso; omega)
  | skip
  · simp only at *
    subst h2 h3 h4 k2 k3 k4
    rcases h1 with ⟨a1, a2, a3⟩ | ⟨a1, a2, a3, a4, a5⟩ | ⟨a1, a2, a3, a4, a5⟩ <;> rcases k1 with ⟨b1, b2, b3⟩ | ⟨b1, b2, b3, b4, b5⟩ | ⟨b1, b2, b3, b4, b5⟩ <;> simp_all
  · simp only at *
    subst h2 h3 h4 k2 k3 k4
    rw [hb h1 k1, h5, k5]
    exact ⟨rfl, rfl⟩
  · simp only at *
    subst h2 h3 h4 k2 k3 k4
    rw [blist_eq h1 k1.1 k1.2, h5, k5]
    exact ⟨rfl, rfl⟩
  · simp only at *
    subst h2 h3 h4 k2 k3 k4
    rw [hb h1 k1, h5, k5]
    exact ⟨rfl, rfl⟩
  · simp only at *
    subst h2 h3 h4 k2 k3 k4
    rcases h1 with ⟨a1, a2, a3⟩ | ⟨a1, a2, a3⟩ <;> rcases k1 with ⟨b1, b2, b3⟩ | ⟨b1, b2, b3⟩ <;> simp_all
  · simp only at *
    subst h2 h3 h4 k2 k3 k4
    rw [elist_one h1 k1, h5, k5]
    exact ⟨rfl, rfl⟩

end Go.Proofs.Ytfkommjpofpmbaa
