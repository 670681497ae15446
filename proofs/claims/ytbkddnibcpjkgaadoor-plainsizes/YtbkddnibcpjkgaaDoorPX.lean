/-
  package plain: the least place of a directory; is there room?; the least inode that is free.
-/
import Derived.Test.YtbkddnibcpjkgaaDoorPW
namespace Go.Proofs.YtbkddnibcpjkgaaDoor
open Go.RowKit

/-- Where the first 0 stands; behind all of them, if there is none. -/
def least0 : List Int → Nat
  | [] => 0
  | x :: l => if x = 0 then 0 else least0 l + 1
theorem least0_le : ∀ l : List Int, least0 l ≤ l.length
  | [] => Nat.le_refl _
  | x :: l => by
    unfold least0
    split
    · omega
    · have := least0_le l
      simp only [List.length_cons]
      omega
theorem least0_at : ∀ {l : List Int} {j : Nat}, j < l.length → (∀ k, k < j → l.getD k 0 ≠ 0) → l.getD j 0 = 0 → least0 l = j
  | [], j, h, _, _ => absurd h (Nat.not_lt_zero _)
  | x :: l, 0, _, _, h0 => by
    have h0 : x = 0 := h0
    unfold least0
    rw [if_pos h0]
  | x :: l, j + 1, h, hk, h0 => by
    have hx : ¬ x = 0 := hk 0 (by omega)
    have := least0_at (l := l) (j := j) (by simpa using h) (fun k hkj => hk (k + 1) (by omega)) h0
    unfold least0
    rw [if_neg hx, this]
theorem least0_none : ∀ {l : List Int}, (∀ k, k < l.length → l.getD k 0 ≠ 0) → least0 l = l.length
  | [], _ => rfl
  | x :: l, hk => by
    have hx : ¬ x = 0 := hk 0 (by simp)
    have := least0_none (l := l) (fun k hkl => hk (k + 1) (by simpa using hkl))
    unfold least0
    rw [if_neg hx, this]
    rfl

set_option maxHeartbeats 1000000 in
set_option maxRecDepth 100000 in
theorem index_any {B : Nat} (l : List Int) (a : Option Addr) (cp : Nat) (w : World) (h : IOwn w B (.slice a l.length cp) l) (hl : l.length ≤ 5000) :
    Calls Tryd.prog 57 #[.slice a l.length cp, .int .i64 0] w fun e w' => e = .returned (.int .i64 (if least0 l < l.length then ((least0 l : Nat) : Int) else -1)) ∧ w' = w := by
  have HI := hid h
  obtain ⟨R, hR⟩ : ∃ y : Int, y = (if least0 l < l.length then ((least0 l : Nat) : Int) else -1) := ⟨_, rfl⟩
  rw [← hR]
  have HR := hid hR
  obtain ⟨n, hn⟩ : ∃ y, y = l.length := ⟨_, rfl⟩
  have HN := hid hn
  rw [← hn] at hl ⊢
  clear h hR hn
  go_enter Tryd.func57, Tryd.ntmps57
  go_wp2_with fail
  go_loopw [8] (fun x8 wr => ∃ j : Nat, x8 = .int .i64 (j : Int) ∧ j ≤ n ∧ wr = w ∧ Hid (∀ k, k < j → l.getD k 0 ≠ 0)) (fun x8 _ => n - (intOf x8).toNat)
  case atStart => exact ⟨0, rfl, by omega, rfl, hid (fun k hk => absurd hk (Nat.not_lt_zero _))⟩
  case round =>
    obtain ⟨j, rfl, hj, rfl, HX⟩ := hrel
    by_cases hlt : j < n
    · have j0 : (0 : Int) ≤ (j : Int) := by omega
      have j1 : (j : Int) < (n : Int) := by omega
      have j2 : (j : Int) ≤ 5000 := by omega
      have hjl : j < l.length := by rw [← HN.out]; exact hlt
      have hcell : ∃ g, a = some ⟨g, 0, none⟩ ∧ wr.cell? ⟨g, j, none⟩ = some (.int .i64 (l.getD j 0)) := own_cell HI.out hjl
      obtain ⟨g, rfl, q5⟩ := hcell
      obtain ⟨y, hy⟩ : ∃ z, z = l.getD j 0 := ⟨_, rfl⟩
      rw [← hy] at q5
      by_cases h0 : y = 0
      · have e : R = (j : Int) := by
          have := least0_at hjl HX.out (hy.symm.trans h0)
          rw [HR.out, this, if_pos hjl]
        subst e h0
        clear hy hjl HX HR
        go_wp2_with fail
        go_ret
        exact ⟨rfl, rfl⟩
      · have b1 : ((0 : Int) == y) = false := beq_eq_false_iff_ne.2 (fun e => h0 e.symm)
        have b2 : decide ((0 : Int) = y) = false := decide_eq_false (fun e => h0 e.symm)
        have HNx : Hid (∀ k, k < j + 1 → l.getD k 0 ≠ 0) := hid (fun k hk => by
          by_cases e : k = j
          · rw [e, ← hy]; exact h0
          · exact HX.out k (by omega))
        clear hy hjl HX h0
        go_wp2_with fail
        exact ⟨⟨j + 1, by go_num, by omega, by trivial, HNx⟩, by simp [intOf]; omega⟩
    · have j1 : ¬ (j : Int) < (n : Int) := by omega
      have e : R = -1 := by
        have := least0_none (l := l) (fun k hk => HX.out k (by have := HN.out; omega))
        rw [HR.out, this, if_neg (Nat.lt_irrefl _)]
      subst e
      clear HX HR
      go_wp2_with fail
      go_ret
      exact ⟨rfl, rfl⟩

set_option maxHeartbeats 1000000 in
set_option maxRecDepth 100000 in
theorem leastPlace_any {c : NC} {x : Nd} (w : World) (h : IsN w c x) :
    Calls Tryd.prog 45 #[.pointer (some ⟨c.p, 0, none⟩)] w fun e w' => e = .returned (.int .i64 (least0 x.sl : Nat)) ∧ w' = w := by
  have c5 := h.c5
  obtain ⟨a, cp, hv⟩ := h.sl.shape
  rw [hv] at c5
  have hs := h.sl
  rw [hv] at hs
  have hIx := index_any x.sl a cp w hs (by have := h.len; omega)
  have hle := least0_le x.sl
  obtain ⟨n, hn⟩ : ∃ y, y = x.sl.length := ⟨_, rfl⟩
  obtain ⟨m, hm⟩ : ∃ y, y = least0 x.sl := ⟨_, rfl⟩
  rw [← hn] at c5 hIx hle
  rw [← hm] at hIx hle ⊢
  clear h hv hs hn hm
  by_cases hlt : m < n
  · rw [if_pos hlt] at hIx
    have i1 : (0 : Int) ≤ (m : Int) := by omega
    clear hle hlt
    go_enter Tryd.func45, Tryd.ntmps45
    go_wp2_with (first
      | (go_at_call 57; go_must (refine hIx.mono ?_; rintro e w1 ⟨rfl, rfl⟩))
      | fail)
    go_ret
    exact ⟨rfl, rfl⟩
  · rw [if_neg hlt] at hIx
    obtain rfl : m = n := by omega
    clear hle hlt
    go_enter Tryd.func45, Tryd.ntmps45
    go_wp2_with (first
      | (go_at_call 57; go_must (refine hIx.mono ?_; rintro e w1 ⟨rfl, rfl⟩))
      | fail)
    go_ret
    exact ⟨rfl, rfl⟩
end Go.Proofs.YtbkddnibcpjkgaaDoor
