/-
  The statements' own helper few: how many bytes nodes have together.
-/
import Derived.Test.YtiakfgplhdbaeaaLA
namespace Go.Proofs.Ytiakfgplhdbaeaa
open Go.RowKit

def szN (n : Nod) : Nat := n.path.size + n.same.size + n.data.length
def sumS (L : List Nod) : Nat := (L.map szN).sum
def fewB (L : List Nod) : Bool := decide (sumS L ≤ 2097152) && decide (L.length ≤ 5000)
theorem sum_more {L : List Nod} {j : Nat} (h : j < L.length) : sumS (L.take (j + 1)) = sumS (L.take j) + szN (L.getD j Nod.z) := by
  rw [take_more h]
  simp [sumS]
theorem sum_le (L : List Nod) (j : Nat) : sumS (L.take j) ≤ sumS L := by
  have h : sumS L = sumS (L.take j) + sumS (L.drop j) := by
    unfold sumS
    rw [← List.sum_append, ← List.map_append, List.take_append_drop]
  omega
/-- What is handed in is no longer than memory is. -/
def NSz (L : List Nod) : Prop := L.length ≤ 140737488355328 ∧ ∀ i, i < L.length → (L.getD i Nod.z).path.size ≤ 140737488355328 ∧ (L.getD i Nod.z).same.size ≤ 140737488355328 ∧ (L.getD i Nod.z).data.length ≤ 140737488355328

set_option maxHeartbeats 2000000 in
set_option maxRecDepth 100000 in
theorem few_any (L : List Nod) (a : Option Addr) (cap : Nat) (w : World) (h : NAt w a L) (hz : NSz L) :
    Calls Try.prog 8 #[.slice a L.length cap] w fun e w' => e = .returned (.bool (fewB L)) ∧ Chg w w' No := by
  have HN := hid h
  have HZ := hid hz
  obtain ⟨R, hR⟩ : ∃ y, y = fewB L := ⟨_, rfl⟩
  rw [← hR]
  obtain ⟨m, hm⟩ : ∃ y, y = L.length := ⟨_, rfl⟩
  have hml : m ≤ 140737488355328 := by rw [hm]; exact hz.1
  rw [← hm]
  have HM := hid hm
  have HR : Hid (R = (decide (sumS L ≤ 2097152) && decide (m ≤ 5000))) := hid (by rw [hR, hm]; rfl)
  clear h hz hm hR
  go_enter Try.func8, Try.ntmps8
  go_wp2_with fail
  go_loopw [3, 4] (fun x3 x4 wr => ∃ (j n : Nat), x3 = .int .i64 (n : Int) ∧ x4 = .int .i64 (j : Int) ∧ j ≤ m ∧ n ≤ 500000000000000 ∧ Hid (n = sumS (L.take j)) ∧ Hid (Chg w wr No)) (fun _ x4 _ => m - (intOf x4).toNat)
  case atStart => exact ⟨0, 0, rfl, rfl, Nat.zero_le _, Nat.zero_le _, hid rfl, hid (Chg.refl _ _)⟩
  case round =>
    obtain ⟨j, n, rfl, rfl, hj, hn, HS, HC⟩ := hrel
    by_cases e : j = m
    · subst e
      have HE : Hid (n = sumS L) := hid (by rw [HS.out, HM.out, List.take_length])
      by_cases n1 : (n : Int) ≤ 2097152
      · by_cases m1 : (j : Int) ≤ 5000
        · obtain rfl : R = true := by rw [HR.out, ← HE.out]; simp; omega
          go_wp2_with fail
          go_ret
          exact ⟨rfl, HC.out⟩
        · obtain rfl : R = false := by rw [HR.out, ← HE.out]; simp; omega
          go_wp2_with fail
          go_ret
          exact ⟨rfl, HC.out⟩
      · obtain rfl : R = false := by rw [HR.out, ← HE.out]; simp; omega
        go_wp2_with fail
        go_ret
        exact ⟨rfl, HC.out⟩
    · have f1 : (j : Int) < (m : Int) := by omega
      by_cases n1 : (n : Int) ≤ 2097152
      · have hjl : j < L.length := by rw [← HM.out]; omega
        obtain ⟨x, hx⟩ : ∃ y, y = L.getD j Nod.z := ⟨_, rfl⟩
        have HS2 : Hid (n + (x.path.size + x.same.size + x.data.length) = sumS (L.take (j + 1))) := hid (by rw [sum_more hjl, ← HS.out, ← hx]; rfl)
        obtain ⟨z1, z2, z3⟩ := HZ.out.2 j hjl
        rw [← hx] at z1 z2 z3
        obtain ⟨b, o, rfl, hb, hcells⟩ : ∃ b o, a = some ⟨b, o, none⟩ ∧ b < wr.heap.size ∧ ∀ i, i < L.length → ∀ j v, (nodA (L.getD i Nod.z)).toList[j]? = some v → wr.cell? ⟨b, o + i * 5 + j, none⟩ = some v := by
          rcases (HN.out.call HC.out).at_ with h | h
          · rw [h] at hjl; exact absurd hjl (Nat.not_lt_zero _)
          · exact h
        have c0 := hcells j hjl 0 (.string x.path) (by rw [← hx]; rfl)
        have c3 := hcells j hjl 3 (.string x.same) (by rw [← hx]; rfl)
        have c4 := hcells j hjl 4 (.slice x.da x.data.length x.dc) (by rw [← hx]; rfl)
        rw [Nat.add_zero] at c0
        generalize x.data.length = dl at *
        obtain ⟨dz, hdz⟩ : ∃ y, y = x.da := ⟨_, rfl⟩
        obtain ⟨dcz, hdcz⟩ : ∃ y, y = x.dc := ⟨_, rfl⟩
        obtain ⟨pz, hpz⟩ : ∃ y, y = x.path := ⟨_, rfl⟩
        obtain ⟨sz, hsz⟩ : ∃ y, y = x.same := ⟨_, rfl⟩
        rw [← hpz] at c0 z1 HS2
        rw [← hsz] at c3 z2 HS2
        rw [← hdz, ← hdcz] at c4
        clear hcells hx hjl hb HS hdz hdcz hpz hsz
        go_wp2_with fail
        go_quiet (fail)
        go_wp2_with fail
        refine ⟨⟨j + 1, n + (pz.size + sz.size + dl), by go_num, by go_num, by omega, by omega, HS2, hid (HC.out.tr (chg_drewN wr _))⟩, by simp [intOf]; omega⟩
      · obtain rfl : R = false := by
          rw [HR.out]
          have := sum_le L j
          have := HS.out
          simp
          omega
        go_wp2_with fail
        go_ret
        exact ⟨rfl, HC.out⟩
end Go.Proofs.Ytiakfgplhdbaeaa
