/-
 sector.Get returns, for every sector, place and width, the number that stands there, or the error.
-/
import Derived.Test.YtpmignilhoihnabGreatPlain
namespace Go.Proofs.YtpmignilhoihnabGreat
open Go.RowKit

def getN (s : List Int) (p n : Int) : Int := if inB p n = true ∧ numAt s p.toNat n.toNat ≤ top then numAt s p.toNat n.toNat else 0
def getE (s : List Int) (p n : Int) : Int := if inB p n = true then (if numAt s p.toNat n.toNat ≤ top then 0 else 11) else 10

set_option maxHeartbeats 400000 in
theorem get_out (s : List Int) (p n : Int) (w : World) (h : inB p n = false) :
  Calls Tryz.prog 77 #[.agg (SA s), .int .i64 p, .int .i64 n] w fun e w' => e = .returned (.tuple #[.int .i64 0, .int .i64 10]) ∧ Below w.heap.size w w' := by
 go_enter Tryz.func77, Tryz.ntmps77
 go_wp2_with (go_at_call 104; refine (within_any _ _ _).mono ?_; rintro e w' ⟨rfl, rfl⟩)
 go_ret2
 exact ⟨rfl, (Below.refl _ _).alloc (Nat.le_refl _) _⟩

theorem ret_two {k k' : IntKind} {a b c d : Int} (h : a = b) (h' : c = d) : Ending.returned (.tuple #[.int k a, .int k' c]) = .returned (.tuple #[.int k b, .int k' d]) := by rw [h, h']

set_option maxHeartbeats 400000 in
theorem get_in (s : List Int) (p n : Int) (w : World) (hs : IsSec s) (h : inB p n = true) (hp0 : 0 ≤ p) (hp1 : p ≤ 128 - n) (hn0 : 1 ≤ n) (hn1 : n ≤ 8) :
  Calls Tryz.prog 77 #[.agg (SA s), .int .i64 p, .int .i64 n] w fun e w' => e = .returned (.tuple #[.int .i64 (getN s p n), .int .i64 (getE s p n)]) ∧ Below w.heap.size w w' := by
 go_enter Tryz.func77, Tryz.ntmps77
 go_wp2_with (go_at_call 104; refine (within_any _ _ _).mono ?_; rintro e w' ⟨rfl, rfl⟩)
 go_loop [8, 15] (fun v i => ∃ k : Nat, (k : Int) ≤ n ∧ i = .int .i64 k ∧ v = .int .u64 (numAt s p.toNat k)) (fun _ i => n.toNat - (intOf i).toNat)
 case atStart => exact ⟨0, by omega, rfl, rfl⟩
 case round =>
  obtain ⟨k, hk, rfl, rfl⟩ := hrel
  by_cases hlt : (k : Int) < n
  ·have hc := SA_cell w 36 s (p + k).toNat (by have := hs.1; omega)
   have hb := hs.at (p + k).toNat
   have h1 : p + (k : Int) < 128 := by omega
   go_wp2
   refine ⟨⟨k + 1, by omega, by go_num, ?_⟩, by simp [intOf]; omega⟩;have hbd := numAt_bd hs p.toNat k
   have e : (p + (k : Int)).toNat = p.toNat + k := by omega
   rw [← List.getD_eq_getElem?_getD, or_step _ _ k (by omega) hbd.1 hbd.2 hb.1 hb.2, e]
   rfl
  ·have e : n.toNat = k := by omega
   have hb0 := (numAt_bd hs p.toNat k).1
   by_cases ht : numAt s p.toNat k ≤ top
   ·have ht' : numAt s p.toNat k ≤ 4611686018427387904 := ht
    have HN : Hid (getN s p n = numAt s p.toNat k) := by show _ = _; rw [getN, e, if_pos ⟨h, ht⟩]
    have HE : Hid (getE s p n = 0) := by show _ = _; rw [getE, e, if_pos h, if_pos ht]
    clear ht e
    go_wp2
    go_ret2
    exact ⟨ret_two HN.out.symm HE.out.symm, (Below.refl _ _).alloc (Nat.le_refl _) _⟩
   ·have ht' : 4611686018427387904 < numAt s p.toNat k := by rw [top_eq] at ht; omega
    have HN : Hid (getN s p n = 0) := by show _ = _; rw [getN, e, if_neg fun x => ht x.2]
    have HE : Hid (getE s p n = 11) := by show _ = _; rw [getE, e, if_pos h, if_neg ht]
    clear ht e
    go_wp2
    go_ret2
    exact ⟨ret_two HN.out.symm HE.out.symm, (Below.refl _ _).alloc (Nat.le_refl _) _⟩

theorem get_any (s : List Int) (p n : Int) (w : World) (hs : IsSec s) :
  Calls Tryz.prog 77 #[.agg (SA s), .int .i64 p, .int .i64 n] w fun e w' => e = .returned (.tuple #[.int .i64 (getN s p n), .int .i64 (getE s p n)]) ∧ Below w.heap.size w w' := by
 cases h : inB p n
 ·refine (get_out s p n w h).mono ?_
  rintro e w' ⟨rfl, hb⟩
  exact ⟨by simp [getN, getE, h], hb⟩
 ·have h' := of_decide_eq_true h
  exact get_in s p n w hs h h'.2.2.1 h'.2.2.2 h'.1 h'.2.1

end Go.Proofs.YtpmignilhoihnabGreat
