/-
  package plain: a directory's place; the least free inode; the last of names.
-/
import Derived.Test.YtbkddnibcpjkgaaDoorPR
namespace Go.Proofs.YtbkddnibcpjkgaaDoor
open Go.RowKit

/-- The place, and the error. -/
noncomputable def placeL (s : PSt) (x : Nd) : Int × Int :=
  if least0 x.sl = 1068 then (0, 112) else if roomB s x (least0 x.sl) (least0 x.sl + 1) = true then ((least0 x.sl : Nat), 0) else (0, 80)

set_option maxHeartbeats 1000000 in
set_option maxRecDepth 100000 in
theorem place_any {q : PC} {s : PSt} {c : NC} {x : Nd} (w : World) (h : IsPl w q s) (hx : IsN w c x) :
    Calls Tryd.prog 25 #[.pointer (some ⟨q.p, 0, none⟩), .pointer (some ⟨c.p, 0, none⟩)] w fun e w' => e = .returned (.tuple #[.int .i64 (placeL s x).1, .int .i64 (placeL s x).2]) ∧ Chg w w' No := by
  have hL := leastPlace_any w hx
  have hle := least0_le x.sl
  have hlen := hx.len
  have hR : least0 x.sl < 1068 → Calls Tryd.prog 46 #[.pointer (some ⟨q.p, 0, none⟩), .pointer (some ⟨c.p, 0, none⟩), .int .i64 (least0 x.sl : Nat), .int .i64 (least0 x.sl : Nat)] w fun e w' => e = .returned (.bool (roomB s x (least0 x.sl) (least0 x.sl + 1))) ∧ Chg w w' No := fun hm => hasRoom_any _ _ w h hx (by omega) hm
  obtain ⟨R, hRR⟩ : ∃ y, y = placeL s x := ⟨_, rfl⟩
  rw [← hRR]
  unfold placeL at hRR
  obtain ⟨m, hm⟩ : ∃ y, y = least0 x.sl := ⟨_, rfl⟩
  rw [← hm] at hL hR hle hRR
  obtain ⟨rb, hrb⟩ : ∃ y, y = roomB s x m (m + 1) := ⟨_, rfl⟩
  rw [← hrb] at hR hRR
  by_cases h8 : m = 1068
  · rw [if_pos h8] at hRR
    subst hRR h8
    clear h hx hle hlen hR hm hrb
    go_enter Tryd.func25, Tryd.ntmps25
    go_wp2_with (first
      | (go_at_call 45; go_must (refine hL.mono ?_; rintro e w1 ⟨rfl, rfl⟩))
      | fail)
    go_ret2
    exact ⟨rfl, Chg.refl _ _⟩
  · rw [if_neg h8] at hRR
    have hR := hR (by omega)
    have b1 : ((m : Int) == 1068) = false := beq_eq_false_iff_ne.2 (by omega)
    have b2 : decide ((m : Int) = 1068) = false := decide_eq_false (by omega)
    have b3 : ¬ ((m : Int) = 1068) := by omega
    clear h hx hle hlen hm hrb h8
    cases rb with
    | false =>
      have hRR : R = (0, 80) := hRR
      subst hRR
      go_enter Tryd.func25, Tryd.ntmps25
      go_wp2_with (first
        | (go_at_call 45; go_must (refine hL.mono ?_; rintro e w1 ⟨rfl, rfl⟩))
        | (go_at_call 46; go_must (refine hR.mono ?_; rintro e w2 ⟨rfl, hc2⟩))
        | fail)
      go_ret2
      exact ⟨rfl, hc2⟩
    | true =>
      have hRR : R = ((m : Int), 0) := hRR
      subst hRR
      go_enter Tryd.func25, Tryd.ntmps25
      go_wp2_with (first
        | (go_at_call 45; go_must (refine hL.mono ?_; rintro e w1 ⟨rfl, rfl⟩))
        | (go_at_call 46; go_must (refine hR.mono ?_; rintro e w2 ⟨rfl, hc2⟩))
        | fail)
      go_ret2
      exact ⟨rfl, hc2⟩

/-- The least inode from i on that is not in use. -/
def freeFrom (s : PSt) : Nat → Nat → Nat
  | 0, i => i
  | n + 1, i => if (s.nd (i : Int)).isSome then freeFrom s n (i + 1) else i
def freeI (s : PSt) : Nat := freeFrom s 512 1

set_option maxHeartbeats 2000000 in
set_option maxRecDepth 100000 in
theorem freeInode_any {q : PC} {s : PSt} (w : World) (h : IsPl w q s) :
    Calls Tryd.prog 26 #[.pointer (some ⟨q.p, 0, none⟩)] w fun e w' => e = .returned (.int .i64 (freeI s : Nat)) ∧ w' = w := by
  have HP := hid h
  have c2 := h.c2
  obtain ⟨fm, hfm⟩ : ∃ y, y = (fun i => (q.nc i).map ptrN) := ⟨_, rfl⟩
  have HM : Hid (MapV w q.mb fm) := hid (by rw [hfm]; exact h.mp)
  have HFm := hid hfm
  obtain ⟨R, hR⟩ : ∃ y : Nat, y = freeI s := ⟨_, rfl⟩
  have HR : Hid (R = freeFrom s 512 1) := hid hR
  rw [← hR]
  clear h hfm hR
  go_enter Tryd.func26, Tryd.ntmps26
  go_wp2_with fail
  go_loopw [3] (fun x3 wr => ∃ j : Nat, x3 = .int .i64 (j : Int) ∧ 1 ≤ j ∧ j ≤ 513 ∧ wr = w ∧ Hid (R = freeFrom s (513 - j) j)) (fun x3 _ => 513 - (intOf x3).toNat)
  case atStart => exact ⟨1, rfl, by omega, by omega, rfl, HR⟩
  case round =>
    obtain ⟨j, rfl, hj1, hj2, rfl, HX⟩ := hrel
    clear HR
    have hI : I64 (j : Int) := ⟨by omega, by omega⟩
    have i1 : (j : Int) ≤ 513 := by omega
    cases hq : q.nc (j : Int) with
    | none =>
      have HFi : Hid ((match fm (j : Int) with | some v => v | none => Value.pointer none) = .pointer none) := hid (by rw [HFm.out]; simp only [hq, Option.map_none])
      have e : R = j := by
        rw [HX.out]
        cases hn : 513 - j with
        | zero => rfl
        | succ n =>
          unfold freeFrom
          rw [HP.out.dom _ hq]
          rfl
      subst e
      clear HX hq
      go_wp2_with (first
        | (at_lookup; go_must (refine wp_lookVN rfl _ _ rfl q.mb fm (R : Int) _ HFi.out rfl rfl HM.out hI ?_))
        | fail)
      go_ret
      exact ⟨rfl, rfl⟩
    | some c =>
      have HFi : Hid ((match fm (j : Int) with | some v => v | none => Value.pointer none) = .pointer (some ⟨c.p, 0, none⟩)) := hid (by rw [HFm.out]; simp only [hq, Option.map_some]; rfl)
      have hrg := HP.out.rng (j : Int) (by rw [hq]; intro e; cases e)
      have HNx : Hid (R = freeFrom s (513 - (j + 1)) (j + 1)) := hid (by
        rw [HX.out, show 513 - j = (513 - (j + 1)) + 1 by omega]
        obtain ⟨x, hx, _⟩ := HP.out.nd _ c hq
        conv => lhs; unfold freeFrom
        rw [hx]
        rfl)
      have j2 : j ≤ 512 := by omega
      clear HX hq hrg
      go_wp2_with (first
        | (at_lookup; go_must (refine wp_lookVN rfl _ _ rfl q.mb fm (j : Int) _ HFi.out rfl rfl HM.out hI ?_))
        | fail)
      exact ⟨⟨j + 1, by go_num, by omega, by omega, by trivial, HNx⟩, by simp [intOf]; omega⟩

set_option maxHeartbeats 1000000 in
set_option maxRecDepth 100000 in
theorem spotfind_any {c : NC} {x : Nd} (s : ByteArray) (w : World) (h : IsN w c x) (hs : s.size ≤ 1000) (hr : ∀ k, x.nm s = some k → 0 ≤ k ∧ k < x.sl.length) :
    Calls Tryd.prog 24 #[.agg #[.pointer (some ⟨c.p, 0, none⟩), .string s]] w fun e w' => e = .returned (.tuple #[.int .i64 ((findN x s).getD 0), .bool (findN x s).isSome]) ∧ Chg w w' No := by
  obtain ⟨w1, hw1⟩ : ∃ y, y = w.alloc (.cells #[.pointer (some ⟨c.p, 0, none⟩), .string s] 75) := ⟨_, rfl⟩
  have hc : Chg w w1 No := by rw [hw1]; exact Chg.alloc _ _ No
  have hF := find_any s w1 (h.call hc) hs hr
  have q0 : w1.cell? ⟨w.heap.size, 0, none⟩ = some (.pointer (some ⟨c.p, 0, none⟩)) := by rw [hw1]; exact (cell_of_row _ _ _ _ _ _ (heap_alloc_new w (.cells #[.pointer (some ⟨c.p, 0, none⟩), .string s] 75))).trans rfl
  have q1 : w1.cell? ⟨w.heap.size, 1, none⟩ = some (.string s) := by rw [hw1]; exact (cell_of_row _ _ _ _ _ _ (heap_alloc_new w (.cells #[.pointer (some ⟨c.p, 0, none⟩), .string s] 75))).trans rfl
  have HC := hid hc
  rw [hw1] at hF q0 q1 HC
  obtain ⟨fo, hfo⟩ : ∃ y, y = findN x s := ⟨_, rfl⟩
  rw [← hfo] at hF ⊢
  clear h hw1 hc hr hfo
  go_enter Tryd.func24, Tryd.ntmps24
  go_wp2_with (first
    | (go_at_call 35; go_must (refine hF.mono ?_; rintro e w2 ⟨rfl, rfl⟩))
    | fail)
  go_ret2
  exact ⟨rfl, HC.out⟩
end Go.Proofs.YtbkddnibcpjkgaaDoor
