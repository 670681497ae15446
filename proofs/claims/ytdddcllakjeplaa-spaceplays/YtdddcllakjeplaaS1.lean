/-
  The calls of package space on one stock of numbers: is, free, take; what may be a super.
-/
import Derived.Test.YtdddcllakjeplaaS0
import Derived.Test.YtdddcllakjeplaaLR
namespace Go.Proofs.Ytdddcllakjeplaa
open Go.RowKit

/-- A stock: a row of bits, and the first number. -/
def stkC (p : Nat) (f : Int) : Array Value := #[.pointer (some ⟨p, 0, none⟩), .int .i64 f]
theorem IsB.boxed {w : World} {p g : Nat} {L : List Bool} (h : IsB w p g L) (o : Obj) : IsB (w.alloc o) p g L := h.keep (Chg.alloc w o No) (fun e => e) (fun e => e)
theorem below_box (w : World) (o : Obj) : Below w.heap.size w (w.alloc o) := (Below.refl _ _).alloc (Nat.le_refl _) _

def isB (f : Int) (n : Nat) (i : Int) : Bool := decide (f ≤ i ∧ i < n)
theorem IsB.drewN {w : World} {p g : Nat} {L : List Bool} (h : IsB w p g L) (n : Nat) : IsB (w.drewN n) p g L := ⟨h.me, h.words, h.top⟩
theorem below_drewN {B : Nat} {w0 w : World} (h : Below B w0 w) (n : Nat) : Below B w0 (w.drewN n) := ⟨h.os, h.tape, h.output, h.size, h.block⟩
set_option maxHeartbeats 400000 in
theorem is_any {p g : Nat} {L : List Bool} (f i : Int) (w : World) (h : IsB w p g L) : Calls Try.prog 38 #[.agg #[.pointer (some ⟨p, 0, none⟩), .int .i64 f], .int .i64 i] w fun e w' => e = .returned (.bool (isB f L.length i)) ∧ Below w.heap.size w w' := by
  have HB := hid (h.boxed (.cells #[.pointer (some ⟨p, 0, none⟩), .int .i64 f] 58))
  have HW := hid (below_box w (.cells #[.pointer (some ⟨p, 0, none⟩), .int .i64 f] 58))
  by_cases h1 : f ≤ i
  · by_cases h2 : i < L.length
    · have HE : Hid (isB f L.length i = true) := decide_eq_true ⟨h1, h2⟩
      go_enter Try.func38, Try.ntmps38
      go_wp2_with (go_at_call 41; refine (len_any _ HB.out).mono ?_; rintro e w1 ⟨rfl, rfl⟩)
      go_ret
      exact ⟨ret_bool HE.out.symm, HW.out⟩
    · have HE : Hid (isB f L.length i = false) := decide_eq_false (fun e => h2 e.2)
      replace h2 := hid h2
      go_enter Try.func38, Try.ntmps38
      go_wp2_with (go_at_call 41; refine (len_any _ HB.out).mono ?_; rintro e w1 ⟨rfl, rfl⟩)
      go_ret
      exact ⟨ret_bool (by rw [HE.out]; exact decide_eq_false (Int.not_lt.2 h2.out)), HW.out⟩
  · have HE : Hid (isB f L.length i = false) := decide_eq_false (fun e => h1 e.1)
    go_enter Try.func38, Try.ntmps38
    go_wp2
    go_ret
    exact ⟨ret_bool HE.out.symm, HW.out⟩

set_option maxHeartbeats 400000 in
theorem free_any {p g : Nat} {L : List Bool} (f : Int) (w : World) (h : IsB w p g L) (hf : 0 ≤ f) (hf2 : f ≤ 4096) : Calls Try.prog 34 #[.agg #[.pointer (some ⟨p, 0, none⟩), .int .i64 f]] w fun e w' => e = .returned (.int .i64 ((L.length : Int) - f - (L.count true : Nat))) ∧ Below w.heap.size w w' := by
  have HB := hid (h.boxed (.cells #[.pointer (some ⟨p, 0, none⟩), .int .i64 f] 58))
  have HW := hid (below_box w (.cells #[.pointer (some ⟨p, 0, none⟩), .int .i64 f] 58))
  have ht := h.top
  have hc := count_top L
  generalize hC : L.count true = C at *
  replace hC := hid hC
  go_enter Try.func34, Try.ntmps34
  go_wp2
  go_quiet (first | (go_at_call 41; exact Calls.quiet_of_same ((len_any _ (HB.out.drewN _)).mono fun e w' h => ⟨h.1, h.2.symm⟩)) | (go_at_call 42; exact Calls.quiet_of_same ((count_any _ (HB.out.drewN _)).mono fun e w' h => ⟨h.1.trans (by rw [hC.out]), h.2.symm⟩)))
  go_wp2
  go_ret
  exact ⟨rfl, below_drewN HW.out _⟩

def errN (b : Bool) (z : Int) : Int := if b = true then 0 else z
def takL (L : List Bool) (x : Int) (b : Bool) : List Bool := if b = true then putL L x true else L
set_option maxHeartbeats 400000 in
theorem take_any {p g : Nat} {L : List Bool} (f z x : Int) (b : Bool) (w : World) (h : IsB w p g L) (hF : Hid (FirstIs L f x b)) : Calls Try.prog 35 #[.agg #[.pointer (some ⟨p, 0, none⟩), .int .i64 f], .int .i64 z] w fun e w' =>
    e = .returned (.tuple #[.int .i64 x, .int .i64 (errN b z)]) ∧ IsB w' p g (takL L x b) ∧ Chg w w' (fun k => k = g) := by
  have HB := hid (h.boxed (.cells #[.pointer (some ⟨p, 0, none⟩), .int .i64 f] 58))
  have HC := hid (Chg.alloc w (.cells #[.pointer (some ⟨p, 0, none⟩), .int .i64 f] 58) (fun k => k = g))
  have hne := heap_alloc_new w (.cells #[.pointer (some ⟨p, 0, none⟩), .int .i64 f] 58)
  cases b
  · have HX := hid (hF.out.no rfl).1
    go_enter Try.func35, Try.ntmps35
    go_wp2_with (go_at_call 43; refine (first_to hF.out _ HB.out).mono ?_; rintro e w1 ⟨rfl, rfl⟩)
    go_ret2
    exact ⟨by rw [HX.out]; rfl, HB.out, HC.out⟩
  · have HE : Hid (putE L x = 0) := if_pos ⟨(hF.out.yes rfl).2.1, (hF.out.yes rfl).2.2.1⟩
    go_enter Try.func35, Try.ntmps35
    go_wp2_with (first | (go_at_call 43; refine (first_to hF.out _ HB.out).mono ?_; rintro e w1 ⟨rfl, rfl⟩) | (go_at_call 29; refine (set_any x _ HB.out).mono ?_; rintro e w2 ⟨rfl, h2, c2⟩; rw [HE.out]))
    go_ret2
    exact ⟨rfl, h2, HC.out.trans c2 (fun _ _ e => e) (fun _ _ e => e)⟩

def mayB (a b : Int) : Bool := decide ((8 ≤ a ∧ a ≤ 4096) ∧ (1 ≤ b ∧ b ≤ 512 ∧ b + 2 ≤ a))
set_option maxHeartbeats 400000 in
theorem may_any (a b : Int) (w : World) : Calls Try.prog 27 #[.agg #[.int .i64 a, .int .i64 b]] w fun e w' => e = .returned (.bool (mayB a b)) ∧ Below w.heap.size w w' := by
  have HW := hid (below_box w (.cells #[.int .i64 a, .int .i64 b] 23))
  by_cases h1 : a < 8
  · have HE : Hid (mayB a b = false) := decide_eq_false (fun e => by omega)
    go_enter Try.func27, Try.ntmps27
    go_wp2
    go_ret
    exact ⟨ret_bool HE.out.symm, HW.out⟩
  · by_cases h2 : 4096 < a
    · have HE : Hid (mayB a b = false) := decide_eq_false (fun e => by omega)
      go_enter Try.func27, Try.ntmps27
      go_wp2
      go_ret
      exact ⟨ret_bool HE.out.symm, HW.out⟩
    · by_cases h3 : 1 ≤ b
      · by_cases h4 : b ≤ 512
        · by_cases h5 : b + 2 ≤ a
          · have HE : Hid (mayB a b = true) := decide_eq_true ⟨by omega, by omega⟩
            go_enter Try.func27, Try.ntmps27
            go_wp2
            go_ret
            exact ⟨ret_bool HE.out.symm, HW.out⟩
          · have HE : Hid (mayB a b = false) := decide_eq_false (fun e => by omega)
            go_enter Try.func27, Try.ntmps27
            go_wp2
            go_ret
            exact ⟨ret_bool HE.out.symm, HW.out⟩
        · have HE : Hid (mayB a b = false) := decide_eq_false (fun e => by omega)
          go_enter Try.func27, Try.ntmps27
          go_wp2
          go_ret
          exact ⟨ret_bool HE.out.symm, HW.out⟩
      · have HE : Hid (mayB a b = false) := decide_eq_false (fun e => by omega)
        go_enter Try.func27, Try.ntmps27
        go_wp2
        go_ret
        exact ⟨ret_bool HE.out.symm, HW.out⟩

end Go.Proofs.Ytdddcllakjeplaa
