/-
  The calls of package disk that make a disk and tell of one: what they answer, for every input.
-/
import Derived.Test.YtgkanfmkohlmcaaGreatDisk0
namespace Go.Proofs.YtgkanfmkohlmcaaGreat.D
open Go.RowKit
-- may lack

def mayB (n : Int) : Bool := decide (1 ≤ n ∧ n ≤ 4096)
theorem mayB_true {n : Int} (h : 1 ≤ n ∧ n ≤ 4096) : mayB n = true := decide_eq_true h
theorem mayB_false {n : Int} (h : ¬ (1 ≤ n ∧ n ≤ 4096)) : mayB n = false := decide_eq_false h

set_option maxHeartbeats 400000 in
theorem maySize_any (n : Int) (w : World) : Calls Tryz.prog 56 #[.int .i64 n] w fun e w' => e = .returned (.bool (mayB n)) ∧ w' = w := by
  by_cases h1 : 1 ≤ n
  · by_cases h2 : n ≤ 4096
    · go_enter Tryz.func56, Tryz.ntmps56
      go_wp2
      go_ret
      exact ⟨ret_bool (mayB_true (by omega)).symm, rfl⟩
    · go_enter Tryz.func56, Tryz.ntmps56
      go_wp2
      go_ret
      exact ⟨ret_bool (mayB_false (by omega)).symm, rfl⟩
  · go_enter Tryz.func56, Tryz.ntmps56
    go_wp2
    go_ret
    exact ⟨ret_bool (mayB_false (by omega)).symm, rfl⟩

def fresh (n : Nat) : St8 := ⟨zl (128 * n), 0, false, false, 0⟩
def D0 (S : List Int) : St8 := ⟨S, 0, false, false, 0⟩

theorem build_disk (v : Value) (a : Option Addr) (n c : Nat) (hv : v = .slice a n c) (w : World) : (Instr.build 94 #[(0, v)]).run Tryz.prog w = .ok (.agg #[v, .int .i64 0, .bool false, .bool false, .int .i64 0]) w := by
  subst hv
  kernel_rfl

set_option maxHeartbeats 400000 in
theorem new_bad (n : Int) (w : World) (h : ¬ (1 ≤ n ∧ n ≤ 4096)) : Calls Tryz.prog 30 #[.int .i64 n] w fun e w' => e = .returned (.tuple #[.pointer none, .int .i64 20]) ∧ w' = w := by
  have hm := fun w => maySize_any n w
  rw [mayB_false h] at hm
  go_enter Tryz.func30, Tryz.ntmps30
  go_wp2_with (go_at_call 56; refine (hm _).mono ?_; rintro e w1 ⟨rfl, rfl⟩)
  go_ret2
  exact ⟨rfl, rfl⟩

set_option maxHeartbeats 400000 in
theorem new_ok (n : Nat) (w : World) (h0 : 1 ≤ n) (h1 : n ≤ 4096) : Calls Tryz.prog 30 #[.int .i64 n] w fun e w' => ∃ p g, e = .returned (.tuple #[.pointer (some ⟨p, 0, none⟩), .int .i64 0]) ∧ w.heap.size ≤ p ∧ w.heap.size ≤ g ∧ IsD w' p g n (D0 (zl (128 * n))) ∧ Below w.heap.size w w' := by
  have hm := fun w => maySize_any n w
  rw [mayB_true (by omega)] at hm
  have hmk := make_secs (n : Int) (by omega) (by omega)
  rw [Int.toNat_natCast] at hmk
  have hbd := fun g w => build_disk (.slice (some ⟨g, 0, none⟩) n n) _ _ _ rfl w
  go_enter Tryz.func30, Tryz.ntmps30
  go_wp2_with (go_at_call 56; refine (hm _).mono ?_; rintro e w1 ⟨rfl, rfl⟩)
  go_ret2
  refine ⟨w1.heap.size + 1, w1.heap.size, rfl, by omega, by omega, ⟨?_, ?_, zl_len _, h0, h1⟩, ((Below.refl _ _).alloc (Nat.le_refl _) _).alloc (by simp) _⟩
  · have := heap_alloc_new (w1.alloc (.cells (SA (zl (128 * n))) 46)) (.cells (DC w1.heap.size n 0 false false 0) 94)
    rw [show (w1.alloc (.cells (SA (zl (128 * n))) 46)).heap.size = w1.heap.size + 1 by simp] at this
    exact this
  · rw [Below.heap_alloc _ _ _ (by simp)]
    exact heap_alloc_new _ _

set_option maxHeartbeats 400000 in
theorem laid_any (m cap : Nat) (ad : Addr) (fl : List Int) (w : World) (h1 : m ≤ 5003) (hl : Hid (fl.length = 128 * m)) (HZ : Hid (BytesAt w (some ad) fl)) :
    Calls Tryz.prog 49 #[.slice (some ad) m cap] w fun e w' => ∃ g, e = .returned (.slice (some ⟨g, 0, none⟩) m m) ∧ w.heap.size ≤ g ∧ w'.heap[g]? = some (.cells (SA fl) 46 (0, 0)) ∧ Below w.heap.size w w' := by
  have hmk := make_secs (m : Int) (by omega) (by omega)
  rw [Int.toNat_natCast] at hmk
  have hb : Below w.heap.size w (w.alloc (.cells (SA (zl (128 * m))) 46)) := Below.refl_call w _
  have hcp := run_copy_secs (w.alloc (.cells (SA (zl (128 * m))) 46)) 3 w.heap.size m m ad cap (zl (128 * m)) fl (heap_alloc_new _ _) (zl_len _) hl.out (bytes_below HZ.out hb)
  have HW := hid (wrote_row fl (heap_alloc_new w (.cells (SA (zl (128 * m))) 46)))
  go_enter Tryz.func49, Tryz.ntmps49
  go_wp2
  go_ret
  exact ⟨_, rfl, Nat.le_refl _, HW.out.here, HW.out.below hb (Nat.le_refl _)⟩

set_option maxHeartbeats 400000 in
theorem writes_any {p g n : Nat} {d : St8} (w : World) (h : IsD w p g n d) : Calls Tryz.prog 27 #[.pointer (some ⟨p, 0, none⟩)] w fun e w' => e = .returned (.int .i64 d.wr) ∧ w' = w := by
  have h0 := h.c1
  go_enter Tryz.func27, Tryz.ntmps27
  go_wp2
  go_ret
  exact ⟨rfl, rfl⟩
set_option maxHeartbeats 400000 in
theorem down_any {p g n : Nat} {d : St8} (w : World) (h : IsD w p g n d) : Calls Tryz.prog 53 #[.pointer (some ⟨p, 0, none⟩)] w fun e w' => e = .returned (.bool d.dn) ∧ w' = w := by
  have h0 := h.c2
  go_enter Tryz.func53, Tryz.ntmps53
  go_wp2
  go_ret
  exact ⟨rfl, rfl⟩

def refE (d : St8) (n : Nat) (i : Int) : Int := if d.dn = true then 22 else if i < 0 ∨ (n : Int) ≤ i then 21 else 0
set_option maxHeartbeats 400000 in
theorem refusal_any {p g n : Nat} {d : St8} (i : Int) (w : World) (h : IsD w p g n d) : Calls Tryz.prog 64 #[.pointer (some ⟨p, 0, none⟩), .int .i64 i] w fun e w' => e = .returned (.int .i64 (refE d n i)) ∧ w' = w := by
  have h0 := h.c0
  have h2 := h.c2
  cases hd : d.dn
  · rw [hd] at h2
    by_cases hi : i < 0
    · have HE : Hid (refE d n i = 21) := by show _ = _; simp [refE, hd, hi]
      clear hd
      go_enter Tryz.func64, Tryz.ntmps64
      go_wp2
      go_ret
      exact ⟨ret_int HE.out.symm, rfl⟩
    · by_cases hn : (n : Int) ≤ i
      · have HE : Hid (refE d n i = 21) := by show _ = _; simp [refE, hd, hn]
        clear hd
        go_enter Tryz.func64, Tryz.ntmps64
        go_wp2
        go_ret
        exact ⟨ret_int HE.out.symm, rfl⟩
      · have HE : Hid (refE d n i = 0) := by show _ = _; simp [refE, hd, hn, hi]
        clear hd
        go_enter Tryz.func64, Tryz.ntmps64
        go_wp2
        go_ret
        exact ⟨ret_int HE.out.symm, rfl⟩
  · have HE : Hid (refE d n i = 22) := by show _ = _; simp [refE, hd]
    rw [hd] at h2
    clear hd
    go_enter Tryz.func64, Tryz.ntmps64
    go_wp2
    go_ret
    exact ⟨ret_int HE.out.symm, rfl⟩

/-- One cell of a disk is written. -/
theorem IsD.put {w : World} {p g n : Nat} {d d' : St8} (h : IsD w p g n d) (j : Nat) (v : Value) (hS : d'.S = d.S) (he : (DC g n d.wr d.dn d.ar d.lf).setIfInBounds j v = DC g n d'.wr d'.dn d'.ar d'.lf) : IsD (w.setCell ⟨p, j, none⟩ v) p g n d' := by
  refine ⟨?_, ?_, by rw [hS]; exact h.len, h.pos, h.top⟩
  · rw [heap_setCell_same w p j _ 94 v h.me, he]
  · rw [heap_setCell_other w ⟨p, j, none⟩ g v (fun e => h.ne e.symm), hS]
    exact h.row

def armE (d : St8) (k : Int) : Int := if k < 0 then 1 else if d.dn = true then 22 else 0
def armD (d : St8) (k : Int) : St8 := if k < 0 then d else if d.dn = true then d else ⟨d.S, d.wr, d.dn, true, k⟩
set_option maxHeartbeats 400000 in
theorem arm_any {p g n : Nat} {d : St8} (k : Int) (w : World) (h : IsD w p g n d) : Calls Tryz.prog 52 #[.pointer (some ⟨p, 0, none⟩), .int .i64 k] w fun e w' => e = .returned (.int .i64 (armE d k)) ∧ IsD w' p g n (armD d k) ∧ Mod w w' [p] := by
  have h2 := h.c2
  have h3 := h.c3
  have h4 := h.c4
  have f3 := h.fz 3
  have f4 := h.fz 4
  by_cases hk : k < 0
  · have HE : Hid (armE d k = 1) := by show _ = _; simp [armE, hk]
    have HD : Hid (armD d k = d) := by show _ = _; simp [armD, hk]
    go_enter Tryz.func52, Tryz.ntmps52
    go_wp2
    go_ret
    exact ⟨ret_int HE.out.symm, by rw [HD.out]; exact h, Mod.refl _ _⟩
  · cases hd : d.dn
    · have HE : Hid (armE d k = 0) := by show _ = _; simp [armE, hk, hd]
      have HD : Hid (armD d k = ⟨d.S, d.wr, d.dn, true, k⟩) := by show _ = _; simp [armD, hk, hd]
      rw [hd] at h2
      clear hd
      go_enter Tryz.func52, Tryz.ntmps52
      go_wp2
      go_ret
      have a1 : IsD (w.setCell ⟨p, 3, none⟩ (.bool true)) p g n ⟨d.S, d.wr, d.dn, true, d.lf⟩ := h.put 3 _ rfl rfl
      exact ⟨ret_int HE.out.symm, by rw [HD.out]; exact a1.put 4 _ rfl rfl, (Mod.set.trans Mod.set).mono (by simp)⟩
    · have HE : Hid (armE d k = 22) := by show _ = _; simp [armE, hk, hd]
      have HD : Hid (armD d k = d) := by show _ = _; simp [armD, hk, hd]
      rw [hd] at h2
      clear hd
      go_enter Tryz.func52, Tryz.ntmps52
      go_wp2
      go_ret
      exact ⟨ret_int HE.out.symm, by rw [HD.out]; exact h, Mod.refl _ _⟩

set_option maxHeartbeats 400000 in
theorem image_any {p g n : Nat} {d : St8} (w : World) (h : IsD w p g n d) : Calls Tryz.prog 26 #[.pointer (some ⟨p, 0, none⟩)] w fun e w' => ∃ q, e = .returned (.slice (some ⟨q, 0, none⟩) n n) ∧ w.heap.size ≤ q ∧ w'.heap[q]? = some (.cells (SA d.S) 46 (0, 0)) ∧ Below w.heap.size w w' := by
  have h0 := h.c0
  have HT := h.top
  have HL := laid_any n n ⟨g, 0, none⟩ d.S w (by omega) h.len (row_bytes h.row)
  clear HT
  go_enter Tryz.func26, Tryz.ntmps26
  go_wp2_with (go_at_call 49; refine HL.mono ?_; rintro e w1 ⟨q, rfl, h1, h2, h3⟩)
  go_ret
  exact ⟨q, rfl, h1, h2, h3⟩

end Go.Proofs.YtgkanfmkohlmcaaGreat.D
