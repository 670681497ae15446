/-
  The document's Room: what it answers.
-/
import Derived.Test.YtdddcllakjeplaaQ1
namespace Go.Proofs.Ytdddcllakjeplaa
open Go.RowKit

variable {w : World} {lo hi p : Nat} {s : SS}
/-- How many of the first k sectors stand so, from the first data sector on. -/
def cB (s : SS) (k : Nat) (f : Nat → Bool) : Nat := ((s.T.take k).drop (s.ni + 1)).countP f
theorem cB_start (s : SS) (f : Nat → Bool) : cB s (s.ni + 1) f = 0 := by
  unfold cB
  rw [List.drop_eq_nil_of_le (by rw [List.length_take]; omega)]
  rfl
theorem cB_succ (s : SS) (f : Nat → Bool) (k : Nat) (h1 : s.ni < k) (h2 : k < s.T.length) : cB s (k + 1) f = cB s k f + (if f (s.T.getD k 0) = true then 1 else 0) := by
  unfold cB
  rw [List.take_add_one, List.getElem?_eq_getElem h2, List.getD_eq_getElem?_getD, List.getElem?_eq_getElem h2]
  rw [List.drop_append_of_le_length (by rw [List.length_take]; omega), List.countP_append]
  congr 1
  simp [List.countP_cons]
theorem cB_le (s : SS) (f : Nat → Bool) (k : Nat) : cB s k f ≤ k := by
  unfold cB
  refine Nat.le_trans (List.countP_le_length) ?_
  rw [List.length_drop, List.length_take]
  omega
theorem not_one : ∀ l : List Nat, l.countP (fun x => !(x == 1)) + l.count 1 = l.length
  | [] => rfl
  | x :: l => by
    have ih := not_one l
    rw [List.countP_cons, List.count_cons, List.length_cons]
    by_cases e : x = 1
    · subst e; simp; omega
    · have e2 : (x == 1) = false := beq_false_of_ne e
      rw [e2]; simp; omega
theorem cB_all {s : SS} (h : s.Ok) : ((cB s s.ns (fun x => !(x == 1)) : Nat) : Int) = s.rb ∧ ((cB s s.ns (fun x => x == 2) : Nat) : Int) = s.rl := by
  have hd : s.T.take s.ns = s.T := List.take_of_length_le (by rw [h.lT]; exact Nat.le_refl _)
  have ht : ∀ a, a ≠ 0 → s.T.count a = (s.T.drop (s.ni + 1)).count a := by
    intro a ha
    have e : (s.T.take (s.ni + 1)).count a = 0 := by
      rw [List.count_eq_zero]
      intro hm
      obtain ⟨j, hj, e⟩ := List.mem_iff_getElem.1 hm
      rw [List.length_take] at hj
      rw [List.getElem_take] at e
      have := h.t0 j (by omega)
      rw [List.getD_eq_getElem?_getD, List.getElem?_eq_getElem (by omega), Option.getD_some, e] at this
      exact ha this
    have := congrArg (List.count a) (List.take_append_drop (s.ni + 1) s.T)
    rw [List.count_append, e] at this
    omega
  have hl : (s.T.drop (s.ni + 1)).length = s.ns - (s.ni + 1) := by rw [List.length_drop, h.lT]
  have hs := not_one (s.T.drop (s.ni + 1))
  have h3 := h.i3
  unfold cB
  rw [hd]
  constructor
  · unfold SS.rb
    rw [ht 1 (by decide)]
    omega
  · unfold SS.rl
    rw [ht 2 (by decide)]
    rfl
def cI (s : SS) (k : Nat) : Nat := k - 1 - cntL s.I k
theorem cI_succ {s : SS} (h : s.Ok) (k : Nat) (h1 : 1 ≤ k) (h2 : k ≤ s.ni) : cI s (k + 1) = cI s k + (if hasL s.I k = true then 0 else 1) ∧ cntL s.I k ≤ k - 1 := by
  have e := cntL_succ s.I k (by rw [h.lI]; omega)
  have hb : ∀ k : Nat, 1 ≤ k → k ≤ s.ni + 1 → cntL s.I k ≤ k - 1 := by
    intro k
    induction k with
    | zero => omega
    | succ k ih =>
      intro _ hk
      have e := cntL_succ s.I k (by rw [h.lI]; omega)
      rcases Nat.eq_zero_or_pos k with c | c
      · subst c
        rw [e, show ((0 : Nat) : Int) = 0 from rfl, h.I0]
        have := cntL_le s.I 0
        simp
        omega
      · have := ih c (by omega)
        rw [e]
        split <;> omega
  have hk := hb k h1 (by omega)
  refine ⟨?_, hk⟩
  unfold cI
  rw [e]
  cases hasL s.I k <;> simp <;> omega
theorem cI_all {s : SS} (h : s.Ok) : ((cI s (s.ni + 1) : Nat) : Int) = s.ri := by
  have hc : s.I.count true = cntL s.I (s.ni + 1) := by rw [count_cnt, h.lI]
  have h1 := h.i1
  have e := cntL_succ s.I s.ni (by rw [h.lI]; omega)
  have hb := (cI_succ h s.ni h1 (Nat.le_refl _)).2
  unfold cI SS.ri
  rw [hc]
  have : cntL s.I (s.ni + 1) ≤ s.ni := by rw [e]; split <;> omega
  omega
theorem cI_le (s : SS) (k : Nat) : cI s k ≤ k := by unfold cI; omega

/-- A room that is counted: a row of three numbers of the call's own. -/
def Rm (w : World) (g : Nat) (x y z : Int) : Prop := w.heap[g]? = some (.cells #[.int .i64 x, .int .i64 y, .int .i64 z] 40 (0, 0))
theorem Rm.set {w : World} {g : Nat} {x y z : Int} (h : Rm w g x y z) (j : Nat) (v : Int) (x' y' z' : Int) (e : (#[.int .i64 x, .int .i64 y, .int .i64 z] : Array Value).setIfInBounds j (.int .i64 v) = #[.int .i64 x', .int .i64 y', .int .i64 z']) : Rm (w.setCell ⟨g, j, none⟩ (.int .i64 v)) g x' y' z' := by
  unfold Rm
  rw [heap_setCell_same w g j _ 40 _ h, e]

theorem Rm.c0 {w : World} {g : Nat} {x y z : Int} (h : Rm w g x y z) : w.cell? ⟨g, 0, none⟩ = some (.int .i64 x) := (cell_of_row _ _ _ _ _ _ h).trans rfl
theorem Rm.c1 {w : World} {g : Nat} {x y z : Int} (h : Rm w g x y z) : w.cell? ⟨g, 1, none⟩ = some (.int .i64 y) := (cell_of_row _ _ _ _ _ _ h).trans rfl
theorem Rm.c2 {w : World} {g : Nat} {x y z : Int} (h : Rm w g x y z) : w.cell? ⟨g, 2, none⟩ = some (.int .i64 z) := (cell_of_row _ _ _ _ _ _ h).trans rfl
/-- What is known while a room is counted. -/
def CR (w wr : World) (lo hi p gT gI : Nat) (s : SS) (x y z : Int) : Prop := IsQ0 wr lo hi p gT gI s ∧ Rm wr (w.heap.size + 1) x y z ∧ wr.heap[w.heap.size]? = some (.cells #[.int .i64 0, .int .i64 0, .int .i64 0] 40 (0, 0)) ∧ Below w.heap.size w wr
theorem CR.set {w wr : World} {lo hi p gT gI : Nat} {s : SS} {x y z : Int} (h : CR w wr lo hi p gT gI s x y z) (ht : hi ≤ w.heap.size) (j : Nat) (v x' y' z' : Int) (e : (#[.int .i64 x, .int .i64 y, .int .i64 z] : Array Value).setIfInBounds j (.int .i64 v) = #[.int .i64 x', .int .i64 y', .int .i64 z']) : CR w (wr.setCell ⟨w.heap.size + 1, j, none⟩ (.int .i64 v)) lo hi p gT gI s x' y' z' := by
  have hc : Chg wr (wr.setCell ⟨w.heap.size + 1, j, none⟩ (.int .i64 v)) (· = w.heap.size + 1) := Chg.setCell
  refine ⟨h.1.keep hc (fun k hk e => ?_), h.2.1.set j v x' y' z' e, hc.keep h.2.2.1 (fun e => by omega), hc.to h.2.2.2 h.2.2.2.size (fun k e => by omega)⟩
  have := hk.2
  omega

theorem build_room0 (w : World) : (Instr.build 40 #[]).run Try.prog w = .ok (.agg #[.int .i64 0, .int .i64 0, .int .i64 0]) w := by kernel_rfl
set_option maxRecDepth 100000 in
set_option maxHeartbeats 2000000 in
theorem rroom_any (w : World) (h : IsQ w lo hi p s) : Calls Try.prog 14 #[.pointer (some ⟨p, 0, none⟩)] w fun e w' => e = .returned (.agg (roomV s)) ∧ Below w.heap.size w w' := by
  obtain ⟨gT, gI, h⟩ := h
  have HT : Hid (hi ≤ w.heap.size) := h.top
  have hb1 := below_box w (.cells #[.int .i64 0, .int .i64 0, .int .i64 0] 40)
  have hb2 := below_box (w.alloc (.cells #[.int .i64 0, .int .i64 0, .int .i64 0] 40)) (.cells #[.int .i64 0, .int .i64 0, .int .i64 0] 40)
  have C0 : Hid (CR w ((w.alloc (.cells #[.int .i64 0, .int .i64 0, .int .i64 0] 40)).alloc (.cells #[.int .i64 0, .int .i64 0, .int .i64 0] 40)) lo hi p gT gI s 0 0 0) := by
    refine ⟨(h.keep (Chg.of_below hb1 No) (fun _ _ e => e)).keep (Chg.of_below hb2 No) (fun _ _ e => e), ?_, (Chg.of_below hb2 No).keep (heap_alloc_new w _) (fun e => e), hb1.trans (hb2.mono hb1.size)⟩
    have := heap_alloc_new (w.alloc (.cells #[.int .i64 0, .int .i64 0, .int .i64 0] 40)) (.cells #[.int .i64 0, .int .i64 0, .int .i64 0] 40)
    rw [World.size_alloc] at this
    exact this
  have hOk := hid h.ok
  have hn2 := h.ok.n2
  have hn3 := h.ok.i3
  have hbr := build_room0
  clear hb1 hb2 h
  go_enter Try.func14, Try.ntmps14
  go_upto_region 2 with (fail)
  generalize (w.alloc (.cells #[.int .i64 0, .int .i64 0, .int .i64 0] 40)).alloc (.cells #[.int .i64 0, .int .i64 0, .int .i64 0] 40) = w0 at *
  have k1 := C0.out.1.c1
  go_wp2
  clear k1 hbr
  go_loopw [4] (fun i wr => ∃ k : Nat, s.ni < k ∧ k ≤ s.ns ∧ i = .int .i64 k ∧ Hid (CR w wr lo hi p gT gI s (cB s k (fun x => !(x == 1)) : Nat) (cB s k (fun x => x == 2) : Nat) 0)) (fun i _ => s.ns - (intOf i).toNat)
  case atStart => exact ⟨s.ni + 1, by omega, by omega, by go_num, by rw [cB_start, cB_start]; exact C0⟩
  case round =>
    clear C0
    obtain ⟨k, hk1, hk2, rfl, HC⟩ := hrel
    have k0 := HC.out.1.c0
    by_cases hlt : k < s.ns
    · have hkn : (k : Int) < (s.ns : Int) := by omega
      have k2 := HC.out.1.c2
      have kT := HC.out.1.atT k hlt
      have e1 := cB_succ s (fun x => !(x == 1)) k hk1 (by rw [hOk.out.lT]; exact hlt)
      have e2 := cB_succ s (fun x => x == 2) k hk1 (by rw [hOk.out.lT]; exact hlt)
      have l1 := cB_le s (fun x => !(x == 1)) k
      have l2 := cB_le s (fun x => x == 2) k
      have hv : s.T.getD k 0 ≤ 2 := by rw [← atT_nat]; exact atT_le hOk.out.t2 _
      generalize cB s k (fun x => !(x == 1)) = c1 at *
      generalize cB s k (fun x => x == 2) = c2 at *
      generalize hV : s.T.getD k 0 = v at *
      replace hV := hid hV
      rcases (show v = 0 ∨ v = 1 ∨ v = 2 by omega) with rfl | rfl | rfl
      · simp at e1 e2
        have kT0 : wr.cell? ⟨gT, k, none⟩ = some (.int .i64 0) := kT
        have r0 := HC.out.2.1.c0
        have hf := frozen_of_row wr (w.heap.size + 1) 0 _ _ HC.out.2.1
        clear kT
        go_upto_region 7 with (fail)
        have HC1 := hid (HC.out.set HT.out 0 ((c1 : Int) + 1) ((c1 : Int) + 1) (c2 : Nat) 0 rfl)
        clear k0 k2 kT0 r0 hf HC
        generalize wr.setCell ⟨w.heap.size + 1, 0, none⟩ (.int .i64 ((c1 : Int) + 1)) = w1 at *
        have k2 := HC1.out.1.c2
        have kT : w1.cell? ⟨gT, k, none⟩ = some (.int .i64 0) := (HC1.out.1.atT k hlt).trans (by rw [hV.out]; rfl)
        go_wp2
        exact ⟨⟨k + 1, by omega, by omega, by go_num, by rw [e1, e2, show ((c1 + 1 : Nat) : Int) = (c1 : Int) + 1 by omega]; exact HC1⟩, by simp [intOf]; omega⟩
      · simp at e1 e2
        have kT1 : wr.cell? ⟨gT, k, none⟩ = some (.int .i64 1) := kT
        clear kT
        go_wp2
        exact ⟨⟨k + 1, by omega, by omega, by go_num, by rw [e1, e2]; exact HC⟩, by simp [intOf]; omega⟩
      · simp at e1 e2
        have kT2 : wr.cell? ⟨gT, k, none⟩ = some (.int .i64 2) := kT
        have r0 := HC.out.2.1.c0
        have hf := frozen_of_row wr (w.heap.size + 1) 0 _ _ HC.out.2.1
        clear kT
        go_upto_region 7 with (fail)
        have HC1 := hid (HC.out.set HT.out 0 ((c1 : Int) + 1) ((c1 : Int) + 1) (c2 : Nat) 0 rfl)
        clear k0 k2 kT2 r0 hf HC
        generalize wr.setCell ⟨w.heap.size + 1, 0, none⟩ (.int .i64 ((c1 : Int) + 1)) = w1 at *
        have k2 := HC1.out.1.c2
        have kT : w1.cell? ⟨gT, k, none⟩ = some (.int .i64 2) := (HC1.out.1.atT k hlt).trans (by rw [hV.out]; rfl)
        have r1 := HC1.out.2.1.c1
        have hf := frozen_of_row w1 (w.heap.size + 1) 1 _ _ HC1.out.2.1
        go_wp2
        have HC2 := hid (HC1.out.set HT.out 1 ((c2 : Int) + 1) ((c1 : Int) + 1) ((c2 : Int) + 1) 0 rfl)
        exact ⟨⟨k + 1, by omega, by omega, by go_num, by rw [e1, e2, show ((c1 + 1 : Nat) : Int) = (c1 : Int) + 1 by omega, show ((c2 + 1 : Nat) : Int) = (c2 : Int) + 1 by omega]; exact HC2⟩, by simp [intOf]; omega⟩
    · obtain rfl : k = s.ns := by omega
      have hA := cB_all hOk.out
      have HC0 := HC
      rw [hA.1, hA.2] at HC0
      have hi1 := hOk.out.i1
      have hi2 := hOk.out.i2
      clear hlt hk1 hk2 hA HC
      generalize hrb : s.rb = RB at *
      generalize hrl : s.rl = RL at *
      replace hrb := hid hrb
      replace hrl := hid hrl
      go_wp2
      clear k0
      go_loopw [5] (fun i wr => ∃ k : Nat, 1 ≤ k ∧ k ≤ s.ni + 1 ∧ i = .int .i64 k ∧ Hid (CR w wr lo hi p gT gI s RB RL (cI s k : Nat))) (fun i _ => s.ni + 1 - (intOf i).toNat)
      case atStart => exact ⟨1, by omega, by omega, rfl, by rw [show cI s 1 = 0 by unfold cI; omega]; exact HC0⟩
      case round =>
        clear HC0
        obtain ⟨k, hk1, hk2, rfl, HC⟩ := hrel
        have k1 := HC.out.1.c1
        by_cases hlt : k ≤ s.ni
        · have hkn : (k : Int) ≤ (s.ni : Int) := by omega
          have hkn2 : (k : Int) < (s.ni : Int) + 1 := by omega
          have k3 := HC.out.1.c3
          have kI := HC.out.1.atI k hlt
          have e1 := (cI_succ hOk.out k hk1 hlt).1
          have l1 := cI_le s k
          generalize cI s k = c1 at *
          cases hv : hasL s.I (k : Int)
          · rw [hv] at e1 kI
            simp at e1
            have kI0 : wr.cell? ⟨gI, k, none⟩ = some (.int .i64 0) := kI
            have r2 := HC.out.2.1.c2
            have hf := frozen_of_row wr (w.heap.size + 1) 2 _ _ HC.out.2.1
            clear kI hv
            go_wp2
            have HC2 := hid (HC.out.set HT.out 2 ((c1 : Int) + 1) RB RL ((c1 : Int) + 1) rfl)
            exact ⟨⟨k + 1, by omega, by omega, by go_num, by rw [e1, show ((c1 + 1 : Nat) : Int) = (c1 : Int) + 1 by omega]; exact HC2⟩, by simp [intOf]; omega⟩
          · rw [hv] at e1 kI
            simp at e1
            have kI0 : wr.cell? ⟨gI, k, none⟩ = some (.int .i64 1) := kI
            clear kI hv
            go_wp2
            exact ⟨⟨k + 1, by omega, by omega, by go_num, by rw [e1]; exact HC⟩, by simp [intOf]; omega⟩
        · obtain rfl : k = s.ni + 1 := by omega
          have HC0 := HC
          rw [cI_all hOk.out] at HC0
          have HRV : Hid (roomV s = #[.int .i64 RB, .int .i64 RL, .int .i64 s.ri]) := by show _ = _; unfold roomV; rw [hrb.out, hrl.out]
          have r0 := HC0.out.2.1.c0
          have r1 := HC0.out.2.1.c1
          have r2 := HC0.out.2.1.c2
          have hnl : ¬ (s.ni : Int) + 1 ≤ (s.ni : Int) := by omega
          clear hlt hk1 hk2 HC
          generalize s.ri = RI at *
          go_wp2_with (refine store_R rfl 40 (.tmp 2) _ rfl w.heap.size #[.int .i64 RB, .int .i64 RL, .int .i64 RI] rfl rfl 40 _ HC0.out.2.2.1 (by rw [szRm]; rfl) rfl (by simp [Value.oneCell']) ?_; intro w4 h4; have H4 := hid h4; clear h4)
          rw [HRV.out]
          exact bodyPost_ret (v := .agg #[.int .i64 RB, .int .i64 RL, .int .i64 RI]) (results_R1 Try.results14 _ _ w.heap.size _ 40 _ Try.underlying40 rfl (by rw [szRm]; rfl) rfl H4.out.here) rfl ⟨rfl, H4.out.below HC0.out.2.2.2 (Nat.le_refl _)⟩

end Go.Proofs.Ytdddcllakjeplaa
