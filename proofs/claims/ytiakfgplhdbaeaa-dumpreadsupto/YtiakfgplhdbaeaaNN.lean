/-
  package dump: a node; whether its numbers and its lengths may be.
-/
import Derived.Test.YtiakfgplhdbaeaaAN
namespace Go.Proofs.Ytiakfgplhdbaeaa
open Go.RowKit

structure Nod where
  path : ByteArray
  kind : Int
  made : Int
  same : ByteArray
  da : Option Addr
  data : List Int
  dc : Nat
def nodA (n : Nod) : Array Value := #[.string n.path, .int .i64 n.kind, .int .i64 n.made, .string n.same, .slice n.da n.data.length n.dc]
def inB (n : Nod) : Bool := decide ((n.kind = 1 ∨ n.kind = 2) ∧ 0 ≤ n.made ∧ n.made ≤ 1099511627776 ∧ n.data.length ≤ 136704)
def fitsB (n : Nod) : Bool := inB n && decide (n.path.size ≤ 400) && decide (n.same.size ≤ 400)
theorem szNd : (Try.prog.info? 47).map (·.size) = some 5 := by kernel_rfl
theorem nodA_one (n : Nod) : (nodA n).all (·.oneCell') = true := by simp [nodA, Value.oneCell']

set_option maxHeartbeats 2000000 in
set_option maxRecDepth 100000 in
theorem inBounds_any (n : Nod) (w : World) :
    Calls Try.prog 28 #[.agg (nodA n)] w fun e w' => e = .returned (.bool (inB n)) ∧ Chg w w' No := by
  obtain ⟨b, hb⟩ : ∃ y, y = inB n := ⟨_, rfl⟩
  rw [← hb]
  have HC := hid (Chg.alloc w (.cells (nodA n) 47) No)
  have HB : Hid (b = decide ((n.kind = 1 ∨ n.kind = 2) ∧ 0 ≤ n.made ∧ n.made ≤ 1099511627776 ∧ n.data.length ≤ 136704)) := hid hb
  clear hb
  obtain ⟨p, k, m, s, da, data, dc⟩ := n
  obtain ⟨L, hL⟩ : ∃ y, y = data.length := ⟨_, rfl⟩
  unfold nodA at HC ⊢
  simp only [← hL] at HB HC ⊢
  clear hL
  by_cases k1 : k = 1
  · subst k1
    by_cases m0 : 0 ≤ m
    · by_cases m1 : m ≤ 1099511627776
      · by_cases d1 : (L : Int) ≤ 136704
        · obtain rfl : b = true := by rw [HB.out]; simp; omega
          go_enter Try.func28, Try.ntmps28
          go_wp2_with fail
          go_ret
          exact ⟨rfl, HC.out⟩
        · obtain rfl : b = false := by rw [HB.out]; simp; omega
          go_enter Try.func28, Try.ntmps28
          go_wp2_with fail
          go_ret
          exact ⟨rfl, HC.out⟩
      · obtain rfl : b = false := by rw [HB.out]; simp; omega
        go_enter Try.func28, Try.ntmps28
        go_wp2_with fail
        go_ret
        exact ⟨rfl, HC.out⟩
    · obtain rfl : b = false := by rw [HB.out]; simp; omega
      go_enter Try.func28, Try.ntmps28
      go_wp2_with fail
      go_ret
      exact ⟨rfl, HC.out⟩
  · by_cases k2 : k = 2
    · subst k2
      by_cases m0 : 0 ≤ m
      · by_cases m1 : m ≤ 1099511627776
        · by_cases d1 : (L : Int) ≤ 136704
          · obtain rfl : b = true := by rw [HB.out]; simp; omega
            go_enter Try.func28, Try.ntmps28
            go_wp2_with fail
            go_ret
            exact ⟨rfl, HC.out⟩
          · obtain rfl : b = false := by rw [HB.out]; simp; omega
            go_enter Try.func28, Try.ntmps28
            go_wp2_with fail
            go_ret
            exact ⟨rfl, HC.out⟩
        · obtain rfl : b = false := by rw [HB.out]; simp; omega
          go_enter Try.func28, Try.ntmps28
          go_wp2_with fail
          go_ret
          exact ⟨rfl, HC.out⟩
      · obtain rfl : b = false := by rw [HB.out]; simp; omega
        go_enter Try.func28, Try.ntmps28
        go_wp2_with fail
        go_ret
        exact ⟨rfl, HC.out⟩
    · obtain rfl : b = false := by rw [HB.out]; simp; omega
      have k1b : (k == 1) = false := beq_eq_false_iff_ne.2 k1
      have k2b : (k == 2) = false := beq_eq_false_iff_ne.2 k2
      go_enter Try.func28, Try.ntmps28
      go_wp2_with fail
      go_ret
      exact ⟨rfl, HC.out⟩

set_option maxHeartbeats 2000000 in
set_option maxRecDepth 100000 in
theorem fits_any (n : Nod) (w : World) :
    Calls Try.prog 21 #[.agg (nodA n)] w fun e w' => e = .returned (.bool (fitsB n)) ∧ Chg w w' No := by
  obtain ⟨w1, hw1⟩ : ∃ y, y = w.alloc (.cells (nodA n) 47) := ⟨_, rfl⟩
  have hIn := inBounds_any n w1
  have hc1 : Chg w w1 No := by rw [hw1]; exact Chg.alloc w _ No
  have hg : w1.heap[w.heap.size]? = some (.cells (nodA n) 47 (0, 0)) := by rw [hw1]; exact heap_alloc_new w _
  have HG := hid hg
  obtain ⟨b, hb⟩ : ∃ y, y = fitsB n := ⟨_, rfl⟩
  obtain ⟨i, hi⟩ : ∃ y, y = inB n := ⟨_, rfl⟩
  rw [← hb]
  rw [← hi] at hIn
  have HB : Hid (b = (i && decide (n.path.size ≤ 400) && decide (n.same.size ≤ 400))) := hid (by rw [hb, hi]; rfl)
  have HC := hid hc1
  have sz : (Try.prog.info? 47).map (·.size) = some (nodA n).size := szNd
  obtain ⟨P, hP⟩ : ∃ y, y = n.path.size := ⟨_, rfl⟩
  obtain ⟨S, hS⟩ : ∃ y, y = n.same.size := ⟨_, rfl⟩
  have HQ : Hid (∀ W, Chg w1 W No → W.cell? ⟨w.heap.size, 0, none⟩ = some (.string n.path) ∧ W.cell? ⟨w.heap.size, 3, none⟩ = some (.string n.same)) := hid (fun W hW => ⟨(cell_of_row _ _ _ _ _ _ (hW.keep hg (fun e => e))).trans rfl, (cell_of_row _ _ _ _ _ _ (hW.keep hg (fun e => e))).trans rfl⟩)
  obtain ⟨A, hA⟩ : ∃ y, y = nodA n := ⟨_, rfl⟩
  rw [← hA] at hIn hw1 HG sz ⊢
  rw [← hP, ← hS] at HB
  obtain ⟨pa, hpa⟩ : ∃ y, y = n.path := ⟨_, rfl⟩
  obtain ⟨sa, hsa⟩ : ∃ y, y = n.same := ⟨_, rfl⟩
  rw [← hpa] at hP HQ
  rw [← hsa] at hS HQ
  clear hb hi hA hc1 hg hpa hsa
  cases i
  · obtain rfl : b = false := by rw [HB.out]; simp
    go_enter Try.func21, Try.ntmps21
    go_upto_region 1 with fail
    rw [← hw1]
    clear hw1
    go_wp2_with (first
      | (refine load_R rfl 47 _ rfl w.heap.size rfl 47 A _ HG.out Try.underlying47 rfl sz ?_)
      | (go_at_call 28; go_must (refine hIn.mono ?_; rintro e w2 ⟨rfl, hc2⟩; have HC2 := hid hc2; obtain ⟨q1, q2⟩ := HQ.out w2 hc2; clear hc2))
      | fail)
    go_ret
    exact ⟨rfl, HC.out.tr HC2.out⟩
  · by_cases p1 : (pa.size : Int) ≤ 400
    · by_cases s1 : (sa.size : Int) ≤ 400
      · obtain rfl : b = true := by rw [HB.out]; simp; omega
        go_enter Try.func21, Try.ntmps21
        go_upto_region 1 with fail
        rw [← hw1]
        clear hw1
        go_wp2_with (first
          | (refine load_R rfl 47 _ rfl w.heap.size rfl 47 A _ HG.out Try.underlying47 rfl sz ?_)
          | (go_at_call 28; go_must (refine hIn.mono ?_; rintro e w2 ⟨rfl, hc2⟩; have HC2 := hid hc2; obtain ⟨q1, q2⟩ := HQ.out w2 hc2; clear hc2))
          | fail)
        go_ret
        exact ⟨rfl, HC.out.tr HC2.out⟩
      · obtain rfl : b = false := by rw [HB.out]; simp; omega
        go_enter Try.func21, Try.ntmps21
        go_upto_region 1 with fail
        rw [← hw1]
        clear hw1
        go_wp2_with (first
          | (refine load_R rfl 47 _ rfl w.heap.size rfl 47 A _ HG.out Try.underlying47 rfl sz ?_)
          | (go_at_call 28; go_must (refine hIn.mono ?_; rintro e w2 ⟨rfl, hc2⟩; have HC2 := hid hc2; obtain ⟨q1, q2⟩ := HQ.out w2 hc2; clear hc2))
          | fail)
        go_ret
        exact ⟨by show Ending.returned (.bool (decide ((sa.size : Int) ≤ 400))) = _; rw [decide_eq_false (by omega)], HC.out.tr HC2.out⟩
    · obtain rfl : b = false := by rw [HB.out]; simp; omega
      go_enter Try.func21, Try.ntmps21
      go_upto_region 1 with fail
      rw [← hw1]
      clear hw1
      go_wp2_with (first
        | (refine load_R rfl 47 _ rfl w.heap.size rfl 47 A _ HG.out Try.underlying47 rfl sz ?_)
        | (go_at_call 28; go_must (refine hIn.mono ?_; rintro e w2 ⟨rfl, hc2⟩; have HC2 := hid hc2; obtain ⟨q1, q2⟩ := HQ.out w2 hc2; clear hc2))
        | fail)
      go_ret
      exact ⟨rfl, HC.out.tr HC2.out⟩
end Go.Proofs.Ytiakfgplhdbaeaa
