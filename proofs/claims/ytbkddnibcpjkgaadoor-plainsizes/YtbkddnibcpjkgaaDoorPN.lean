/-
  package plain: New; the document's New.
-/
import Derived.Test.YtbkddnibcpjkgaaDoorPM
namespace Go.Proofs.YtbkddnibcpjkgaaDoor
open Go.RowKit

section
variable {ops : Array Oper} {rest : List Oper} {o : Oper} {a : Act} {Q : Exit → Act → World → Prop} {w : World}
theorem wp_insVN (hg : o.guard = none) (m x v : Operand) (hop : o.op = Op.insert 47 m x v) (b : Nat) (f : Int → Option Value) (k : Int) (d : Value) (hm : a.eval m = .map (some b)) (hx : a.eval x = .int .i64 k) (hv : a.eval v = d)
    (h : MapV w b f) (hk : I64 k) (hf : ∃ L : List Int, L.length ≤ 5000 ∧ ∀ x, (f x).isSome = true → x ∈ L)
    (hK : ∀ w', MapV w' b (fun y => if y = k then some d else f y) → Chg w w' (· = b) → w'.heap.size = w.heap.size → wpList Tryd.prog ops Q rest (a.put o.dst undef) w') : wpList Tryd.prog ops Q (o :: rest) a w := by
  refine wpList_plain hg fun K' hK' => ?_
  obtain ⟨w', hrun, r1, r2, r3⟩ := h.storeN hk d hf
  unfold Oper.wp
  simp [execOp, hop, hm, hx, hv, hrun, Result.andThen]
  exact hK' _ _ (hK w' r1 r2 r3)
end
/-- May these sizes be? -/
def SizeOk (n m : Int) : Prop := 8 ≤ n ∧ n ≤ 4096 ∧ 1 ≤ m ∧ m ≤ 512 ∧ m + 2 ≤ n
/-- An empty one. -/
def newS (n m : Int) : PSt := ⟨n - 1 - m, m, fun i => if i = 1 then some (newNd 2 0) else none⟩

set_option maxHeartbeats 2000000 in
set_option maxRecDepth 100000 in
theorem new_bad (n m : Int) (w : World) (h : ¬ SizeOk n m) :
    Calls Tryd.prog 6 #[.int .i64 n, .int .i64 m] w fun e w' => e = .returned (.tuple #[.pointer none, .int .i64 160]) ∧ w' = w := by
  unfold SizeOk at h
  by_cases a1 : n < 8
  · clear h
    go_enter Tryd.func6, Tryd.ntmps6
    go_wp2_with fail
    go_ret2
    exact ⟨rfl, rfl⟩
  by_cases a2 : 4096 < n
  · clear h
    go_enter Tryd.func6, Tryd.ntmps6
    go_wp2_with fail
    go_ret2
    exact ⟨rfl, rfl⟩
  by_cases a3 : m < 1
  · clear h
    go_enter Tryd.func6, Tryd.ntmps6
    go_wp2_with fail
    go_ret2
    exact ⟨rfl, rfl⟩
  by_cases a4 : 512 < m
  · clear h
    go_enter Tryd.func6, Tryd.ntmps6
    go_wp2_with fail
    go_ret2
    exact ⟨rfl, rfl⟩
  have a5 : n < m + 2 := by omega
  have a6 : 1 ≤ m := by omega
  have a7 : m ≤ 512 := by omega
  clear h
  go_enter Tryd.func6, Tryd.ntmps6
  go_wp2_with fail
  go_ret2
  exact ⟨rfl, rfl⟩

set_option maxHeartbeats 2000000 in
set_option maxRecDepth 100000 in
theorem new_good (n m : Int) (w : World) (h : SizeOk n m) :
    Calls Tryd.prog 6 #[.int .i64 n, .int .i64 m] w fun e w' => ∃ q : PC, e = .returned (.tuple #[.pointer (some ⟨q.p, 0, none⟩), .int .i64 0]) ∧ IsPl w' q (newS n m) ∧ Chg w w' No ∧ w.heap.size ≤ q.p ∧ w.heap.size ≤ q.mb ∧ ∀ i c, q.nc i = some c → ∀ k, BlkN c k → w.heap.size ≤ k := by
  obtain ⟨h1, h2, h3, h4, h5⟩ := h
  have a1 : ¬ n < 8 := by omega
  have a2 : ¬ 4096 < n := by omega
  have a3 : ¬ m < 1 := by omega
  have a4 : ¬ 512 < m := by omega
  have a5 : ¬ n < m + 2 := by omega
  have hmm := @run_makeMap Tryd.prog
  have hNw := newNode_any 2 0 w
  go_enter Tryd.func6, Tryd.ntmps6
  go_wp2_with (first
    | (go_at_call 10; go_must (refine hNw.mono ?_; rintro e w1 ⟨c, rfl, hN1, hc1, p1, p2, p3, hv1, hB1⟩; have HN1 := hid hN1; have HC1 := hid hc1; have HPs := hid hB1; have HBl : Hid (∀ k, BlkN c k → w.heap.size ≤ k) := hid (fun k hk => by rcases hk with e | e | e | e; exact e ▸ p1; exact e ▸ p2; exact e ▸ p3; rw [hv1] at e; cases e); clear hN1 hc1 p1 p2 p3 hv1 hB1))
    | (refine wp_insVN rfl _ _ _ rfl w1.heap.size (fun _ => none) 1 _ rfl rfl rfl (MapV.made w1) ⟨by decide, by decide⟩ ⟨[], by simp, by intro x hx; cases hx⟩ ?_; intro w3 hm3 hc3 hz3; have HM3 := hid hm3; have HC3 := hid hc3; have HZ3 := hid hz3; clear hm3 hc3 hz3)
    | fail)
  have hEnd : ∀ W, W = w3.alloc (.cells #[.int .i64 (n - 1 - m), .int .i64 m, .map (some w1.heap.size)] 49) → IsPl W ⟨w3.heap.size, w1.heap.size, fun i => if i = 1 then some c else none⟩ (newS n m) ∧ Chg w W No := fun W hW => by
    have k2 : Chg w1 (w1.alloc (.map #[] 0)) No := Chg.alloc _ _ No
    have k4 : Chg w3 W No := by rw [hW]; exact Chg.alloc _ _ No
    have hsz : w3.heap.size = w1.heap.size + 1 := by rw [HZ3.out]; simp
    have k3 : Chg w1 w3 No := k2.trans HC3.out (fun _ _ e => e) (fun j hj e => by omega)
    have hN : IsN W c (newNd 2 0) := (HN1.out.call k3).call k4
    have hb : c.bb ≠ w1.heap.size := by have := HN1.out.bl.lt; omega
    have hb2 : c.nb ≠ w1.heap.size := by have := HN1.out.nm.lt; omega
    refine ⟨⟨?_, ?_, ?_, ?_, ?_, ?_, ?_, ?_⟩, (HC1.out.tr k3).tr k4⟩
    · rw [hW]
      exact heap_alloc_new _ _
    · refine (HM3.out.keep k4 (fun e => e)).cong fun x => ?_
      by_cases e : x = 1
      · simp only [e, if_pos]; rfl
      · simp only [if_neg e]; rfl
    · intro i d hd
      by_cases e : i = 1
      · have hd : (if i = 1 then some c else none) = some d := hd
        rw [if_pos e] at hd
        cases hd
        refine ⟨newNd 2 0, ?_, hN⟩
        show (if i = 1 then some (newNd 2 0) else none) = _
        rw [if_pos e]
      · have hd : (if i = 1 then some c else none) = some d := hd
        rw [if_neg e] at hd
        cases hd
    · intro i hi
      by_cases e : i = 1
      · have hi : (if i = 1 then some c else none) = none := hi
        rw [if_pos e] at hi
        cases hi
      · show (if i = 1 then some (newNd 2 0) else none) = none
        rw [if_neg e]
    · intro i hi
      by_cases e : i = 1
      · omega
      · exact absurd (show (if i = 1 then some c else none) = none by rw [if_neg e]) hi
    · intro i j d1 d2 e1 e2 hij
      have e1 : (if i = 1 then some c else none) = some d1 := e1
      have e2 : (if j = 1 then some c else none) = some d2 := e2
      by_cases e : i = 1
      · rw [if_neg (by omega)] at e2
        cases e2
      · rw [if_neg e] at e1
        cases e1
    · intro i d hd
      have hd : (if i = 1 then some c else none) = some d := hd
      by_cases e : i = 1
      · rw [if_pos e] at hd
        cases hd
        exact ⟨hb, hb2⟩
      · rw [if_neg e] at hd
        cases hd
    · intro i d hd
      have hd : (if i = 1 then some c else none) = some d := hd
      by_cases e : i = 1
      · rw [if_pos e] at hd
        cases hd
        exact HPs.out
      · rw [if_neg e] at hd
        cases hd
  have HEnd := hid hEnd
  clear hEnd
  go_ret2
  obtain ⟨q1, q2⟩ := HEnd.out _ rfl
  refine ⟨_, rfl, q1, q2, by have := HC1.out.size; have := HZ3.out; simp at this ⊢; omega, HC1.out.size, ?_⟩
  intro i d hd
  have hd : (if i = 1 then some c else none) = some d := hd
  by_cases e : i = 1
  · rw [if_pos e] at hd
    cases hd
    exact HBl.out
  · rw [if_neg e] at hd
    cases hd
end Go.Proofs.YtbkddnibcpjkgaaDoor
