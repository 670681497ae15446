/-
  GraphWays, walked: Reaches, Before and Free say what follows from the edges.
-/
import Derived.Test.YtjnafcogdakbbaaWAdds
namespace Go.Proofs.Ytjnafcogdakbbaa
open Go.RowKit

theorem elist_lt {E : Int → Int → Prop} {l : List (Int × Int)} (h : EList E l) {j : Nat} (hj : j + 1 < l.length) : ltE (edK l j) (edK l (j + 1)) := by
  have e1 : edK l j = l[j]'(by omega) := by simp [edK, show j < l.length by omega]
  have e2 : edK l (j + 1) = l[j + 1] := by simp [edK, hj]
  rw [e1, e2]
  exact List.pairwise_iff_getElem.1 h.1 j (j + 1) (by omega) hj (by omega)
/-- So many of a rising list lie ahead of i. -/
def Ahead (l : List Int) (i : Int) (n : Nat) : Prop := n ≤ l.length ∧ (∀ j, j < n → l.getD j 0 < i) ∧ ∀ j, n ≤ j → j < l.length → i ≤ l.getD j 0
theorem getD_lt {l : List Int} {j : Nat} (h : j < l.length) : l.getD j 0 = l[j] := by simp [h]
theorem up_get {l : List Int} (h : l.Pairwise (· < ·)) {a b : Nat} (hab : a < b) (hb : b < l.length) : l.getD a 0 < l.getD b 0 := by
  rw [getD_lt (show a < l.length by omega), getD_lt hb]
  exact List.pairwise_iff_getElem.1 h a b (by omega) hb hab
theorem Ahead.hit {l : List Int} {i : Int} {n : Nat} (h : Ahead l i n) (hu : l.Pairwise (· < ·)) (hi : i ∈ l) : n < l.length ∧ l.getD n 0 = i ∧ Ahead l (i + 1) (n + 1) := by
  obtain ⟨k, hk, e⟩ := List.mem_iff_getElem.1 hi
  have ek : l.getD k 0 = i := by rw [getD_lt hk]; exact e
  have hnk : n ≤ k := by
    rcases Nat.lt_or_ge k n with c | c
    · have := h.2.1 k c; omega
    · exact c
  have hkn : k = n := by
    rcases Nat.lt_or_ge n k with c | c
    · have := h.2.2 n (Nat.le_refl _) (by omega)
      have := up_get hu c hk
      omega
    · omega
  subst hkn
  refine ⟨hk, ek, by omega, fun j hj => ?_, fun j hj hl => ?_⟩
  · rcases Nat.lt_or_ge j k with c | c
    · have := h.2.1 j c; omega
    · have : j = k := by omega
      subst this; omega
  · have := up_get hu (show k < j by omega) hl
    omega
theorem Ahead.miss {l : List Int} {i : Int} {n : Nat} (h : Ahead l i n) (hi : i ∉ l) : Ahead l (i + 1) n := by
  refine ⟨h.1, fun j hj => by have := h.2.1 j hj; omega, fun j hj hl => ?_⟩
  have h1 := h.2.2 j hj hl
  have h2 : l.getD j 0 ≠ i := fun e => hi (by rw [← e, getD_lt hl]; exact List.getElem_mem _)
  omega
theorem Ahead.end_ {l : List Int} {i : Int} {n : Nat} (h : Ahead l i n) (ha : ∀ x, x ∈ l → x < i) : n = l.length := by
  rcases Nat.lt_or_ge n l.length with c | c
  · have h1 := h.2.2 n (Nat.le_refl _) c
    have h2 := ha (l.getD n 0) (by rw [getD_lt c]; exact List.getElem_mem _)
    omega
  · have := h.1; omega
theorem neq_bool (x y : Bool) (w : World) : (binOp .neq 4 (.bool x) (.bool y)).run Try.prog w = .ok (.bool (x != y)) w := by
  simp [binOp, run_equal_bool w 4 x y Try.underlying4]
  cases x <;> cases y <;> rfl
theorem eql_bool (x y : Bool) (w : World) : (binOp .eql 4 (.bool x) (.bool y)).run Try.prog w = .ok (.bool (x == y)) w := by
  simp [binOp, run_equal_bool w 4 x y Try.underlying4]
/-- Numbers that lie in memory. -/
def IAt (w : World) (a : Option Addr) (l : List Int) : Prop := l = [] ∨ ∃ g, a = some ⟨g, 0, none⟩ ∧ g < w.heap.size ∧ ∀ j, j < l.length → w.cell? ⟨g, j, none⟩ = some (.int .i64 (l.getD j 0))
theorem IAt.call {w w' : World} {a : Option Addr} {l : List Int} (h : IAt w a l) (hc : Chg w w' No) : IAt w' a l := by
  rcases h with h | ⟨g, rfl, hg, h⟩
  · exact .inl h
  · exact .inr ⟨g, rfl, Nat.lt_of_lt_of_le hg hc.size, fun j hj => cell_keep (h j hj) hc hg (fun e => e)⟩
theorem Ints.at_ {w : World} {base : Nat} {v : Value} {l : List Int} (h : Ints w base v l) : ∃ a c, v = .slice a l.length c ∧ IAt w a l := by
  cases l with
  | nil => obtain ⟨a, c, rfl⟩ := row_shape h; exact ⟨a, c, rfl, .inl rfl⟩
  | cons x l =>
    obtain ⟨g, cap, rfl, hb, hg, hc⟩ := row_cells h (by simp)
    refine ⟨_, _, rfl, .inr ⟨g, rfl, hg, fun j hj => hc j _ ?_⟩⟩
    rw [List.getElem?_map, List.getElem?_eq_getElem hj, getD_lt hj]
    rfl

set_option maxRecDepth 100000 in
set_option maxHeartbeats 8000000 in
theorem gways_walk (ws : List StV) (ad : Option Addr) (cap : Nat) (xx yy : Int) (w : World) (hl : ws.length ≤ 140737488355328) (hz : ScriptAt w ad ws) (hok : ∀ s, s ∈ ws → s.OK) (hx : I64 xx) (hy : I64 yy) :
    Calls Try.prog 7 #[.slice ad ws.length cap, .int .i64 xx, .int .i64 yy] w fun e w' => e = .returned (.bool true) ∧ Below w.heap.size w w' := by
  have HK := known_any w
  have HPa := fun w => pick_any xx 4096 w hx (by omega) (by omega)
  have HPb := fun w => pick_any yy 4096 w hy (by omega) (by omega)
  have hsa := pickN_sec xx
  have hsb := pickN_sec yy
  generalize pickN xx 4096 = a at *
  generalize pickN yy 4096 = b at *
  have hIa := hsa.i64
  have hIb := hsb.i64
  have hb0 := hsb.1
  have hb1 := hsb.2
  have HZ := hid hz
  clear hz
  go_enter Try.func7, Try.ntmps7
  go_wp2_with (first
    | (go_at_call 9; go_must (refine HK.mono ?_; rintro e w1 ⟨rfl, c1⟩; have HM := made_any ws ad cap w1 hl (HZ.out.keep c1) hok; clear HK))
    | (go_at_call 19; go_must (refine HM.mono ?_; rintro e w2 ⟨p, own, E, rfl, hG, ho, c2⟩; have HE1 := edgesG_any hG; clear HM))
    | (go_at_call 17; go_must (refine HE1.mono ?_; rintro e w3 ⟨v, l, rfl, hv, hL, c3⟩; obtain ⟨al, cl, rfl, hA, hAb⟩ := hv.at_; clear HE1))
    | fail)
  have C3 : Chg w w3 No := (c1.tr c2).tr c3
  have hG3 := hG.call c3
  have hll := elist_len hL hG.sec
  have hNR := hG.ring
  have hSec := hG.sec
  have HX := hid (And.intro C3 (And.intro hG3 hA))
  clear hv hA hG hG3 c1 c2 c3 C3 ho hAb
  generalize hN : l.length = N at *
  go_loopw [10] (fun i wr => ∃ (j n : Nat), j + 1 ≤ N + 1 ∧ i = .int .i64 ((j : Int) + 1) ∧ w3.drewN n = wr) (fun i _ => N - (intOf i).toNat)
  case atStart => exact ⟨0, 0, by omega, rfl, rfl⟩
  case round =>
    obtain ⟨j, n, hj, rfl, rfl⟩ := hrel
    by_cases hlt : j + 1 < N
    · rcases HX.out.2.2.call (chg_drewN w3 n) with h0 | ⟨g1, rfl, hg1, h1⟩
      · rw [h0] at hN; simp at hN; omega
      obtain ⟨p1, q1⟩ := EAt.cells h1 (k := j) (by omega)
      obtain ⟨p2, q2⟩ := EAt.cells h1 (k := j + 1) (by omega)
      have hlE := elist_lt hL (j := j) (by omega)
      generalize edK l j = x at *
      generalize edK l (j + 1) = y at *
      have hi0 : (0 : Int) ≤ (j : Int) := by omega
      have hi1 : (j : Int) < (N : Int) := by omega
      have hi2 : (j : Int) + 1 < (N : Int) := by omega
      have hi3 : (0 : Int) ≤ (j : Int) + 1 := by omega
      have hwr : IntKind.i64.wrap (j : Int) = (j : Int) := by rw [IntKind.wrap_i64]; omega
      clear h1
      rcases hlE with hlE | ⟨hlE, hlE2⟩
      · have hc1 : ¬ x.1 > y.1 := by omega
        have hc2 : (x.1 == y.1) = false := by simp; omega
        go_wp2_with fail
        refine wp_region_noPanic ?_
        refine wp_region_held_drew (S := fun w' => w'.cell? ⟨g1, j * 2, none⟩ = some (.int .i64 x.1) ∧ w'.cell? ⟨g1, j * 2 + 1, none⟩ = some (.int .i64 x.2) ∧ w'.cell? ⟨g1, (j + 1) * 2, none⟩ = some (.int .i64 y.1) ∧ w'.cell? ⟨g1, (j + 1) * 2 + 1, none⟩ = some (.int .i64 y.2)) (by kernel_rfl) ⟨p1, q1, p2, q2⟩ (fun hHeld => ?_)
        refine takeVal 0 35 (.slice (some ⟨g1, 0, none⟩) N cl) rfl (by kernel_rfl) (by kernel_rfl) (by kernel_rfl) rfl (by rfl) (fun _ _ _ h => h) hHeld (fun _ hw' => rfl) ?_
        simp only [List.setIfInBounds_toArray, List.set_cons_zero, List.set_cons_succ]
        refine takeVal 1 36 (.int .i64 ((j : Int) + 1)) rfl (by kernel_rfl) (by kernel_rfl) (by kernel_rfl) rfl (by rfl) (fun _ _ _ h => h) hHeld (fun _ hw' => rfl) ?_
        simp only [List.setIfInBounds_toArray, List.set_cons_zero, List.set_cons_succ]
        refine takeVal 2 37 (.int .i64 (j : Int)) rfl (by kernel_rfl) (by kernel_rfl) (by kernel_rfl) rfl (by rfl) (fun _ _ _ h => h) hHeld (fun _ hw' => by go_simp) ?_
        simp only [List.setIfInBounds_toArray, List.set_cons_zero, List.set_cons_succ]
        refine takeVal 3 38 (.pointer (some ⟨g1, j * 2, none⟩)) rfl (by kernel_rfl) (by kernel_rfl) (by kernel_rfl) rfl (by rfl) (fun _ _ _ h => h) hHeld (fun _ hw' => by go_simp) ?_
        simp only [List.setIfInBounds_toArray, List.set_cons_zero, List.set_cons_succ]
        refine takeVal 4 39 (.pointer (some ⟨g1, j * 2, none⟩)) rfl (by kernel_rfl) (by kernel_rfl) (by kernel_rfl) rfl (by rfl) (fun _ _ _ h => h) hHeld (fun _ hw' => by go_simp) ?_
        simp only [List.setIfInBounds_toArray, List.set_cons_zero, List.set_cons_succ]
        refine takeVal 5 40 (.int .i64 x.1) rfl (by kernel_rfl) (by kernel_rfl) (by kernel_rfl) rfl (by rfl) (fun _ _ _ h => h) hHeld (fun _ hw' => by obtain ⟨l1, l2, l3, l4⟩ := hw'; go_simp) ?_
        simp only [List.setIfInBounds_toArray, List.set_cons_zero, List.set_cons_succ]
        refine takeVal 6 41 (.slice (some ⟨g1, 0, none⟩) N cl) rfl (by kernel_rfl) (by kernel_rfl) (by kernel_rfl) rfl (by rfl) (fun _ _ _ h => h) hHeld (fun _ hw' => rfl) ?_
        simp only [List.setIfInBounds_toArray, List.set_cons_zero, List.set_cons_succ]
        refine takeVal 7 42 (.int .i64 ((j : Int) + 1)) rfl (by kernel_rfl) (by kernel_rfl) (by kernel_rfl) rfl (by rfl) (fun _ _ _ h => h) hHeld (fun _ hw' => rfl) ?_
        simp only [List.setIfInBounds_toArray, List.set_cons_zero, List.set_cons_succ]
        refine takeVal 8 43 (.pointer (some ⟨g1, (j + 1) * 2, none⟩)) rfl (by kernel_rfl) (by kernel_rfl) (by kernel_rfl) rfl (by rfl) (fun _ _ _ h => h) hHeld (fun _ hw' => by go_simp) ?_
        simp only [List.setIfInBounds_toArray, List.set_cons_zero, List.set_cons_succ]
        refine takeVal 9 44 (.pointer (some ⟨g1, (j + 1) * 2, none⟩)) rfl (by kernel_rfl) (by kernel_rfl) (by kernel_rfl) rfl (by rfl) (fun _ _ _ h => h) hHeld (fun _ hw' => by go_simp) ?_
        simp only [List.setIfInBounds_toArray, List.set_cons_zero, List.set_cons_succ]
        refine takeVal 10 45 (.int .i64 y.1) rfl (by kernel_rfl) (by kernel_rfl) (by kernel_rfl) rfl (by rfl) (fun _ _ _ h => h) hHeld (fun _ hw' => by obtain ⟨l1, l2, l3, l4⟩ := hw'; go_simp) ?_
        simp only [List.setIfInBounds_toArray, List.set_cons_zero, List.set_cons_succ]
        refine takeVal 11 46 (.bool false) rfl (by kernel_rfl) (by kernel_rfl) (by kernel_rfl) rfl (by rfl) (fun _ _ _ h => h) hHeld (fun _ hw' => by go_simp) ?_
        simp only [List.setIfInBounds_toArray, List.set_cons_zero, List.set_cons_succ]
        refine takeVal 12 47 (.bool false) rfl (by kernel_rfl) (by kernel_rfl) (by kernel_rfl) rfl (by rfl) (fun _ _ _ h => h) hHeld (fun _ hw' => rfl) ?_
        simp only [List.setIfInBounds_toArray, List.set_cons_zero, List.set_cons_succ]
        refine takeVal 13 48 (.slice (some ⟨g1, 0, none⟩) N cl) rfl (by kernel_rfl) (by kernel_rfl) (by kernel_rfl) rfl (by rfl) (fun _ _ _ h => h) hHeld (fun _ hw' => rfl) ?_
        simp only [List.setIfInBounds_toArray, List.set_cons_zero, List.set_cons_succ]
        refine takeVal 14 49 (.int .i64 ((j : Int) + 1)) rfl (by kernel_rfl) (by kernel_rfl) (by kernel_rfl) rfl (by rfl) (fun _ _ _ h => h) hHeld (fun _ hw' => rfl) ?_
        simp only [List.setIfInBounds_toArray, List.set_cons_zero, List.set_cons_succ]
        refine takeVal 15 50 (.int .i64 (j : Int)) rfl (by kernel_rfl) (by kernel_rfl) (by kernel_rfl) rfl (by rfl) (fun _ _ _ h => h) hHeld (fun _ hw' => by go_simp) ?_
        simp only [List.setIfInBounds_toArray, List.set_cons_zero, List.set_cons_succ]
        refine takeVal 16 51 (.pointer (some ⟨g1, j * 2, none⟩)) rfl (by kernel_rfl) (by kernel_rfl) (by kernel_rfl) rfl (by rfl) (fun _ _ _ h => h) hHeld (fun _ hw' => by go_simp) ?_
        simp only [List.setIfInBounds_toArray, List.set_cons_zero, List.set_cons_succ]
        refine takeVal 17 52 (.pointer (some ⟨g1, j * 2, none⟩)) rfl (by kernel_rfl) (by kernel_rfl) (by kernel_rfl) rfl (by rfl) (fun _ _ _ h => h) hHeld (fun _ hw' => by go_simp) ?_
        simp only [List.setIfInBounds_toArray, List.set_cons_zero, List.set_cons_succ]
        refine takeVal 18 53 (.int .i64 x.1) rfl (by kernel_rfl) (by kernel_rfl) (by kernel_rfl) rfl (by rfl) (fun _ _ _ h => h) hHeld (fun _ hw' => by obtain ⟨l1, l2, l3, l4⟩ := hw'; go_simp) ?_
        simp only [List.setIfInBounds_toArray, List.set_cons_zero, List.set_cons_succ]
        refine takeVal 19 54 (.slice (some ⟨g1, 0, none⟩) N cl) rfl (by kernel_rfl) (by kernel_rfl) (by kernel_rfl) rfl (by rfl) (fun _ _ _ h => h) hHeld (fun _ hw' => rfl) ?_
        simp only [List.setIfInBounds_toArray, List.set_cons_zero, List.set_cons_succ]
        refine takeVal 20 55 (.int .i64 ((j : Int) + 1)) rfl (by kernel_rfl) (by kernel_rfl) (by kernel_rfl) rfl (by rfl) (fun _ _ _ h => h) hHeld (fun _ hw' => rfl) ?_
        simp only [List.setIfInBounds_toArray, List.set_cons_zero, List.set_cons_succ]
        refine takeVal 21 56 (.pointer (some ⟨g1, (j + 1) * 2, none⟩)) rfl (by kernel_rfl) (by kernel_rfl) (by kernel_rfl) rfl (by rfl) (fun _ _ _ h => h) hHeld (fun _ hw' => by go_simp) ?_
        simp only [List.setIfInBounds_toArray, List.set_cons_zero, List.set_cons_succ]
        refine takeVal 22 57 (.pointer (some ⟨g1, (j + 1) * 2, none⟩)) rfl (by kernel_rfl) (by kernel_rfl) (by kernel_rfl) rfl (by rfl) (fun _ _ _ h => h) hHeld (fun _ hw' => by go_simp) ?_
        simp only [List.setIfInBounds_toArray, List.set_cons_zero, List.set_cons_succ]
        refine takeVal 23 58 (.int .i64 y.1) rfl (by kernel_rfl) (by kernel_rfl) (by kernel_rfl) rfl (by rfl) (fun _ _ _ h => h) hHeld (fun _ hw' => by obtain ⟨l1, l2, l3, l4⟩ := hw'; go_simp) ?_
        simp only [List.setIfInBounds_toArray, List.set_cons_zero, List.set_cons_succ]
        refine takeVal 24 59 (.bool false) rfl (by kernel_rfl) (by kernel_rfl) (by kernel_rfl) rfl (by rfl) (fun _ _ _ h => h) hHeld (fun _ hw' => by go_simp) ?_
        simp only [List.setIfInBounds_toArray, List.set_cons_zero, List.set_cons_succ]
        refine takeVal 25 60 (.bool false) rfl (by kernel_rfl) (by kernel_rfl) (by kernel_rfl) rfl (by rfl) (fun _ _ _ h => h) hHeld (fun _ hw' => rfl) ?_
        simp only [List.setIfInBounds_toArray, List.set_cons_zero, List.set_cons_succ]
        refine takeNot 26 61 rfl (by kernel_rfl) (by kernel_rfl) (by kernel_rfl) rfl (by rfl) (fun _ _ _ h => h) hHeld ?_
        simp only [List.setIfInBounds_toArray, List.set_cons_zero, List.set_cons_succ]
        refine takeNot 27 62 rfl (by kernel_rfl) (by kernel_rfl) (by kernel_rfl) rfl (by rfl) (fun _ _ _ h => h) hHeld ?_
        simp only [List.setIfInBounds_toArray, List.set_cons_zero, List.set_cons_succ]
        refine takeNot 28 63 rfl (by kernel_rfl) (by kernel_rfl) (by kernel_rfl) rfl (by rfl) (fun _ _ _ h => h) hHeld ?_
        simp only [List.setIfInBounds_toArray, List.set_cons_zero, List.set_cons_succ]
        refine takeNot 29 64 rfl (by kernel_rfl) (by kernel_rfl) (by kernel_rfl) rfl (by rfl) (fun _ _ _ h => h) hHeld ?_
        simp only [List.setIfInBounds_toArray, List.set_cons_zero, List.set_cons_succ]
        refine takeNot 30 65 rfl (by kernel_rfl) (by kernel_rfl) (by kernel_rfl) rfl (by rfl) (fun _ _ _ h => h) hHeld ?_
        simp only [List.setIfInBounds_toArray, List.set_cons_zero, List.set_cons_succ]
        refine takeNot 31 66 rfl (by kernel_rfl) (by kernel_rfl) (by kernel_rfl) rfl (by rfl) (fun _ _ _ h => h) hHeld ?_
        simp only [List.setIfInBounds_toArray, List.set_cons_zero, List.set_cons_succ]
        refine takeNot 32 67 rfl (by kernel_rfl) (by kernel_rfl) (by kernel_rfl) rfl (by rfl) (fun _ _ _ h => h) hHeld ?_
        simp only [List.setIfInBounds_toArray, List.set_cons_zero, List.set_cons_succ]
        refine takeNot 33 68 rfl (by kernel_rfl) (by kernel_rfl) (by kernel_rfl) rfl (by rfl) (fun _ _ _ h => h) hHeld ?_
        simp only [List.setIfInBounds_toArray, List.set_cons_zero, List.set_cons_succ]
        refine takeNot 34 69 rfl (by kernel_rfl) (by kernel_rfl) (by kernel_rfl) rfl (by rfl) (fun _ _ _ h => h) hHeld ?_
        simp only [List.setIfInBounds_toArray, List.set_cons_zero, List.set_cons_succ]
        refine takeNot 35 70 rfl (by kernel_rfl) (by kernel_rfl) (by kernel_rfl) rfl (by rfl) (fun _ _ _ h => h) hHeld ?_
        simp only [List.setIfInBounds_toArray, List.set_cons_zero, List.set_cons_succ]
        refine takeNot 36 71 rfl (by kernel_rfl) (by kernel_rfl) (by kernel_rfl) rfl (by rfl) (fun _ _ _ h => h) hHeld ?_
        simp only [List.setIfInBounds_toArray, List.set_cons_zero, List.set_cons_succ]
        refine takeNot 37 72 rfl (by kernel_rfl) (by kernel_rfl) (by kernel_rfl) rfl (by rfl) (fun _ _ _ h => h) hHeld ?_
        simp only [List.setIfInBounds_toArray, List.set_cons_zero, List.set_cons_succ]
        refine takeVal 38 73 (.bool false) rfl (by kernel_rfl) (by kernel_rfl) (by kernel_rfl) rfl (by rfl) (fun _ _ _ h => h) hHeld (fun _ hw' => rfl) ?_
        simp only [List.setIfInBounds_toArray, List.set_cons_zero, List.set_cons_succ]
        refine takeVal 39 74 (.bool false) rfl (by kernel_rfl) (by kernel_rfl) (by kernel_rfl) rfl (by rfl) (fun _ _ _ h => h) hHeld (fun _ hw' => rfl) ?_
        simp only [List.setIfInBounds_toArray, List.set_cons_zero, List.set_cons_succ]
        refine wpAnyH_done (by kernel_rfl) ?_ _
        refine NoPanic.normal ?_
        go_wp2_with fail
        go_roundw
        case rel => exact ⟨j + 1, n + 1, by omega, by go_num, rfl⟩
        case measure => simp [intOf]; omega
      · have hc1 : ¬ x.1 > y.1 := by omega
        have hc2 : (x.1 == y.1) = true := by simp; omega
        have hc3 : ¬ x.2 ≥ y.2 := by omega
        go_wp2_with fail
        refine wp_region_noPanic ?_
        refine wp_region_held_drew (S := fun w' => w'.cell? ⟨g1, j * 2, none⟩ = some (.int .i64 x.1) ∧ w'.cell? ⟨g1, j * 2 + 1, none⟩ = some (.int .i64 x.2) ∧ w'.cell? ⟨g1, (j + 1) * 2, none⟩ = some (.int .i64 y.1) ∧ w'.cell? ⟨g1, (j + 1) * 2 + 1, none⟩ = some (.int .i64 y.2)) (by kernel_rfl) ⟨p1, q1, p2, q2⟩ (fun hHeld => ?_)
        refine takeVal 0 35 (.slice (some ⟨g1, 0, none⟩) N cl) rfl (by kernel_rfl) (by kernel_rfl) (by kernel_rfl) rfl (by rfl) (fun _ _ _ h => h) hHeld (fun _ hw' => rfl) ?_
        simp only [List.setIfInBounds_toArray, List.set_cons_zero, List.set_cons_succ]
        refine takeVal 1 36 (.int .i64 ((j : Int) + 1)) rfl (by kernel_rfl) (by kernel_rfl) (by kernel_rfl) rfl (by rfl) (fun _ _ _ h => h) hHeld (fun _ hw' => rfl) ?_
        simp only [List.setIfInBounds_toArray, List.set_cons_zero, List.set_cons_succ]
        refine takeVal 2 37 (.int .i64 (j : Int)) rfl (by kernel_rfl) (by kernel_rfl) (by kernel_rfl) rfl (by rfl) (fun _ _ _ h => h) hHeld (fun _ hw' => by go_simp) ?_
        simp only [List.setIfInBounds_toArray, List.set_cons_zero, List.set_cons_succ]
        refine takeVal 3 38 (.pointer (some ⟨g1, j * 2, none⟩)) rfl (by kernel_rfl) (by kernel_rfl) (by kernel_rfl) rfl (by rfl) (fun _ _ _ h => h) hHeld (fun _ hw' => by go_simp) ?_
        simp only [List.setIfInBounds_toArray, List.set_cons_zero, List.set_cons_succ]
        refine takeVal 4 39 (.pointer (some ⟨g1, j * 2, none⟩)) rfl (by kernel_rfl) (by kernel_rfl) (by kernel_rfl) rfl (by rfl) (fun _ _ _ h => h) hHeld (fun _ hw' => by go_simp) ?_
        simp only [List.setIfInBounds_toArray, List.set_cons_zero, List.set_cons_succ]
        refine takeVal 5 40 (.int .i64 x.1) rfl (by kernel_rfl) (by kernel_rfl) (by kernel_rfl) rfl (by rfl) (fun _ _ _ h => h) hHeld (fun _ hw' => by obtain ⟨l1, l2, l3, l4⟩ := hw'; go_simp) ?_
        simp only [List.setIfInBounds_toArray, List.set_cons_zero, List.set_cons_succ]
        refine takeVal 6 41 (.slice (some ⟨g1, 0, none⟩) N cl) rfl (by kernel_rfl) (by kernel_rfl) (by kernel_rfl) rfl (by rfl) (fun _ _ _ h => h) hHeld (fun _ hw' => rfl) ?_
        simp only [List.setIfInBounds_toArray, List.set_cons_zero, List.set_cons_succ]
        refine takeVal 7 42 (.int .i64 ((j : Int) + 1)) rfl (by kernel_rfl) (by kernel_rfl) (by kernel_rfl) rfl (by rfl) (fun _ _ _ h => h) hHeld (fun _ hw' => rfl) ?_
        simp only [List.setIfInBounds_toArray, List.set_cons_zero, List.set_cons_succ]
        refine takeVal 8 43 (.pointer (some ⟨g1, (j + 1) * 2, none⟩)) rfl (by kernel_rfl) (by kernel_rfl) (by kernel_rfl) rfl (by rfl) (fun _ _ _ h => h) hHeld (fun _ hw' => by go_simp) ?_
        simp only [List.setIfInBounds_toArray, List.set_cons_zero, List.set_cons_succ]
        refine takeVal 9 44 (.pointer (some ⟨g1, (j + 1) * 2, none⟩)) rfl (by kernel_rfl) (by kernel_rfl) (by kernel_rfl) rfl (by rfl) (fun _ _ _ h => h) hHeld (fun _ hw' => by go_simp) ?_
        simp only [List.setIfInBounds_toArray, List.set_cons_zero, List.set_cons_succ]
        refine takeVal 10 45 (.int .i64 y.1) rfl (by kernel_rfl) (by kernel_rfl) (by kernel_rfl) rfl (by rfl) (fun _ _ _ h => h) hHeld (fun _ hw' => by obtain ⟨l1, l2, l3, l4⟩ := hw'; go_simp) ?_
        simp only [List.setIfInBounds_toArray, List.set_cons_zero, List.set_cons_succ]
        refine takeVal 11 46 (.bool false) rfl (by kernel_rfl) (by kernel_rfl) (by kernel_rfl) rfl (by rfl) (fun _ _ _ h => h) hHeld (fun _ hw' => by go_simp) ?_
        simp only [List.setIfInBounds_toArray, List.set_cons_zero, List.set_cons_succ]
        refine takeVal 12 47 (.bool false) rfl (by kernel_rfl) (by kernel_rfl) (by kernel_rfl) rfl (by rfl) (fun _ _ _ h => h) hHeld (fun _ hw' => rfl) ?_
        simp only [List.setIfInBounds_toArray, List.set_cons_zero, List.set_cons_succ]
        refine takeVal 13 48 (.slice (some ⟨g1, 0, none⟩) N cl) rfl (by kernel_rfl) (by kernel_rfl) (by kernel_rfl) rfl (by rfl) (fun _ _ _ h => h) hHeld (fun _ hw' => rfl) ?_
        simp only [List.setIfInBounds_toArray, List.set_cons_zero, List.set_cons_succ]
        refine takeVal 14 49 (.int .i64 ((j : Int) + 1)) rfl (by kernel_rfl) (by kernel_rfl) (by kernel_rfl) rfl (by rfl) (fun _ _ _ h => h) hHeld (fun _ hw' => rfl) ?_
        simp only [List.setIfInBounds_toArray, List.set_cons_zero, List.set_cons_succ]
        refine takeVal 15 50 (.int .i64 (j : Int)) rfl (by kernel_rfl) (by kernel_rfl) (by kernel_rfl) rfl (by rfl) (fun _ _ _ h => h) hHeld (fun _ hw' => by go_simp) ?_
        simp only [List.setIfInBounds_toArray, List.set_cons_zero, List.set_cons_succ]
        refine takeVal 16 51 (.pointer (some ⟨g1, j * 2, none⟩)) rfl (by kernel_rfl) (by kernel_rfl) (by kernel_rfl) rfl (by rfl) (fun _ _ _ h => h) hHeld (fun _ hw' => by go_simp) ?_
        simp only [List.setIfInBounds_toArray, List.set_cons_zero, List.set_cons_succ]
        refine takeVal 17 52 (.pointer (some ⟨g1, j * 2, none⟩)) rfl (by kernel_rfl) (by kernel_rfl) (by kernel_rfl) rfl (by rfl) (fun _ _ _ h => h) hHeld (fun _ hw' => by go_simp) ?_
        simp only [List.setIfInBounds_toArray, List.set_cons_zero, List.set_cons_succ]
        refine takeVal 18 53 (.int .i64 x.1) rfl (by kernel_rfl) (by kernel_rfl) (by kernel_rfl) rfl (by rfl) (fun _ _ _ h => h) hHeld (fun _ hw' => by obtain ⟨l1, l2, l3, l4⟩ := hw'; go_simp) ?_
        simp only [List.setIfInBounds_toArray, List.set_cons_zero, List.set_cons_succ]
        refine takeVal 19 54 (.slice (some ⟨g1, 0, none⟩) N cl) rfl (by kernel_rfl) (by kernel_rfl) (by kernel_rfl) rfl (by rfl) (fun _ _ _ h => h) hHeld (fun _ hw' => rfl) ?_
        simp only [List.setIfInBounds_toArray, List.set_cons_zero, List.set_cons_succ]
        refine takeVal 20 55 (.int .i64 ((j : Int) + 1)) rfl (by kernel_rfl) (by kernel_rfl) (by kernel_rfl) rfl (by rfl) (fun _ _ _ h => h) hHeld (fun _ hw' => rfl) ?_
        simp only [List.setIfInBounds_toArray, List.set_cons_zero, List.set_cons_succ]
        refine takeVal 21 56 (.pointer (some ⟨g1, (j + 1) * 2, none⟩)) rfl (by kernel_rfl) (by kernel_rfl) (by kernel_rfl) rfl (by rfl) (fun _ _ _ h => h) hHeld (fun _ hw' => by go_simp) ?_
        simp only [List.setIfInBounds_toArray, List.set_cons_zero, List.set_cons_succ]
        refine takeVal 22 57 (.pointer (some ⟨g1, (j + 1) * 2, none⟩)) rfl (by kernel_rfl) (by kernel_rfl) (by kernel_rfl) rfl (by rfl) (fun _ _ _ h => h) hHeld (fun _ hw' => by go_simp) ?_
        simp only [List.setIfInBounds_toArray, List.set_cons_zero, List.set_cons_succ]
        refine takeVal 23 58 (.int .i64 y.1) rfl (by kernel_rfl) (by kernel_rfl) (by kernel_rfl) rfl (by rfl) (fun _ _ _ h => h) hHeld (fun _ hw' => by obtain ⟨l1, l2, l3, l4⟩ := hw'; go_simp) ?_
        simp only [List.setIfInBounds_toArray, List.set_cons_zero, List.set_cons_succ]
        refine takeVal 24 59 (.bool true) rfl (by kernel_rfl) (by kernel_rfl) (by kernel_rfl) rfl (by rfl) (fun _ _ _ h => h) hHeld (fun _ hw' => by go_simp) ?_
        simp only [List.setIfInBounds_toArray, List.set_cons_zero, List.set_cons_succ]
        refine takeVal 25 60 (.bool true) rfl (by kernel_rfl) (by kernel_rfl) (by kernel_rfl) rfl (by rfl) (fun _ _ _ h => h) hHeld (fun _ hw' => rfl) ?_
        simp only [List.setIfInBounds_toArray, List.set_cons_zero, List.set_cons_succ]
        refine takeVal 26 61 (.slice (some ⟨g1, 0, none⟩) N cl) rfl (by kernel_rfl) (by kernel_rfl) (by kernel_rfl) rfl (by rfl) (fun _ _ _ h => h) hHeld (fun _ hw' => rfl) ?_
        simp only [List.setIfInBounds_toArray, List.set_cons_zero, List.set_cons_succ]
        refine takeVal 27 62 (.int .i64 ((j : Int) + 1)) rfl (by kernel_rfl) (by kernel_rfl) (by kernel_rfl) rfl (by rfl) (fun _ _ _ h => h) hHeld (fun _ hw' => rfl) ?_
        simp only [List.setIfInBounds_toArray, List.set_cons_zero, List.set_cons_succ]
        refine takeVal 28 63 (.int .i64 (j : Int)) rfl (by kernel_rfl) (by kernel_rfl) (by kernel_rfl) rfl (by rfl) (fun _ _ _ h => h) hHeld (fun _ hw' => by go_simp) ?_
        simp only [List.setIfInBounds_toArray, List.set_cons_zero, List.set_cons_succ]
        refine takeVal 29 64 (.pointer (some ⟨g1, j * 2, none⟩)) rfl (by kernel_rfl) (by kernel_rfl) (by kernel_rfl) rfl (by rfl) (fun _ _ _ h => h) hHeld (fun _ hw' => by go_simp) ?_
        simp only [List.setIfInBounds_toArray, List.set_cons_zero, List.set_cons_succ]
        refine takeVal 30 65 (.pointer (some ⟨g1, j * 2 + 1, none⟩)) rfl (by kernel_rfl) (by kernel_rfl) (by kernel_rfl) rfl (by rfl) (fun _ _ _ h => h) hHeld (fun _ hw' => by go_simp) ?_
        simp only [List.setIfInBounds_toArray, List.set_cons_zero, List.set_cons_succ]
        refine takeVal 31 66 (.int .i64 x.2) rfl (by kernel_rfl) (by kernel_rfl) (by kernel_rfl) rfl (by rfl) (fun _ _ _ h => h) hHeld (fun _ hw' => by obtain ⟨l1, l2, l3, l4⟩ := hw'; go_simp) ?_
        simp only [List.setIfInBounds_toArray, List.set_cons_zero, List.set_cons_succ]
        refine takeVal 32 67 (.slice (some ⟨g1, 0, none⟩) N cl) rfl (by kernel_rfl) (by kernel_rfl) (by kernel_rfl) rfl (by rfl) (fun _ _ _ h => h) hHeld (fun _ hw' => rfl) ?_
        simp only [List.setIfInBounds_toArray, List.set_cons_zero, List.set_cons_succ]
        refine takeVal 33 68 (.int .i64 ((j : Int) + 1)) rfl (by kernel_rfl) (by kernel_rfl) (by kernel_rfl) rfl (by rfl) (fun _ _ _ h => h) hHeld (fun _ hw' => rfl) ?_
        simp only [List.setIfInBounds_toArray, List.set_cons_zero, List.set_cons_succ]
        refine takeVal 34 69 (.pointer (some ⟨g1, (j + 1) * 2, none⟩)) rfl (by kernel_rfl) (by kernel_rfl) (by kernel_rfl) rfl (by rfl) (fun _ _ _ h => h) hHeld (fun _ hw' => by go_simp) ?_
        simp only [List.setIfInBounds_toArray, List.set_cons_zero, List.set_cons_succ]
        refine takeVal 35 70 (.pointer (some ⟨g1, (j + 1) * 2 + 1, none⟩)) rfl (by kernel_rfl) (by kernel_rfl) (by kernel_rfl) rfl (by rfl) (fun _ _ _ h => h) hHeld (fun _ hw' => by go_simp) ?_
        simp only [List.setIfInBounds_toArray, List.set_cons_zero, List.set_cons_succ]
        refine takeVal 36 71 (.int .i64 y.2) rfl (by kernel_rfl) (by kernel_rfl) (by kernel_rfl) rfl (by rfl) (fun _ _ _ h => h) hHeld (fun _ hw' => by obtain ⟨l1, l2, l3, l4⟩ := hw'; go_simp) ?_
        simp only [List.setIfInBounds_toArray, List.set_cons_zero, List.set_cons_succ]
        refine takeVal 37 72 (.bool false) rfl (by kernel_rfl) (by kernel_rfl) (by kernel_rfl) rfl (by rfl) (fun _ _ _ h => h) hHeld (fun _ hw' => by go_simp) ?_
        simp only [List.setIfInBounds_toArray, List.set_cons_zero, List.set_cons_succ]
        refine takeVal 38 73 (.bool false) rfl (by kernel_rfl) (by kernel_rfl) (by kernel_rfl) rfl (by rfl) (fun _ _ _ h => h) hHeld (fun _ hw' => rfl) ?_
        simp only [List.setIfInBounds_toArray, List.set_cons_zero, List.set_cons_succ]
        refine takeVal 39 74 (.bool false) rfl (by kernel_rfl) (by kernel_rfl) (by kernel_rfl) rfl (by rfl) (fun _ _ _ h => h) hHeld (fun _ hw' => rfl) ?_
        simp only [List.setIfInBounds_toArray, List.set_cons_zero, List.set_cons_succ]
        refine wpAnyH_done (by kernel_rfl) ?_ _
        refine NoPanic.normal ?_
        go_wp2_with fail
        go_roundw
        case rel => exact ⟨j + 1, n + 1, by omega, by go_num, rfl⟩
        case measure => simp [intOf]; omega
    · have hd := chg_drewN w3 n
      generalize w3.drewN n = wA at *
      obtain ⟨C3, hG3, hA3⟩ := HX.out
      have hAA := hA3.call hd
      have hGA := hG3.call hd
      have HW1 := ways_forth l al cl a wA (by omega) hAA (elist_sec hL hSec)
      have CA := C3.tr hd
      clear hA3 hG3 C3 hd HX
      rw [hN] at HW1
      by_cases hab : a = b
      · subst hab
        have hbe : (a == a) = true := by simp
        have hnb := neq_bool
        have heb := eql_bool
        go_wp2_with (first
          | (go_at_call 12; go_must (first | (refine (HPa _).mono ?_; rintro e w2 ⟨rfl, rfl⟩; clear HPa) | (refine (HPb _).mono ?_; rintro e w2 ⟨rfl, rfl⟩)))
          | (go_at_call 25; go_must (first
              | (refine HW1.mono ?_; rintro e w4 ⟨g4, s4, rfl, hg4, hb4, hw4, c4⟩; have hf := hb4.cell (j := a.toNat) (by omega); have hfw := (hw4 a hsb).trans (dir_way hL a a); generalize s4.getD a.toNat false = sv at hf hfw; have HW2 := ways_back l al cl a w4 (by omega) (hAA.call c4) (elist_sec hL hSec); rw [hN] at HW2; have hg4l := slt hb4.1; clear HW1 hw4 hb4)
              | (refine HW2.mono ?_; rintro e w5 ⟨g5, s5, rfl, hg5, hb5, hw5, c5⟩; have hf5 := cell_keep hf c5 hg4l (fun e => e); have HR := reaches_any a a ((hGA.call c4).call c5) hIa hIb; have hz5 := c5.size; clear HW2)))
          | (go_at_call 26; go_must (refine HR.mono ?_; rintro e w6 ⟨r6, rfl, q6, c6⟩; have hf6 := cell_keep hf5 c6 (by omega) (fun e => e); obtain rfl : r6 = true := q6.2 (.inl rfl); have HB := before_any a (((hGA.call c4).call c5).call c6) hIb; clear HR))
          | (go_at_call 20; go_must (refine HB.mono ?_; rintro e w7 ⟨v7, lb, rfl, hv7, hB7, c7⟩; obtain ⟨ab, cb, rfl, hI7⟩ := hv7.at_; clear HB))
          | fail)
        have hb7 := (hb5.keep c6 (fun e => e)).keep c7 (fun e => e)
        have hG7 := (((hGA.call c4).call c5).call c6).call c7
        have C7 : Chg w w7 No := (((CA.tr c4).tr c5).tr c6).tr c7
        have hin : ∀ x, x ∈ lb ↔ Way E x a := fun x => by
          rw [hB7.2 x]
          constructor
          · rintro ⟨hne, e | e⟩
            · exact absurd e hne
            · exact e
          · exact fun e => ⟨fun k => hNR a (k ▸ e), .inr e⟩
        have hlen4 : lb.length ≤ 4096 := by
          obtain ⟨L, hL1, hL2⟩ := few_sec
          refine Nat.le_trans (nodup_len lb L (hB7.1.imp fun {u v} h => by omega) fun x hx => hL2 x (((hin x).1 hx).sec hSec).1) hL1
        have hback : ∀ k : Nat, k < 4096 → (s5.getD k false = true ↔ (k : Int) ∈ lb) := fun k hk => by
          have h1 := hw5 (k : Int) ⟨by omega, by omega⟩
          rw [Int.toNat_natCast] at h1
          rw [h1, dir_back hL, hin]
        have HF := free_any a hG7 hIb
        have HX2 := hid (And.intro hb7 (And.intro hI7 (And.intro C7 hB7)))
        clear hb7 hG7 C7 hb5 hw5 hv7 hGA hAA CA c4 c5 c6 c7 hf hf5 hf6 hfw q6 hI7 hB7
        generalize hLB : lb.length = LB at *
        go_loopw [14, 15] (fun nn i wr => ∃ (k n : Nat), k ≤ 4096 ∧ nn = .int .i64 n ∧ i = .int .i64 k ∧ Ahead lb (k : Int) n ∧ w7 = wr) (fun _ i _ => 4096 - (intOf i).toNat)
        case atStart => exact ⟨0, 0, by omega, rfl, rfl, ⟨by omega, fun j hj => by omega, fun j _ hj => by
          have := (((hin (lb.getD j 0)).1 (by rw [getD_lt hj]; exact List.getElem_mem _)).sec hSec).1.1
          exact this⟩, rfl⟩
        case round =>
          obtain ⟨k, n, hk, rfl, rfl, hAh, rfl⟩ := hrel
          have hnl := hAh.1
          rw [hLB] at hnl
          by_cases hlt2 : k < 4096
          · have hcell := HX2.out.1.cell (j := k) hlt2
            have hbk := hback k hlt2
            have hk0 : (0 : Int) ≤ (k : Int) := by omega
            have hk1 : (k : Int) < 4096 := by omega
            cases hsk : s5.getD k false with
            | true =>
              rw [hsk] at hcell hbk
              obtain ⟨hn1, hn2, hAh2⟩ := hAh.hit HX2.out.2.2.2.1 (hbk.1 rfl)
              rcases HX2.out.2.1 with h0 | ⟨g7, rfl, hg7, h7⟩
              · rw [h0] at hn1; simp at hn1
              have hc7 := h7 n hn1
              rw [hn2] at hc7
              rw [hLB] at hn1
              have hn3 : ¬ (n : Int) ≥ (LB : Int) := by omega
              have hn4 : (0 : Int) ≤ (n : Int) := by omega
              have hn5 : (n : Int) < (LB : Int) := by omega
              clear hsk h7
              go_wp2_with fail
              go_roundw
              case rel => exact ⟨k + 1, n + 1, by omega, by go_num, by go_num, hAh2, by first | rfl | trivial⟩
              case measure => simp [intOf]; omega
            | false =>
              rw [hsk] at hcell hbk
              have hAh2 := hAh.miss (fun e => by have := hbk.2 e; cases this)
              clear hsk
              go_wp2_with fail
              go_roundw
              case rel => exact ⟨k + 1, n, by omega, rfl, by go_num, hAh2, by first | rfl | trivial⟩
              case measure => simp [intOf]; omega
          · obtain rfl : k = 4096 := by omega
            obtain rfl : n = LB := by rw [← hLB]; exact hAh.end_ fun x hx => (((hin x).1 hx).sec hSec).1.2
            rcases Nat.eq_zero_or_pos n with h0 | h0
            · subst h0
              have hemp : lb = [] := List.eq_nil_of_length_eq_zero hLB
              have hl00 := len0
              go_wp2_with (first
                | (go_at_call 27; go_must (refine HF.mono ?_; rintro e w8 ⟨r8, rfl, q8, rfl⟩; obtain rfl : r8 = true := q8.2 (fun x hx => by have := (hin x).2 (.one hx); rw [hemp] at this; simp at this)))
                | fail)
              go_ret
              exact ⟨rfl, HX2.out.2.2.1.below⟩
            · have hne0 : ((n : Int) == 0) = false := by simp; omega
              go_wp2_with (first
                | (go_at_call 27; go_must (refine HF.mono ?_; rintro e w8 ⟨r8, rfl, q8, rfl⟩; obtain rfl : r8 = false := (by cases r8; rfl; obtain ⟨c, hc⟩ := ((hin _).1 (List.getElem_mem (show 0 < lb.length by omega))).last; exact absurd hc (q8.1 rfl c))))
                | fail)
              go_ret
              exact ⟨rfl, HX2.out.2.2.1.below⟩
      · have hbe : (a == b) = false := by simp [hab]
        have hnb := neq_bool
        have heb := eql_bool
        go_wp2_with (first
          | (go_at_call 12; go_must (first | (refine (HPa _).mono ?_; rintro e w2 ⟨rfl, rfl⟩; clear HPa) | (refine (HPb _).mono ?_; rintro e w2 ⟨rfl, rfl⟩)))
          | (go_at_call 25; go_must (first
              | (refine HW1.mono ?_; rintro e w4 ⟨g4, s4, rfl, hg4, hb4, hw4, c4⟩; have hf := hb4.cell (j := b.toNat) (by omega); have hfw := (hw4 b hsb).trans (dir_way hL a b); generalize s4.getD b.toNat false = sv at hf hfw; have HW2 := ways_back l al cl b w4 (by omega) (hAA.call c4) (elist_sec hL hSec); rw [hN] at HW2; have hg4l := slt hb4.1; clear HW1 hw4 hb4)
              | (refine HW2.mono ?_; rintro e w5 ⟨g5, s5, rfl, hg5, hb5, hw5, c5⟩; have hf5 := cell_keep hf c5 hg4l (fun e => e); have HR := reaches_any a b ((hGA.call c4).call c5) hIa hIb; have hz5 := c5.size; clear HW2)))
          | (go_at_call 26; go_must (refine HR.mono ?_; rintro e w6 ⟨r6, rfl, q6, c6⟩; have hf6 := cell_keep hf5 c6 (by omega) (fun e => e); obtain rfl : r6 = sv := Bool.eq_iff_iff.2 (q6.trans ⟨fun e => hfw.2 (e.elim (fun k => absurd k hab) (fun k => k)), fun e => .inr (hfw.1 e)⟩); have HB := before_any b (((hGA.call c4).call c5).call c6) hIb; clear HR))
          | (go_at_call 20; go_must (refine HB.mono ?_; rintro e w7 ⟨v7, lb, rfl, hv7, hB7, c7⟩; obtain ⟨ab, cb, rfl, hI7⟩ := hv7.at_; clear HB))
          | fail)
        have hb7 := (hb5.keep c6 (fun e => e)).keep c7 (fun e => e)
        have hG7 := (((hGA.call c4).call c5).call c6).call c7
        have C7 : Chg w w7 No := (((CA.tr c4).tr c5).tr c6).tr c7
        have hin : ∀ x, x ∈ lb ↔ Way E x b := fun x => by
          rw [hB7.2 x]
          constructor
          · rintro ⟨hne, e | e⟩
            · exact absurd e hne
            · exact e
          · exact fun e => ⟨fun k => hNR b (k ▸ e), .inr e⟩
        have hlen4 : lb.length ≤ 4096 := by
          obtain ⟨L, hL1, hL2⟩ := few_sec
          refine Nat.le_trans (nodup_len lb L (hB7.1.imp fun {u v} h => by omega) fun x hx => hL2 x (((hin x).1 hx).sec hSec).1) hL1
        have hback : ∀ k : Nat, k < 4096 → (s5.getD k false = true ↔ (k : Int) ∈ lb) := fun k hk => by
          have h1 := hw5 (k : Int) ⟨by omega, by omega⟩
          rw [Int.toNat_natCast] at h1
          rw [h1, dir_back hL, hin]
        have HF := free_any b hG7 hIb
        have HX2 := hid (And.intro hb7 (And.intro hI7 (And.intro C7 hB7)))
        clear hb7 hG7 C7 hb5 hw5 hv7 hGA hAA CA c4 c5 c6 c7 hf hf5 hf6 hfw q6 hI7 hB7
        generalize hLB : lb.length = LB at *
        go_loopw [14, 15] (fun nn i wr => ∃ (k n : Nat), k ≤ 4096 ∧ nn = .int .i64 n ∧ i = .int .i64 k ∧ Ahead lb (k : Int) n ∧ w7 = wr) (fun _ i _ => 4096 - (intOf i).toNat)
        case atStart => exact ⟨0, 0, by omega, rfl, rfl, ⟨by omega, fun j hj => by omega, fun j _ hj => by
          have := (((hin (lb.getD j 0)).1 (by rw [getD_lt hj]; exact List.getElem_mem _)).sec hSec).1.1
          exact this⟩, rfl⟩
        case round =>
          obtain ⟨k, n, hk, rfl, rfl, hAh, rfl⟩ := hrel
          have hnl := hAh.1
          rw [hLB] at hnl
          by_cases hlt2 : k < 4096
          · have hcell := HX2.out.1.cell (j := k) hlt2
            have hbk := hback k hlt2
            have hk0 : (0 : Int) ≤ (k : Int) := by omega
            have hk1 : (k : Int) < 4096 := by omega
            cases hsk : s5.getD k false with
            | true =>
              rw [hsk] at hcell hbk
              obtain ⟨hn1, hn2, hAh2⟩ := hAh.hit HX2.out.2.2.2.1 (hbk.1 rfl)
              rcases HX2.out.2.1 with h0 | ⟨g7, rfl, hg7, h7⟩
              · rw [h0] at hn1; simp at hn1
              have hc7 := h7 n hn1
              rw [hn2] at hc7
              rw [hLB] at hn1
              have hn3 : ¬ (n : Int) ≥ (LB : Int) := by omega
              have hn4 : (0 : Int) ≤ (n : Int) := by omega
              have hn5 : (n : Int) < (LB : Int) := by omega
              clear hsk h7
              go_wp2_with fail
              go_roundw
              case rel => exact ⟨k + 1, n + 1, by omega, by go_num, by go_num, hAh2, by first | rfl | trivial⟩
              case measure => simp [intOf]; omega
            | false =>
              rw [hsk] at hcell hbk
              have hAh2 := hAh.miss (fun e => by have := hbk.2 e; cases this)
              clear hsk
              go_wp2_with fail
              go_roundw
              case rel => exact ⟨k + 1, n, by omega, rfl, by go_num, hAh2, by first | rfl | trivial⟩
              case measure => simp [intOf]; omega
          · obtain rfl : k = 4096 := by omega
            obtain rfl : n = LB := by rw [← hLB]; exact hAh.end_ fun x hx => (((hin x).1 hx).sec hSec).1.2
            rcases Nat.eq_zero_or_pos n with h0 | h0
            · subst h0
              have hemp : lb = [] := List.eq_nil_of_length_eq_zero hLB
              have hl00 := len0
              go_wp2_with (first
                | (go_at_call 27; go_must (refine HF.mono ?_; rintro e w8 ⟨r8, rfl, q8, rfl⟩; obtain rfl : r8 = true := q8.2 (fun x hx => by have := (hin x).2 (.one hx); rw [hemp] at this; simp at this)))
                | fail)
              go_ret
              exact ⟨rfl, HX2.out.2.2.1.below⟩
            · have hne0 : ((n : Int) == 0) = false := by simp; omega
              go_wp2_with (first
                | (go_at_call 27; go_must (refine HF.mono ?_; rintro e w8 ⟨r8, rfl, q8, rfl⟩; obtain rfl : r8 = false := (by cases r8; rfl; obtain ⟨c, hc⟩ := ((hin _).1 (List.getElem_mem (show 0 < lb.length by omega))).last; exact absurd hc (q8.1 rfl c))))
                | fail)
              go_ret
              exact ⟨rfl, HX2.out.2.2.1.below⟩

end Go.Proofs.Ytjnafcogdakbbaa
