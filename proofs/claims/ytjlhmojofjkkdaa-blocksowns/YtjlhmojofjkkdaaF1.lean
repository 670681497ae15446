/-
  The statements' own comparisons of lists.
-/
import Derived.Test.YtjlhmojofjkkdaaE2
-- may lack
namespace Go.Proofs.Ytjlhmojofjkkdaa
open Go.RowKit Go.Shelf

/-- Blocks at a slice. -/
def PI (w : World) (a : Option Addr) (l : List Spt) : Prop := ∀ (j : Nat) x, l[j]? = some x → ∃ g o, a = some ⟨g, o, none⟩ ∧ w.cell? ⟨g, o + j * 2, none⟩ = some (.int .i64 x.idx) ∧ w.cell? ⟨g, o + j * 2 + 1, none⟩ = some (.int .i64 x.sec)
theorem flatS_get (l : List Spt) : ∀ (j : Nat) (x : Spt), l[j]? = some x → (flatS l)[j * 2]? = some (.int .i64 x.idx) ∧ (flatS l)[j * 2 + 1]? = some (.int .i64 x.sec) := by
  induction l with
  | nil => intro j x h; simp at h
  | cons y l ih =>
    intro j x h
    have e : flatS (y :: l) = [.int .i64 y.idx, .int .i64 y.sec] ++ flatS l := rfl
    rw [e]
    cases j with
    | zero => simp at h; subst h; simp
    | succ j =>
      have := ih j x (by simpa using h)
      rw [List.getElem?_append_right (by simp; omega), List.getElem?_append_right (by simp; omega)]
      simpa [show (j + 1) * 2 - 2 = j * 2 by omega, show (j + 1) * 2 + 1 - 2 = j * 2 + 1 by omega] using this
theorem SOwn.pi {w : World} {B : Nat} {v : Value} {l : List Spt} (h : SOwn w B v l) : ∃ a c, v = .slice a l.length c ∧ PI w a l := by
  rcases h.2 with ⟨rfl, h0⟩ | ⟨g, cap, cur, rfl, hb, hg, hc, _⟩
  · obtain rfl : l = [] := List.eq_nil_of_length_eq_zero h0
    exact ⟨none, 0, rfl, fun j x hj => by simp at hj⟩
  · refine ⟨_, cap, rfl, fun j x hj => ⟨g, 0, rfl, ?_, ?_⟩⟩
    · have := World.ownsRow.cells h (g := g) rfl (j * 2) _ (flatS_get l j x hj).1
      rw [addr_add] at this; exact this
    · have := World.ownsRow.cells h (g := g) rfl (j * 2 + 1) _ (flatS_get l j x hj).2
      rw [addr_add] at this; exact this
theorem IOwn.li {w : World} {B : Nat} {v : Value} {l : List Int} (h : IOwn w B v l) : ∃ a c, v = .slice a l.length c ∧ LI w a l := by
  rcases h.2 with ⟨rfl, h0⟩ | ⟨g, cap, cur, rfl, hb, hg, hc, _⟩
  · obtain rfl : l = [] := List.eq_nil_of_length_eq_zero h0
    exact ⟨none, 0, rfl, fun j x hj => by simp at hj⟩
  · refine ⟨_, cap, rfl, fun j x hj => ⟨g, 0, rfl, ?_⟩⟩
    have := World.ownsRow.cells h (g := g) rfl j (.int .i64 x) (by rw [List.getElem?_map, hj]; rfl)
    rw [addr_add] at this; exact this
theorem PI.below {w w' : World} {a : Option Addr} {l : List Spt} (h : PI w a l) (hb : Below w.heap.size w w') : PI w' a l := fun j x hj => by
  obtain ⟨g, o, h1, h2, h3⟩ := h j x hj
  exact ⟨g, o, h1, by rw [hb.cell (p := ⟨g, o + j * 2, none⟩) (World.block_lt_of_cell? _ _ h2)]; exact h2, by rw [hb.cell (p := ⟨g, o + j * 2 + 1, none⟩) (World.block_lt_of_cell? _ _ h3)]; exact h3⟩

set_option maxRecDepth 100000 in
set_option maxHeartbeats 1000000 in
theorem intsEq_any (a b : Option Addr) (c d : Nat) (l : List Int) (w : World) (ha : LI w a l) (hb : LI w b l) (hn : l.length ≤ 9223372036854775807) :
    Calls Try.prog 20 #[.slice a l.length c, .slice b l.length d] w fun e w' => e = .returned (.bool true) ∧ Below w.heap.size w w' := by
  obtain ⟨N, hN⟩ : ∃ N, N = l.length := ⟨_, rfl⟩
  have HN := hid hN
  rw [← hN] at hn
  rw [← hN]
  clear hN
  go_enter Try.func20, Try.ntmps20
  go_upto_region 4 with fail
  go_loopw [5] (fun i wr => ∃ (k : Nat), k ≤ N ∧ i = .int .i64 k ∧ Hid (Below w.heap.size w wr)) (fun i _ => N - (intOf i).toNat)
  case atStart => exact ⟨0, by omega, rfl, hid (Below.refl _ _)⟩
  case round =>
    obtain ⟨k, hk, rfl, HBr⟩ := hrel
    by_cases hlt : k < N
    · obtain ⟨x, hx⟩ : ∃ x, l[k]? = some x := ⟨_, List.getElem?_eq_getElem (by rw [← HN.out]; exact hlt)⟩
      obtain ⟨g, o, h1, h2⟩ := ha k x hx
      obtain ⟨g', o', h1', h2'⟩ := hb k x hx
      subst h1 h1'
      have j0 : (0 : Int) ≤ (k : Int) := by omega
      have j1 : (k : Int) < (N : Int) := by omega
      go_upto_region 6 with fail
      refine wp_region_noPanic ?_
      refine wp_region_held_drew (S := fun w' => w'.cell? ⟨g, o + k, none⟩ = some (.int .i64 x) ∧ w'.cell? ⟨g', o' + k, none⟩ = some (.int .i64 x) ∧ Below w.heap.size w w') (by kernel_rfl) ⟨(HBr.out.cell (p := ⟨g, o + k, none⟩) (World.block_lt_of_cell? _ _ h2)).trans h2, (HBr.out.cell (p := ⟨g', o' + k, none⟩) (World.block_lt_of_cell? _ _ h2')).trans h2', below_drew HBr.out⟩ (fun hHeld => ?_)
      refine takeVal 0 17 (.slice (some ⟨g, o, none⟩) N c) rfl (by kernel_rfl) (by kernel_rfl) (by kernel_rfl) rfl (by rfl) (fun _ _ _ h => h) hHeld (fun W' hw' => rfl) ?_
      simp only [List.setIfInBounds_toArray, List.set_cons_zero, List.set_cons_succ]
      refine takeVal 1 18 (.int .i64 (k : Int)) rfl (by kernel_rfl) (by kernel_rfl) (by kernel_rfl) rfl (by rfl) (fun _ _ _ h => h) hHeld (fun W' hw' => rfl) ?_
      simp only [List.setIfInBounds_toArray, List.set_cons_zero, List.set_cons_succ]
      refine takeVal 2 19 (.pointer (some ⟨g, o + k, none⟩)) rfl (by kernel_rfl) (by kernel_rfl) (by kernel_rfl) rfl (by rfl) (fun _ _ _ h => h) hHeld (fun W' hw' => by go_simp) ?_
      simp only [List.setIfInBounds_toArray, List.set_cons_zero, List.set_cons_succ]
      refine takeVal 3 20 (.int .i64 x) rfl (by kernel_rfl) (by kernel_rfl) (by kernel_rfl) rfl (by rfl) (fun _ _ _ h => h) hHeld (fun W' hw' => by have hq : W'.cell? ⟨g, o + k, none⟩ = some (.int .i64 x) := hw'.1; go_simp) ?_
      simp only [List.setIfInBounds_toArray, List.set_cons_zero, List.set_cons_succ]
      refine takeVal 4 21 ((.slice (some ⟨g', o', none⟩) N d)) rfl (by kernel_rfl) (by kernel_rfl) (by kernel_rfl) rfl (by rfl) (fun _ _ _ h => h) hHeld (fun W' hw' => rfl) ?_
      simp only [List.setIfInBounds_toArray, List.set_cons_zero, List.set_cons_succ]
      refine takeVal 5 22 (.int .i64 (k : Int)) rfl (by kernel_rfl) (by kernel_rfl) (by kernel_rfl) rfl (by rfl) (fun _ _ _ h => h) hHeld (fun W' hw' => rfl) ?_
      simp only [List.setIfInBounds_toArray, List.set_cons_zero, List.set_cons_succ]
      refine takeVal 6 23 (.pointer (some ⟨g', o' + k, none⟩)) rfl (by kernel_rfl) (by kernel_rfl) (by kernel_rfl) rfl (by rfl) (fun _ _ _ h => h) hHeld (fun W' hw' => by go_simp) ?_
      simp only [List.setIfInBounds_toArray, List.set_cons_zero, List.set_cons_succ]
      refine takeVal 7 24 (.int .i64 x) rfl (by kernel_rfl) (by kernel_rfl) (by kernel_rfl) rfl (by rfl) (fun _ _ _ h => h) hHeld (fun W' hw' => by have hq : W'.cell? ⟨g', o' + k, none⟩ = some (.int .i64 x) := hw'.2.1; go_simp) ?_
      simp only [List.setIfInBounds_toArray, List.set_cons_zero, List.set_cons_succ]
      refine takeVal 8 25 (.bool false) rfl (by kernel_rfl) (by kernel_rfl) (by kernel_rfl) rfl (by rfl) (fun _ _ _ h => h) hHeld (fun W' hw' => by go_simp) ?_
      simp only [List.setIfInBounds_toArray, List.set_cons_zero, List.set_cons_succ]
      refine wpAnyH_done (by kernel_rfl) ?_ _
      refine NoPanic.normal ?_
      have H5 := hid hHeld.2.2
      clear hHeld
      go_wp2_with fail
      exact ⟨⟨k + 1, by omega, by go_num, H5⟩, by simp [intOf]; omega⟩
    · obtain rfl : k = N := by omega
      have hge : ¬ ((k : Int) < (k : Int)) := by omega
      go_wp2_with fail
      go_ret
      exact ⟨rfl, HBr.out⟩

set_option maxRecDepth 100000 in
set_option maxHeartbeats 1000000 in
theorem spotsEq_any (a b : Option Addr) (c d : Nat) (l : List Spt) (w : World) (ha : PI w a l) (hb : PI w b l) (hn : l.length ≤ 9223372036854775807) :
    Calls Try.prog 19 #[.slice a l.length c, .slice b l.length d] w fun e w' => e = .returned (.bool true) ∧ Below w.heap.size w w' := by
  obtain ⟨N, hN⟩ : ∃ N, N = l.length := ⟨_, rfl⟩
  have HN := hid hN
  rw [← hN] at hn
  rw [← hN]
  clear hN
  go_enter Try.func19, Try.ntmps19
  go_upto_region 4 with fail
  go_loopw [5] (fun i wr => ∃ (k : Nat), k ≤ N ∧ i = .int .i64 k ∧ Hid (Below w.heap.size w wr)) (fun i _ => N - (intOf i).toNat)
  case atStart => exact ⟨0, by omega, rfl, hid (Below.refl _ _)⟩
  case round =>
    obtain ⟨k, hk, rfl, HBr⟩ := hrel
    by_cases hlt : k < N
    · obtain ⟨x, hx⟩ : ∃ x, l[k]? = some x := ⟨_, List.getElem?_eq_getElem (by rw [← HN.out]; exact hlt)⟩
      obtain ⟨g, o, h1, h2, h3⟩ := ha k x hx
      obtain ⟨g', o', h1', h2', h3'⟩ := hb k x hx
      subst h1 h1'
      have j0 : (0 : Int) ≤ (k : Int) := by omega
      have j1 : (k : Int) < (N : Int) := by omega
      go_upto_region 6 with fail
      refine wp_region_noPanic ?_
      refine wp_region_held_drew (S := fun w' => w'.cell? ⟨g, o + k * 2, none⟩ = some (.int .i64 x.idx) ∧ w'.cell? ⟨g, o + k * 2 + 1, none⟩ = some (.int .i64 x.sec) ∧ w'.cell? ⟨g', o' + k * 2, none⟩ = some (.int .i64 x.idx) ∧ w'.cell? ⟨g', o' + k * 2 + 1, none⟩ = some (.int .i64 x.sec) ∧ Below w.heap.size w w') (by kernel_rfl) ⟨(HBr.out.cell (p := ⟨g, o + k * 2, none⟩) (World.block_lt_of_cell? _ _ h2)).trans h2, (HBr.out.cell (p := ⟨g, o + k * 2 + 1, none⟩) (World.block_lt_of_cell? _ _ h3)).trans h3, (HBr.out.cell (p := ⟨g', o' + k * 2, none⟩) (World.block_lt_of_cell? _ _ h2')).trans h2', (HBr.out.cell (p := ⟨g', o' + k * 2 + 1, none⟩) (World.block_lt_of_cell? _ _ h3')).trans h3', below_drew HBr.out⟩ (fun hHeld => ?_)
      refine takeVal 0 17 (.slice (some ⟨g, o, none⟩) N c) rfl (by kernel_rfl) (by kernel_rfl) (by kernel_rfl) rfl (by rfl) (fun _ _ _ h => h) hHeld (fun W' hw' => rfl) ?_
      simp only [List.setIfInBounds_toArray, List.set_cons_zero, List.set_cons_succ]
      refine takeVal 1 18 (.int .i64 (k : Int)) rfl (by kernel_rfl) (by kernel_rfl) (by kernel_rfl) rfl (by rfl) (fun _ _ _ h => h) hHeld (fun W' hw' => rfl) ?_
      simp only [List.setIfInBounds_toArray, List.set_cons_zero, List.set_cons_succ]
      refine takeVal 2 19 (.pointer (some ⟨g, o + k * 2, none⟩)) rfl (by kernel_rfl) (by kernel_rfl) (by kernel_rfl) rfl (by rfl) (fun _ _ _ h => h) hHeld (fun W' hw' => by go_simp) ?_
      simp only [List.setIfInBounds_toArray, List.set_cons_zero, List.set_cons_succ]
      refine takeVal 3 20 (.agg #[.int .i64 x.idx, .int .i64 x.sec]) rfl (by kernel_rfl) (by kernel_rfl) (by kernel_rfl) rfl (by rfl) (fun _ _ _ h => h) hHeld (fun W' hw' => by have hq : W'.cell? ⟨g, o + k * 2, none⟩ = some (.int .i64 x.idx) := hw'.1; have hq2 : W'.cell? ⟨g, o + k * 2 + 1, none⟩ = some (.int .i64 x.sec) := hw'.2.1; go_simp) ?_
      simp only [List.setIfInBounds_toArray, List.set_cons_zero, List.set_cons_succ]
      refine takeVal 4 21 ((.slice (some ⟨g', o', none⟩) N d)) rfl (by kernel_rfl) (by kernel_rfl) (by kernel_rfl) rfl (by rfl) (fun _ _ _ h => h) hHeld (fun W' hw' => rfl) ?_
      simp only [List.setIfInBounds_toArray, List.set_cons_zero, List.set_cons_succ]
      refine takeVal 5 22 (.int .i64 (k : Int)) rfl (by kernel_rfl) (by kernel_rfl) (by kernel_rfl) rfl (by rfl) (fun _ _ _ h => h) hHeld (fun W' hw' => rfl) ?_
      simp only [List.setIfInBounds_toArray, List.set_cons_zero, List.set_cons_succ]
      refine takeVal 6 23 (.pointer (some ⟨g', o' + k * 2, none⟩)) rfl (by kernel_rfl) (by kernel_rfl) (by kernel_rfl) rfl (by rfl) (fun _ _ _ h => h) hHeld (fun W' hw' => by go_simp) ?_
      simp only [List.setIfInBounds_toArray, List.set_cons_zero, List.set_cons_succ]
      refine takeVal 7 24 (.agg #[.int .i64 x.idx, .int .i64 x.sec]) rfl (by kernel_rfl) (by kernel_rfl) (by kernel_rfl) rfl (by rfl) (fun _ _ _ h => h) hHeld (fun W' hw' => by have hq : W'.cell? ⟨g', o' + k * 2, none⟩ = some (.int .i64 x.idx) := hw'.2.2.1; have hq2 : W'.cell? ⟨g', o' + k * 2 + 1, none⟩ = some (.int .i64 x.sec) := hw'.2.2.2.1; go_simp) ?_
      simp only [List.setIfInBounds_toArray, List.set_cons_zero, List.set_cons_succ]
      refine takeVal 8 25 (.bool false) rfl (by kernel_rfl) (by kernel_rfl) (by kernel_rfl) rfl (by rfl) (fun _ _ _ h => h) hHeld (fun W' hw' => by go_simp) ?_
      simp only [List.setIfInBounds_toArray, List.set_cons_zero, List.set_cons_succ]
      refine wpAnyH_done (by kernel_rfl) ?_ _
      refine NoPanic.normal ?_
      have H5 := hid hHeld.2.2.2.2
      clear hHeld
      go_wp2_with fail
      exact ⟨⟨k + 1, by omega, by go_num, H5⟩, by simp [intOf]; omega⟩
    · obtain rfl : k = N := by omega
      have hge : ¬ ((k : Int) < (k : Int)) := by omega
      go_wp2_with fail
      go_ret
      exact ⟨rfl, HBr.out⟩

end Go.Proofs.Ytjlhmojofjkkdaa
