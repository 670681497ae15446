/-
  BlocksNothing: without a reader each call answers ErrArg.
-/
import Derived.Test.YtjlhmojofjkkdaaD2
namespace Go.Proofs.Ytjlhmojofjkkdaa
open Go.RowKit Go.Shelf

attribute [local go_sem] Oper.semAt_some

theorem nil_eq (w : World) : (binOp .eql 67 .nilIface .nilIface).run Try.prog w = .ok (.bool true) w := by kernel_rfl

set_option maxRecDepth 100000 in
set_option maxHeartbeats 1000000 in
theorem Find_nil (z : List Int) (k : Int) (w : World) :
    Calls Try.prog 13 #[.nilIface, .agg (NA z), .int .i64 k] w fun e w' => e = .returned (.tuple #[.int .i64 0, .int .i64 1]) ∧ Below w.heap.size w w' := by
  have hqn := nil_eq
  have hqg : ∀ w, (eqGuard .eql 67 (.tmp 12) (.const .nilIface) .nilIface .nilIface).run Try.prog w = .ok () w := fun _ => by rfl
  have HB : Hid (Below w.heap.size w (w.alloc (.cells (NA z) 29))) := hid ((Below.refl _ _).alloc (Nat.le_refl _) _)
  go_enter Try.func13, Try.ntmps13
  go_wp2_with fail
  exact bodyPost_ret (results_2t Try.results13 _ _) rfl ⟨rfl, HB.out⟩

set_option maxRecDepth 100000 in
set_option maxHeartbeats 1000000 in
theorem Need_nil (z : List Int) (a : Option Addr) (n c : Nat) (w : World) :
    Calls Try.prog 21 #[.nilIface, .agg (NA z), .slice a n c] w fun e w' => e = .returned (.tuple #[.int .i64 0, .int .i64 1]) ∧ Below w.heap.size w w' := by
  have hqn := nil_eq
  have hqg : ∀ w, (eqGuard .eql 67 (.tmp 23) (.const .nilIface) .nilIface .nilIface).run Try.prog w = .ok () w := fun _ => by rfl
  have HB : Hid (Below w.heap.size w (w.alloc (.cells (NA z) 29))) := hid ((Below.refl _ _).alloc (Nat.le_refl _) _)
  go_enter Try.func21, Try.ntmps21
  go_wp2_with fail
  exact bodyPost_ret (results_2t Try.results21 _ _) rfl ⟨rfl, HB.out⟩

set_option maxRecDepth 100000 in
set_option maxHeartbeats 1000000 in
theorem Tables_nil (z : List Int) (w : World) :
    Calls Try.prog 17 #[.nilIface, .agg (NA z)] w fun e w' => e = .returned (.tuple #[.slice none 0 0, .int .i64 1]) ∧ Below w.heap.size w w' := by
  obtain ⟨n⟩ : Nonempty Nat := ⟨3⟩
  refine (callsIn_wide (n := n)).1 ?_
  have hqn := nil_eq
  have hqg : ∀ w, (eqGuard .eql 67 (.tmp 11) (.const .nilIface) .nilIface .nilIface).run Try.prog w = .ok () w := fun _ => by rfl
  have HB : Hid (Below w.heap.size w (w.alloc (.cells (NA z) 29))) := hid ((Below.refl _ _).alloc (Nat.le_refl _) _)
  refine callsIn_of_wp_marks Try.func17 rfl trivial ?_ rfl
  simp only [Try.ntmps17, List.size_toArray, List.length_cons, List.length_nil, Nat.reduceAdd, Nat.reduceSub, Array.replicate_succ, Array.replicate_zero, List.push_toArray, List.append_toArray, List.nil_append, List.cons_append]
  gi_wp2
  exact ⟨_, results_2t Try.results17 _ _, rfl, HB.out⟩

set_option maxRecDepth 100000 in
set_option maxHeartbeats 1000000 in
theorem Spots_nil (z : List Int) (w : World) :
    Calls Try.prog 15 #[.nilIface, .agg (NA z)] w fun e w' => e = .returned (.tuple #[.slice none 0 0, .int .i64 1]) ∧ Below w.heap.size w w' := by
  obtain ⟨n⟩ : Nonempty Nat := ⟨3⟩
  refine (callsIn_wide (n := n)).1 ?_
  have hqn := nil_eq
  have hqg : ∀ w, (eqGuard .eql 67 (.tmp 9) (.const .nilIface) .nilIface .nilIface).run Try.prog w = .ok () w := fun _ => by rfl
  refine callsIn_of_wp_marks Try.func15 rfl trivial ?_ rfl
  simp only [Try.ntmps15, List.size_toArray, List.length_cons, List.length_nil, Nat.reduceAdd, Nat.reduceSub, Array.replicate_succ, Array.replicate_zero, List.push_toArray, List.append_toArray, List.nil_append, List.cons_append]
  gi_wp2
  obtain ⟨X, hX⟩ : ∃ y, y = ((w.alloc (.cells (NA z) 29)).alloc (.cells #[.slice none 0 0] 44)).alloc (.cells #[.int .i64 1] 23) := ⟨_, rfl⟩
  have X1 : X.heap[w.heap.size + 1]? = some (.cells #[.slice none 0 0] 44 (0, 0)) := by rw [hX, Below.heap_alloc _ _ _ (by simp)]; exact heap_alloc2_new w _ _
  have X2 : X.heap[w.heap.size + 1 + 1]? = some (.cells #[.int .i64 1] 23 (0, 0)) := by rw [hX]; have := heap_alloc2_new (w.alloc (.cells (NA z) 29)) (.cells #[.slice none 0 0] 44) (.cells #[.int .i64 1] 23); simpa using this
  have Y1 : X.cell? ⟨w.heap.size + 1, 0, none⟩ = some (.slice none 0 0) := by rw [cell_of_row _ _ _ _ _ _ X1]; rfl
  have Y2 : X.cell? ⟨w.heap.size + 1 + 1, 0, none⟩ = some (.int .i64 1) := by rw [cell_of_row _ _ _ _ _ _ X2]; rfl
  have XB : Below w.heap.size w X := by rw [hX]; exact (((Below.refl _ _).alloc (Nat.le_refl _) _).alloc (by simp) _).alloc (by simp; omega) _
  rw [← hX]
  exact ⟨_, results_2 Try.results15 _ _ (w.heap.size + 1) (w.heap.size + 1 + 1) _ _ rfl rfl (run_slice1 _ _ _ _ _ Y1) (run_errno _ _ _ Y2), rfl, XB⟩

set_option maxRecDepth 100000 in
set_option maxHeartbeats 1000000 in
theorem nothing_walk (z : List Int) (a : Option Addr) (c : Nat) (ks : List Int) (w : World) (hz : z.length = 18) (hks : LI w a ks) (hn : ks.length ≤ 9223372036854775807) :
    Calls Try.prog 8 #[.agg (NA z), .slice a ks.length c] w fun e w' => e = .returned (.bool true) ∧ Below w.heap.size w w' := by
  obtain ⟨W, hW⟩ : ∃ y, y = w.alloc (.cells (NA z) 29) := ⟨_, rfl⟩
  have HB : Hid (Below w.heap.size w W) := by rw [hW]; exact (Below.refl _ _).alloc (Nat.le_refl _) _
  have H0 : Hid (W.heap[w.heap.size]? = some (.cells (NA z) 29 (0, 0))) := by rw [hW]; exact heap_alloc_new _ _
  obtain ⟨N, hN⟩ : ∃ N, N = ks.length := ⟨_, rfl⟩
  have HN := hid hN
  rw [← hN] at hn
  rw [← hN]
  clear hN
  have HL := hid (fun (X : World) (hX : Below W.heap.size W X) => (hX.block _ (slt H0.out)).trans H0.out)
  go_enter Try.func8, Try.ntmps8
  go_upto_region 1 with fail
  rw [← hW]
  clear hW
  go_upto_region 4 with (first
    | (go_at_call 9; go_must (refine (known_any W).mono ?_; rintro e x1 ⟨rfl, hb⟩; have X1 := hid hb; clear hb)))
  go_upto_region 5 with (first
    | (refine load_R rfl 29 (.tmp 2) rfl w.heap.size rfl 29 (NA z) _ (HL.out _ X1.out) Try.underlying29 rfl (by rw [szI, NA_size, hz]) ?_)
    | (go_at_call 15; go_must (refine (Spots_nil z x1).mono ?_; rintro e x2 ⟨rfl, hb⟩; have X2 := hid (btr X1.out hb X1.out.size); clear hb)))
  go_upto_region 6 with (first
    | (refine load_R rfl 29 (.tmp 2) rfl w.heap.size rfl 29 (NA z) _ (HL.out _ X2.out) Try.underlying29 rfl (by rw [szI, NA_size, hz]) ?_)
    | (go_at_call 17; go_must (refine (Tables_nil z x2).mono ?_; rintro e x3 ⟨rfl, hb⟩; have X3 := hid (btr X2.out hb X2.out.size); clear hb)))
  go_upto_region 7 with (first
    | (refine load_R rfl 29 (.tmp 2) rfl w.heap.size rfl 29 (NA z) _ (HL.out _ X3.out) Try.underlying29 rfl (by rw [szI, NA_size, hz]) ?_)
    | (go_at_call 21; go_must (refine (Need_nil z a N c x3).mono ?_; rintro e x4 ⟨rfl, hb⟩; have X4 := hid (btr X3.out hb X3.out.size); clear hb)))
  go_upto_region 10 with fail
  go_loopw [12] (fun i wr => ∃ (k : Nat), k ≤ N ∧ i = .int .i64 k ∧ Hid (Below W.heap.size W wr)) (fun i _ => N - (intOf i).toNat)
  case atStart => exact ⟨0, by omega, rfl, X4⟩
  case round =>
    obtain ⟨k, hk, rfl, HBr⟩ := hrel
    by_cases hlt : k < N
    · obtain ⟨x, hx⟩ : ∃ x, ks[k]? = some x := ⟨_, List.getElem?_eq_getElem (by rw [← HN.out]; exact hlt)⟩
      obtain ⟨g, o, ha, hcg⟩ := hks k x hx
      subst ha
      have hgw := World.block_lt_of_cell? _ _ hcg
      have hcp : wr.cell? ⟨g, o + k, none⟩ = some (.int .i64 x) := by rw [HBr.out.cell (p := ⟨g, o + k, none⟩) (Nat.lt_of_lt_of_le hgw HB.out.size), HB.out.cell (p := ⟨g, o + k, none⟩) hgw]; exact hcg
      have j0 : (0 : Int) ≤ (k : Int) := by omega
      have j1 : (k : Int) < (N : Int) := by omega
      go_upto_region 12 with fail
      refine wp_region_noPanic ?_
      refine wp_region_held_drew (S := fun w' => w'.heap[w.heap.size]? = some (.cells (NA z) 29 (0, 0)) ∧ w'.cell? ⟨g, o + k, none⟩ = some (.int .i64 x) ∧ Below W.heap.size W w') (by kernel_rfl) ⟨HL.out _ (below_drew HBr.out), hcp, below_drew HBr.out⟩ (fun hHeld => ?_)
      refine takeR 0 65 29 (.tmp 2) w.heap.size 29 (NA z) _ rfl (by kernel_rfl) (by kernel_rfl) (by kernel_rfl) rfl rfl rfl Try.underlying29 rfl (by rw [szI, NA_size, hz]) (by rfl) (fun _ _ _ h => h) hHeld (fun W' hw' => hw'.1) ?_
      simp only [List.setIfInBounds_toArray, List.set_cons_zero, List.set_cons_succ]
      refine takeVal 1 66 (.slice (some ⟨g, o, none⟩) N c) rfl (by kernel_rfl) (by kernel_rfl) (by kernel_rfl) rfl (by rfl) (fun _ _ _ h => h) hHeld (fun W' hw' => rfl) ?_
      simp only [List.setIfInBounds_toArray, List.set_cons_zero, List.set_cons_succ]
      refine takeVal 2 67 (.int .i64 (k : Int)) rfl (by kernel_rfl) (by kernel_rfl) (by kernel_rfl) rfl (by rfl) (fun _ _ _ h => h) hHeld (fun W' hw' => rfl) ?_
      simp only [List.setIfInBounds_toArray, List.set_cons_zero, List.set_cons_succ]
      refine takeVal 3 68 (.pointer (some ⟨g, o + k, none⟩)) rfl (by kernel_rfl) (by kernel_rfl) (by kernel_rfl) rfl (by rfl) (fun _ _ _ h => h) hHeld (fun W' hw' => by go_simp) ?_
      simp only [List.setIfInBounds_toArray, List.set_cons_zero, List.set_cons_succ]
      refine takeVal 4 69 (.int .i64 x) rfl (by kernel_rfl) (by kernel_rfl) (by kernel_rfl) rfl (by rfl) (fun _ _ _ h => h) hHeld (fun W' hw' => by have hq : W'.cell? ⟨g, o + k, none⟩ = some (.int .i64 x) := hw'.2.1; go_simp) ?_
      simp only [List.setIfInBounds_toArray, List.set_cons_zero, List.set_cons_succ]
      refine step1 5 (by kernel_rfl) ?_
      refine stCall 5 70 13 #[.nilIface, .agg (NA z), .int .i64 x] _ rfl rfl (by rfl) (by go_simp) (Find_nil z x _) ?_
      rintro e x5 ⟨rfl, hb5⟩
      have h5 : x5.heap[w.heap.size]? = some (.cells (NA z) 29 (0, 0)) ∧ x5.cell? ⟨g, o + k, none⟩ = some (.int .i64 x) ∧ Below W.heap.size W x5 := ⟨by rw [hb5.block _ (slt hHeld.1)]; exact hHeld.1, by rw [hb5.cell (p := ⟨g, o + k, none⟩) (World.block_lt_of_cell? _ _ hHeld.2.1)]; exact hHeld.2.1, btr hHeld.2.2 hb5 hHeld.2.2.size⟩
      refine ⟨_, rfl, h5, ?_⟩
      simp only [List.setIfInBounds_toArray, List.set_cons_zero, List.set_cons_succ]
      refine takeVal 6 64 (.tuple #[.int .i64 0, .int .i64 1]) rfl (by kernel_rfl) (by kernel_rfl) (by kernel_rfl) rfl (by rfl) (fun _ _ _ h => h) h5 (fun W' hw' => rfl) ?_
      simp only [List.setIfInBounds_toArray, List.set_cons_zero, List.set_cons_succ]
      refine takeVal 7 71 (.int .i64 0) rfl (by kernel_rfl) (by kernel_rfl) (by kernel_rfl) rfl (by rfl) (fun _ _ _ h => h) h5 (fun W' hw' => rfl) ?_
      simp only [List.setIfInBounds_toArray, List.set_cons_zero, List.set_cons_succ]
      refine takeVal 8 72 (.int .i64 1) rfl (by kernel_rfl) (by kernel_rfl) (by kernel_rfl) rfl (by rfl) (fun _ _ _ h => h) h5 (fun W' hw' => rfl) ?_
      simp only [List.setIfInBounds_toArray, List.set_cons_zero, List.set_cons_succ]
      refine takeVal 9 13 (.int .i64 0) rfl (by kernel_rfl) (by kernel_rfl) (by kernel_rfl) rfl (by rfl) (fun _ _ _ h => h) h5 (fun W' hw' => rfl) ?_
      simp only [List.setIfInBounds_toArray, List.set_cons_zero, List.set_cons_succ]
      refine takeVal 10 14 (.int .i64 1) rfl (by kernel_rfl) (by kernel_rfl) (by kernel_rfl) rfl (by rfl) (fun _ _ _ h => h) h5 (fun W' hw' => rfl) ?_
      simp only [List.setIfInBounds_toArray, List.set_cons_zero, List.set_cons_succ]
      refine wpAnyH_done (by kernel_rfl) ?_ _
      refine NoPanic.normal ?_
      have H5 := hid h5.2.2
      clear h5 hb5 hHeld hcp hcg
      go_wp2_with fail
      exact ⟨⟨k + 1, by omega, by go_num, H5⟩, by simp [intOf]; omega⟩
    · obtain rfl : k = N := by omega
      have hge : ¬ ((k : Int) < (k : Int)) := by omega
      go_wp2_with fail
      go_ret
      exact ⟨rfl, btr HB.out HBr.out HB.out.size⟩

end Go.Proofs.Ytjlhmojofjkkdaa
