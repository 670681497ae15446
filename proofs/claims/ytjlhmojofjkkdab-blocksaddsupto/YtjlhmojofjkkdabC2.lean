/-
  The way of a block of an inode.
-/
import Derived.Test.YtjlhmojofjkkdabC1
namespace Go.Proofs.Ytjlhmojofjkkdab
open Go.RowKit Go.Shelf

def bgW (z : List Int) (k : Int) : Int := if k < 12 then z.getD (4 + k.toNat) 0 else if k < 44 then z.getD 16 0 else z.getD 17 0
def plW (k : Int) : List Int := if k < 12 then [] else if k < 44 then [k - 12] else [(k - 44).tdiv 32, (k - 44) % 32]
def ptW (k : Int) : List Int := if k < 12 then [0, k] else if k < 44 then [1, 12, 0, k] else [2, 44, 1, k - (k - 44) % 32, 0, k]
/-- A way in memory. -/
structure WayAt (W : World) (a ap : Option Addr) (n c m cp : Nat) (k : Int) (lo : Nat) : Prop where
  len : n = (plW k).length
  pl : ∀ (j : Nat) p, (plW k)[j]? = some p → 0 ≤ p ∧ p < 32 ∧ ∃ g o, a = some ⟨g, o, none⟩ ∧ W.cell? ⟨g, o + j, none⟩ = some (.int .i64 p)
  plen : m * 2 = (ptW k).length
  pt : ∃ g, ap = some ⟨g, 0, none⟩ ∧ lo ≤ g ∧ W.heap[g]? = some (.cells (NA (ptW k)) 74 (0, 0))
  cpm : m = cp
theorem WayAt.below {W W' : World} {a ap : Option Addr} {n c m cp : Nat} {k : Int} {lo : Nat} (h : WayAt W a ap n c m cp k lo) (hb : Below W.heap.size W W') : WayAt W' a ap n c m cp k lo := by
  refine ⟨h.len, fun j p hp => ?_, h.plen, ?_, h.cpm⟩
  · obtain ⟨h1, h2, g, o, h3, h4⟩ := h.pl j p hp
    exact ⟨h1, h2, g, o, h3, by rw [hb.cell (p := ⟨g, o + j, none⟩) (World.block_lt_of_cell? _ _ h4)]; exact h4⟩
  · obtain ⟨g, h1, h2, h3⟩ := h.pt
    exact ⟨g, h1, h2, by rw [hb.block _ (slt h3)]; exact h3⟩
theorem szPart : (Try.prog.info? 74).map (·.size) = some 2 := by kernel_rfl
def Zw : Array Value := #[.int .i64 0, .slice none 0 0, .slice none 0 0]
theorem Zw_one : Zw.all (·.oneCell') = true := by simp [Zw, Value.oneCell']

set_option maxRecDepth 100000 in
set_option maxHeartbeats 2000000 in
theorem wayOf_bad (z : List Int) (k : Int) (w : World) (h : k < 0 ∨ 1068 ≤ k) :
    Calls Try.prog 17 #[.agg (NA z), .int .i64 k] w fun e w' => e = .returned (.tuple #[.agg Zw, .int .i64 90]) ∧ Below w.heap.size w w' := by
  have hW0 := fun w' => way_any k w'
  have hwr : wayR k = (0, 0, 0, 90) := if_pos h
  simp only [hwr, wayV] at hW0
  have hzw : ∀ w, (zeroValue 68).run Try.prog w = .ok (.agg Zw) w := fun w => by kernel_rfl
  have hbw : ∀ w, (Instr.build 68 #[]).run Try.prog w = .ok (.agg Zw) w := fun w => by kernel_rfl
  obtain ⟨W, hW⟩ : ∃ y, y = (w.alloc (.cells (NA z) 24)).alloc (.cells Zw 68) := ⟨_, rfl⟩
  have HB : Hid (Below w.heap.size w W) := by rw [hW]; exact ((Below.refl _ _).alloc (Nat.le_refl _) _).alloc (by simp) _
  have H1 : Hid (W.heap[w.heap.size + 1]? = some (.cells Zw 68 (0, 0))) := by rw [hW]; exact heap_alloc2_new w _ _
  clear h
  go_enter Try.func17, Try.ntmps17
  go_upto_region 1 with fail
  rw [← hW]
  clear hW
  go_wp2_with (first
    | (go_at_call 13; go_must (refine (hW0 _).mono ?_; rintro e w2 ⟨rfl, hw2⟩; subst hw2))
    | (refine store_R rfl 68 (.tmp 4) (.tmp 20) rfl (w.heap.size + 1) Zw rfl rfl 68 Zw H1.out (by rw [szWay]; rfl) rfl Zw_one ?_; intro w5 p5))
  exact bodyPost_ret (results_R Try.results17 _ _ (w.heap.size + 1) _ 68 _ _ Try.underlying68 rfl (by rw [szWay]; rfl) rfl rfl p5.here) rfl ⟨rfl, p5.below HB.out (by omega)⟩

set_option maxRecDepth 100000 in
set_option maxHeartbeats 2000000 in
theorem wayOf_ok (z : List Int) (k : Int) (w : World) (hz : z.length = 18) (h0 : 0 ≤ k) (h1 : k < 1068) :
    Calls Try.prog 17 #[.agg (NA z), .int .i64 k] w fun e w' => ∃ a ap n c m cp, e = .returned (.tuple #[.agg #[.int .i64 (bgW z k), .slice a n c, .slice ap m cp], .int .i64 0]) ∧ WayAt w' a ap n c m cp k w.heap.size ∧ Below w.heap.size w w' := by
  have hW0 := fun w' => way_any k w'
  have hzw : ∀ w, (zeroValue 68).run Try.prog w = .ok (.agg Zw) w := fun w => by kernel_rfl
  have hzq : ∀ w, (zeroValue 74).run Try.prog w = .ok (.agg #[.int .i64 0, .int .i64 0]) w := fun w => by kernel_rfl
  obtain ⟨W, hW⟩ : ∃ y, y = (w.alloc (.cells (NA z) 24)).alloc (.cells Zw 68) := ⟨_, rfl⟩
  have HB : Hid (Below w.heap.size w W) := by rw [hW]; exact ((Below.refl _ _).alloc (Nat.le_refl _) _).alloc (by simp) _
  have H0 : Hid (W.heap[w.heap.size]? = some (.cells (NA z) 24 (0, 0))) := by rw [hW]; exact heap_alloc2_old w _ _
  have H1 : Hid (W.heap[w.heap.size + 1]? = some (.cells Zw 68 (0, 0))) := by rw [hW]; exact heap_alloc2_new w _ _
  have hsz : W.heap.size = w.heap.size + 2 := by rw [hW]; simp
  have HZ := hid hsz
  clear hsz
  by_cases h2 : k < 12
  · have hwr : wayR k = (0, k, 0, 0) := by unfold wayR; rw [if_neg (by omega), if_pos h2]
    simp only [hwr, wayV] at hW0
    go_enter Try.func17, Try.ntmps17
    go_upto_region 1 with fail
    rw [← hW]
    clear hW
    go_upto_region 7 with (first
      | (go_at_call 13; go_must (refine (hW0 _).mono ?_; rintro e w2 ⟨rfl, hw2⟩; have hw3 := hw2.symm; clear hw2; subst hw3)))
    obtain ⟨K, hK⟩ : ∃ K : Nat, k = (K : Int) := ⟨k.toNat, by omega⟩
    have hKl : K < 12 := by omega
    have hKi : (K : Int) < 12 := by omega
    have hK0 : (0 : Int) ≤ (K : Int) := by omega
    have hbg : bgW z (K : Int) = z.getD (4 + K) 0 := by unfold bgW; rw [if_pos hKi]; simp
    obtain ⟨P, hP⟩ : ∃ y, y = (W.alloc (.cells #[.int .i64 0, .int .i64 k] 74)).drew := ⟨_, rfl⟩
    have x0 : P.heap[w.heap.size]? = some (.cells (NA z) 24 (0, 0)) := by rw [hP]; show (W.alloc _).heap[w.heap.size]? = _; rw [Below.heap_alloc _ _ _ (slt H0.out)]; exact H0.out
    have x1 : P.heap[w.heap.size + 1]? = some (.cells Zw 68 (0, 0)) := by rw [hP]; show (W.alloc _).heap[w.heap.size + 1]? = _; rw [Below.heap_alloc _ _ _ (slt H1.out)]; exact H1.out
    have x2 : P.heap[W.heap.size]? = some (.cells #[.int .i64 0, .int .i64 (K : Int)] 74 (0, 0)) := by rw [hP, ← hK]; exact heap_alloc_new _ _
    have xB : Below w.heap.size w P := by rw [hP]; exact below_drew (HB.out.alloc HB.out.size _)
    have xz : P.heap.size = w.heap.size + 3 := by rw [hP]; show (W.alloc _).heap.size = _; simp [HZ.out]
    have hwz := HZ.out
    have HP := hid hP
    clear hP
    refine wp_region_noPanic ?_
    refine wp_region_held_drew (S := fun w' => w'.heap[w.heap.size]? = some (.cells (NA z) 24 (0, 0)) ∧ w'.heap[W.heap.size]? = some (.cells #[.int .i64 0, .int .i64 (K : Int)] 74 (0, 0)) ∧ Below w.heap.size w w') (by kernel_rfl) (by rw [← HP.out]; exact ⟨x0, x2, xB⟩) (fun hHeld => ?_)
    rw [← HP.out] at hHeld ⊢
    subst hK
    refine takeVal 0 27 (.int .i64 (K : Int)) rfl (by kernel_rfl) (by kernel_rfl) (by kernel_rfl) rfl (by rfl) (fun _ _ _ h => h) hHeld (fun W' hw' => rfl) ?_
    simp only [List.setIfInBounds_toArray, List.set_cons_zero, List.set_cons_succ]
    refine takeVal 1 28 (.pointer (some ⟨w.heap.size, 4, none⟩)) rfl (by kernel_rfl) (by kernel_rfl) (by kernel_rfl) rfl (by rfl) (fun _ _ _ h => h) hHeld (fun W' hw' => by go_simp) ?_
    simp only [List.setIfInBounds_toArray, List.set_cons_zero, List.set_cons_succ]
    refine takeVal 2 29 (.pointer (some ⟨w.heap.size, 4 + K, none⟩)) rfl (by kernel_rfl) (by kernel_rfl) (by kernel_rfl) rfl (by rfl) (fun _ _ _ h => h) hHeld (fun W' hw' => by go_simp) ?_
    simp only [List.setIfInBounds_toArray, List.set_cons_zero, List.set_cons_succ]
    refine takeVal 3 30 (.int .i64 (z.getD (4 + K) 0)) rfl (by kernel_rfl) (by kernel_rfl) (by kernel_rfl) rfl (by rfl) (fun _ _ _ h => h) hHeld (fun W' hw' => by have hq := row_cell hw'.1 (4 + K) (by omega); go_simp) ?_
    simp only [List.setIfInBounds_toArray, List.set_cons_zero, List.set_cons_succ]
    refine takeR 4 31 74 (.tmp 10) W.heap.size 74 #[.int .i64 0, .int .i64 (K : Int)] _ rfl (by kernel_rfl) (by kernel_rfl) (by kernel_rfl) rfl rfl rfl Try.underlying74 rfl (by rw [szPart]; rfl) (by rfl) (fun _ _ _ h => h) hHeld (fun _ hw' => hw'.2.1) ?_
    simp only [List.setIfInBounds_toArray, List.set_cons_zero, List.set_cons_succ]
    refine step1 5 (by kernel_rfl) ?_
    refine stNew 5 32 (.slice (some ⟨P.heap.size, 0, none⟩) 1 1) (.cells #[.int .i64 0, .int .i64 (K : Int)] 74) rfl rfl (by rfl) (by go_simp) ⟨?_, ?_⟩
    · exact ⟨by rw [Below.heap_alloc _ _ _ (slt x0)]; exact x0, by rw [Below.heap_alloc _ _ _ (slt x2)]; exact x2, xB.alloc xB.size _⟩
    simp only [List.setIfInBounds_toArray, List.set_cons_zero, List.set_cons_succ]
    obtain ⟨Y, hY⟩ : ∃ y, y = P.alloc (.cells #[.int .i64 0, .int .i64 (K : Int)] 74) := ⟨_, rfl⟩
    have y0 : Y.heap[w.heap.size]? = some (.cells (NA z) 24 (0, 0)) := by rw [hY, Below.heap_alloc _ _ _ (slt x0)]; exact x0
    have y1 : Y.heap[w.heap.size + 1]? = some (.cells Zw 68 (0, 0)) := by rw [hY, Below.heap_alloc _ _ _ (slt x1)]; exact x1
    have y2 : Y.heap[W.heap.size]? = some (.cells #[.int .i64 0, .int .i64 (K : Int)] 74 (0, 0)) := by rw [hY, Below.heap_alloc _ _ _ (slt x2)]; exact x2
    have y3 : Y.heap[P.heap.size]? = some (.cells #[.int .i64 0, .int .i64 (K : Int)] 74 (0, 0)) := by rw [hY]; exact heap_alloc_new _ _
    have yB : Below w.heap.size w Y := by rw [hY]; exact xB.alloc xB.size _
    rw [← hY]
    clear hY
    refine takeVal 6 33 (.agg #[.int .i64 (z.getD (4 + K) 0), .slice none 0 0, .slice (some ⟨P.heap.size, 0, none⟩) 1 1]) rfl (by kernel_rfl) (by kernel_rfl) (by kernel_rfl) rfl (by rfl) (fun _ _ _ h => h) ⟨y0, y2, yB⟩ (fun W' hw' => by have hz3 := hzw; unfold Zw at hz3; clear hzw; go_simp) ?_
    simp only [List.setIfInBounds_toArray, List.set_cons_zero, List.set_cons_succ]
    refine step1 7 (by kernel_rfl) ?_
    refine stStoreR 7 68 (.tmp 4) (.tmp 33) (w.heap.size + 1) #[.int .i64 (z.getD (4 + K) 0), .slice none 0 0, .slice (some ⟨P.heap.size, 0, none⟩) 1 1] 68 Zw rfl rfl (by rfl) rfl rfl rfl y1 (by rw [szWay]; rfl) rfl (by simp [Value.oneCell']) ?_
    intro q pq
    have q3 : q.heap[P.heap.size]? = some (.cells #[.int .i64 0, .int .i64 (K : Int)] 74 (0, 0)) := by rw [pq.other _ (by omega)]; exact y3
    have qS : q.heap[w.heap.size]? = some (.cells (NA z) 24 (0, 0)) ∧ q.heap[W.heap.size]? = some (.cells #[.int .i64 0, .int .i64 (K : Int)] 74 (0, 0)) ∧ Below w.heap.size w q := ⟨by rw [pq.other _ (by omega)]; exact y0, by rw [pq.other _ (by omega)]; exact y2, pq.below yB (by omega)⟩
    refine ⟨qS, ?_⟩
    refine takeVal 8 5 (.int .i64 0) rfl (by kernel_rfl) (by kernel_rfl) (by kernel_rfl) rfl (by rfl) (fun _ _ _ h => h) qS (fun W' hw' => rfl) ?_
    simp only [List.setIfInBounds_toArray, List.set_cons_zero, List.set_cons_succ]
    refine wpAnyH_done (by kernel_rfl) ?_ _
    refine NoPanic.normal ?_
    have Q1 := hid pq.here
    have Q3 := hid q3
    have QB := hid qS.2.2
    have XB := hid xB.size
    clear pq q3 qS y0 y1 y2 y3 yB x0 x1 x2 xB xz hwz hHeld
    go_wp2_with fail
    refine bodyPost_ret (results_R Try.results17 _ _ (w.heap.size + 1) _ 68 _ _ Try.underlying68 rfl (by rw [szWay]; rfl) rfl rfl Q1.out) rfl ⟨none, some ⟨P.heap.size, 0, none⟩, 0, 0, 1, 1, by rw [hbg]; rfl, ⟨?_, ?_, ?_, ?_, rfl⟩, QB.out⟩
    · unfold plW; rw [if_pos hKi]; rfl
    · unfold plW; rw [if_pos hKi]; intro j p hj; cases hj
    · unfold ptW; rw [if_pos hKi]; rfl
    · refine ⟨_, rfl, XB.out, ?_⟩
      unfold ptW; rw [if_pos hKi]; exact Q3.out
  · by_cases h3 : k < 44
    · have hwr : wayR k = (1, k - 12, 0, 0) := by unfold wayR; rw [if_neg (by omega), if_neg (by omega), if_pos (by omega)]
      simp only [hwr, wayV] at hW0
      have hz3 := hzw
      unfold Zw at hz3 hW H1
      clear hzw
      go_enter Try.func17, Try.ntmps17
      go_upto_region 1 with fail
      rw [← hW]
      clear hW
      go_upto_region 9 with (first
        | (go_at_call 13; go_must (refine (hW0 _).mono ?_; rintro e w2 ⟨rfl, hw2⟩; have hw3 := hw2.symm; clear hw2; subst hw3)))
      obtain ⟨P, hP⟩ : ∃ y, y = W.alloc (.cells #[.int .i64 0, .int .i64 k] 74) := ⟨_, rfl⟩
      have P0 : P.heap[w.heap.size]? = some (.cells (NA z) 24 (0, 0)) := by rw [hP, Below.heap_alloc _ _ _ (slt H0.out)]; exact H0.out
      have P1 : Hid (P.heap[w.heap.size + 1]? = some (.cells #[.int .i64 0, .slice none 0 0, .slice none 0 0] 68 (0, 0))) := by rw [hP, Below.heap_alloc _ _ _ (slt H1.out)]; exact H1
      have P2 : Hid (P.heap[W.heap.size]? = some (.cells #[.int .i64 0, .int .i64 k] 74 (0, 0))) := by rw [hP]; exact heap_alloc_new _ _
      have PB : Hid (Below w.heap.size w P) := by rw [hP]; exact HB.out.alloc HB.out.size _
      have cz := row_cell P0 16 (by omega)
      have hPz : Hid (w.heap.size + 3 = P.heap.size) := by rw [hP]; exact hid (by simp [HZ.out])
      rw [← hP]
      clear hP P0
      have HBG : Hid (bgW z k = z.getD 16 0) := by unfold bgW; rw [if_neg (by omega), if_pos (by omega)]; exact hid rfl
      generalize z.getD 16 0 = G at *
      go_wp2_with (first
        | (refine load_R rfl 74 (.tmp 10) rfl W.heap.size rfl 74 #[.int .i64 0, .int .i64 k] _ (by rw [Below.heap_alloc _ _ _ (slt P2.out)]; exact P2.out) Try.underlying74 rfl (by rw [szPart]; rfl) ?_)
        | (refine store_R rfl 68 (.tmp 4) (.tmp 43) rfl (w.heap.size + 1) #[.int .i64 (G), .slice (some ⟨P.heap.size, 0, none⟩) 1 1, .slice (some ⟨P.heap.size + 1, 0, none⟩) 2 2] rfl rfl 68 #[.int .i64 0, .slice none 0 0, .slice none 0 0] (by rw [Below.heap_alloc _ _ _ (by have := slt P1.out; simp; omega), Below.heap_alloc _ _ _ (slt P1.out)]; exact P1.out) (by rw [szWay]; rfl) rfl (by simp [Value.oneCell']) ?_; intro q pq))
      have hq0 : q.heap[P.heap.size]? = some (.cells #[.int .i64 (k - 12)] 3 (0, 0)) := by rw [pq.other _ (by have := hPz.out; omega)]; exact heap_alloc2_old P _ _
      have hq1 : q.heap[P.heap.size + 1]? = some (.cells #[.int .i64 (1), .int .i64 (12), .int .i64 (0), .int .i64 (k)] 74 (0, 0)) := by rw [pq.other _ (by have := hPz.out; omega)]; exact heap_alloc2_new P _ _
      refine bodyPost_ret (results_R Try.results17 _ _ (w.heap.size + 1) _ 68 _ _ Try.underlying68 rfl (by rw [szWay]; rfl) rfl rfl pq.here) rfl ⟨some ⟨P.heap.size, 0, none⟩, some ⟨P.heap.size + 1, 0, none⟩, 1, 1, 2, 2, by rw [HBG.out]; rfl, ⟨?_, ?_, ?_, ?_, rfl⟩, pq.below ((PB.out.alloc PB.out.size _).alloc (by have := PB.out.size; simp; omega) _) (by omega)⟩
      · unfold plW; rw [if_neg (by omega), if_pos (by omega)]; rfl
      · unfold plW; rw [if_neg (by omega), if_pos (by omega)]
        intro j p hj
        have hc : q.cell? ⟨P.heap.size, 0 + j, none⟩ = some (.int .i64 p) := by
          rw [Nat.zero_add, cell_of_row _ _ _ _ _ _ hq0]
          match j, hj with
          | 0, hj => cases hj; rfl
          | j + 1, hj => simp at hj
        refine ⟨?_, ?_, _, _, rfl, hc⟩
        · match j, hj with
          | 0, hj => cases hj; omega
          | j + 1, hj => simp at hj
        · match j, hj with
          | 0, hj => cases hj; omega
          | j + 1, hj => simp at hj
      · unfold ptW; rw [if_neg (by omega), if_pos (by omega)]; rfl
      · refine ⟨_, rfl, by have := hPz.out; omega, ?_⟩
        unfold ptW; rw [if_neg (by omega), if_pos (by omega)]; exact hq1
    · have hwr : wayR k = (2, (k - 44).tdiv 32, (k - 44) % 32, 0) := by unfold wayR; rw [if_neg (by omega), if_neg (by omega), if_neg (by omega)]
      have hb := tdiv_small (k := k - 44) (by omega) (by omega)
      simp only [hwr, wayV] at hW0
      have hz3 := hzw
      unfold Zw at hz3 hW H1
      clear hzw
      go_enter Try.func17, Try.ntmps17
      go_upto_region 1 with fail
      rw [← hW]
      clear hW
      go_upto_region 10 with (first
        | (go_at_call 13; go_must (refine (hW0 _).mono ?_; rintro e w2 ⟨rfl, hw2⟩; have hw3 := hw2.symm; clear hw2; subst hw3)))
      obtain ⟨P, hP⟩ : ∃ y, y = W.alloc (.cells #[.int .i64 0, .int .i64 k] 74) := ⟨_, rfl⟩
      have P0 : P.heap[w.heap.size]? = some (.cells (NA z) 24 (0, 0)) := by rw [hP, Below.heap_alloc _ _ _ (slt H0.out)]; exact H0.out
      have P1 : Hid (P.heap[w.heap.size + 1]? = some (.cells #[.int .i64 0, .slice none 0 0, .slice none 0 0] 68 (0, 0))) := by rw [hP, Below.heap_alloc _ _ _ (slt H1.out)]; exact H1
      have P2 : Hid (P.heap[W.heap.size]? = some (.cells #[.int .i64 0, .int .i64 k] 74 (0, 0))) := by rw [hP]; exact heap_alloc_new _ _
      have PB : Hid (Below w.heap.size w P) := by rw [hP]; exact HB.out.alloc HB.out.size _
      have cz := row_cell P0 17 (by omega)
      have hPz : Hid (w.heap.size + 3 = P.heap.size) := by rw [hP]; exact hid (by simp [HZ.out])
      rw [← hP]
      clear hP P0
      have HBG : Hid (bgW z k = z.getD 17 0) := by unfold bgW; rw [if_neg (by omega), if_neg (by omega)]; exact hid rfl
      generalize z.getD 17 0 = G at *
      go_wp2_with (first
        | (refine load_R rfl 74 (.tmp 10) rfl W.heap.size rfl 74 #[.int .i64 0, .int .i64 k] _ (by rw [Below.heap_alloc _ _ _ (slt P2.out)]; exact P2.out) Try.underlying74 rfl (by rw [szPart]; rfl) ?_)
        | (refine store_R rfl 68 (.tmp 4) (.tmp 56) rfl (w.heap.size + 1) #[.int .i64 (G), .slice (some ⟨P.heap.size, 0, none⟩) 2 2, .slice (some ⟨P.heap.size + 1, 0, none⟩) 3 3] rfl rfl 68 #[.int .i64 0, .slice none 0 0, .slice none 0 0] (by rw [Below.heap_alloc _ _ _ (by have := slt P1.out; simp; omega), Below.heap_alloc _ _ _ (slt P1.out)]; exact P1.out) (by rw [szWay]; rfl) rfl (by simp [Value.oneCell']) ?_; intro q pq))
      have hq0 : q.heap[P.heap.size]? = some (.cells #[.int .i64 ((k - 44).tdiv 32), .int .i64 ((k - 44) % 32)] 3 (0, 0)) := by rw [pq.other _ (by have := hPz.out; omega)]; exact heap_alloc2_old P _ _
      have hq1 : q.heap[P.heap.size + 1]? = some (.cells #[.int .i64 (2), .int .i64 (44), .int .i64 (1), .int .i64 (k - (k - 44) % 32), .int .i64 (0), .int .i64 (k)] 74 (0, 0)) := by rw [pq.other _ (by have := hPz.out; omega)]; exact heap_alloc2_new P _ _
      refine bodyPost_ret (results_R Try.results17 _ _ (w.heap.size + 1) _ 68 _ _ Try.underlying68 rfl (by rw [szWay]; rfl) rfl rfl pq.here) rfl ⟨some ⟨P.heap.size, 0, none⟩, some ⟨P.heap.size + 1, 0, none⟩, 2, 2, 3, 3, by rw [HBG.out]; rfl, ⟨?_, ?_, ?_, ?_, rfl⟩, pq.below ((PB.out.alloc PB.out.size _).alloc (by have := PB.out.size; simp; omega) _) (by omega)⟩
      · unfold plW; rw [if_neg (by omega), if_neg (by omega)]; rfl
      · unfold plW; rw [if_neg (by omega), if_neg (by omega)]
        intro j p hj
        have hc : q.cell? ⟨P.heap.size, 0 + j, none⟩ = some (.int .i64 p) := by
          rw [Nat.zero_add, cell_of_row _ _ _ _ _ _ hq0]
          match j, hj with
          | 0, hj => cases hj; rfl
          | 1, hj => cases hj; rfl
          | j + 2, hj => simp at hj
        refine ⟨?_, ?_, _, _, rfl, hc⟩
        · match j, hj with
          | 0, hj => cases hj; omega
          | 1, hj => cases hj; omega
          | j + 2, hj => simp at hj
        · match j, hj with
          | 0, hj => cases hj; omega
          | 1, hj => cases hj; omega
          | j + 2, hj => simp at hj
      · unfold ptW; rw [if_neg (by omega), if_neg (by omega)]; rfl
      · refine ⟨_, rfl, by have := hPz.out; omega, ?_⟩
        unfold ptW; rw [if_neg (by omega), if_neg (by omega)]; exact hq1

end Go.Proofs.Ytjlhmojofjkkdab
