/-
  The way of a block, and how far it goes.
-/
import Derived.Test.YtjlhmojofjkkdabB1
-- may lack
namespace Go.Proofs.Ytjlhmojofjkkdab
open Go.RowKit Go.Shelf

def wayR (k : Int) : Int × Int × Int × Int :=
  if k < 0 ∨ 1068 ≤ k then (0, 0, 0, 90) else if k < 12 then (0, k, 0, 0) else if k < 44 then (1, k - 12, 0, 0) else (2, (k - 44).tdiv 32, (k - 44) % 32, 0)
def wayV (x : Int × Int × Int × Int) : Value := .tuple #[.int .i64 x.1, .int .i64 x.2.1, .int .i64 x.2.2.1, .int .i64 x.2.2.2]
theorem results_4 {fn : Func} {a b c d : Tmp} (h : fn.results = #[.tmp a, .tmp b, .tmp c, .tmp d]) (tmps : Array Value) (w : World) : (results fn tmps).run Try.prog w = .ok (.tuple #[tmps.getD a undef, tmps.getD b undef, tmps.getD c undef, tmps.getD d undef]) w := by
  simp [results, h]
theorem results_3 {fn : Func} {a b c : Tmp} (h : fn.results = #[.tmp a, .tmp b, .tmp c]) (tmps : Array Value) (w : World) : (results fn tmps).run Try.prog w = .ok (.tuple #[tmps.getD a undef, tmps.getD b undef, tmps.getD c undef]) w := by
  simp [results, h]
theorem tdiv_small {k : Int} (h : 0 ≤ k) (h2 : k < 1024) : 0 ≤ k.tdiv 32 ∧ k.tdiv 32 < 32 ∧ 0 ≤ k % 32 ∧ k % 32 < 32 := by
  rw [Int.tdiv_eq_ediv_of_nonneg h]
  omega

set_option maxRecDepth 100000 in
set_option maxHeartbeats 1000000 in
theorem way_any (k : Int) (w : World) : Calls Try.prog 13 #[.int .i64 k] w fun e w' => e = .returned (wayV (wayR k)) ∧ w' = w := by
  by_cases h0 : k < 0 ∨ 1068 ≤ k
  · have HE : Hid (wayR k = (0, 0, 0, 90)) := if_pos h0
    rcases h0 with h1 | h1
    · go_enter Try.func13, Try.ntmps13
      go_wp2
      all_goals exact bodyPost_ret (results_4 Try.results13 _ _) rfl ⟨by rw [HE.out]; rfl, rfl⟩
    · have h2 : ¬ k < 0 := by omega
      go_enter Try.func13, Try.ntmps13
      go_wp2
      all_goals exact bodyPost_ret (results_4 Try.results13 _ _) rfl ⟨by rw [HE.out]; rfl, rfl⟩
  · have h2 : ¬ k < 0 := by omega
    have h3 : ¬ 1068 ≤ k := by omega
    by_cases h4 : k < 12
    · have HE : Hid (wayR k = (0, k, 0, 0)) := by unfold wayR; rw [if_neg h0, if_pos h4]; exact hid rfl
      clear h0
      go_enter Try.func13, Try.ntmps13
      go_wp2
      all_goals exact bodyPost_ret (results_4 Try.results13 _ _) rfl ⟨by rw [HE.out]; rfl, rfl⟩
    · by_cases h5 : k < 44
      · have HE : Hid (wayR k = (1, k - 12, 0, 0)) := by unfold wayR; rw [if_neg h0, if_neg h4, if_pos h5]; exact hid rfl
        clear h0
        go_enter Try.func13, Try.ntmps13
        go_wp2
        all_goals exact bodyPost_ret (results_4 Try.results13 _ _) rfl ⟨by rw [HE.out]; rfl, rfl⟩
      · have HE : Hid (wayR k = (2, (k - 44).tdiv 32, (k - 44) % 32, 0)) := by unfold wayR; rw [if_neg h0, if_neg h4, if_neg h5]; exact hid rfl
        have hb := tdiv_small (k := k - 44) (by omega) (by omega)
        clear h0
        go_enter Try.func13, Try.ntmps13
        go_wp2
        all_goals exact bodyPost_ret (results_4 Try.results13 _ _) rfl ⟨by rw [HE.out]; rfl, rfl⟩

/-- How far a way goes: the sector, how many of its parts are there, the error. -/
def folW (s : Src) (n : Int) : List Int → Nat → Int × Int × Int
  | [], g => (n, (g : Int), 0)
  | p :: ps, g => if n = 0 then (0, (g : Int), 0) else if (tabS s n).2 = 0 then folW s ((tabS s n).1.getD p.toNat 0) ps (g + 1) else (0, 0, (tabS s n).2)
def folV (x : Int × Int × Int) : Value := .tuple #[.int .i64 x.1, .int .i64 x.2.1, .int .i64 x.2.2]
theorem szWay : (Try.prog.info? 68).map (·.size) = some 3 := by kernel_rfl

set_option maxRecDepth 100000 in
set_option maxHeartbeats 2000000 in
theorem follow_any (pm : Nat) (s : Src) (bg : Int) (a : Option Addr) (c : Nat) (pl : List Int) (vp : Value) (w : World) (hr : Rd w pm s) (hp : ∀ (j : Nat) p, pl[j]? = some p → 0 ≤ p ∧ p < 32 ∧ ∃ g o, a = some ⟨g, o, none⟩ ∧ w.cell? ⟨g, o + j, none⟩ = some (.int .i64 p)) (hl : pl.length ≤ 2) :
    Calls Try.prog 18 #[.agg #[.int .i64 bg, .slice a pl.length c, vp], rdV pm] w fun e w' => e = .returned (folV (folW s bg pl 0)) ∧ Below w.heap.size w w' := by
  obtain ⟨W, hW⟩ : ∃ y, y = w.alloc (.cells #[.int .i64 bg, .slice a pl.length c, vp] 68) := ⟨_, rfl⟩
  have HB : Hid (Below w.heap.size w W) := by rw [hW]; exact (Below.refl _ _).alloc (Nat.le_refl _) _
  have H0 : Hid (W.heap[w.heap.size]? = some (.cells #[.int .i64 bg, .slice a pl.length c, vp] 68 (0, 0))) := by rw [hW]; exact heap_alloc_new _ _
  have c0 : W.cell? ⟨w.heap.size, 0, none⟩ = some (.int .i64 bg) := by rw [cell_of_row _ _ _ _ _ _ H0.out]; rfl
  have c1 : W.cell? ⟨w.heap.size, 1, none⟩ = some (.slice a pl.length c) := by rw [cell_of_row _ _ _ _ _ _ H0.out]; rfl
  have hzp := zero_ptr
  go_enter Try.func18, Try.ntmps18
  go_upto_region 1 with fail
  rw [← hW]
  clear hW
  go_upto_region 3 with fail
  go_loopw [7, 17] (fun m i wr => ∃ (k : Nat) (x : Int), k ≤ pl.length ∧ i = .int .i64 k ∧ m = .int .i64 x ∧ Hid (folW s bg pl 0 = folW s x (pl.drop k) k) ∧ Hid (Below W.heap.size W wr)) (fun _ i _ => pl.length - (intOf i).toNat)
  case atStart => exact ⟨0, bg, by omega, rfl, rfl, hid rfl, Below.refl _ _⟩
  case round =>
    obtain ⟨k, x, hk, rfl, rfl, HF, HBr⟩ := hrel
    by_cases hlt : k < pl.length
    · obtain ⟨p, hpk⟩ : ∃ p, pl[k]? = some p := ⟨_, List.getElem?_eq_getElem hlt⟩
      obtain ⟨hp0, hp1, g, o, ha, hcg⟩ := hp k p hpk
      subst ha
      have hb0 : Below w.heap.size w wr := btr HB.out HBr.out HB.out.size
      have hcp : wr.cell? ⟨g, o + k, none⟩ = some (.int .i64 p) := by rw [hb0.cell (p := ⟨g, o + k, none⟩) (World.block_lt_of_cell? _ _ hcg)]; exact hcg
      have hdr : pl.drop k = p :: pl.drop (k + 1) := by rw [List.drop_eq_getElem_cons hlt]; congr 1; exact (List.getElem?_eq_some_iff.1 hpk).2
      have HF2 : Hid (folW s bg pl 0 = if x = 0 then (0, (k : Int), 0) else if (tabS s x).2 = 0 then folW s ((tabS s x).1.getD p.toNat 0) (pl.drop (k + 1)) (k + 1) else (0, 0, (tabS s x).2)) := by rw [HF.out, hdr]; exact hid rfl
      have j0 : (0 : Int) ≤ (k : Int) := by omega
      have j1 : (k : Int) < (pl.length : Int) := by omega
      obtain ⟨P, hP⟩ : ∃ P : Nat, p = (P : Int) := ⟨p.toNat, by omega⟩
      subst hP
      clear hdr hpk
      by_cases hx : x = 0
      · have HF3 := hid (HF2.out.trans (if_pos hx))
        subst hx
        go_wp2_with fail
        exact bodyPost_ret (results_3 Try.results18 _ _) rfl ⟨by rw [HF3.out]; rfl, hb0⟩
      · have HF3 := hid (HF2.out.trans (if_neg hx))
        have hT := table_any pm s x wr (hr.below hb0)
        have hln := tabS_len s x
        by_cases he : (tabS s x).2 = 0
        · have HF4 := hid (HF3.out.trans (if_pos he))
          generalize tabS s x = T at *
          rw [he] at hT
          have HB0 := hid hb0
          have hP32 : (P : Int) < 32 := by omega
          have hP0 : (0 : Int) ≤ (P : Int) := by omega
          go_wp2_with (first
            | (go_at_call 15; go_must (refine hT.mono ?_; rintro e w2 ⟨rfl, hb2⟩; have HB2 := hid (btr HBr.out hb2 HBr.out.size); clear hb2))
            | (refine store_R rfl 59 (.tmp 10) (.tmp 29) rfl w2.heap.size (NA T.1) rfl rfl 59 (NA Zp) (heap_alloc_new _ _) (by rw [szP, NA_size, hln]) (by rw [NA_size, NA_size, Zp_len, hln]) (NA_one _) ?_; intro w3 p3; have hcc := row_cell p3.here P (by omega)))
          exact ⟨⟨k + 1, _, by omega, by go_num, rfl, hid (by rw [HF4.out]; simp [List.getD_eq_getElem?_getD]), p3.below (HB2.out.alloc HB2.out.size _) HB2.out.size⟩, by simp [intOf]; omega⟩
        · have HF4 := hid (HF3.out.trans (if_neg he))
          generalize tabS s x = T at *
          go_wp2_with (first
            | (go_at_call 15; go_must (refine hT.mono ?_; rintro e w2 ⟨rfl, hb2⟩; have HB2 := hid (btr hb0 hb2 hb0.size); clear hb2))
            | (refine store_R rfl 59 (.tmp 10) (.tmp 29) rfl w2.heap.size (NA T.1) rfl rfl 59 (NA Zp) (heap_alloc_new _ _) (by rw [szP, NA_size, hln]) (by rw [NA_size, NA_size, Zp_len, hln]) (NA_one _) ?_; intro w3 p3))
          exact bodyPost_ret (results_3 Try.results18 _ _) rfl ⟨by rw [HF4.out]; rfl, p3.below (HB2.out.alloc HB2.out.size _) HB2.out.size⟩
    · obtain rfl : k = pl.length := by omega
      have HF2 : Hid (folW s bg pl 0 = (x, (pl.length : Int), 0)) := by rw [HF.out, List.drop_length]; exact hid rfl
      have hge : ¬ ((pl.length : Int) < (pl.length : Int)) := by omega
      have c1r : wr.cell? ⟨w.heap.size, 1, none⟩ = some (.slice a pl.length c) := by rw [HBr.out.cell (p := ⟨w.heap.size, 1, none⟩) (slt H0.out)]; exact c1
      go_upto_region 12 with fail
      have hb0 : Below w.heap.size w wr := btr HB.out HBr.out HB.out.size
      refine wp_region_noPanic ?_
      refine wp_region_held_drew (S := fun w' => w'.cell? ⟨w.heap.size, 1, none⟩ = some (.slice a pl.length c)) (by kernel_rfl) c1r (fun hHeld => ?_)
      refine takeVal 0 38 (.int .i64 x) rfl (by kernel_rfl) (by kernel_rfl) (by kernel_rfl) rfl (by rfl) (fun _ _ _ h => h) hHeld (fun W' hw' => rfl) ?_
      simp only [List.setIfInBounds_toArray, List.set_cons_zero, List.set_cons_succ]
      refine takeVal 1 39 (.pointer (some ⟨w.heap.size, 1, none⟩)) rfl (by kernel_rfl) (by kernel_rfl) (by kernel_rfl) rfl (by rfl) (fun _ _ _ h => h) hHeld (fun W' hw' => by go_simp) ?_
      simp only [List.setIfInBounds_toArray, List.set_cons_zero, List.set_cons_succ]
      refine takeVal 2 40 (.slice a pl.length c) rfl (by kernel_rfl) (by kernel_rfl) (by kernel_rfl) rfl (by rfl) (fun _ _ _ h => h) hHeld (fun W' hw' => by have hq : W'.cell? ⟨w.heap.size, 1, none⟩ = some (.slice a pl.length c) := hw'; go_simp) ?_
      simp only [List.setIfInBounds_toArray, List.set_cons_zero, List.set_cons_succ]
      refine takeVal 3 41 (.int .i64 (pl.length : Int)) rfl (by kernel_rfl) (by kernel_rfl) (by kernel_rfl) rfl (by rfl) (fun _ _ _ h => h) hHeld (fun W' hw' => by go_simp) ?_
      simp only [List.setIfInBounds_toArray, List.set_cons_zero, List.set_cons_succ]
      refine takeVal 4 4 (.int .i64 x) rfl (by kernel_rfl) (by kernel_rfl) (by kernel_rfl) rfl (by rfl) (fun _ _ _ h => h) hHeld (fun W' hw' => rfl) ?_
      simp only [List.setIfInBounds_toArray, List.set_cons_zero, List.set_cons_succ]
      refine takeVal 5 5 (.int .i64 (pl.length : Int)) rfl (by kernel_rfl) (by kernel_rfl) (by kernel_rfl) rfl (by rfl) (fun _ _ _ h => h) hHeld (fun W' hw' => rfl) ?_
      simp only [List.setIfInBounds_toArray, List.set_cons_zero, List.set_cons_succ]
      refine takeVal 6 6 (.int .i64 0) rfl (by kernel_rfl) (by kernel_rfl) (by kernel_rfl) rfl (by rfl) (fun _ _ _ h => h) hHeld (fun W' hw' => rfl) ?_
      simp only [List.setIfInBounds_toArray, List.set_cons_zero, List.set_cons_succ]
      refine wpAnyH_done (by kernel_rfl) ?_ _
      refine NoPanic.normal ?_
      go_wp2_with fail
      exact bodyPost_ret (results_3 Try.results18 _ _) rfl ⟨by rw [HF2.out]; rfl, below_drew hb0⟩

end Go.Proofs.Ytjlhmojofjkkdab
