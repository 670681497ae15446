/-
  SectorWipes returns true, for every sector and two places: the walk.
-/
import Derived.Test.YtibneoajkbblaabWKnown
import Derived.Test.YtibneoajkbblaabWWipe
import Derived.Test.YtibneoajkbblaabWCut
import Derived.Test.YtibneoajkbblaabKept
import Derived.Test.YtibneoajkbblaabWPick
import Derived.Deep.CutRange
import Derived.Deep.DeepCutAuto
import Derived.Test.YtibneoajkbblaabDrawn
namespace Go.Proofs.Ytibneoajkbblaab
open Go.RowKit

def zsK (s : List Int) : Nat → Bool
  | 0 => true
  | k + 1 => zsK s k && s.getD k 0 == 0
def smK (s : List Int) : Nat → Bool
  | 0 => false
  | k + 1 => smK s k || s.getD k 0 != 0
theorem zsK_iff (s : List Int) : ∀ k, zsK s k = true ↔ ∀ j, j < k → s.getD j 0 = 0
  | 0 => by simp [zsK]
  | k + 1 => by
    simp only [zsK, Bool.and_eq_true, beq_iff_eq, zsK_iff s k]
    constructor
    · rintro ⟨h, h'⟩ j hj
      by_cases e : j = k
      · subst e; exact h'
      · exact h j (by omega)
    · intro h
      exact ⟨fun j hj => h j (by omega), h k (by omega)⟩
theorem smK_eq (s : List Int) : ∀ k, smK s k = !zsK s k
  | 0 => rfl
  | k + 1 => by
    simp only [smK, zsK, smK_eq s k, Bool.not_and]
    rfl
theorem Zs_get (i : Nat) : Zs.getD i 0 = 0 := zl_get 128 i
theorem zsK_all (s : List Int) (h : s.length = 128) : zsK s 128 = decide (s = Zs) := by
  rw [Bool.eq_iff_iff, zsK_iff, decide_eq_true_iff]
  constructor
  · intro k
    apply List.ext_getElem (by rw [h, Zs_len])
    intro i h1 h2
    have e1 := k i (by omega)
    have e2 := Zs_get i
    simp only [List.getD_eq_getElem?_getD, List.getElem?_eq_getElem h1, List.getElem?_eq_getElem h2, Option.getD_some] at e1 e2
    rw [e1, e2]
  · rintro rfl j _
    exact Zs_get j

theorem below_drewN {B : Nat} {w w' : World} {m : Nat} (h : Below B w w') : Below B w (w'.drewN m) := ⟨h.os, h.tape, h.output, h.size, h.block⟩

theorem ext_wip {a b : List Int} (h : a.length = b.length) (k : ∀ i, i < a.length → a.getD i 0 = b.getD i 0) : a = b := by
  apply List.ext_getElem h
  intro i h1 h2
  have := k i h1
  simpa [h1, h2] using this
/-- What is known of memory while the last statement runs. -/
def HeldS (w0 : World) (g : Nat) (s V : List Int) (w : World) : Prop :=
  w.heap[w0.heap.size]? = some (.cells (SA s) 23 (0, 0)) ∧ w.heap[g]? = some (.cells (SA V) 23 (0, 0)) ∧ g < w.heap.size ∧ Below w0.heap.size w0 w
theorem HeldS.keep {w0 w w' : World} {g : Nat} {s V : List Int} (h12 : w0.heap.size < g) (h : HeldS w0 g s V w) (hb : Below w.heap.size w w') : HeldS w0 g s V w' := by
  obtain ⟨h1, h2, h3, h4⟩ := h
  exact ⟨by rw [hb.block _ (by omega)]; exact h1, by rw [hb.block _ (by omega)]; exact h2, by have := hb.size; omega, h4.trans (hb.mono (by omega))⟩

theorem wip_neg (s : List Int) (h : s.length = 128) : wip s (-1) = Zs := by
  apply ext_wip (by rw [wip_len s _ h, Zs_len])
  intro i _
  rw [wip_get s _ h, Zs_get, if_pos (by omega)]
theorem wip_end (s : List Int) (h : s.length = 128) : wip s 128 = s := by
  apply ext_wip (wip_len s _ h |>.trans h.symm)
  intro i hi
  rw [wip_len s _ h] at hi
  rw [wip_get s _ h, if_neg (by omega)]
theorem wip_wip (s : List Int) (a b : Int) (h : s.length = 128) : wip (wip s a) b = wip s (min a b) := by
  apply ext_wip (by rw [wip_len _ _ (wip_len s a h), wip_len s _ h])
  intro i _
  rw [wip_get _ _ (wip_len s a h), wip_get s _ h, wip_get s _ h]
  by_cases c1 : b ≤ (i : Int)
  · rw [if_pos c1, if_pos (by omega)]
  · rw [if_neg c1]
    by_cases c2 : a ≤ (i : Int)
    · rw [if_pos c2, if_pos (by omega)]
    · rw [if_neg c2, if_neg (by omega)]

set_option maxRecDepth 100000 in
set_option maxHeartbeats 1000000 in
theorem wipes_way (s : List Int) (a b mn : Int) (w : World) (hs : IsSec s) (hmn : min a b = mn) (hab : (if b < a then b else a) = mn) :
    Calls Try.prog 3 #[.agg (SA s), .int .i64 a, .int .i64 b] w fun e w' => e = .returned (.bool true) ∧ Below w.heap.size w w' := by
  have hz0 := zero_sec
  have HG := hid fun k => wip_get s a hs.1 k
  have HW := hid fun w => wipe_any s a w hs.1
  have hV := wip_sec hs a
  have HXY := hid (wip_wip s a b hs.1)
  have HAB := hid hab
  clear hab
  generalize wip s a = V at *
  have HO : Hid ((w.alloc (.cells (SA s) 23)).heap[w.heap.size]? = some (.cells (SA s) 23 (0, 0))) := heap_alloc_new w _
  go_enter Try.func3, Try.ntmps3
  go_wp2_with (refine load_sec rfl _ rfl w.heap.size rfl s hs.1 HO.out ?_)
  refine (HW.out _).mono ?_
  rintro e' w1 ⟨rfl, hb1⟩
  have HA1 := kept_below hb1 HO (by simp)
  have b1 : Below w.heap.size w w1 := ((Below.refl _ _).alloc (Nat.le_refl _) _).trans (hb1.mono (by simp))
  have z1 : w.heap.size + 1 ≤ w1.heap.size := by have := hb1.size; simp at this; omega
  clear hb1 HO HW
  go_wp2_with (refine store_sec rfl _ _ rfl w1.heap.size rfl V rfl hV.1 Zs Zs_len (heap_alloc_new _ _) ?_; intro w2 hw2)
  have HA2 := kept_wrote hw2 HA1 z1
  have HV2 := hid hw2.here
  have z2 : w1.heap.size + 1 ≤ w2.heap.size := by rw [hw2.size]; simp
  have b2 : Below w.heap.size w w2 := hw2.below (b1.alloc (by omega) _) (by omega)
  clear hw2 HA1 b1
  go_loopw [8, 9, 10] (fun x y i wr => ∃ k m : Nat, k ≤ 128 ∧ i = .int .i64 k ∧ x = .bool (zsK s k) ∧ y = .bool (smK V k) ∧ w2.drewN m = wr) (fun _ _ i _ => 128 - (intOf i).toNat)
  case atStart => exact ⟨0, 0, by omega, rfl, rfl, rfl, rfl⟩
  case round =>
    obtain ⟨k, m, hk, rfl, rfl, rfl, rfl⟩ := hrel
    have HZS := hid (show zsK s (k + 1) = (zsK s k && s.getD k 0 == 0) from rfl)
    have HSM := hid (show smK V (k + 1) = (smK V k || V.getD k 0 != 0) from rfl)
    by_cases hlt : k < 128
    · have hcs := sec_cell HA2.out k (by rw [hs.1]; exact hlt)
      have hct := sec_cell HV2.out k (by rw [hV.1]; exact hlt)
      have hg := HG.out k
      have hi0 : (0 : Int) ≤ (k : Int) := by omega
      have hi1 : (k : Int) < 128 := by omega
      by_cases c : a ≤ (k : Int)
      · rw [if_pos c] at hg
        rw [hg] at hct HSM
        have c' : decide ((k : Int) < a) = false := by simp; exact c
        clear hg
        go_wp2_with fail
        go_quiet (fail)
        rw [World.drewN_drewN]
        go_upto_region 9 with fail
        go_cut [8] (fun x wc => x = .bool (zsK s (k + 1)) ∧ w2.drewN (m + nq) = wc)
        case first =>
          cases h : zsK s k
          · go_wp2_with fail
            go_meet
            case rel => exact ⟨by rw [HZS.out, h]; rfl, rfl⟩
          · go_wp2_with fail
            go_meet
            case rel => exact ⟨by rw [HZS.out, h]; rfl, rfl⟩
        case rest =>
          obtain ⟨rfl, rfl⟩ := hcut
          cases h : smK V k
          · go_wp2_with fail
            exact ⟨⟨k + 1, m + nq, by omega, by go_num, rfl, by rw [HSM.out, h]; rfl, rfl⟩, by simp [intOf]; omega⟩
          · go_wp2_with fail
            exact ⟨⟨k + 1, m + nq, by omega, by go_num, rfl, by rw [HSM.out, h]; rfl, rfl⟩, by simp [intOf]; omega⟩
      · rw [if_neg c] at hg
        rw [hg] at hct HSM
        have c' : (k : Int) < a := by omega
        have c2 : decide (a ≤ (k : Int)) = false := by simp; exact c'
        clear hg c
        go_wp2_with fail
        go_quiet (fail)
        rw [World.drewN_drewN]
        go_upto_region 9 with fail
        go_cut [8] (fun x wc => x = .bool (zsK s (k + 1)) ∧ w2.drewN (m + nq) = wc)
        case first =>
          cases h : zsK s k
          · go_wp2_with fail
            go_meet
            case rel => exact ⟨by rw [HZS.out, h]; rfl, rfl⟩
          · go_wp2_with fail
            go_meet
            case rel => exact ⟨by rw [HZS.out, h]; rfl, rfl⟩
        case rest =>
          obtain ⟨rfl, rfl⟩ := hcut
          cases h : smK V k
          · go_wp2_with fail
            exact ⟨⟨k + 1, m + nq, by omega, by go_num, rfl, by rw [HSM.out, h]; rfl, rfl⟩, by simp [intOf]; omega⟩
          · go_wp2_with fail
            exact ⟨⟨k + 1, m + nq, by omega, by go_num, rfl, by rw [HSM.out, h]; rfl, rfl⟩, by simp [intOf]; omega⟩
    · have e : k = 128 := by omega
      subst e
      have hzs : zsK s 128 = decide (s = Zs) := zsK_all s hs.1
      have hsm : smK V 128 = !decide (V = Zs) := by rw [smK_eq, zsK_all V hV.1]
      rw [hzs, hsm]
      have HZ1 := hid fun w => zero_any s hs.1 w
      have HZ2 := hid fun w => zero_any V hV.1 w
      clear hzs hsm
      generalize decide (s = Zs) = q1 at *
      generalize decide (V = Zs) = q2 at *
      have hsl := hs.1
      have hVl := hV.1
      have hlt12 : w.heap.size < w1.heap.size := by omega
      have HA3 : (w2.drewN m).heap[w.heap.size]? = some (.cells (SA s) 23 (0, 0)) := HA2.out
      have HV3 : (w2.drewN m).heap[w1.heap.size]? = some (.cells (SA V) 23 (0, 0)) := HV2.out
      have z3 : w1.heap.size < (w2.drewN m).heap.size := by show w1.heap.size < w2.heap.size; omega
      have b3 : Below w.heap.size w (w2.drewN m) := below_drewN b2
      generalize w2.drewN m = w3 at *
      have HX := hid fun w => wipe_any V b w hVl
      have HY := hid fun w => wipe_any s (min a b) w hsl
      have HN := hid fun w => wipe_any s (-1) w hsl
      have HE := hid fun w => wipe_any s 128 w hsl
      have hXl := wip_len V b hVl
      rw [wip_neg s hsl] at HN
      rw [wip_end s hsl] at HE
      rw [HXY.out] at HX hXl
      generalize wip s (min a b) = X at *
      have hqX := eq_sec X X hXl hXl
      have hqs := eq_sec s s hsl hsl
      rw [decide_eq_true rfl] at hqX hqs
      have HZ3 := hid fun w => zero_any Zs Zs_len w
      rw [decide_eq_true rfl] at HZ3
      have hgd := guard_sec
      have hmin : Hid (min a b = mn) := hmn
      rw [hmin.out] at HY
      clear HA2 HV2 b2 z2 HG HZS HSM hk hlt HXY hmn
      go_wp2_with fail
      refine wp_region_noPanic ?_
      refine wp_region_held_drew (S := HeldS w w1.heap.size s V) (by kernel_rfl) ⟨HA3, HV3, z3, Below.drew b3⟩ (fun hHeld => ?_)
      refine takeSec 0 55 (.tmp 3) (w.heap.size) s hsl rfl (by kernel_rfl) (by kernel_rfl) (by kernel_rfl) rfl rfl rfl (by rfl) (fun _ _ _ h => h) hHeld (fun _ h => h.1) ?_
      simp only [List.setIfInBounds_toArray, List.set_cons_zero, List.set_cons_succ]
      refine takeVal 2 57 (.bool q1) rfl (by kernel_rfl) (by kernel_rfl) (by kernel_rfl) rfl (by rfl) (fun _ _ _ h => h) hHeld (fun _ _ => rfl) ?_
      simp only [List.setIfInBounds_toArray, List.set_cons_zero, List.set_cons_succ]
      refine stepCall 1 56 7 #[.agg (SA s)] _ rfl (by kernel_rfl) rfl (by rfl) (by go_simp) (HZ1.out _) ?_
      rintro e w4 ⟨rfl, hb⟩
      refine ⟨_, rfl, HeldS.keep hlt12 hHeld hb, fun hHeld => ?_⟩
      simp only [List.setIfInBounds_toArray, List.set_cons_zero, List.set_cons_succ]
      clear hb
      refine takeVal 3 58 (.bool true) rfl (by kernel_rfl) (by kernel_rfl) (by kernel_rfl) rfl (by rfl) (fun _ _ _ h => h) hHeld (fun _ _ => by go_simp) ?_
      simp only [List.setIfInBounds_toArray, List.set_cons_zero, List.set_cons_succ]
      refine takeVal 4 59 (.bool true) rfl (by kernel_rfl) (by kernel_rfl) (by kernel_rfl) rfl (by rfl) (fun _ _ _ h => h) hHeld (fun _ _ => rfl) ?_
      simp only [List.setIfInBounds_toArray, List.set_cons_zero, List.set_cons_succ]
      refine takeSec 5 60 (.tmp 7) (w1.heap.size) V hVl rfl (by kernel_rfl) (by kernel_rfl) (by kernel_rfl) rfl rfl rfl (by rfl) (fun _ _ _ h => h) hHeld (fun _ h => h.2.1) ?_
      simp only [List.setIfInBounds_toArray, List.set_cons_zero, List.set_cons_succ]
      refine takeVal 7 62 (.bool (!q2)) rfl (by kernel_rfl) (by kernel_rfl) (by kernel_rfl) rfl (by rfl) (fun _ _ _ h => h) hHeld (fun _ _ => rfl) ?_
      simp only [List.setIfInBounds_toArray, List.set_cons_zero, List.set_cons_succ]
      refine takeVal 8 63 (.bool q2) rfl (by kernel_rfl) (by kernel_rfl) (by kernel_rfl) rfl (by rfl) (fun _ _ _ h => h) hHeld (fun _ _ => by go_simp) ?_
      simp only [List.setIfInBounds_toArray, List.set_cons_zero, List.set_cons_succ]
      refine stepCall 6 61 7 #[.agg (SA V)] _ rfl (by kernel_rfl) rfl (by rfl) (by go_simp) (HZ2.out _) ?_
      rintro e w5 ⟨rfl, hb⟩
      refine ⟨_, rfl, HeldS.keep hlt12 hHeld hb, fun hHeld => ?_⟩
      simp only [List.setIfInBounds_toArray, List.set_cons_zero, List.set_cons_succ]
      clear hb
      refine takeVal 9 64 (.bool true) rfl (by kernel_rfl) (by kernel_rfl) (by kernel_rfl) rfl (by rfl) (fun _ _ _ h => h) hHeld (fun _ _ => by go_simp) ?_
      simp only [List.setIfInBounds_toArray, List.set_cons_zero, List.set_cons_succ]
      refine takeVal 10 65 (.bool true) rfl (by kernel_rfl) (by kernel_rfl) (by kernel_rfl) rfl (by rfl) (fun _ _ _ h => h) hHeld (fun _ _ => by go_simp) ?_
      simp only [List.setIfInBounds_toArray, List.set_cons_zero, List.set_cons_succ]
      refine takeVal 11 66 (.bool true) rfl (by kernel_rfl) (by kernel_rfl) (by kernel_rfl) rfl (by rfl) (fun _ _ _ h => h) hHeld (fun _ _ => rfl) ?_
      simp only [List.setIfInBounds_toArray, List.set_cons_zero, List.set_cons_succ]
      refine takeSec 12 67 (.tmp 7) (w1.heap.size) V hVl rfl (by kernel_rfl) (by kernel_rfl) (by kernel_rfl) rfl rfl rfl (by rfl) (fun _ _ _ h => h) hHeld (fun _ h => h.2.1) ?_
      simp only [List.setIfInBounds_toArray, List.set_cons_zero, List.set_cons_succ]
      refine takeVal 13 68 (.int .i64 b) rfl (by kernel_rfl) (by kernel_rfl) (by kernel_rfl) rfl (by rfl) (fun _ _ _ h => h) hHeld (fun _ _ => rfl) ?_
      simp only [List.setIfInBounds_toArray, List.set_cons_zero, List.set_cons_succ]
      refine takeSec 15 70 (.tmp 3) (w.heap.size) s hsl rfl (by kernel_rfl) (by kernel_rfl) (by kernel_rfl) rfl rfl rfl (by rfl) (fun _ _ _ h => h) hHeld (fun _ h => h.1) ?_
      simp only [List.setIfInBounds_toArray, List.set_cons_zero, List.set_cons_succ]
      refine takeVal 16 71 (.int .i64 a) rfl (by kernel_rfl) (by kernel_rfl) (by kernel_rfl) rfl (by rfl) (fun _ _ _ h => h) hHeld (fun _ _ => rfl) ?_
      simp only [List.setIfInBounds_toArray, List.set_cons_zero, List.set_cons_succ]
      refine takeVal 17 72 (.int .i64 b) rfl (by kernel_rfl) (by kernel_rfl) (by kernel_rfl) rfl (by rfl) (fun _ _ _ h => h) hHeld (fun _ _ => rfl) ?_
      simp only [List.setIfInBounds_toArray, List.set_cons_zero, List.set_cons_succ]
      refine takeVal 18 73 (.int .i64 mn) rfl (by kernel_rfl) (by kernel_rfl) (by kernel_rfl) rfl (by rfl) (fun _ _ _ h => h) hHeld (fun _ _ => by go_simp; exact HAB.out) ?_
      simp only [List.setIfInBounds_toArray, List.set_cons_zero, List.set_cons_succ]
      refine stepCall 14 69 6 #[.agg (SA V), .int .i64 b] _ rfl (by kernel_rfl) rfl (by rfl) (by go_simp) (HX.out _) ?_
      rintro e w6 ⟨rfl, hb⟩
      refine ⟨_, rfl, HeldS.keep hlt12 hHeld hb, fun hHeld => ?_⟩
      simp only [List.setIfInBounds_toArray, List.set_cons_zero, List.set_cons_succ]
      clear hb
      refine stepCall 19 74 6 #[.agg (SA s), .int .i64 mn] _ rfl (by kernel_rfl) rfl (by rfl) (by go_simp) (HY.out _) ?_
      rintro e w7 ⟨rfl, hb⟩
      refine ⟨_, rfl, HeldS.keep hlt12 hHeld hb, fun hHeld => ?_⟩
      simp only [List.setIfInBounds_toArray, List.set_cons_zero, List.set_cons_succ]
      clear hb
      refine takeVal 20 75 (.bool true) rfl (by kernel_rfl) (by kernel_rfl) (by kernel_rfl) rfl (by rfl) (fun _ _ _ h => h) hHeld (fun _ _ => by go_simp) ?_
      simp only [List.setIfInBounds_toArray, List.set_cons_zero, List.set_cons_succ]
      refine takeVal 21 76 (.bool true) rfl (by kernel_rfl) (by kernel_rfl) (by kernel_rfl) rfl (by rfl) (fun _ _ _ h => h) hHeld (fun _ _ => by go_simp) ?_
      simp only [List.setIfInBounds_toArray, List.set_cons_zero, List.set_cons_succ]
      refine takeVal 22 77 (.bool true) rfl (by kernel_rfl) (by kernel_rfl) (by kernel_rfl) rfl (by rfl) (fun _ _ _ h => h) hHeld (fun _ _ => rfl) ?_
      simp only [List.setIfInBounds_toArray, List.set_cons_zero, List.set_cons_succ]
      refine takeSec 23 78 (.tmp 3) (w.heap.size) s hsl rfl (by kernel_rfl) (by kernel_rfl) (by kernel_rfl) rfl rfl rfl (by rfl) (fun _ _ _ h => h) hHeld (fun _ h => h.1) ?_
      simp only [List.setIfInBounds_toArray, List.set_cons_zero, List.set_cons_succ]
      refine stepCall 24 79 6 #[.agg (SA s), .int .i64 (-1)] _ rfl (by kernel_rfl) rfl (by rfl) (by go_simp) (HN.out _) ?_
      rintro e w8 ⟨rfl, hb⟩
      refine ⟨_, rfl, HeldS.keep hlt12 hHeld hb, fun hHeld => ?_⟩
      simp only [List.setIfInBounds_toArray, List.set_cons_zero, List.set_cons_succ]
      clear hb
      refine stepCall 25 80 7 #[.agg (SA Zs)] _ rfl (by kernel_rfl) rfl (by rfl) (by go_simp) (HZ3.out _) ?_
      rintro e w9 ⟨rfl, hb⟩
      refine ⟨_, rfl, HeldS.keep hlt12 hHeld hb, fun hHeld => ?_⟩
      simp only [List.setIfInBounds_toArray, List.set_cons_zero, List.set_cons_succ]
      clear hb
      refine takeVal 26 81 (.bool true) rfl (by kernel_rfl) (by kernel_rfl) (by kernel_rfl) rfl (by rfl) (fun _ _ _ h => h) hHeld (fun _ _ => by go_simp) ?_
      simp only [List.setIfInBounds_toArray, List.set_cons_zero, List.set_cons_succ]
      refine takeVal 27 82 (.bool true) rfl (by kernel_rfl) (by kernel_rfl) (by kernel_rfl) rfl (by rfl) (fun _ _ _ h => h) hHeld (fun _ _ => rfl) ?_
      simp only [List.setIfInBounds_toArray, List.set_cons_zero, List.set_cons_succ]
      refine takeSec 28 83 (.tmp 3) (w.heap.size) s hsl rfl (by kernel_rfl) (by kernel_rfl) (by kernel_rfl) rfl rfl rfl (by rfl) (fun _ _ _ h => h) hHeld (fun _ h => h.1) ?_
      simp only [List.setIfInBounds_toArray, List.set_cons_zero, List.set_cons_succ]
      refine takeSec 30 85 (.tmp 3) (w.heap.size) s hsl rfl (by kernel_rfl) (by kernel_rfl) (by kernel_rfl) rfl rfl rfl (by rfl) (fun _ _ _ h => h) hHeld (fun _ h => h.1) ?_
      simp only [List.setIfInBounds_toArray, List.set_cons_zero, List.set_cons_succ]
      refine stepCall 29 84 6 #[.agg (SA s), .int .i64 128] _ rfl (by kernel_rfl) rfl (by rfl) (by go_simp) (HE.out _) ?_
      rintro e w10 ⟨rfl, hb⟩
      refine ⟨_, rfl, HeldS.keep hlt12 hHeld hb, fun hHeld => ?_⟩
      simp only [List.setIfInBounds_toArray, List.set_cons_zero, List.set_cons_succ]
      clear hb
      refine takeVal 31 86 (.bool true) rfl (by kernel_rfl) (by kernel_rfl) (by kernel_rfl) rfl (by rfl) (fun _ _ _ h => h) hHeld (fun _ _ => by go_simp) ?_
      simp only [List.setIfInBounds_toArray, List.set_cons_zero, List.set_cons_succ]
      refine takeVal 32 87 (.bool true) rfl (by kernel_rfl) (by kernel_rfl) (by kernel_rfl) rfl (by rfl) (fun _ _ _ h => h) hHeld (fun _ _ => by go_simp) ?_
      simp only [List.setIfInBounds_toArray, List.set_cons_zero, List.set_cons_succ]
      refine takeVal 33 88 (.bool true) rfl (by kernel_rfl) (by kernel_rfl) (by kernel_rfl) rfl (by rfl) (fun _ _ _ h => h) hHeld (fun _ _ => rfl) ?_
      simp only [List.setIfInBounds_toArray, List.set_cons_zero, List.set_cons_succ]
      refine stepCall 34 89 8 #[] _ rfl (by kernel_rfl) rfl (by rfl) (by go_simp) (known_any _) ?_
      rintro e w11 ⟨rfl, hb⟩
      refine ⟨_, rfl, HeldS.keep hlt12 hHeld hb, fun hHeld => ?_⟩
      simp only [List.setIfInBounds_toArray, List.set_cons_zero, List.set_cons_succ]
      clear hb
      refine takeVal 35 90 (.bool true) rfl (by kernel_rfl) (by kernel_rfl) (by kernel_rfl) rfl (by rfl) (fun _ _ _ h => h) hHeld (fun _ _ => by go_simp) ?_
      simp only [List.setIfInBounds_toArray, List.set_cons_zero, List.set_cons_succ]
      refine takeVal 36 6 (.bool true) rfl (by kernel_rfl) (by kernel_rfl) (by kernel_rfl) rfl (by rfl) (fun _ _ _ h => h) hHeld (fun _ _ => rfl) ?_
      simp only [List.setIfInBounds_toArray, List.set_cons_zero, List.set_cons_succ]
      refine wpAnyH_done (by kernel_rfl) ?_ _
      refine NoPanic.normal ?_
      go_wp2_with fail
      go_ret
      exact ⟨rfl, hHeld.2.2.2⟩

theorem wipes_walk (s : List Int) (a b : Int) (w : World) (hs : IsSec s) :
    Calls Try.prog 3 #[.agg (SA s), .int .i64 a, .int .i64 b] w fun e w' => e = .returned (.bool true) ∧ Below w.heap.size w w' :=
  wipes_way s a b (min a b) w hs rfl (by split <;> omega)

end Go.Proofs.Ytibneoajkbblaab
