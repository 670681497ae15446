/-
  The walk of PathRefuses.
-/
import Derived.Test.YtcckjkmkegpekabDoorWRefuse0
namespace Go.Proofs.YtcckjkmkegpekabDoor
open Go.RowKit Go.Shelf

theorem below_drew {B : Nat} {w w' : World} (h : Below B w w') : Below B w w'.drew := ⟨h.os, h.tape, h.output, h.size, h.block⟩
theorem own_new0 (W : World) (B : Nat) (hB : B ≤ W.heap.size) : TOwn (W.alloc (.cells #[] 9)) B (.slice (some ⟨W.heap.size, 0, none⟩) 0 0) [] :=
  ⟨rfl, .inr ⟨W.heap.size, 0, #[], rfl, hB, heap_alloc_new _ _, Nat.le_refl _, Nat.zero_le _, rfl, rfl⟩⟩
theorem tat_chg {X X' : World} {g : Nat} {ys : List ByteArray} {ks : Nat → Prop} (h : TAt X (some ⟨g, 0, none⟩) ys) (hc : Chg X X' ks) (hn : ¬ ks g) : TAt X' (some ⟨g, 0, none⟩) ys := by
  rcases h with h | ⟨ad, e, hg, h⟩
  · exact .inl h
  · cases e
    refine .inr ⟨_, rfl, Nat.lt_of_lt_of_le hg hc.size, fun j x hx => ?_⟩
    have := h j x hx
    rw [addr_add] at this ⊢
    unfold World.cell? at this ⊢
    rw [hc.block g hg hn]; exact this
theorem path_size' {xs : List ByteArray} {p : ByteArray} (h : p.data.toList = pathOf (datas xs)) (hs : sizes (datas xs) ≤ 400) : p.size ≤ 400 ∧ 1 ≤ p.size := by
  have h1 := congrArg List.length h
  rw [len_eq, path_len] at h1
  split at h1
  · omega
  · rename_i hne
    have := sizes_len (datas xs)
    have h2 : 1 ≤ (datas xs).length := by
      rcases Nat.eq_zero_or_pos (datas xs).length with e | e
      · exact absurd (List.length_eq_zero_iff.1 e) hne
      · exact e
    omega
/-- The five texts are of no path's form. -/
theorem texts_no {xs : List ByteArray} {p t1 t2 t3 t4 : ByteArray} (h : p.data.toList = pathOf (datas xs)) (ok : (datas xs).all okName = true) (h1 : p ++ ⟨#[47]⟩ = t1) (h2 : (⟨#[47]⟩ : ByteArray) ++ p = t2) (h3 : p.extract 1 p.size ++ ⟨#[97]⟩ = t3) (h4 : (⟨#[97]⟩ : ByteArray) ++ p = t4) :
    ∀ j, j < 5 → splitR (([⟨#[]⟩, t1, t2, t3, t4] : List ByteArray).getD j ByteArray.empty).data.toList = ([], 70) := by
  obtain ⟨r, hr⟩ := path_head (datas xs)
  intro j hj
  match j, hj with
  | 0, _ => exact split_not (not_formed_head (by simp))
  | 1, _ =>
    show splitR t1.data.toList = _
    have e : t1.data.toList = p.data.toList ++ [47] := by rw [← h1]; simp
    rw [e]; exact split_not (not_formed_end (by rw [h, hr]; simp))
  | 2, _ =>
    show splitR t2.data.toList = _
    have e : t2.data.toList = 47 :: p.data.toList := by rw [← h2]; simp
    rw [e, h, hr]; exact split_not (not_formed_two r)
  | 3, _ =>
    show splitR t3.data.toList = _
    have e : t3.data.toList = (pathOf (datas xs)).tail ++ [97] := by rw [← h3, ← h, ← tail_data p]; simp
    rw [e]; exact split_not (not_formed_head (path_second _ ok))
  | 4, _ =>
    show splitR t4.data.toList = _
    have e : t4.data.toList = 97 :: p.data.toList := by rw [← h4]; simp
    rw [e]; exact split_not (not_formed_head (by simp))

set_option maxRecDepth 100000 in
set_option maxHeartbeats 4000000 in
theorem refuses_walk (l : List ByteArray) (x1 x2 : Int) (a : Option Addr) (c : Nat) (w : World) (hm : ML w) (hc : c ≤ maxLen) (hl : l.length ≤ c) (ha : TAt w a l) (hx1 : I64 x1) (hx2 : I64 x2) :
    Calls Tryd.prog 3 #[.slice a l.length c, .int .i64 x1, .int .i64 x2] w fun e w' => e = .returned (.bool true) ∧ Below w.heap.size w w' := by
  have hF := few_is l a c w (by unfold maxLen at hc; omega) ha
  have hK := fun w' hm' => known_any w' hm'
  have hP1 := fun w' => pick_any x1 8 w' hx1 (by omega) (by omega)
  have hpb1 := pickN_bd x1 (n := 8) (by omega)
  obtain ⟨K, hKe⟩ : ∃ K : Nat, pickN x1 8 = (K : Int) := ⟨(pickN x1 8).toNat, by omega⟩
  rw [hKe] at hP1
  have hK8 : K < 8 := by omega
  have hP2 := fun (n : Int) w' (h1 : 1 ≤ n) (h2 : n ≤ 4611686018427387904) => pick_any x2 n w' hx2 h1 h2
  have HP2 := hid hP2
  have HM := hid hm
  clear ha hm hc hl hx1 hx2 hpb1 hKe hP2
  go_enter Tryd.func3, Tryd.ntmps3
  go_upto_region 8 with (first
    | (go_at_call 5; go_must (refine hF.mono ?_; rintro e w2 ⟨b2, d2, xs, rfl, hxs, ok2, sz2, ln2, le2, at2, hb2⟩; have HA2 := hid at2; have HOK2 := hid ok2; have HSZ2 := hid sz2; clear hF at2 hxs ok2 sz2))
    | (go_at_call 6; go_must (refine (join_few xs b2 _ d2 _ HA2.out rfl le2 HOK2.out HSZ2.out).mono ?_; rintro e w3 ⟨p, rfl, hp, hb3⟩; have HP := hid hp; have HB3 := hid (btr hb2 hb3 hb2.size); have HA3 := hid (HA2.out.below hb3); have hps := path_size' hp HSZ2.out; clear hp HA2 hb3))
    | (go_at_call 7; go_must (first
        | (refine (hP1 _).mono ?_; rintro e w4 ⟨rfl, hw4⟩; subst hw4; clear hP1; obtain ⟨I, hIe⟩ : ∃ I : Nat, pickN x2 ((xs.length : Int) + 1) = (I : Int) := ⟨(pickN x2 ((xs.length : Int) + 1)).toNat, by have := pickN_bd x2 (n := (xs.length : Int) + 1) (by omega); omega⟩; have hIb : I ≤ xs.length := (by have := pickN_bd x2 (n := (xs.length : Int) + 1) (by omega); omega); have hP3 := fun w' => HP2.out ((xs.length : Int) + 1) w' (by omega) (by omega); rw [hIe] at hP3; clear hIe HP2)
        | (refine (hP3 _).mono ?_; rintro e w5 ⟨rfl, hw5⟩; subst hw5; clear hP3)))
    | fail)
  generalize hn : xs.length = n at *
  have HLn := hid hn
  have hId : I ≤ d2 := by omega
  obtain ⟨gb, hgb⟩ : ∃ g, g = w3.heap.size := ⟨_, rfl⟩
  have HU := hid (bad_no K hK8)
  have hcell0 : (w3.alloc (.cells (badL.map Value.string).toArray 9)).cell? ⟨gb, K, none⟩ = some (.string (badL.getD K ByteArray.empty)) := by
    rw [hgb, cell_of_row _ _ _ _ _ _ (heap_alloc_new _ _), List.getElem?_toArray, List.getElem?_map, getS (show K < badL.length from hK8)]; rfl
  have hu41 : (badL.getD K ByteArray.empty).size ≤ 41 := (by decide : ∀ K, K < 8 → (badL.getD K ByteArray.empty).size ≤ 41) K hK8
  obtain ⟨u, hu⟩ : ∃ u, u = badL.getD K ByteArray.empty := ⟨_, rfl⟩
  rw [← hu] at hcell0 HU hu41
  rw [← hgb]
  obtain ⟨wb, hwb⟩ : ∃ y, y = w3.alloc (.cells (badL.map Value.string).toArray 9) := ⟨_, rfl⟩
  have hwb' : w3.alloc (.cells #[.string ⟨#[]⟩, .string ⟨#[46]⟩, .string ⟨#[46, 46]⟩, .string ⟨#[97, 47, 98]⟩, .string ⟨#[47]⟩, .string ⟨#[0]⟩, .string ⟨#[97, 0]⟩, .string ⟨#[48, 49, 50, 51, 52, 53, 54, 55, 56, 57, 48, 49, 50, 51, 52, 53, 54, 55, 56, 57, 48, 49, 50, 51, 52, 53, 54, 55, 56, 57, 48, 49, 50, 51, 52, 53, 54, 55, 56, 57, 120]⟩] 9) = wb := by rw [hwb]; rfl
  rw [hwb']
  have hbb : Below w.heap.size w wb := by rw [hwb]; exact btr HB3.out (below_new _ _) HB3.out.size
  have hlb : LAt wb b2 xs := by rw [hwb]; exact HA3.out.below (below_new _ _)
  rw [← hwb] at hcell0
  clear hwb hwb' hu hgb HB3 HA3
  refine wp_region_noPanic ?_
  refine wp_region_held_drew (S := fun W => W.cell? ⟨gb, K, none⟩ = some (.string u)) (by kernel_rfl) hcell0 (fun hHeld => ?_)
  obtain ⟨Wd, hWd⟩ : ∃ y, y = wb.drew := ⟨_, rfl⟩
  have hbd : Below w.heap.size w Wd := by rw [hWd]; exact below_drew hbb
  have hld : LAt Wd b2 xs := by rw [hWd]; exact hlb.below (below_drew (Below.refl _ _))
  rw [← hWd] at hHeld ⊢
  have hsd := hHeld
  clear hWd hcell0 hlb hbb
  have bWd : Below Wd.heap.size Wd Wd := Below.refl _ _
  have hk0 : (0 : Int) ≤ (K : Int) := by omega
  have hk8 : (K : Int) < 8 := by omega
  have hI0 : (0 : Int) ≤ (I : Int) := by omega
  have hI1 : (I : Int) ≤ (n : Int) := by omega
  have hI2 : (I : Int) ≤ (d2 : Int) := by omega
  refine takeVal 1 40 (.slice b2 n d2) rfl (by kernel_rfl) (by kernel_rfl) (by kernel_rfl) rfl (by rfl) (fun _ _ _ h => h) hHeld (fun W' hw' => rfl) ?_
  simp only [List.setIfInBounds_toArray, List.set_cons_zero, List.set_cons_succ]
  refine takeVal 2 41 (.int .i64 (I : Int)) rfl (by kernel_rfl) (by kernel_rfl) (by kernel_rfl) rfl (by rfl) (fun _ _ _ h => h) hHeld (fun W' hw' => rfl) ?_
  simp only [List.setIfInBounds_toArray, List.set_cons_zero, List.set_cons_succ]
  refine takeVal 3 42 (.slice b2 I d2) rfl (by kernel_rfl) (by kernel_rfl) (by kernel_rfl) rfl (by rfl) (fun _ _ _ h => h) hHeld (fun W' hw' => by have hs1 := slice_head b2 n d2 I W' hId; go_simp) ?_
  simp only [List.setIfInBounds_toArray, List.set_cons_zero, List.set_cons_succ]
  refine takeVal 5 44 (.slice (some ⟨gb, 0, none⟩) 8 8) rfl (by kernel_rfl) (by kernel_rfl) (by kernel_rfl) rfl (by rfl) (fun _ _ _ h => h) hHeld (fun W' hw' => rfl) ?_
  simp only [List.setIfInBounds_toArray, List.set_cons_zero, List.set_cons_succ]
  refine takeVal 6 45 (.int .i64 (K : Int)) rfl (by kernel_rfl) (by kernel_rfl) (by kernel_rfl) rfl (by rfl) (fun _ _ _ h => h) hHeld (fun W' hw' => rfl) ?_
  simp only [List.setIfInBounds_toArray, List.set_cons_zero, List.set_cons_succ]
  refine takeVal 7 46 (.pointer (some ⟨gb, K, none⟩)) rfl (by kernel_rfl) (by kernel_rfl) (by kernel_rfl) rfl (by rfl) (fun _ _ _ h => h) hHeld (fun W' hw' => by go_simp) ?_
  simp only [List.setIfInBounds_toArray, List.set_cons_zero, List.set_cons_succ]
  refine takeVal 8 47 (.string u) rfl (by kernel_rfl) (by kernel_rfl) (by kernel_rfl) rfl (by rfl) (fun _ _ _ h => h) hHeld (fun W' hw' => by have hs3 : W'.cell? ⟨gb, K, none⟩ = some (.string u) := hw'; go_simp) ?_
  simp only [List.setIfInBounds_toArray, List.set_cons_zero, List.set_cons_succ]
  refine takeVal 11 50 (.slice b2 n d2) rfl (by kernel_rfl) (by kernel_rfl) (by kernel_rfl) rfl (by rfl) (fun _ _ _ h => h) hHeld (fun W' hw' => rfl) ?_
  simp only [List.setIfInBounds_toArray, List.set_cons_zero, List.set_cons_succ]
  refine takeVal 12 51 (.int .i64 (I : Int)) rfl (by kernel_rfl) (by kernel_rfl) (by kernel_rfl) rfl (by rfl) (fun _ _ _ h => h) hHeld (fun W' hw' => rfl) ?_
  simp only [List.setIfInBounds_toArray, List.set_cons_zero, List.set_cons_succ]
  refine takeVal 13 52 (.slice (tailA b2 I d2) (n - I) (d2 - I)) rfl (by kernel_rfl) (by kernel_rfl) (by kernel_rfl) rfl (by rfl) (fun _ _ _ h => h) hHeld (fun W' hw' => by have hs2 := slice_tail b2 n d2 I W' hIb; go_simp) ?_
  simp only [List.setIfInBounds_toArray, List.set_cons_zero, List.set_cons_succ]
  refine step2 0 9 (by kernel_rfl) ?_ ?_
  · refine stNew 0 39 (.slice (some ⟨Wd.heap.size, 0, none⟩) 0 0) (.cells #[] 9) rfl rfl (by rfl) (by go_simp) ⟨cell_below (btr bWd (below_new _ _) bWd.size) (World.block_lt_of_cell? _ _ hsd) hsd, ?_⟩
    simp only [List.setIfInBounds_toArray, List.set_cons_zero, List.set_cons_succ]
    obtain ⟨X0, hX0⟩ : ∃ y, y = Wd.alloc (.cells #[] 9) := ⟨_, rfl⟩
    obtain ⟨g0, hg0⟩ : ∃ y, y = Wd.heap.size := ⟨_, rfl⟩
    rw [← hX0, ← hg0]
    have bX0 : Below Wd.heap.size Wd X0 := by rw [hX0]; exact btr bWd (below_new _ _) bWd.size
    have o0 : TOwn X0 Wd.heap.size (.slice (some ⟨g0, 0, none⟩) 0 0) [] := by rw [hX0, hg0]; exact own_new0 _ _ bWd.size
    have s0 : X0.heap.size = g0 + 1 := by rw [hX0, hg0]; simp
    clear hX0 hg0
    refine step2 4 9 (by kernel_rfl) ?_ ?_
    · refine stAppL 4 43 rfl rfl (by rfl) (.tmp 39) (.tmp 42) rfl Wd.heap.size I d2 b2 _ [] (xs.take I) (by rw [List.length_take]; omega) rfl rfl o0 (head_at (hld.below bX0)) (by simp; omega) bX0.size (fun v4 X4 o4 c4 => ?_)
      have bX4 : Below Wd.heap.size Wd X4 := c4.to bX0 bX0.size (fun k hk => (row_ge o0 hk).1)
      rw [List.nil_append] at o4
      refine ⟨cell_below bX4 (World.block_lt_of_cell? _ _ hsd) hsd, ?_⟩
      simp only [List.setIfInBounds_toArray, List.set_cons_zero, List.set_cons_succ]
      refine step1 9 (by kernel_rfl) ?_
      refine stNew 9 48 (.slice (some ⟨X4.heap.size, 0, none⟩) 1 1) (.cells #[.string u] 9) rfl rfl (by rfl) (by go_simp) ⟨cell_below (btr bX4 (below_new _ _) bX4.size) (World.block_lt_of_cell? _ _ hsd) hsd, ?_⟩
      simp only [List.setIfInBounds_toArray, List.set_cons_zero, List.set_cons_succ]
      obtain ⟨X9, hX9⟩ : ∃ y, y = X4.alloc (.cells #[.string u] 9) := ⟨_, rfl⟩
      obtain ⟨g9, hg9⟩ : ∃ y, y = X4.heap.size := ⟨_, rfl⟩
      rw [← hX9, ← hg9]
      have bX9 : Below Wd.heap.size Wd X9 := by rw [hX9]; exact btr bX4 (below_new _ _) bX4.size
      have t9' : TAt X9 (some ⟨g9, 0, none⟩) [u] := by rw [hX9, hg9]; exact (new_list _ [u]).at
      have s9 : X9.heap.size = g9 + 1 := by rw [hX9, hg9]; simp
      have o4 := (show TOwn X9 Wd.heap.size v4 (xs.take I) by rw [hX9]; exact row_below o4 (below_new _ _))
      have t9 := t9'
      clear hX9 hg9
      refine step1 10 (by kernel_rfl) ?_
      refine stAppL 10 49 rfl rfl (by rfl) (.tmp 43) (.tmp 48) rfl Wd.heap.size 1 1 (some ⟨g9, 0, none⟩) _ (xs.take I) [u] rfl rfl rfl o4 t9 (by simp; omega) bX9.size (fun v10 X10 o10 c10 => ?_)
      have bX10 : Below Wd.heap.size Wd X10 := c10.to bX9 bX9.size (fun k hk => (row_ge o4 hk).1)
      refine ⟨cell_below bX10 (World.block_lt_of_cell? _ _ hsd) hsd, ?_⟩
      simp only [List.setIfInBounds_toArray, List.set_cons_zero, List.set_cons_succ]
      refine step1 14 (by kernel_rfl) ?_
      refine stAppL 14 53 rfl rfl (by rfl) (.tmp 49) (.tmp 52) rfl Wd.heap.size (n - I) (d2 - I) (tailA b2 I d2) _ (xs.take I ++ [u]) (xs.drop I) (by rw [List.length_drop, HLn.out]) rfl rfl o10 (tail_at (hld.below bX10) (by rw [HLn.out]; exact le2)) (by simp; omega) bX10.size (fun v14 X14 o14 c14 => ?_)
      have bX14 : Below Wd.heap.size Wd X14 := c14.to bX10 bX10.size (fun k hk => (row_ge o10 hk).1)
      refine ⟨cell_below bX14 (World.block_lt_of_cell? _ _ hsd) hsd, ?_⟩
      simp only [List.setIfInBounds_toArray, List.set_cons_zero, List.set_cons_succ]
      refine takeVal 15 13 v14 rfl (by kernel_rfl) (by kernel_rfl) (by kernel_rfl) rfl (by rfl) (fun _ _ _ h => h) (cell_below bX14 (World.block_lt_of_cell? _ _ hsd) hsd) (fun W' hw' => rfl) ?_
      simp only [List.setIfInBounds_toArray, List.set_cons_zero, List.set_cons_succ]
      refine wpAnyH_done (by kernel_rfl) ?_ _
      refine NoPanic.normal ?_
      obtain ⟨ys, hys⟩ : ∃ y, y = xs.take I ++ [u] ++ xs.drop I := ⟨_, rfl⟩
      rw [← hys] at o14
      obtain ⟨a8, c8, hv8, hc8, hA8⟩ := TOwn.at o14
      have hyl : ys.length = n + 1 := by rw [hys]; simp <;> omega
      rw [hyl] at hv8
      subst hv8
      have hJ := join_is ys a8 (n + 1) c8 ⟨#[]⟩ 71 X14 hA8 hyl.symm hc8 (by omega) (by rw [hys, join_bad HU.out] <;> rfl)
      have HB14 := hid (btr hbd bX14 hbd.size)
      have HS14 := hid (cell_below bX14 (World.block_lt_of_cell? _ _ hsd) hsd)
      have hCk := fun w' => check_is u false w' HU.out
      rw [if_neg (by decide)] at hCk
      obtain ⟨t1, ht1⟩ : ∃ y, p ++ (⟨#[47]⟩ : ByteArray) = y := ⟨_, rfl⟩
      obtain ⟨t2, ht2⟩ : ∃ y, (⟨#[47]⟩ : ByteArray) ++ p = y := ⟨_, rfl⟩
      obtain ⟨q, hq⟩ : ∃ y, p.extract 1 p.size = y := ⟨_, rfl⟩
      obtain ⟨t3, ht3⟩ : ∃ y, q ++ (⟨#[97]⟩ : ByteArray) = y := ⟨_, rfl⟩
      obtain ⟨t4, ht4⟩ : ∃ y, (⟨#[97]⟩ : ByteArray) ++ p = y := ⟨_, rfl⟩
      have HTX := hid (texts_no (t3 := t3) HP.out HOK2.out ht1 ht2 (by rw [hq]; exact ht3) ht4)
      have hq400 : q.size ≤ 400 := by rw [← hq]; simp <;> omega
      have hr1 : p.size + (⟨#[47]⟩ : ByteArray).size ≤ 9223372036854775807 := by have : (⟨#[47]⟩ : ByteArray).size = 1 := rfl; omega
      have hr2 : (⟨#[47]⟩ : ByteArray).size + p.size ≤ 9223372036854775807 := by have : (⟨#[47]⟩ : ByteArray).size = 1 := rfl; omega
      have hr3 : q.size + (⟨#[97]⟩ : ByteArray).size ≤ 9223372036854775807 := by have : (⟨#[97]⟩ : ByteArray).size = 1 := rfl; omega
      have hr4 : (⟨#[97]⟩ : ByteArray).size + p.size ≤ 9223372036854775807 := by have : (⟨#[97]⟩ : ByteArray).size = 1 := rfl; omega
      have hpz : (1 : Int) ≤ (p.size : Int) := by omega
      clear hHeld hsd hld hbd bX14 o14 hys hyl hA8 hc8
      go_wp2_with (first
        | (go_at_call 6; go_must (refine hJ.mono ?_; rintro e w20 ⟨rfl, hb20⟩; have HB20 := hid (btr HB14.out hb20 HB14.out.size); have p20 := cell_below hb20 (World.block_lt_of_cell? _ _ HS14.out) HS14.out; clear hb20 hJ))
        | (go_at_call 8; go_must (refine (hCk _).mono ?_; rintro e w21 ⟨rfl, hb21⟩; have HB21 := hid (btr HB20.out hb21 HB20.out.size); clear hb21 p20))
        | fail)
      clear ht1 ht2 ht3 ht4 hq hr1 hr2 hr3 hr4
      have HT0 := hid (new_list w21 [⟨#[]⟩, t1, t2, t3, t4])
      have HB22 : Hid (Below w.heap.size w (w21.alloc (.cells #[.string ⟨#[]⟩, .string t1, .string t2, .string t3, .string t4] 9))) := btr HB21.out (below_new _ _) HB21.out.size
      obtain ⟨w22, hw22⟩ : ∃ y, y = w21.alloc (.cells #[.string ⟨#[]⟩, .string t1, .string t2, .string t3, .string t4] 9) := ⟨_, rfl⟩
      have HT1 : Hid (LAt w22 (some ⟨w21.heap.size, 0, none⟩) [⟨#[]⟩, t1, t2, t3, t4]) := by show LAt _ _ _; rw [hw22]; exact HT0.out
      rw [← hw22] at HB22 ⊢
      obtain ⟨gt, hgt⟩ : ∃ y, y = w21.heap.size := ⟨_, rfl⟩
      rw [← hgt] at HT1 ⊢
      clear hw22 hgt HT0
      go_loopw [17] (fun i wr => ∃ j : Nat, j ≤ 5 ∧ i = .int .i64 j ∧ Below w22.heap.size w22 wr) (fun i _ => 5 - (intOf i).toNat)
      case atStart => exact ⟨0, by omega, rfl, Below.refl _ _⟩
      case round =>
        obtain ⟨j, hj, rfl, hbq⟩ := hrel
        obtain ⟨Wy, hWy⟩ : ∃ y, y = wr := ⟨_, rfl⟩
        subst hWy
        have HBy := hid (btr HB22.out hbq HB22.out.size)
        by_cases hj5 : j < 5
        · have hcl : Wy.cell? ⟨gt, j, none⟩ = some (.string (([⟨#[]⟩, t1, t2, t3, t4] : List ByteArray).getD j ByteArray.empty)) := by
            rcases HT1.out with h | ⟨g, e, hg, h⟩
            · cases h
            · cases e
              exact cell_below hbq hg (h j _ (getS hj5))
          have hS := split_is (([⟨#[]⟩, t1, t2, t3, t4] : List ByteArray).getD j ByteArray.empty) [] 70 Wy (HM.out.below HBy.out) (HTX.out j hj5)
          generalize ([⟨#[]⟩, t1, t2, t3, t4] : List ByteArray).getD j ByteArray.empty = tj at *
          have hj0 : (0 : Int) ≤ (j : Int) := by omega
          have hj1 : (j : Int) < 5 := by omega
          go_wp2_with (go_at_call 9; go_must (refine hS.mono ?_; rintro e w30 ⟨a30, rfl, ho30, hb30, hm30⟩; have HB30 := hid (btr hbq hb30 hbq.size); clear ho30 hb30 hm30 hS))
          exact ⟨⟨j + 1, by omega, by go_num, HB30.out⟩, by simp [intOf]; omega⟩
        · obtain rfl : j = 5 := by omega
          go_wp2_with (go_at_call 10; go_must (refine (hK _ (HM.out.below HBy.out)).mono ?_; rintro e w31 ⟨rfl, hb31⟩; have HB31 := hid (btr HBy.out hb31 HBy.out.size); clear hb31))
          go_ret
          exact ⟨rfl, HB31.out⟩
    · refine stNew 9 48 (.slice (some ⟨X0.heap.size, 0, none⟩) 1 1) (.cells #[.string u] 9) rfl rfl (by rfl) (by go_simp) ⟨cell_below (btr bX0 (below_new _ _) bX0.size) (World.block_lt_of_cell? _ _ hsd) hsd, ?_⟩
      simp only [List.setIfInBounds_toArray, List.set_cons_zero, List.set_cons_succ]
      obtain ⟨X9, hX9⟩ : ∃ y, y = X0.alloc (.cells #[.string u] 9) := ⟨_, rfl⟩
      obtain ⟨g9, hg9⟩ : ∃ y, y = X0.heap.size := ⟨_, rfl⟩
      rw [← hX9, ← hg9]
      have bX9 : Below Wd.heap.size Wd X9 := by rw [hX9]; exact btr bX0 (below_new _ _) bX0.size
      have t9' : TAt X9 (some ⟨g9, 0, none⟩) [u] := by rw [hX9, hg9]; exact (new_list _ [u]).at
      have s9 : X9.heap.size = g9 + 1 := by rw [hX9, hg9]; simp
      have o0 := (show TOwn X9 Wd.heap.size (.slice (some ⟨g0, 0, none⟩) 0 0) [] by rw [hX9]; exact row_below o0 (below_new _ _))
      have t9 := t9'
      have n9 : ¬ g9 = g0 := by omega
      clear hX9 hg9
      refine step1 4 (by kernel_rfl) ?_
      refine stAppL 4 43 rfl rfl (by rfl) (.tmp 39) (.tmp 42) rfl Wd.heap.size I d2 b2 _ [] (xs.take I) (by rw [List.length_take]; omega) rfl rfl o0 (head_at (hld.below bX9)) (by simp; omega) bX9.size (fun v4 X4 o4 c4 => ?_)
      have bX4 : Below Wd.heap.size Wd X4 := c4.to bX9 bX9.size (fun k hk => (row_ge o0 hk).1)
      have t9 := tat_chg t9 c4 (fun e => n9 (by cases e; rfl))
      rw [List.nil_append] at o4
      refine ⟨cell_below bX4 (World.block_lt_of_cell? _ _ hsd) hsd, ?_⟩
      simp only [List.setIfInBounds_toArray, List.set_cons_zero, List.set_cons_succ]
      refine step1 10 (by kernel_rfl) ?_
      refine stAppL 10 49 rfl rfl (by rfl) (.tmp 43) (.tmp 48) rfl Wd.heap.size 1 1 (some ⟨g9, 0, none⟩) _ (xs.take I) [u] rfl rfl rfl o4 t9 (by simp; omega) bX4.size (fun v10 X10 o10 c10 => ?_)
      have bX10 : Below Wd.heap.size Wd X10 := c10.to bX4 bX4.size (fun k hk => (row_ge o4 hk).1)
      refine ⟨cell_below bX10 (World.block_lt_of_cell? _ _ hsd) hsd, ?_⟩
      simp only [List.setIfInBounds_toArray, List.set_cons_zero, List.set_cons_succ]
      refine step1 14 (by kernel_rfl) ?_
      refine stAppL 14 53 rfl rfl (by rfl) (.tmp 49) (.tmp 52) rfl Wd.heap.size (n - I) (d2 - I) (tailA b2 I d2) _ (xs.take I ++ [u]) (xs.drop I) (by rw [List.length_drop, HLn.out]) rfl rfl o10 (tail_at (hld.below bX10) (by rw [HLn.out]; exact le2)) (by simp; omega) bX10.size (fun v14 X14 o14 c14 => ?_)
      have bX14 : Below Wd.heap.size Wd X14 := c14.to bX10 bX10.size (fun k hk => (row_ge o10 hk).1)
      refine ⟨cell_below bX14 (World.block_lt_of_cell? _ _ hsd) hsd, ?_⟩
      simp only [List.setIfInBounds_toArray, List.set_cons_zero, List.set_cons_succ]
      refine takeVal 15 13 v14 rfl (by kernel_rfl) (by kernel_rfl) (by kernel_rfl) rfl (by rfl) (fun _ _ _ h => h) (cell_below bX14 (World.block_lt_of_cell? _ _ hsd) hsd) (fun W' hw' => rfl) ?_
      simp only [List.setIfInBounds_toArray, List.set_cons_zero, List.set_cons_succ]
      refine wpAnyH_done (by kernel_rfl) ?_ _
      refine NoPanic.normal ?_
      obtain ⟨ys, hys⟩ : ∃ y, y = xs.take I ++ [u] ++ xs.drop I := ⟨_, rfl⟩
      rw [← hys] at o14
      obtain ⟨a8, c8, hv8, hc8, hA8⟩ := TOwn.at o14
      have hyl : ys.length = n + 1 := by rw [hys]; simp <;> omega
      rw [hyl] at hv8
      subst hv8
      have hJ := join_is ys a8 (n + 1) c8 ⟨#[]⟩ 71 X14 hA8 hyl.symm hc8 (by omega) (by rw [hys, join_bad HU.out] <;> rfl)
      have HB14 := hid (btr hbd bX14 hbd.size)
      have HS14 := hid (cell_below bX14 (World.block_lt_of_cell? _ _ hsd) hsd)
      have hCk := fun w' => check_is u false w' HU.out
      rw [if_neg (by decide)] at hCk
      obtain ⟨t1, ht1⟩ : ∃ y, p ++ (⟨#[47]⟩ : ByteArray) = y := ⟨_, rfl⟩
      obtain ⟨t2, ht2⟩ : ∃ y, (⟨#[47]⟩ : ByteArray) ++ p = y := ⟨_, rfl⟩
      obtain ⟨q, hq⟩ : ∃ y, p.extract 1 p.size = y := ⟨_, rfl⟩
      obtain ⟨t3, ht3⟩ : ∃ y, q ++ (⟨#[97]⟩ : ByteArray) = y := ⟨_, rfl⟩
      obtain ⟨t4, ht4⟩ : ∃ y, (⟨#[97]⟩ : ByteArray) ++ p = y := ⟨_, rfl⟩
      have HTX := hid (texts_no (t3 := t3) HP.out HOK2.out ht1 ht2 (by rw [hq]; exact ht3) ht4)
      have hq400 : q.size ≤ 400 := by rw [← hq]; simp <;> omega
      have hr1 : p.size + (⟨#[47]⟩ : ByteArray).size ≤ 9223372036854775807 := by have : (⟨#[47]⟩ : ByteArray).size = 1 := rfl; omega
      have hr2 : (⟨#[47]⟩ : ByteArray).size + p.size ≤ 9223372036854775807 := by have : (⟨#[47]⟩ : ByteArray).size = 1 := rfl; omega
      have hr3 : q.size + (⟨#[97]⟩ : ByteArray).size ≤ 9223372036854775807 := by have : (⟨#[97]⟩ : ByteArray).size = 1 := rfl; omega
      have hr4 : (⟨#[97]⟩ : ByteArray).size + p.size ≤ 9223372036854775807 := by have : (⟨#[97]⟩ : ByteArray).size = 1 := rfl; omega
      have hpz : (1 : Int) ≤ (p.size : Int) := by omega
      clear hHeld hsd hld hbd bX14 o14 hys hyl hA8 hc8
      go_wp2_with (first
        | (go_at_call 6; go_must (refine hJ.mono ?_; rintro e w20 ⟨rfl, hb20⟩; have HB20 := hid (btr HB14.out hb20 HB14.out.size); have p20 := cell_below hb20 (World.block_lt_of_cell? _ _ HS14.out) HS14.out; clear hb20 hJ))
        | (go_at_call 8; go_must (refine (hCk _).mono ?_; rintro e w21 ⟨rfl, hb21⟩; have HB21 := hid (btr HB20.out hb21 HB20.out.size); clear hb21 p20))
        | fail)
      clear ht1 ht2 ht3 ht4 hq hr1 hr2 hr3 hr4
      have HT0 := hid (new_list w21 [⟨#[]⟩, t1, t2, t3, t4])
      have HB22 : Hid (Below w.heap.size w (w21.alloc (.cells #[.string ⟨#[]⟩, .string t1, .string t2, .string t3, .string t4] 9))) := btr HB21.out (below_new _ _) HB21.out.size
      obtain ⟨w22, hw22⟩ : ∃ y, y = w21.alloc (.cells #[.string ⟨#[]⟩, .string t1, .string t2, .string t3, .string t4] 9) := ⟨_, rfl⟩
      have HT1 : Hid (LAt w22 (some ⟨w21.heap.size, 0, none⟩) [⟨#[]⟩, t1, t2, t3, t4]) := by show LAt _ _ _; rw [hw22]; exact HT0.out
      rw [← hw22] at HB22 ⊢
      obtain ⟨gt, hgt⟩ : ∃ y, y = w21.heap.size := ⟨_, rfl⟩
      rw [← hgt] at HT1 ⊢
      clear hw22 hgt HT0
      go_loopw [17] (fun i wr => ∃ j : Nat, j ≤ 5 ∧ i = .int .i64 j ∧ Below w22.heap.size w22 wr) (fun i _ => 5 - (intOf i).toNat)
      case atStart => exact ⟨0, by omega, rfl, Below.refl _ _⟩
      case round =>
        obtain ⟨j, hj, rfl, hbq⟩ := hrel
        obtain ⟨Wy, hWy⟩ : ∃ y, y = wr := ⟨_, rfl⟩
        subst hWy
        have HBy := hid (btr HB22.out hbq HB22.out.size)
        by_cases hj5 : j < 5
        · have hcl : Wy.cell? ⟨gt, j, none⟩ = some (.string (([⟨#[]⟩, t1, t2, t3, t4] : List ByteArray).getD j ByteArray.empty)) := by
            rcases HT1.out with h | ⟨g, e, hg, h⟩
            · cases h
            · cases e
              exact cell_below hbq hg (h j _ (getS hj5))
          have hS := split_is (([⟨#[]⟩, t1, t2, t3, t4] : List ByteArray).getD j ByteArray.empty) [] 70 Wy (HM.out.below HBy.out) (HTX.out j hj5)
          generalize ([⟨#[]⟩, t1, t2, t3, t4] : List ByteArray).getD j ByteArray.empty = tj at *
          have hj0 : (0 : Int) ≤ (j : Int) := by omega
          have hj1 : (j : Int) < 5 := by omega
          go_wp2_with (go_at_call 9; go_must (refine hS.mono ?_; rintro e w30 ⟨a30, rfl, ho30, hb30, hm30⟩; have HB30 := hid (btr hbq hb30 hbq.size); clear ho30 hb30 hm30 hS))
          exact ⟨⟨j + 1, by omega, by go_num, HB30.out⟩, by simp [intOf]; omega⟩
        · obtain rfl : j = 5 := by omega
          go_wp2_with (go_at_call 10; go_must (refine (hK _ (HM.out.below HBy.out)).mono ?_; rintro e w31 ⟨rfl, hb31⟩; have HB31 := hid (btr HBy.out hb31 HBy.out.size); clear hb31))
          go_ret
          exact ⟨rfl, HB31.out⟩
  · refine stNew 9 48 (.slice (some ⟨Wd.heap.size, 0, none⟩) 1 1) (.cells #[.string u] 9) rfl rfl (by rfl) (by go_simp) ⟨cell_below (btr bWd (below_new _ _) bWd.size) (World.block_lt_of_cell? _ _ hsd) hsd, ?_⟩
    simp only [List.setIfInBounds_toArray, List.set_cons_zero, List.set_cons_succ]
    obtain ⟨X9, hX9⟩ : ∃ y, y = Wd.alloc (.cells #[.string u] 9) := ⟨_, rfl⟩
    obtain ⟨g9, hg9⟩ : ∃ y, y = Wd.heap.size := ⟨_, rfl⟩
    rw [← hX9, ← hg9]
    have bX9 : Below Wd.heap.size Wd X9 := by rw [hX9]; exact btr bWd (below_new _ _) bWd.size
    have t9' : TAt X9 (some ⟨g9, 0, none⟩) [u] := by rw [hX9, hg9]; exact (new_list _ [u]).at
    have s9 : X9.heap.size = g9 + 1 := by rw [hX9, hg9]; simp
    clear hX9 hg9
    refine step1 0 (by kernel_rfl) ?_
    refine stNew 0 39 (.slice (some ⟨X9.heap.size, 0, none⟩) 0 0) (.cells #[] 9) rfl rfl (by rfl) (by go_simp) ⟨cell_below (btr bX9 (below_new _ _) bX9.size) (World.block_lt_of_cell? _ _ hsd) hsd, ?_⟩
    simp only [List.setIfInBounds_toArray, List.set_cons_zero, List.set_cons_succ]
    obtain ⟨X0, hX0⟩ : ∃ y, y = X9.alloc (.cells #[] 9) := ⟨_, rfl⟩
    obtain ⟨g0, hg0⟩ : ∃ y, y = X9.heap.size := ⟨_, rfl⟩
    rw [← hX0, ← hg0]
    have bX0 : Below Wd.heap.size Wd X0 := by rw [hX0]; exact btr bX9 (below_new _ _) bX9.size
    have o0 : TOwn X0 Wd.heap.size (.slice (some ⟨g0, 0, none⟩) 0 0) [] := by rw [hX0, hg0]; exact own_new0 _ _ bX9.size
    have s0 : X0.heap.size = g0 + 1 := by rw [hX0, hg0]; simp
    have q0 : X9.heap.size ≤ g0 := by rw [hg0]; exact Nat.le_refl _
    have t9 : TAt X0 (some ⟨g9, 0, none⟩) [u] := by rw [hX0]; exact t9'.below (below_new _ _)
    have n9 : ¬ g9 = g0 := by omega
    clear hX0 hg0
    refine step1 4 (by kernel_rfl) ?_
    refine stAppL 4 43 rfl rfl (by rfl) (.tmp 39) (.tmp 42) rfl Wd.heap.size I d2 b2 _ [] (xs.take I) (by rw [List.length_take]; omega) rfl rfl o0 (head_at (hld.below bX0)) (by simp; omega) bX0.size (fun v4 X4 o4 c4 => ?_)
    have bX4 : Below Wd.heap.size Wd X4 := c4.to bX0 bX0.size (fun k hk => (row_ge o0 hk).1)
    have t9 := tat_chg t9 c4 (fun e => n9 (by cases e; rfl))
    rw [List.nil_append] at o4
    refine ⟨cell_below bX4 (World.block_lt_of_cell? _ _ hsd) hsd, ?_⟩
    simp only [List.setIfInBounds_toArray, List.set_cons_zero, List.set_cons_succ]
    refine step1 10 (by kernel_rfl) ?_
    refine stAppL 10 49 rfl rfl (by rfl) (.tmp 43) (.tmp 48) rfl Wd.heap.size 1 1 (some ⟨g9, 0, none⟩) _ (xs.take I) [u] rfl rfl rfl o4 t9 (by simp; omega) bX4.size (fun v10 X10 o10 c10 => ?_)
    have bX10 : Below Wd.heap.size Wd X10 := c10.to bX4 bX4.size (fun k hk => (row_ge o4 hk).1)
    refine ⟨cell_below bX10 (World.block_lt_of_cell? _ _ hsd) hsd, ?_⟩
    simp only [List.setIfInBounds_toArray, List.set_cons_zero, List.set_cons_succ]
    refine step1 14 (by kernel_rfl) ?_
    refine stAppL 14 53 rfl rfl (by rfl) (.tmp 49) (.tmp 52) rfl Wd.heap.size (n - I) (d2 - I) (tailA b2 I d2) _ (xs.take I ++ [u]) (xs.drop I) (by rw [List.length_drop, HLn.out]) rfl rfl o10 (tail_at (hld.below bX10) (by rw [HLn.out]; exact le2)) (by simp; omega) bX10.size (fun v14 X14 o14 c14 => ?_)
    have bX14 : Below Wd.heap.size Wd X14 := c14.to bX10 bX10.size (fun k hk => (row_ge o10 hk).1)
    refine ⟨cell_below bX14 (World.block_lt_of_cell? _ _ hsd) hsd, ?_⟩
    simp only [List.setIfInBounds_toArray, List.set_cons_zero, List.set_cons_succ]
    refine takeVal 15 13 v14 rfl (by kernel_rfl) (by kernel_rfl) (by kernel_rfl) rfl (by rfl) (fun _ _ _ h => h) (cell_below bX14 (World.block_lt_of_cell? _ _ hsd) hsd) (fun W' hw' => rfl) ?_
    simp only [List.setIfInBounds_toArray, List.set_cons_zero, List.set_cons_succ]
    refine wpAnyH_done (by kernel_rfl) ?_ _
    refine NoPanic.normal ?_
    obtain ⟨ys, hys⟩ : ∃ y, y = xs.take I ++ [u] ++ xs.drop I := ⟨_, rfl⟩
    rw [← hys] at o14
    obtain ⟨a8, c8, hv8, hc8, hA8⟩ := TOwn.at o14
    have hyl : ys.length = n + 1 := by rw [hys]; simp <;> omega
    rw [hyl] at hv8
    subst hv8
    have hJ := join_is ys a8 (n + 1) c8 ⟨#[]⟩ 71 X14 hA8 hyl.symm hc8 (by omega) (by rw [hys, join_bad HU.out] <;> rfl)
    have HB14 := hid (btr hbd bX14 hbd.size)
    have HS14 := hid (cell_below bX14 (World.block_lt_of_cell? _ _ hsd) hsd)
    have hCk := fun w' => check_is u false w' HU.out
    rw [if_neg (by decide)] at hCk
    obtain ⟨t1, ht1⟩ : ∃ y, p ++ (⟨#[47]⟩ : ByteArray) = y := ⟨_, rfl⟩
    obtain ⟨t2, ht2⟩ : ∃ y, (⟨#[47]⟩ : ByteArray) ++ p = y := ⟨_, rfl⟩
    obtain ⟨q, hq⟩ : ∃ y, p.extract 1 p.size = y := ⟨_, rfl⟩
    obtain ⟨t3, ht3⟩ : ∃ y, q ++ (⟨#[97]⟩ : ByteArray) = y := ⟨_, rfl⟩
    obtain ⟨t4, ht4⟩ : ∃ y, (⟨#[97]⟩ : ByteArray) ++ p = y := ⟨_, rfl⟩
    have HTX := hid (texts_no (t3 := t3) HP.out HOK2.out ht1 ht2 (by rw [hq]; exact ht3) ht4)
    have hq400 : q.size ≤ 400 := by rw [← hq]; simp <;> omega
    have hr1 : p.size + (⟨#[47]⟩ : ByteArray).size ≤ 9223372036854775807 := by have : (⟨#[47]⟩ : ByteArray).size = 1 := rfl; omega
    have hr2 : (⟨#[47]⟩ : ByteArray).size + p.size ≤ 9223372036854775807 := by have : (⟨#[47]⟩ : ByteArray).size = 1 := rfl; omega
    have hr3 : q.size + (⟨#[97]⟩ : ByteArray).size ≤ 9223372036854775807 := by have : (⟨#[97]⟩ : ByteArray).size = 1 := rfl; omega
    have hr4 : (⟨#[97]⟩ : ByteArray).size + p.size ≤ 9223372036854775807 := by have : (⟨#[97]⟩ : ByteArray).size = 1 := rfl; omega
    have hpz : (1 : Int) ≤ (p.size : Int) := by omega
    clear hHeld hsd hld hbd bX14 o14 hys hyl hA8 hc8
    go_wp2_with (first
      | (go_at_call 6; go_must (refine hJ.mono ?_; rintro e w20 ⟨rfl, hb20⟩; have HB20 := hid (btr HB14.out hb20 HB14.out.size); have p20 := cell_below hb20 (World.block_lt_of_cell? _ _ HS14.out) HS14.out; clear hb20 hJ))
      | (go_at_call 8; go_must (refine (hCk _).mono ?_; rintro e w21 ⟨rfl, hb21⟩; have HB21 := hid (btr HB20.out hb21 HB20.out.size); clear hb21 p20))
      | fail)
    clear ht1 ht2 ht3 ht4 hq hr1 hr2 hr3 hr4
    have HT0 := hid (new_list w21 [⟨#[]⟩, t1, t2, t3, t4])
    have HB22 : Hid (Below w.heap.size w (w21.alloc (.cells #[.string ⟨#[]⟩, .string t1, .string t2, .string t3, .string t4] 9))) := btr HB21.out (below_new _ _) HB21.out.size
    obtain ⟨w22, hw22⟩ : ∃ y, y = w21.alloc (.cells #[.string ⟨#[]⟩, .string t1, .string t2, .string t3, .string t4] 9) := ⟨_, rfl⟩
    have HT1 : Hid (LAt w22 (some ⟨w21.heap.size, 0, none⟩) [⟨#[]⟩, t1, t2, t3, t4]) := by show LAt _ _ _; rw [hw22]; exact HT0.out
    rw [← hw22] at HB22 ⊢
    obtain ⟨gt, hgt⟩ : ∃ y, y = w21.heap.size := ⟨_, rfl⟩
    rw [← hgt] at HT1 ⊢
    clear hw22 hgt HT0
    go_loopw [17] (fun i wr => ∃ j : Nat, j ≤ 5 ∧ i = .int .i64 j ∧ Below w22.heap.size w22 wr) (fun i _ => 5 - (intOf i).toNat)
    case atStart => exact ⟨0, by omega, rfl, Below.refl _ _⟩
    case round =>
      obtain ⟨j, hj, rfl, hbq⟩ := hrel
      obtain ⟨Wy, hWy⟩ : ∃ y, y = wr := ⟨_, rfl⟩
      subst hWy
      have HBy := hid (btr HB22.out hbq HB22.out.size)
      by_cases hj5 : j < 5
      · have hcl : Wy.cell? ⟨gt, j, none⟩ = some (.string (([⟨#[]⟩, t1, t2, t3, t4] : List ByteArray).getD j ByteArray.empty)) := by
          rcases HT1.out with h | ⟨g, e, hg, h⟩
          · cases h
          · cases e
            exact cell_below hbq hg (h j _ (getS hj5))
        have hS := split_is (([⟨#[]⟩, t1, t2, t3, t4] : List ByteArray).getD j ByteArray.empty) [] 70 Wy (HM.out.below HBy.out) (HTX.out j hj5)
        generalize ([⟨#[]⟩, t1, t2, t3, t4] : List ByteArray).getD j ByteArray.empty = tj at *
        have hj0 : (0 : Int) ≤ (j : Int) := by omega
        have hj1 : (j : Int) < 5 := by omega
        go_wp2_with (go_at_call 9; go_must (refine hS.mono ?_; rintro e w30 ⟨a30, rfl, ho30, hb30, hm30⟩; have HB30 := hid (btr hbq hb30 hbq.size); clear ho30 hb30 hm30 hS))
        exact ⟨⟨j + 1, by omega, by go_num, HB30.out⟩, by simp [intOf]; omega⟩
      · obtain rfl : j = 5 := by omega
        go_wp2_with (go_at_call 10; go_must (refine (hK _ (HM.out.below HBy.out)).mono ?_; rintro e w31 ⟨rfl, hb31⟩; have HB31 := hid (btr HBy.out hb31 HBy.out.size); clear hb31))
        go_ret
        exact ⟨rfl, HB31.out⟩

end Go.Proofs.YtcckjkmkegpekabDoor
