/-
  The walk of PathLong.
-/
import Derived.Test.YtcckjkmkegpekabDoorWLong
import Derived.RegionTactic
import Derived.BigRegion
namespace Go.Proofs.YtcckjkmkegpekabDoor
open Go.RowKit Go.Shelf

theorem NAt.below {w w' : World} {a : Option Addr} {ls : List Int} (h : NAt w a ls) (hb : Below w.heap.size w w') : NAt w' a ls := by
  rcases h with h | ⟨ad, rfl, hg, h⟩
  · exact .inl h
  · refine .inr ⟨ad, rfl, Nat.lt_of_lt_of_le hg hb.size, fun j x hx => cell_below hb ?_ (h j x hx)⟩
    unfold Addr.add; split <;> exact hg
theorem flat_take {xs : List (List UInt8)} {k : Nat} {y : List UInt8} (h : xs[k]? = some y) : ((xs.take (k + 1)).map (47 :: ·)).flatten = ((xs.take k).map (47 :: ·)).flatten ++ 47 :: y := by
  rw [List.take_add_one, h]; simp
theorem flat_le {xs : List (List UInt8)} {k : Nat} : ((xs.take k).map (47 :: ·)).flatten.length ≤ sizes xs := by
  rw [flat_length]
  have : sizes xs = sizes (xs.take k) + sizes (xs.drop k) := by rw [← sizes_append, List.take_append_drop]
  omega
theorem datas_snoc (xs : List ByteArray) (y : ByteArray) : datas (xs ++ [y]) = datas xs ++ [y.data.toList] := by simp [datas]

/-- What is known when the names are made. -/
structure Made (ls : List ByteArray) (k z : Nat) (lg : Bool) : Prop where
  len : ls.length = k
  z : z = sizes (datas ls)
  lg : lg = !(datas ls).all okName
  fine : ∀ x ∈ datas ls, x ≠ [] ∧ ∀ b ∈ x, b ≠ 47
theorem Made.zero : Made [] 0 0 false := ⟨rfl, rfl, rfl, fun x hx => by cases hx⟩
theorem Made.succ {ls : List ByteArray} {k z K : Nat} {lg : Bool} (h : Made ls k z lg) (h1 : 1 ≤ K) : Made (ls ++ [⟨(nameA K).toArray⟩]) (k + 1) (z + 1 + K) (lg || decide (40 < K)) := by
  have e : datas (ls ++ [⟨(nameA K).toArray⟩]) = datas ls ++ [nameA K] := by simp [datas]
  refine ⟨by simp [h.len], ?_, ?_, ?_⟩
  · rw [e, sizes_append, ← h.z]; simp [sizes, nameA]; omega
  · rw [e, List.all_append, h.lg]
    simp only [List.all_cons, List.all_nil, Bool.and_true, nameA_ok K h1]
    by_cases c : K ≤ 40
    · rw [decide_eq_true c, decide_eq_false (by omega)]; simp
    · rw [decide_eq_false c, decide_eq_true (by omega)]; simp
  · intro x hx
    rw [e] at hx
    rcases List.mem_append.1 hx with g | g
    · exact h.fine x g
    · simp at g; subst g; exact nameA_fine K h1

set_option maxRecDepth 100000 in
set_option maxHeartbeats 4000000 in
theorem long_walk (l : List Int) (a : Option Addr) (c : Nat) (w : World) (hm : ML w) (hc : c ≤ maxLen) (hl : l.length ≤ c) (hI : ∀ x ∈ l, I64 x) (ha : NAt w a l) :
    Calls Tryd.prog 4 #[.slice a l.length c] w fun e w' => e = .returned (.bool true) ∧ Below w.heap.size w w' := by
  have hK := fun w' hm' => known_any w' hm'
  have HM := hid hm
  have HA := hid ha
  have HI := hid hI
  have e0 := toList_nil'
  have e47 := toList_stroke
  have hmm : l.length ≤ 9223372036854775807 := by unfold maxLen at hc; omega
  clear hm ha hc hl hI
  generalize hlen : l.length = m at *
  have HLen := hid hlen
  clear hlen
  go_enter Tryd.func4, Tryd.ntmps4
  go_wp2_with fail
  go_loopw [3, 4, 5, 6] (fun v n lo i wr => ∃ (k z : Nat) (lg : Bool) (ls : List ByteArray), k ≤ m ∧ k ≤ 50 ∧ z ≤ 42 * k ∧ i = .int .i64 k ∧ n = .int .i64 z ∧ lo = .bool lg ∧ Below w.heap.size w wr ∧ Hid (TOwn wr w.heap.size v ls) ∧ Hid (Made ls k z lg)) (fun _ _ _ i _ => m - (intOf i).toNat)
  case atStart => exact ⟨0, 0, false, [], by omega, by omega, by omega, rfl, rfl, rfl, Below.refl _ _, row_nil _ _ _ _, Made.zero⟩
  case round =>
    obtain ⟨k, z, lg, ls, hk, hk5, hz, rfl, rfl, rfl, hbr, HO, HMD⟩ := hrel
    obtain ⟨Wx, hWx⟩ : ∃ y, y = wr := ⟨_, rfl⟩
    subst hWx
    by_cases hgo : k < m ∧ k < 50
    · obtain ⟨hlt, h5⟩ := hgo
      rcases HA.out with h0 | ⟨ad, rfl, hg, hcell⟩
      · have := HLen.out; rw [h0] at this; simp at this; omega
      have hkl : k < l.length := by have := HLen.out; omega
      have hgx : l[k]? = some (l.getD k 0) := by rw [List.getElem?_eq_getElem hkl]; simp [List.getD, List.getElem?_eq_getElem hkl]
      have p1 := cell_below hbr (show (ad.add k).block < w.heap.size by unfold Addr.add; split <;> exact hg) (hcell k _ hgx)
      have hpk := fun w' => pick_any (l.getD k 0) 41 w' (HI.out _ (List.mem_of_getElem? hgx)) (by omega) (by omega)
      have hpb := pickN_bd (l.getD k 0) (n := 41) (by omega)
      obtain ⟨K, hKe⟩ : ∃ K : Nat, 1 + pickN (l.getD k 0) 41 = (K : Int) := ⟨(1 + pickN (l.getD k 0) 41).toNat, by omega⟩
      have hK1 : 1 ≤ K ∧ K ≤ 41 := by omega
      generalize l.getD k 0 = q at *
      generalize pickN q 41 = qq at *
      have hi0 : (0 : Int) ≤ (k : Int) := by omega
      have hi1 : (k : Int) < (m : Int) := by omega
      have i5 : (k : Int) < 50 := by omega
      have HBx := hid hbr
      have hmk := make_bytes K Wx (by omega)
      clear hcell hgx hpb
      go_wp2_with (go_at_call 7; go_must (refine (hpk _).mono ?_; rintro e w2 ⟨rfl, hw2⟩; subst hw2))
      obtain ⟨wo, hwo⟩ : ∃ y, y = Wx := ⟨_, rfl⟩
      subst hwo
      clear hpk p1 hmk hKe
      go_loopw [9] (fun i wr => ∃ j : Nat, j ≤ K ∧ i = .int .i64 j ∧ Below wo.heap.size wo wr ∧ Hid (wr.heap[wo.heap.size]? = some (.cells (fillA j K) 5))) (fun i _ => K - (intOf i).toNat)
      case atStart => exact ⟨0, by omega, rfl, below_new _ _, heap_alloc_new _ _⟩
      case round =>
        obtain ⟨j, hj, rfl, hbq, HF⟩ := hrel
        obtain ⟨Wy, hWy⟩ : ∃ y, y = wr := ⟨_, rfl⟩
        subst hWy
        by_cases hjl : j < K
        · have p2 : Wy.cell? ⟨wo.heap.size, j, none⟩ = some (.int .u8 0) := by rw [cell_of_row _ _ _ _ _ _ HF.out]; exact fill_get hjl
          have hfr := frozen_of_row Wy wo.heap.size j _ _ HF.out
          have HF2 : Hid ((Wy.setCell ⟨wo.heap.size, j, none⟩ (.int .u8 97)).heap[wo.heap.size]? = some (.cells (fillA (j + 1) K) 5)) := by
            show _ = _
            rw [heap_setCell_same Wy wo.heap.size j _ 5 _ HF.out, fill_set hjl]
          have HC2 := hid (Chg.setCell (w := Wy) (g := wo.heap.size) (j := j) (v := .int .u8 97))
          have hj0 : (0 : Int) ≤ (j : Int) := by omega
          have hj1 : (j : Int) < (K : Int) := by omega
          go_wp2_with fail
          exact ⟨⟨j + 1, by omega, by go_num, HC2.out.to hbq hbq.size (fun k e => by subst e; exact Nat.le_refl _), HF2⟩, by simp [intOf]; omega⟩
        · obtain rfl : j = K := by omega
          have HBo := hid (fill_own (B := wo.heap.size) HF.out (Nat.le_refl _) (by omega))
          have hcv1 := conv_own HBo.out
          have HO1 := hid (row_below HO.out hbq)
          have HMS := hid (HMD.out.succ hK1.1)
          have HNK := hid (nameA_ok j hK1.1)
          have HNM : Hid ((⟨(nameA j).toArray⟩ : ByteArray).data.toList = nameA j) := rfl
          generalize hnm : (⟨(nameA j).toArray⟩ : ByteArray) = nm at *
          have hb6 := btr HBx.out hbq HBx.out.size
          have hz6 := hb6.size
          have HLS : Hid (ls.length ≤ 50) := by show _ ≤ _; rw [HMD.out.len]; exact hk5
          have HNE : Hid (∀ j', Value.ownBlock (.slice (some ⟨wo.heap.size, 0, none⟩) j j) = some j' → ¬ u3.ownBlock = some j') := by
            intro j' h1 h2
            cases h1
            exact absurd (row_ge HO.out h2).2 (Nat.lt_irrefl _)
          have HAW : Hid (∀ w', Chg (Wy.alloc (.cells #[.string nm] 9)) w' (fun k => u3.ownBlock = some k) → Below w.heap.size w w') := by
            intro w' h2
            refine h2.to (hb6.alloc hb6.size _) (by simp; omega) fun j hj => ?_
            exact (row_ge HO.out hj).1
          have HNE2 := hid hnm
          clear hnm
          by_cases h40 : j ≤ 40
          · have hCk := fun w' => check_is nm true w' (by rw [HNM.out, HNK.out]; exact decide_eq_true h40)
            rw [if_pos rfl] at hCk
            have hnot : ¬ (40 : Int) < (j : Int) := by omega
            have hle : (j : Int) ≤ 40 := by omega
            rw [decide_eq_false (by omega), Bool.or_false] at HMS
            cases lg
            all_goals
              go_wp2_with (first
                | (at_builtin; go_must (refine wp_appT rfl _ _ rfl w.heap.size 1 1 ⟨Wy.heap.size, 0, none⟩ _ ls [nm] rfl rfl rfl (row_below HO1.out (below_new _ _)) (fun k y hk => (new_list Wy [nm]).at.elim (fun e => by cases e) (fun ⟨ad2, e2, _, hc2⟩ => by cases e2; exact hc2 k y hk)) (by have := HLS.out; simp; omega) (by simp; omega) ?_; intro v' w' h1 h2 h3; have HT := hid h1; have HB := hid (HAW.out w' h2); have HBo2 := hid (row_keep (row_below HBo.out (below_new _ _)) h2 HNE.out); have hcv2 := conv_own HBo2.out; rw [HNE2.out] at hcv2; clear h1 h2 h3 hcv1))
                | (go_at_call 8; go_must (refine (hCk _).mono ?_; rintro e w9 ⟨rfl, hb9⟩; have HB9 := hid (btr HB.out hb9 HB.out.size); have HT9 := hid (row_below HT.out hb9); clear hb9))
                | go_in)
              exact ⟨⟨k + 1, z + 1 + j, _, ls ++ [nm], by omega, by omega, by omega, by go_num, by go_num, rfl, HB9.out, HT9, HMS⟩, by simp [intOf]; omega⟩
          · have hCk := fun w' => check_is nm false w' (by rw [HNM.out, HNK.out]; exact decide_eq_false h40)
            rw [if_neg (by decide)] at hCk
            have hgt : (40 : Int) < (j : Int) := by omega
            have hle : ¬ (j : Int) ≤ 40 := by omega
            rw [decide_eq_true (by omega), Bool.or_true] at HMS
            cases lg
            all_goals
              go_wp2_with (first
                | (at_builtin; go_must (refine wp_appT rfl _ _ rfl w.heap.size 1 1 ⟨Wy.heap.size, 0, none⟩ _ ls [nm] rfl rfl rfl (row_below HO1.out (below_new _ _)) (fun k y hk => (new_list Wy [nm]).at.elim (fun e => by cases e) (fun ⟨ad2, e2, _, hc2⟩ => by cases e2; exact hc2 k y hk)) (by have := HLS.out; simp; omega) (by simp; omega) ?_; intro v' w' h1 h2 h3; have HT := hid h1; have HB := hid (HAW.out w' h2); have HBo2 := hid (row_keep (row_below HBo.out (below_new _ _)) h2 HNE.out); have hcv2 := conv_own HBo2.out; rw [HNE2.out] at hcv2; clear h1 h2 h3 hcv1))
                | (go_at_call 8; go_must (refine (hCk _).mono ?_; rintro e w9 ⟨rfl, hb9⟩; have HB9 := hid (btr HB.out hb9 HB.out.size); have HT9 := hid (row_below HT.out hb9); clear hb9))
                | go_in)
              exact ⟨⟨k + 1, z + 1 + j, _, ls ++ [nm], by omega, by omega, by omega, by go_num, by go_num, rfl, HB9.out, HT9, HMS⟩, by simp [intOf]; omega⟩
    · have hex : (¬ k < m) ∨ (k < m ∧ ¬ k < 50) := by omega
      rcases hex with hx1 | ⟨hx1, hx2⟩
      · have hy1 : ¬ (k : Int) < (m : Int) := by omega
        have hnm0 := HMD.out
        obtain ⟨a4, c4, hv4, hc4, hA4⟩ := TOwn.at HO.out
        have hlk := hnm0.len
        rw [hlk] at hv4
        subst hv4
        have HA4 := hid hA4
        obtain ⟨jp, hjp⟩ : ∃ jp : ByteArray, jp.data.toList = (joinR (datas ls)).1 := ⟨⟨(joinR (datas ls)).1.toArray⟩, by simp⟩
        obtain ⟨jc, hjc⟩ : ∃ jc : Int, jc = (joinR (datas ls)).2 := ⟨_, rfl⟩
        have hJ := join_is ls a4 k c4 jp jc Wx hA4 hlk.symm hc4 (by rw [hlk]; omega) (by rw [hjp, hjc])
        have HJP := hid hjp
        have HJC := hid hjc
        have HBx := hid hbr
        have HLK := hid hlk
        clear hnm0 hA4 hlk hjp hjc HO hbr hc4
        go_wp2_with (go_at_call 6; go_must (refine hJ.mono ?_; rintro e w3 ⟨rfl, hb3⟩; have HB3 := hid (btr HBx.out hb3 HBx.out.size); have HA3 := hid (HA4.out.below hb3); clear hb3))
        clear hJ
        go_loopw [12, 13] (fun t i wr => ∃ (q : Nat) (T : ByteArray), q ≤ k ∧ i = .int .i64 q ∧ t = .string T ∧ T.size ≤ 2100 ∧ Below w3.heap.size w3 wr ∧ Hid (T.data.toList = (((datas ls).take q).map (47 :: ·)).flatten)) (fun _ i _ => k - (intOf i).toNat)
        case atStart => exact ⟨0, ⟨#[]⟩, by omega, rfl, rfl, Nat.zero_le _, Below.refl _ _, rfl⟩
        case round =>
          obtain ⟨q, T, hq, rfl, rfl, hT, hbq, HT⟩ := hrel
          obtain ⟨Wy, hWy⟩ : ∃ y, y = wr := ⟨_, rfl⟩
          subst hWy
          by_cases hqk : q < k
          · rcases HA3.out with h0 | ⟨g, rfl, hg, hcell⟩
            · have := HLK.out; rw [h0] at this; simp at this; omega
            have hql : q < ls.length := by have := HLK.out; omega
            have p1 := cell_below hbq hg (hcell q _ (getS hql))
            have hD := datas_get (ls := ls) (k := q) hql
            obtain ⟨u, hu⟩ : ∃ u, u = ls.getD q ByteArray.empty := ⟨_, rfl⟩
            rw [← hu] at p1 hD
            obtain ⟨T1, hT1⟩ : ∃ y, T ++ (⟨#[47]⟩ : ByteArray) = y := ⟨_, rfl⟩
            obtain ⟨T2, hT2⟩ : ∃ y, T1 ++ u = y := ⟨_, rfl⟩
            have HT2 : Hid (T2.data.toList = (((datas ls).take (q + 1)).map (47 :: ·)).flatten) := by
              show _ = _
              rw [flat_take hD, ← HT.out, ← hT2, ← hT1]; simp
            have hT2b : T2.size ≤ 2100 := by
              rw [← len_eq, HT2.out]
              have := flat_le (xs := datas ls) (k := q + 1)
              have h2 := HMD.out.z
              omega
            have hr1 : T.size + (⟨#[47]⟩ : ByteArray).size ≤ 9223372036854775807 := by have : (⟨#[47]⟩ : ByteArray).size = 1 := rfl; omega
            have hr2 : T1.size + u.size ≤ 9223372036854775807 := by
              have : T2.size = T1.size + u.size := by rw [← hT2, ByteArray.size_append]
              omega
            have hi0 : (0 : Int) ≤ (q : Int) := by omega
            have hi1 : (q : Int) < (k : Int) := by omega
            clear hu hcell hD
            go_wp2_with fail
            exact ⟨⟨q + 1, T2, by omega, by go_num, rfl, hT2b, hbq, HT2⟩, by simp [intOf]; omega⟩
          · obtain rfl : q = k := by omega
            have HTF : Hid (T.data.toList = ((datas ls).map (47 :: ·)).flatten) := by
              show _ = _
              rw [HT.out, List.take_of_length_le (by rw [datas_len, HLK.out]; exact Nat.le_refl _)]
            have HBy := hid (btr HB3.out hbq HB3.out.size)
            have hmy := HM.out.below HBy.out
            have HA5 := hid (HA3.out.below hbq)
            have HTL : Hid (T.size = z) := by show _ = _; rw [← len_eq, HTF.out, flat_length, ← HMD.out.z]
            clear HT hbq HA3
            by_cases hq0 : q = 0
            · subst hq0
              have hls : ls = [] := List.length_eq_zero_iff.1 HLK.out
              subst hls
              obtain rfl : jp = ⟨#[47]⟩ := data_inj (by rw [HJP.out]; rfl)
              obtain rfl : jc = 0 := HJC.out
              obtain rfl : T = ⟨#[]⟩ := data_inj (by rw [HTF.out]; rfl)
              have hS := split_is ⟨#[]⟩ [] 70 Wy hmy (by decide)
              clear hmy
              go_wp2_with (first
                | (go_at_call 9; go_must (refine hS.mono ?_; rintro e w5 ⟨a5, rfl, ho5, hb5, hm5⟩; have HB5 := hid (btr HBy.out hb5 HBy.out.size); have HM5 := hid hm5; clear hm5 ho5 hb5 hS))
                | (go_at_call 10; go_must (refine (hK _ HM5.out).mono ?_; rintro e w6 ⟨rfl, hb6⟩; have HB6 := hid (btr HB5.out hb6 HB5.out.size); clear hb6))
                | fail)
              go_ret
              exact ⟨rfl, HB6.out⟩
            have hq0' : ((q : Int) == 0) = false := by simp; omega
            have hne : datas ls ≠ [] := by intro e; have h1 := congrArg List.length e; rw [datas_len, HLK.out] at h1; simp at h1; exact hq0 h1
            have HPT : Hid (T.data.toList = pathOf (datas ls)) := by show _ = _; rw [HTF.out, pathOf, if_neg hne]
            cases hlg : lg
            · have hall : (datas ls).all okName = true := by have := HMD.out.lg; rw [hlg] at this; simpa using this
              by_cases hz4 : 400 < z
              · have hjr : joinR (datas ls) = ([], 70) := by unfold joinR; rw [if_pos hall, if_pos (by rw [← HMD.out.z]; exact hz4)]
                obtain rfl : jp = ⟨#[]⟩ := data_inj (by rw [HJP.out, hjr])
                obtain rfl : jc = 70 := by rw [HJC.out, hjr]
                have hS := split_is T [] 70 Wy hmy (by rw [split_big (by rw [len_eq, HTL.out]; exact hz4)]; rfl)
                have hz4' : (400 : Int) < (z : Int) := by omega
                clear hjr hall
                subst hlg
                clear hmy
                go_wp2_with (first
                  | (go_at_call 9; go_must (refine hS.mono ?_; rintro e w5 ⟨a5, rfl, ho5, hb5, hm5⟩; have HB5 := hid (btr HBy.out hb5 HBy.out.size); have HM5 := hid hm5; clear hm5 ho5 hb5 hS))
                  | (go_at_call 10; go_must (refine (hK _ HM5.out).mono ?_; rintro e w6 ⟨rfl, hb6⟩; have HB6 := hid (btr HB5.out hb6 HB5.out.size); clear hb6))
                  | fail)
                go_ret
                exact ⟨rfl, HB6.out⟩
              · have hs : sizes (datas ls) ≤ 400 := by rw [← HMD.out.z]; omega
                have hjr := join_ok hall hs
                obtain rfl : jp = T := data_inj (by rw [HJP.out, hjr, HPT.out])
                obtain rfl : jc = 0 := by rw [HJC.out, hjr]
                have hS := split_is jp ls 0 Wy hmy (by rw [HPT.out]; exact split_join _ hall hs)
                have hz4' : ¬ (400 : Int) < (z : Int) := by omega
                rw [HLK.out] at hS
                clear hjr hall hs
                subst hlg
                clear hmy
                go_wp2_with (first
                  | (go_at_call 9; go_must (refine hS.mono ?_; rintro e w5 ⟨a5, rfl, ho5, hb5, hm5⟩; have HB5 := hid (btr HBy.out hb5 HBy.out.size); have HO5 := hid ho5.at; have HA6 := hid (HA5.out.below hb5); clear hm5 ho5 hb5 hS))
                  | (go_at_call 11; go_must (refine (same_is ls ls true a5 a4 _ _ _ c4 _ HLK.out.symm HLK.out.symm (by rw [HLK.out]; omega) (by rw [HLK.out]; omega) HO5.out.at HA6.out.at (by simp)).mono ?_; rintro e w7 ⟨rfl, hb7⟩; have HB7 := hid (btr HB5.out hb7 HB5.out.size); clear hb7))
                  | (go_at_call 10; go_must (refine (hK _ (HM.out.below HB7.out)).mono ?_; rintro e w6 ⟨rfl, hb6⟩; have HB6 := hid (btr HB7.out hb6 HB7.out.size); clear hb6))
                  | fail)
                go_ret
                exact ⟨rfl, HB6.out⟩
            · have hall : ¬ (datas ls).all okName = true := by have := HMD.out.lg; rw [hlg] at this; intro h; rw [h] at this; simp at this
              have hjr : joinR (datas ls) = ([], 71) := by unfold joinR; rw [if_neg hall]
              obtain rfl : jp = ⟨#[]⟩ := data_inj (by rw [HJP.out, hjr])
              obtain rfl : jc = 71 := by rw [HJC.out, hjr]
              by_cases hz4 : 400 < z
              · have hS := split_is T [] 70 Wy hmy (by rw [split_big (by rw [len_eq, HTL.out]; exact hz4)]; rfl)
                have hz4' : (400 : Int) < (z : Int) := by omega
                clear hjr hall
                subst hlg
                clear hmy
                go_wp2_with (first
                  | (go_at_call 9; go_must (refine hS.mono ?_; rintro e w5 ⟨a5, rfl, ho5, hb5, hm5⟩; have HB5 := hid (btr HBy.out hb5 HBy.out.size); have HM5 := hid hm5; clear hm5 ho5 hb5 hS))
                  | (go_at_call 10; go_must (refine (hK _ HM5.out).mono ?_; rintro e w6 ⟨rfl, hb6⟩; have HB6 := hid (btr HB5.out hb6 HB5.out.size); clear hb6))
                  | fail)
                go_ret
                exact ⟨rfl, HB6.out⟩
              · have hs : sizes (datas ls) ≤ 400 := by rw [← HMD.out.z]; omega
                have hS := split_is T [] 71 Wy hmy (by rw [HPT.out, split_path hne HMD.out.fine hs, if_neg hall]; rfl)
                have hz4' : ¬ (400 : Int) < (z : Int) := by omega
                have hz4'' : (z : Int) ≤ 400 := by omega
                clear hjr hall hs
                subst hlg
                clear hmy
                go_wp2_with (first
                  | (go_at_call 9; go_must (refine hS.mono ?_; rintro e w5 ⟨a5, rfl, ho5, hb5, hm5⟩; have HB5 := hid (btr HBy.out hb5 HBy.out.size); have HM5 := hid hm5; clear hm5 ho5 hb5 hS))
                  | (go_at_call 10; go_must (refine (hK _ HM5.out).mono ?_; rintro e w6 ⟨rfl, hb6⟩; have HB6 := hid (btr HB5.out hb6 HB5.out.size); clear hb6))
                  | fail)
                go_ret
                exact ⟨rfl, HB6.out⟩
      · have hy1 : (k : Int) < (m : Int) := by omega
        have hy2 : ¬ (k : Int) < 50 := by omega
        have hnm0 := HMD.out
        obtain ⟨a4, c4, hv4, hc4, hA4⟩ := TOwn.at HO.out
        have hlk := hnm0.len
        rw [hlk] at hv4
        subst hv4
        have HA4 := hid hA4
        obtain ⟨jp, hjp⟩ : ∃ jp : ByteArray, jp.data.toList = (joinR (datas ls)).1 := ⟨⟨(joinR (datas ls)).1.toArray⟩, by simp⟩
        obtain ⟨jc, hjc⟩ : ∃ jc : Int, jc = (joinR (datas ls)).2 := ⟨_, rfl⟩
        have hJ := join_is ls a4 k c4 jp jc Wx hA4 hlk.symm hc4 (by rw [hlk]; omega) (by rw [hjp, hjc])
        have HJP := hid hjp
        have HJC := hid hjc
        have HBx := hid hbr
        have HLK := hid hlk
        clear hnm0 hA4 hlk hjp hjc HO hbr hc4
        go_wp2_with (go_at_call 6; go_must (refine hJ.mono ?_; rintro e w3 ⟨rfl, hb3⟩; have HB3 := hid (btr HBx.out hb3 HBx.out.size); have HA3 := hid (HA4.out.below hb3); clear hb3))
        clear hJ
        go_loopw [12, 13] (fun t i wr => ∃ (q : Nat) (T : ByteArray), q ≤ k ∧ i = .int .i64 q ∧ t = .string T ∧ T.size ≤ 2100 ∧ Below w3.heap.size w3 wr ∧ Hid (T.data.toList = (((datas ls).take q).map (47 :: ·)).flatten)) (fun _ i _ => k - (intOf i).toNat)
        case atStart => exact ⟨0, ⟨#[]⟩, by omega, rfl, rfl, Nat.zero_le _, Below.refl _ _, rfl⟩
        case round =>
          obtain ⟨q, T, hq, rfl, rfl, hT, hbq, HT⟩ := hrel
          obtain ⟨Wy, hWy⟩ : ∃ y, y = wr := ⟨_, rfl⟩
          subst hWy
          by_cases hqk : q < k
          · rcases HA3.out with h0 | ⟨g, rfl, hg, hcell⟩
            · have := HLK.out; rw [h0] at this; simp at this; omega
            have hql : q < ls.length := by have := HLK.out; omega
            have p1 := cell_below hbq hg (hcell q _ (getS hql))
            have hD := datas_get (ls := ls) (k := q) hql
            obtain ⟨u, hu⟩ : ∃ u, u = ls.getD q ByteArray.empty := ⟨_, rfl⟩
            rw [← hu] at p1 hD
            obtain ⟨T1, hT1⟩ : ∃ y, T ++ (⟨#[47]⟩ : ByteArray) = y := ⟨_, rfl⟩
            obtain ⟨T2, hT2⟩ : ∃ y, T1 ++ u = y := ⟨_, rfl⟩
            have HT2 : Hid (T2.data.toList = (((datas ls).take (q + 1)).map (47 :: ·)).flatten) := by
              show _ = _
              rw [flat_take hD, ← HT.out, ← hT2, ← hT1]; simp
            have hT2b : T2.size ≤ 2100 := by
              rw [← len_eq, HT2.out]
              have := flat_le (xs := datas ls) (k := q + 1)
              have h2 := HMD.out.z
              omega
            have hr1 : T.size + (⟨#[47]⟩ : ByteArray).size ≤ 9223372036854775807 := by have : (⟨#[47]⟩ : ByteArray).size = 1 := rfl; omega
            have hr2 : T1.size + u.size ≤ 9223372036854775807 := by
              have : T2.size = T1.size + u.size := by rw [← hT2, ByteArray.size_append]
              omega
            have hi0 : (0 : Int) ≤ (q : Int) := by omega
            have hi1 : (q : Int) < (k : Int) := by omega
            clear hu hcell hD
            go_wp2_with fail
            exact ⟨⟨q + 1, T2, by omega, by go_num, rfl, hT2b, hbq, HT2⟩, by simp [intOf]; omega⟩
          · obtain rfl : q = k := by omega
            have HTF : Hid (T.data.toList = ((datas ls).map (47 :: ·)).flatten) := by
              show _ = _
              rw [HT.out, List.take_of_length_le (by rw [datas_len, HLK.out]; exact Nat.le_refl _)]
            have HBy := hid (btr HB3.out hbq HB3.out.size)
            have hmy := HM.out.below HBy.out
            have HA5 := hid (HA3.out.below hbq)
            have HTL : Hid (T.size = z) := by show _ = _; rw [← len_eq, HTF.out, flat_length, ← HMD.out.z]
            clear HT hbq HA3
            by_cases hq0 : q = 0
            · subst hq0
              have hls : ls = [] := List.length_eq_zero_iff.1 HLK.out
              subst hls
              obtain rfl : jp = ⟨#[47]⟩ := data_inj (by rw [HJP.out]; rfl)
              obtain rfl : jc = 0 := HJC.out
              obtain rfl : T = ⟨#[]⟩ := data_inj (by rw [HTF.out]; rfl)
              have hS := split_is ⟨#[]⟩ [] 70 Wy hmy (by decide)
              clear hmy
              go_wp2_with (first
                | (go_at_call 9; go_must (refine hS.mono ?_; rintro e w5 ⟨a5, rfl, ho5, hb5, hm5⟩; have HB5 := hid (btr HBy.out hb5 HBy.out.size); have HM5 := hid hm5; clear hm5 ho5 hb5 hS))
                | (go_at_call 10; go_must (refine (hK _ HM5.out).mono ?_; rintro e w6 ⟨rfl, hb6⟩; have HB6 := hid (btr HB5.out hb6 HB5.out.size); clear hb6))
                | fail)
              go_ret
              exact ⟨rfl, HB6.out⟩
            have hq0' : ((q : Int) == 0) = false := by simp; omega
            have hne : datas ls ≠ [] := by intro e; have h1 := congrArg List.length e; rw [datas_len, HLK.out] at h1; simp at h1; exact hq0 h1
            have HPT : Hid (T.data.toList = pathOf (datas ls)) := by show _ = _; rw [HTF.out, pathOf, if_neg hne]
            cases hlg : lg
            · have hall : (datas ls).all okName = true := by have := HMD.out.lg; rw [hlg] at this; simpa using this
              by_cases hz4 : 400 < z
              · have hjr : joinR (datas ls) = ([], 70) := by unfold joinR; rw [if_pos hall, if_pos (by rw [← HMD.out.z]; exact hz4)]
                obtain rfl : jp = ⟨#[]⟩ := data_inj (by rw [HJP.out, hjr])
                obtain rfl : jc = 70 := by rw [HJC.out, hjr]
                have hS := split_is T [] 70 Wy hmy (by rw [split_big (by rw [len_eq, HTL.out]; exact hz4)]; rfl)
                have hz4' : (400 : Int) < (z : Int) := by omega
                clear hjr hall
                subst hlg
                clear hmy
                go_wp2_with (first
                  | (go_at_call 9; go_must (refine hS.mono ?_; rintro e w5 ⟨a5, rfl, ho5, hb5, hm5⟩; have HB5 := hid (btr HBy.out hb5 HBy.out.size); have HM5 := hid hm5; clear hm5 ho5 hb5 hS))
                  | (go_at_call 10; go_must (refine (hK _ HM5.out).mono ?_; rintro e w6 ⟨rfl, hb6⟩; have HB6 := hid (btr HB5.out hb6 HB5.out.size); clear hb6))
                  | fail)
                go_ret
                exact ⟨rfl, HB6.out⟩
              · have hs : sizes (datas ls) ≤ 400 := by rw [← HMD.out.z]; omega
                have hjr := join_ok hall hs
                obtain rfl : jp = T := data_inj (by rw [HJP.out, hjr, HPT.out])
                obtain rfl : jc = 0 := by rw [HJC.out, hjr]
                have hS := split_is jp ls 0 Wy hmy (by rw [HPT.out]; exact split_join _ hall hs)
                have hz4' : ¬ (400 : Int) < (z : Int) := by omega
                rw [HLK.out] at hS
                clear hjr hall hs
                subst hlg
                clear hmy
                go_wp2_with (first
                  | (go_at_call 9; go_must (refine hS.mono ?_; rintro e w5 ⟨a5, rfl, ho5, hb5, hm5⟩; have HB5 := hid (btr HBy.out hb5 HBy.out.size); have HO5 := hid ho5.at; have HA6 := hid (HA5.out.below hb5); clear hm5 ho5 hb5 hS))
                  | (go_at_call 11; go_must (refine (same_is ls ls true a5 a4 _ _ _ c4 _ HLK.out.symm HLK.out.symm (by rw [HLK.out]; omega) (by rw [HLK.out]; omega) HO5.out.at HA6.out.at (by simp)).mono ?_; rintro e w7 ⟨rfl, hb7⟩; have HB7 := hid (btr HB5.out hb7 HB5.out.size); clear hb7))
                  | (go_at_call 10; go_must (refine (hK _ (HM.out.below HB7.out)).mono ?_; rintro e w6 ⟨rfl, hb6⟩; have HB6 := hid (btr HB7.out hb6 HB7.out.size); clear hb6))
                  | fail)
                go_ret
                exact ⟨rfl, HB6.out⟩
            · have hall : ¬ (datas ls).all okName = true := by have := HMD.out.lg; rw [hlg] at this; intro h; rw [h] at this; simp at this
              have hjr : joinR (datas ls) = ([], 71) := by unfold joinR; rw [if_neg hall]
              obtain rfl : jp = ⟨#[]⟩ := data_inj (by rw [HJP.out, hjr])
              obtain rfl : jc = 71 := by rw [HJC.out, hjr]
              by_cases hz4 : 400 < z
              · have hS := split_is T [] 70 Wy hmy (by rw [split_big (by rw [len_eq, HTL.out]; exact hz4)]; rfl)
                have hz4' : (400 : Int) < (z : Int) := by omega
                clear hjr hall
                subst hlg
                clear hmy
                go_wp2_with (first
                  | (go_at_call 9; go_must (refine hS.mono ?_; rintro e w5 ⟨a5, rfl, ho5, hb5, hm5⟩; have HB5 := hid (btr HBy.out hb5 HBy.out.size); have HM5 := hid hm5; clear hm5 ho5 hb5 hS))
                  | (go_at_call 10; go_must (refine (hK _ HM5.out).mono ?_; rintro e w6 ⟨rfl, hb6⟩; have HB6 := hid (btr HB5.out hb6 HB5.out.size); clear hb6))
                  | fail)
                go_ret
                exact ⟨rfl, HB6.out⟩
              · have hs : sizes (datas ls) ≤ 400 := by rw [← HMD.out.z]; omega
                have hS := split_is T [] 71 Wy hmy (by rw [HPT.out, split_path hne HMD.out.fine hs, if_neg hall]; rfl)
                have hz4' : ¬ (400 : Int) < (z : Int) := by omega
                have hz4'' : (z : Int) ≤ 400 := by omega
                clear hjr hall hs
                subst hlg
                clear hmy
                go_wp2_with (first
                  | (go_at_call 9; go_must (refine hS.mono ?_; rintro e w5 ⟨a5, rfl, ho5, hb5, hm5⟩; have HB5 := hid (btr HBy.out hb5 HBy.out.size); have HM5 := hid hm5; clear hm5 ho5 hb5 hS))
                  | (go_at_call 10; go_must (refine (hK _ HM5.out).mono ?_; rintro e w6 ⟨rfl, hb6⟩; have HB6 := hid (btr HB5.out hb6 HB5.out.size); clear hb6))
                  | fail)
                go_ret
                exact ⟨rfl, HB6.out⟩

end Go.Proofs.YtcckjkmkegpekabDoor
