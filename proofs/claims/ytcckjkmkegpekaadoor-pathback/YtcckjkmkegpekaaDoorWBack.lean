/-
  The walk of PathBack.
-/
import Derived.Test.YtcckjkmkegpekaaDoorWApart
import Derived.Test.YtcckjkmkegpekaaDoorPA2
namespace Go.Proofs.YtcckjkmkegpekaaDoor
open Go.RowKit Go.Shelf

theorem own_new (W : World) (B : Nat) (hB : B ≤ W.heap.size) : TOwn (W.alloc (.cells #[] 9)) B (.slice (some ⟨W.heap.size, 0, none⟩) 0 0) [] :=
  ⟨rfl, .inr ⟨W.heap.size, 0, #[], rfl, hB, heap_alloc_new _ _, Nat.le_refl _, Nat.zero_le _, rfl, rfl⟩⟩
theorem datas_app (xs ys : List ByteArray) : datas (xs ++ ys) = datas xs ++ datas ys := by simp [datas]
theorem path_size {xs : List ByteArray} {p : ByteArray} (h : p.data.toList = pathOf (datas xs)) (hs : sizes (datas xs) ≤ 400) : p.size ≤ 400 := by
  have h1 := congrArg List.length h
  rw [len_eq, path_len] at h1
  split at h1 <;> omega
theorem toList_nil : (⟨#[]⟩ : ByteArray).toList = [] := by rw [ByteArray.toList_eq]
theorem all_more {xs : List ByteArray} {n : ByteArray} (h : (datas xs).all okName = true) (hn : okName n.data.toList = true) : (datas (xs ++ [n])).all okName = true := by
  rw [datas_app, List.all_append, h]; simp [datas, hn]
theorem sizes_more (xs : List ByteArray) (n : ByteArray) : sizes (datas (xs ++ [n])) = sizes (datas xs) + (1 + n.size) := by
  rw [datas_app, sizes_append]; simp [datas, sizes]
theorem split_at (s : ByteArray) (ls : List ByteArray) (N : Nat) (c : Int) (w : World) (hm : ML w) (hN : ls.length = N) (h : splitR s.data.toList = (datas ls, c)) :
    Calls Tryd.prog 14 #[.string s] w fun e w' => ∃ a : Option Addr, e = .returned (.tuple #[.slice a N N, .int .i64 c]) ∧ Own w.heap.size w' a ls ∧ Below w.heap.size w w' ∧ ML w' := by
  subst hN; exact split_is s ls c w hm h
theorem chg_to {w w1 w2 : World} {ks : Nat → Prop} (hb : Below w.heap.size w w1) (h : Chg w1 w2 ks) (hk : ∀ k, ks k → w.heap.size ≤ k) : Below w.heap.size w w2 := h.to hb hb.size hk

set_option maxRecDepth 100000 in
set_option maxHeartbeats 4000000 in
theorem back_none (l : List ByteArray) (s : ByteArray) (a : Option Addr) (c : Nat) (w : World) (hm : ML w) (hc : c ≤ maxLen) (hl : l.length ≤ c) (ha : TAt w a l) (hne : fewL (datas l) = []) :
    Calls Tryd.prog 6 #[.slice a l.length c, .string s] w fun e w' => e = .returned (.bool true) ∧ Below w.heap.size w w' := by
  have hF := few_is l a c w (by unfold maxLen at hc; omega) ha
  have hNM := fun w' => name_any s w'
  have hK := fun w' hm' => known_any w' hm'
  have HM := hid hm
  have e0 := toList_nil
  have HNO := hid (nameL_ok s.data.toList)
  have HNE := hid hne
  clear ha hm hc hl hne
  go_enter Tryd.func6, Tryd.ntmps6
  go_wp2_with (first
    | (go_at_call 17; go_must (refine hF.mono ?_; rintro e w2 ⟨b2, d2, xs, rfl, hxs, ok2, sz2, ln2, le2, at2, hb2⟩; have HA2 := hid at2; have HOK2 := hid ok2; have HSZ2 := hid sz2; have HXS := hid hxs; have HM2 := hid (HM.out.below hb2); have hx0 : xs = [] := (by have h1 := HXS.out; rw [HNE.out] at h1; cases xs with | nil => rfl | cons u v => simp [datas] at h1); subst hx0; clear hF at2 hxs ok2 sz2))
    | (go_at_call 11; go_must (first
        | (refine (join_few [] b2 _ d2 _ HA2.out rfl le2 HOK2.out HSZ2.out).mono ?_; rintro e w3 ⟨p, rfl, hp, hb3⟩; have HP := hid hp; have HB3 := hid (btr hb2 hb3 hb2.size); have HA3 := hid (HA2.out.below hb3); have HM3 := hid (HM2.out.below hb3); have hps := path_size hp HSZ2.out; clear hp HA2)
        | (refine HJ2.out.mono ?_; rintro e w9 ⟨rfl, hb9⟩; have HB9 := hid (btr HB8.out hb9 HB8.out.size); have HM9 := hid (HM.out.below HB9.out); clear hb9)))
    | (go_at_call 14; go_must (first
        | (refine (split_is p [] 0 _ HM3.out (by rw [HP.out]; exact split_join _ HOK2.out HSZ2.out)).mono ?_; rintro e w4 ⟨a4, rfl, ho4, hb4, hm4⟩; have HO4 := hid ho4.at; have HB4 := hid (btr HB3.out hb4 HB3.out.size); have HA4 := hid (HA3.out.below hb4); clear ho4 hm4 hb4 HA3 HM3)
        | (refine (split_at WW ys (1) 0 _ HM9.out HYL.out HSP.out).mono ?_; rintro e w10 ⟨a10, rfl, ho10, hb10, hm10⟩; have HB10 := hid (btr HB9.out hb10 HB9.out.size); have HL10 := hid ho10.at; obtain ⟨g10, hg10⟩ : ∃ g, a10 = some ⟨g, 0, none⟩ := (by rcases HL10.out with h | ⟨g, h, _⟩; (· have h9 := HYL.out; rw [h] at h9; simp at h9); (· exact ⟨g, h⟩)); subst hg10; have p10 : w10.cell? ⟨g10, 0, none⟩ = some (.string n) := (by rcases HL10.out with h | ⟨g, h, _, hcl⟩; (· have h9 := HYL.out; rw [h] at h9; simp at h9); (· cases h; exact hcl 0 n (by rw [HYS.out]; simp))); clear ho10 hm10 hb10)))
    | (go_at_call 13; go_must (refine (same_is [] [] true a4 b2 _ _ _ d2 _ rfl rfl (by omega) (by omega) HO4.out.at HA4.out.at (by simp)).mono ?_; rintro e w5 ⟨rfl, hb5⟩; have HB5 := hid (btr HB4.out hb5 HB4.out.size); have HA5 := hid (HA4.out.below hb5); clear hb5 HA4))
    | (go_at_call 18; go_must (refine (hNM _).mono ?_; rintro e w6 ⟨n, rfl, hn, hb6⟩; have HN := hid hn; have HB6 := hid (btr HB5.out hb6 HB5.out.size); have HA6 := hid (HA5.out.below hb6); have hns : n.size ≤ 40 := (by have h1 := (ok_parts HNO.out).2.1; rw [← hn, len_eq] at h1; exact h1); have HNK : Hid (okName n.data.toList = true) := (by rw [hn]; exact HNO.out); obtain ⟨p1, hp1⟩ : ∃ y, p ++ (⟨#[47]⟩ : ByteArray) = y := ⟨_, rfl⟩; have hr1 : p.size + (⟨#[47]⟩ : ByteArray).size ≤ 9223372036854775807 := (by have : (⟨#[47]⟩ : ByteArray).size = 1 := rfl; omega); have hps1 : p1.size = p.size + 1 := (by rw [← hp1, ByteArray.size_append]; rfl); obtain ⟨W0, hW0⟩ : ∃ y, p1 ++ n = y := ⟨_, rfl⟩; obtain ⟨WW, hWW⟩ : ∃ y, (⟨#[47]⟩ : ByteArray) ++ n = y := ⟨_, rfl⟩; have hr3 : (⟨#[47]⟩ : ByteArray).size + n.size ≤ 9223372036854775807 := (by have : (⟨#[47]⟩ : ByteArray).size = 1 := rfl; omega); have HWD : Hid (WW.data.toList = pathOf (datas ([] ++ [n]))) := (by show _ = _; rw [datas_app, show datas [n] = [n.data.toList] from rfl, path_more, ← hWW]; simp [datas]); obtain ⟨ys, hys⟩ : ∃ y, y = [] ++ [n] := ⟨_, rfl⟩; have HYS := hid hys; have HYL : Hid (ys.length = 1) := (by show _ = _; rw [hys]; simp); rw [← hys] at HWD; have HAM := hid (all_more HOK2.out HNK.out); have HSM := hid (sizes_more [] n); rw [← hys] at HAM HSM; clear hys; have hr2 : p1.size + n.size ≤ 9223372036854775807 := (by omega); have HWS : Hid (WW.size = sizes (datas ys)) := (by show _ = _; rw [← len_eq, HWD.out, path_len, if_neg (by rw [HYS.out]; simp [datas])]); have hbg : (WW.size : Int) ≤ 400 := (by rw [HWS.out, HSM.out]; have : sizes (datas []) = 0 := rfl; omega); have HSP : Hid (splitR WW.data.toList = (datas ys, 0)) := (by show _ = _; rw [HWD.out]; exact split_join _ HAM.out (by rw [← HWS.out]; omega)); clear hn hb6 hps1 HA5 HNO))
    | (at_builtin; go_must (first
        | (refine wp_appL rfl _ _ rfl w6.heap.size _ d2 b2 _ [] [] rfl rfl rfl (own_new _ _ (Nat.le_refl _)) (HA6.out.below (below_new _ _)).at (by simp <;> omega) (by simp) ?_; intro v7 w7 h71 h72 h73; have HT7 := hid h71; have HB7 := hid (chg_to (btr HB6.out (below_new _ _) HB6.out.size) h72 (fun k hk => by cases hk; exact HB6.out.size)); have HZ7 : Hid (w6.heap.size ≤ w7.heap.size) := (by have := h72.size; simp at this; show _ ≤ _; omega); clear h71 h72 h73)
        | (refine wp_appL rfl _ _ rfl w6.heap.size 1 1 (some ⟨w7.heap.size, 0, none⟩) _ [] [n] rfl rfl rfl (row_below HT7.out (below_new _ _)) (new_list w7 [n]).at (by simp <;> omega) (by have := HZ7.out; simp; omega) ?_; intro v8 w8 h81 h82 h83; have HB8 := hid (chg_to (btr HB7.out (below_new _ _) HB7.out.size) h82 (fun k hk => Nat.le_trans HB6.out.size (row_ge HT7.out hk).1)); rw [← HYS.out] at h81; obtain ⟨a8, c8, hv8, hc8, hA8⟩ := TOwn.at h81; rw [HYL.out] at hv8; subst hv8; have HJ2 := hid (join_is ys a8 (1) c8 WW 0 w8 hA8 HYL.out.symm hc8 (by rw [HYL.out]; omega) (by rw [join_ok HAM.out (by rw [← HWS.out]; omega), HWD.out])); clear h81 h82 h83 hA8)))
    | (go_at_call 19; go_must (refine (check_is n true _ HNK.out).mono ?_; rw [if_pos rfl]; rintro e w11 ⟨rfl, hb11⟩; have HB11 := hid (btr HB10.out hb11 HB10.out.size); clear hb11))
    | (go_at_call 9; go_must (refine (hK _ (HM.out.below HB11.out)).mono ?_; rintro e w12 ⟨rfl, hb12⟩; have HB12 := hid (btr HB11.out hb12 HB11.out.size); clear hb12))
    | go_in)
  go_ret
  exact ⟨rfl, HB12.out⟩

set_option maxRecDepth 100000 in
set_option maxHeartbeats 4000000 in
theorem back_big (l : List ByteArray) (s : ByteArray) (a : Option Addr) (c : Nat) (w : World) (hm : ML w) (hc : c ≤ maxLen) (hl : l.length ≤ c) (ha : TAt w a l) (hne : fewL (datas l) ≠ []) (hbig : 400 < sizes (fewL (datas l)) + (1 + (nameL s.data.toList).length)) :
    Calls Tryd.prog 6 #[.slice a l.length c, .string s] w fun e w' => e = .returned (.bool true) ∧ Below w.heap.size w w' := by
  have hF := few_is l a c w (by unfold maxLen at hc; omega) ha
  have hNM := fun w' => name_any s w'
  have hK := fun w' hm' => known_any w' hm'
  have HM := hid hm
  have e0 := toList_nil
  have HNO := hid (nameL_ok s.data.toList)
  have HNE := hid hne
  have HBIG := hid hbig
  clear ha hm hc hl hne hbig
  go_enter Tryd.func6, Tryd.ntmps6
  go_wp2_with (first
    | (go_at_call 17; go_must (refine hF.mono ?_; rintro e w2 ⟨b2, d2, xs, rfl, hxs, ok2, sz2, ln2, le2, at2, hb2⟩; have HA2 := hid at2; have HOK2 := hid ok2; have HSZ2 := hid sz2; have HXS := hid hxs; have HM2 := hid (HM.out.below hb2); have hx0 : ((xs.length : Int) == 0) = false := (by simp only [beq_eq_false_iff_ne, ne_eq]; intro e; replace e : xs = [] := List.length_eq_zero_iff.1 (by omega); have h1 := HXS.out; rw [e] at h1; exact HNE.out h1.symm); have HX1 : Hid (xs ≠ []) := (by intro e; have h1 := HXS.out; rw [e] at h1; exact HNE.out h1.symm); clear hF at2 hxs ok2 sz2))
    | (go_at_call 11; go_must (first
        | (refine (join_few xs b2 _ d2 _ HA2.out rfl le2 HOK2.out HSZ2.out).mono ?_; rintro e w3 ⟨p, rfl, hp, hb3⟩; have HP := hid hp; have HB3 := hid (btr hb2 hb3 hb2.size); have HA3 := hid (HA2.out.below hb3); have HM3 := hid (HM2.out.below hb3); have hps := path_size hp HSZ2.out; clear hp HA2)
        | (refine HJ2.out.mono ?_; rintro e w9 ⟨rfl, hb9⟩; have HB9 := hid (btr HB8.out hb9 HB8.out.size); have HM9 := hid (HM.out.below HB9.out); clear hb9)))
    | (go_at_call 14; go_must (first
        | (refine (split_is p xs 0 _ HM3.out (by rw [HP.out]; exact split_join _ HOK2.out HSZ2.out)).mono ?_; rintro e w4 ⟨a4, rfl, ho4, hb4, hm4⟩; have HO4 := hid ho4.at; have HB4 := hid (btr HB3.out hb4 HB3.out.size); have HA4 := hid (HA3.out.below hb4); clear ho4 hm4 hb4 HA3 HM3)
        | (refine (split_at WW ys (xs.length + 1) 0 _ HM9.out HYL.out HSP.out).mono ?_; rintro e w10 ⟨a10, rfl, ho10, hb10, hm10⟩; have HB10 := hid (btr HB9.out hb10 HB9.out.size); have HL10 := hid ho10.at; obtain ⟨g10, hg10⟩ : ∃ g, a10 = some ⟨g, 0, none⟩ := (by rcases HL10.out with h | ⟨g, h, _⟩; (· have h9 := HYL.out; rw [h] at h9; simp at h9); (· exact ⟨g, h⟩)); subst hg10; have p10 : w10.cell? ⟨g10, xs.length, none⟩ = some (.string n) := (by rcases HL10.out with h | ⟨g, h, _, hcl⟩; (· have h9 := HYL.out; rw [h] at h9; simp at h9); (· cases h; exact hcl xs.length n (by rw [HYS.out]; simp))); clear ho10 hm10 hb10)))
    | (go_at_call 13; go_must (refine (same_is xs xs true a4 b2 _ _ _ d2 _ rfl rfl (by omega) (by omega) HO4.out.at HA4.out.at (by simp)).mono ?_; rintro e w5 ⟨rfl, hb5⟩; have HB5 := hid (btr HB4.out hb5 HB4.out.size); have HA5 := hid (HA4.out.below hb5); clear hb5 HA4))
    | (go_at_call 18; go_must (refine (hNM _).mono ?_; rintro e w6 ⟨n, rfl, hn, hb6⟩; have HN := hid hn; have HB6 := hid (btr HB5.out hb6 HB5.out.size); have HA6 := hid (HA5.out.below hb6); have hns : n.size ≤ 40 := (by have h1 := (ok_parts HNO.out).2.1; rw [← hn, len_eq] at h1; exact h1); have HNK : Hid (okName n.data.toList = true) := (by rw [hn]; exact HNO.out); obtain ⟨p1, hp1⟩ : ∃ y, p ++ (⟨#[47]⟩ : ByteArray) = y := ⟨_, rfl⟩; have hr1 : p.size + (⟨#[47]⟩ : ByteArray).size ≤ 9223372036854775807 := (by have : (⟨#[47]⟩ : ByteArray).size = 1 := rfl; omega); have hps1 : p1.size = p.size + 1 := (by rw [← hp1, ByteArray.size_append]; rfl); obtain ⟨WW, hWW⟩ : ∃ y, p1 ++ n = y := ⟨_, rfl⟩; have HWD : Hid (WW.data.toList = pathOf (datas (xs ++ [n]))) := (by show _ = _; rw [datas_app, show datas [n] = [n.data.toList] from rfl, path_more, if_neg (by intro e; exact HX1.out (by cases xs with | nil => rfl | cons u v => simp [datas] at e)), ← HP.out, ← hWW, ← hp1]; simp); obtain ⟨ys, hys⟩ : ∃ y, y = xs ++ [n] := ⟨_, rfl⟩; have HYS := hid hys; have HYL : Hid (ys.length = xs.length + 1) := (by show _ = _; rw [hys]; simp); rw [← hys] at HWD; have HAM := hid (all_more HOK2.out HNK.out); have HSM := hid (sizes_more xs n); rw [← hys] at HAM HSM; clear hys; have hr2 : p1.size + n.size ≤ 9223372036854775807 := (by omega); have HWS : Hid (WW.size = sizes (datas ys)) := (by show _ = _; rw [← len_eq, HWD.out, path_len, if_neg (by rw [HYS.out]; simp [datas])]); have hbg : (400 : Int) < (WW.size : Int) := (by have h1 := HBIG.out; rw [HWS.out, HSM.out]; rw [← HXS.out, ← HN.out, len_eq] at h1; omega); clear hn hb6 hps1 HA5 HNO))
    | (at_builtin; go_must (first
        | (refine wp_appL rfl _ _ rfl w6.heap.size _ d2 b2 _ [] xs rfl rfl rfl (own_new _ _ (Nat.le_refl _)) (HA6.out.below (below_new _ _)).at (by simp <;> omega) (by simp) ?_; intro v7 w7 h71 h72 h73; have HT7 := hid h71; have HB7 := hid (chg_to (btr HB6.out (below_new _ _) HB6.out.size) h72 (fun k hk => by cases hk; exact HB6.out.size)); have HZ7 : Hid (w6.heap.size ≤ w7.heap.size) := (by have := h72.size; simp at this; show _ ≤ _; omega); clear h71 h72 h73)
        | (refine wp_appL rfl _ _ rfl w6.heap.size 1 1 (some ⟨w7.heap.size, 0, none⟩) _ xs [n] rfl rfl rfl (row_below HT7.out (below_new _ _)) (new_list w7 [n]).at (by simp <;> omega) (by have := HZ7.out; simp; omega) ?_; intro v8 w8 h81 h82 h83; have HB8 := hid (chg_to (btr HB7.out (below_new _ _) HB7.out.size) h82 (fun k hk => Nat.le_trans HB6.out.size (row_ge HT7.out hk).1)); rw [← HYS.out] at h81; obtain ⟨a8, c8, hv8, hc8, hA8⟩ := TOwn.at h81; rw [HYL.out] at hv8; subst hv8; have HJ2 := hid (join_is ys a8 (xs.length + 1) c8 ⟨#[]⟩ 70 w8 hA8 HYL.out.symm hc8 (by rw [HYL.out]; omega) (by unfold joinR; rw [if_pos HAM.out, if_pos (by rw [← HWS.out]; omega)])); clear h81 h82 h83 hA8)))
    | (go_at_call 19; go_must (refine (check_is n true _ HNK.out).mono ?_; rw [if_pos rfl]; rintro e w11 ⟨rfl, hb11⟩; have HB11 := hid (btr HB10.out hb11 HB10.out.size); clear hb11))
    | (go_at_call 9; go_must (refine (hK _ (HM.out.below HB9.out)).mono ?_; rintro e w12 ⟨rfl, hb12⟩; have HB12 := hid (btr HB9.out hb12 HB9.out.size); clear hb12))
    | go_in)
  go_ret
  exact ⟨rfl, HB12.out⟩

set_option maxRecDepth 100000 in
set_option maxHeartbeats 4000000 in
theorem back_small (l : List ByteArray) (s : ByteArray) (a : Option Addr) (c : Nat) (w : World) (hm : ML w) (hc : c ≤ maxLen) (hl : l.length ≤ c) (ha : TAt w a l) (hne : fewL (datas l) ≠ []) (hbig : ¬ 400 < sizes (fewL (datas l)) + (1 + (nameL s.data.toList).length)) :
    Calls Tryd.prog 6 #[.slice a l.length c, .string s] w fun e w' => e = .returned (.bool true) ∧ Below w.heap.size w w' := by
  have hF := few_is l a c w (by unfold maxLen at hc; omega) ha
  have hNM := fun w' => name_any s w'
  have hK := fun w' hm' => known_any w' hm'
  have HM := hid hm
  have e0 := toList_nil
  have HNO := hid (nameL_ok s.data.toList)
  have HNE := hid hne
  have HBIG := hid hbig
  clear ha hm hc hl hne hbig
  go_enter Tryd.func6, Tryd.ntmps6
  go_wp2_with (first
    | (go_at_call 17; go_must (refine hF.mono ?_; rintro e w2 ⟨b2, d2, xs, rfl, hxs, ok2, sz2, ln2, le2, at2, hb2⟩; have HA2 := hid at2; have HOK2 := hid ok2; have HSZ2 := hid sz2; have HXS := hid hxs; have HM2 := hid (HM.out.below hb2); have hx0 : ((xs.length : Int) == 0) = false := (by simp only [beq_eq_false_iff_ne, ne_eq]; intro e; replace e : xs = [] := List.length_eq_zero_iff.1 (by omega); have h1 := HXS.out; rw [e] at h1; exact HNE.out h1.symm); have HX1 : Hid (xs ≠ []) := (by intro e; have h1 := HXS.out; rw [e] at h1; exact HNE.out h1.symm); clear hF at2 hxs ok2 sz2))
    | (go_at_call 11; go_must (first
        | (refine (join_few xs b2 _ d2 _ HA2.out rfl le2 HOK2.out HSZ2.out).mono ?_; rintro e w3 ⟨p, rfl, hp, hb3⟩; have HP := hid hp; have HB3 := hid (btr hb2 hb3 hb2.size); have HA3 := hid (HA2.out.below hb3); have HM3 := hid (HM2.out.below hb3); have hps := path_size hp HSZ2.out; clear hp HA2)
        | (refine HJ2.out.mono ?_; rintro e w9 ⟨rfl, hb9⟩; have HB9 := hid (btr HB8.out hb9 HB8.out.size); have HM9 := hid (HM.out.below HB9.out); clear hb9)))
    | (go_at_call 14; go_must (first
        | (refine (split_is p xs 0 _ HM3.out (by rw [HP.out]; exact split_join _ HOK2.out HSZ2.out)).mono ?_; rintro e w4 ⟨a4, rfl, ho4, hb4, hm4⟩; have HO4 := hid ho4.at; have HB4 := hid (btr HB3.out hb4 HB3.out.size); have HA4 := hid (HA3.out.below hb4); clear ho4 hm4 hb4 HA3 HM3)
        | (refine (split_at WW ys (xs.length + 1) 0 _ HM9.out HYL.out HSP.out).mono ?_; rintro e w10 ⟨a10, rfl, ho10, hb10, hm10⟩; have HB10 := hid (btr HB9.out hb10 HB9.out.size); have HL10 := hid ho10.at; obtain ⟨g10, hg10⟩ : ∃ g, a10 = some ⟨g, 0, none⟩ := (by rcases HL10.out with h | ⟨g, h, _⟩; (· have h9 := HYL.out; rw [h] at h9; simp at h9); (· exact ⟨g, h⟩)); subst hg10; have p10 : w10.cell? ⟨g10, xs.length, none⟩ = some (.string n) := (by rcases HL10.out with h | ⟨g, h, _, hcl⟩; (· have h9 := HYL.out; rw [h] at h9; simp at h9); (· cases h; exact hcl xs.length n (by rw [HYS.out]; simp))); clear ho10 hm10 hb10)))
    | (go_at_call 13; go_must (refine (same_is xs xs true a4 b2 _ _ _ d2 _ rfl rfl (by omega) (by omega) HO4.out.at HA4.out.at (by simp)).mono ?_; rintro e w5 ⟨rfl, hb5⟩; have HB5 := hid (btr HB4.out hb5 HB4.out.size); have HA5 := hid (HA4.out.below hb5); clear hb5 HA4))
    | (go_at_call 18; go_must (refine (hNM _).mono ?_; rintro e w6 ⟨n, rfl, hn, hb6⟩; have HN := hid hn; have HB6 := hid (btr HB5.out hb6 HB5.out.size); have HA6 := hid (HA5.out.below hb6); have hns : n.size ≤ 40 := (by have h1 := (ok_parts HNO.out).2.1; rw [← hn, len_eq] at h1; exact h1); have HNK : Hid (okName n.data.toList = true) := (by rw [hn]; exact HNO.out); obtain ⟨p1, hp1⟩ : ∃ y, p ++ (⟨#[47]⟩ : ByteArray) = y := ⟨_, rfl⟩; have hr1 : p.size + (⟨#[47]⟩ : ByteArray).size ≤ 9223372036854775807 := (by have : (⟨#[47]⟩ : ByteArray).size = 1 := rfl; omega); have hps1 : p1.size = p.size + 1 := (by rw [← hp1, ByteArray.size_append]; rfl); obtain ⟨WW, hWW⟩ : ∃ y, p1 ++ n = y := ⟨_, rfl⟩; have HWD : Hid (WW.data.toList = pathOf (datas (xs ++ [n]))) := (by show _ = _; rw [datas_app, show datas [n] = [n.data.toList] from rfl, path_more, if_neg (by intro e; exact HX1.out (by cases xs with | nil => rfl | cons u v => simp [datas] at e)), ← HP.out, ← hWW, ← hp1]; simp); obtain ⟨ys, hys⟩ : ∃ y, y = xs ++ [n] := ⟨_, rfl⟩; have HYS := hid hys; have HYL : Hid (ys.length = xs.length + 1) := (by show _ = _; rw [hys]; simp); rw [← hys] at HWD; have HAM := hid (all_more HOK2.out HNK.out); have HSM := hid (sizes_more xs n); rw [← hys] at HAM HSM; clear hys; have hr2 : p1.size + n.size ≤ 9223372036854775807 := (by omega); have HWS : Hid (WW.size = sizes (datas ys)) := (by show _ = _; rw [← len_eq, HWD.out, path_len, if_neg (by rw [HYS.out]; simp [datas])]); have hbg : (WW.size : Int) ≤ 400 := (by have h1 := HBIG.out; rw [HWS.out, HSM.out]; rw [← HXS.out, ← HN.out, len_eq] at h1; omega); have HSP : Hid (splitR WW.data.toList = (datas ys, 0)) := (by show _ = _; rw [HWD.out]; exact split_join _ HAM.out (by rw [← HWS.out]; omega)); clear hn hb6 hps1 HA5 HNO))
    | (at_builtin; go_must (first
        | (refine wp_appL rfl _ _ rfl w6.heap.size _ d2 b2 _ [] xs rfl rfl rfl (own_new _ _ (Nat.le_refl _)) (HA6.out.below (below_new _ _)).at (by simp <;> omega) (by simp) ?_; intro v7 w7 h71 h72 h73; have HT7 := hid h71; have HB7 := hid (chg_to (btr HB6.out (below_new _ _) HB6.out.size) h72 (fun k hk => by cases hk; exact HB6.out.size)); have HZ7 : Hid (w6.heap.size ≤ w7.heap.size) := (by have := h72.size; simp at this; show _ ≤ _; omega); clear h71 h72 h73)
        | (refine wp_appL rfl _ _ rfl w6.heap.size 1 1 (some ⟨w7.heap.size, 0, none⟩) _ xs [n] rfl rfl rfl (row_below HT7.out (below_new _ _)) (new_list w7 [n]).at (by simp <;> omega) (by have := HZ7.out; simp; omega) ?_; intro v8 w8 h81 h82 h83; have HB8 := hid (chg_to (btr HB7.out (below_new _ _) HB7.out.size) h82 (fun k hk => Nat.le_trans HB6.out.size (row_ge HT7.out hk).1)); rw [← HYS.out] at h81; obtain ⟨a8, c8, hv8, hc8, hA8⟩ := TOwn.at h81; rw [HYL.out] at hv8; subst hv8; have HJ2 := hid (join_is ys a8 (xs.length + 1) c8 WW 0 w8 hA8 HYL.out.symm hc8 (by rw [HYL.out]; omega) (by rw [join_ok HAM.out (by rw [← HWS.out]; omega), HWD.out])); clear h81 h82 h83 hA8)))
    | (go_at_call 19; go_must (refine (check_is n true _ HNK.out).mono ?_; rw [if_pos rfl]; rintro e w11 ⟨rfl, hb11⟩; have HB11 := hid (btr HB10.out hb11 HB10.out.size); clear hb11))
    | (go_at_call 9; go_must (refine (hK _ (HM.out.below HB11.out)).mono ?_; rintro e w12 ⟨rfl, hb12⟩; have HB12 := hid (btr HB11.out hb12 HB11.out.size); clear hb12))
    | go_in)
  go_ret
  exact ⟨rfl, HB12.out⟩

theorem back_walk (l : List ByteArray) (s : ByteArray) (a : Option Addr) (c : Nat) (w : World) (hm : ML w) (hc : c ≤ maxLen) (hl : l.length ≤ c) (ha : TAt w a l) :
    Calls Tryd.prog 6 #[.slice a l.length c, .string s] w fun e w' => e = .returned (.bool true) ∧ Below w.heap.size w w' := by
  by_cases h : fewL (datas l) = []
  · exact back_none l s a c w hm hc hl ha h
  · by_cases h2 : 400 < sizes (fewL (datas l)) + (1 + (nameL s.data.toList).length)
    · exact back_big l s a c w hm hc hl ha h h2
    · exact back_small l s a c w hm hc hl ha h h2

end Go.Proofs.YtcckjkmkegpekaaDoor
