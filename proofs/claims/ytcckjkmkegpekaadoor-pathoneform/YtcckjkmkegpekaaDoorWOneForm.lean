/-
  The walk of PathOneForm.
-/
import Derived.Test.YtcckjkmkegpekaaDoorPK
namespace Go.Proofs.YtcckjkmkegpekaaDoor
open Go.RowKit Go.Shelf

set_option maxRecDepth 100000 in
set_option maxHeartbeats 2000000 in
theorem oneForm_bad (s : ByteArray) (c : Int) (w : World) (hm : ML w) (h : splitR s.data.toList = ([], c)) (hc : c = 70 ∨ c = 71) : Calls Tryd.prog 7 #[.string s] w fun e w' => e = .returned (.bool true) ∧ Below w.heap.size w w' := by
  have hS := split_is s [] c w hm h
  have hk := fun w' hm' => known_any w' hm'
  clear hm h
  rcases hc with rfl | rfl
  all_goals
    go_enter Tryd.func7, Tryd.ntmps7
    go_wp2_with (first
      | (go_at_call 14; go_must (refine hS.mono ?_; rintro e w2 ⟨a, rfl, ho2, hb2, hm2⟩; have HM2 := hid hm2; clear hm2 ho2))
      | (go_at_call 9; go_must (refine (hk _ HM2.out).mono ?_; rintro e w3 ⟨rfl, hb3⟩))
      | fail)
    go_ret
    exact ⟨rfl, btr hb2 hb3 hb2.size⟩

set_option maxRecDepth 100000 in
set_option maxHeartbeats 2000000 in
theorem oneForm_good (s : ByteArray) (ls : List ByteArray) (w : World) (hm : ML w) (h : splitR s.data.toList = (datas ls, 0)) : Calls Tryd.prog 7 #[.string s] w fun e w' => e = .returned (.bool true) ∧ Below w.heap.size w w' := by
  have hS := split_is s ls 0 w hm h
  have hk := fun w' hm' => known_any w' hm'
  obtain ⟨h1, h2, h3, h4⟩ := split_ok h
  have hlen : ls.length ≤ 400 := by have := sizes_len (datas ls); rw [datas_len] at this; omega
  have hJ := fun (w' : World) a (ha : LAt w' a ls) => join_is ls a ls.length ls.length s 0 w' ha rfl (Nat.le_refl _) (by omega) (by rw [join_ok h1 h2, h3])
  have e1 := toList_stroke
  have H1 := hid h1
  have H2 := hid h2
  have H4 : Hid (sizes (datas ls) = s.size ∨ ls.length = 0 ∧ s.toList = [47]) := by
    rcases h4 with h4 | ⟨h4, h5⟩
    · left; rw [h4, len_eq]
    · right; exact ⟨by rw [← datas_len, h4]; rfl, by rw [tl]; exact h5⟩
  clear hm h h1 h2 h3 h4
  generalize hL : ls.length = m at *
  have HLen := hid hL
  clear hL
  go_enter Tryd.func7, Tryd.ntmps7
  go_wp2_with (first
    | (go_at_call 14; go_must (refine hS.mono ?_; rintro e w2 ⟨a, rfl, ho2, hb2, hm2⟩; have HM2 := hid hm2; have HO := hid ho2; clear hm2 ho2))
    | (go_at_call 11; go_must (refine (hJ _ _ HO.out.at).mono ?_; rintro e w3 ⟨rfl, hb3⟩; have HB3 := hid (btr hb2 hb3 hb2.size); have HM3 := hid (HM2.out.below hb3); have HA3 := hid (HO.out.at.below hb3); clear hb3))
    | fail)
  clear hS hJ
  go_loopw [7, 8] (fun n i wr => ∃ k z : Nat, k ≤ m ∧ i = .int .i64 k ∧ n = .int .i64 z ∧ z ≤ 400 ∧ Below w3.heap.size w3 wr ∧ Hid (z = sizes ((datas ls).take k))) (fun _ i _ => m - (intOf i).toNat)
  case atStart => exact ⟨0, 0, by omega, rfl, rfl, by omega, Below.refl _ _, (by rfl : (0 : Nat) = sizes [])⟩
  case round =>
    obtain ⟨k, z, hk', rfl, rfl, hz, hbr, HZ⟩ := hrel
    by_cases hlt : k < m
    · rcases HA3.out with h0 | ⟨g, rfl, hg, hcell⟩
      · have := HLen.out; rw [h0] at this; simp at this; omega
      have hkl : k < ls.length := by have := HLen.out; omega
      have p1 : wr.cell? ⟨g, k, none⟩ = some (.string (ls.getD k ByteArray.empty)) := cell_below hbr hg (hcell k _ (getS hkl))
      have hD := datas_get (ls := ls) (k := k) hkl
      have hok : okName (ls.getD k ByteArray.empty).data.toList = true := List.all_eq_true.1 H1.out _ (List.mem_of_getElem? hD)
      have hck := fun w' => check_any (ls.getD k ByteArray.empty) w'
      obtain ⟨u, hu⟩ : ∃ u, u = ls.getD k ByteArray.empty := ⟨_, rfl⟩
      rw [← hu] at p1 hck hD hok
      rw [chk_ok hok] at hck
      have hul : u.size ≤ 40 := by have := (ok_parts hok).2.1; rw [len_eq] at this; exact this
      have HZ2 : Hid (z + 1 + u.size = sizes ((datas ls).take (k + 1))) := by
        show _ = _
        rw [sizes_take hD, ← HZ.out, len_eq]; omega
      have hz2 : z + 1 + u.size ≤ 400 := by
        rw [HZ2.out]
        have h2 := H2.out
        have h3 : sizes (datas ls) = sizes ((datas ls).take (k + 1)) + sizes ((datas ls).drop (k + 1)) := by rw [← sizes_append, List.take_append_drop]
        omega
      have hi0 : (0 : Int) ≤ (k : Int) := by omega
      have hi1 : (k : Int) < (m : Int) := by omega
      have hpc : ∀ w5, Below wr.heap.size wr w5 → w5.cell? ⟨g, k, none⟩ = some (.string u) := fun w5 hb5 => cell_below hb5 (Nat.lt_of_lt_of_le hg hbr.size) p1
      have HPC := hid hpc
      clear hu hcell hD hok hpc
      go_wp2_with (go_at_call 19; refine (hck _).mono ?_; rintro e w5 ⟨rfl, hb5⟩; have p5 := HPC.out _ hb5; clear p1)
      exact ⟨⟨k + 1, z + 1 + u.size, by omega, by go_num, by go_num, by omega, btr hbr hb5 hbr.size, HZ2⟩, by simp [intOf]; omega⟩
    · have HT : Hid (z = sizes (datas ls)) := by
        show _ = _
        rw [HZ.out, List.take_of_length_le (by rw [datas_len, HLen.out]; omega)]
      have HMr := hid (HM3.out.below hbr)
      rcases H4.out with h4 | ⟨h4, h5⟩
      · have hzs : z = s.size := by rw [HT.out, h4]
        clear h4 HT HZ
        subst hzs
        go_wp2_with (go_at_call 9; refine (hk _ HMr.out).mono ?_; rintro e w6 ⟨rfl, hb6⟩)
        go_ret
        exact ⟨rfl, btr (btr HB3.out hbr HB3.out.size) hb6 (btr HB3.out hbr HB3.out.size).size⟩
      · by_cases hzs : z = s.size
        · clear h4 h5 HT HZ
          subst hzs
          go_wp2_with (go_at_call 9; refine (hk _ HMr.out).mono ?_; rintro e w6 ⟨rfl, hb6⟩)
          go_ret
          exact ⟨rfl, btr (btr HB3.out hbr HB3.out.size) hb6 (btr HB3.out hbr HB3.out.size).size⟩
        · have hzn : ((z : Int) == (s.size : Int)) = false := by simp; omega
          subst h4
          clear HT HZ
          go_wp2_with (go_at_call 9; refine (hk _ HMr.out).mono ?_; rintro e w6 ⟨rfl, hb6⟩)
          go_ret
          exact ⟨rfl, btr (btr HB3.out hbr HB3.out.size) hb6 (btr HB3.out hbr HB3.out.size).size⟩

theorem datas_of (xs : List (List UInt8)) : ∃ ls : List ByteArray, datas ls = xs := ⟨xs.map fun x => ⟨x.toArray⟩, by simp [datas, List.map_map, Function.comp_def]⟩

theorem oneForm_walk (s : ByteArray) (w : World) (hm : ML w) : Calls Tryd.prog 7 #[.string s] w fun e w' => e = .returned (.bool true) ∧ Below w.heap.size w w' := by
  rcases split_err (l := s.data.toList) with ⟨xs, h⟩ | h | h
  · obtain ⟨ls, rfl⟩ := datas_of xs
    exact oneForm_good s ls w hm h
  · exact oneForm_bad s 70 w hm h (.inl rfl)
  · exact oneForm_bad s 71 w hm h (.inr rfl)

end Go.Proofs.YtcckjkmkegpekaaDoor
