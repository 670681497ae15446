/-
  The statements' own helper few.
-/
import Derived.Test.YtcckjkmkegpekabDoorPN
namespace Go.Proofs.YtcckjkmkegpekabDoor
open Go.RowKit Go.Shelf

theorem few_step {L : List (List UInt8)} {k z : Nat} {x : List UInt8} (hk : k < 400) (hx : L[k]? = some x) :
    fewGo z ((L.take 400).drop k) = if z + 1 + (nameL x).length > 400 then [] else nameL x :: fewGo (z + 1 + (nameL x).length) ((L.take 400).drop (k + 1)) := by
  have h1 : (L.take 400)[k]? = some x := by rw [List.getElem?_take, if_pos hk]; exact hx
  have hkl : k < (L.take 400).length := by
    rcases Nat.lt_or_ge k (L.take 400).length with g | g
    · exact g
    · rw [List.getElem?_eq_none g] at h1; cases h1
  rw [List.drop_eq_getElem_cons hkl]
  rw [List.getElem?_eq_getElem hkl] at h1
  rw [Option.some.inj h1, fewGo]

set_option maxRecDepth 100000 in
set_option maxHeartbeats 2000000 in
theorem few_any (ls : List ByteArray) (a : Option Addr) (c : Nat) (w : World) (hN : ls.length ≤ 9223372036854775807) (h : TAt w a ls) :
    Calls Tryd.prog 5 #[.slice a ls.length c] w fun e w' => ∃ (v : Value) (xs : List ByteArray), e = .returned v ∧ datas xs = fewL (datas ls) ∧ TOwn w' w.heap.size v xs ∧ Below w.heap.size w w' := by
  have HA := hid h
  clear h
  generalize hlen : ls.length = m at *
  have HLen := hid hlen
  clear hlen
  go_enter Tryd.func5, Tryd.ntmps5
  go_wp2_with fail
  go_loopw [3, 4, 5] (fun v n i wr => ∃ (k z : Nat) (xs : List ByteArray), k ≤ m ∧ k ≤ 400 ∧ z ≤ 400 ∧ i = .int .i64 k ∧ n = .int .i64 z ∧ Below w.heap.size w wr ∧ Hid (TOwn wr w.heap.size v xs) ∧ Hid (z = sizes (datas xs)) ∧ Hid (fewL (datas ls) = datas xs ++ fewGo z (((datas ls).take 400).drop k))) (fun _ _ i _ => m - (intOf i).toNat)
  case atStart => exact ⟨0, 0, [], by omega, by omega, by omega, rfl, rfl, Below.refl _ _, row_nil _ _ _ _, rfl, rfl⟩
  case round =>
    obtain ⟨k, z, xs, hk, hk4, hz, rfl, rfl, hbr, HO, HZ, HF⟩ := hrel
    have hxs : xs.length ≤ 400 := by have := sizes_len (datas xs); rw [datas_len, ← HZ.out] at this; omega
    by_cases hlt : k < m
    · by_cases h4 : k < 400
      · rcases HA.out with h0 | ⟨ad, rfl, hg, hcell⟩
        · have := HLen.out; rw [h0] at this; simp at this; omega
        have hkl : k < ls.length := by have := HLen.out; omega
        have p1 : wr.cell? (ad.add k) = some (.string (ls.getD k ByteArray.empty)) := cell_below hbr (by unfold Addr.add; split <;> exact hg) (hcell k _ (getS hkl))
        have hD := datas_get (ls := ls) (k := k) hkl
        have hnm := fun w' => name_any (ls.getD k ByteArray.empty) w'
        have HST := hid (few_step (z := z) h4 hD)
        have HNL := hid (nameL_len (ls.getD k ByteArray.empty).data.toList)
        obtain ⟨u, hu⟩ : ∃ u, u = ls.getD k ByteArray.empty := ⟨_, rfl⟩
        rw [← hu] at p1 hnm HST HNL
        have hi0 : (0 : Int) ≤ (k : Int) := by omega
        have hi1 : (k : Int) < (m : Int) := by omega
        have i4 : (k : Int) < 400 := by omega
        clear hu hcell hD
        refine Classical.byCases (p := z + 1 + (nameL u.data.toList).length > 400) (fun hbig => ?_) (fun hbig => ?_)
        · have HR : Hid (fewL (datas ls) = datas xs) := by show _ = _; rw [HF.out, HST.out, if_pos hbig, List.append_nil]
          have HBIG := hid hbig
          clear hbig
          go_wp2_with (go_at_call 12; refine (hnm _).mono ?_; rintro e w5 ⟨p, rfl, hp, hb5⟩; have hpb : (400 : Int) < (z : Int) + 1 + (p.size : Int) := (by have h1 := HBIG.out; rw [← hp, len_eq] at h1; omega); have hp40 : p.size ≤ 40 := (by have h2 := HNL.out; rw [← hp, len_eq] at h2; exact h2.2); clear hp)
          go_ret
          exact ⟨_, xs, rfl, HR.out.symm, row_below HO.out hb5, btr hbr hb5 hbr.size⟩
        · have HR : Hid (fewL (datas ls) = datas xs ++ nameL u.data.toList :: fewGo (z + 1 + (nameL u.data.toList).length) (((datas ls).take 400).drop (k + 1))) := by show _ = _; rw [HF.out, HST.out, if_neg hbig]
          have HBIG := hid hbig
          clear hbig
          go_wp2_with (first
            | (go_at_call 12; go_must (refine (hnm _).mono ?_; rintro e w5 ⟨p, rfl, hp, hb5⟩; have hpb : (z : Int) + 1 + (p.size : Int) ≤ 400 := (by have h1 := HBIG.out; rw [← hp, len_eq] at h1; omega); have hp40 : p.size ≤ 40 := (by have h2 := HNL.out; rw [← hp, len_eq] at h2; exact h2.2); have HP := hid hp; have hb6 := btr hbr hb5 hbr.size; have hz6 := hb6.size; clear hp))
            | (at_builtin; go_must (refine wp_appT rfl _ _ rfl w.heap.size 1 1 ⟨w5.heap.size, 0, none⟩ _ xs [p] rfl rfl rfl (row_below (row_below HO.out hb5) (below_new _ _)) (fun j y hj => (new_list w5 [p]).at.elim (fun e => by cases e) (fun ⟨ad2, e2, _, hc2⟩ => by cases e2; exact hc2 j y hj)) (by simp; omega) (by simp; omega) ?_; intro v' w' h1 h2 h3))
            | go_in)
          have hB' : Below w.heap.size w w' := by
            refine h2.to (hb6.alloc hb6.size _) (by simp; omega) fun j hj => ?_
            exact (row_ge HO.out hj).1
          refine ⟨⟨k + 1, z + 1 + p.size, xs ++ [p], by omega, by omega, by omega, by go_num, by go_num, hB', h1, ?_, ?_⟩, by simp [intOf]; omega⟩
          · show _ = _
            have e : datas (xs ++ [p]) = datas xs ++ [p.data.toList] := by simp [datas]
            rw [e, sizes_append, ← HZ.out]
            simp [sizes]; omega
          · show _ = _
            have e : datas (xs ++ [p]) = datas xs ++ [p.data.toList] := by simp [datas]
            rw [HR.out, e, ← HP.out, len_eq]
            simp
      · obtain rfl : k = 400 := by omega
        have HR : Hid (fewL (datas ls) = datas xs) := by
          show _ = _
          rw [HF.out, List.drop_eq_nil_of_le (by rw [List.length_take]; omega), fewGo, List.append_nil]
        go_wp2_with fail
        go_ret
        exact ⟨_, xs, rfl, HR.out.symm, HO.out, hbr⟩
    · have HR : Hid (fewL (datas ls) = datas xs) := by
        show _ = _
        have := HLen.out
        rw [HF.out, List.drop_eq_nil_of_le (by rw [List.length_take, datas_len]; omega), fewGo, List.append_nil]
      go_wp2_with fail
      go_ret
      exact ⟨_, xs, rfl, HR.out.symm, HO.out, hbr⟩

end Go.Proofs.YtcckjkmkegpekabDoor
