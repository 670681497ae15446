/-
  The document's Join.
-/
import Derived.Test.YtfkmpbbemkkdaaaDoorQS2
import Derived.Test.YtfkmpbbemkkdaaaDoorPJ
namespace Go.Proofs.YtfkmpbbemkkdaaaDoor
open Go.RowKit Go.Shelf

def flat (xs : List (List UInt8)) : List UInt8 := (xs.map (47 :: ·)).flatten
theorem flat_take {xs : List (List UInt8)} {k : Nat} {y : List UInt8} (h : xs[k]? = some y) : flat (xs.take (k + 1)) = flat (xs.take k) ++ 47 :: y := by
  unfold flat
  rw [List.take_add_one, h]
  simp
theorem flat_len (xs : List (List UInt8)) : (flat xs).length = sizes xs := by
  unfold flat sizes
  induction xs with
  | nil => rfl
  | cons x r ih => simp [ih]; omega
theorem sizes_le {xs : List (List UInt8)} (k : Nat) : sizes (xs.take k) ≤ sizes xs := by
  have h : sizes xs = sizes (xs.take k) + sizes (xs.drop k) := by rw [← sizes_append, List.take_append_drop]
  omega

set_option maxRecDepth 100000 in
set_option maxHeartbeats 2000000 in
theorem rjoin_any (ls : List ByteArray) (a : Option Addr) (c : Nat) (w : World) (h : TAt w a ls) (hN : ls.length ≤ 140737488355328) :
    Calls Tryd.prog 5 #[.slice a ls.length c] w fun e w' => ∃ p : ByteArray, e = .returned (.tuple #[.string p, .int .i64 (joinR (datas ls)).2]) ∧ p.data.toList = (joinR (datas ls)).1 ∧ Below w.heap.size w w' := by
  have HA := hid h
  clear h
  generalize hlen : ls.length = m at *
  have HLen := hid hlen
  clear hlen
  go_enter Tryd.func5, Tryd.ntmps5
  go_wp2_with fail
  go_loopw [4, 5] (fun n i wr => ∃ k z : Nat, k ≤ m ∧ i = .int .i64 k ∧ n = .int .i64 z ∧ z ≤ 41 * k ∧ Below w.heap.size w wr ∧ Hid (z = sizes ((datas ls).take k)) ∧ Hid (∀ j, j < k → okName (ls.getD j ByteArray.empty).data.toList = true)) (fun _ i _ => m - (intOf i).toNat)
  case atStart => exact ⟨0, 0, by omega, rfl, rfl, by omega, Below.refl _ _, (by rfl : (0 : Nat) = sizes []), fun j hj => by omega⟩
  case round =>
    obtain ⟨k, z, hk, rfl, rfl, hz, hbr, HZ, HK⟩ := hrel
    by_cases hlt : k < m
    · rcases HA.out with h0 | ⟨ad, rfl, hg, hcell⟩
      · have := HLen.out; rw [h0] at this; simp at this; omega
      have hag : (ad.add k).block < w.heap.size := by unfold Addr.add; split <;> exact hg
      have p1 : wr.cell? (ad.add k) = some (.string (ls.getD k ByteArray.empty)) := cell_below hbr hag (hcell k _ (getS (by have := HLen.out; omega)))
      have hD := datas_get (ls := ls) (k := k) (by have := HLen.out; omega)
      have hck := fun w' => rcheck_any (ls.getD k ByteArray.empty) w'
      have HU : Hid (okName (ls.getD k ByteArray.empty).data.toList = true ∨ ¬ okName (ls.getD k ByteArray.empty).data.toList = true) := by
        rcases Classical.em (okName (ls.getD k ByteArray.empty).data.toList = true) with h | h
        · exact .inl h
        · exact .inr h
      obtain ⟨u, hu⟩ : ∃ u, u = ls.getD k ByteArray.empty := ⟨_, rfl⟩
      rw [← hu] at p1 hck HU hD
      have HQ := hid hu
      have HD := hid hD
      have hi0 : (0 : Int) ≤ (k : Int) := by omega
      have hi1 : (k : Int) < (m : Int) := by omega
      have HP1 := hid p1
      have HC2 : Hid (∀ w', Below wr.heap.size wr w' → w'.cell? (ad.add k) = some (.string u)) := fun w' hb => cell_below hb (Nat.lt_of_lt_of_le hag hbr.size) p1
      clear hu hcell hD hag
      rcases HU.out with hok | hno
      · rw [chk_ok hok] at hck
        have hul : u.size ≤ 40 := by have := (ok_parts hok).2.1; rw [len_eq] at this; exact this
        have HK2 : Hid (∀ j, j < k + 1 → okName (ls.getD j ByteArray.empty).data.toList = true) := by
          intro j hj
          rcases Nat.lt_or_ge j k with g | g
          · exact HK.out j g
          · obtain rfl : j = k := by omega
            rw [← HQ.out]; exact hok
        have HZ2 : Hid (z + (1 + u.size) = sizes ((datas ls).take (k + 1))) := by
          show _ = _
          rw [sizes_take HD.out, ← HZ.out, len_eq]
        clear hok HU
        go_wp2_with (go_at_call 13; refine (hck _).mono ?_; rintro e w5 ⟨rfl, hb5⟩; have p5 := HC2.out w5 hb5)
        exact ⟨⟨k + 1, z + (1 + u.size), by omega, by go_num, by go_num, by omega, btr hbr hb5 hbr.size, HZ2, HK2⟩, by simp [intOf]; omega⟩
      · rw [chk_bad hno] at hck
        have HR : Hid (joinR (datas ls) = ([], 71)) := by
          show _ = _
          unfold joinR
          rw [if_neg]
          rw [notall (k := k) (by have := HLen.out; omega) (by rw [← HQ.out]; exact hno)]
          simp
        clear hno HU
        go_wp2_with (go_at_call 13; refine (hck _).mono ?_; rintro e w5 ⟨rfl, hb5⟩)
        go_ret2
        exact ⟨⟨#[]⟩, by rw [HR.out] <;> rfl, by rw [HR.out] <;> rfl, btr hbr hb5 hbr.size⟩
    · obtain rfl : k = m := by omega
      have HALL : Hid ((datas ls).all okName = true) := by exact alls HLen.out HK.out (by omega)
      have HT : Hid (z = sizes (datas ls)) := by
        show _ = _
        rw [HZ.out, List.take_of_length_le (by rw [datas_len, HLen.out]; omega)]
      by_cases hbig : (400 : Int) < (z : Int)
      · have HR : Hid (joinR (datas ls) = ([], 70)) := by
          show _ = _
          unfold joinR
          rw [if_pos HALL.out, if_pos (by rw [← HT.out]; omega)]
        go_wp2_with fail
        go_ret2
        exact ⟨⟨#[]⟩, by rw [HR.out] <;> rfl, by rw [HR.out] <;> rfl, hbr⟩
      · have hs : sizes (datas ls) ≤ 400 := by rw [← HT.out]; omega
        have HR := hid (join_ok HALL.out hs)
        have HS := hid hs
        clear HZ HT hs HK
        by_cases h0 : k = 0
        · subst h0
          have HE : Hid (ls = []) := by exact List.length_eq_zero_iff.1 HLen.out
          go_wp2_with fail
          go_ret2
          exact ⟨⟨#[47]⟩, by rw [HR.out] <;> rfl, by rw [HR.out, HE.out] <;> rfl, hbr⟩
        · have h0' : ¬ ((k : Int) = 0) := by omega
          have HPO : Hid (pathOf (datas ls) = flat (datas ls)) := by
            show _ = _
            unfold pathOf flat
            rw [if_neg]
            intro e
            have := congrArg List.length e
            rw [datas_len, HLen.out] at this
            exact h0 this
          obtain ⟨wb, hwb⟩ : ∃ x, x = wr := ⟨_, rfl⟩
          rw [← hwb] at hbr ⊢
          clear hwb
          go_wp2_with fail
          clear hz hk hlt hbig
          go_loopw [6, 7] (fun o i wr => ∃ (j : Nat) (p : ByteArray), j ≤ k ∧ i = .int .i64 j ∧ o = .string p ∧ p.size ≤ 400 ∧ Below w.heap.size w wr ∧ Hid (p.data.toList = flat ((datas ls).take j))) (fun _ i _ => k - (intOf i).toNat)
          case atStart => exact ⟨0, ⟨#[]⟩, by omega, rfl, rfl, by decide, hbr, (by rfl : ([] : List UInt8) = flat [])⟩
          case round =>
            obtain ⟨j, p, hj, rfl, rfl, hps, hbr2, HP⟩ := hrel
            by_cases hjl : j < k
            · rcases HA.out with h1 | ⟨ad, rfl, hg, hcell⟩
              · have := HLen.out; rw [h1] at this; simp at this; omega
              have hag : (ad.add j).block < w.heap.size := by unfold Addr.add; split <;> exact hg
              have p1 : wr.cell? (ad.add j) = some (.string (ls.getD j ByteArray.empty)) := cell_below hbr2 hag (hcell j _ (getS (by have := HLen.out; omega)))
              have hD := datas_get (ls := ls) (k := j) (by have := HLen.out; omega)
              obtain ⟨u, hu⟩ : ∃ u, u = ls.getD j ByteArray.empty := ⟨_, rfl⟩
              rw [← hu] at p1 hD
              have hi0 : (0 : Int) ≤ (j : Int) := by omega
              have hi1 : (j : Int) < (k : Int) := by omega
              have HF : Hid (p.data.toList ++ 47 :: u.data.toList = flat ((datas ls).take (j + 1))) := by
                show _ = _
                rw [flat_take hD, HP.out]
              have hsz : p.size + 1 + u.size ≤ 400 := by
                have e1 := congrArg List.length HF.out
                rw [flat_len, List.length_append, List.length_cons, len_eq, len_eq] at e1
                have e2 := sizes_le (xs := datas ls) (j + 1)
                have := HS.out
                omega
              clear hu hcell hD hag
              go_wp2_with fail
              have ed : (p ++ { data := #[47] } ++ u).data.toList = p.data.toList ++ 47 :: u.data.toList := by simp
              have es : (p ++ { data := #[47] } ++ u).size ≤ 400 := by
                have e1 := congrArg List.length ed
                rw [len_eq, List.length_append, List.length_cons, len_eq, len_eq] at e1
                omega
              exact ⟨⟨j + 1, _, by omega, by go_num, rfl, es, hbr2, by show _ = _; rw [ed]; exact HF.out⟩, by simp [intOf]; omega⟩
            · obtain rfl : j = k := by omega
              have HF : Hid (p.data.toList = pathOf (datas ls)) := by
                show _ = _
                rw [HPO.out, HP.out, List.take_of_length_le (by rw [datas_len, HLen.out]; omega)]
              go_wp2_with fail
              go_ret2
              exact ⟨_, by rw [HR.out] <;> rfl, by rw [HR.out] <;> exact HF.out, hbr2⟩

end Go.Proofs.YtfkmpbbemkkdaaaDoor
