/-
  The calls of package bits: what they answer, for every input.
-/
import Derived.Test.YtdddcllakjeplaaBits0
import Derived.RegionTactic
import Derived.BigRegion
import Derived.Deep.CutRange
import Derived.Deep.DeepCutAuto
namespace Go.Proofs.Ytdddcllakjeplaa
open Go.RowKit

set_option maxHeartbeats 400000 in
theorem len_any {p g : Nat} {L : List Bool} (w : World) (h : IsB w p g L) : Calls Try.prog 41 #[.pointer (some ⟨p, 0, none⟩)] w fun e w' => e = .returned (.int .i64 L.length) ∧ w = w' := by
  have h0 := h.c0
  go_enter Try.func41, Try.ntmps41
  go_wp2
  go_ret
  exact ⟨rfl, rfl⟩

set_option maxHeartbeats 400000 in
theorem isPlace_any {p g : Nat} {L : List Bool} (i : Int) (w : World) (h : IsB w p g L) : Calls Try.prog 40 #[.pointer (some ⟨p, 0, none⟩), .int .i64 i] w fun e w' => e = .returned (.bool (placeB L i)) ∧ w = w' := by
  have h0 := h.c0
  by_cases h1 : 0 ≤ i
  · by_cases h2 : i < L.length
    · have HE : Hid (placeB L i = true) := decide_eq_true ⟨h1, h2⟩
      go_enter Try.func40, Try.ntmps40
      go_wp2
      go_ret
      exact ⟨ret_bool HE.out.symm, rfl⟩
    · have HE : Hid (placeB L i = false) := decide_eq_false (fun e => h2 e.2)
      go_enter Try.func40, Try.ntmps40
      go_wp2
      go_ret
      exact ⟨ret_bool HE.out.symm, rfl⟩
  · have HE : Hid (placeB L i = false) := decide_eq_false (fun e => h1 e.1)
    go_enter Try.func40, Try.ntmps40
    go_wp2
    go_ret
    exact ⟨ret_bool HE.out.symm, rfl⟩

set_option maxHeartbeats 400000 in
theorem has_any {p g : Nat} {L : List Bool} (i : Int) (w : World) (h : IsB w p g L) : Calls Try.prog 33 #[.pointer (some ⟨p, 0, none⟩), .int .i64 i] w fun e w' => e = .returned (.bool (hasL L i)) ∧ w = w' := by
  have h1 := h.c1
  have HP := hid fun w h => isPlace_any (p := p) (g := g) (L := L) i w h
  have HB := hid h
  by_cases hi : 0 ≤ i ∧ i < L.length
  · rw [show placeB L i = true from decide_eq_true hi] at HP
    obtain ⟨W, hW, hl, hx, hb⟩ := h.words
    obtain ⟨I, rfl⟩ := Int.eq_ofNat_of_zero_le hi.1
    have hq : I / 64 < nb L.length := by unfold nb; omega
    have hc : w.cell? ⟨g, I / 64, none⟩ = some (.int .u64 (W.getD (I / 64) 0 : Nat)) := by rw [cell_of_row _ _ _ _ _ _ hW, UA_get W _ (by omega)]
    have hbit := hb I (by omega)
    unfold bitW at hbit
    have hlt := hx
    have ht := h.top
    have hw1 : wrap64 ((I : Int) / 64) = ((I / 64 : Nat) : Int) := by rw [IntWalk.wrap64_in _ (by omega)]; omega
    have hw2 : wrap64 ((I : Int) % 64) = ((I % 64 : Nat) : Int) := by rw [IntWalk.wrap64_in _ (by omega)]; omega
    have hR : I % 64 < 64 := Nat.mod_lt _ (by decide)
    clear ht hi
    have hX : W.getD (I / 64) 0 < 18446744073709551616 := by
      have hlt : I / 64 < W.length := by omega
      rw [List.getD_eq_getElem?_getD, List.getElem?_eq_getElem hlt]
      exact hx _ (List.getElem_mem hlt)
    generalize W.getD (I / 64) 0 = X at *
    have HE : Hid (hasL L (I : Int) = (bits .and .u64 ((X : Int) / 2 ^ (I % 64)) 1 == 1)) := by
      show _ = _
      rw [tb_and X _ hX, hbit, hasL_nat]
    generalize nb L.length = M at *
    generalize I / 64 = Q at *
    clear hb hx hbit hX
    go_enter Try.func33, Try.ntmps33
    go_wp2_with (go_at_call 40; refine (HP.out _ HB.out).mono ?_; rintro e w1 ⟨rfl, rfl⟩)
    go_ret
    exact ⟨ret_bool HE.out.symm, rfl⟩
  · rw [show placeB L i = false from decide_eq_false hi] at HP
    have HE := hid (hasL_out L i hi)
    go_enter Try.func33, Try.ntmps33
    go_wp2_with (go_at_call 40; refine (HP.out _ HB.out).mono ?_; rintro e w1 ⟨rfl, rfl⟩)
    go_ret
    exact ⟨ret_bool HE.out.symm, rfl⟩

set_option maxHeartbeats 1000000 in
theorem set_in {p g : Nat} {L : List Bool} (I : Nat) (w : World) (h : IsB w p g L) (hi : I < L.length) : Calls Try.prog 29 #[.pointer (some ⟨p, 0, none⟩), .int .i64 (I : Int)] w fun e w' => e = .returned (.int .i64 0) ∧ IsB w' p g (L.set I true) ∧ Chg w w' (· = g) := by
  have h1 := h.c1
  have HP := hid fun w h => isPlace_any (p := p) (g := g) (L := L) I w h
  have HB := hid h
  rw [show placeB L I = true from decide_eq_true ⟨by omega, by omega⟩] at HP
  obtain ⟨W, hW, hl, hx, hb⟩ := h.words
  have hq : I / 64 < nb L.length := by unfold nb; omega
  have hc : w.cell? ⟨g, I / 64, none⟩ = some (.int .u64 (W.getD (I / 64) 0 : Nat)) := by rw [cell_of_row _ _ _ _ _ _ hW, UA_get W _ (by omega)]
  have ht := h.top
  have hR : I % 64 < 64 := Nat.mod_lt _ (by decide)
  have hw1 : wrap64 ((I : Int) / 64) = ((I / 64 : Nat) : Int) := by rw [IntWalk.wrap64_in _ (by omega)]; omega
  have hf := frozen_of_row w g (I / 64) _ _ hW
  have hX : W.getD (I / 64) 0 < 18446744073709551616 := by
    have hlt : I / 64 < W.length := by omega
    rw [List.getD_eq_getElem?_getD, List.getElem?_eq_getElem hlt]
    exact hx _ (List.getElem_mem hlt)
  have HE := hid (orW (W.getD (I / 64) 0) (I % 64) hX hR)
  have HN := hid (h.put I true W hW hl hx hb hi (fun x => x ||| 2 ^ (I % 64)) (fun x k hk => or_bit x _ k) (fun x hx => or_lt x _ hR hx))
  generalize nb L.length = M at *
  generalize W.getD (I / 64) 0 = X at *
  generalize I / 64 = Q at *
  clear hb hx ht hi hW hl hX
  go_enter Try.func29, Try.ntmps29
  go_wp2_with (go_at_call 40; refine (HP.out _ HB.out).mono ?_; rintro e w1 ⟨rfl, rfl⟩)
  go_region
  go_wp2
  go_ret
  refine ⟨rfl, ?_, Chg.setCell.drew⟩
  rw [HE.out]
  exact HN.out.drew
set_option maxHeartbeats 400000 in
theorem set_out {p g : Nat} {L : List Bool} (i : Int) (w : World) (h : IsB w p g L) (hi : ¬ (0 ≤ i ∧ i < L.length)) : Calls Try.prog 29 #[.pointer (some ⟨p, 0, none⟩), .int .i64 i] w fun e w' => e = .returned (.int .i64 51) ∧ w = w' := by
  have HP := hid fun w h => isPlace_any (p := p) (g := g) (L := L) i w h
  have HB := hid h
  rw [show placeB L i = false from decide_eq_false hi] at HP
  clear hi
  go_enter Try.func29, Try.ntmps29
  go_wp2_with (go_at_call 40; refine (HP.out _ HB.out).mono ?_; rintro e w1 ⟨rfl, rfl⟩)
  go_ret
  exact ⟨rfl, rfl⟩
theorem set_any {p g : Nat} {L : List Bool} (i : Int) (w : World) (h : IsB w p g L) : Calls Try.prog 29 #[.pointer (some ⟨p, 0, none⟩), .int .i64 i] w fun e w' => e = .returned (.int .i64 (putE L i)) ∧ IsB w' p g (putL L i true) ∧ Chg w w' (· = g) := by
  by_cases hi : 0 ≤ i ∧ i < L.length
  · obtain ⟨I, rfl⟩ := Int.eq_ofNat_of_zero_le hi.1
    rw [show putE L I = 0 from if_pos hi, putL_in]
    exact set_in I w h (by omega)
  · rw [show putE L i = 51 from if_neg hi, putL_out L i _ hi]
    refine (set_out i w h hi).mono ?_
    rintro e w' ⟨rfl, rfl⟩
    exact ⟨rfl, h, Chg.refl _ _⟩

set_option maxHeartbeats 1000000 in
theorem clear_in {p g : Nat} {L : List Bool} (I : Nat) (w : World) (h : IsB w p g L) (hi : I < L.length) : Calls Try.prog 36 #[.pointer (some ⟨p, 0, none⟩), .int .i64 (I : Int)] w fun e w' => e = .returned (.int .i64 0) ∧ IsB w' p g (L.set I false) ∧ Chg w w' (· = g) := by
  have h1 := h.c1
  have HP := hid fun w h => isPlace_any (p := p) (g := g) (L := L) I w h
  have HB := hid h
  rw [show placeB L I = true from decide_eq_true ⟨by omega, by omega⟩] at HP
  obtain ⟨W, hW, hl, hx, hb⟩ := h.words
  have hq : I / 64 < nb L.length := by unfold nb; omega
  have hc : w.cell? ⟨g, I / 64, none⟩ = some (.int .u64 (W.getD (I / 64) 0 : Nat)) := by rw [cell_of_row _ _ _ _ _ _ hW, UA_get W _ (by omega)]
  have ht := h.top
  have hR : I % 64 < 64 := Nat.mod_lt _ (by decide)
  have hw1 : wrap64 ((I : Int) / 64) = ((I / 64 : Nat) : Int) := by rw [IntWalk.wrap64_in _ (by omega)]; omega
  have hf := frozen_of_row w g (I / 64) _ _ hW
  have hX : W.getD (I / 64) 0 < 18446744073709551616 := by
    have hlt : I / 64 < W.length := by omega
    rw [List.getD_eq_getElem?_getD, List.getElem?_eq_getElem hlt]
    exact hx _ (List.getElem_mem hlt)
  have HE := hid (notW (W.getD (I / 64) 0) (I % 64) hX hR)
  have HN := hid (h.put I false W hW hl hx hb hi (fun x => x &&& (18446744073709551615 - 2 ^ (I % 64))) (fun x k hk => not_bit x _ k hR hk) (fun x hx => not_lt x _ hx))
  generalize nb L.length = M at *
  generalize W.getD (I / 64) 0 = X at *
  generalize I / 64 = Q at *
  clear hb hx ht hi hW hl hX
  go_enter Try.func36, Try.ntmps36
  go_wp2_with (go_at_call 40; refine (HP.out _ HB.out).mono ?_; rintro e w1 ⟨rfl, rfl⟩)
  go_region
  go_wp2
  go_ret
  refine ⟨rfl, ?_, Chg.setCell.drew⟩
  rw [HE.out]
  exact HN.out.drew
set_option maxHeartbeats 400000 in
theorem clear_out {p g : Nat} {L : List Bool} (i : Int) (w : World) (h : IsB w p g L) (hi : ¬ (0 ≤ i ∧ i < L.length)) : Calls Try.prog 36 #[.pointer (some ⟨p, 0, none⟩), .int .i64 i] w fun e w' => e = .returned (.int .i64 51) ∧ w = w' := by
  have HP := hid fun w h => isPlace_any (p := p) (g := g) (L := L) i w h
  have HB := hid h
  rw [show placeB L i = false from decide_eq_false hi] at HP
  clear hi
  go_enter Try.func36, Try.ntmps36
  go_wp2_with (go_at_call 40; refine (HP.out _ HB.out).mono ?_; rintro e w1 ⟨rfl, rfl⟩)
  go_ret
  exact ⟨rfl, rfl⟩
theorem clear_any {p g : Nat} {L : List Bool} (i : Int) (w : World) (h : IsB w p g L) : Calls Try.prog 36 #[.pointer (some ⟨p, 0, none⟩), .int .i64 i] w fun e w' => e = .returned (.int .i64 (putE L i)) ∧ IsB w' p g (putL L i false) ∧ Chg w w' (· = g) := by
  by_cases hi : 0 ≤ i ∧ i < L.length
  · obtain ⟨I, rfl⟩ := Int.eq_ofNat_of_zero_le hi.1
    rw [show putE L I = 0 from if_pos hi, putL_in]
    exact clear_in I w h (by omega)
  · rw [show putE L i = 51 from if_neg hi, putL_out L i _ hi]
    refine (clear_out i w h hi).mono ?_
    rintro e w' ⟨rfl, rfl⟩
    exact ⟨rfl, h, Chg.refl _ _⟩

set_option maxHeartbeats 1000000 in
theorem count_any {p g : Nat} {L : List Bool} (w : World) (h : IsB w p g L) : Calls Try.prog 42 #[.pointer (some ⟨p, 0, none⟩)] w fun e w' => e = .returned (.int .i64 (L.count true : Nat)) ∧ w = w' := by
  have h0 := h.c0
  have HB := hid h
  have ht := h.top
  have HL : Hid (L.count true = cntL L L.length) := by show _ = _; rw [cntL, List.take_length]
  go_enter Try.func42, Try.ntmps42
  go_wp2
  go_loop [3, 9] (fun c i => ∃ k m : Nat, k ≤ L.length ∧ i = .int .i64 k ∧ c = .int .i64 m ∧ m ≤ k ∧ Hid (m = cntL L k)) (fun _ i => L.length - (intOf i).toNat)
  case atStart => exact ⟨0, 0, by omega, rfl, rfl, by omega, hid (by simp [cntL])⟩
  case round =>
    obtain ⟨k, m, hk, rfl, rfl, hm, HM⟩ := hrel
    by_cases hlt : k < L.length
    · have HS := hid (cntL_succ L k hlt)
      have hkl : (k : Int) < (L.length : Int) := by omega
      have HH := hid fun w h => has_any (p := p) (g := g) (L := L) k w h
      cases hh : hasL L (k : Int)
      · rw [hh] at HH HS
        go_wp2_with (go_at_call 33; refine (HH.out _ HB.out).mono ?_; rintro e w1 ⟨rfl, rfl⟩)
        exact ⟨⟨k + 1, m, by omega, by go_num, rfl, by omega, hid (by rw [HS.out, HM.out]; rfl)⟩, by simp [intOf]; omega⟩
      · rw [hh] at HH HS
        go_wp2_with (go_at_call 33; refine (HH.out _ HB.out).mono ?_; rintro e w1 ⟨rfl, rfl⟩)
        exact ⟨⟨k + 1, m + 1, by omega, by go_num, by go_num, by omega, hid (by rw [HS.out, HM.out]; rfl)⟩, by simp [intOf]; omega⟩
    · have e : k = L.length := by omega
      have HF : Hid ((L.count true : Nat) = m) := by show _ = _; rw [HL.out, HM.out, e]
      clear hk e
      go_wp2
      go_ret
      exact ⟨ret_int (by rw [HF.out]), rfl⟩

end Go.Proofs.Ytdddcllakjeplaa
