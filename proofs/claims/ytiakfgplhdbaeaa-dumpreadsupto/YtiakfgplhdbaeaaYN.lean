/-
  The document's number and text.
-/
import Derived.Test.YtiakfgplhdbaeaaXR
namespace Go.Proofs.Ytiakfgplhdbaeaa
open Go.RowKit

def rnumZ (k : Nat) (zs : List Int) : Option Int := if zs.length < k ∨ 1099511627776 < valB (zs.take k) / 256 then none else some (valB (zs.take k))
theorem val_split : ∀ (l : List Int) (j : Nat), j ≤ l.length → valB l = valB (l.take j) + 256 ^ j * valB (l.drop j)
  | l, 0, _ => by simp [valB]
  | [], j + 1, h => by simp at h
  | y :: l, j + 1, h => by
    have := val_split l j (by simpa using h)
    show y + 256 * valB l = y + 256 * valB (l.take j) + 256 ^ (j + 1) * valB (l.drop j)
    rw [this, Int.pow_succ, Int.mul_add, Int.mul_comm (256 ^ j) 256, Int.mul_assoc, Int.add_assoc]
theorem val_part {l : List Int} (h : okB l) {j : Nat} (hj : 1 ≤ j) (hl : j ≤ l.length) : valB (l.drop j) ≤ valB l / 256 := by
  have h1 := val_split l j hl
  have h2 := (val_rng (l.take j) (h.take j)).1
  have h3 := (val_rng (l.drop j) (h.drop j)).1
  have hp : (256 : Int) ≤ 256 ^ j := by
    obtain ⟨i, rfl⟩ : ∃ i, j = i + 1 := ⟨j - 1, by omega⟩
    rw [Int.pow_succ]
    have : (0 : Int) < 256 ^ i := Int.pow_pos (by decide)
    omega
  have h4 : 256 * valB (l.drop j) ≤ 256 ^ j * valB (l.drop j) := Int.mul_le_mul_of_nonneg_right hp h3
  omega
theorem val_head {l : List Int} (h : okB l) (hl : 1 ≤ l.length) : valB l / 256 = valB (l.drop 1) := by
  cases l with
  | nil => simp at hl
  | cons y l =>
    have := h y (List.mem_cons_self ..)
    show (y + 256 * valB l) / 256 = valB l
    omega
theorem val_cons {l : List Int} {j : Nat} (h : j < l.length) : valB (l.drop j) = 256 * valB (l.drop (j + 1)) + l.getD j 0 := by
  rw [List.drop_eq_getElem_cons h, List.getD_eq_getElem?_getD, List.getElem?_eq_getElem h]
  show l[j] + 256 * valB _ = _
  simp only [Option.getD_some]
  omega
set_option maxHeartbeats 2000000 in
set_option maxRecDepth 100000 in
theorem rnumber_any {a : Option Addr} {cap : Nat} {zs : List Int} (at_ k : Nat) (w : World) (h : BytesAt w a zs) (hr : okB zs) (hl : zs.length ≤ 4000000) (ha : at_ ≤ 8000000) (hk : 1 ≤ k) (hk8 : k ≤ 8) :
    Calls Try.prog 32 #[.slice a zs.length cap, .int .i64 (at_ : Int), .int .i64 (k : Int)] w fun e w' => w' = w ∧ ((rnumZ k (zs.drop at_) = none ∧ e = .returned (.tuple #[.int .i64 0, .bool false])) ∨ ∃ v, rnumZ k (zs.drop at_) = some v ∧ e = .returned (.tuple #[.int .i64 v, .bool true])) := by
  obtain ⟨n, hn⟩ : ∃ y, y = zs.length := ⟨_, rfl⟩
  rw [← hn] at hl ⊢
  obtain ⟨ys, hys⟩ : ∃ y, y = (zs.drop at_).take k := ⟨_, rfl⟩
  have hyl : at_ + k ≤ n → ys.length = k := fun e => by rw [hys, List.length_take, List.length_drop, ← hn]; omega
  have hyo : okB ys := by rw [hys]; exact (hr.drop _).take _
  have HZ : Hid (rnumZ k (zs.drop at_) = if n < at_ + k ∨ 1099511627776 < valB ys / 256 then none else some (valB ys)) := hid (by
    unfold rnumZ
    rw [← hys, List.length_drop, ← hn]
    by_cases e : n < at_ + k
    · rw [if_pos (.inl (by omega)), if_pos (.inl e)]
    · by_cases e2 : 1099511627776 < valB ys / 256
      · rw [if_pos (.inr e2), if_pos (.inr e2)]
      · rw [if_neg (by omega), if_neg (by omega)])
  have HG : Hid (∀ j, j < k → at_ + k ≤ n → ∃ b o, a = some ⟨b, o, none⟩ ∧ w.cell? ⟨b, o + (at_ + j), none⟩ = some (.int .u8 (ys.getD j 0))) := hid (fun j hj e => by
    rcases h with e1 | ⟨b, o, rfl, hb, hc⟩
    · rw [e1] at hn; simp at hn; omega
    · refine ⟨b, o, rfl, ?_⟩
      rw [hc (at_ + j) (by omega), hys]
      congr 2
      rw [List.getD_eq_getElem?_getD, List.getD_eq_getElem?_getD, List.getElem?_take, if_pos hj, List.getElem?_drop])
  have HYL := hid hyl
  have HYO := hid hyo
  obtain ⟨R, hR⟩ : ∃ y, y = rnumZ k (zs.drop at_) := ⟨_, rfl⟩
  rw [← hR] at HZ ⊢
  clear h hr hn hys hyl hyo hR
  by_cases hlt : n < at_ + k
  · have f1 : (n : Int) < (at_ : Int) + (k : Int) := by omega
    have HR : Hid (R = none) := hid (by rw [HZ.out, if_pos (.inl hlt)])
    clear HZ
    go_enter Try.func32, Try.ntmps32
    go_wp2_with fail
    go_ret2
    exact ⟨rfl, .inl ⟨HR.out, rfl⟩⟩
  · have f1 : ¬ (n : Int) < (at_ : Int) + (k : Int) := by omega
    go_enter Try.func32, Try.ntmps32
    go_wp2_with fail
    go_loopw [8, 9] (fun x8 x9 wr => ∃ (j : Nat) (u : Int), x9 = .int .i64 ((j : Int) - 1) ∧ x8 = .int .i64 u ∧ j ≤ k ∧ Hid (u = valB (ys.drop j)) ∧ Hid (j < k → valB (ys.drop (j + 1)) ≤ 1099511627776) ∧ wr = w) (fun _ x9 _ => (intOf x9 + 1).toNat)
    case atStart => exact ⟨k, 0, by go_num, rfl, Nat.le_refl _, hid (by rw [List.drop_eq_nil_of_le (by rw [HYL.out (by omega)]; exact Nat.le_refl _)]; rfl), hid (fun e => absurd e (Nat.lt_irrefl _)), rfl⟩
    case round =>
      obtain ⟨j, u, rfl, rfl, hj, HU, HV, hwr⟩ := hrel
      subst hwr
      by_cases e : j = 0
      · subst e
        have HR : Hid (R = some u) := hid (by
          have h1 : valB (ys.drop 1) ≤ 1099511627776 := HV.out (by omega)
          have h2 := val_head HYO.out (by rw [HYL.out (by omega)]; exact hk)
          rw [HZ.out, if_neg (by rw [h2]; omega), HU.out, List.drop_zero])
        clear HZ
        go_wp2_with fail
        go_ret2
        exact ⟨rfl, .inr ⟨u, HR.out, rfl⟩⟩
      · have j0 : ¬ (j : Int) - 1 < 0 := by omega
        have hjl : j ≤ ys.length := by rw [HYL.out (by omega)]; exact hj
        have hu0 : 0 ≤ u := by rw [HU.out]; exact (val_rng _ (HYO.out.drop j)).1
        by_cases hb : 1099511627776 < u
        · have HR : Hid (R = none) := hid (by
            have := val_part HYO.out (j := j) (by omega) hjl
            rw [← HU.out] at this
            rw [HZ.out, if_pos (.inr (by omega))])
          clear HZ hjl
          go_wp2_with fail
          go_ret2
          exact ⟨rfl, .inl ⟨HR.out, rfl⟩⟩
        · obtain ⟨i, rfl⟩ : ∃ i, j = i + 1 := ⟨j - 1, by omega⟩
          obtain ⟨b, o, rfl, hc⟩ := HG.out i (by omega) (by omega)
          have hy := HYO.out
          have hin : ys.getD i 0 ∈ ys := by rw [List.getD_eq_getElem?_getD, List.getElem?_eq_getElem (by omega)]; exact List.getElem_mem _
          have hyr := hy _ hin
          have HW : Hid (valB (ys.drop i) = 256 * u + ys.getD i 0) := hid (by rw [HU.out]; exact val_cons (by omega))
          obtain ⟨y, hyy⟩ : ∃ y, y = ys.getD i 0 := ⟨_, rfl⟩
          rw [← hyy] at hc hyr HW
          have e1 : ((i + 1 : Nat) : Int) - 1 = (i : Int) := by omega
          have f2 : (0 : Int) ≤ (at_ : Int) + (i : Int) := by omega
          have f3 : (at_ : Int) + (i : Int) < (n : Int) := by omega
          have f4 : ((at_ : Int) + (i : Int)).toNat = at_ + i := by omega
          have wy : wrap64 y = y := w64 y ⟨by omega, by omega⟩
          have wu : wrap64 (256 * u) = 256 * u := w64 _ ⟨by omega, by omega⟩
          have wz : wrap64 (256 * u + y) = 256 * u + y := w64 _ ⟨by omega, by omega⟩
          rw [e1]
          clear e1 hin hy hyy hjl
          go_wp2_with fail
          exact ⟨⟨i, 256 * u + y, by go_num, by simp [*], by omega, hid HW.out.symm, hid (fun _ => by have := HU.out; omega), trivial⟩, by simp [intOf]⟩
theorem txt_num {most : Int} {zs : List Int} (h : okB zs) : (rnumZ 4 zs = none → txtZ most zs = none) ∧ ∀ v, rnumZ 4 zs = some v → 0 ≤ v ∧ v < 4294967296 ∧ 4 ≤ zs.length ∧ txtZ most zs = if most < v ∨ ((zs.drop 4).length : Int) < v then none else some ((zs.drop 4).take v.toNat, (zs.drop 4).drop v.toNat) := by
  unfold rnumZ txtZ
  by_cases hl : zs.length < 4
  · rw [if_pos (.inl hl), if_pos hl]
    exact ⟨fun _ => rfl, fun v e => (by cases e)⟩
  · have hv := val4 h (by omega)
    rw [if_neg (by omega), if_neg hl]
    refine ⟨fun e => (by cases e), fun v e => ?_⟩
    cases e
    exact ⟨hv.1, hv.2, by omega, rfl⟩
set_option maxHeartbeats 2000000 in
set_option maxRecDepth 100000 in
theorem rtext_any {a : Option Addr} {cap : Nat} {zs : List Int} (at_ most : Nat) (w : World) (h : BytesAt w a zs) (hr : okB zs) (hl : zs.length ≤ 4000000) (hcp : zs.length ≤ cap) (ha : at_ ≤ 8000000) (hm : most ≤ 4000000) :
    Calls Try.prog 33 #[.slice a zs.length cap, .int .i64 (at_ : Int), .int .i64 (most : Int)] w fun e w' => w' = w ∧ ((txtZ most (zs.drop at_) = none ∧ e = .returned (.tuple #[.string ⟨#[]⟩, .int .i64 0, .bool false])) ∨ ∃ p r, txtZ most (zs.drop at_) = some (p, r) ∧ r = zs.drop (at_ + 4 + p.length) ∧ at_ + 4 + p.length ≤ zs.length ∧ e = .returned (.tuple #[.string (strOf p), .int .i64 ((at_ + 4 + p.length : Nat) : Int), .bool true])) := by
  have hN := rnumber_any (cap := cap) at_ 4 w h hr hl ha (by decide) (by decide)
  have hT := txt_num (most := (most : Int)) (hr.drop at_)
  obtain ⟨n, hn⟩ : ∃ y, y = zs.length := ⟨_, rfl⟩
  rw [← hn] at hl hcp hN ⊢
  have HAt := hid h
  have HN := hid hn
  cases hx : rnumZ 4 (zs.drop at_) with
  | none =>
    have HT := hid (hT.1 hx)
    have hN : Calls Try.prog 32 #[.slice a n cap, .int .i64 (at_ : Int), .int .i64 4] w fun e w' => e = .returned (.tuple #[.int .i64 0, .bool false]) ∧ w' = w := hN.mono (by
      rintro e w' ⟨h1, ⟨_, h2⟩ | ⟨v, h2, _⟩⟩
      · exact ⟨h2, h1⟩
      · rw [hx] at h2; cases h2)
    clear h hr hn hT hx
    go_enter Try.func33, Try.ntmps33
    go_wp2_with (first
      | (go_at_call 32; go_must (refine hN.mono ?_; rintro e w1 ⟨rfl, rfl⟩))
      | fail)
    go_ret3
    exact ⟨rfl, .inl ⟨HT.out, rfl⟩⟩
  | some v =>
    obtain ⟨v0, v1, hl4, ht⟩ := hT.2 v hx
    have HT := hid ht
    have hN : Calls Try.prog 32 #[.slice a n cap, .int .i64 (at_ : Int), .int .i64 4] w fun e w' => e = .returned (.tuple #[.int .i64 v, .bool true]) ∧ w' = w := hN.mono (by
      rintro e w' ⟨h1, ⟨h2, _⟩ | ⟨v', h2, h3⟩⟩
      · rw [hx] at h2; cases h2
      · rw [hx] at h2; cases h2; exact ⟨h3, h1⟩)
    rw [List.length_drop, ← hn] at hl4
    have hd : ((zs.drop at_).drop 4).length = n - (at_ + 4) := by rw [List.drop_drop, List.length_drop, ← hn]
    rw [hd] at HT
    clear h hr hn hT hx ht hd
    by_cases c1 : (most : Int) < v
    · have HT2 : Hid (txtZ most (zs.drop at_) = none) := hid (by rw [HT.out, if_pos (.inl c1)])
      clear HT
      go_enter Try.func33, Try.ntmps33
      go_wp2_with (first
        | (go_at_call 32; go_must (refine hN.mono ?_; rintro e w1 ⟨rfl, rfl⟩))
        | fail)
      go_ret3
      exact ⟨rfl, .inl ⟨HT2.out, rfl⟩⟩
    · by_cases c2 : (n : Int) < (at_ : Int) + 4 + v
      · have HT2 : Hid (txtZ most (zs.drop at_) = none) := hid (by rw [HT.out, if_pos (.inr (by omega))])
        clear HT
        go_enter Try.func33, Try.ntmps33
        go_wp2_with (first
          | (go_at_call 32; go_must (refine hN.mono ?_; rintro e w1 ⟨rfl, rfl⟩))
          | fail)
        go_ret3
        exact ⟨rfl, .inl ⟨HT2.out, rfl⟩⟩
      · obtain ⟨q, rfl⟩ := Int.eq_ofNat_of_zero_le v0
        obtain ⟨p, hp⟩ : ∃ p, p = (zs.drop (at_ + 4)).take q := ⟨_, rfl⟩
        have hpl : p.length = q := by rw [hp, List.length_take, List.length_drop, ← HN.out]; omega
        have HT2 : Hid (txtZ most (zs.drop at_) = some (p, zs.drop (at_ + 4 + q))) := hid (by rw [HT.out, if_neg (by omega), List.drop_drop, List.drop_drop, hp, Int.toNat_natCast])
        have HP := hid hpl
        obtain ⟨b, o, ea, hbt⟩ : ∃ b o, a = some ⟨b, o, none⟩ ∧ BytesAt w (some ⟨b, o + (at_ + 4), none⟩) p := by
          rcases HAt.out with e1 | ⟨b, o, rfl, hb, hc⟩
          · have := HN.out; rw [e1] at this; simp at this; omega
          · refine ⟨b, o, rfl, .inr ⟨b, _, rfl, hb, fun j hj => ?_⟩⟩
            rw [hpl] at hj
            rw [Nat.add_assoc, hc (at_ + 4 + j) (by rw [← HN.out]; omega), hp]
            congr 2
            rw [List.getD_eq_getElem?_getD, List.getD_eq_getElem?_getD, List.getElem?_take, if_pos hj, List.getElem?_drop]
        subst ea
        have HCv : Hid (∀ c a', (q = 0 ∨ a' = some ⟨b, o + (at_ + 4), none⟩) → (convert 29 9 (.slice a' q c)).run Try.prog w = .ok (.string (strOf p)) w) := hid (fun c a' e => by
          rcases e with e | rfl
          · have e2 : p = [] := List.eq_nil_of_length_eq_zero (by omega)
            have := conv_at (w := w) (a := a') (l := p) (.inl e2) c
            rw [hpl] at this
            exact this
          · have := conv_at hbt c
            rw [hpl] at this
            exact this)
        have f1 : (0 : Int) ≤ (at_ : Int) + 4 := by omega
        have f2 : (at_ : Int) + 4 ≤ (at_ : Int) + 4 + (q : Int) := by omega
        have f3 : (at_ : Int) + 4 + (q : Int) ≤ (cap : Int) := by omega
        have c3 : (at_ : Int) + 4 + (q : Int) ≤ (n : Int) := by omega
        have HHE : Hid (at_ + 4 + q ≤ n) := hid (by omega)
        clear HT hp hpl hbt
        by_cases hce : cap = at_ + 4
        · obtain rfl : q = 0 := by omega
          have HCv0 := hid (HCv.out 0 (some ⟨b, o, none⟩) (.inl rfl))
          subst hce
          go_enter Try.func33, Try.ntmps33
          go_wp2_with (first
            | (go_at_call 32; go_must (refine hN.mono ?_; rintro e w1 ⟨rfl, rfl⟩))
            | (refine conv_G (by rfl) 29 9 _ rfl _ _ _ rfl HCv0.out ?_)
            | fail)
          go_ret3
          exact ⟨rfl, .inr ⟨p, _, HT2.out, by rw [HP.out], by rw [HP.out]; exact HHE.out, by rw [HP.out]; rfl⟩⟩
        · have HNm : Hid (((at_ + 4 + q : Nat) : Int) = (at_ : Int) + 4 + (q : Int)) := hid (by omega)
          have HCv2 : Hid ((convert 29 9 (.slice (some ⟨b, o + (at_ + 4), none⟩) (at_ + 4 + q - (at_ + 4)) (cap - (at_ + 4)))).run Try.prog w = .ok (.string (strOf p)) w) := hid (by rw [Nat.add_sub_cancel_left]; exact HCv.out _ _ (.inr rfl))
          have hqb : (q : Int) ≤ 4000000 := by omega
          clear v0 v1
          go_enter Try.func33, Try.ntmps33
          go_wp2_with (first
            | (go_at_call 32; go_must (refine hN.mono ?_; rintro e w1 ⟨rfl, rfl⟩))
            | (refine conv_G (by rfl) 29 9 _ rfl _ _ _ rfl HCv2.out ?_)
            | fail)
          go_ret3
          refine ⟨rfl, .inr ⟨p, zs.drop (at_ + 4 + q), HT2.out, ?_, ?_, ?_⟩⟩
          · rw [HP.out]
          · rw [HP.out]; exact HHE.out
          · rw [HP.out, HNm.out]; rfl
end Go.Proofs.Ytiakfgplhdbaeaa
