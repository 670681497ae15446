/-
  package plain: is there room?
-/
import Derived.Test.YtbkddnibcpjkgaaDoorPE
namespace Go.Proofs.YtbkddnibcpjkgaaDoor
open Go.RowKit

/-- What is counted of a node with some blocks more. -/
def TalQ (x : Nd) (a b : Nat) (i : Nat) : Prop := TalP x i ∨ ∃ k, a ≤ k ∧ k < b ∧ i ∈ numsOf k
open Classical in
noncomputable def cardQ (x : Nd) (a b : Nat) : Nat := cardT (fun i => decide (TalQ x a b i))
open Classical in
theorem cardQ_of {x : Nd} {a b : Nat} {F : Nat → Bool} (h : ∀ i, F i = true ↔ TalQ x a b i) : cardT F = cardQ x a b := by
  have : F = fun i => decide (TalQ x a b i) := by
    funext i
    cases hf : F i with
    | true => exact (decide_eq_true ((h i).1 hf)).symm
    | false => exact (decide_eq_false (fun e => by rw [(h i).2 e] at hf; cases hf)).symm
  unfold cardQ
  rw [this]
theorem TalQ_succ (x : Nd) (a j i : Nat) (h : a ≤ j) : TalQ x a (j + 1) i ↔ TalQ x a j i ∨ i ∈ numsOf j := by
  unfold TalQ
  rw [or_assoc]
  refine or_congr Iff.rfl ⟨?_, ?_⟩
  · rintro ⟨k, k1, k2, k3⟩
    by_cases e : k = j
    · exact .inr (e ▸ k3)
    · exact .inl ⟨k, k1, by omega, k3⟩
  · rintro (⟨k, k1, k2, k3⟩ | k3)
    · exact ⟨k, k1, by omega, k3⟩
    · exact ⟨j, h, by omega, k3⟩
/-- May these blocks of a node be there, too? -/
noncomputable def roomB (s : PSt) (x : Nd) (a b : Nat) : Bool := decide ((takenN s : Int) - (cardN x : Int) + (cardQ x a b : Int) ≤ s.data)

set_option maxHeartbeats 2000000 in
set_option maxRecDepth 100000 in
theorem hasRoom_any {q : PC} {s : PSt} {c : NC} {x : Nd} (a b : Nat) (w : World) (h : IsPl w q s) (hx : IsN w c x) (hab : a ≤ b + 1) (hb : b < 1068) :
    Calls Tryd.prog 46 #[.pointer (some ⟨q.p, 0, none⟩), .pointer (some ⟨c.p, 0, none⟩), .int .i64 (a : Int), .int .i64 (b : Int)] w fun e w' => e = .returned (.bool (roomB s x a (b + 1))) ∧ Chg w w' No := by
  have HP := hid h
  have HX := hid hx
  obtain ⟨Z, hZ⟩ : ∃ y, y = TZ := ⟨_, rfl⟩
  have hz := zero_tal
  rw [← hZ] at hz
  have HZ4 : Hid (Z.size = 1103) := hid (by rw [hZ]; exact TZ_is.1)
  have hTl := tally_any w hx
  obtain ⟨rb, hrb⟩ : ∃ y, y = roomB s x a (b + 1) := ⟨_, rfl⟩
  have HRb := hid hrb
  rw [← hrb]
  have i1 : (a : Int) ≤ 1068 := by omega
  have i2 : (b : Int) ≤ 1068 := by omega
  clear h hx hZ hrb
  go_enter Tryd.func46, Tryd.ntmps46
  go_upto_region 2 with (first
    | (go_at_call 40; go_must (refine hTl.mono ?_; rintro e w1 ⟨⟨A, rfl, F, hA, hF⟩, hc1⟩; have HA := hid hA; have HF := hid hF; have HA1 := hid (TalA_one hA); have HAz := hid hA.1; clear hA hF))
    | (refine store_R rfl 96 _ _ rfl w1.heap.size A rfl rfl 96 _ (heap_alloc_new _ _) (by rw [szT, HAz.out]) (by rw [HAz.out]; exact HZ4.out) HA1.out ?_; intro w2 hw2)
    | fail)
  have h02 : Chg w w2 No := (hc1.tr (Chg.alloc w1 (.cells Z 96) No)).trans (kt_new hw2) (fun _ _ e => e) (fun j hj e => by have := hc1.size; omega)
  obtain ⟨gt, hgt⟩ : ∃ y, y = w1.heap.size := ⟨_, rfl⟩
  have HT2 : Hid (TalAt w2 gt F) := hid ⟨A, by rw [hgt]; exact hw2.here, HA.out⟩
  have HGt : Hid (w.heap.size ≤ gt) := hid (by rw [hgt]; exact hc1.size)
  have HC2 := hid h02
  rw [← hgt]
  obtain ⟨k2, _⟩ := HT2.out.card
  rw [cardN_of HF.out] at k2
  have hcb : cardN x ≤ 1102 := card_le _
  obtain ⟨cn, hcn⟩ : ∃ z : Nat, z = cardN x := ⟨_, rfl⟩
  have HCn := hid hcn
  rw [← hcn] at k2 hcb
  clear hgt hw2 hc1 h02 hTl hcn
  have G0 : Hid (∃ f, TalAt w2 gt f ∧ ∀ i, f i = true ↔ TalQ x a a i) := hid ⟨F, HT2.out, fun i => by
    rw [HF.out i]
    exact ⟨.inl, fun e => e.resolve_right (fun ⟨k, k1, k2, _⟩ => by omega)⟩⟩
  clear HT2 HF HA HA1 HAz
  go_wp2_with fail
  go_loopw [11] (fun x11 wr => ∃ j : Nat, x11 = .int .i64 (j : Int) ∧ a ≤ j ∧ j ≤ b + 1 ∧ Hid (∃ f, TalAt wr gt f ∧ ∀ i, f i = true ↔ TalQ x a j i) ∧ Hid (Chg w wr No)) (fun x11 _ => b + 1 - (intOf x11).toNat)
  case atStart => exact ⟨a, rfl, Nat.le_refl _, hab, G0, HC2⟩
  case round =>
    obtain ⟨j, rfl, hj1, hj2, HT, HC⟩ := hrel
    clear G0 HC2
    obtain ⟨f, hT, hI⟩ := HT.out
    have HTt := hid hT
    have HI := hid hI
    clear HT hT hI
    by_cases hlt : j ≤ b
    · have j1 : (j : Int) ≤ (b : Int) := by omega
      have j2 : (j : Int) ≤ 1068 := by omega
      have hAd := add_any j wr HTt.out (by omega)
      go_wp2_with (first
        | (go_at_call 54; go_must (refine hAd.mono ?_; rintro e w4 ⟨rfl, h4, hc4⟩))
        | fail)
      refine ⟨⟨j + 1, by go_num, by omega, by omega, hid ⟨_, h4, fun i => ?_⟩, hid (HC.out.trans hc4 (fun _ _ e => e) (fun k hk e => by have := HGt.out; omega))⟩, by simp [intOf]; omega⟩
      rw [addB_iff, HI.out i, TalQ_succ x a j i hj1]
    · have j1 : ¬ (j : Int) ≤ (b : Int) := by omega
      obtain rfl : j = b + 1 := by omega
      have hq := cardQ_of HI.out
      have hqb : cardQ x a (b + 1) ≤ 1102 := card_le _
      obtain ⟨cq, hcq⟩ : ∃ z : Nat, z = cardQ x a (b + 1) := ⟨_, rfl⟩
      have htb : takenN s ≤ 1102 * 513 := sumN_le s _ 513
      obtain ⟨tn, htn⟩ : ∃ z : Nat, z = takenN s := ⟨_, rfl⟩
      have HRv : Hid (rb = decide ((tn : Int) - (cn : Int) + (cq : Int) ≤ s.data)) := hid (by rw [HRb.out]; unfold roomB; rw [← htn, ← HCn.out, ← hcq])
      have HQ : Hid (∀ W, Chg wr W No → W.cell? ⟨gt, 1102, none⟩ = some (.int .i64 (cq : Int))) := hid (fun W hW => by
        have := (HTt.out.keep hW (fun e => e)).card.1
        rw [hq, ← hcq] at this
        exact this)
      have HQ0 : Hid (∀ W, Chg wr W No → W.cell? ⟨q.p, 0, none⟩ = some (.int .i64 s.data)) := hid (fun W hW => (HP.out.call (HC.out.tr hW)).c0)
      have HTk : Hid (∀ W, Chg wr W No → Calls Tryd.prog 20 #[.pointer (some ⟨q.p, 0, none⟩)] W fun e w' => e = .returned (.int .i64 (tn : Int)) ∧ Chg W w' No) := hid (fun W hW => by rw [htn]; exact taken_any W (HP.out.call (HC.out.tr hW)))
      rw [← hcq] at hqb
      rw [← htn] at htb
      obtain ⟨dt, hdt⟩ : ∃ z, z = s.data := ⟨_, rfl⟩
      rw [← hdt] at HRv HQ0
      have t1 : (tn : Int) ≤ 600000 := by omega
      have t2 : (cn : Int) ≤ 1102 := by omega
      have t3 : (cq : Int) ≤ 1102 := by omega
      have wv1 : IntKind.i64.wrap ((tn : Int) - (cn : Int)) = (tn : Int) - (cn : Int) := by rw [IntKind.wrap_i64]; omega
      have wv2 : IntKind.i64.wrap ((tn : Int) - (cn : Int) + (cq : Int)) = (tn : Int) - (cn : Int) + (cq : Int) := by rw [IntKind.wrap_i64]; omega
      clear hq hcq htn hdt hqb htb hcb HTt HI HRb HCn k2
      go_upto_region 7 with fail
      refine wp_region_noPanic ?_
      refine wp_region_held_drew (S := fun w' => Chg wr w' No) (by kernel_rfl) (Chg.refl _ _).drew (fun hHeld => ?_)
      refine takeVal 0 24 (.pointer (some ⟨q.p, 0, none⟩)) rfl (by kernel_rfl) (by kernel_rfl) (by kernel_rfl) rfl (by rfl) (fun _ _ _ h => h) hHeld (fun W' hw' => rfl) ?_
      simp only [List.setIfInBounds_toArray, List.set_cons_zero, List.set_cons_succ]
      refine takeVal 2 26 (.int .i64 (cn : Int)) rfl (by kernel_rfl) (by kernel_rfl) (by kernel_rfl) rfl (by rfl) (fun _ _ _ h => h) hHeld (fun W' hw' => rfl) ?_
      simp only [List.setIfInBounds_toArray, List.set_cons_zero, List.set_cons_succ]
      refine takeVal 4 28 (.pointer (some ⟨gt, 1102, none⟩)) rfl (by kernel_rfl) (by kernel_rfl) (by kernel_rfl) rfl (by rfl) (fun _ _ _ h => h) hHeld (fun W' hw' => by go_simp) ?_
      simp only [List.setIfInBounds_toArray, List.set_cons_zero, List.set_cons_succ]
      refine takeVal 5 29 (.int .i64 (cq : Int)) rfl (by kernel_rfl) (by kernel_rfl) (by kernel_rfl) rfl (by rfl) (fun _ _ _ h => h) hHeld (fun W' hw' => by have hc := HQ.out W' hw'; go_simp) ?_
      simp only [List.setIfInBounds_toArray, List.set_cons_zero, List.set_cons_succ]
      refine takeVal 7 31 (.pointer (some ⟨q.p, 0, none⟩)) rfl (by kernel_rfl) (by kernel_rfl) (by kernel_rfl) rfl (by rfl) (fun _ _ _ h => h) hHeld (fun W' hw' => rfl) ?_
      simp only [List.setIfInBounds_toArray, List.set_cons_zero, List.set_cons_succ]
      refine takeVal 8 32 (.pointer (some ⟨q.p, 0, none⟩)) rfl (by kernel_rfl) (by kernel_rfl) (by kernel_rfl) rfl (by rfl) (fun _ _ _ h => h) hHeld (fun W' hw' => by go_simp) ?_
      simp only [List.setIfInBounds_toArray, List.set_cons_zero, List.set_cons_succ]
      refine takeVal 9 33 (.pointer (some ⟨q.p, 0, none⟩)) rfl (by kernel_rfl) (by kernel_rfl) (by kernel_rfl) rfl (by rfl) (fun _ _ _ h => h) hHeld (fun W' hw' => by go_simp) ?_
      simp only [List.setIfInBounds_toArray, List.set_cons_zero, List.set_cons_succ]
      refine takeVal 10 34 (.int .i64 dt) rfl (by kernel_rfl) (by kernel_rfl) (by kernel_rfl) rfl (by rfl) (fun _ _ _ h => h) hHeld (fun W' hw' => by have hc := HQ0.out W' hw'; go_simp) ?_
      simp only [List.setIfInBounds_toArray, List.set_cons_zero, List.set_cons_succ]
      refine step1 1 (by kernel_rfl) ?_
      refine stCall 1 25 20 #[.pointer (some ⟨q.p, 0, none⟩)] _ rfl rfl (by rfl) (by go_simp) (HTk.out _ hHeld) ?_
      rintro e w5 ⟨rfl, hc5⟩
      have hH5 : Chg wr w5 No := hHeld.tr hc5
      refine ⟨_, rfl, hH5, ?_⟩
      simp only [List.setIfInBounds_toArray, List.set_cons_zero, List.set_cons_succ]
      refine takeVal 3 27 (.int .i64 ((tn : Int) - (cn : Int))) rfl (by kernel_rfl) (by kernel_rfl) (by kernel_rfl) rfl (by rfl) (fun _ _ _ h => h) hH5 (fun W' hw' => by go_simp <;> exact wv1) ?_
      simp only [List.setIfInBounds_toArray, List.set_cons_zero, List.set_cons_succ]
      refine takeVal 6 30 (.int .i64 ((tn : Int) - (cn : Int) + (cq : Int))) rfl (by kernel_rfl) (by kernel_rfl) (by kernel_rfl) rfl (by rfl) (fun _ _ _ h => h) hH5 (fun W' hw' => by go_simp <;> exact wv2) ?_
      simp only [List.setIfInBounds_toArray, List.set_cons_zero, List.set_cons_succ]
      refine takeVal 11 35 (.bool (decide ((tn : Int) - (cn : Int) + (cq : Int) ≤ dt))) rfl (by kernel_rfl) (by kernel_rfl) (by kernel_rfl) rfl (by rfl) (fun _ _ _ h => h) hH5 (fun W' hw' => by go_simp) ?_
      simp only [List.setIfInBounds_toArray, List.set_cons_zero, List.set_cons_succ]
      refine takeVal 12 8 (.bool (decide ((tn : Int) - (cn : Int) + (cq : Int) ≤ dt))) rfl (by kernel_rfl) (by kernel_rfl) (by kernel_rfl) rfl (by rfl) (fun _ _ _ h => h) hH5 (fun W' hw' => rfl) ?_
      simp only [List.setIfInBounds_toArray, List.set_cons_zero, List.set_cons_succ]
      refine wpAnyH_done (by kernel_rfl) ?_ _
      refine NoPanic.normal ?_
      have HFin : Hid (Chg w w5 No) := hid (HC.out.tr hH5)
      have e := HRv.out
      subst e
      clear hHeld hc5 hH5
      go_wp2_with fail
      go_ret
      exact ⟨rfl, HFin.out⟩
end Go.Proofs.YtbkddnibcpjkgaaDoor
