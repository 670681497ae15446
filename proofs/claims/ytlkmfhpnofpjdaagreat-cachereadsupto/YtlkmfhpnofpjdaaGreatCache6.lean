/-
  clearWay and Put.
-/
import Derived.Test.YtlkmfhpnofpjdaaGreatCacheP
namespace Go.Proofs.YtlkmfhpnofpjdaaGreat
open Go.RowKit Go.Sort Go.Lib

variable {w : World} {c p g n : Nat} {ρ : Nat → Option Role} {z : CSt}

theorem dofC_mem (hi : CInv n z) {l : List Int} {x a : Int} : a ∈ dofC z l x ↔ a ∈ l ∧ z.dirty a ∧ a ≠ x := by
  unfold dofC
  rw [secs_mem]
  exact ⟨fun h => h.2, fun h => ⟨hi.sec h.2.1, h⟩⟩
theorem Ints.len_le {w : World} {base : Nat} {v : Value} {l : List Int} (h : Ints w base v l) : ∃ a ca, v = .slice a l.length ca := by
  obtain ⟨a, ca, e, _⟩ := h.lat
  exact ⟨a, ca, e⟩

set_option maxRecDepth 100000 in
set_option maxHeartbeats 2000000 in
theorem clearWay_any (x : Int) (l : List Int) (a : Option Addr) (ca : Nat) (h : IsC w c p g n ρ z) (hx : 0 ≤ x ∧ x < n) (hl : LAt w a l) (hm : l.length ≤ 1000000000000) (hI : ∀ k, k < l.length → I64 (l.getD k 0)) (ht : TB z) (hw : z.d.wr < 4611686018427380000) :
    Calls Tryz.prog 85 #[.pointer (some ⟨c, 0, none⟩), .int .i64 x, .slice a l.length ca] w fun e w' => e = .returned (.int .i64 (clearC n z x l).2) ∧ CPost w w' c p g n ρ (clearC n z x l).1 := by
  have HD := dirtyOf_any l a ca x h hl hm hI
  have HH := hid h
  have HINV := hid h.inv
  have hIx : I64 x := ⟨by omega, by have := h.inv.top; omega⟩
  have HT := hid (And.intro ht hw)
  have HX := hid hx
  have HMEM := hid (fun a => dofC_mem h.inv (l := l) (x := x) (a := a))
  clear h hl hI ht hw hx
  generalize hr : clearC n z x l = R at *
  have HR := hid hr
  clear hr
  generalize hdd : dofC z l x = dl at *
  have hdl : dl.length ≤ 4096 := by rw [← hdd]; exact secs_len _
  clear hdd
  go_enter Tryz.func85, Tryz.ntmps85
  go_wp2_with (first
    | (go_at_call 86; go_must (refine HD.mono ?_; rintro e w1 ⟨v1, rfl, hv1, hc1⟩; obtain ⟨a1, ca1, rfl, hlat1, hge1⟩ := hv1.lat; clear HD))
    | fail)
  have HLat := hid hlat1
  have HC1 := hid hc1
  clear hlat1 hc1 hge1 hv1
  generalize hlen : dl.length = m at *
  go_loopw [8, 14] (fun _ i wr => ∃ (k : Nat) (wq : World), wq = wr ∧ k ≤ m ∧ i = .int .i64 k ∧ Chg w1 wq No ∧ Hid (∀ j, j < k → ¬ Reach z.E x (dl.getD j 0))) (fun _ i _ => m - (intOf i).toNat)
  case atStart => exact ⟨0, w1, rfl, by omega, rfl, Chg.refl _ _, fun j hj => absurd hj (by omega)⟩
  case round =>
    obtain ⟨k, wA, rfl, hk, rfl, hcA, hall⟩ := hrel
    by_cases hlt : k < m
    · obtain ⟨gp, mb, go, tv, lv, hA⟩ := HH.out.call (HC1.out.tr hcA)
      rcases (HLat.out.call hcA) with h0 | ⟨g1, rfl, hg1, h1⟩
      · rw [h0] at hlen; simp at hlen; omega
      have p1 := h1 k (by omega)
      have hmem := getD_mem (l := dl) (k := k) (by omega)
      generalize hy : dl.getD k 0 = y at *
      have hy2 := (HMEM.out y).1 hmem
      have hIy := hA.i64 hy2.2.1
      have hi0 : (0 : Int) ≤ (k : Int) := by omega
      have hi1 : (k : Int) < (m : Int) := by omega
      have k1 := hA.c1
      have HRE := reaches_any x y hA.gr hIx hIy
      have HY := hid (And.intro hy hy2)
      have HA := hid hA
      clear hA h1 hy hy2 hmem
      go_wp2_with (first
        | (go_at_call 114; go_must (refine HRE.mono ?_; rintro e w2 ⟨r, rfl, hr, hc2⟩; have HDR := drain_any x ((HH.out.call (HC1.out.tr hcA)).call hc2) HX.out HT.out.1 HT.out.2; clear HRE))
        | (go_at_call 68; go_must (refine HDR.mono ?_; rintro e w3 ⟨rfl, hP3⟩))
        | fail)
      · go_ret
        have hre := hr.1 (by assumption)
        have hc : ∃ a, a ∈ l ∧ z.dirty a ∧ a ≠ x ∧ Reach z.E x a := ⟨y, HY.out.2.1, HY.out.2.2.1, HY.out.2.2.2, hre⟩
        have e : R = drainC n z x := by rw [← HR.out]; unfold clearC; rw [if_pos hc]
        rw [e]
        exact ⟨rfl, CPost.step (fun _ k => k) ((HC1.out.tr hcA).tr hc2) hP3⟩
      · have hrf : ¬ Reach z.E x y := fun e => by
          have := hr.2 e
          simp_all
        refine ⟨⟨k + 1, w2, rfl, by omega, by go_num, hcA.tr hc2, fun j hj => ?_⟩, by simp [intOf]; omega⟩
        by_cases e : j = k
        · subst e
          rw [HY.out.1]
          exact hrf
        · exact hall.out j (by omega)
    · have hkm : k = m := by omega
      have hno : ¬ ∃ a, a ∈ l ∧ z.dirty a ∧ a ≠ x ∧ Reach z.E x a := by
        rintro ⟨y, h1, h2, h3, h4⟩
        have hmem := (HMEM.out y).2 ⟨h1, h2, h3⟩
        obtain ⟨j, hj, e⟩ := List.getElem_of_mem hmem
        refine hall.out j (by omega) ?_
        rw [List.getD_eq_getElem?_getD, List.getElem?_eq_getElem hj, e]
        exact h4
      have e : R = (z, 0) := by rw [← HR.out]; unfold clearC; rw [if_neg hno]
      have HE := hid e
      clear hno e
      go_wp2_with fail
      go_ret
      rw [HE.out]
      exact ⟨rfl, CPost.same HH.out (HC1.out.tr hcA)⟩

end Go.Proofs.YtlkmfhpnofpjdaaGreat
