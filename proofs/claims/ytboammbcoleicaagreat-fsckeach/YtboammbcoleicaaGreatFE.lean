/-
  fsck.Run, again and again, the power going at any write.
-/
import Derived.Test.YtboammbcoleicaaGreatFD
namespace Go.Proofs.YtboammbcoleicaaGreat
open Go.RowKit Go.Shelf

theorem wt_sec_set {im : Img} (h : ∀ s ∈ im, IsSec s) : AllSec im := fun n => by
  unfold secI
  rw [List.getD_eq_getElem?_getD]
  cases hq : im[n.toNat]? with
  | none => exact Zs_sec
  | some s => exact h s (List.mem_of_getElem? hq)
theorem take_two (l : List Int) (j x : Nat) : l.take (j + x) = l.take j ++ (l.drop j).take x := List.take_add ..
/-- Behind some of the writes some more of them. -/
theorem cut_cut {M : Nat} {im : Img} (h : II im M) (j x : Nat) : cutI M (cutI M im j) x = cutI M im (j + x) := by
  obtain ⟨_, r2⟩ := cut_look (by have := h.ml; omega) h.sec h.root j
  unfold cutI at *
  rw [r2]
  have hw := cut_write (M := M) (im := im) j
  unfold cutI at hw
  rw [hw, take_two, wroteI_append]
theorem cut_kW {M : Nat} {im : Img} (h : II im M) (j : Nat) : kW M (cutI M im j) = kW M im - j := by
  obtain ⟨_, r2⟩ := cut_look (by have := h.ml; omega) h.sec h.root j
  unfold kW
  rw [r2, cut_write, List.length_drop]
theorem cut_ii {M : Nat} {im : Img} (h : II im M) (j : Nat) (hs : AllSec (cutI M im j)) : II (cutI M im j) M := by
  obtain ⟨r1, _⟩ := cut_look (by have := h.ml; omega) h.sec h.root j
  have hsup := cut_sup h.root j
  exact ⟨by rw [hsup]; exact h.sup, by rw [hsup]; exact h.hM, by rw [cutI_len]; exact h.ml, r1, hs, by rw [cutI_len]; exact h.n1, by rw [cutI_len]; exact h.n2⟩
theorem cut_zero (M : Nat) (im : Img) : cutI M im 0 = im := rfl
theorem cut_end {M : Nat} {im : Img} (h : II im M) : cutI M im (kW M im) = (lookL M im).wt := cut_all h.root
/-- An image that one comes to by some of the writes. -/
def CutI (im J : Img) (j : Nat) : Prop := ((∀ M, ¬ II im M) ∧ J = im ∧ j = 0) ∨ ∃ M, II im M ∧ j ≤ kW M im ∧ J = cutI M im j
theorem CutI.len {im J : Img} {j : Nat} (h : CutI im J j) : J.length = im.length ∧ j ≤ im.length * 3 := by
  rcases h with ⟨_, rfl, rfl⟩ | ⟨M, _, hj, rfl⟩
  · exact ⟨rfl, by omega⟩
  · exact ⟨cutI_len _ _ _, Nat.le_trans hj (kW_le M im)⟩
/-- What the first Run tells. -/
def gOf (im : Img) : Int := lookE im
theorem ii_zero {im : Img} {M : Nat} (h : II im M) : lookE im = 0 := by
  unfold lookE
  rw [if_neg (by simp [h.sup]), ← h.hM, h.root]
  rfl
theorem nil4_size : nil4.size = 4 := rfl
/-- A Run on such an image. -/
theorem run_c {w : World} {p g : Nat} {im J : Img} {j : Nat} {ar : Bool} {lf : Nat} (hJ : CutI im J j) (h : DK w p g J j false ar lf) (him : im.length ≤ 4096) (hlf : lf ≤ 1000) :
    Calls Tryz.prog 10 #[.pointer (some ⟨p, 0, none⟩)] w fun e w' => ∃ r E, e = .returned (.tuple #[.agg r, .int .i64 E]) ∧ r.size = 4 ∧ r.all (·.oneCell') = true ∧ (E = lookE im ∨ E = 22) ∧
      (∃ J' j' dn ar' lf', CutI im J' j' ∧ DK w' p g J' (j' : Nat) dn ar' lf') ∧ Chg w w' (fun k => k = p ∨ k = g) := by
  have hl := hJ.len
  refine (run_any h (by omega) (by omega)).mono ?_
  rintro e w' (⟨hn, E, ⟨hE, _⟩, rfl, hc⟩ | ⟨M, hii, ⟨ha, hk⟩, rfl, hd, hc⟩ | ⟨M, gw, wc, s1, s2, s3, a1, a2, a3, hnc, rfl, hd, hX, hc⟩)
  · rcases hJ with ⟨h1, rfl, rfl⟩ | ⟨M, hii, hj, rfl⟩
    · exact ⟨nil4, E, rfl, rfl, nil4_one, .inl hE, ⟨J, 0, false, ar, lf, .inl ⟨h1, rfl, rfl⟩, h.call hc⟩, hc.mono fun _ _ e => e.elim⟩
    · exact absurd (cut_ii hii j (wt_sec_set h.s)) (hn M)
  · refine ⟨nil4, 22, rfl, rfl, nil4_one, .inr rfl, ?_, hc⟩
    rcases hJ with ⟨h1, rfl, rfl⟩ | ⟨M', hii', hj, rfl⟩
    · exact absurd hii (h1 M)
    · obtain rfl : M = M' := (cut_ii hii' j (wt_sec_set h.s)).one hii
      rw [cut_kW hii'] at hk
      rw [cut_cut hii', Int.toNat_natCast] at hd
      refine ⟨cutI M im (j + lf), j + lf, true, true, 0, .inr ⟨M, hii', by omega, rfl⟩, ?_⟩
      have e1 : ((j + lf : Nat) : Int) = (j : Int) + (lf : Int) := by omega
      rw [e1]
      exact hd
  · refine ⟨_, 0, rfl, rfl, repV_one _ _ _ _ _ _ _ _ _ _ _ _, .inl ?_, ?_, hc⟩
    · rcases hJ with ⟨h1, rfl, rfl⟩ | ⟨M', hii', hj, rfl⟩
      · exact absurd hX.ii (h1 M)
      · exact (ii_zero hii').symm
    · rcases hJ with ⟨h1, rfl, rfl⟩ | ⟨M', hii', hj, rfl⟩
      · exact absurd hX.ii (h1 M)
      · obtain rfl : M = M' := (cut_ii hii' j (wt_sec_set h.s)).one hX.ii
        obtain ⟨_, r2⟩ := cut_look (by have := hii'.ml; omega) hii'.sec hii'.root j
        rw [r2, ← cut_end hii', cut_kW hii'] at hd
        refine ⟨cutI M im (kW M im), kW M im, false, ar, leftN ar lf (kW M im - j), .inr ⟨M, hii', Nat.le_refl _, rfl⟩, ?_⟩
        have e1 : ((kW M im : Nat) : Int) = (j : Int) + ((kW M im - j : Nat) : Int) := by omega
        rw [e1]
        exact hd
/-- What a Run that is not cut off tells, of an image that is not refused. -/
def RepC (w w' : World) (im : Img) (M j : Nat) (r : Array Value) : Prop := ∃ gw wc s1 s2 s3 a1 a2 a3, r = repV im.length gw wc (kW M im - j) s1 (inodesI M (lookL M im)).length s2 (blocksI im (lookL M im)).length s3 a1 a2 a3 ∧ w.heap.size ≤ gw ∧ WtAt w' gw (lookL M im).wt ∧ LAt w' a1 ((writeI M im (lookL M im)).drop j) ∧ LAt w' a2 (inodesI M (lookL M im)) ∧ LAt w' a3 (blocksI im (lookL M im)) ∧ kW M im - j ≤ s1
/-- The last Run. -/
theorem run_f {w : World} {p g : Nat} {im J : Img} {j : Nat} (hJ : CutI im J j) (h : DK w p g J j false false 0) (him : im.length ≤ 4096) :
    Calls Tryz.prog 10 #[.pointer (some ⟨p, 0, none⟩)] w fun e w' => ∃ r, e = .returned (.tuple #[.agg r, .int .i64 (lookE im)]) ∧ r.size = 4 ∧ r.all (·.oneCell') = true ∧
      (((∀ M, ¬ II im M) ∧ lookE im ≠ 0 ∧ r = nil4 ∧ DK w' p g im 0 false false 0) ∨ ∃ M, II im M ∧ DK w' p g (lookL M im).wt (kW M im) false false 0 ∧ RepC w w' im M j r) ∧ Chg w w' (fun k => k = p ∨ k = g) := by
  have hl := hJ.len
  refine (run_any h (by omega) (by omega)).mono ?_
  rintro e w' (⟨hn, E, ⟨hE, hE2⟩, rfl, hc⟩ | ⟨M, hii, ⟨ha, hk⟩, rfl, hd, hc⟩ | ⟨M, gw, wc, s1, s2, s3, a1, a2, a3, hnc, rfl, hd, hX, hc⟩)
  · rcases hJ with ⟨h1, rfl, rfl⟩ | ⟨M, hii, hj, rfl⟩
    · subst hE
      exact ⟨nil4, rfl, rfl, nil4_one, .inl ⟨h1, by omega, rfl, h.call hc⟩, hc.mono fun _ _ e => e.elim⟩
    · exact absurd (cut_ii hii j (wt_sec_set h.s)) (hn M)
  · cases ha
  · rcases hJ with ⟨h1, rfl, rfl⟩ | ⟨M', hii', hj, rfl⟩
    · exact absurd hX.ii (h1 M)
    · obtain rfl : M = M' := (cut_ii hii' j (wt_sec_set h.s)).one hX.ii
      obtain ⟨_, r2⟩ := cut_look (by have := hii'.ml; omega) hii'.sec hii'.root j
      have hb : blocksI (cutI M im j) (lookL M im) = blocksI im (lookL M im) := by unfold blocksI; rw [cutI_len]
      have x1 := hX.wt
      have x2 := hX.l1
      have x3 := hX.l2
      have x4 := hX.l3
      have x5 := hX.c1
      have hnw := hX.new
      rw [r2] at x1 x2 x3 x4 x5 hd ⊢
      rw [cut_write] at x2 x5
      rw [hb] at x4 ⊢
      rw [cut_kW hii', cutI_len, ii_zero hii']
      rw [cut_kW hii'] at hd
      refine ⟨_, rfl, rfl, repV_one _ _ _ _ _ _ _ _ _ _ _ _, .inr ⟨M, hii', ?_, gw, wc, s1, s2, s3, a1, a2, a3, rfl, hnw, x1, x2, x3, x4, by rw [List.length_drop] at x5; exact x5⟩, hc⟩
      have e1 : (j : Int) + ((kW M im - j : Nat) : Int) = ((kW M im : Nat) : Int) := by omega
      rw [e1] at hd
      exact hd
end Go.Proofs.YtboammbcoleicaaGreat
