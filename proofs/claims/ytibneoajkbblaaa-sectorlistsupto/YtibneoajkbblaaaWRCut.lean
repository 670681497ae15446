/-
  The document's Cut and Join, by definition: what they answer, for every input.
-/
import Derived.Test.YtibneoajkbblaaaOwnSet
import Derived.Deep.CutRange
import Derived.Deep.DeepCutAuto
namespace Go.Proofs.Ytibneoajkbblaaa
open Go.RowKit

set_option maxRecDepth 100000 in
set_option maxHeartbeats 1000000 in
theorem rcut_any (zs : List Int) (L : Nat) (hL : Hid (zs.length = L)) (ad : Option Addr) (cap : Nat) (w : World) (hm : L ≤ 140737488351232) (HZ : Hid (BytesAt w ad zs)) :
    Calls Try.prog 14 #[.slice ad L cap] w fun e w' => ∃ v, e = .returned v ∧ Own w' w.heap.size 26 128 v (cutM L) (cutF zs) ∧ Below w.heap.size w w' := by
  have hz := zero_sec
  go_enter Try.func14, Try.ntmps14
  go_wp2
  go_loopw [3, 4] (fun v i wr => ∃ k : Nat, k ≤ L ∧ i = .int .i64 k ∧ Hid (Own wr w.heap.size 26 128 v (cutM k) (cutP zs k)) ∧ Hid (Below w.heap.size w wr)) (fun _ i _ => L - (intOf i).toNat)
  case atStart => exact ⟨0, by omega, rfl, by rw [cutP_zero]; exact Own.nil _ _ _ _, Below.refl _ _⟩
  case round =>
    obtain ⟨k, hk, rfl, HO, HBe⟩ := hrel
    by_cases hlt : k < L
    · have hc0 : ∃ b o, ad = some ⟨b, o, none⟩ ∧ b < w.heap.size ∧ ∀ j, j < zs.length → w.cell? ⟨b, o + j, none⟩ = some (.int .u8 (zs.getD j 0)) := by
        rcases HZ.out with h | h
        · have := hL.out; rw [h] at this; simp at this; omega
        · exact h
      obtain ⟨b, o, rfl, hb, hcell⟩ := hc0
      have hck := hcell k (by rw [hL.out]; exact hlt)
      clear hcell
      have HCK := hid hck
      clear hck
      by_cases hmod : k % 128 = 0
      · have HST := hid (cutP_step0 zs k (by rw [hL.out]; exact hlt) hmod)
        have hMk : cutM k + 1 = cutM (k + 1) := by unfold cutM; omega
        have hkq : k / 128 < cutM k + 1 := by unfold cutM; omega
        have hkn : k < (cutM k + 1) * 128 := by unfold cutM; omega
        have hsz := HBe.out.size
        have hbd : (cutM k + 1) * 128 ≤ 140737488355328 := by unfold cutM; omega
        generalize zs.getD k 0 = x at *
        have HOs := hid (HO.out.call ((Below.refl _ _).alloc (Nat.le_refl _) (.cells (SA Zs) 26)))
        have hrz : BytesAt (wr.alloc (.cells (SA Zs) 26)) (some ⟨wr.heap.size, 0, none⟩) Zs := row_bytes (heap_alloc_new _ _)
        have hsz1 : w.heap.size ≤ (wr.alloc (.cells (SA Zs) 26)).heap.size := by simp; omega
        generalize cutM k = n at *
        go_wp2_with (first | (refine slice_one rfl _ rfl Zs Zs_len rfl ?_) | (at_builtin; refine append_secs rfl _ _ rfl w.heap.size n 1 1 _ (cutP zs k) Zs ⟨wr.heap.size, 0, none⟩ rfl rfl HOs.out Zs_len hrz hbd hsz1 ?_; intro v1 w1 HO1 hg1))
        have HBe1 := hid ((HBe.out.alloc hsz (.cells (SA Zs) 26)).grown hg1 hsz1 HO.out.ge)
        have HMk := hid hMk
        clear hg1 hrz HOs HO hsz hsz1 hmod hMk
        obtain ⟨g, cp, rfl, hg1, hg2, hce, hfr⟩ := HO1.row (by omega)
        have hc := hce k hkn
        have hf := hfr k
        have HO2 := hid HO1
        clear hce hfr HO1
        generalize (cutP zs k ++ Zs).getD k 0 = old at hc
        have e : k = k / 128 * 128 + k % 128 := by omega
        rw [e] at hc hf
        have hsrc : w1.cell? ⟨b, o + k, none⟩ = some (.int .u8 x) := by rw [HBe1.out.cell (p := ⟨b, o + k, none⟩) hb]; exact HCK.out
        clear e
        go_region
        go_wp2
        rw [show k / 128 * 128 + k % 128 = k by omega]
        refine ⟨⟨k + 1, by omega, by go_num, ?_, (setCell_below HBe1.out hg1).drew⟩, by simp [intOf]; omega⟩
        rw [← HMk.out, ← HST.out]
        exact HO2.out.set k x
      · have hst := cutP_step1 zs k (by rw [hL.out]; exact hlt) hmod
        have HST := hid hst.1
        have hMk := hst.2
        clear hst
        have hn : 0 < cutM k := by unfold cutM; omega
        have hkq : k / 128 < cutM k := by unfold cutM; omega
        have hkn : k < cutM k * 128 := by unfold cutM; omega
        generalize zs.getD k 0 = x at *
        obtain ⟨g, cp, rfl, hg1, hg2, hce, hfr⟩ := HO.out.row hn
        have hc := hce k hkn
        have hf := hfr k
        clear hce hfr
        generalize (cutP zs k).getD k 0 = old at hc
        have e : k = k / 128 * 128 + k % 128 := by omega
        rw [e] at hc hf
        have hsrc : wr.cell? ⟨b, o + k, none⟩ = some (.int .u8 x) := by rw [HBe.out.cell (p := ⟨b, o + k, none⟩) hb]; exact HCK.out
        clear e
        generalize cutM k = n at *
        go_wp2
        go_region
        go_wp2
        rw [show k / 128 * 128 + k % 128 = k by omega]
        refine ⟨⟨k + 1, by omega, by go_num, ?_, (setCell_below HBe.out hg1).drew⟩, by simp [intOf]; omega⟩
        rw [← hMk, ← HST.out]
        exact HO.out.set k x
    · have e : k = L := by omega
      subst e
      have HE := hid (cutP_end zs)
      rw [hL.out] at HE
      rw [HE.out] at HO
      go_wp2
      go_ret
      exact ⟨_, rfl, HO.out, HBe.out⟩

end Go.Proofs.Ytibneoajkbblaaa
