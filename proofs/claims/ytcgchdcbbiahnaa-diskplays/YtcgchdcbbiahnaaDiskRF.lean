/-
  The document's From: what it answers, for every input.
-/
import Derived.Test.YtcgchdcbbiahnaaDiskR
namespace Go.Proofs.Ytcgchdcbbiahnaa
open Go.RowKit

set_option maxHeartbeats 400000 in
theorem rfrom_bad (m cap : Nat) (ad : Option Addr) (w : World) (h : ¬ (1 ≤ (m : Int) ∧ (m : Int) ≤ 4096)) : Calls Try.prog 21 #[.slice ad m cap] w fun e w' => e = .returned (.tuple #[.pointer none, .int .i64 20]) ∧ w' = w := by
  have HN := hid fun w => rnew_bad m w h
  clear h
  go_enter Try.func21, Try.ntmps21
  go_wp2_with (go_at_call 11; refine (HN.out _).mono ?_; rintro e w1 ⟨rfl, rfl⟩)
  go_ret2
  exact ⟨rfl, rfl⟩

/-- The first j sectors, and zeros. -/
def rfill (fl : List Int) (m j : Nat) : List Int := fl.take (128 * j) ++ zl (128 * (m - j))
theorem rfill_len {fl : List Int} {m j : Nat} (h : fl.length = 128 * m) (hj : j ≤ m) : (rfill fl m j).length = 128 * m := by
  rw [rfill, List.length_append, List.length_take, zl_len]; omega
theorem rfill_step {fl : List Int} {m j : Nat} (h : fl.length = 128 * m) (hj : j < m) : over (rfill fl m j) (j * 128) (secK fl j) = rfill fl m (j + 1) := by
  have hc := secK_len h hj
  rw [over_eq _ _ _ (by rw [rfill_len h (by omega), hc]; omega), hc]
  unfold rfill
  have e1 : (fl.take (128 * j)).length = j * 128 := by rw [List.length_take]; omega
  rw [List.take_left' e1, List.drop_append, e1, List.drop_of_length_le (by rw [e1]; omega), List.nil_append]
  have e2 : fl.take (128 * (j + 1)) = fl.take (128 * j) ++ secK fl j := by
    unfold secK
    rw [show 128 * (j + 1) = 128 * j + 128 by omega, List.take_add, Nat.mul_comm j 128]
  rw [e2]
  congr 1
  unfold zl
  rw [List.drop_replicate]
  congr 1
  omega

set_option maxRecDepth 100000 in
set_option maxHeartbeats 2000000 in
theorem rfrom_ok (m cap : Nat) (b o : Nat) (fl : List Int) (w : World) (h0 : 1 ≤ m) (h1 : m ≤ 4096) (hl : Hid (fl.length = 128 * m)) (HZ : Hid (BytesAt w (some ⟨b, o, none⟩) fl)) :
    Calls Try.prog 21 #[.slice (some ⟨b, o, none⟩) m cap] w fun e w' => ∃ r k, e = .returned (.tuple #[.pointer (some ⟨r, 0, none⟩), .int .i64 0]) ∧ w.heap.size ≤ r ∧ w.heap.size ≤ k ∧ IsR w' r (.slice (some ⟨k, 0, none⟩) m m) m (D0 fl) ∧ Below w.heap.size w w' := by
  have HN := hid fun w => rnew_ok m w h0 h1
  have HSRC : Hid (b < w.heap.size ∧ ∀ j, j < fl.length → w.cell? ⟨b, o + j, none⟩ = some (.int .u8 (fl.getD j 0))) := by
    rcases HZ.out with h | ⟨b', o', h, h2, h3⟩
    · have := hl.out
      rw [h] at this
      simp at this
      omega
    · cases h
      exact ⟨h2, h3⟩
  clear HZ
  go_enter Try.func21, Try.ntmps21
  go_wp2_with (go_at_call 11; refine (HN.out _).mono ?_; rintro e w1 ⟨r, k, rfl, hr, hk, hd, hb⟩)
  have HK0 := hid hk
  have HR0 := hid hr
  have HNE : Hid (r ≠ k) := by
    show r ≠ k
    intro e
    obtain ⟨g, cp, cur, hv, _, _, hc, _⟩ := hd.own.blk1 (show 0 < m by omega)
    cases hv
    have := hd.me
    rw [e, hc] at this
    injection this with this
    injection this with _ h2
    revert h2
    decide
  have HH1 : Hid (HB w [(r, .cells (RCv (.slice (some ⟨k, 0, none⟩) m m) 0 false 0 false) 56 (0, 0))] w1) := ⟨fun x hx => by rw [List.mem_singleton.1 hx]; exact hd.me, by simpa using slt hd.me, hb⟩
  have HRz : Hid (w1.heap[k]? = some (.cells (SA (rfill fl m 0)) 41 (0, 0))) := by
    show _ = _
    rcases hd.own.2 with ⟨h, _⟩ | ⟨g, cp, cur, hv, _, hc, _, _, hs, ht⟩
    · cases h
    · cases hv
      rw [hc]
      have e : rfill fl m 0 = zl (128 * m) := by simp [rfill]
      rw [e]
      congr 2
      apply Array.toList_inj.1
      rw [← List.take_of_length_le (show cur.toList.length ≤ m * 128 by rw [Array.length_toList, hs]; exact Nat.le_refl _), ht]
      simp [SA, D0]
  clear hd hb hr hk
  go_loopw [6] (fun i wr => ∃ j : Nat, j ≤ m ∧ i = .int .i64 j ∧ Hid (wr.heap[k]? = some (.cells (SA (rfill fl m j)) 41 (0, 0))) ∧ Hid (HB w [(r, .cells (RCv (.slice (some ⟨k, 0, none⟩) m m) 0 false 0 false) 56 (0, 0))] wr)) (fun i _ => m - (intOf i).toNat)
  case atStart => exact ⟨0, by omega, rfl, HRz, HH1⟩
  case round =>
    clear HRz HH1
    obtain ⟨j, hj, rfl, HR, HH⟩ := hrel
    by_cases hlt : j < m
    · have hC := secK_len hl.out hlt
      have HST := hid (rfill_step hl.out hlt)
      have HFL := hid (rfill_len (j := j) hl.out (by omega))
      have HSR := hid fun (w' : World) (h : Below w.heap.size w w') => secK_range (w := w') hl.out hlt (fun t ht => (h.cell (p := ⟨b, o + t, none⟩) HSRC.out.1).trans (HSRC.out.2 t ht))
      generalize secK fl j = C at *
      have hjm : (j : Int) < (m : Int) := by omega
      clear hlt
      go_wp2_with fail
      refine wp_region_noPanic ?_
      refine wp_region_held_drew (S := HB w [(r, .cells (RCv (.slice (some ⟨k, 0, none⟩) m m) 0 false 0 false) 56 (0, 0))]) (by kernel_rfl) HH.out.drew (fun hHeld => ?_)
      replace HR : Hid (wr.drew.heap[k]? = some (.cells (SA (rfill fl m j)) 41 (0, 0))) := HR
      generalize wr.drew = wd at *
      refine takeVal 0 22 (.pointer (some ⟨r, 0, none⟩)) rfl (by kernel_rfl) (by kernel_rfl) (by kernel_rfl) rfl (by rfl) (fun _ _ _ h => h) hHeld (fun _ hw' => rfl) ?_
      simp only [List.setIfInBounds_toArray, List.set_cons_zero, List.set_cons_succ]
      refine takeVal 1 23 (.pointer (some ⟨r, 0, none⟩)) rfl (by kernel_rfl) (by kernel_rfl) (by kernel_rfl) rfl (by rfl) (fun _ _ _ h => h) hHeld (fun _ hw' => by go_simp) ?_
      simp only [List.setIfInBounds_toArray, List.set_cons_zero, List.set_cons_succ]
      refine takeVal 2 24 (.pointer (some ⟨r, 0, none⟩)) rfl (by kernel_rfl) (by kernel_rfl) (by kernel_rfl) rfl (by rfl) (fun _ _ _ h => h) hHeld (fun _ hw' => by go_simp) ?_
      simp only [List.setIfInBounds_toArray, List.set_cons_zero, List.set_cons_succ]
      refine takeVal 3 25 (.slice (some ⟨k, 0, none⟩) m m) rfl (by kernel_rfl) (by kernel_rfl) (by kernel_rfl) rfl (by rfl) (fun _ _ _ h => h) hHeld (fun _ hw' => by have hc := cell_of_row _ _ 0 _ _ _ (hw'.get (g := r) (List.mem_singleton.2 rfl)); simp only [RCv, List.getElem?_toArray, List.getElem?_cons_zero] at hc; go_simp) ?_
      simp only [List.setIfInBounds_toArray, List.set_cons_zero, List.set_cons_succ]
      refine takeVal 4 26 (.int .i64 (j : Int)) rfl (by kernel_rfl) (by kernel_rfl) (by kernel_rfl) rfl (by rfl) (fun _ _ _ h => h) hHeld (fun _ hw' => rfl) ?_
      simp only [List.setIfInBounds_toArray, List.set_cons_zero, List.set_cons_succ]
      refine takeVal 5 27 (.slice (some ⟨b, o, none⟩) m cap) rfl (by kernel_rfl) (by kernel_rfl) (by kernel_rfl) rfl (by rfl) (fun _ _ _ h => h) hHeld (fun _ hw' => rfl) ?_
      simp only [List.setIfInBounds_toArray, List.set_cons_zero, List.set_cons_succ]
      refine takeVal 6 28 (.int .i64 (j : Int)) rfl (by kernel_rfl) (by kernel_rfl) (by kernel_rfl) rfl (by rfl) (fun _ _ _ h => h) hHeld (fun _ hw' => rfl) ?_
      simp only [List.setIfInBounds_toArray, List.set_cons_zero, List.set_cons_succ]
      refine takeVal 7 29 (.pointer (some ⟨b, o + j * 128, none⟩)) rfl (by kernel_rfl) (by kernel_rfl) (by kernel_rfl) rfl (by rfl) (fun _ _ _ h => h) hHeld (fun _ hw' => by go_simp) ?_
      simp only [List.setIfInBounds_toArray, List.set_cons_zero, List.set_cons_succ]
      refine takeMidS 8 30 (.tmp 29) (b) (o + j * 128) (C) (hC) rfl (by kernel_rfl) (by kernel_rfl) (by kernel_rfl) rfl rfl rfl (by rfl) (fun _ _ _ h => h) hHeld (fun _ hw' => HSR.out _ hw'.old) ?_
      simp only [List.setIfInBounds_toArray, List.set_cons_zero, List.set_cons_succ]
      refine takeVal 9 31 (.pointer (some ⟨k, j * 128, none⟩)) rfl (by kernel_rfl) (by kernel_rfl) (by kernel_rfl) rfl (by rfl) (fun _ _ _ h => h) hHeld (fun _ hw' => by go_simp) ?_
      simp only [List.setIfInBounds_toArray, List.set_cons_zero, List.set_cons_succ]
      refine step1 10 (by kernel_rfl) ?_
      refine stStoreMid 10 rfl rfl (by rfl) _ _ rfl k (j * 128) rfl C rfl hC 41 (rfill fl m j) HR.out (by rw [HFL.out]; omega) ?_
      intro w4 hw4
      have hHeld1 : HB w [(r, .cells (RCv (.slice (some ⟨k, 0, none⟩) m m) 0 false 0 false) 56 (0, 0))] w4 := hHeld.mod (Mod.wrote hw4) (by simpa using HNE.out) (by simpa using HK0.out)
      refine ⟨hHeld1, ?_⟩
      clear hHeld
      have hHeld := hHeld1
      clear hHeld1
      refine wpAnyH_done (by kernel_rfl) ?_ _
      refine NoPanic.normal ?_
      have hr4 := hw4.here
      rw [HST.out] at hr4
      have HR4 := hid hr4
      have HH4 := hid hHeld
      clear hr4 hw4 hHeld HR HH
      go_wp2_with fail
      exact ⟨⟨j + 1, by omega, by go_num, HR4, HH4⟩, by simp [intOf]; omega⟩
    · have e : j = m := by omega
      subst e
      clear hj
      go_wp2_with fail
      go_ret2
      have hR := HR.out
      have e : rfill fl j j = fl := by
        unfold rfill
        rw [List.take_of_length_le (by rw [hl.out]; omega), Nat.sub_self]
        simp [zl]
      rw [e] at hR
      exact ⟨r, k, rfl, HR0.out, HK0.out, ⟨HH.out.get (List.mem_singleton.2 rfl), own_row hR (Nat.zero_le _) (by rw [D0, hl.out, Nat.mul_comm]) (by unfold maxLen; omega), h0, h1⟩, HH.out.old⟩

end Go.Proofs.Ytcgchdcbbiahnaa
