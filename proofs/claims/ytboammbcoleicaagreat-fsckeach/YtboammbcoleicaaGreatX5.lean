/-
  The inodes that were taken up are laid; the others are emptied.
-/
import Derived.Test.YtboammbcoleicaaGreatX1
namespace Go.Proofs.YtboammbcoleicaaGreat
open Go.RowKit Go.Shelf

/-- The image as it should be has turned, and nothing else. -/
theorem IsL.laid {w w' : World} {c : LC} {s : LS} {T : Img} (h : IsL w c s) (hw : WtAt w' c.b.wb T) (hl : T.length = c.N) (hc : Chg w w' (· = c.b.wb)) : IsL w' c { s with wt := T } ∧ Chg w w' (Kl c w) := by
  obtain ⟨es, ck, hm⟩ := h.v.k.cl.isMap
  obtain ⟨es2, ck2, hm2⟩ := h.v.v.isMap
  obtain ⟨B, hB⟩ := h.v.k.wt.isRow
  have n1 : ¬ c.b.p = c.b.wb := obj_ne h.v.p.me hB (by intro e; cases e)
  have n2 : ¬ c.b.cb = c.b.wb := obj_ne hm hB (by intro e; cases e)
  have n3 : ¬ c.b.vb = c.b.wb := obj_ne hm2 hB (by intro e; cases e)
  have hP := h.v.p.keep hc n1 (fun _ e => e ▸ h.v.p.b0)
  exact h.wipes ⟨hP, ⟨hw, hl, h.v.k.cl.keep hc n2, h.v.k.ck⟩, h.v.v.keep hc n3, h.v.vk⟩ (hc.mono fun _ _ e => .inl e)
theorem layK_len (tk : Int → Option (List Int)) (wt : Img) : ∀ k, (layK tk wt k).length = wt.length
  | 0 => rfl
  | k + 1 => by rw [layK, List.length_set]; exact layK_len tk wt k

set_option maxRecDepth 100000 in
set_option maxHeartbeats 1000000 in
theorem layInodes_any {c : LC} {s : LS} (w : World) (h : IsL w c s) (hk : TkOk c s.tk) :
    Calls Tryz.prog 53 #[LP c] w fun e w' => e = .returned (.tuple #[]) ∧ IsL w' c { s with wt := layK s.tk s.wt c.M } ∧ Chg w w' (Kl c w) := by
  have HK := hid hk
  have HM2 := hid h.v.p.m2
  have HN2 := hid h.v.p.n2
  have HM1 := hid h.v.p.m1
  have G0 : Hid (IsL w c { s with wt := layK s.tk s.wt 0 }) := hid h
  obtain ⟨m, hm⟩ : ∃ y, y = c.M := ⟨_, rfl⟩
  have HMm := hid hm
  rw [← hm] at HM2 HM1 ⊢
  clear h hk hm
  unfold LP
  go_enter Tryz.func53, Tryz.ntmps53
  go_wp2_with fail
  go_loopw [2] (fun i wr => ∃ k : Nat, k ≤ m ∧ i = .int .i64 ((k : Int) + 1) ∧ Hid (IsL wr c { s with wt := layK s.tk s.wt k }) ∧ Hid (Chg w wr (Kl c w))) (fun i _ => m + 1 - (intOf i).toNat)
  case atStart => exact ⟨0, by omega, rfl, G0, hid (Chg.refl _ _)⟩
  case round =>
    obtain ⟨k, hk, rfl, HL, HC⟩ := hrel
    have c1 := HL.out.v.p.c1
    rw [← HMm.out] at c1
    have hN := HN2.out
    have hM := HM2.out
    by_cases hlt : k < m
    · have i0 : (0 : Int) ≤ (k : Int) + 1 := by omega
      have i1 : (k : Int) + 1 ≤ (m : Int) := by omega
      have i2 : (k : Int) + 1 < (c.N : Int) := by omega
      go_upto_region 3 with fail
      obtain ⟨z, hz⟩ : ∃ y, y = (s.tk ((k : Int) + 1)).getD Zi := ⟨_, rfl⟩
      have HZ := hid hz
      have HZL : Hid (z.length = 18) := hid (by
        rw [hz]
        cases ht : s.tk ((k : Int) + 1) with
        | none => exact Zi_len
        | some y => exact (HK.out _ y ht).2.2.1)
      clear hz
      obtain ⟨B, hB⟩ := HL.out.v.k.wt.isRow
      have n1 : ¬ c.b.p = c.b.wb := obj_ne HL.out.v.p.me hB (by intro e; cases e)
      obtain ⟨es, ck, hmt⟩ := HL.out.t.isMap
      have n2 : ¬ c.b.tb = c.b.wb := obj_ne hmt hB (by intro e; cases e)
      have hP3 := fun (W : World) (hW : Chg wr W (· = c.b.wb)) => (HL.out.v.p.keep hW n1 (fun _ e => e ▸ HL.out.v.p.b0)).c3
      have hP6 := fun (W : World) (hW : Chg wr W (· = c.b.wb)) => (HL.out.v.p.keep hW n1 (fun _ e => e ▸ HL.out.v.p.b0)).c6
      have hLk := fun (W : World) (hW : Chg wr W (· = c.b.wb)) => (HL.out.t.keep hW n2).look (x := (k : Int) + 1) ⟨by omega, by omega⟩
      have hLz : (match ((s.tk ((k : Int) + 1)).map fun z => Value.agg (NA z)) with | some v => v | none => .agg (NA Zi)) = .agg (NA z) := by
        rw [HZ.out]
        cases s.tk ((k : Int) + 1) <;> rfl
      refine wp_region_noPanic ?_
      refine wp_region_held_drew (S := fun w' => Chg wr w' (· = c.b.wb)) (by kernel_rfl) (Chg.refl _ _).drew (fun hHeld => ?_)
      refine takeVal 0 13 (.pointer (some ⟨c.b.p, 0, none⟩)) rfl (by kernel_rfl) (by kernel_rfl) (by kernel_rfl) rfl (by rfl) (fun _ _ _ h => h) hHeld (fun W' hw' => rfl) ?_
      simp only [List.setIfInBounds_toArray, List.set_cons_zero, List.set_cons_succ]
      refine takeVal 1 14 (.pointer (some ⟨c.b.p, 0, none⟩)) rfl (by kernel_rfl) (by kernel_rfl) (by kernel_rfl) rfl (by rfl) (fun _ _ _ h => h) hHeld (fun W' hw' => by go_simp) ?_
      simp only [List.setIfInBounds_toArray, List.set_cons_zero, List.set_cons_succ]
      refine takeVal 2 15 (.pointer (some ⟨c.b.p, 3, none⟩)) rfl (by kernel_rfl) (by kernel_rfl) (by kernel_rfl) rfl (by rfl) (fun _ _ _ h => h) hHeld (fun W' hw' => by go_simp) ?_
      simp only [List.setIfInBounds_toArray, List.set_cons_zero, List.set_cons_succ]
      refine takeVal 3 16 (.slice (some ⟨c.b.wb, 0, none⟩) c.N c.wc) rfl (by kernel_rfl) (by kernel_rfl) (by kernel_rfl) rfl (by rfl) (fun _ _ _ h => h) hHeld (fun W' hw' => by have hc := hP3 W' hw'; clear hP3 hP6 hLk; go_simp) ?_
      simp only [List.setIfInBounds_toArray, List.set_cons_zero, List.set_cons_succ]
      refine takeVal 4 17 (.int .i64 ((k : Int) + 1)) rfl (by kernel_rfl) (by kernel_rfl) (by kernel_rfl) rfl (by rfl) (fun _ _ _ h => h) hHeld (fun W' hw' => rfl) ?_
      simp only [List.setIfInBounds_toArray, List.set_cons_zero, List.set_cons_succ]
      refine takeVal 5 18 (.pointer (some ⟨c.b.p, 0, none⟩)) rfl (by kernel_rfl) (by kernel_rfl) (by kernel_rfl) rfl (by rfl) (fun _ _ _ h => h) hHeld (fun W' hw' => rfl) ?_
      simp only [List.setIfInBounds_toArray, List.set_cons_zero, List.set_cons_succ]
      refine takeVal 6 19 (.pointer (some ⟨c.b.p, 0, none⟩)) rfl (by kernel_rfl) (by kernel_rfl) (by kernel_rfl) rfl (by rfl) (fun _ _ _ h => h) hHeld (fun W' hw' => by go_simp) ?_
      simp only [List.setIfInBounds_toArray, List.set_cons_zero, List.set_cons_succ]
      refine takeVal 7 20 (.pointer (some ⟨c.b.p, 6, none⟩)) rfl (by kernel_rfl) (by kernel_rfl) (by kernel_rfl) rfl (by rfl) (fun _ _ _ h => h) hHeld (fun W' hw' => by go_simp) ?_
      simp only [List.setIfInBounds_toArray, List.set_cons_zero, List.set_cons_succ]
      refine takeVal 8 21 (.map (some c.b.tb)) rfl (by kernel_rfl) (by kernel_rfl) (by kernel_rfl) rfl (by rfl) (fun _ _ _ h => h) hHeld (fun W' hw' => by have hc := hP6 W' hw'; clear hP3 hP6 hLk; go_simp) ?_
      simp only [List.setIfInBounds_toArray, List.set_cons_zero, List.set_cons_succ]
      refine takeVal 9 22 (.int .i64 ((k : Int) + 1)) rfl (by kernel_rfl) (by kernel_rfl) (by kernel_rfl) rfl (by rfl) (fun _ _ _ h => h) hHeld (fun W' hw' => rfl) ?_
      simp only [List.setIfInBounds_toArray, List.set_cons_zero, List.set_cons_succ]
      refine takeVal 10 23 (.agg (NA z)) rfl (by kernel_rfl) (by kernel_rfl) (by kernel_rfl) rfl (by rfl) (fun _ _ _ h => h) hHeld (fun W' hw' => by have hc := (hLk W' hw').trans (congrArg (Result.ok · W') hLz); simp [execOp, Act.eval, hc, Result.andThen]) ?_
      simp only [List.setIfInBounds_toArray, List.set_cons_zero, List.set_cons_succ]
      refine step1 11 (by kernel_rfl) ?_
      refine stCall 11 24 78 #[.agg (NA z)] _ rfl rfl (by rfl) (by clear hP3 hP6 hLk; go_simp) (inodeSector_any z HZL.out _) ?_
      rintro e w5 ⟨rfl, hb5⟩
      have hc5n : Chg wr w5 No := ((Chg.refl wr No).drew).trans (Chg.of_below hb5 No) (fun _ _ e => e) (fun _ _ e => e)
      have hc5 : Chg wr w5 (· = c.b.wb) := hc5n.mono fun _ _ e => e.elim
      have HL5 := hid (HL.out.call hc5n)
      clear hP3 hP6 hLk hLz hb5
      refine ⟨_, rfl, hc5, ?_⟩
      simp only [List.setIfInBounds_toArray, List.set_cons_zero, List.set_cons_succ]
      refine takeVal 12 12 (.tuple #[.agg (SA (inoS z)), .int .i64 (inoE z)]) rfl (by kernel_rfl) (by kernel_rfl) (by kernel_rfl) rfl (by rfl) (fun _ _ _ h => h) hc5 (fun W' hw' => rfl) ?_
      simp only [List.setIfInBounds_toArray, List.set_cons_zero, List.set_cons_succ]
      refine takeVal 13 25 (.agg (SA (inoS z))) rfl (by kernel_rfl) (by kernel_rfl) (by kernel_rfl) rfl (by rfl) (fun _ _ _ h => h) hc5 (fun W' hw' => by go_simp) ?_
      simp only [List.setIfInBounds_toArray, List.set_cons_zero, List.set_cons_succ]
      refine takeVal 14 26 (.int .i64 (inoE z)) rfl (by kernel_rfl) (by kernel_rfl) (by kernel_rfl) rfl (by rfl) (fun _ _ _ h => h) hc5 (fun W' hw' => by go_simp) ?_
      simp only [List.setIfInBounds_toArray, List.set_cons_zero, List.set_cons_succ]
      refine takeVal 15 27 (.pointer (some ⟨c.b.wb, (k + 1) * 128, none⟩)) rfl (by kernel_rfl) (by kernel_rfl) (by kernel_rfl) rfl (by rfl) (fun _ _ _ h => h) hc5 (fun W' hw' => by go_simp) ?_
      simp only [List.setIfInBounds_toArray, List.set_cons_zero, List.set_cons_succ]
      refine step1 16 (by kernel_rfl) ?_
      refine stStoreW 16 (.tmp 27) (.tmp 25) c.b.wb (k + 1) (inoS z) (layK s.tk s.wt k) rfl rfl (by rfl) rfl rfl rfl (inoS_sec z) HL5.out.v.k.wt (by rw [HL5.out.v.k.wl]; omega) ?_
      intro w6 hw6 hc6 hz6
      refine ⟨hc5.trans hc6 (fun _ _ e => e) (fun _ _ e => e), ?_⟩
      refine wpAnyH_done (by kernel_rfl) ?_ _
      refine NoPanic.normal ?_
      obtain ⟨hL6, hK6⟩ := HL5.out.laid hw6 (by rw [List.length_set]; exact HL5.out.v.k.wl) hc6
      have HL6 : Hid (IsL w6 c { s with wt := layK s.tk s.wt (k + 1) }) := hid (by
        have e : layK s.tk s.wt (k + 1) = (layK s.tk s.wt k).set (k + 1) (inoS z) := by rw [layK, inodeW, HZ.out]
        rw [e]; exact hL6)
      have HK6 : Hid (Chg w w6 (Kl c w)) := hid (kl_trans HC.out (kl_trans (kl_no hc5n) hK6))
      clear hw6 hc6 hz6 hL6 hK6 hc5 hc5n hHeld
      go_wp2_with fail
      exact ⟨⟨k + 1, by omega, by go_num, HL6, HK6⟩, by simp [intOf]; omega⟩
    · have i1 : ¬ (k : Int) + 1 ≤ (m : Int) := by omega
      obtain rfl : k = m := by omega
      go_wp2_with fail
      go_end0
      exact ⟨rfl, HL.out, HC.out⟩

end Go.Proofs.YtboammbcoleicaaGreat
