/-
  drops, with what it turns.
-/
import Derived.Test.YtgkanfmkohlmcaaGreatT5
namespace Go.Proofs.YtgkanfmkohlmcaaGreat
open Go.RowKit

/-- The blocks of a teller. -/
def BlkT (t lb db : Nat) (ov : Value) (ρ : Nat → Option Role) (k : Nat) : Prop := k = t ∨ k = lb ∨ k = db ∨ ov.ownBlock = some k ∨ Own ρ k
theorem post_chg {w w' : World} {c p g n : Nat} {ρ : Nat → Option Role} {z : CSt} (h : CPost w w' c p g n ρ z) : Chg w w' (Own ρ) := let ⟨_, _, _, h⟩ := h; h
theorem blk_own {t lb db : Nat} {ov : Value} {ρ ρ' : Nat → Option Role} {m : Nat} (h : ∀ k, Own ρ' k → Own ρ k ∨ m ≤ k) {k : Nat} (hk : BlkT t lb db ov ρ' k) : BlkT t lb db ov ρ k ∨ m ≤ k := by
  rcases hk with e | e | e | e | e
  · exact .inl (.inl e)
  · exact .inl (.inr (.inl e))
  · exact .inl (.inr (.inr (.inl e)))
  · exact .inl (.inr (.inr (.inr (.inl e))))
  · rcases h k e with e | e
    · exact .inl (.inr (.inr (.inr (.inr e))))
    · exact .inr e
theorem blkT_lt {w0 w : World} {t c p g n lb db : Nat} {ρ : Nat → Option Role} {ov : Value} {s : TSt} (h : IsT w0 w t c p g n lb db ρ ov s) {k : Nat} (hk : BlkT t lb db ov ρ k) : k < w.heap.size := by
  rcases hk with rfl | rfl | rfl | e | e
  · exact slt h.me
  · exact slt h.la
  · exact slt h.da
  · exact (row_ge h.oa e).2
  · exact h.ca.lt e

variable {w0 w : World} {t c p g n lb db : Nat} {ρ : Nat → Option Role} {ov : Value} {s : TSt}

set_option maxRecDepth 100000 in
set_option maxHeartbeats 4000000 in
theorem drops2 (x : Int) (h : IsT w0 w t c p g n lb db ρ ov s) (hf : Fit n s) (hx : 0 ≤ x ∧ x < n) (hlo : s.z.lost = false) (hdn : s.z.d.dn = false) (hm : s.od.length ≤ 1000000000000) : Calls Tryz.prog 13 #[.pointer (some ⟨t, 0, none⟩), .int .i64 x] w fun e w' => e = .returned (.bool true) ∧ (∃ ρ' ov', IsT w0 w' t c p g n lb db ρ' ov' (dropsT s x) ∧ ∀ k, BlkT t lb db ov' ρ' k → BlkT t lb db ov ρ k ∨ w.heap.size ≤ k) ∧ Chg w w' (BlkT t lb db ov ρ) := by
  have hzs := D.zero_sec
  have k1 := h.c1
  have HD := DropC_any x h.ca
  have e : DropC n s.z x = (forC s.z x, 0) := by unfold DropC; rw [if_pos (ref_one hx hlo)]
  rw [e] at HD
  have hn : n ≤ 4096 := h.ca.inv.top
  have H := hid h
  have HSX := hid (hf.sec x.toNat (by omega))
  obtain ⟨hx0, hx1⟩ := hx
  have HLO := hid (And.intro hlo hdn)
  clear h e hf hlo hdn
  cases hdi : s.di.getD x.toNat false with
  | false =>
    have HR : Hid (dropsT s x = { s with z := forC s.z x }) := by show _ = _; unfold dropsT; rw [if_neg (by rw [hdi]; decide)]
    go_enter Tryz.func13, Tryz.ntmps13
    go_wp2_with (first
      | (go_at_call 20; go_must (refine HD.mono ?_; rintro e w1 ⟨rfl, hP1⟩; obtain ⟨ρ1, h1, ho1⟩ := H.out.cache2 hP1; have C1 := hid (post_chg hP1); have HO1 := hid ho1; clear ho1; have k13 := h1.c3; have kd1 := h1.dc (k := x.toNat) (by omega); simp only at kd1; rw [hdi] at kd1; have HT1 := hid h1; clear HD hP1 h1))
      | fail)
    go_ret
    rw [HR.out]
    exact ⟨rfl, ⟨ρ1, ov, HT1.out, fun k hk => blk_own HO1.out hk⟩, C1.out.mono fun _ _ e => .inr (.inr (.inr (.inr e)))⟩
  | true =>
    have HR : Hid (dropsT s x = ⟨forC s.z x, s.last.set x.toNat (verS (D.secK s.z.d.S x.toNat)), s.di.set x.toNat false, fltO x s.od, s.nx⟩) := by show _ = _; unfold dropsT; rw [if_pos hdi]
    generalize hlen : s.od.length = m at *
    have HLEN := hid hlen
    clear hlen
    go_enter Tryz.func13, Tryz.ntmps13
    go_wp2_with (first
      | (go_at_call 20; go_must (refine HD.mono ?_; rintro e w1 ⟨rfl, hP1⟩; obtain ⟨ρ1, h1, ho1⟩ := H.out.cache2 hP1; have C1 := hid (post_chg hP1); have HO1 := hid ho1; clear ho1; have k13 := h1.c3; have kd1 := h1.dc (k := x.toNat) (by omega); simp only at kd1; rw [hdi] at kd1; have HT1 := hid h1; clear HD hP1 h1))
      | fail)
    clear k13 kd1 k1
    obtain ⟨a4, c4, e4, _⟩ := HT1.out.oa.at_
    subst e4
    generalize hB : w1.heap.size = B at *
    go_loopw [5, 6] (fun v i wr => ∃ (k : Nat) (wq : World), wq = wr ∧ k ≤ m ∧ i = .int .i64 k ∧ Ords wq B v (fltO x (s.od.take k)) ∧ Chg w1 wq No) (fun _ i _ => m - (intOf i).toNat)
    case atStart => exact ⟨0, w1, rfl, by omega, rfl, World.ownsRow_nil _ _ _ _, Chg.refl _ _⟩
    case round =>
    obtain ⟨k, wA, rfl, hk, rfl, hv, hcA⟩ := hrel
    have hTA := HT1.out.call hcA
    have k4 := hTA.c4
    simp only [HLEN.out] at k4
    have hszA := hcA.size
    have hfl := fltO_len x (s.od.take k)
    rw [List.length_take, HLEN.out] at hfl
    by_cases hlt : k < m
    · obtain ⟨a5, c5, e5, hov⟩ := hTA.oa.at_
      obtain ⟨g4, rfl, hg4, hr4⟩ := hov k (by simp only; rw [HLEN.out]; exact hlt)
      cases e5
      have htk := takeO (l := s.od) (k := k) (by rw [HLEN.out]; exact hlt)
      simp only at hr4
      generalize ho : s.od.getD k (0, 0, 0, 0) = o at *
      obtain ⟨q0, q2⟩ := oc_at hr4
      have hi0 : (0 : Int) ≤ (k : Int) := by omega
      have hi1 : (k : Int) < (m : Int) := by omega
      have HV := hid (And.intro hv (And.intro hcA (And.intro htk hr4)))
      have hfit : Hid ((fltO x (s.od.take k)).length ≤ 1000000000000) := by show _ ≤ _; omega
      clear hv hcA htk hr4 hov hTA ho
      by_cases hp : o.2.2.1 = x
      · have hb1 : (o.2.2.1 != x) = false := by simpa using hp
        have HK : Hid (keepO x o = false) := by show _ = _; unfold keepO; simp [hp]
        clear hp
        go_wp2_with fail
        obtain ⟨hv, hcA, htk, hr4⟩ := HV.out
        refine ⟨⟨k + 1, wA, rfl, by omega, by go_num, ?_, hcA⟩, by simp [intOf]; omega⟩
        rw [htk, fltO_snoc, HK.out]
        exact hv
      · have hb1 : (o.2.2.1 != x) = true := by simpa using hp
        by_cases hq : o.1 = x
        · have hb2 : (o.1 != x) = false := by simpa using hq
          have HK : Hid (keepO x o = false) := by show _ = _; unfold keepO; simp [hq]
          clear hp hq
          go_wp2_with fail
          obtain ⟨hv, hcA, htk, hr4⟩ := HV.out
          refine ⟨⟨k + 1, wA, rfl, by omega, by go_num, ?_, hcA⟩, by simp [intOf]; omega⟩
          rw [htk, fltO_snoc, HK.out]
          exact hv
        · have hb2 : (o.1 != x) = true := by simpa using hq
          have HK : Hid (keepO x o = true) := by show _ = _; unfold keepO; simp [hp, hq]
          have hvA := hid (row_keep HV.out.1 (Chg.alloc wA (.cells (oc o).toArray 82) No) (fun _ _ e => e))
          have hoA := hid (heap_alloc_new wA (.cells (oc o).toArray 82))
          have hol : (oc o).length = 4 := rfl
          clear hp hq
          go_wp2_with (first
            | (refine wpList_load_mid rfl 82 _ rfl g4 (k * 4) rfl (oc o) _ HV.out.2.2.2 Tryz.underlying82 rfl (by rw [szO]; rfl) ?_)
            | (at_builtin; go_must (refine wp_appO rfl _ _ rfl B wA.heap.size 1 _ (fltO x (s.od.take k)) o rfl rfl hvA.out hoA.out hfit.out (by simp only [World.size_alloc]; omega) ?_; intro v5 w5 h51 h52 h53))
            | fail)
          obtain ⟨hv, hcA, htk, hr4⟩ := HV.out
          refine ⟨⟨k + 1, w5, rfl, by omega, by go_num, ?_, hcA.trans ((Chg.alloc wA (.cells (oc o).toArray 82) No).trans h52 (c := fun j => B ≤ j) (fun _ _ e => e.elim) (fun j _ e => (row_ge hv e).1)) (fun _ _ e => e) (fun j hj e => by omega)⟩, by simp [intOf]; omega⟩
          rw [htk, fltO_snoc, HK.out]
          exact h51
    · have htk : s.od.take k = s.od := List.take_of_length_le (by rw [HLEN.out]; omega)
      rw [htk] at hv
      have hB0 := HT1.out.ch.size
      have hno : ∀ j, Value.ownBlock _ = some j → ¬ Own ρ1 j := fun j hj ho => by
        have h1 := (row_ge hv hj).1
        have h2 := HT1.out.ca.lt ho
        omega
      have hT4 := hTA.orders (row_base hv (by omega)) hno
      obtain ⟨av, cv, ev, _⟩ := hv.at_
      subst ev
      have f4 := hTA.fz 4
      have hst := stand_ok (n := n) (z := forC s.z x) ⟨hx0, hx1⟩ HLO.out.1 HLO.out.2
      have HS := standC_any x hT4.ca
      simp only at HS
      rw [hst] at HS
      have k41 := hT4.c1
      have HT4 := hid hT4
      have CA := hid hcA
      have HNV : Hid (∀ j, Value.ownBlock (.slice av (fltO x s.od).length cv) = some j → w1.heap.size ≤ j) := hid (fun j hj => by have := (row_ge hv hj).1; omega)
      have HTA := hid hTA
      clear hT4 hTA hv hno hst htk
      have ed : (forC s.z x).d = s.z.d := rfl
      rw [ed] at HS
      clear ed
      have kA1 := HTA.out.c1
      go_wp2_with (first
        | (go_at_call 16; go_must (refine HS.mono ?_; rintro e w5 ⟨rfl, hP5⟩; obtain ⟨ρ2, h5, ho5⟩ := HT4.out.cache2 hP5; have C5 := hid (post_chg hP5); have HO5 := hid ho5; clear ho5; have HT5 := hid h5; have HQ5 := hid (heap_alloc_new w5 (.cells (D.SA D.Zs) 46)); clear HS hP5 h5))
        | (refine D.store_sec rfl _ _ rfl w5.heap.size rfl (D.secK s.z.d.S x.toNat) rfl HSX.out.1 D.Zs D.Zs_len HQ5.out ?_; intro w6 hw6; have HB6 := hid hw6.here; have C6 : Hid (Chg w5 w6 No) := hid ((Chg.alloc w5 (.cells (D.SA D.Zs) 46) No).trans (wrote_chg hw6) (c := No) (fun _ _ e => e) (fun j hj e => by omega)); have HT6 := hid (HT5.out.call C6.out); clear hw6)
        | fail)
      have HNB : Hid (w5.heap.size ≠ lb) := Nat.ne_of_gt (slt HT5.out.la)
      clear k4 k41 kA1 f4
      refine wp_region_noPanic ?_
      refine wp_region_held_drew (S := fun w' => w'.cell? ⟨t, 2, none⟩ = some (.slice (some ⟨lb, 0, none⟩) n n) ∧ w'.heap[w5.heap.size]? = some (.cells (D.SA (D.secK s.z.d.S x.toNat)) 46 (0, 0))) (by kernel_rfl) ⟨HT6.out.c2, HB6.out⟩ (fun hHeld => ?_)
      refine takeVal 0 77 (.pointer (some ⟨t, 0, none⟩)) rfl (by kernel_rfl) (by kernel_rfl) (by kernel_rfl) rfl (by rfl) (fun _ _ _ h => h) hHeld (fun _ hw' => rfl) ?_
      simp only [List.setIfInBounds_toArray, List.set_cons_zero, List.set_cons_succ]
      refine takeVal 1 78 (.pointer (some ⟨t, 0, none⟩)) rfl (by kernel_rfl) (by kernel_rfl) (by kernel_rfl) rfl (by rfl) (fun _ _ _ h => h) hHeld (fun _ hw' => by go_simp) ?_
      simp only [List.setIfInBounds_toArray, List.set_cons_zero, List.set_cons_succ]
      refine takeVal 2 79 (.pointer (some ⟨t, 2, none⟩)) rfl (by kernel_rfl) (by kernel_rfl) (by kernel_rfl) rfl (by rfl) (fun _ _ _ h => h) hHeld (fun _ hw' => by go_simp) ?_
      simp only [List.setIfInBounds_toArray, List.set_cons_zero, List.set_cons_succ]
      refine takeVal 3 80 (.slice (some ⟨lb, 0, none⟩) n n) rfl (by kernel_rfl) (by kernel_rfl) (by kernel_rfl) rfl (by rfl) (fun _ _ _ h => h) hHeld (fun _ hw' => by have hq' := hw'.1; go_simp) ?_
      simp only [List.setIfInBounds_toArray, List.set_cons_zero, List.set_cons_succ]
      refine takeVal 4 81 (.int .i64 x) rfl (by kernel_rfl) (by kernel_rfl) (by kernel_rfl) rfl (by rfl) (fun _ _ _ h => h) hHeld (fun _ hw' => rfl) ?_
      simp only [List.setIfInBounds_toArray, List.set_cons_zero, List.set_cons_succ]
      refine D.takeSec 5 82 (.tmp 7) (w5.heap.size) (D.secK s.z.d.S x.toNat) (HSX.out.1) rfl (by kernel_rfl) (by kernel_rfl) (by kernel_rfl) rfl rfl rfl (by rfl) (fun _ _ _ h => h) hHeld (fun _ hw' => hw'.2) ?_
      simp only [List.setIfInBounds_toArray, List.set_cons_zero, List.set_cons_succ]
      refine step1 6 (by kernel_rfl) ?_
      refine stCall 6 83 38 #[.agg (D.SA (D.secK s.z.d.S x.toNat))] _ rfl rfl (by rfl) (by go_simp) (version_any _ HSX.out _) ?_
      rintro e w8 ⟨rfl, hc8⟩
      have C8 : Hid (Chg w6 w8 No) := hid ((Chg.refl w6 No).drew.tr hc8)
      have hT8 := (HT6.out.call (Chg.refl w6 No).drew).call hc8
      have hHeld : w8.cell? ⟨t, 2, none⟩ = some (.slice (some ⟨lb, 0, none⟩) n n) ∧ w8.heap[w5.heap.size]? = some (.cells (D.SA (D.secK s.z.d.S x.toNat)) 46 (0, 0)) := ⟨hT8.c2, hc8.keep hHeld.2 (fun e => e)⟩
      refine ⟨_, rfl, hHeld, ?_⟩
      simp only [List.setIfInBounds_toArray, List.set_cons_zero, List.set_cons_succ]
      refine takeVal 7 84 (.pointer (some ⟨lb, x.toNat, none⟩)) rfl (by kernel_rfl) (by kernel_rfl) (by kernel_rfl) rfl (by rfl) (fun _ _ _ h => h) hHeld (fun _ hw' => by go_simp) ?_
      simp only [List.setIfInBounds_toArray, List.set_cons_zero, List.set_cons_succ]
      refine step1 8 (by kernel_rfl) ?_
      have kl := hT8.lc (k := x.toNat) (by omega)
      have fl := frozen_of_row w8 lb x.toNat _ _ hT8.la
      refine stCell 8 (w8.setCell ⟨lb, x.toNat, none⟩ (.int .i64 (verS (D.secK s.z.d.S x.toNat)))) rfl rfl (by rfl) (by go_simp) ?_
      have hT9 := hT8.told x.toNat (verS (D.secK s.z.d.S x.toNat))
      refine ⟨⟨hT9.c2, (heap_setCell_other w8 ⟨lb, x.toNat, none⟩ w5.heap.size _ HNB.out).trans hHeld.2⟩, ?_⟩
      refine wpAnyH_done (by kernel_rfl) ?_ _
      refine NoPanic.normal ?_

      have k93 := hT9.c3
      have kd9 := hT9.dc (k := x.toNat) (by omega)
      have fd9 := frozen_of_row _ db x.toNat _ _ hT9.da
      have HT9 := hid hT9
      clear hT9 hT8 hHeld kl fl
      have C9 : Hid (Chg w8 (w8.setCell ⟨lb, x.toNat, none⟩ (.int .i64 (verS (D.secK s.z.d.S x.toNat)))) (· = lb)) := hid Chg.setCell
      generalize hw9 : w8.setCell ⟨lb, x.toNat, none⟩ _ = w9 at *
      clear hw9
      go_wp2_with fail
      go_ret
      rw [HR.out]
      have hs1 := C1.out.size
      have hsA := CA.out.size
      have hs5 := C5.out.size
      have o1 : ∀ j, j < w.heap.size → Own ρ1 j → BlkT t lb db (.slice a4 m c4) ρ j := fun j hj e => by
        rcases HO1.out j e with k | k
        · exact .inr (.inr (.inr (.inr k)))
        · omega
      have D1 : Chg w w1 (BlkT t lb db (.slice a4 m c4) ρ) := C1.out.mono fun _ _ e => .inr (.inr (.inr (.inr e)))
      have D2 := D1.trans CA.out (c := BlkT t lb db (.slice a4 m c4) ρ) (fun _ _ e => e) (fun _ _ e => e.elim)
      have D3 := D2.trans (Chg.setCell (w := wA) (g := t) (j := 4) (v := .slice av (fltO x s.od).length cv)) (c := BlkT t lb db (.slice a4 m c4) ρ) (fun _ _ e => e) (fun _ _ e => .inl e)
      have D5 := D3.trans C5.out (c := BlkT t lb db (.slice a4 m c4) ρ) (fun _ _ e => e) (fun j hj e => o1 j hj e)
      have D6 := D5.trans C6.out (c := BlkT t lb db (.slice a4 m c4) ρ) (fun _ _ e => e) (fun _ _ e => e.elim)
      have D8 := D6.trans C8.out (c := BlkT t lb db (.slice a4 m c4) ρ) (fun _ _ e => e) (fun _ _ e => e.elim)
      have D9 := D8.trans C9.out (c := BlkT t lb db (.slice a4 m c4) ρ) (fun _ _ e => e) (fun _ _ e => .inr (.inl e))
      rw [HLEN.out]
      refine ⟨rfl, ⟨ρ2, _, HT9.out.flag x.toNat false, fun k hk => ?_⟩, D9.trans Chg.setCell (fun _ _ e => e) (fun _ _ e => .inr (.inr (.inl e)))⟩
      rcases hk with e | e | e | e | e
      · exact .inl (.inl e)
      · exact .inl (.inr (.inl e))
      · exact .inl (.inr (.inr (.inl e)))
      · have := HNV.out k e
        exact .inr (by omega)
      · rcases HO5.out k e with e2 | e2
        · rcases HO1.out k e2 with e3 | e3
          · exact .inl (.inr (.inr (.inr (.inr e3))))
          · exact .inr e3
        · exact .inr (by simp [World.setCell] at e2; omega)

end Go.Proofs.YtgkanfmkohlmcaaGreat
