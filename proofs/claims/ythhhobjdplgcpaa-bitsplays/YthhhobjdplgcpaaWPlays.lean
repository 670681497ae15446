/-
  BitsPlays returns true: the walk.
-/
import Derived.Test.YthhhobjdplgcpaaPInv
namespace Go.Proofs.Ythhhobjdplgcpaa
open Go.RowKit

set_option maxRecDepth 100000 in
set_option maxHeartbeats 8000000 in
theorem plays_walkN (s0 s1 : Int) (ws : List OpV) (len : Nat) (hlen : Hid (ws.length = len)) (ad : Option Addr) (cap : Nat) (w : World) (h0 : I64 s0) (h1 : I64 s1) (hl : len ≤ 140737488355328) (HZ : Hid (ScriptAt w ad ws)) (HOK : Hid (∀ s, s ∈ ws → s.OK)) (N0 N1 : Nat) (e0 : pickN s0 4097 = (N0 : Int)) (e1 : pickN s1 4097 = (N1 : Int)) (t0 : N0 ≤ 4096) (t1 : N1 ≤ 4096) :
    Calls Try.prog 4 #[.int .i64 s0, .int .i64 s1, .slice ad len cap] w fun e w' => e = .returned (.bool true) ∧ Below w.heap.size w w' := by
  have H0 := hid h0
  have H1 := hid h1
  have E0 := hid e0
  have E1 := hid e1
  clear e0 e1 h0 h1
  have hz1 := zero_2i
  have hz2 := zero_2B
  have hz3 := zero_2R
  have hbd := build_2i
  go_enter Try.func4, Try.ntmps4
  go_wp2_with (first | (go_at_call 9; refine (awake_any _).mono ?_; rintro e w1 ⟨rfl, hb1⟩; have B1 := hid hb1; clear hb1) | (go_at_call 16; refine (pick_any _ _ _ (by first | exact H0.out | exact H1.out) (by decide) (by decide)).mono ?_; rintro e w2 ⟨rfl, rfl⟩; first | rw [E0.out] | rw [E1.out]))
  have HZ0 : Hid (Z0 w (((w1.alloc (.cells #[.int .i64 (N0 : Int), .int .i64 (N1 : Int)] 36)).alloc (.cells #[.pointer none, .pointer none] 37)).alloc (.cells #[.pointer none, .pointer none] 38)) w1.heap.size (w1.heap.size + 1) (w1.heap.size + 1 + 1) N0 N1 (.pointer none) (.pointer none) (.pointer none) (.pointer none)) := by
    have c2 := (Chg.alloc w1 (.cells #[.int .i64 (N0 : Int), .int .i64 (N1 : Int)] 36) No)
    have x0 := heap_alloc_new w1 (.cells #[.int .i64 (N0 : Int), .int .i64 (N1 : Int)] 36)
    have e2 : (w1.alloc (.cells #[.int .i64 (N0 : Int), .int .i64 (N1 : Int)] 36)).heap.size = w1.heap.size + 1 := by simp
    generalize w1.alloc (.cells #[.int .i64 (N0 : Int), .int .i64 (N1 : Int)] 36) = w2 at *
    have b2 := c2.to B1.out B1.out.size (fun _ e => e.elim)
    have c3 := (Chg.alloc w2 (.cells #[.pointer none, .pointer none] 37) No)
    have c4 := (Chg.alloc (w2.alloc (.cells #[.pointer none, .pointer none] 37)) (.cells #[.pointer none, .pointer none] 38) No)
    have z := heap_alloc_new (w2.alloc (.cells #[.pointer none, .pointer none] 37)) (.cells #[.pointer none, .pointer none] 38)
    rw [show (w2.alloc (.cells #[.pointer none, .pointer none] 37)).heap.size = w2.heap.size + 1 by simp] at z
    have b3 := c3.to b2 b2.size (fun _ e => e.elim)
    rw [← e2]
    exact ⟨c4.keep (c3.keep x0 (fun e => e)) (fun e => e), c4.keep (heap_alloc_new w2 _) (fun e => e), z, c4.to b3 b3.size (fun _ e => e.elim), by have := b2.size; omega⟩
  clear H0 H1 E0 E1 hz1 hz2 hz3 hbd
  clear B1
  generalize hzz : w1.heap.size + 1 + 1 = z at *
  generalize hyy : w1.heap.size + 1 = y at *
  generalize hxx : w1.heap.size = x at *
  clear hzz hyy hxx
  have NB0 := hid fun w => new_ok N0 w t0
  have NB1 := hid fun w => new_ok N1 w t1
  have NR0 := hid fun w => rnew_ok N0 w t0
  have NR1 := hid fun w => rnew_ok N1 w t1
  go_loopw [11] (fun i wr => (i = .int .i64 0 ∧ Hid (Z0 w wr x y z N0 N1 (.pointer none) (.pointer none) (.pointer none) (.pointer none))) ∨ (i = .int .i64 1 ∧ Hid (∃ p g r k, Z0 w wr x y z N0 N1 (pv p) (pv r) (.pointer none) (.pointer none) ∧ IsB wr p g (noneL N0) ∧ IsR wr r k (noneL N0) ∧ w.heap.size ≤ g ∧ w.heap.size ≤ k)) ∨ (i = .int .i64 2 ∧ Hid (∃ P G R K, PInv w wr x y z (two N0 N1) P G R K (two (noneL N0) (noneL N1)) (two (noneL N0) (noneL N1))))) (fun i _ => 2 - (intOf i).toNat)
  case atStart => exact .inl ⟨rfl, HZ0⟩
  case round =>
    clear HZ0
    rcases hrel with ⟨rfl, HZ1⟩ | ⟨rfl, HZ1⟩ | ⟨rfl, HI⟩
    · have c1 : wr.cell? ⟨x, 0, none⟩ = some (.int .i64 (N0 : Int)) := by rw [cell_of_row _ _ _ _ _ _ HZ1.out.hx]; rfl
      go_wp2_with (first | (go_at_call 10; refine (NB0.out _).mono ?_; rintro e w3 ⟨p, g, rfl, hp, hg, h3, hb3⟩; have c3 := hid (Chg.of_below hb3 No); have H3 := hid h3; have ZZ3 := hid (HZ1.out.keep c3.out); have cx3 := cell_keep c1 c3.out (cell_lt c1) (fun e => e); have G3 := hid hg; clear hp hg h3 hb3) | (go_at_call 11; refine (NR0.out _).mono ?_; rintro e w4 ⟨r, k, rfl, hp, hg, h4, hb4⟩; have c4 := hid (Chg.of_below hb4 No); have H4 := hid (H3.out.keep c4.out (fun e => e) (fun e => e)); have R4 := hid h4; have ZZ4 := hid (ZZ3.out.keep c4.out); have K4 := hid hg; have cy4 : w4.cell? ⟨y, 0, none⟩ = some (.pointer none) := (by rw [cell_of_row _ _ _ _ _ _ ZZ4.out.hy]; rfl); have fy4 := frozen_of_row w4 y 0 _ _ ZZ4.out.hy; have hz5 : (w4.setCell ⟨y, 0, none⟩ (pv p)).heap[z]? = some _ := (heap_setCell_other w4 ⟨y, 0, none⟩ z _ (obj_ne ZZ4.out.hz ZZ4.out.hy (by decide))).trans ZZ4.out.hz; have cz5 : (w4.setCell ⟨y, 0, none⟩ (.pointer (some ⟨p, 0, none⟩))).cell? ⟨z, 0, none⟩ = some (.pointer none) := ((cell_of_row _ _ 0 _ _ _ hz5).trans rfl); have fz5 : (w4.setCell ⟨y, 0, none⟩ (.pointer (some ⟨p, 0, none⟩))).frozen? ⟨z, 0, none⟩ = false := frozen_of_row _ z 0 _ _ hz5; clear hp hg h4 hb4 hz5))
      have HF := ZZ4.out.put0 (pv p) (pv r)
      have HF1 := ZZ4.out.rowB H4.out 0 (pv p) (pv r)
      have HF2 := ZZ4.out.rowR R4.out 0 (pv p) (pv r)
      have s1 := HZ1.out.old.size
      have s2 := c3.out.size
      go_roundw
      case rel => exact .inr (.inl ⟨by go_num, hid ⟨p, g, r, k, HF, HF1, HF2, Nat.le_trans s1 G3.out, Nat.le_trans s1 (Nat.le_trans s2 K4.out)⟩⟩)
      case measure => simp [intOf]
    · obtain ⟨p0, g0, r0, k0, HZ1, hB0, hR0, hg0, hk0⟩ := HZ1.out
      replace HZ1 := hid HZ1
      have HO := hid (And.intro hB0 (And.intro hR0 (And.intro hg0 hk0)))
      clear hB0 hR0 hg0 hk0
      have c1 : wr.cell? ⟨x, 1, none⟩ = some (.int .i64 (N1 : Int)) := by rw [cell_of_row _ _ _ _ _ _ HZ1.out.hx]; rfl
      go_wp2_with (first | (go_at_call 10; refine (NB1.out _).mono ?_; rintro e w3 ⟨p, g, rfl, hp, hg, h3, hb3⟩; have c3 := hid (Chg.of_below hb3 No); have H3 := hid h3; have ZZ3 := hid (HZ1.out.keep c3.out); have cx3 := cell_keep c1 c3.out (cell_lt c1) (fun e => e); have G3 := hid hg; clear hp hg h3 hb3) | (go_at_call 11; refine (NR1.out _).mono ?_; rintro e w4 ⟨r, k, rfl, hp, hg, h4, hb4⟩; have c4 := hid (Chg.of_below hb4 No); have H4 := hid (H3.out.keep c4.out (fun e => e) (fun e => e)); have R4 := hid h4; have ZZ4 := hid (ZZ3.out.keep c4.out); have K4 := hid hg; have cy4 : w4.cell? ⟨y, 1, none⟩ = some (.pointer none) := (by rw [cell_of_row _ _ _ _ _ _ ZZ4.out.hy]; rfl); have fy4 := frozen_of_row w4 y 1 _ _ ZZ4.out.hy; have hz5 : (w4.setCell ⟨y, 1, none⟩ (pv p)).heap[z]? = some _ := (heap_setCell_other w4 ⟨y, 1, none⟩ z _ (obj_ne ZZ4.out.hz ZZ4.out.hy (by decide))).trans ZZ4.out.hz; have cz5 : (w4.setCell ⟨y, 1, none⟩ (.pointer (some ⟨p, 0, none⟩))).cell? ⟨z, 1, none⟩ = some (.pointer none) := ((cell_of_row _ _ 1 _ _ _ hz5).trans rfl); have fz5 : (w4.setCell ⟨y, 1, none⟩ (.pointer (some ⟨p, 0, none⟩))).frozen? ⟨z, 1, none⟩ = false := frozen_of_row _ z 1 _ _ hz5; clear hp hg h4 hb4 hz5))
      have HF := ZZ4.out.put1 (pv p) (pv r)
      have HF1 := ZZ4.out.rowB H4.out 1 (pv p) (pv r)
      have HF2 := ZZ4.out.rowR R4.out 1 (pv p) (pv r)
      have s1 := HZ1.out.old.size
      have s2 := c3.out.size
      obtain ⟨hB0, hR0, hg0, hk0⟩ := HO.out
      obtain ⟨gx, hgx⟩ := hB0.gblock
      have hgl := slt hgx
      have hkl := slt hR0.row
      have HF3 := ZZ4.out.rowB ((hB0.keep c3.out (fun e => e) (fun e => e)).keep c4.out (fun e => e) (fun e => e)) 1 (pv p) (pv r)
      have HF4 := ZZ4.out.rowR ((hR0.keep c3.out (fun e => e) (fun e => e)).keep c4.out (fun e => e) (fun e => e)) 1 (pv p) (pv r)
      have G3o := G3.out
      have K4o := K4.out
      go_roundw
      case rel => exact .inr (.inr ⟨by go_num, hid ⟨_, _, _, _, HF.inv HF3 HF1 HF4 HF2 (by omega) (by omega) ⟨hg0, hk0⟩ ⟨by omega, by omega⟩⟩⟩)
      case measure => simp [intOf]

    · obtain ⟨P, G, R, K, hI⟩ := HI.out
      have HI := hid hI
      clear hI NB0 NB1 NR0 NR1
      have HNt : Hid (∀ i, i < 2 → two N0 N1 i ≤ 4096) := by
        intro i hi
        match i, hi with
        | 0, _ => exact t0
        | 1, _ => exact t1
      generalize two N0 N1 = N at *
      have HS0 : ∃ S : Nat → List Bool, S = two (noneL N0) (noneL N1) := ⟨_, rfl⟩
      obtain ⟨S0, hS0⟩ := HS0
      rw [← hS0] at HI
      clear hS0 t0 t1
      go_wp2
      go_loopw [16] (fun i wr => ∃ (j : Nat) (S : Nat → List Bool), j ≤ len ∧ i = .int .i64 j ∧ Hid (PInv w wr x y z N P G R K S S)) (fun i _ => len - (intOf i).toNat)
      case atStart => exact ⟨0, S0, by omega, rfl, HI⟩
      case round =>
        clear HI
        obtain ⟨j, S, hj, rfl, HI⟩ := hrel
        by_cases hlt : j < len
        · obtain ⟨b, o, rfl, hr⟩ := HZ.out.range HI.out.old (j := j) (by rw [hlen.out]; exact hlt)
          have hok := HOK.out (ws.getD j OpV.z) (by rw [List.getD_eq_getElem?_getD, List.getElem?_eq_getElem (by rw [hlen.out]; exact hlt)]; exact List.getElem_mem _)
          generalize ws.getD j OpV.z = s at hr hok
          obtain ⟨kd, on, at_⟩ := s
          obtain ⟨hkd, hon, hat⟩ := hok
          have hat : I64 at_ := hat
          have hr : wr.rangeAt b (o + j * 3) [.int .i64 kd, .int .i64 on, .int .i64 at_] := hr
          have HPK := hid fun w => pick_any on 2 w hon (by decide) (by decide)
          obtain ⟨k, hk, hk2⟩ := pickNat (c := on) (show (1 : Int) ≤ 2 by decide)
          rw [hk] at HPK
          clear hk hkd hon
          have hjl : (j : Int) < (len : Int) := by omega
          have hk2' : k < 2 := by omega
          have hzo := zero_op
          have HQ := hid (heap_alloc_new wr (.cells #[.int .i64 kd, .int .i64 on, .int .i64 at_] 40))
          have HC3 := hid (Chg.alloc wr (.cells #[.int .i64 kd, .int .i64 on, .int .i64 at_] 40) No)
          go_upto_region 18 with (refine wpList_load_mid rfl 40 _ rfl b (o + j * 3) rfl [.int .i64 kd, .int .i64 on, .int .i64 at_] _ hr Try.underlying40 rfl (by rw [szO]; rfl) ?_)
          have HO3 : Hid (OI (wr.alloc (.cells #[.int .i64 kd, .int .i64 on, .int .i64 at_] 40)) G K wr.heap.size at_) := ⟨by rw [cell_of_row _ _ _ _ _ _ HQ.out]; rfl, fun i hi => by
            obtain ⟨gx, hgx⟩ := (HI.out.b i hi).gblock
            exact ⟨Nat.ne_of_gt (slt hgx), Nat.ne_of_gt (slt (HI.out.r i hi).row)⟩⟩
          have HI3 := hid (HI.out.keep HC3.out)
          have hc0 : (wr.alloc (.cells #[.int .i64 kd, .int .i64 on, .int .i64 at_] 40)).cell? ⟨wr.heap.size, 0, none⟩ = some (.int .i64 kd) := by rw [cell_of_row _ _ _ _ _ _ HQ.out]; rfl
          have hc1 : (wr.alloc (.cells #[.int .i64 kd, .int .i64 on, .int .i64 at_] 40)).cell? ⟨wr.heap.size, 1, none⟩ = some (.int .i64 on) := by rw [cell_of_row _ _ _ _ _ _ HQ.out]; rfl
          generalize wr.alloc (.cells #[.int .i64 kd, .int .i64 on, .int .i64 at_] 40) = w3 at *
          clear HQ hzo hr HI HC3
          generalize wr.heap.size = u at *
          go_upto_region 21 with (go_at_call 16; refine (HPK.out _).mono ?_; rintro e w4 ⟨rfl, rfl⟩)
          clear hc0 hc1 HPK HI
          by_cases q1 : kd = 1
          · subst q1
            go_wp2_with fail
            have HId3 := hid HI3.out.drew
            have HOd3 := hid HO3.out.drew
            refine wp_region_noPanic ?_
            refine wp_region_held_drew (S := S4 x y z u k (N k) (P k) (R k) at_) (by as_aux_lemma => kernel_rfl) (HId3.out.four HOd3.out hk2') (fun hHeld => ?_)
            generalize w3.drew = wd3 at *
            refine takeVal 0 91 (.int .i64 (k : Int)) rfl (by as_aux_lemma => kernel_rfl) (by as_aux_lemma => kernel_rfl) (by as_aux_lemma => kernel_rfl) rfl (by rfl) (fun _ _ _ h => h) hHeld (fun _ hw' => rfl) ?_
            simp only [List.setIfInBounds_toArray, List.set_cons_zero, List.set_cons_succ]
            refine takeVal 1 92 (.pointer (some ⟨y, k, none⟩)) rfl (by as_aux_lemma => kernel_rfl) (by as_aux_lemma => kernel_rfl) (by as_aux_lemma => kernel_rfl) rfl (by rfl) (fun _ _ _ h => h) hHeld (fun _ hw' => by go_simp) ?_
            simp only [List.setIfInBounds_toArray, List.set_cons_zero, List.set_cons_succ]
            refine takeVal 2 93 (.pointer (some ⟨P k, 0, none⟩)) rfl (by as_aux_lemma => kernel_rfl) (by as_aux_lemma => kernel_rfl) (by as_aux_lemma => kernel_rfl) rfl (by rfl) (fun _ _ _ h => h) hHeld (fun _ hw' => by have := hw'.y; go_simp) ?_
            simp only [List.setIfInBounds_toArray, List.set_cons_zero, List.set_cons_succ]
            refine takeVal 3 94 (.pointer (some ⟨u, 2, none⟩)) rfl (by as_aux_lemma => kernel_rfl) (by as_aux_lemma => kernel_rfl) (by as_aux_lemma => kernel_rfl) rfl (by rfl) (fun _ _ _ h => h) hHeld (fun _ hw' => by go_simp) ?_
            simp only [List.setIfInBounds_toArray, List.set_cons_zero, List.set_cons_succ]
            refine takeVal 4 95 (.int .i64 at_) rfl (by as_aux_lemma => kernel_rfl) (by as_aux_lemma => kernel_rfl) (by as_aux_lemma => kernel_rfl) rfl (by rfl) (fun _ _ _ h => h) hHeld (fun _ hw' => by have := hw'.o; go_simp) ?_
            simp only [List.setIfInBounds_toArray, List.set_cons_zero, List.set_cons_succ]
            refine step1 5 (by as_aux_lemma => kernel_rfl) ?_
            refine stCall 5 96 17 #[.pointer (some ⟨P k, 0, none⟩), .int .i64 at_] _ rfl rfl (by rfl) (by go_simp) (set_any at_ _ (HId3.out.b k hk2')) ?_
            rintro e w5 ⟨rfl, h5, c5⟩
            have HI5 := hid (HId3.out.setB hk2' h5 c5 (by rw [putL_len]; exact HId3.out.nb k hk2'))
            have HO5 := hid (HOd3.out.setB hk2' c5)
            refine ⟨_, rfl, HI5.out.four HO5.out hk2', ?_⟩
            have hHeld5 := HI5.out.four HO5.out hk2'
            clear hHeld
            have hHeld := hHeld5
            clear h5 c5
            simp only [List.setIfInBounds_toArray, List.set_cons_zero, List.set_cons_succ]
            refine takeVal 6 20 (.int .i64 (putE (S k) at_)) rfl (by as_aux_lemma => kernel_rfl) (by as_aux_lemma => kernel_rfl) (by as_aux_lemma => kernel_rfl) rfl (by rfl) (fun _ _ _ h => h) hHeld (fun _ hw' => rfl) ?_
            simp only [List.setIfInBounds_toArray, List.set_cons_zero, List.set_cons_succ]
            refine wpAnyH_done (by as_aux_lemma => kernel_rfl) ?_ _
            refine NoPanic.normal ?_
            clear HI3 HO3 HId3 HOd3
            go_wp2_with fail
            have HId5 := hid HI5.out.drew
            have HOd5 := hid HO5.out.drew
            refine wp_region_noPanic ?_
            refine wp_region_held_drew (S := S4 x y z u k (N k) (P k) (R k) at_) (by as_aux_lemma => kernel_rfl) (HId5.out.four HOd5.out hk2') (fun hHeld => ?_)
            generalize w5.drew = wd5 at *
            refine takeVal 0 97 (.int .i64 (putE (S k) at_)) rfl (by as_aux_lemma => kernel_rfl) (by as_aux_lemma => kernel_rfl) (by as_aux_lemma => kernel_rfl) rfl (by rfl) (fun _ _ _ h => h) hHeld (fun _ hw' => rfl) ?_
            simp only [List.setIfInBounds_toArray, List.set_cons_zero, List.set_cons_succ]
            refine takeVal 1 98 (.int .i64 (k : Int)) rfl (by as_aux_lemma => kernel_rfl) (by as_aux_lemma => kernel_rfl) (by as_aux_lemma => kernel_rfl) rfl (by rfl) (fun _ _ _ h => h) hHeld (fun _ hw' => rfl) ?_
            simp only [List.setIfInBounds_toArray, List.set_cons_zero, List.set_cons_succ]
            refine takeVal 2 99 (.pointer (some ⟨z, k, none⟩)) rfl (by as_aux_lemma => kernel_rfl) (by as_aux_lemma => kernel_rfl) (by as_aux_lemma => kernel_rfl) rfl (by rfl) (fun _ _ _ h => h) hHeld (fun _ hw' => by go_simp) ?_
            simp only [List.setIfInBounds_toArray, List.set_cons_zero, List.set_cons_succ]
            refine takeVal 3 100 (.pointer (some ⟨R k, 0, none⟩)) rfl (by as_aux_lemma => kernel_rfl) (by as_aux_lemma => kernel_rfl) (by as_aux_lemma => kernel_rfl) rfl (by rfl) (fun _ _ _ h => h) hHeld (fun _ hw' => by have := hw'.z; go_simp) ?_
            simp only [List.setIfInBounds_toArray, List.set_cons_zero, List.set_cons_succ]
            refine takeVal 4 101 (.pointer (some ⟨u, 2, none⟩)) rfl (by as_aux_lemma => kernel_rfl) (by as_aux_lemma => kernel_rfl) (by as_aux_lemma => kernel_rfl) rfl (by rfl) (fun _ _ _ h => h) hHeld (fun _ hw' => by go_simp) ?_
            simp only [List.setIfInBounds_toArray, List.set_cons_zero, List.set_cons_succ]
            refine takeVal 5 102 (.int .i64 at_) rfl (by as_aux_lemma => kernel_rfl) (by as_aux_lemma => kernel_rfl) (by as_aux_lemma => kernel_rfl) rfl (by rfl) (fun _ _ _ h => h) hHeld (fun _ hw' => by have := hw'.o; go_simp) ?_
            simp only [List.setIfInBounds_toArray, List.set_cons_zero, List.set_cons_succ]
            refine step1 6 (by as_aux_lemma => kernel_rfl) ?_
            refine stCall 6 103 18 #[.pointer (some ⟨R k, 0, none⟩), .int .i64 at_] _ rfl rfl (by rfl) (by go_simp) (rset_any at_ _ (HId5.out.r k hk2')) ?_
            rintro e w7 ⟨rfl, h7, c7⟩
            have HI7 := hid (HId5.out.setR hk2' h7 c7 (by rw [putL_len]; exact HId5.out.nr k hk2'))
            have HO7 := hid (HOd5.out.setR hk2' c7)
            refine ⟨_, rfl, HI7.out.four HO7.out hk2', ?_⟩
            have hHeld7 := HI7.out.four HO7.out hk2'
            clear hHeld
            have hHeld := hHeld7
            clear h7 c7
            simp only [List.setIfInBounds_toArray, List.set_cons_zero, List.set_cons_succ]
            refine takeVal 7 104 (.bool true) rfl (by as_aux_lemma => kernel_rfl) (by as_aux_lemma => kernel_rfl) (by as_aux_lemma => kernel_rfl) rfl (by rfl) (fun _ _ _ h => h) hHeld (fun _ hw' => by go_simp) ?_
            simp only [List.setIfInBounds_toArray, List.set_cons_zero, List.set_cons_succ]
            refine takeVal 8 19 (.bool true) rfl (by as_aux_lemma => kernel_rfl) (by as_aux_lemma => kernel_rfl) (by as_aux_lemma => kernel_rfl) rfl (by rfl) (fun _ _ _ h => h) hHeld (fun _ hw' => rfl) ?_
            simp only [List.setIfInBounds_toArray, List.set_cons_zero, List.set_cons_succ]
            refine wpAnyH_done (by as_aux_lemma => kernel_rfl) ?_ _
            refine NoPanic.normal ?_
            clear HI5 HO5 HId5 HOd5
            go_wp2_with fail
            go_roundw
            case rel => exact ⟨j + 1, _, by omega, by go_num, HI7⟩
            case measure => simp [intOf]; omega
          have k1 : (kd == 1) = false := by simp [q1]
          clear q1
          by_cases q2 : kd = 2
          · subst q2
            go_wp2_with fail
            have HId3 := hid HI3.out.drew
            have HOd3 := hid HO3.out.drew
            refine wp_region_noPanic ?_
            refine wp_region_held_drew (S := S4 x y z u k (N k) (P k) (R k) at_) (by as_aux_lemma => kernel_rfl) (HId3.out.four HOd3.out hk2') (fun hHeld => ?_)
            generalize w3.drew = wd3 at *
            refine takeVal 0 107 (.int .i64 (k : Int)) rfl (by as_aux_lemma => kernel_rfl) (by as_aux_lemma => kernel_rfl) (by as_aux_lemma => kernel_rfl) rfl (by rfl) (fun _ _ _ h => h) hHeld (fun _ hw' => rfl) ?_
            simp only [List.setIfInBounds_toArray, List.set_cons_zero, List.set_cons_succ]
            refine takeVal 1 108 (.pointer (some ⟨y, k, none⟩)) rfl (by as_aux_lemma => kernel_rfl) (by as_aux_lemma => kernel_rfl) (by as_aux_lemma => kernel_rfl) rfl (by rfl) (fun _ _ _ h => h) hHeld (fun _ hw' => by go_simp) ?_
            simp only [List.setIfInBounds_toArray, List.set_cons_zero, List.set_cons_succ]
            refine takeVal 2 109 (.pointer (some ⟨P k, 0, none⟩)) rfl (by as_aux_lemma => kernel_rfl) (by as_aux_lemma => kernel_rfl) (by as_aux_lemma => kernel_rfl) rfl (by rfl) (fun _ _ _ h => h) hHeld (fun _ hw' => by have := hw'.y; go_simp) ?_
            simp only [List.setIfInBounds_toArray, List.set_cons_zero, List.set_cons_succ]
            refine takeVal 3 110 (.pointer (some ⟨u, 2, none⟩)) rfl (by as_aux_lemma => kernel_rfl) (by as_aux_lemma => kernel_rfl) (by as_aux_lemma => kernel_rfl) rfl (by rfl) (fun _ _ _ h => h) hHeld (fun _ hw' => by go_simp) ?_
            simp only [List.setIfInBounds_toArray, List.set_cons_zero, List.set_cons_succ]
            refine takeVal 4 111 (.int .i64 at_) rfl (by as_aux_lemma => kernel_rfl) (by as_aux_lemma => kernel_rfl) (by as_aux_lemma => kernel_rfl) rfl (by rfl) (fun _ _ _ h => h) hHeld (fun _ hw' => by have := hw'.o; go_simp) ?_
            simp only [List.setIfInBounds_toArray, List.set_cons_zero, List.set_cons_succ]
            refine step1 5 (by as_aux_lemma => kernel_rfl) ?_
            refine stCall 5 112 19 #[.pointer (some ⟨P k, 0, none⟩), .int .i64 at_] _ rfl rfl (by rfl) (by go_simp) (clear_any at_ _ (HId3.out.b k hk2')) ?_
            rintro e w5 ⟨rfl, h5, c5⟩
            have HI5 := hid (HId3.out.setB hk2' h5 c5 (by rw [putL_len]; exact HId3.out.nb k hk2'))
            have HO5 := hid (HOd3.out.setB hk2' c5)
            refine ⟨_, rfl, HI5.out.four HO5.out hk2', ?_⟩
            have hHeld5 := HI5.out.four HO5.out hk2'
            clear hHeld
            have hHeld := hHeld5
            clear h5 c5
            simp only [List.setIfInBounds_toArray, List.set_cons_zero, List.set_cons_succ]
            refine takeVal 6 21 (.int .i64 (putE (S k) at_)) rfl (by as_aux_lemma => kernel_rfl) (by as_aux_lemma => kernel_rfl) (by as_aux_lemma => kernel_rfl) rfl (by rfl) (fun _ _ _ h => h) hHeld (fun _ hw' => rfl) ?_
            simp only [List.setIfInBounds_toArray, List.set_cons_zero, List.set_cons_succ]
            refine wpAnyH_done (by as_aux_lemma => kernel_rfl) ?_ _
            refine NoPanic.normal ?_
            clear HI3 HO3 HId3 HOd3
            go_wp2_with fail
            have HId5 := hid HI5.out.drew
            have HOd5 := hid HO5.out.drew
            refine wp_region_noPanic ?_
            refine wp_region_held_drew (S := S4 x y z u k (N k) (P k) (R k) at_) (by as_aux_lemma => kernel_rfl) (HId5.out.four HOd5.out hk2') (fun hHeld => ?_)
            generalize w5.drew = wd5 at *
            refine takeVal 0 113 (.int .i64 (putE (S k) at_)) rfl (by as_aux_lemma => kernel_rfl) (by as_aux_lemma => kernel_rfl) (by as_aux_lemma => kernel_rfl) rfl (by rfl) (fun _ _ _ h => h) hHeld (fun _ hw' => rfl) ?_
            simp only [List.setIfInBounds_toArray, List.set_cons_zero, List.set_cons_succ]
            refine takeVal 1 114 (.int .i64 (k : Int)) rfl (by as_aux_lemma => kernel_rfl) (by as_aux_lemma => kernel_rfl) (by as_aux_lemma => kernel_rfl) rfl (by rfl) (fun _ _ _ h => h) hHeld (fun _ hw' => rfl) ?_
            simp only [List.setIfInBounds_toArray, List.set_cons_zero, List.set_cons_succ]
            refine takeVal 2 115 (.pointer (some ⟨z, k, none⟩)) rfl (by as_aux_lemma => kernel_rfl) (by as_aux_lemma => kernel_rfl) (by as_aux_lemma => kernel_rfl) rfl (by rfl) (fun _ _ _ h => h) hHeld (fun _ hw' => by go_simp) ?_
            simp only [List.setIfInBounds_toArray, List.set_cons_zero, List.set_cons_succ]
            refine takeVal 3 116 (.pointer (some ⟨R k, 0, none⟩)) rfl (by as_aux_lemma => kernel_rfl) (by as_aux_lemma => kernel_rfl) (by as_aux_lemma => kernel_rfl) rfl (by rfl) (fun _ _ _ h => h) hHeld (fun _ hw' => by have := hw'.z; go_simp) ?_
            simp only [List.setIfInBounds_toArray, List.set_cons_zero, List.set_cons_succ]
            refine takeVal 4 117 (.pointer (some ⟨u, 2, none⟩)) rfl (by as_aux_lemma => kernel_rfl) (by as_aux_lemma => kernel_rfl) (by as_aux_lemma => kernel_rfl) rfl (by rfl) (fun _ _ _ h => h) hHeld (fun _ hw' => by go_simp) ?_
            simp only [List.setIfInBounds_toArray, List.set_cons_zero, List.set_cons_succ]
            refine takeVal 5 118 (.int .i64 at_) rfl (by as_aux_lemma => kernel_rfl) (by as_aux_lemma => kernel_rfl) (by as_aux_lemma => kernel_rfl) rfl (by rfl) (fun _ _ _ h => h) hHeld (fun _ hw' => by have := hw'.o; go_simp) ?_
            simp only [List.setIfInBounds_toArray, List.set_cons_zero, List.set_cons_succ]
            refine step1 6 (by as_aux_lemma => kernel_rfl) ?_
            refine stCall 6 119 20 #[.pointer (some ⟨R k, 0, none⟩), .int .i64 at_] _ rfl rfl (by rfl) (by go_simp) (rclear_any at_ _ (HId5.out.r k hk2')) ?_
            rintro e w7 ⟨rfl, h7, c7⟩
            have HI7 := hid (HId5.out.setR hk2' h7 c7 (by rw [putL_len]; exact HId5.out.nr k hk2'))
            have HO7 := hid (HOd5.out.setR hk2' c7)
            refine ⟨_, rfl, HI7.out.four HO7.out hk2', ?_⟩
            have hHeld7 := HI7.out.four HO7.out hk2'
            clear hHeld
            have hHeld := hHeld7
            clear h7 c7
            simp only [List.setIfInBounds_toArray, List.set_cons_zero, List.set_cons_succ]
            refine takeVal 7 120 (.bool true) rfl (by as_aux_lemma => kernel_rfl) (by as_aux_lemma => kernel_rfl) (by as_aux_lemma => kernel_rfl) rfl (by rfl) (fun _ _ _ h => h) hHeld (fun _ hw' => by go_simp) ?_
            simp only [List.setIfInBounds_toArray, List.set_cons_zero, List.set_cons_succ]
            refine takeVal 8 19 (.bool true) rfl (by as_aux_lemma => kernel_rfl) (by as_aux_lemma => kernel_rfl) (by as_aux_lemma => kernel_rfl) rfl (by rfl) (fun _ _ _ h => h) hHeld (fun _ hw' => rfl) ?_
            simp only [List.setIfInBounds_toArray, List.set_cons_zero, List.set_cons_succ]
            refine wpAnyH_done (by as_aux_lemma => kernel_rfl) ?_ _
            refine NoPanic.normal ?_
            clear HI5 HO5 HId5 HOd5
            go_wp2_with fail
            go_roundw
            case rel => exact ⟨j + 1, _, by omega, by go_num, HI7⟩
            case measure => simp [intOf]; omega
          have k2 : (kd == 2) = false := by simp [q2]
          clear q2
          by_cases q3 : kd = 3
          · subst q3
            go_wp2_with fail
            have HId3 := hid HI3.out.drew
            have HOd3 := hid HO3.out.drew
            refine wp_region_noPanic ?_
            refine wp_region_held_drew (S := S4 x y z u k (N k) (P k) (R k) at_) (by as_aux_lemma => kernel_rfl) (HId3.out.four HOd3.out hk2') (fun hHeld => ?_)
            generalize w3.drew = wd3 at *
            refine takeVal 0 123 (.int .i64 (k : Int)) rfl (by as_aux_lemma => kernel_rfl) (by as_aux_lemma => kernel_rfl) (by as_aux_lemma => kernel_rfl) rfl (by rfl) (fun _ _ _ h => h) hHeld (fun _ hw' => rfl) ?_
            simp only [List.setIfInBounds_toArray, List.set_cons_zero, List.set_cons_succ]
            refine takeVal 1 124 (.pointer (some ⟨y, k, none⟩)) rfl (by as_aux_lemma => kernel_rfl) (by as_aux_lemma => kernel_rfl) (by as_aux_lemma => kernel_rfl) rfl (by rfl) (fun _ _ _ h => h) hHeld (fun _ hw' => by go_simp) ?_
            simp only [List.setIfInBounds_toArray, List.set_cons_zero, List.set_cons_succ]
            refine takeVal 2 125 (.pointer (some ⟨P k, 0, none⟩)) rfl (by as_aux_lemma => kernel_rfl) (by as_aux_lemma => kernel_rfl) (by as_aux_lemma => kernel_rfl) rfl (by rfl) (fun _ _ _ h => h) hHeld (fun _ hw' => by have := hw'.y; go_simp) ?_
            simp only [List.setIfInBounds_toArray, List.set_cons_zero, List.set_cons_succ]
            refine takeVal 3 126 (.pointer (some ⟨u, 2, none⟩)) rfl (by as_aux_lemma => kernel_rfl) (by as_aux_lemma => kernel_rfl) (by as_aux_lemma => kernel_rfl) rfl (by rfl) (fun _ _ _ h => h) hHeld (fun _ hw' => by go_simp) ?_
            simp only [List.setIfInBounds_toArray, List.set_cons_zero, List.set_cons_succ]
            refine takeVal 4 127 (.int .i64 at_) rfl (by as_aux_lemma => kernel_rfl) (by as_aux_lemma => kernel_rfl) (by as_aux_lemma => kernel_rfl) rfl (by rfl) (fun _ _ _ h => h) hHeld (fun _ hw' => by have := hw'.o; go_simp) ?_
            simp only [List.setIfInBounds_toArray, List.set_cons_zero, List.set_cons_succ]
            refine step1 5 (by as_aux_lemma => kernel_rfl) ?_
            refine stCall 5 128 15 #[.pointer (some ⟨P k, 0, none⟩), .int .i64 at_] _ rfl rfl (by rfl) (by go_simp) (has_any at_ _ (HId3.out.b k hk2')) ?_
            rintro e _ ⟨rfl, rfl⟩
            refine ⟨_, rfl, hHeld, ?_⟩
            simp only [List.setIfInBounds_toArray, List.set_cons_zero, List.set_cons_succ]
            refine takeVal 6 22 (.bool (hasL (S k) at_)) rfl (by as_aux_lemma => kernel_rfl) (by as_aux_lemma => kernel_rfl) (by as_aux_lemma => kernel_rfl) rfl (by rfl) (fun _ _ _ h => h) hHeld (fun _ hw' => rfl) ?_
            simp only [List.setIfInBounds_toArray, List.set_cons_zero, List.set_cons_succ]
            refine wpAnyH_done (by as_aux_lemma => kernel_rfl) ?_ _
            refine NoPanic.normal ?_
            clear HI3 HO3
            go_wp2_with fail
            have HId5 := hid HId3.out.drew
            have HOd5 := hid HOd3.out.drew
            refine wp_region_noPanic ?_
            refine wp_region_held_drew (S := S4 x y z u k (N k) (P k) (R k) at_) (by as_aux_lemma => kernel_rfl) (HId5.out.four HOd5.out hk2') (fun hHeld => ?_)
            generalize wd3.drew = wd5 at *
            refine takeVal 0 129 (.bool (hasL (S k) at_)) rfl (by as_aux_lemma => kernel_rfl) (by as_aux_lemma => kernel_rfl) (by as_aux_lemma => kernel_rfl) rfl (by rfl) (fun _ _ _ h => h) hHeld (fun _ hw' => rfl) ?_
            simp only [List.setIfInBounds_toArray, List.set_cons_zero, List.set_cons_succ]
            refine takeVal 1 130 (.int .i64 (k : Int)) rfl (by as_aux_lemma => kernel_rfl) (by as_aux_lemma => kernel_rfl) (by as_aux_lemma => kernel_rfl) rfl (by rfl) (fun _ _ _ h => h) hHeld (fun _ hw' => rfl) ?_
            simp only [List.setIfInBounds_toArray, List.set_cons_zero, List.set_cons_succ]
            refine takeVal 2 131 (.pointer (some ⟨z, k, none⟩)) rfl (by as_aux_lemma => kernel_rfl) (by as_aux_lemma => kernel_rfl) (by as_aux_lemma => kernel_rfl) rfl (by rfl) (fun _ _ _ h => h) hHeld (fun _ hw' => by go_simp) ?_
            simp only [List.setIfInBounds_toArray, List.set_cons_zero, List.set_cons_succ]
            refine takeVal 3 132 (.pointer (some ⟨R k, 0, none⟩)) rfl (by as_aux_lemma => kernel_rfl) (by as_aux_lemma => kernel_rfl) (by as_aux_lemma => kernel_rfl) rfl (by rfl) (fun _ _ _ h => h) hHeld (fun _ hw' => by have := hw'.z; go_simp) ?_
            simp only [List.setIfInBounds_toArray, List.set_cons_zero, List.set_cons_succ]
            refine takeVal 4 133 (.pointer (some ⟨u, 2, none⟩)) rfl (by as_aux_lemma => kernel_rfl) (by as_aux_lemma => kernel_rfl) (by as_aux_lemma => kernel_rfl) rfl (by rfl) (fun _ _ _ h => h) hHeld (fun _ hw' => by go_simp) ?_
            simp only [List.setIfInBounds_toArray, List.set_cons_zero, List.set_cons_succ]
            refine takeVal 5 134 (.int .i64 at_) rfl (by as_aux_lemma => kernel_rfl) (by as_aux_lemma => kernel_rfl) (by as_aux_lemma => kernel_rfl) rfl (by rfl) (fun _ _ _ h => h) hHeld (fun _ hw' => by have := hw'.o; go_simp) ?_
            simp only [List.setIfInBounds_toArray, List.set_cons_zero, List.set_cons_succ]
            refine step1 6 (by as_aux_lemma => kernel_rfl) ?_
            refine stCall 6 135 21 #[.pointer (some ⟨R k, 0, none⟩), .int .i64 at_] _ rfl rfl (by rfl) (by go_simp) (rhas_any at_ _ (HId5.out.r k hk2')) ?_
            rintro e _ ⟨rfl, rfl⟩
            refine ⟨_, rfl, hHeld, ?_⟩
            simp only [List.setIfInBounds_toArray, List.set_cons_zero, List.set_cons_succ]
            refine takeVal 7 136 (.bool true) rfl (by as_aux_lemma => kernel_rfl) (by as_aux_lemma => kernel_rfl) (by as_aux_lemma => kernel_rfl) rfl (by rfl) (fun _ _ _ h => h) hHeld (fun _ hw' => by go_simp) ?_
            simp only [List.setIfInBounds_toArray, List.set_cons_zero, List.set_cons_succ]
            refine takeVal 8 19 (.bool true) rfl (by as_aux_lemma => kernel_rfl) (by as_aux_lemma => kernel_rfl) (by as_aux_lemma => kernel_rfl) rfl (by rfl) (fun _ _ _ h => h) hHeld (fun _ hw' => rfl) ?_
            simp only [List.setIfInBounds_toArray, List.set_cons_zero, List.set_cons_succ]
            refine wpAnyH_done (by as_aux_lemma => kernel_rfl) ?_ _
            refine NoPanic.normal ?_
            go_wp2_with fail
            go_roundw
            case rel => exact ⟨j + 1, _, by omega, by go_num, HId5⟩
            case measure => simp [intOf]; omega
          have k3 : (kd == 3) = false := by simp [q3]
          clear q3
          by_cases q4 : kd = 4
          · subst q4
            obtain ⟨fx, fb, hF0⟩ := first_ex (S k) at_
            have hF := hid hF0
            clear hF0
            go_wp2_with fail
            have HId3 := hid HI3.out.drew
            have HOd3 := hid HO3.out.drew
            refine wp_region_noPanic ?_
            refine wp_region_held_drew (S := S4 x y z u k (N k) (P k) (R k) at_) (by as_aux_lemma => kernel_rfl) (HId3.out.four HOd3.out hk2') (fun hHeld => ?_)
            generalize w3.drew = wd3 at *
            refine takeVal 0 140 (.int .i64 (k : Int)) rfl (by as_aux_lemma => kernel_rfl) (by as_aux_lemma => kernel_rfl) (by as_aux_lemma => kernel_rfl) rfl (by rfl) (fun _ _ _ h => h) hHeld (fun _ hw' => rfl) ?_
            simp only [List.setIfInBounds_toArray, List.set_cons_zero, List.set_cons_succ]
            refine takeVal 1 141 (.pointer (some ⟨y, k, none⟩)) rfl (by as_aux_lemma => kernel_rfl) (by as_aux_lemma => kernel_rfl) (by as_aux_lemma => kernel_rfl) rfl (by rfl) (fun _ _ _ h => h) hHeld (fun _ hw' => by go_simp) ?_
            simp only [List.setIfInBounds_toArray, List.set_cons_zero, List.set_cons_succ]
            refine takeVal 2 142 (.pointer (some ⟨P k, 0, none⟩)) rfl (by as_aux_lemma => kernel_rfl) (by as_aux_lemma => kernel_rfl) (by as_aux_lemma => kernel_rfl) rfl (by rfl) (fun _ _ _ h => h) hHeld (fun _ hw' => by have := hw'.y; go_simp) ?_
            simp only [List.setIfInBounds_toArray, List.set_cons_zero, List.set_cons_succ]
            refine takeVal 3 143 (.pointer (some ⟨u, 2, none⟩)) rfl (by as_aux_lemma => kernel_rfl) (by as_aux_lemma => kernel_rfl) (by as_aux_lemma => kernel_rfl) rfl (by rfl) (fun _ _ _ h => h) hHeld (fun _ hw' => by go_simp) ?_
            simp only [List.setIfInBounds_toArray, List.set_cons_zero, List.set_cons_succ]
            refine takeVal 4 144 (.int .i64 at_) rfl (by as_aux_lemma => kernel_rfl) (by as_aux_lemma => kernel_rfl) (by as_aux_lemma => kernel_rfl) rfl (by rfl) (fun _ _ _ h => h) hHeld (fun _ hw' => by have := hw'.o; go_simp) ?_
            simp only [List.setIfInBounds_toArray, List.set_cons_zero, List.set_cons_succ]
            refine step1 5 (by as_aux_lemma => kernel_rfl) ?_
            refine stCall 5 145 12 #[.pointer (some ⟨P k, 0, none⟩), .int .i64 at_] _ rfl rfl (by rfl) (by go_simp) (first_to hF.out _ (HId3.out.b k hk2')) ?_
            rintro e _ ⟨rfl, rfl⟩
            refine ⟨_, rfl, hHeld, ?_⟩
            simp only [List.setIfInBounds_toArray, List.set_cons_zero, List.set_cons_succ]
            refine takeVal 6 139 (.tuple #[.int .i64 fx, .bool fb]) rfl (by as_aux_lemma => kernel_rfl) (by as_aux_lemma => kernel_rfl) (by as_aux_lemma => kernel_rfl) rfl (by rfl) (fun _ _ _ h => h) hHeld (fun _ hw' => rfl) ?_
            simp only [List.setIfInBounds_toArray, List.set_cons_zero, List.set_cons_succ]
            refine takeVal 7 146 (.int .i64 fx) rfl (by as_aux_lemma => kernel_rfl) (by as_aux_lemma => kernel_rfl) (by as_aux_lemma => kernel_rfl) rfl (by rfl) (fun _ _ _ h => h) hHeld (fun _ hw' => by go_simp) ?_
            simp only [List.setIfInBounds_toArray, List.set_cons_zero, List.set_cons_succ]
            refine takeVal 8 147 (.bool fb) rfl (by as_aux_lemma => kernel_rfl) (by as_aux_lemma => kernel_rfl) (by as_aux_lemma => kernel_rfl) rfl (by rfl) (fun _ _ _ h => h) hHeld (fun _ hw' => by go_simp) ?_
            simp only [List.setIfInBounds_toArray, List.set_cons_zero, List.set_cons_succ]
            refine takeVal 9 23 (.int .i64 fx) rfl (by as_aux_lemma => kernel_rfl) (by as_aux_lemma => kernel_rfl) (by as_aux_lemma => kernel_rfl) rfl (by rfl) (fun _ _ _ h => h) hHeld (fun _ hw' => rfl) ?_
            simp only [List.setIfInBounds_toArray, List.set_cons_zero, List.set_cons_succ]
            refine takeVal 10 24 (.bool fb) rfl (by as_aux_lemma => kernel_rfl) (by as_aux_lemma => kernel_rfl) (by as_aux_lemma => kernel_rfl) rfl (by rfl) (fun _ _ _ h => h) hHeld (fun _ hw' => rfl) ?_
            simp only [List.setIfInBounds_toArray, List.set_cons_zero, List.set_cons_succ]
            refine wpAnyH_done (by as_aux_lemma => kernel_rfl) ?_ _
            refine NoPanic.normal ?_
            clear HI3 HO3
            go_wp2_with fail
            have HId5 := hid HId3.out.drew
            have HOd5 := hid HOd3.out.drew
            refine wp_region_noPanic ?_
            refine wp_region_held_drew (S := S4 x y z u k (N k) (P k) (R k) at_) (by as_aux_lemma => kernel_rfl) (HId5.out.four HOd5.out hk2') (fun hHeld => ?_)
            generalize wd3.drew = wd5 at *
            refine takeVal 0 149 (.int .i64 (k : Int)) rfl (by as_aux_lemma => kernel_rfl) (by as_aux_lemma => kernel_rfl) (by as_aux_lemma => kernel_rfl) rfl (by rfl) (fun _ _ _ h => h) hHeld (fun _ hw' => rfl) ?_
            simp only [List.setIfInBounds_toArray, List.set_cons_zero, List.set_cons_succ]
            refine takeVal 1 150 (.pointer (some ⟨z, k, none⟩)) rfl (by as_aux_lemma => kernel_rfl) (by as_aux_lemma => kernel_rfl) (by as_aux_lemma => kernel_rfl) rfl (by rfl) (fun _ _ _ h => h) hHeld (fun _ hw' => by go_simp) ?_
            simp only [List.setIfInBounds_toArray, List.set_cons_zero, List.set_cons_succ]
            refine takeVal 2 151 (.pointer (some ⟨R k, 0, none⟩)) rfl (by as_aux_lemma => kernel_rfl) (by as_aux_lemma => kernel_rfl) (by as_aux_lemma => kernel_rfl) rfl (by rfl) (fun _ _ _ h => h) hHeld (fun _ hw' => by have := hw'.z; go_simp) ?_
            simp only [List.setIfInBounds_toArray, List.set_cons_zero, List.set_cons_succ]
            refine takeVal 3 152 (.pointer (some ⟨u, 2, none⟩)) rfl (by as_aux_lemma => kernel_rfl) (by as_aux_lemma => kernel_rfl) (by as_aux_lemma => kernel_rfl) rfl (by rfl) (fun _ _ _ h => h) hHeld (fun _ hw' => by go_simp) ?_
            simp only [List.setIfInBounds_toArray, List.set_cons_zero, List.set_cons_succ]
            refine takeVal 4 153 (.int .i64 at_) rfl (by as_aux_lemma => kernel_rfl) (by as_aux_lemma => kernel_rfl) (by as_aux_lemma => kernel_rfl) rfl (by rfl) (fun _ _ _ h => h) hHeld (fun _ hw' => by have := hw'.o; go_simp) ?_
            simp only [List.setIfInBounds_toArray, List.set_cons_zero, List.set_cons_succ]
            refine step1 5 (by as_aux_lemma => kernel_rfl) ?_
            refine stCall 5 154 22 #[.pointer (some ⟨R k, 0, none⟩), .int .i64 at_] _ rfl rfl (by rfl) (by go_simp) (rfirst_to hF.out _ hat (HId5.out.r k hk2')) ?_
            rintro e _ ⟨rfl, rfl⟩
            refine ⟨_, rfl, hHeld, ?_⟩
            simp only [List.setIfInBounds_toArray, List.set_cons_zero, List.set_cons_succ]
            refine takeVal 6 148 (.tuple #[.int .i64 fx, .bool fb]) rfl (by as_aux_lemma => kernel_rfl) (by as_aux_lemma => kernel_rfl) (by as_aux_lemma => kernel_rfl) rfl (by rfl) (fun _ _ _ h => h) hHeld (fun _ hw' => rfl) ?_
            simp only [List.setIfInBounds_toArray, List.set_cons_zero, List.set_cons_succ]
            refine takeVal 7 155 (.int .i64 fx) rfl (by as_aux_lemma => kernel_rfl) (by as_aux_lemma => kernel_rfl) (by as_aux_lemma => kernel_rfl) rfl (by rfl) (fun _ _ _ h => h) hHeld (fun _ hw' => by go_simp) ?_
            simp only [List.setIfInBounds_toArray, List.set_cons_zero, List.set_cons_succ]
            refine takeVal 8 156 (.bool fb) rfl (by as_aux_lemma => kernel_rfl) (by as_aux_lemma => kernel_rfl) (by as_aux_lemma => kernel_rfl) rfl (by rfl) (fun _ _ _ h => h) hHeld (fun _ hw' => by go_simp) ?_
            simp only [List.setIfInBounds_toArray, List.set_cons_zero, List.set_cons_succ]
            refine takeVal 9 25 (.int .i64 fx) rfl (by as_aux_lemma => kernel_rfl) (by as_aux_lemma => kernel_rfl) (by as_aux_lemma => kernel_rfl) rfl (by rfl) (fun _ _ _ h => h) hHeld (fun _ hw' => rfl) ?_
            simp only [List.setIfInBounds_toArray, List.set_cons_zero, List.set_cons_succ]
            refine takeVal 10 26 (.bool fb) rfl (by as_aux_lemma => kernel_rfl) (by as_aux_lemma => kernel_rfl) (by as_aux_lemma => kernel_rfl) rfl (by rfl) (fun _ _ _ h => h) hHeld (fun _ hw' => rfl) ?_
            simp only [List.setIfInBounds_toArray, List.set_cons_zero, List.set_cons_succ]
            refine wpAnyH_done (by as_aux_lemma => kernel_rfl) ?_ _
            refine NoPanic.normal ?_
            go_wp2_with fail
            go_roundw
            case rel => exact ⟨j + 1, _, by omega, by go_num, HId5⟩
            case measure => simp [intOf]; omega
          have k4 : (kd == 4) = false := by simp [q4]
          clear q4
          by_cases q5 : kd = 5
          · subst q5
            have cy6 := HI3.out.cy k hk2'
            have HB6 := hid (HI3.out.b k hk2')
            go_wp2_with (go_at_call 14; refine (count_any _ HB6.out).mono ?_; rintro e w4 ⟨rfl, rfl⟩)
            clear cy6 HB6
            have HId3 := hid HI3.out.drew
            have HOd3 := hid HO3.out.drew
            refine wp_region_noPanic ?_
            refine wp_region_held_drew (S := S4 x y z u k (N k) (P k) (R k) at_) (by as_aux_lemma => kernel_rfl) (HId3.out.four HOd3.out hk2') (fun hHeld => ?_)
            generalize w3.drew = wd3 at *
            refine takeVal 0 171 (.int .i64 ((S k).count true : Nat)) rfl (by as_aux_lemma => kernel_rfl) (by as_aux_lemma => kernel_rfl) (by as_aux_lemma => kernel_rfl) rfl (by rfl) (fun _ _ _ h => h) hHeld (fun _ hw' => rfl) ?_
            simp only [List.setIfInBounds_toArray, List.set_cons_zero, List.set_cons_succ]
            refine takeVal 1 172 (.int .i64 (k : Int)) rfl (by as_aux_lemma => kernel_rfl) (by as_aux_lemma => kernel_rfl) (by as_aux_lemma => kernel_rfl) rfl (by rfl) (fun _ _ _ h => h) hHeld (fun _ hw' => rfl) ?_
            simp only [List.setIfInBounds_toArray, List.set_cons_zero, List.set_cons_succ]
            refine takeVal 2 173 (.pointer (some ⟨z, k, none⟩)) rfl (by as_aux_lemma => kernel_rfl) (by as_aux_lemma => kernel_rfl) (by as_aux_lemma => kernel_rfl) rfl (by rfl) (fun _ _ _ h => h) hHeld (fun _ hw' => by go_simp) ?_
            simp only [List.setIfInBounds_toArray, List.set_cons_zero, List.set_cons_succ]
            refine takeVal 3 174 (.pointer (some ⟨R k, 0, none⟩)) rfl (by as_aux_lemma => kernel_rfl) (by as_aux_lemma => kernel_rfl) (by as_aux_lemma => kernel_rfl) rfl (by rfl) (fun _ _ _ h => h) hHeld (fun _ hw' => by have := hw'.z; go_simp) ?_
            simp only [List.setIfInBounds_toArray, List.set_cons_zero, List.set_cons_succ]
            refine step1 4 (by as_aux_lemma => kernel_rfl) ?_
            refine stCall 4 175 23 #[.pointer (some ⟨R k, 0, none⟩)] _ rfl rfl (by rfl) (by go_simp) (rcount_any _ (HId3.out.r k hk2')) ?_
            rintro e _ ⟨rfl, rfl⟩
            refine ⟨_, rfl, hHeld, ?_⟩
            simp only [List.setIfInBounds_toArray, List.set_cons_zero, List.set_cons_succ]
            refine takeVal 5 176 (.bool true) rfl (by as_aux_lemma => kernel_rfl) (by as_aux_lemma => kernel_rfl) (by as_aux_lemma => kernel_rfl) rfl (by rfl) (fun _ _ _ h => h) hHeld (fun _ hw' => by go_simp) ?_
            simp only [List.setIfInBounds_toArray, List.set_cons_zero, List.set_cons_succ]
            refine takeVal 6 177 (.bool true) rfl (by as_aux_lemma => kernel_rfl) (by as_aux_lemma => kernel_rfl) (by as_aux_lemma => kernel_rfl) rfl (by rfl) (fun _ _ _ h => h) hHeld (fun _ hw' => rfl) ?_
            simp only [List.setIfInBounds_toArray, List.set_cons_zero, List.set_cons_succ]
            refine takeVal 7 178 (.int .i64 (k : Int)) rfl (by as_aux_lemma => kernel_rfl) (by as_aux_lemma => kernel_rfl) (by as_aux_lemma => kernel_rfl) rfl (by rfl) (fun _ _ _ h => h) hHeld (fun _ hw' => rfl) ?_
            simp only [List.setIfInBounds_toArray, List.set_cons_zero, List.set_cons_succ]
            refine takeVal 8 179 (.pointer (some ⟨y, k, none⟩)) rfl (by as_aux_lemma => kernel_rfl) (by as_aux_lemma => kernel_rfl) (by as_aux_lemma => kernel_rfl) rfl (by rfl) (fun _ _ _ h => h) hHeld (fun _ hw' => by go_simp) ?_
            simp only [List.setIfInBounds_toArray, List.set_cons_zero, List.set_cons_succ]
            refine takeVal 9 180 (.pointer (some ⟨P k, 0, none⟩)) rfl (by as_aux_lemma => kernel_rfl) (by as_aux_lemma => kernel_rfl) (by as_aux_lemma => kernel_rfl) rfl (by rfl) (fun _ _ _ h => h) hHeld (fun _ hw' => by have := hw'.y; go_simp) ?_
            simp only [List.setIfInBounds_toArray, List.set_cons_zero, List.set_cons_succ]
            refine takeVal 11 182 (.int .i64 (k : Int)) rfl (by as_aux_lemma => kernel_rfl) (by as_aux_lemma => kernel_rfl) (by as_aux_lemma => kernel_rfl) rfl (by rfl) (fun _ _ _ h => h) hHeld (fun _ hw' => rfl) ?_
            simp only [List.setIfInBounds_toArray, List.set_cons_zero, List.set_cons_succ]
            refine takeVal 12 183 (.pointer (some ⟨x, k, none⟩)) rfl (by as_aux_lemma => kernel_rfl) (by as_aux_lemma => kernel_rfl) (by as_aux_lemma => kernel_rfl) rfl (by rfl) (fun _ _ _ h => h) hHeld (fun _ hw' => by go_simp) ?_
            simp only [List.setIfInBounds_toArray, List.set_cons_zero, List.set_cons_succ]
            refine takeVal 13 184 (.int .i64 (N k : Int)) rfl (by as_aux_lemma => kernel_rfl) (by as_aux_lemma => kernel_rfl) (by as_aux_lemma => kernel_rfl) rfl (by rfl) (fun _ _ _ h => h) hHeld (fun _ hw' => by have := hw'.x; go_simp) ?_
            simp only [List.setIfInBounds_toArray, List.set_cons_zero, List.set_cons_succ]
            refine step1 10 (by as_aux_lemma => kernel_rfl) ?_
            refine stCall 10 181 13 #[.pointer (some ⟨P k, 0, none⟩)] _ rfl rfl (by rfl) (by go_simp) (len_any _ (HId3.out.b k hk2')) ?_
            rintro e _ ⟨rfl, rfl⟩
            refine ⟨_, rfl, hHeld, ?_⟩
            simp only [List.setIfInBounds_toArray, List.set_cons_zero, List.set_cons_succ]
            refine takeVal 14 185 (.bool true) rfl (by as_aux_lemma => kernel_rfl) (by as_aux_lemma => kernel_rfl) (by as_aux_lemma => kernel_rfl) rfl (by rfl) (fun _ _ _ h => h) hHeld (fun _ hw' => by have := HId3.out.nb k hk2'; go_simp) ?_
            simp only [List.setIfInBounds_toArray, List.set_cons_zero, List.set_cons_succ]
            refine takeVal 15 186 (.bool true) rfl (by as_aux_lemma => kernel_rfl) (by as_aux_lemma => kernel_rfl) (by as_aux_lemma => kernel_rfl) rfl (by rfl) (fun _ _ _ h => h) hHeld (fun _ hw' => rfl) ?_
            simp only [List.setIfInBounds_toArray, List.set_cons_zero, List.set_cons_succ]
            refine takeVal 16 19 (.bool true) rfl (by as_aux_lemma => kernel_rfl) (by as_aux_lemma => kernel_rfl) (by as_aux_lemma => kernel_rfl) rfl (by rfl) (fun _ _ _ h => h) hHeld (fun _ hw' => rfl) ?_
            simp only [List.setIfInBounds_toArray, List.set_cons_zero, List.set_cons_succ]
            refine wpAnyH_done (by as_aux_lemma => kernel_rfl) ?_ _
            refine NoPanic.normal ?_
            go_wp2_with fail
            go_roundw
            case rel => exact ⟨j + 1, _, by omega, by go_num, HId3⟩
            case measure => simp [intOf]; omega
          have k5 : (kd == 5) = false := by simp [q5]
          clear q5
          by_cases q6 : kd = 6
          · subst q6
            obtain ⟨fx, fb, hF0⟩ := first_ex (S k) at_
            have hF := hid hF0
            clear hF0
            go_wp2_with fail
            have HId3 := hid HI3.out.drew
            have HOd3 := hid HO3.out.drew
            refine wp_region_noPanic ?_
            refine wp_region_held_drew (S := S4 x y z u k (N k) (P k) (R k) at_) (by as_aux_lemma => kernel_rfl) (HId3.out.four HOd3.out hk2') (fun hHeld => ?_)
            generalize w3.drew = wd3 at *
            refine takeVal 0 190 (.int .i64 (k : Int)) rfl (by as_aux_lemma => kernel_rfl) (by as_aux_lemma => kernel_rfl) (by as_aux_lemma => kernel_rfl) rfl (by rfl) (fun _ _ _ h => h) hHeld (fun _ hw' => rfl) ?_
            simp only [List.setIfInBounds_toArray, List.set_cons_zero, List.set_cons_succ]
            refine takeVal 1 191 (.pointer (some ⟨y, k, none⟩)) rfl (by as_aux_lemma => kernel_rfl) (by as_aux_lemma => kernel_rfl) (by as_aux_lemma => kernel_rfl) rfl (by rfl) (fun _ _ _ h => h) hHeld (fun _ hw' => by go_simp) ?_
            simp only [List.setIfInBounds_toArray, List.set_cons_zero, List.set_cons_succ]
            refine takeVal 2 192 (.pointer (some ⟨P k, 0, none⟩)) rfl (by as_aux_lemma => kernel_rfl) (by as_aux_lemma => kernel_rfl) (by as_aux_lemma => kernel_rfl) rfl (by rfl) (fun _ _ _ h => h) hHeld (fun _ hw' => by have := hw'.y; go_simp) ?_
            simp only [List.setIfInBounds_toArray, List.set_cons_zero, List.set_cons_succ]
            refine takeVal 3 193 (.pointer (some ⟨u, 2, none⟩)) rfl (by as_aux_lemma => kernel_rfl) (by as_aux_lemma => kernel_rfl) (by as_aux_lemma => kernel_rfl) rfl (by rfl) (fun _ _ _ h => h) hHeld (fun _ hw' => by go_simp) ?_
            simp only [List.setIfInBounds_toArray, List.set_cons_zero, List.set_cons_succ]
            refine takeVal 4 194 (.int .i64 at_) rfl (by as_aux_lemma => kernel_rfl) (by as_aux_lemma => kernel_rfl) (by as_aux_lemma => kernel_rfl) rfl (by rfl) (fun _ _ _ h => h) hHeld (fun _ hw' => by have := hw'.o; go_simp) ?_
            simp only [List.setIfInBounds_toArray, List.set_cons_zero, List.set_cons_succ]
            refine step1 5 (by as_aux_lemma => kernel_rfl) ?_
            refine stCall 5 195 12 #[.pointer (some ⟨P k, 0, none⟩), .int .i64 at_] _ rfl rfl (by rfl) (by go_simp) (first_to hF.out _ (HId3.out.b k hk2')) ?_
            rintro e _ ⟨rfl, rfl⟩
            refine ⟨_, rfl, hHeld, ?_⟩
            simp only [List.setIfInBounds_toArray, List.set_cons_zero, List.set_cons_succ]
            refine takeVal 6 189 (.tuple #[.int .i64 fx, .bool fb]) rfl (by as_aux_lemma => kernel_rfl) (by as_aux_lemma => kernel_rfl) (by as_aux_lemma => kernel_rfl) rfl (by rfl) (fun _ _ _ h => h) hHeld (fun _ hw' => rfl) ?_
            simp only [List.setIfInBounds_toArray, List.set_cons_zero, List.set_cons_succ]
            refine takeVal 7 196 (.int .i64 fx) rfl (by as_aux_lemma => kernel_rfl) (by as_aux_lemma => kernel_rfl) (by as_aux_lemma => kernel_rfl) rfl (by rfl) (fun _ _ _ h => h) hHeld (fun _ hw' => by go_simp) ?_
            simp only [List.setIfInBounds_toArray, List.set_cons_zero, List.set_cons_succ]
            refine takeVal 8 197 (.bool fb) rfl (by as_aux_lemma => kernel_rfl) (by as_aux_lemma => kernel_rfl) (by as_aux_lemma => kernel_rfl) rfl (by rfl) (fun _ _ _ h => h) hHeld (fun _ hw' => by go_simp) ?_
            simp only [List.setIfInBounds_toArray, List.set_cons_zero, List.set_cons_succ]
            refine takeVal 9 28 (.int .i64 fx) rfl (by as_aux_lemma => kernel_rfl) (by as_aux_lemma => kernel_rfl) (by as_aux_lemma => kernel_rfl) rfl (by rfl) (fun _ _ _ h => h) hHeld (fun _ hw' => rfl) ?_
            simp only [List.setIfInBounds_toArray, List.set_cons_zero, List.set_cons_succ]
            refine takeVal 10 29 (.bool fb) rfl (by as_aux_lemma => kernel_rfl) (by as_aux_lemma => kernel_rfl) (by as_aux_lemma => kernel_rfl) rfl (by rfl) (fun _ _ _ h => h) hHeld (fun _ hw' => rfl) ?_
            simp only [List.setIfInBounds_toArray, List.set_cons_zero, List.set_cons_succ]
            refine wpAnyH_done (by as_aux_lemma => kernel_rfl) ?_ _
            refine NoPanic.normal ?_
            clear HI3 HO3
            go_wp2_with fail
            have HId5 := hid HId3.out.drew
            have HOd5 := hid HOd3.out.drew
            refine wp_region_noPanic ?_
            refine wp_region_held_drew (S := S4 x y z u k (N k) (P k) (R k) at_) (by as_aux_lemma => kernel_rfl) (HId5.out.four HOd5.out hk2') (fun hHeld => ?_)
            generalize wd3.drew = wd5 at *
            refine takeVal 0 199 (.int .i64 (k : Int)) rfl (by as_aux_lemma => kernel_rfl) (by as_aux_lemma => kernel_rfl) (by as_aux_lemma => kernel_rfl) rfl (by rfl) (fun _ _ _ h => h) hHeld (fun _ hw' => rfl) ?_
            simp only [List.setIfInBounds_toArray, List.set_cons_zero, List.set_cons_succ]
            refine takeVal 1 200 (.pointer (some ⟨z, k, none⟩)) rfl (by as_aux_lemma => kernel_rfl) (by as_aux_lemma => kernel_rfl) (by as_aux_lemma => kernel_rfl) rfl (by rfl) (fun _ _ _ h => h) hHeld (fun _ hw' => by go_simp) ?_
            simp only [List.setIfInBounds_toArray, List.set_cons_zero, List.set_cons_succ]
            refine takeVal 2 201 (.pointer (some ⟨R k, 0, none⟩)) rfl (by as_aux_lemma => kernel_rfl) (by as_aux_lemma => kernel_rfl) (by as_aux_lemma => kernel_rfl) rfl (by rfl) (fun _ _ _ h => h) hHeld (fun _ hw' => by have := hw'.z; go_simp) ?_
            simp only [List.setIfInBounds_toArray, List.set_cons_zero, List.set_cons_succ]
            refine takeVal 3 202 (.pointer (some ⟨u, 2, none⟩)) rfl (by as_aux_lemma => kernel_rfl) (by as_aux_lemma => kernel_rfl) (by as_aux_lemma => kernel_rfl) rfl (by rfl) (fun _ _ _ h => h) hHeld (fun _ hw' => by go_simp) ?_
            simp only [List.setIfInBounds_toArray, List.set_cons_zero, List.set_cons_succ]
            refine takeVal 4 203 (.int .i64 at_) rfl (by as_aux_lemma => kernel_rfl) (by as_aux_lemma => kernel_rfl) (by as_aux_lemma => kernel_rfl) rfl (by rfl) (fun _ _ _ h => h) hHeld (fun _ hw' => by have := hw'.o; go_simp) ?_
            simp only [List.setIfInBounds_toArray, List.set_cons_zero, List.set_cons_succ]
            refine step1 5 (by as_aux_lemma => kernel_rfl) ?_
            refine stCall 5 204 22 #[.pointer (some ⟨R k, 0, none⟩), .int .i64 at_] _ rfl rfl (by rfl) (by go_simp) (rfirst_to hF.out _ hat (HId5.out.r k hk2')) ?_
            rintro e _ ⟨rfl, rfl⟩
            refine ⟨_, rfl, hHeld, ?_⟩
            simp only [List.setIfInBounds_toArray, List.set_cons_zero, List.set_cons_succ]
            refine takeVal 6 198 (.tuple #[.int .i64 fx, .bool fb]) rfl (by as_aux_lemma => kernel_rfl) (by as_aux_lemma => kernel_rfl) (by as_aux_lemma => kernel_rfl) rfl (by rfl) (fun _ _ _ h => h) hHeld (fun _ hw' => rfl) ?_
            simp only [List.setIfInBounds_toArray, List.set_cons_zero, List.set_cons_succ]
            refine takeVal 7 205 (.int .i64 fx) rfl (by as_aux_lemma => kernel_rfl) (by as_aux_lemma => kernel_rfl) (by as_aux_lemma => kernel_rfl) rfl (by rfl) (fun _ _ _ h => h) hHeld (fun _ hw' => by go_simp) ?_
            simp only [List.setIfInBounds_toArray, List.set_cons_zero, List.set_cons_succ]
            refine takeVal 8 206 (.bool fb) rfl (by as_aux_lemma => kernel_rfl) (by as_aux_lemma => kernel_rfl) (by as_aux_lemma => kernel_rfl) rfl (by rfl) (fun _ _ _ h => h) hHeld (fun _ hw' => by go_simp) ?_
            simp only [List.setIfInBounds_toArray, List.set_cons_zero, List.set_cons_succ]
            refine takeVal 9 30 (.int .i64 fx) rfl (by as_aux_lemma => kernel_rfl) (by as_aux_lemma => kernel_rfl) (by as_aux_lemma => kernel_rfl) rfl (by rfl) (fun _ _ _ h => h) hHeld (fun _ hw' => rfl) ?_
            simp only [List.setIfInBounds_toArray, List.set_cons_zero, List.set_cons_succ]
            refine takeVal 10 31 (.bool fb) rfl (by as_aux_lemma => kernel_rfl) (by as_aux_lemma => kernel_rfl) (by as_aux_lemma => kernel_rfl) rfl (by rfl) (fun _ _ _ h => h) hHeld (fun _ hw' => rfl) ?_
            simp only [List.setIfInBounds_toArray, List.set_cons_zero, List.set_cons_succ]
            refine wpAnyH_done (by as_aux_lemma => kernel_rfl) ?_ _
            refine NoPanic.normal ?_
            have cy6 := HId5.out.cy k hk2'
            have HB6 := hid (HId5.out.b k hk2')
            go_upto_region 41 with (go_at_call 17; refine (set_any fx _ HB6.out).mono ?_; rintro e w7 ⟨rfl, h7, c7⟩; have HI7 := hid (HId5.out.setB hk2' h7 c7 (by rw [putL_len]; exact HId5.out.nb k hk2')); clear h7 c7)
            clear cy6 HB6
            have cz8 := HI7.out.cz k hk2'
            have HR8 := hid (HI7.out.r k hk2')
            go_wp2_with (go_at_call 18; refine (rset_any fx _ HR8.out).mono ?_; rintro e w9 ⟨rfl, h9, c9⟩; have HI9 := hid (HI7.out.setR hk2' h9 c9 (by rw [putL_len]; exact HI7.out.nr k hk2')); clear h9 c9)
            go_roundw
            case rel => exact ⟨j + 1, _, by omega, by go_num, HI9⟩
            case measure => simp [intOf]; omega
          have k6 : (kd == 6) = false := by simp [q6]
          clear q6
          go_wp2_with fail
          go_roundw
          case rel => exact ⟨j + 1, S, by omega, by go_num, HI3⟩
          case measure => simp [intOf]; omega
        · clear hj
          go_wp2_with fail
          have HI0 := HI
          clear HI
          go_loopw [34] (fun i wq => ∃ q : Nat, q ≤ 2 ∧ i = .int .i64 q ∧ Hid (PInv w wq x y z N P G R K S S)) (fun i _ => 2 - (intOf i).toNat)
          case atStart => exact ⟨0, by omega, rfl, HI0⟩
          case round =>
            clear HI0 hlt
            obtain ⟨q, hq2, rfl, HI⟩ := hrel
            by_cases hq : q < 2
            · have hqi : (q : Int) < 2 := by omega
              have cx := HI.out.cx q hq
              have cy := HI.out.cy q hq
              have cz := HI.out.cz q hq
              have hN := HNt.out q hq
              have HB := hid (HI.out.b q hq)
              have HR := hid (HI.out.r q hq)
              go_wp2_with fail
              go_loop [35] (fun i => ∃ m : Nat, m ≤ N q + 2 ∧ i = .int .i64 ((m : Int) - 1)) (fun i => N q + 2 - (intOf i + 1).toNat)
              case atStart => exact ⟨0, by omega, rfl⟩
              case round =>
                obtain ⟨m, hm, rfl⟩ := hrel
                by_cases hm2 : (m : Int) - 1 ≤ (N q : Int)
                · go_wp2_with (first | (go_at_call 15; refine (has_any _ _ HB.out).mono ?_; rintro e w4 ⟨rfl, rfl⟩) | (go_at_call 21; refine (rhas_any _ _ HR.out).mono ?_; rintro e w4 ⟨rfl, rfl⟩))
                  go_round
                  case rel => exact ⟨m + 1, by omega, by go_num⟩
                  case measure => simp [intOf]; omega
                · go_wp2_with fail
                  have HId := hid HI.out.drew
                  refine wp_region_noPanic ?_
                  refine wp_region_held_drew (S := fun w' => w'.cell? ⟨y, q, none⟩ = some (.pointer (some ⟨P q, 0, none⟩)) ∧ w'.cell? ⟨z, q, none⟩ = some (.pointer (some ⟨R q, 0, none⟩))) (by as_aux_lemma => kernel_rfl) ⟨HId.out.cy q hq, HId.out.cz q hq⟩ (fun hHeld => ?_)
                  generalize wr.drew = wd at *
                  refine takeVal 0 255 (.int .i64 (q : Int)) rfl (by as_aux_lemma => kernel_rfl) (by as_aux_lemma => kernel_rfl) (by as_aux_lemma => kernel_rfl) rfl (by rfl) (fun _ _ _ h => h) hHeld (fun _ hw' => rfl) ?_
                  simp only [List.setIfInBounds_toArray, List.set_cons_zero, List.set_cons_succ]
                  refine takeVal 1 256 (.pointer (some ⟨y, q, none⟩)) rfl (by as_aux_lemma => kernel_rfl) (by as_aux_lemma => kernel_rfl) (by as_aux_lemma => kernel_rfl) rfl (by rfl) (fun _ _ _ h => h) hHeld (fun _ hw' => by go_simp) ?_
                  simp only [List.setIfInBounds_toArray, List.set_cons_zero, List.set_cons_succ]
                  refine takeVal 2 257 (.pointer (some ⟨P q, 0, none⟩)) rfl (by as_aux_lemma => kernel_rfl) (by as_aux_lemma => kernel_rfl) (by as_aux_lemma => kernel_rfl) rfl (by rfl) (fun _ _ _ h => h) hHeld (fun _ hw' => by have := hw'.1; go_simp) ?_
                  simp only [List.setIfInBounds_toArray, List.set_cons_zero, List.set_cons_succ]
                  refine takeVal 4 259 (.int .i64 (q : Int)) rfl (by as_aux_lemma => kernel_rfl) (by as_aux_lemma => kernel_rfl) (by as_aux_lemma => kernel_rfl) rfl (by rfl) (fun _ _ _ h => h) hHeld (fun _ hw' => rfl) ?_
                  simp only [List.setIfInBounds_toArray, List.set_cons_zero, List.set_cons_succ]
                  refine takeVal 5 260 (.pointer (some ⟨z, q, none⟩)) rfl (by as_aux_lemma => kernel_rfl) (by as_aux_lemma => kernel_rfl) (by as_aux_lemma => kernel_rfl) rfl (by rfl) (fun _ _ _ h => h) hHeld (fun _ hw' => by go_simp) ?_
                  simp only [List.setIfInBounds_toArray, List.set_cons_zero, List.set_cons_succ]
                  refine takeVal 6 261 (.pointer (some ⟨R q, 0, none⟩)) rfl (by as_aux_lemma => kernel_rfl) (by as_aux_lemma => kernel_rfl) (by as_aux_lemma => kernel_rfl) rfl (by rfl) (fun _ _ _ h => h) hHeld (fun _ hw' => by have := hw'.2; go_simp) ?_
                  simp only [List.setIfInBounds_toArray, List.set_cons_zero, List.set_cons_succ]
                  refine step1 3 (by as_aux_lemma => kernel_rfl) ?_
                  refine stCall 3 258 14 #[.pointer (some ⟨P q, 0, none⟩)] _ rfl rfl (by rfl) (by go_simp) (count_any _ (HId.out.b q hq)) ?_
                  rintro e _ ⟨rfl, rfl⟩
                  refine ⟨_, rfl, hHeld, ?_⟩
                  simp only [List.setIfInBounds_toArray, List.set_cons_zero, List.set_cons_succ]
                  refine step1 7 (by as_aux_lemma => kernel_rfl) ?_
                  refine stCall 7 262 23 #[.pointer (some ⟨R q, 0, none⟩)] _ rfl rfl (by rfl) (by go_simp) (rcount_any _ (HId.out.r q hq)) ?_
                  rintro e _ ⟨rfl, rfl⟩
                  refine ⟨_, rfl, hHeld, ?_⟩
                  simp only [List.setIfInBounds_toArray, List.set_cons_zero, List.set_cons_succ]
                  refine takeVal 8 263 (.bool false) rfl (by as_aux_lemma => kernel_rfl) (by as_aux_lemma => kernel_rfl) (by as_aux_lemma => kernel_rfl) rfl (by rfl) (fun _ _ _ h => h) hHeld (fun _ hw' => by go_simp) ?_
                  simp only [List.setIfInBounds_toArray, List.set_cons_zero, List.set_cons_succ]
                  refine wpAnyH_done (by as_aux_lemma => kernel_rfl) ?_ _
                  refine NoPanic.normal ?_
                  go_wp2_with fail
                  go_roundw
                  case rel => exact ⟨q + 1, by omega, by go_num, HId⟩
                  case measure => simp [intOf]; omega
            · clear hq2
              go_wp2_with fail
              go_ret
              exact ⟨rfl, HI.out.old⟩
theorem plays_walk (s0 s1 : Int) (ws : List OpV) (ad : Option Addr) (cap : Nat) (w : World) (h0 : I64 s0) (h1 : I64 s1) (hl : ws.length ≤ 140737488355328) (HZ : ScriptAt w ad ws) (HOK : ∀ s, s ∈ ws → s.OK) :
    Calls Try.prog 4 #[.int .i64 s0, .int .i64 s1, .slice ad ws.length cap] w fun e w' => e = .returned (.bool true) ∧ Below w.heap.size w w' := by
  obtain ⟨N0, e0, t0⟩ := pickNat (c := s0) (show (1 : Int) ≤ 4097 by decide)
  obtain ⟨N1, e1, t1⟩ := pickNat (c := s1) (show (1 : Int) ≤ 4097 by decide)
  exact plays_walkN s0 s1 ws _ rfl ad cap w h0 h1 hl HZ HOK N0 N1 e0 e1 (by omega) (by omega)

end Go.Proofs.Ythhhobjdplgcpaa
