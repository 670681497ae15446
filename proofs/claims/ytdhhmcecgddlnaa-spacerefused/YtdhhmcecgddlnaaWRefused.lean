/-
  SpaceRefused returns true: the walk.
-/
import Derived.Test.YtdhhmcecgddlnaaW1
namespace Go.Proofs.Ytdhhmcecgddlnaa
open Go.RowKit

theorem box4 {w w1 : World} {v0 v1 v2 v3 : Value} {t : TypeId} (hb : Below (w.alloc (.cells #[v0, v1, v2, v3] t)).heap.size (w.alloc (.cells #[v0, v1, v2, v3] t)) w1) :
    w1.heap[w.heap.size]? = some (.cells #[v0, v1, v2, v3] t (0, 0)) := (hb.block w.heap.size (by simp)).trans (heap_alloc_new w _)
theorem cells4 {w : World} {g : Nat} {v0 v1 v2 v3 : Value} {t : TypeId} (h : w.heap[g]? = some (.cells #[v0, v1, v2, v3] t (0, 0))) : w.cell? ⟨g, 0, none⟩ = some v0 ∧ w.cell? ⟨g, 1, none⟩ = some v1 ∧ w.cell? ⟨g, 2, none⟩ = some v2 ∧ w.cell? ⟨g, 3, none⟩ = some v3 := ⟨(cell_of_row _ _ _ _ _ _ h).trans rfl, (cell_of_row _ _ _ _ _ _ h).trans rfl, (cell_of_row _ _ _ _ _ _ h).trans rfl, (cell_of_row _ _ _ _ _ _ h).trans rfl⟩
theorem cells3 {w : World} {g : Nat} {v0 v1 v2 : Value} {t : TypeId} (h : w.heap[g]? = some (.cells #[v0, v1, v2] t (0, 0))) : w.cell? ⟨g, 0, none⟩ = some v0 ∧ w.cell? ⟨g, 1, none⟩ = some v1 ∧ w.cell? ⟨g, 2, none⟩ = some v2 := ⟨(cell_of_row _ _ _ _ _ _ h).trans rfl, (cell_of_row _ _ _ _ _ _ h).trans rfl, (cell_of_row _ _ _ _ _ _ h).trans rfl⟩

variable {lo hi p : Nat} {s : SS}
theorem off_new {g : Nat} (h : hi ≤ g) : Off (some ⟨g, 0, none⟩) lo hi := by
  intro b o e
  cases e
  intro r
  have := r.2
  omega

set_option maxRecDepth 100000 in
set_option maxHeartbeats 2000000 in
theorem refused_low (sc ic pl mo : Int) (hp : I64 pl) (hm : I64 mo) (w : World) (a b : Nat) (h : 8 ≤ a ∧ a ≤ 4096 ∧ 1 ≤ b ∧ b ≤ 512 ∧ b + 2 ≤ a) (HSup : ∀ w, Calls Try.prog 21 #[.int .i64 sc, .int .i64 ic] w fun e w' => e = .returned (.agg #[.int .i64 (a : Int), .int .i64 (b : Int)]) ∧ Below w.heap.size w w')
    (q : Int) (c1 : pl ≤ (b : Int)) (hq : q = pl) (hq2 : q ≤ (b : Int) ∨ (a : Int) ≤ q) (hq3 : I64 q) :
    Calls Try.prog 8 #[.agg #[.int .i64 sc, .int .i64 ic, .int .i64 pl, .int .i64 mo]] w fun e w' => e = .returned (.bool true) ∧ Below w.heap.size w w' := by
  replace HSup := hid HSup
  have HN := hid fun w => sNew_nil a b (mayB_of h) w
  have HH := hid h
  have hbb : b ≤ 512 := h.2.2.2.1
  have hab : a ≤ 4096 := h.2.1
  obtain ⟨Mo, hMo, hMo2⟩ := pickNat (c := mo) (show (1 : Int) ≤ 1000 by decide)
  have HMo := hid fun w => pick_any mo 1000 w hm (by decide) (by decide)
  rw [hMo] at HMo
  have HQ2 := hid hq2
  have HQ3 := hid hq3
  clear hMo h hq2 hq3
  go_enter Try.func8, Try.ntmps8
  go_upto_region 2 with (go_at_call 9; refine (awake_any _).mono ?_; rintro e w1 ⟨rfl, b1⟩; have B1 := hid b1; clear b1)
  have X1 := hid (box4 B1.out)
  obtain ⟨x0, x1, x2, x3⟩ := cells4 X1.out
  have BW1 := hid ((below_box w _).trans (B1.out.mono (by simp)))
  go_upto_region 3 with (go_at_call 21; refine (HSup.out _).mono ?_; rintro e w2 ⟨rfl, b2⟩; have B2 := hid b2; clear b2)
  have BW2 := hid (BW1.out.trans (B2.out.mono BW1.out.size))
  have X2 := hid ((Chg.of_below (below_box w2 (.cells #[.int .i64 (a : Int), .int .i64 (b : Int)] 23)) No).keep ((Chg.of_below B2.out No).keep X1.out (fun e => e)) (fun e => e))
  clear x0 x1 x2 x3
  obtain ⟨x0, x1, x2, x3⟩ := cells4 X2.out
  have y0 := heap_alloc_new w2 (.cells #[.int .i64 (a : Int), .int .i64 (b : Int)] 23)
  replace y0 := hid y0
  obtain ⟨z0, z1⟩ := cells2 y0.out
  go_upto_region 6 with (go_at_call 11; refine (HN.out _).mono ?_; rintro e w4 ⟨p, rfl, h4, b4⟩; have K4 := hid (kit_start BW2.out h4 b4); clear h4 b4)
  clear x0 x1 x2 x3 z0 z1 y0 X2 B2 BW2 BW1 X1 B1 HN HSup
  generalize w2.heap.size = X at *
  generalize hlo : X + 1 = lo at K4
  generalize hhi : w4.heap.size = hi at K4
  clear hlo hhi
  have k0 := K4.out.c0
  have k1 := K4.out.c1
  go_upto_region 10 with (fail)
  have KD := K4
  clear k0 k1 K4
  subst hq
  generalize w4 = w5 at *
  go_upto_region 11 with (go_at_call 19; refine (takeBlock_any ((b : Int) + 1) true _ KD.out.s (nil_first a b HH.out.2.2.2.2)).mono ?_; rintro e w6 ⟨rfl, h6, c6⟩; rw [show errN true 80 = 0 from rfl]; have K6 := hid (KD.out.chg h6 c6); clear h6 c6 KD)
  rw [show (nil0 a b).takeS ((b : Int) + 1) true = (nil0 a b).setT ((b : Int) + 1) 1 from rfl] at K6
  go_upto_region 12 with (go_at_call 27; refine (later_any ((b : Int) + 1) ⟨by omega, by omega⟩ _ K6.out.s).mono ?_; rintro e w7 ⟨rfl, h7, c7⟩; rw [(one_later HH.out).1]; rw [(one_later HH.out).2] at h7; have K7 := hid (K6.out.chg h7 c7); clear h7 c7 K6)
  go_upto_region 13 with (go_at_call 17; refine (room_any _ K7.out.s).mono ?_; rintro e w8 ⟨rfl, b8⟩; rw [show roomV (one2 a b) = #[.int .i64 (one2 a b).rb, .int .i64 (one2 a b).rl, .int .i64 (one2 a b).ri] from rfl]; have K8 := hid (K7.out.call b8); clear b8 K7)
  rw [two_rl HH.out]
  have HR9 : Hid ((w8.alloc (.cells #[.int .i64 (one2 a b).rb, .int .i64 1, .int .i64 (one2 a b).ri] 40)).heap[w8.heap.size]? = some (.cells #[.int .i64 (one2 a b).rb, .int .i64 1, .int .i64 (one2 a b).ri] 40 (0, 0))) := heap_alloc_new _ _
  have K9 := hid (K8.out.boxed (.cells #[.int .i64 (one2 a b).rb, .int .i64 1, .int .i64 (one2 a b).ri] 40))
  have HT9 := hid K8.out.s.top
  clear K8
  generalize w8.alloc (.cells #[.int .i64 (one2 a b).rb, .int .i64 1, .int .i64 (one2 a b).ri] 40) = w9 at *
  generalize w8.heap.size = R at *
  generalize hrb : (one2 a b).rb = RB at *
  generalize hri : (one2 a b).ri = RI at *
  replace hrb := hid hrb
  replace hri := hid hri
  have hbx := hid (below_box w9 (.cells #[.int .i64 ((b : Int) + 1), .int .i64 q] 3))
  have K10 := hid (K9.out.call hbx.out)
  have HR10 := hid ((Chg.of_below hbx.out No).keep HR9.out (fun e => e))
  have HL10 : Hid (IntsAt (w9.alloc (.cells #[.int .i64 ((b : Int) + 1), .int .i64 q] 3)) (some ⟨w9.heap.size, 0, none⟩) [(b : Int) + 1, q]) := ints_row (t := 3) (heap_alloc_new w9 _)
  have H64 : Hid (∀ x, x ∈ [(b : Int) + 1, q] → I64 x) := by
    intro x hx
    rcases List.mem_cons.1 hx with e | e
    · rw [e]; exact ⟨by omega, by omega⟩
    · rw [List.mem_singleton.1 e]; exact HQ3.out
  have HOf : Hid (Off (some ⟨w9.heap.size, 0, none⟩) lo hi) := off_new K9.out.s.top
  go_upto_region 14 with (go_at_call 29; refine (landed_any [(b : Int) + 1, q] _ 2 2 _ K10.out.s rfl (by decide) HL10 H64 HOf).mono ?_; rintro e w11 ⟨rfl, h11, c11⟩; rw [(two_land _ _ HQ2.out).1]; rw [(two_land _ _ HQ2.out).2] at h11; have K11 := hid (K10.out.chg h11 c11); have HR11 := hid (c11.new HR10.out HT9.out); clear h11 c11)
  clear HL10 H64 HOf K10 HR10 hbx K9 HR9
  go_upto_region 15 with (go_at_call 27; refine (later_any q HQ3.out _ K11.out.s).mono ?_; rintro e w12 ⟨rfl, h12, c12⟩; rw [(two_later HH.out q).1]; rw [(two_later HH.out q).2] at h12; have K12 := hid (K11.out.chg h12 c12); have HR12 := hid (c12.new HR11.out HT9.out); clear h12 c12 K11 HR11)
  go_upto_region 16 with (go_at_call 27; refine (later_any ((b : Int) + 1) ⟨by omega, by omega⟩ _ K12.out.s).mono ?_; rintro e w13 ⟨rfl, h13, c13⟩; rw [(two_later HH.out _).1]; rw [(two_later HH.out _).2] at h13; have K13 := hid (K12.out.chg h13 c13); have HR13 := hid (c13.new HR12.out HT9.out); clear h13 c13 K12 HR12)
  go_upto_region 17 with (go_at_call 25; refine (freeInode_no 1 (.inl rfl) _ K13.out.s).mono ?_; rintro e w14 ⟨rfl, rfl⟩)
  have k1 := K13.out.c1
  have HF1 := hid fun n => freeInode_no (s := one2 a b) (lo := lo) (hi := hi) (p := p) ((b : Int) + 1 + (Mo : Int)) (.inr (two_free HH.out _ (.inr (by omega)))) (w13.drewN n) (K13.out.s.drewN n)
  go_quiet (first | (go_at_call 22; exact Calls.quiet_of_same ((HMo.out _).mono fun e w' h => ⟨h.1, h.2.symm⟩)) | (go_at_call 25; exact Calls.quiet_of_same ((HF1.out _).mono fun e w' h => ⟨h.1, h.2.symm⟩)))
  have K14 := hid (K13.out.drewN nq)
  have HR14 : Hid ((w13.drewN nq).heap[R]? = some (.cells #[.int .i64 RB, .int .i64 1, .int .i64 RI] 40 (0, 0))) := HR13.out
  clear k1 HF1 K13 HR13
  generalize w13.drewN nq = w14 at *
  have HF2 := hid (freeInode_no (s := one2 a b) (lo := lo) (hi := hi) (p := p) (-(Mo : Int)) (.inr (two_free HH.out _ (.inl (by omega)))) w14 K14.out.s)
  go_upto_region 20 with (first | (go_at_call 22; refine (HMo.out _).mono ?_; rintro e w15 ⟨rfl, rfl⟩) | (go_at_call 25; refine HF2.out.mono ?_; rintro e w15 ⟨rfl, rfl⟩))
  have HRo := hid fun w h => room_any (s := one2 a b) (lo := lo) (hi := hi) (p := p) w h
  rw [show roomV (one2 a b) = #[.int .i64 (one2 a b).rb, .int .i64 (one2 a b).rl, .int .i64 (one2 a b).ri] from rfl, two_rl HH.out, hrb.out, hri.out] at HRo
  have HUs := hid fun w h => used_any (s := one2 a b) (lo := lo) (hi := hi) (p := p) 1 w h
  rw [two_used HH.out] at HUs
  refine wp_region_noPanic ?_
  refine wp_region_held_drew (S := fun w' => Kit w w' X lo hi p a b (one2 a b) ∧ w'.heap[R]? = some (.cells #[.int .i64 RB, .int .i64 1, .int .i64 RI] 40 (0, 0))) (by kernel_rfl) ⟨K14.out.drewN 1, HR14.out⟩ (fun hHeld => ?_)
  refine takeVal 0 134 (.bool true) rfl (by kernel_rfl) (by kernel_rfl) (by kernel_rfl) rfl (by rfl) (fun _ _ _ h => h) hHeld (fun _ hw' => rfl) ?_
  simp only [List.setIfInBounds_toArray, List.set_cons_zero, List.set_cons_succ]
  refine takeVal 1 135 (.bool true) rfl (by kernel_rfl) (by kernel_rfl) (by kernel_rfl) rfl (by rfl) (fun _ _ _ h => h) hHeld (fun _ hw' => rfl) ?_
  simp only [List.setIfInBounds_toArray, List.set_cons_zero, List.set_cons_succ]
  refine takeVal 2 136 (.pointer (some ⟨p, 0, none⟩)) rfl (by kernel_rfl) (by kernel_rfl) (by kernel_rfl) rfl (by rfl) (fun _ _ _ h => h) hHeld (fun _ hw' => rfl) ?_
  simp only [List.setIfInBounds_toArray, List.set_cons_zero, List.set_cons_succ]
  refine takeR 4 138 40 (.tmp 12) R 40 #[.int .i64 RB, .int .i64 1, .int .i64 RI] _ rfl (by kernel_rfl) (by kernel_rfl) (by kernel_rfl) rfl rfl rfl Try.underlying40 rfl (by rw [szRm]; rfl) (by rfl) (fun _ _ _ h => h) hHeld (fun _ hw' => hw'.2) ?_
  simp only [List.setIfInBounds_toArray, List.set_cons_zero, List.set_cons_succ]
  refine step1 3 (by kernel_rfl) ?_
  refine stCall 3 137 17 #[.pointer (some ⟨p, 0, none⟩)] _ rfl rfl (by rfl) (by go_simp) (HRo.out _ hHeld.1.s) ?_
  rintro e wa ⟨rfl, bwa⟩
  have hHeld : Kit w wa X lo hi p a b (one2 a b) ∧ wa.heap[R]? = some (.cells #[.int .i64 RB, .int .i64 1, .int .i64 RI] 40 (0, 0)) := ⟨hHeld.1.call bwa, (Chg.of_below bwa No).keep hHeld.2 (fun e => e)⟩
  refine ⟨_, rfl, hHeld, ?_⟩
  simp only [List.setIfInBounds_toArray, List.set_cons_zero, List.set_cons_succ]
  refine takeVal 5 139 (.bool true) rfl (by kernel_rfl) (by kernel_rfl) (by kernel_rfl) rfl (by rfl) (fun _ _ _ h => h) hHeld (fun _ hw' => by go_simp) ?_
  simp only [List.setIfInBounds_toArray, List.set_cons_zero, List.set_cons_succ]
  refine takeVal 6 140 (.bool true) rfl (by kernel_rfl) (by kernel_rfl) (by kernel_rfl) rfl (by rfl) (fun _ _ _ h => h) hHeld (fun _ hw' => rfl) ?_
  simp only [List.setIfInBounds_toArray, List.set_cons_zero, List.set_cons_succ]
  refine takeVal 7 141 (.bool true) rfl (by kernel_rfl) (by kernel_rfl) (by kernel_rfl) rfl (by rfl) (fun _ _ _ h => h) hHeld (fun _ hw' => rfl) ?_
  simp only [List.setIfInBounds_toArray, List.set_cons_zero, List.set_cons_succ]
  refine takeVal 8 142 (.pointer (some ⟨R, 1, none⟩)) rfl (by kernel_rfl) (by kernel_rfl) (by kernel_rfl) rfl (by rfl) (fun _ _ _ h => h) hHeld (fun _ hw' => by go_simp) ?_
  simp only [List.setIfInBounds_toArray, List.set_cons_zero, List.set_cons_succ]
  refine takeVal 9 143 (.int .i64 1) rfl (by kernel_rfl) (by kernel_rfl) (by kernel_rfl) rfl (by rfl) (fun _ _ _ h => h) hHeld (fun _ hw' => by have cc := (cells3 hw'.2).2.1; go_simp) ?_
  simp only [List.setIfInBounds_toArray, List.set_cons_zero, List.set_cons_succ]
  refine takeVal 10 144 (.bool true) rfl (by kernel_rfl) (by kernel_rfl) (by kernel_rfl) rfl (by rfl) (fun _ _ _ h => h) hHeld (fun _ hw' => by go_simp) ?_
  simp only [List.setIfInBounds_toArray, List.set_cons_zero, List.set_cons_succ]
  refine takeVal 11 145 (.bool true) rfl (by kernel_rfl) (by kernel_rfl) (by kernel_rfl) rfl (by rfl) (fun _ _ _ h => h) hHeld (fun _ hw' => rfl) ?_
  simp only [List.setIfInBounds_toArray, List.set_cons_zero, List.set_cons_succ]
  refine takeVal 12 146 (.bool true) rfl (by kernel_rfl) (by kernel_rfl) (by kernel_rfl) rfl (by rfl) (fun _ _ _ h => h) hHeld (fun _ hw' => rfl) ?_
  simp only [List.setIfInBounds_toArray, List.set_cons_zero, List.set_cons_succ]
  refine takeVal 13 147 (.pointer (some ⟨p, 0, none⟩)) rfl (by kernel_rfl) (by kernel_rfl) (by kernel_rfl) rfl (by rfl) (fun _ _ _ h => h) hHeld (fun _ hw' => rfl) ?_
  simp only [List.setIfInBounds_toArray, List.set_cons_zero, List.set_cons_succ]
  refine step1 14 (by kernel_rfl) ?_
  refine stCall 14 148 15 #[.pointer (some ⟨p, 0, none⟩), .int .i64 1] _ rfl rfl (by rfl) (by go_simp) (HUs.out _ hHeld.1.s) ?_
  rintro e wb ⟨rfl, rfl⟩
  refine ⟨_, rfl, hHeld, ?_⟩
  simp only [List.setIfInBounds_toArray, List.set_cons_zero, List.set_cons_succ]
  refine takeVal 15 149 (.bool true) rfl (by kernel_rfl) (by kernel_rfl) (by kernel_rfl) rfl (by rfl) (fun _ _ _ h => h) hHeld (fun _ hw' => rfl) ?_
  simp only [List.setIfInBounds_toArray, List.set_cons_zero, List.set_cons_succ]
  refine takeVal 16 2 (.bool true) rfl (by kernel_rfl) (by kernel_rfl) (by kernel_rfl) rfl (by rfl) (fun _ _ _ h => h) hHeld (fun _ hw' => rfl) ?_
  simp only [List.setIfInBounds_toArray, List.set_cons_zero, List.set_cons_succ]
  refine wpAnyH_done (by kernel_rfl) ?_ _
  refine NoPanic.normal ?_
  go_wp2_with fail
  go_ret
  exact ⟨rfl, hHeld.1.b⟩

set_option maxRecDepth 100000 in
set_option maxHeartbeats 2000000 in
theorem refused_high (sc ic pl mo : Int) (hp : I64 pl) (hm : I64 mo) (w : World) (a b : Nat) (h : 8 ≤ a ∧ a ≤ 4096 ∧ 1 ≤ b ∧ b ≤ 512 ∧ b + 2 ≤ a) (HSup : ∀ w, Calls Try.prog 21 #[.int .i64 sc, .int .i64 ic] w fun e w' => e = .returned (.agg #[.int .i64 (a : Int), .int .i64 (b : Int)]) ∧ Below w.heap.size w w')
    (q : Int) (c1 : (b : Int) < pl) (c2 : (a : Int) ≤ pl) (hq : q = pl) (hq2 : q ≤ (b : Int) ∨ (a : Int) ≤ q) (hq3 : I64 q) :
    Calls Try.prog 8 #[.agg #[.int .i64 sc, .int .i64 ic, .int .i64 pl, .int .i64 mo]] w fun e w' => e = .returned (.bool true) ∧ Below w.heap.size w w' := by
  replace HSup := hid HSup
  have HN := hid fun w => sNew_nil a b (mayB_of h) w
  have HH := hid h
  have hbb : b ≤ 512 := h.2.2.2.1
  have hab : a ≤ 4096 := h.2.1
  obtain ⟨Mo, hMo, hMo2⟩ := pickNat (c := mo) (show (1 : Int) ≤ 1000 by decide)
  have HMo := hid fun w => pick_any mo 1000 w hm (by decide) (by decide)
  rw [hMo] at HMo
  have HQ2 := hid hq2
  have HQ3 := hid hq3
  clear hMo h hq2 hq3
  go_enter Try.func8, Try.ntmps8
  go_upto_region 2 with (go_at_call 9; refine (awake_any _).mono ?_; rintro e w1 ⟨rfl, b1⟩; have B1 := hid b1; clear b1)
  have X1 := hid (box4 B1.out)
  obtain ⟨x0, x1, x2, x3⟩ := cells4 X1.out
  have BW1 := hid ((below_box w _).trans (B1.out.mono (by simp)))
  go_upto_region 3 with (go_at_call 21; refine (HSup.out _).mono ?_; rintro e w2 ⟨rfl, b2⟩; have B2 := hid b2; clear b2)
  have BW2 := hid (BW1.out.trans (B2.out.mono BW1.out.size))
  have X2 := hid ((Chg.of_below (below_box w2 (.cells #[.int .i64 (a : Int), .int .i64 (b : Int)] 23)) No).keep ((Chg.of_below B2.out No).keep X1.out (fun e => e)) (fun e => e))
  clear x0 x1 x2 x3
  obtain ⟨x0, x1, x2, x3⟩ := cells4 X2.out
  have y0 := heap_alloc_new w2 (.cells #[.int .i64 (a : Int), .int .i64 (b : Int)] 23)
  replace y0 := hid y0
  obtain ⟨z0, z1⟩ := cells2 y0.out
  go_upto_region 6 with (go_at_call 11; refine (HN.out _).mono ?_; rintro e w4 ⟨p, rfl, h4, b4⟩; have K4 := hid (kit_start BW2.out h4 b4); clear h4 b4)
  clear x0 x1 x2 x3 z0 z1 y0 X2 B2 BW2 BW1 X1 B1 HN HSup
  generalize w2.heap.size = X at *
  generalize hlo : X + 1 = lo at K4
  generalize hhi : w4.heap.size = hi at K4
  clear hlo hhi
  have k0 := K4.out.c0
  have k1 := K4.out.c1
  go_upto_region 10 with (fail)
  have KD := K4
  clear k0 k1 K4
  subst hq
  generalize w4 = w5 at *
  go_upto_region 11 with (go_at_call 19; refine (takeBlock_any ((b : Int) + 1) true _ KD.out.s (nil_first a b HH.out.2.2.2.2)).mono ?_; rintro e w6 ⟨rfl, h6, c6⟩; rw [show errN true 80 = 0 from rfl]; have K6 := hid (KD.out.chg h6 c6); clear h6 c6 KD)
  rw [show (nil0 a b).takeS ((b : Int) + 1) true = (nil0 a b).setT ((b : Int) + 1) 1 from rfl] at K6
  go_upto_region 12 with (go_at_call 27; refine (later_any ((b : Int) + 1) ⟨by omega, by omega⟩ _ K6.out.s).mono ?_; rintro e w7 ⟨rfl, h7, c7⟩; rw [(one_later HH.out).1]; rw [(one_later HH.out).2] at h7; have K7 := hid (K6.out.chg h7 c7); clear h7 c7 K6)
  go_upto_region 13 with (go_at_call 17; refine (room_any _ K7.out.s).mono ?_; rintro e w8 ⟨rfl, b8⟩; rw [show roomV (one2 a b) = #[.int .i64 (one2 a b).rb, .int .i64 (one2 a b).rl, .int .i64 (one2 a b).ri] from rfl]; have K8 := hid (K7.out.call b8); clear b8 K7)
  rw [two_rl HH.out]
  have HR9 : Hid ((w8.alloc (.cells #[.int .i64 (one2 a b).rb, .int .i64 1, .int .i64 (one2 a b).ri] 40)).heap[w8.heap.size]? = some (.cells #[.int .i64 (one2 a b).rb, .int .i64 1, .int .i64 (one2 a b).ri] 40 (0, 0))) := heap_alloc_new _ _
  have K9 := hid (K8.out.boxed (.cells #[.int .i64 (one2 a b).rb, .int .i64 1, .int .i64 (one2 a b).ri] 40))
  have HT9 := hid K8.out.s.top
  clear K8
  generalize w8.alloc (.cells #[.int .i64 (one2 a b).rb, .int .i64 1, .int .i64 (one2 a b).ri] 40) = w9 at *
  generalize w8.heap.size = R at *
  generalize hrb : (one2 a b).rb = RB at *
  generalize hri : (one2 a b).ri = RI at *
  replace hrb := hid hrb
  replace hri := hid hri
  have hbx := hid (below_box w9 (.cells #[.int .i64 ((b : Int) + 1), .int .i64 q] 3))
  have K10 := hid (K9.out.call hbx.out)
  have HR10 := hid ((Chg.of_below hbx.out No).keep HR9.out (fun e => e))
  have HL10 : Hid (IntsAt (w9.alloc (.cells #[.int .i64 ((b : Int) + 1), .int .i64 q] 3)) (some ⟨w9.heap.size, 0, none⟩) [(b : Int) + 1, q]) := ints_row (t := 3) (heap_alloc_new w9 _)
  have H64 : Hid (∀ x, x ∈ [(b : Int) + 1, q] → I64 x) := by
    intro x hx
    rcases List.mem_cons.1 hx with e | e
    · rw [e]; exact ⟨by omega, by omega⟩
    · rw [List.mem_singleton.1 e]; exact HQ3.out
  have HOf : Hid (Off (some ⟨w9.heap.size, 0, none⟩) lo hi) := off_new K9.out.s.top
  go_upto_region 14 with (go_at_call 29; refine (landed_any [(b : Int) + 1, q] _ 2 2 _ K10.out.s rfl (by decide) HL10 H64 HOf).mono ?_; rintro e w11 ⟨rfl, h11, c11⟩; rw [(two_land _ _ HQ2.out).1]; rw [(two_land _ _ HQ2.out).2] at h11; have K11 := hid (K10.out.chg h11 c11); have HR11 := hid (c11.new HR10.out HT9.out); clear h11 c11)
  clear HL10 H64 HOf K10 HR10 hbx K9 HR9
  go_upto_region 15 with (go_at_call 27; refine (later_any q HQ3.out _ K11.out.s).mono ?_; rintro e w12 ⟨rfl, h12, c12⟩; rw [(two_later HH.out q).1]; rw [(two_later HH.out q).2] at h12; have K12 := hid (K11.out.chg h12 c12); have HR12 := hid (c12.new HR11.out HT9.out); clear h12 c12 K11 HR11)
  go_upto_region 16 with (go_at_call 27; refine (later_any ((b : Int) + 1) ⟨by omega, by omega⟩ _ K12.out.s).mono ?_; rintro e w13 ⟨rfl, h13, c13⟩; rw [(two_later HH.out _).1]; rw [(two_later HH.out _).2] at h13; have K13 := hid (K12.out.chg h13 c13); have HR13 := hid (c13.new HR12.out HT9.out); clear h13 c13 K12 HR12)
  go_upto_region 17 with (go_at_call 25; refine (freeInode_no 1 (.inl rfl) _ K13.out.s).mono ?_; rintro e w14 ⟨rfl, rfl⟩)
  have k1 := K13.out.c1
  have HF1 := hid fun n => freeInode_no (s := one2 a b) (lo := lo) (hi := hi) (p := p) ((b : Int) + 1 + (Mo : Int)) (.inr (two_free HH.out _ (.inr (by omega)))) (w13.drewN n) (K13.out.s.drewN n)
  go_quiet (first | (go_at_call 22; exact Calls.quiet_of_same ((HMo.out _).mono fun e w' h => ⟨h.1, h.2.symm⟩)) | (go_at_call 25; exact Calls.quiet_of_same ((HF1.out _).mono fun e w' h => ⟨h.1, h.2.symm⟩)))
  have K14 := hid (K13.out.drewN nq)
  have HR14 : Hid ((w13.drewN nq).heap[R]? = some (.cells #[.int .i64 RB, .int .i64 1, .int .i64 RI] 40 (0, 0))) := HR13.out
  clear k1 HF1 K13 HR13
  generalize w13.drewN nq = w14 at *
  have HF2 := hid (freeInode_no (s := one2 a b) (lo := lo) (hi := hi) (p := p) (-(Mo : Int)) (.inr (two_free HH.out _ (.inl (by omega)))) w14 K14.out.s)
  go_upto_region 20 with (first | (go_at_call 22; refine (HMo.out _).mono ?_; rintro e w15 ⟨rfl, rfl⟩) | (go_at_call 25; refine HF2.out.mono ?_; rintro e w15 ⟨rfl, rfl⟩))
  have HRo := hid fun w h => room_any (s := one2 a b) (lo := lo) (hi := hi) (p := p) w h
  rw [show roomV (one2 a b) = #[.int .i64 (one2 a b).rb, .int .i64 (one2 a b).rl, .int .i64 (one2 a b).ri] from rfl, two_rl HH.out, hrb.out, hri.out] at HRo
  have HUs := hid fun w h => used_any (s := one2 a b) (lo := lo) (hi := hi) (p := p) 1 w h
  rw [two_used HH.out] at HUs
  refine wp_region_noPanic ?_
  refine wp_region_held_drew (S := fun w' => Kit w w' X lo hi p a b (one2 a b) ∧ w'.heap[R]? = some (.cells #[.int .i64 RB, .int .i64 1, .int .i64 RI] 40 (0, 0))) (by kernel_rfl) ⟨K14.out.drewN 1, HR14.out⟩ (fun hHeld => ?_)
  refine takeVal 0 134 (.bool true) rfl (by kernel_rfl) (by kernel_rfl) (by kernel_rfl) rfl (by rfl) (fun _ _ _ h => h) hHeld (fun _ hw' => rfl) ?_
  simp only [List.setIfInBounds_toArray, List.set_cons_zero, List.set_cons_succ]
  refine takeVal 1 135 (.bool true) rfl (by kernel_rfl) (by kernel_rfl) (by kernel_rfl) rfl (by rfl) (fun _ _ _ h => h) hHeld (fun _ hw' => rfl) ?_
  simp only [List.setIfInBounds_toArray, List.set_cons_zero, List.set_cons_succ]
  refine takeVal 2 136 (.pointer (some ⟨p, 0, none⟩)) rfl (by kernel_rfl) (by kernel_rfl) (by kernel_rfl) rfl (by rfl) (fun _ _ _ h => h) hHeld (fun _ hw' => rfl) ?_
  simp only [List.setIfInBounds_toArray, List.set_cons_zero, List.set_cons_succ]
  refine takeR 4 138 40 (.tmp 12) R 40 #[.int .i64 RB, .int .i64 1, .int .i64 RI] _ rfl (by kernel_rfl) (by kernel_rfl) (by kernel_rfl) rfl rfl rfl Try.underlying40 rfl (by rw [szRm]; rfl) (by rfl) (fun _ _ _ h => h) hHeld (fun _ hw' => hw'.2) ?_
  simp only [List.setIfInBounds_toArray, List.set_cons_zero, List.set_cons_succ]
  refine step1 3 (by kernel_rfl) ?_
  refine stCall 3 137 17 #[.pointer (some ⟨p, 0, none⟩)] _ rfl rfl (by rfl) (by go_simp) (HRo.out _ hHeld.1.s) ?_
  rintro e wa ⟨rfl, bwa⟩
  have hHeld : Kit w wa X lo hi p a b (one2 a b) ∧ wa.heap[R]? = some (.cells #[.int .i64 RB, .int .i64 1, .int .i64 RI] 40 (0, 0)) := ⟨hHeld.1.call bwa, (Chg.of_below bwa No).keep hHeld.2 (fun e => e)⟩
  refine ⟨_, rfl, hHeld, ?_⟩
  simp only [List.setIfInBounds_toArray, List.set_cons_zero, List.set_cons_succ]
  refine takeVal 5 139 (.bool true) rfl (by kernel_rfl) (by kernel_rfl) (by kernel_rfl) rfl (by rfl) (fun _ _ _ h => h) hHeld (fun _ hw' => by go_simp) ?_
  simp only [List.setIfInBounds_toArray, List.set_cons_zero, List.set_cons_succ]
  refine takeVal 6 140 (.bool true) rfl (by kernel_rfl) (by kernel_rfl) (by kernel_rfl) rfl (by rfl) (fun _ _ _ h => h) hHeld (fun _ hw' => rfl) ?_
  simp only [List.setIfInBounds_toArray, List.set_cons_zero, List.set_cons_succ]
  refine takeVal 7 141 (.bool true) rfl (by kernel_rfl) (by kernel_rfl) (by kernel_rfl) rfl (by rfl) (fun _ _ _ h => h) hHeld (fun _ hw' => rfl) ?_
  simp only [List.setIfInBounds_toArray, List.set_cons_zero, List.set_cons_succ]
  refine takeVal 8 142 (.pointer (some ⟨R, 1, none⟩)) rfl (by kernel_rfl) (by kernel_rfl) (by kernel_rfl) rfl (by rfl) (fun _ _ _ h => h) hHeld (fun _ hw' => by go_simp) ?_
  simp only [List.setIfInBounds_toArray, List.set_cons_zero, List.set_cons_succ]
  refine takeVal 9 143 (.int .i64 1) rfl (by kernel_rfl) (by kernel_rfl) (by kernel_rfl) rfl (by rfl) (fun _ _ _ h => h) hHeld (fun _ hw' => by have cc := (cells3 hw'.2).2.1; go_simp) ?_
  simp only [List.setIfInBounds_toArray, List.set_cons_zero, List.set_cons_succ]
  refine takeVal 10 144 (.bool true) rfl (by kernel_rfl) (by kernel_rfl) (by kernel_rfl) rfl (by rfl) (fun _ _ _ h => h) hHeld (fun _ hw' => by go_simp) ?_
  simp only [List.setIfInBounds_toArray, List.set_cons_zero, List.set_cons_succ]
  refine takeVal 11 145 (.bool true) rfl (by kernel_rfl) (by kernel_rfl) (by kernel_rfl) rfl (by rfl) (fun _ _ _ h => h) hHeld (fun _ hw' => rfl) ?_
  simp only [List.setIfInBounds_toArray, List.set_cons_zero, List.set_cons_succ]
  refine takeVal 12 146 (.bool true) rfl (by kernel_rfl) (by kernel_rfl) (by kernel_rfl) rfl (by rfl) (fun _ _ _ h => h) hHeld (fun _ hw' => rfl) ?_
  simp only [List.setIfInBounds_toArray, List.set_cons_zero, List.set_cons_succ]
  refine takeVal 13 147 (.pointer (some ⟨p, 0, none⟩)) rfl (by kernel_rfl) (by kernel_rfl) (by kernel_rfl) rfl (by rfl) (fun _ _ _ h => h) hHeld (fun _ hw' => rfl) ?_
  simp only [List.setIfInBounds_toArray, List.set_cons_zero, List.set_cons_succ]
  refine step1 14 (by kernel_rfl) ?_
  refine stCall 14 148 15 #[.pointer (some ⟨p, 0, none⟩), .int .i64 1] _ rfl rfl (by rfl) (by go_simp) (HUs.out _ hHeld.1.s) ?_
  rintro e wb ⟨rfl, rfl⟩
  refine ⟨_, rfl, hHeld, ?_⟩
  simp only [List.setIfInBounds_toArray, List.set_cons_zero, List.set_cons_succ]
  refine takeVal 15 149 (.bool true) rfl (by kernel_rfl) (by kernel_rfl) (by kernel_rfl) rfl (by rfl) (fun _ _ _ h => h) hHeld (fun _ hw' => rfl) ?_
  simp only [List.setIfInBounds_toArray, List.set_cons_zero, List.set_cons_succ]
  refine takeVal 16 2 (.bool true) rfl (by kernel_rfl) (by kernel_rfl) (by kernel_rfl) rfl (by rfl) (fun _ _ _ h => h) hHeld (fun _ hw' => rfl) ?_
  simp only [List.setIfInBounds_toArray, List.set_cons_zero, List.set_cons_succ]
  refine wpAnyH_done (by kernel_rfl) ?_ _
  refine NoPanic.normal ?_
  go_wp2_with fail
  go_ret
  exact ⟨rfl, hHeld.1.b⟩

set_option maxRecDepth 100000 in
set_option maxHeartbeats 2000000 in
theorem refused_in (sc ic pl mo : Int) (hp : I64 pl) (hm : I64 mo) (w : World) (a b : Nat) (h : 8 ≤ a ∧ a ≤ 4096 ∧ 1 ≤ b ∧ b ≤ 512 ∧ b + 2 ≤ a) (HSup : ∀ w, Calls Try.prog 21 #[.int .i64 sc, .int .i64 ic] w fun e w' => e = .returned (.agg #[.int .i64 (a : Int), .int .i64 (b : Int)]) ∧ Below w.heap.size w w')
    (q : Int) (c1 : (b : Int) < pl) (c2 : pl < (a : Int)) (hq : (b : Int) - pickN pl ((b : Int) + 1) = q) (hq2 : q ≤ (b : Int) ∨ (a : Int) ≤ q) (hq3 : I64 q) :
    Calls Try.prog 8 #[.agg #[.int .i64 sc, .int .i64 ic, .int .i64 pl, .int .i64 mo]] w fun e w' => e = .returned (.bool true) ∧ Below w.heap.size w w' := by
  replace HSup := hid HSup
  have HN := hid fun w => sNew_nil a b (mayB_of h) w
  have HH := hid h
  have hbb : b ≤ 512 := h.2.2.2.1
  have hab : a ≤ 4096 := h.2.1
  obtain ⟨Mo, hMo, hMo2⟩ := pickNat (c := mo) (show (1 : Int) ≤ 1000 by decide)
  have HMo := hid fun w => pick_any mo 1000 w hm (by decide) (by decide)
  rw [hMo] at HMo
  have HQ2 := hid hq2
  have HQ3 := hid hq3
  clear hMo h hq2 hq3
  go_enter Try.func8, Try.ntmps8
  go_upto_region 2 with (go_at_call 9; refine (awake_any _).mono ?_; rintro e w1 ⟨rfl, b1⟩; have B1 := hid b1; clear b1)
  have X1 := hid (box4 B1.out)
  obtain ⟨x0, x1, x2, x3⟩ := cells4 X1.out
  have BW1 := hid ((below_box w _).trans (B1.out.mono (by simp)))
  go_upto_region 3 with (go_at_call 21; refine (HSup.out _).mono ?_; rintro e w2 ⟨rfl, b2⟩; have B2 := hid b2; clear b2)
  have BW2 := hid (BW1.out.trans (B2.out.mono BW1.out.size))
  have X2 := hid ((Chg.of_below (below_box w2 (.cells #[.int .i64 (a : Int), .int .i64 (b : Int)] 23)) No).keep ((Chg.of_below B2.out No).keep X1.out (fun e => e)) (fun e => e))
  clear x0 x1 x2 x3
  obtain ⟨x0, x1, x2, x3⟩ := cells4 X2.out
  have y0 := heap_alloc_new w2 (.cells #[.int .i64 (a : Int), .int .i64 (b : Int)] 23)
  replace y0 := hid y0
  obtain ⟨z0, z1⟩ := cells2 y0.out
  go_upto_region 6 with (go_at_call 11; refine (HN.out _).mono ?_; rintro e w4 ⟨p, rfl, h4, b4⟩; have K4 := hid (kit_start BW2.out h4 b4); clear h4 b4)
  clear x0 x1 x2 x3 z0 z1 y0 X2 B2 BW2 BW1 X1 B1 HN HSup
  generalize w2.heap.size = X at *
  generalize hlo : X + 1 = lo at K4
  generalize hhi : w4.heap.size = hi at K4
  clear hlo hhi
  have k0 := K4.out.c0
  have k1 := K4.out.c1
  have HPk := hid fun w => pick_any pl ((b : Int) + 1) w hp (by omega) (by omega)
  have hpk := pickN_bd pl (show (1 : Int) ≤ (b : Int) + 1 by omega)
  generalize pickN pl ((b : Int) + 1) = P at *
  go_upto_region 9 with (fail)
  go_quiet (first | (go_at_call 22; exact Calls.quiet_of_same ((HPk.out _).mono fun e w' h => ⟨h.1, h.2.symm⟩)))
  have KD := hid (K4.out.drewN nq)
  clear k0 k1 K4 hq
  generalize w4.drewN nq = w5 at *
  go_upto_region 11 with (go_at_call 19; refine (takeBlock_any ((b : Int) + 1) true _ KD.out.s (nil_first a b HH.out.2.2.2.2)).mono ?_; rintro e w6 ⟨rfl, h6, c6⟩; rw [show errN true 80 = 0 from rfl]; have K6 := hid (KD.out.chg h6 c6); clear h6 c6 KD)
  rw [show (nil0 a b).takeS ((b : Int) + 1) true = (nil0 a b).setT ((b : Int) + 1) 1 from rfl] at K6
  go_upto_region 12 with (go_at_call 27; refine (later_any ((b : Int) + 1) ⟨by omega, by omega⟩ _ K6.out.s).mono ?_; rintro e w7 ⟨rfl, h7, c7⟩; rw [(one_later HH.out).1]; rw [(one_later HH.out).2] at h7; have K7 := hid (K6.out.chg h7 c7); clear h7 c7 K6)
  go_upto_region 13 with (go_at_call 17; refine (room_any _ K7.out.s).mono ?_; rintro e w8 ⟨rfl, b8⟩; rw [show roomV (one2 a b) = #[.int .i64 (one2 a b).rb, .int .i64 (one2 a b).rl, .int .i64 (one2 a b).ri] from rfl]; have K8 := hid (K7.out.call b8); clear b8 K7)
  rw [two_rl HH.out]
  have HR9 : Hid ((w8.alloc (.cells #[.int .i64 (one2 a b).rb, .int .i64 1, .int .i64 (one2 a b).ri] 40)).heap[w8.heap.size]? = some (.cells #[.int .i64 (one2 a b).rb, .int .i64 1, .int .i64 (one2 a b).ri] 40 (0, 0))) := heap_alloc_new _ _
  have K9 := hid (K8.out.boxed (.cells #[.int .i64 (one2 a b).rb, .int .i64 1, .int .i64 (one2 a b).ri] 40))
  have HT9 := hid K8.out.s.top
  clear K8
  generalize w8.alloc (.cells #[.int .i64 (one2 a b).rb, .int .i64 1, .int .i64 (one2 a b).ri] 40) = w9 at *
  generalize w8.heap.size = R at *
  generalize hrb : (one2 a b).rb = RB at *
  generalize hri : (one2 a b).ri = RI at *
  replace hrb := hid hrb
  replace hri := hid hri
  have hbx := hid (below_box w9 (.cells #[.int .i64 ((b : Int) + 1), .int .i64 q] 3))
  have K10 := hid (K9.out.call hbx.out)
  have HR10 := hid ((Chg.of_below hbx.out No).keep HR9.out (fun e => e))
  have HL10 : Hid (IntsAt (w9.alloc (.cells #[.int .i64 ((b : Int) + 1), .int .i64 q] 3)) (some ⟨w9.heap.size, 0, none⟩) [(b : Int) + 1, q]) := ints_row (t := 3) (heap_alloc_new w9 _)
  have H64 : Hid (∀ x, x ∈ [(b : Int) + 1, q] → I64 x) := by
    intro x hx
    rcases List.mem_cons.1 hx with e | e
    · rw [e]; exact ⟨by omega, by omega⟩
    · rw [List.mem_singleton.1 e]; exact HQ3.out
  have HOf : Hid (Off (some ⟨w9.heap.size, 0, none⟩) lo hi) := off_new K9.out.s.top
  go_upto_region 14 with (go_at_call 29; refine (landed_any [(b : Int) + 1, q] _ 2 2 _ K10.out.s rfl (by decide) HL10 H64 HOf).mono ?_; rintro e w11 ⟨rfl, h11, c11⟩; rw [(two_land _ _ HQ2.out).1]; rw [(two_land _ _ HQ2.out).2] at h11; have K11 := hid (K10.out.chg h11 c11); have HR11 := hid (c11.new HR10.out HT9.out); clear h11 c11)
  clear HL10 H64 HOf K10 HR10 hbx K9 HR9
  go_upto_region 15 with (go_at_call 27; refine (later_any q HQ3.out _ K11.out.s).mono ?_; rintro e w12 ⟨rfl, h12, c12⟩; rw [(two_later HH.out q).1]; rw [(two_later HH.out q).2] at h12; have K12 := hid (K11.out.chg h12 c12); have HR12 := hid (c12.new HR11.out HT9.out); clear h12 c12 K11 HR11)
  go_upto_region 16 with (go_at_call 27; refine (later_any ((b : Int) + 1) ⟨by omega, by omega⟩ _ K12.out.s).mono ?_; rintro e w13 ⟨rfl, h13, c13⟩; rw [(two_later HH.out _).1]; rw [(two_later HH.out _).2] at h13; have K13 := hid (K12.out.chg h13 c13); have HR13 := hid (c13.new HR12.out HT9.out); clear h13 c13 K12 HR12)
  go_upto_region 17 with (go_at_call 25; refine (freeInode_no 1 (.inl rfl) _ K13.out.s).mono ?_; rintro e w14 ⟨rfl, rfl⟩)
  have k1 := K13.out.c1
  have HF1 := hid fun n => freeInode_no (s := one2 a b) (lo := lo) (hi := hi) (p := p) ((b : Int) + 1 + (Mo : Int)) (.inr (two_free HH.out _ (.inr (by omega)))) (w13.drewN n) (K13.out.s.drewN n)
  go_quiet (first | (go_at_call 22; exact Calls.quiet_of_same ((HMo.out _).mono fun e w' h => ⟨h.1, h.2.symm⟩)) | (go_at_call 25; exact Calls.quiet_of_same ((HF1.out _).mono fun e w' h => ⟨h.1, h.2.symm⟩)))
  have K14 := hid (K13.out.drewN nq)
  have HR14 : Hid ((w13.drewN nq).heap[R]? = some (.cells #[.int .i64 RB, .int .i64 1, .int .i64 RI] 40 (0, 0))) := HR13.out
  clear k1 HF1 K13 HR13
  generalize w13.drewN nq = w14 at *
  have HF2 := hid (freeInode_no (s := one2 a b) (lo := lo) (hi := hi) (p := p) (-(Mo : Int)) (.inr (two_free HH.out _ (.inl (by omega)))) w14 K14.out.s)
  go_upto_region 20 with (first | (go_at_call 22; refine (HMo.out _).mono ?_; rintro e w15 ⟨rfl, rfl⟩) | (go_at_call 25; refine HF2.out.mono ?_; rintro e w15 ⟨rfl, rfl⟩))
  have HRo := hid fun w h => room_any (s := one2 a b) (lo := lo) (hi := hi) (p := p) w h
  rw [show roomV (one2 a b) = #[.int .i64 (one2 a b).rb, .int .i64 (one2 a b).rl, .int .i64 (one2 a b).ri] from rfl, two_rl HH.out, hrb.out, hri.out] at HRo
  have HUs := hid fun w h => used_any (s := one2 a b) (lo := lo) (hi := hi) (p := p) 1 w h
  rw [two_used HH.out] at HUs
  refine wp_region_noPanic ?_
  refine wp_region_held_drew (S := fun w' => Kit w w' X lo hi p a b (one2 a b) ∧ w'.heap[R]? = some (.cells #[.int .i64 RB, .int .i64 1, .int .i64 RI] 40 (0, 0))) (by kernel_rfl) ⟨K14.out.drewN 1, HR14.out⟩ (fun hHeld => ?_)
  refine takeVal 0 134 (.bool true) rfl (by kernel_rfl) (by kernel_rfl) (by kernel_rfl) rfl (by rfl) (fun _ _ _ h => h) hHeld (fun _ hw' => rfl) ?_
  simp only [List.setIfInBounds_toArray, List.set_cons_zero, List.set_cons_succ]
  refine takeVal 1 135 (.bool true) rfl (by kernel_rfl) (by kernel_rfl) (by kernel_rfl) rfl (by rfl) (fun _ _ _ h => h) hHeld (fun _ hw' => rfl) ?_
  simp only [List.setIfInBounds_toArray, List.set_cons_zero, List.set_cons_succ]
  refine takeVal 2 136 (.pointer (some ⟨p, 0, none⟩)) rfl (by kernel_rfl) (by kernel_rfl) (by kernel_rfl) rfl (by rfl) (fun _ _ _ h => h) hHeld (fun _ hw' => rfl) ?_
  simp only [List.setIfInBounds_toArray, List.set_cons_zero, List.set_cons_succ]
  refine takeR 4 138 40 (.tmp 12) R 40 #[.int .i64 RB, .int .i64 1, .int .i64 RI] _ rfl (by kernel_rfl) (by kernel_rfl) (by kernel_rfl) rfl rfl rfl Try.underlying40 rfl (by rw [szRm]; rfl) (by rfl) (fun _ _ _ h => h) hHeld (fun _ hw' => hw'.2) ?_
  simp only [List.setIfInBounds_toArray, List.set_cons_zero, List.set_cons_succ]
  refine step1 3 (by kernel_rfl) ?_
  refine stCall 3 137 17 #[.pointer (some ⟨p, 0, none⟩)] _ rfl rfl (by rfl) (by go_simp) (HRo.out _ hHeld.1.s) ?_
  rintro e wa ⟨rfl, bwa⟩
  have hHeld : Kit w wa X lo hi p a b (one2 a b) ∧ wa.heap[R]? = some (.cells #[.int .i64 RB, .int .i64 1, .int .i64 RI] 40 (0, 0)) := ⟨hHeld.1.call bwa, (Chg.of_below bwa No).keep hHeld.2 (fun e => e)⟩
  refine ⟨_, rfl, hHeld, ?_⟩
  simp only [List.setIfInBounds_toArray, List.set_cons_zero, List.set_cons_succ]
  refine takeVal 5 139 (.bool true) rfl (by kernel_rfl) (by kernel_rfl) (by kernel_rfl) rfl (by rfl) (fun _ _ _ h => h) hHeld (fun _ hw' => by go_simp) ?_
  simp only [List.setIfInBounds_toArray, List.set_cons_zero, List.set_cons_succ]
  refine takeVal 6 140 (.bool true) rfl (by kernel_rfl) (by kernel_rfl) (by kernel_rfl) rfl (by rfl) (fun _ _ _ h => h) hHeld (fun _ hw' => rfl) ?_
  simp only [List.setIfInBounds_toArray, List.set_cons_zero, List.set_cons_succ]
  refine takeVal 7 141 (.bool true) rfl (by kernel_rfl) (by kernel_rfl) (by kernel_rfl) rfl (by rfl) (fun _ _ _ h => h) hHeld (fun _ hw' => rfl) ?_
  simp only [List.setIfInBounds_toArray, List.set_cons_zero, List.set_cons_succ]
  refine takeVal 8 142 (.pointer (some ⟨R, 1, none⟩)) rfl (by kernel_rfl) (by kernel_rfl) (by kernel_rfl) rfl (by rfl) (fun _ _ _ h => h) hHeld (fun _ hw' => by go_simp) ?_
  simp only [List.setIfInBounds_toArray, List.set_cons_zero, List.set_cons_succ]
  refine takeVal 9 143 (.int .i64 1) rfl (by kernel_rfl) (by kernel_rfl) (by kernel_rfl) rfl (by rfl) (fun _ _ _ h => h) hHeld (fun _ hw' => by have cc := (cells3 hw'.2).2.1; go_simp) ?_
  simp only [List.setIfInBounds_toArray, List.set_cons_zero, List.set_cons_succ]
  refine takeVal 10 144 (.bool true) rfl (by kernel_rfl) (by kernel_rfl) (by kernel_rfl) rfl (by rfl) (fun _ _ _ h => h) hHeld (fun _ hw' => by go_simp) ?_
  simp only [List.setIfInBounds_toArray, List.set_cons_zero, List.set_cons_succ]
  refine takeVal 11 145 (.bool true) rfl (by kernel_rfl) (by kernel_rfl) (by kernel_rfl) rfl (by rfl) (fun _ _ _ h => h) hHeld (fun _ hw' => rfl) ?_
  simp only [List.setIfInBounds_toArray, List.set_cons_zero, List.set_cons_succ]
  refine takeVal 12 146 (.bool true) rfl (by kernel_rfl) (by kernel_rfl) (by kernel_rfl) rfl (by rfl) (fun _ _ _ h => h) hHeld (fun _ hw' => rfl) ?_
  simp only [List.setIfInBounds_toArray, List.set_cons_zero, List.set_cons_succ]
  refine takeVal 13 147 (.pointer (some ⟨p, 0, none⟩)) rfl (by kernel_rfl) (by kernel_rfl) (by kernel_rfl) rfl (by rfl) (fun _ _ _ h => h) hHeld (fun _ hw' => rfl) ?_
  simp only [List.setIfInBounds_toArray, List.set_cons_zero, List.set_cons_succ]
  refine step1 14 (by kernel_rfl) ?_
  refine stCall 14 148 15 #[.pointer (some ⟨p, 0, none⟩), .int .i64 1] _ rfl rfl (by rfl) (by go_simp) (HUs.out _ hHeld.1.s) ?_
  rintro e wb ⟨rfl, rfl⟩
  refine ⟨_, rfl, hHeld, ?_⟩
  simp only [List.setIfInBounds_toArray, List.set_cons_zero, List.set_cons_succ]
  refine takeVal 15 149 (.bool true) rfl (by kernel_rfl) (by kernel_rfl) (by kernel_rfl) rfl (by rfl) (fun _ _ _ h => h) hHeld (fun _ hw' => rfl) ?_
  simp only [List.setIfInBounds_toArray, List.set_cons_zero, List.set_cons_succ]
  refine takeVal 16 2 (.bool true) rfl (by kernel_rfl) (by kernel_rfl) (by kernel_rfl) rfl (by rfl) (fun _ _ _ h => h) hHeld (fun _ hw' => rfl) ?_
  simp only [List.setIfInBounds_toArray, List.set_cons_zero, List.set_cons_succ]
  refine wpAnyH_done (by kernel_rfl) ?_ _
  refine NoPanic.normal ?_
  go_wp2_with fail
  go_ret
  exact ⟨rfl, hHeld.1.b⟩

theorem refused_walk (sc ic pl mo : Int) (hs : I64 sc) (hi : I64 ic) (hp : I64 pl) (hm : I64 mo) (w : World) :
    Calls Try.prog 8 #[.agg #[.int .i64 sc, .int .i64 ic, .int .i64 pl, .int .i64 mo]] w fun e w' => e = .returned (.bool true) ∧ Below w.heap.size w w' := by
  obtain ⟨a, b, h, HSup⟩ := super_ex sc ic hs hi
  by_cases c1 : pl ≤ (b : Int)
  · exact refused_low sc ic pl mo hp hm w a b h HSup pl c1 rfl (.inl c1) hp
  · by_cases c2 : pl < (a : Int)
    · have hpk := pickN_bd pl (show (1 : Int) ≤ (b : Int) + 1 by omega)
      exact refused_in sc ic pl mo hp hm w a b h HSup _ (by omega) c2 rfl (.inl (by omega)) ⟨by omega, by omega⟩
    · exact refused_high sc ic pl mo hp hm w a b h HSup pl (by omega) (by omega) rfl (.inr (by omega)) hp

end Go.Proofs.Ytdhhmcecgddlnaa
