/-
  SpaceInodes returns true: the walk.
-/
import Derived.Test.YtdhhmcecgddlnaaU0
namespace Go.Proofs.Ytdhhmcecgddlnaa
open Go.RowKit

/-- What the statement keeps of inodes: those in use, and one that there is not. -/
def useL (s : SS) : List Bool := s.I ++ [false]
theorem useL_get (s : SS) (i : Nat) : (useL s).getD i false = hasL s.I i := by
  unfold useL
  rw [hasL_nat, List.getD_eq_getElem?_getD, List.getD_eq_getElem?_getD]
  rcases Nat.lt_or_ge i s.I.length with c | c
  · rw [List.getElem?_append_left c]
  · rw [List.getElem?_append_right c, List.getElem?_eq_none c]
    cases hq : i - s.I.length <;> rfl
theorem useL_len {s : SS} (h : s.Ok) : (useL s).length = s.ni + 2 := by unfold useL; simp [h.lI]
theorem useL_set {s : SS} (i : Nat) (v : Bool) (h : i < s.I.length) : (useL s).set i v = useL (s.setI i v) := by
  unfold useL SS.setI
  rw [putL_in, List.set_append_left _ _ h]
theorem useL_nil (a b : Nat) (hb : 1 ≤ b) : (noneL (b + 2)).set 1 true = useL (nil0 a b) := by
  unfold useL nil0 putL noneL
  rw [if_pos (by decide)]
  show (List.replicate (b + 2) false).set 1 true = (List.replicate (b + 1) false).set 1 true ++ [false]
  rw [show [false] = List.replicate 1 false from rfl, ← List.set_append_left _ _ (by simp; omega), List.replicate_append_replicate]
theorem ri_set {s : SS} (i : Int) (v : Bool) (h0 : 0 ≤ i ∧ i < s.I.length) (hv : hasL s.I i = !v) : (s.setI i v).ri = if v = true then s.ri - 1 else s.ri + 1 := by
  have e := count_put s.I i v h0
  unfold SS.ri SS.setI
  cases v
  · rw [hv] at e
    simp at e ⊢
    omega
  · rw [hv] at e
    simp at e ⊢
    omega
theorem ri_nil (a b : Nat) (h : 1 ≤ b) : (nil0 a b).ri = (b : Int) - 1 := by
  have e := count_put (noneL (b + 1)) 1 true ⟨by decide, by rw [noneL_len]; omega⟩
  rw [noneL_has, noneL_count] at e
  unfold SS.ri nil0
  simp at e ⊢
  omega
theorem ri_bd {s : SS} (h : s.Ok) : -10000 ≤ s.ri ∧ s.ri ≤ 10000 := by
  have := count_top s.I
  rw [h.lI] at this
  have := h.i2
  unfold SS.ri
  omega
theorem inode_least {s : SS} (h : s.Ok) {y : Int} {bb : Bool} (hF : FirstIs s.I 1 y bb) : ∃ E : Nat, 2 ≤ E ∧ E ≤ s.ni + 1 ∧ (∀ j : Nat, 2 ≤ j → j < E → hasL s.I j = true) ∧ (bb = true → y = (E : Int) ∧ E ≤ s.ni ∧ hasL s.I E = false) ∧ (bb = false → y = 0 ∧ E = s.ni + 1) := by
  have hi := h.i1
  cases bb
  · obtain ⟨e1, e2⟩ := hF.no rfl
    rw [h.lI] at e2
    exact ⟨s.ni + 1, by omega, by omega, fun j h1 h2 => e2 j (by omega) (by omega) (by omega), fun e => (by cases e), fun _ => ⟨e1, rfl⟩⟩
  · obtain ⟨e1, e2, e3, e4, e5⟩ := hF.yes rfl
    rw [h.lI] at e3
    obtain ⟨Y, rfl⟩ := Int.eq_ofNat_of_zero_le e2
    have hY : Y ≠ 1 := fun e => by rw [e] at e4; have := h.I1; rw [show ((1 : Nat) : Int) = 1 from rfl, this] at e4; cases e4
    exact ⟨Y, by omega, by omega, fun j h1 h2 => e5 j (by omega) (by omega) (by omega), fun _ => ⟨rfl, by omega, e4⟩, fun e => (by cases e)⟩
theorem field_room (x y z : Int) (w : World) : (Instr.field 40 (.agg #[.int .i64 x, .int .i64 y, .int .i64 z]) 2).run Try.prog w = .ok (.int .i64 z) w := by kernel_rfl
def InI (w wr : World) (X lo hi p a b U : Nat) (s : SS) : Prop := Kit w wr X lo hi p a b s ∧ wr.heap[U]? = some (.cells (BA (useL s)) 4 (0, 0)) ∧ s.ni = b
theorem InI.at {w wr : World} {X lo hi p a b U : Nat} {s : SS} (h : InI w wr X lo hi p a b U s) (k : Nat) (hk : k ≤ b + 1) : wr.cell? ⟨U, k, none⟩ = some (.bool (hasL s.I k)) := by
  rw [cell_of_row _ _ _ _ _ _ h.2.1, BA_get _ _ (by rw [useL_len h.1.s.ok, h.2.2]; omega), useL_get]
theorem InI.chg {w wr wr' : World} {X lo hi p a b U : Nat} {s : SS} (h : InI w wr X lo hi p a b U s) (hs : IsS wr' lo hi p s) (hc : Chg wr wr' (Rg lo hi)) (hU : hi ≤ U) : InI w wr' X lo hi p a b U s := ⟨h.1.chg hs hc, hc.new h.2.1 hU, h.2.2⟩
theorem InI.call {w wr wr' : World} {X lo hi p a b U : Nat} {s : SS} (h : InI w wr X lo hi p a b U s) (hb : Below wr.heap.size wr wr') : InI w wr' X lo hi p a b U s := ⟨h.1.call hb, (Chg.of_below hb No).keep h.2.1 (fun e => e), h.2.2⟩
theorem InI.drewN {w wr : World} {X lo hi p a b U : Nat} {s : SS} (h : InI w wr X lo hi p a b U s) (n : Nat) : InI w (wr.drewN n) X lo hi p a b U s := ⟨h.1.drewN n, h.2.1, h.2.2⟩
theorem InI.set {w wr wr' : World} {X lo hi p a b U : Nat} {s : SS} (h : InI w wr X lo hi p a b U s) (i : Nat) (v : Bool) (hl : i < s.I.length) (hs : IsS wr' lo hi p (s.setI i v)) (hc : Chg wr wr' (Rg lo hi)) (hU : hi ≤ U) : InI w (wr'.setCell ⟨U, i, none⟩ (.bool v)) X lo hi p a b U (s.setI i v) :=
  ⟨(h.1.chg hs hc).set hU i _, by rw [← useL_set i v hl]; exact BA_put (hc.new h.2.1 hU) i v, h.2.2⟩

set_option maxRecDepth 100000 in
set_option maxHeartbeats 1000000 in
theorem inodes_walk (sc ic : Int) (xs : List Int) (ad : Option Addr) (cap : Nat) (w : World) (hs : I64 sc) (hic : I64 ic) (hl : xs.length ≤ 140737488355328) (HX : IntsAt w ad xs) (H64 : ∀ x, x ∈ xs → I64 x) :
    Calls Try.prog 6 #[.int .i64 sc, .int .i64 ic, .slice ad xs.length cap] w fun e w' => e = .returned (.bool true) ∧ Below w.heap.size w w' := by
  obtain ⟨a, b, h, HSup⟩ := super_ex sc ic hs hic
  replace HSup := hid HSup
  replace HX := hid HX
  replace H64 := hid H64
  have HN := hid fun w => sNew_nil a b (mayB_of h) w
  have HH := hid h
  have hbb : b ≤ 512 := h.2.2.2.1
  have hb1 : 1 ≤ b := h.2.2.1
  generalize hlen : xs.length = len at *
  replace hlen := hid hlen
  have hmk := make_bools (b + 2) (by omega)
  rw [show ((b + 2 : Nat) : Int) = (b : Int) + 2 by omega] at hmk
  clear h
  go_enter Try.func6, Try.ntmps6
  go_upto_region 2 with (go_at_call 9; refine (awake_any _).mono ?_; rintro e w1 ⟨rfl, b1⟩; have B1 := hid b1; clear b1)
  go_upto_region 3 with (go_at_call 21; refine (HSup.out _).mono ?_; rintro e w2 ⟨rfl, b2⟩; have BW2 := hid (B1.out.trans (b2.mono B1.out.size)); clear b2)
  have y0 := heap_alloc_new w2 (.cells #[.int .i64 (a : Int), .int .i64 (b : Int)] 23)
  replace y0 := hid y0
  obtain ⟨z0, z1⟩ := cells2 y0.out
  go_upto_region 4 with (go_at_call 11; refine (HN.out _).mono ?_; rintro e w4 ⟨p, rfl, h4, b4⟩; have K4 := hid (kit_start BW2.out h4 b4); clear h4 b4)
  clear z0 z1 y0 BW2 B1 HN HSup
  generalize w2.heap.size = X at *
  generalize hlo : X + 1 = lo at K4
  generalize hhi : w4.heap.size = hi at K4
  clear hlo
  replace hhi := hid hhi
  have k1 := K4.out.c1
  go_upto_region 7 with (fail)
  have HU5 := hid (heap_alloc_new w4 (.cells (BA (noneL (b + 2))) 4))
  have K5 := hid (K4.out.boxed (.cells (BA (noneL (b + 2))) 4))
  have HhU : Hid (hi ≤ w4.heap.size) := Nat.le_of_eq hhi.out.symm
  clear hhi K4 k1 hmk
  generalize w4.alloc (.cells (BA (noneL (b + 2))) 4) = w5 at *
  generalize w4.heap.size = U at *
  have hcu : w5.cell? ⟨U, 1, none⟩ = some (.bool false) := by rw [cell_of_row _ _ _ _ _ _ HU5.out, BA_get _ _ (by rw [noneL_len]; omega), noneL_get]
  have hfu := frozen_of_row w5 U 1 _ _ HU5.out
  go_upto_region 8 with (fail)
  have I6 : Hid (InI w (w5.setCell ⟨U, 1, none⟩ (.bool true)) X lo hi p a b U (nil0 a b)) := ⟨K5.out.set HhU.out 1 _, by rw [← useL_nil a b hb1]; exact BA_put HU5.out 1 true, rfl⟩
  have HRI := hid (ri_nil a b hb1)
  clear hcu hfu K5 HU5
  generalize w5.setCell ⟨U, 1, none⟩ (.bool true) = w6 at *
  have k1 := I6.out.1.c1
  go_wp2
  clear k1
  go_loopw [13, 12] (fun i lf wr => ∃ (k : Nat) (s : SS), k ≤ len ∧ i = .int .i64 k ∧ lf = .int .i64 s.ri ∧ Hid (InI w wr X lo hi p a b U s)) (fun i _ _ => len - (intOf i).toNat)
  case atStart => exact ⟨0, nil0 a b, by omega, rfl, by rw [HRI.out], I6⟩
  case round =>
    clear HRI I6
    obtain ⟨k, s, hk, rfl, rfl, HI⟩ := hrel
    by_cases hlt : k < len
    · obtain ⟨bk, o, rfl, hcell⟩ := HX.out.get HI.out.1.b k (by rw [hlen.out]; exact hlt)
      have hkl : (k : Int) < (len : Int) := by omega
      have hx64 := all64 H64.out k (by rw [hlen.out]; exact hlt)
      generalize xs.getD k 0 = x at *
      obtain ⟨n, hn, hn2⟩ := pickNat (c := wrap64 (x.tdiv 3)) (show (1 : Int) ≤ (b : Int) + 2 by omega)
      have HP1 := hid fun w => pick_any (wrap64 (x.tdiv 3)) ((b : Int) + 2) w (wrapdiv 3 (by decide) hx64) (by omega) (by omega)
      rw [hn] at HP1
      obtain ⟨m, hm, hm2⟩ := pickNat (c := x) (show (1 : Int) ≤ 3 by decide)
      have HP2 := hid fun w => pick_any x 3 w hx64 (by decide) (by decide)
      rw [hm] at HP2
      clear hn hm hlt
      have k1 := HI.out.1.c1
      have hrb := ri_bd HI.out.1.s.ok
      go_upto_region 12 with (fail)
      go_quiet (first | (go_at_call 22; exact Calls.quiet_of_same ((HP1.out _).mono fun e w' h => ⟨h.1, h.2.symm⟩)))
      have I7 := hid (HI.out.drewN nq)
      have hc7 : (wr.drewN nq).cell? ⟨bk, o + k, none⟩ = some (.int .i64 x) := hcell
      clear HI hcell k1 HP1
      generalize wr.drewN nq = w7 at *
      by_cases hm0 : m = 0
      · have hn0 : ((m : Int) == 0) = true := by rw [hm0]; rfl
        subst hm0
        have FR := hid (freeInode_any (s := s) (lo := lo) (hi := hi) (p := p) n w7 I7.out.1.s)
        go_upto_region 25 with (go_at_call 22; refine (HP2.out _).mono ?_; rintro e w8 ⟨rfl, rfl⟩)
        clear hc7
        have k1 := I7.out.1.c1
        have hcu := I7.out.at n (by omega)
        have hnb : (n : Int) < (b : Int) + 2 := hn2
        by_cases hw : 2 ≤ n ∧ hasL s.I n = true
        · have hr := I7.out.1.s.ok.ino_of hw.2
          rw [I7.out.2.2] at hr
          have hE : s.freeE n = 0 := if_neg (fun e => by rcases e with e | e; omega; rw [hw.2] at e; cases e)
          have hS : s.freeS n = s.setI n false := if_neg (fun e => by rcases e with e | e; omega; rw [hw.2] at e; cases e)
          rw [hE, hS] at FR
          have hlI : n < s.I.length := by rw [I7.out.1.s.ok.lI, I7.out.2.2]; omega
          have HLF : Hid ((s.setI n false).ri = s.ri + 1) := by
            have := ri_set (s := s) n false ⟨by omega, by omega⟩ hw.2
            exact this
          rw [hw.2] at hcu
          have h2n : (2 : Int) ≤ (n : Int) := by omega
          have hnb2 : (n : Int) ≤ (b : Int) := by omega
          replace hlI := hid hlI
          clear hE hS hw hr
          go_upto_region 26 with (go_at_call 25; refine FR.out.mono ?_; rintro e w8 ⟨rfl, h8, c8⟩; have H8 := hid h8; have C8 := hid c8; clear h8 c8)
          have k8 : w8.cell? ⟨X, 1, none⟩ = some (.int .i64 (b : Int)) := (I7.out.1.chg H8.out C8.out).c1
          have hrow := C8.out.new I7.out.2.1 HhU.out
          have hc8 : w8.cell? ⟨U, n, none⟩ = some (.bool true) := by
            have e := cell_of_row w7 U n _ _ _ I7.out.2.1
            rw [hcu] at e
            rw [cell_of_row _ _ _ _ _ _ hrow]
            exact e.symm
          have hf8 := frozen_of_row w8 U n _ _ hrow
          have I9 := hid (I7.out.set n false hlI.out H8.out C8.out HhU.out)
          clear k1 hcu hrow FR H8 C8 I7
          go_upto_region 31 with (fail)
          clear k8 hc8 hf8
          generalize w8.setCell ⟨U, n, none⟩ (.bool false) = w9 at *
          go_upto_region 32 with (fail)
          obtain ⟨v, hv⟩ : ∃ v, hasL (s.setI n false).I n = v := ⟨_, rfl⟩
          have HUn := hid fun w h => used_any (s := s.setI n false) (lo := lo) (hi := hi) (p := p) n w h
          rw [hv] at HUn
          have HCn : Hid (∀ w', InI w w' X lo hi p a b U (s.setI n false) → w'.cell? ⟨U, n, none⟩ = some (.bool v)) := fun w' h => by rw [← hv]; exact h.at n (by omega)
          have HU1 := hid fun w h => used_any (s := s.setI n false) (lo := lo) (hi := hi) (p := p) 1 w h
          rw [I9.out.1.s.ok.I1] at HU1
          have HRo := hid fun w h => room_any (s := s.setI n false) (lo := lo) (hi := hi) (p := p) w h
          rw [show roomV (s.setI n false) = #[.int .i64 (s.setI n false).rb, .int .i64 (s.setI n false).rl, .int .i64 (s.setI n false).ri] from rfl, HLF.out] at HRo
          generalize (s.setI n false).rb = RB at HRo
          generalize (s.setI n false).rl = RL at HRo
          clear hv
          have hnb : (n : Int) < (b : Int) + 2 := hn2
          refine wp_region_noPanic ?_
          refine wp_region_held_drew (S := fun w' => InI w w' X lo hi p a b U (s.setI n false)) (by kernel_rfl) (I9.out.drewN 1) (fun hHeld => ?_)
          refine takeVal 0 143 (.pointer (some ⟨p, 0, none⟩)) rfl (by kernel_rfl) (by kernel_rfl) (by kernel_rfl) rfl (by rfl) (fun _ _ _ h => h) hHeld (fun _ hw' => rfl) ?_
          simp only [List.setIfInBounds_toArray, List.set_cons_zero, List.set_cons_succ]
          refine takeVal 1 144 (.int .i64 (n : Int)) rfl (by kernel_rfl) (by kernel_rfl) (by kernel_rfl) rfl (by rfl) (fun _ _ _ h => h) hHeld (fun _ hw' => rfl) ?_
          simp only [List.setIfInBounds_toArray, List.set_cons_zero, List.set_cons_succ]
          refine takeVal 3 146 (.slice (some ⟨U, 0, none⟩) (b + 2) (b + 2)) rfl (by kernel_rfl) (by kernel_rfl) (by kernel_rfl) rfl (by rfl) (fun _ _ _ h => h) hHeld (fun _ hw' => rfl) ?_
          simp only [List.setIfInBounds_toArray, List.set_cons_zero, List.set_cons_succ]
          refine takeVal 4 147 (.int .i64 (n : Int)) rfl (by kernel_rfl) (by kernel_rfl) (by kernel_rfl) rfl (by rfl) (fun _ _ _ h => h) hHeld (fun _ hw' => rfl) ?_
          simp only [List.setIfInBounds_toArray, List.set_cons_zero, List.set_cons_succ]
          refine takeVal 5 148 (.pointer (some ⟨U, n, none⟩)) rfl (by kernel_rfl) (by kernel_rfl) (by kernel_rfl) rfl (by rfl) (fun _ _ _ h => h) hHeld (fun _ hw' => by go_simp) ?_
          simp only [List.setIfInBounds_toArray, List.set_cons_zero, List.set_cons_succ]
          refine takeVal 6 149 (.bool v) rfl (by kernel_rfl) (by kernel_rfl) (by kernel_rfl) rfl (by rfl) (fun _ _ _ h => h) hHeld (fun _ hw' => by have cc := HCn.out _ hw'; go_simp) ?_
          simp only [List.setIfInBounds_toArray, List.set_cons_zero, List.set_cons_succ]
          refine step1 2 (by kernel_rfl) ?_
          refine stCall 2 145 15 #[.pointer (some ⟨p, 0, none⟩), .int .i64 (n : Int)] _ rfl rfl (by rfl) (by go_simp) (HUn.out _ hHeld.1.s) ?_
          rintro e wd ⟨rfl, rfl⟩
          refine ⟨_, rfl, hHeld, ?_⟩
          simp only [List.setIfInBounds_toArray, List.set_cons_zero, List.set_cons_succ]
          refine takeVal 7 150 (.bool false) rfl (by kernel_rfl) (by kernel_rfl) (by kernel_rfl) rfl (by rfl) (fun _ _ _ h => h) hHeld (fun _ hw' => by go_simp) ?_
          simp only [List.setIfInBounds_toArray, List.set_cons_zero, List.set_cons_succ]
          refine takeVal 8 151 (.bool false) rfl (by kernel_rfl) (by kernel_rfl) (by kernel_rfl) rfl (by rfl) (fun _ _ _ h => h) hHeld (fun _ hw' => rfl) ?_
          simp only [List.setIfInBounds_toArray, List.set_cons_zero, List.set_cons_succ]
          refine takeVal 9 152 (.pointer (some ⟨p, 0, none⟩)) rfl (by kernel_rfl) (by kernel_rfl) (by kernel_rfl) rfl (by rfl) (fun _ _ _ h => h) hHeld (fun _ hw' => rfl) ?_
          simp only [List.setIfInBounds_toArray, List.set_cons_zero, List.set_cons_succ]
          refine takeVal 12 155 (.int .i64 (s.ri + 1)) rfl (by kernel_rfl) (by kernel_rfl) (by kernel_rfl) rfl (by rfl) (fun _ _ _ h => h) hHeld (fun _ hw' => rfl) ?_
          simp only [List.setIfInBounds_toArray, List.set_cons_zero, List.set_cons_succ]
          refine step1 10 (by kernel_rfl) ?_
          refine stCall 10 153 17 #[.pointer (some ⟨p, 0, none⟩)] _ rfl rfl (by rfl) (by go_simp) (HRo.out _ hHeld.1.s) ?_
          rintro e wa ⟨rfl, bwa⟩
          replace hHeld := hHeld.call bwa
          refine ⟨_, rfl, hHeld, ?_⟩
          simp only [List.setIfInBounds_toArray, List.set_cons_zero, List.set_cons_succ]
          refine takeVal 11 154 (.int .i64 (s.ri + 1)) rfl (by kernel_rfl) (by kernel_rfl) (by kernel_rfl) rfl (by rfl) (fun _ _ _ h => h) hHeld (fun _ hw' => by have e := field_room RB RL (s.ri + 1); go_simp) ?_
          simp only [List.setIfInBounds_toArray, List.set_cons_zero, List.set_cons_succ]
          refine takeVal 13 156 (.bool false) rfl (by kernel_rfl) (by kernel_rfl) (by kernel_rfl) rfl (by rfl) (fun _ _ _ h => h) hHeld (fun _ hw' => by go_simp) ?_
          simp only [List.setIfInBounds_toArray, List.set_cons_zero, List.set_cons_succ]
          refine takeVal 14 157 (.bool false) rfl (by kernel_rfl) (by kernel_rfl) (by kernel_rfl) rfl (by rfl) (fun _ _ _ h => h) hHeld (fun _ hw' => rfl) ?_
          simp only [List.setIfInBounds_toArray, List.set_cons_zero, List.set_cons_succ]
          refine takeVal 15 158 (.bool false) rfl (by kernel_rfl) (by kernel_rfl) (by kernel_rfl) rfl (by rfl) (fun _ _ _ h => h) hHeld (fun _ hw' => rfl) ?_
          simp only [List.setIfInBounds_toArray, List.set_cons_zero, List.set_cons_succ]
          refine takeVal 16 159 (.pointer (some ⟨p, 0, none⟩)) rfl (by kernel_rfl) (by kernel_rfl) (by kernel_rfl) rfl (by rfl) (fun _ _ _ h => h) hHeld (fun _ hw' => rfl) ?_
          simp only [List.setIfInBounds_toArray, List.set_cons_zero, List.set_cons_succ]
          refine step1 17 (by kernel_rfl) ?_
          refine stCall 17 160 15 #[.pointer (some ⟨p, 0, none⟩), .int .i64 1] _ rfl rfl (by rfl) (by go_simp) (HU1.out _ hHeld.1.s) ?_
          rintro e we ⟨rfl, rfl⟩
          refine ⟨_, rfl, hHeld, ?_⟩
          simp only [List.setIfInBounds_toArray, List.set_cons_zero, List.set_cons_succ]
          refine takeVal 18 161 (.bool false) rfl (by kernel_rfl) (by kernel_rfl) (by kernel_rfl) rfl (by rfl) (fun _ _ _ h => h) hHeld (fun _ hw' => by go_simp) ?_
          simp only [List.setIfInBounds_toArray, List.set_cons_zero, List.set_cons_succ]
          refine takeVal 19 162 (.bool false) rfl (by kernel_rfl) (by kernel_rfl) (by kernel_rfl) rfl (by rfl) (fun _ _ _ h => h) hHeld (fun _ hw' => rfl) ?_
          simp only [List.setIfInBounds_toArray, List.set_cons_zero, List.set_cons_succ]
          refine wpAnyH_done (by kernel_rfl) ?_ _
          refine NoPanic.normal ?_
          have HE := hid hHeld
          clear hHeld HUn HCn HU1 HRo
          go_wp2_with fail
          exact ⟨⟨k + 1, s.setI n false, by omega, by go_num, by rw [HLF.out], HE⟩, by simp [intOf]; omega⟩
        · have hE : s.freeE n = 82 := if_pos (by
            by_cases c : n = 1
            · exact .inl (by omega)
            · refine .inr ?_
              cases e : hasL s.I n
              · rfl
              · have := I7.out.1.s.ok.ino_of e
                exact absurd ⟨by omega, e⟩ hw)
          have hS : s.freeS n = s := by
            unfold SS.freeE at hE
            unfold SS.freeS
            split at hE
            · next c => rw [if_pos c]
            · cases hE
          rw [hE, hS] at FR
          have HWn := hid hw
          clear hE hS hw
          go_upto_region 26 with (go_at_call 25; refine FR.out.mono ?_; rintro e w8 ⟨rfl, h8, c8⟩; have I8 := hid (I7.out.chg h8 c8 HhU.out); clear h8 c8)
          clear k1 hcu
          have k1 := I8.out.1.c1
          have hcu := I8.out.at n (by omega)
          clear FR I7
          by_cases h2 : 2 ≤ n
          · have h2n : (2 : Int) ≤ (n : Int) := by omega
            by_cases h3 : n ≤ b
            · have hnb2 : (n : Int) ≤ (b : Int) := by omega
              have hv0 : hasL s.I n = false := by
                cases e : hasL s.I n
                · rfl
                · exact absurd ⟨h2, e⟩ HWn.out
              rw [hv0] at hcu
              clear hv0 h2 h3
              go_upto_region 32 with (fail)
              clear k1 hcu
              obtain ⟨v, hv⟩ : ∃ v, hasL (s).I n = v := ⟨_, rfl⟩
              have HUn := hid fun w h => used_any (s := s) (lo := lo) (hi := hi) (p := p) n w h
              rw [hv] at HUn
              have HCn : Hid (∀ w', InI w w' X lo hi p a b U (s) → w'.cell? ⟨U, n, none⟩ = some (.bool v)) := fun w' h => by rw [← hv]; exact h.at n (by omega)
              have HU1 := hid fun w h => used_any (s := s) (lo := lo) (hi := hi) (p := p) 1 w h
              rw [I8.out.1.s.ok.I1] at HU1
              have HRo := hid fun w h => room_any (s := s) (lo := lo) (hi := hi) (p := p) w h
              rw [show roomV (s) = #[.int .i64 (s).rb, .int .i64 (s).rl, .int .i64 (s).ri] from rfl] at HRo
              generalize (s).rb = RB at HRo
              generalize (s).rl = RL at HRo
              clear hv
              have hnb : (n : Int) < (b : Int) + 2 := hn2
              refine wp_region_noPanic ?_
              refine wp_region_held_drew (S := fun w' => InI w w' X lo hi p a b U (s)) (by kernel_rfl) (I8.out.drewN 1) (fun hHeld => ?_)
              refine takeVal 0 143 (.pointer (some ⟨p, 0, none⟩)) rfl (by kernel_rfl) (by kernel_rfl) (by kernel_rfl) rfl (by rfl) (fun _ _ _ h => h) hHeld (fun _ hw' => rfl) ?_
              simp only [List.setIfInBounds_toArray, List.set_cons_zero, List.set_cons_succ]
              refine takeVal 1 144 (.int .i64 (n : Int)) rfl (by kernel_rfl) (by kernel_rfl) (by kernel_rfl) rfl (by rfl) (fun _ _ _ h => h) hHeld (fun _ hw' => rfl) ?_
              simp only [List.setIfInBounds_toArray, List.set_cons_zero, List.set_cons_succ]
              refine takeVal 3 146 (.slice (some ⟨U, 0, none⟩) (b + 2) (b + 2)) rfl (by kernel_rfl) (by kernel_rfl) (by kernel_rfl) rfl (by rfl) (fun _ _ _ h => h) hHeld (fun _ hw' => rfl) ?_
              simp only [List.setIfInBounds_toArray, List.set_cons_zero, List.set_cons_succ]
              refine takeVal 4 147 (.int .i64 (n : Int)) rfl (by kernel_rfl) (by kernel_rfl) (by kernel_rfl) rfl (by rfl) (fun _ _ _ h => h) hHeld (fun _ hw' => rfl) ?_
              simp only [List.setIfInBounds_toArray, List.set_cons_zero, List.set_cons_succ]
              refine takeVal 5 148 (.pointer (some ⟨U, n, none⟩)) rfl (by kernel_rfl) (by kernel_rfl) (by kernel_rfl) rfl (by rfl) (fun _ _ _ h => h) hHeld (fun _ hw' => by go_simp) ?_
              simp only [List.setIfInBounds_toArray, List.set_cons_zero, List.set_cons_succ]
              refine takeVal 6 149 (.bool v) rfl (by kernel_rfl) (by kernel_rfl) (by kernel_rfl) rfl (by rfl) (fun _ _ _ h => h) hHeld (fun _ hw' => by have cc := HCn.out _ hw'; go_simp) ?_
              simp only [List.setIfInBounds_toArray, List.set_cons_zero, List.set_cons_succ]
              refine step1 2 (by kernel_rfl) ?_
              refine stCall 2 145 15 #[.pointer (some ⟨p, 0, none⟩), .int .i64 (n : Int)] _ rfl rfl (by rfl) (by go_simp) (HUn.out _ hHeld.1.s) ?_
              rintro e wd ⟨rfl, rfl⟩
              refine ⟨_, rfl, hHeld, ?_⟩
              simp only [List.setIfInBounds_toArray, List.set_cons_zero, List.set_cons_succ]
              refine takeVal 7 150 (.bool false) rfl (by kernel_rfl) (by kernel_rfl) (by kernel_rfl) rfl (by rfl) (fun _ _ _ h => h) hHeld (fun _ hw' => by go_simp) ?_
              simp only [List.setIfInBounds_toArray, List.set_cons_zero, List.set_cons_succ]
              refine takeVal 8 151 (.bool false) rfl (by kernel_rfl) (by kernel_rfl) (by kernel_rfl) rfl (by rfl) (fun _ _ _ h => h) hHeld (fun _ hw' => rfl) ?_
              simp only [List.setIfInBounds_toArray, List.set_cons_zero, List.set_cons_succ]
              refine takeVal 9 152 (.pointer (some ⟨p, 0, none⟩)) rfl (by kernel_rfl) (by kernel_rfl) (by kernel_rfl) rfl (by rfl) (fun _ _ _ h => h) hHeld (fun _ hw' => rfl) ?_
              simp only [List.setIfInBounds_toArray, List.set_cons_zero, List.set_cons_succ]
              refine takeVal 12 155 (.int .i64 (s.ri)) rfl (by kernel_rfl) (by kernel_rfl) (by kernel_rfl) rfl (by rfl) (fun _ _ _ h => h) hHeld (fun _ hw' => rfl) ?_
              simp only [List.setIfInBounds_toArray, List.set_cons_zero, List.set_cons_succ]
              refine step1 10 (by kernel_rfl) ?_
              refine stCall 10 153 17 #[.pointer (some ⟨p, 0, none⟩)] _ rfl rfl (by rfl) (by go_simp) (HRo.out _ hHeld.1.s) ?_
              rintro e wa ⟨rfl, bwa⟩
              replace hHeld := hHeld.call bwa
              refine ⟨_, rfl, hHeld, ?_⟩
              simp only [List.setIfInBounds_toArray, List.set_cons_zero, List.set_cons_succ]
              refine takeVal 11 154 (.int .i64 (s.ri)) rfl (by kernel_rfl) (by kernel_rfl) (by kernel_rfl) rfl (by rfl) (fun _ _ _ h => h) hHeld (fun _ hw' => by have e := field_room RB RL (s.ri); go_simp) ?_
              simp only [List.setIfInBounds_toArray, List.set_cons_zero, List.set_cons_succ]
              refine takeVal 13 156 (.bool false) rfl (by kernel_rfl) (by kernel_rfl) (by kernel_rfl) rfl (by rfl) (fun _ _ _ h => h) hHeld (fun _ hw' => by go_simp) ?_
              simp only [List.setIfInBounds_toArray, List.set_cons_zero, List.set_cons_succ]
              refine takeVal 14 157 (.bool false) rfl (by kernel_rfl) (by kernel_rfl) (by kernel_rfl) rfl (by rfl) (fun _ _ _ h => h) hHeld (fun _ hw' => rfl) ?_
              simp only [List.setIfInBounds_toArray, List.set_cons_zero, List.set_cons_succ]
              refine takeVal 15 158 (.bool false) rfl (by kernel_rfl) (by kernel_rfl) (by kernel_rfl) rfl (by rfl) (fun _ _ _ h => h) hHeld (fun _ hw' => rfl) ?_
              simp only [List.setIfInBounds_toArray, List.set_cons_zero, List.set_cons_succ]
              refine takeVal 16 159 (.pointer (some ⟨p, 0, none⟩)) rfl (by kernel_rfl) (by kernel_rfl) (by kernel_rfl) rfl (by rfl) (fun _ _ _ h => h) hHeld (fun _ hw' => rfl) ?_
              simp only [List.setIfInBounds_toArray, List.set_cons_zero, List.set_cons_succ]
              refine step1 17 (by kernel_rfl) ?_
              refine stCall 17 160 15 #[.pointer (some ⟨p, 0, none⟩), .int .i64 1] _ rfl rfl (by rfl) (by go_simp) (HU1.out _ hHeld.1.s) ?_
              rintro e we ⟨rfl, rfl⟩
              refine ⟨_, rfl, hHeld, ?_⟩
              simp only [List.setIfInBounds_toArray, List.set_cons_zero, List.set_cons_succ]
              refine takeVal 18 161 (.bool false) rfl (by kernel_rfl) (by kernel_rfl) (by kernel_rfl) rfl (by rfl) (fun _ _ _ h => h) hHeld (fun _ hw' => by go_simp) ?_
              simp only [List.setIfInBounds_toArray, List.set_cons_zero, List.set_cons_succ]
              refine takeVal 19 162 (.bool false) rfl (by kernel_rfl) (by kernel_rfl) (by kernel_rfl) rfl (by rfl) (fun _ _ _ h => h) hHeld (fun _ hw' => rfl) ?_
              simp only [List.setIfInBounds_toArray, List.set_cons_zero, List.set_cons_succ]
              refine wpAnyH_done (by kernel_rfl) ?_ _
              refine NoPanic.normal ?_
              have HE := hid hHeld
              clear hHeld HUn HCn HU1 HRo
              go_wp2_with fail
              exact ⟨⟨k + 1, s, by omega, by go_num, rfl, HE⟩, by simp [intOf]; omega⟩
            · have hnb2 : ¬ (n : Int) ≤ (b : Int) := by omega
              clear h2 h3
              go_upto_region 32 with (fail)
              clear k1 hcu
              obtain ⟨v, hv⟩ : ∃ v, hasL (s).I n = v := ⟨_, rfl⟩
              have HUn := hid fun w h => used_any (s := s) (lo := lo) (hi := hi) (p := p) n w h
              rw [hv] at HUn
              have HCn : Hid (∀ w', InI w w' X lo hi p a b U (s) → w'.cell? ⟨U, n, none⟩ = some (.bool v)) := fun w' h => by rw [← hv]; exact h.at n (by omega)
              have HU1 := hid fun w h => used_any (s := s) (lo := lo) (hi := hi) (p := p) 1 w h
              rw [I8.out.1.s.ok.I1] at HU1
              have HRo := hid fun w h => room_any (s := s) (lo := lo) (hi := hi) (p := p) w h
              rw [show roomV (s) = #[.int .i64 (s).rb, .int .i64 (s).rl, .int .i64 (s).ri] from rfl] at HRo
              generalize (s).rb = RB at HRo
              generalize (s).rl = RL at HRo
              clear hv
              have hnb : (n : Int) < (b : Int) + 2 := hn2
              refine wp_region_noPanic ?_
              refine wp_region_held_drew (S := fun w' => InI w w' X lo hi p a b U (s)) (by kernel_rfl) (I8.out.drewN 1) (fun hHeld => ?_)
              refine takeVal 0 143 (.pointer (some ⟨p, 0, none⟩)) rfl (by kernel_rfl) (by kernel_rfl) (by kernel_rfl) rfl (by rfl) (fun _ _ _ h => h) hHeld (fun _ hw' => rfl) ?_
              simp only [List.setIfInBounds_toArray, List.set_cons_zero, List.set_cons_succ]
              refine takeVal 1 144 (.int .i64 (n : Int)) rfl (by kernel_rfl) (by kernel_rfl) (by kernel_rfl) rfl (by rfl) (fun _ _ _ h => h) hHeld (fun _ hw' => rfl) ?_
              simp only [List.setIfInBounds_toArray, List.set_cons_zero, List.set_cons_succ]
              refine takeVal 3 146 (.slice (some ⟨U, 0, none⟩) (b + 2) (b + 2)) rfl (by kernel_rfl) (by kernel_rfl) (by kernel_rfl) rfl (by rfl) (fun _ _ _ h => h) hHeld (fun _ hw' => rfl) ?_
              simp only [List.setIfInBounds_toArray, List.set_cons_zero, List.set_cons_succ]
              refine takeVal 4 147 (.int .i64 (n : Int)) rfl (by kernel_rfl) (by kernel_rfl) (by kernel_rfl) rfl (by rfl) (fun _ _ _ h => h) hHeld (fun _ hw' => rfl) ?_
              simp only [List.setIfInBounds_toArray, List.set_cons_zero, List.set_cons_succ]
              refine takeVal 5 148 (.pointer (some ⟨U, n, none⟩)) rfl (by kernel_rfl) (by kernel_rfl) (by kernel_rfl) rfl (by rfl) (fun _ _ _ h => h) hHeld (fun _ hw' => by go_simp) ?_
              simp only [List.setIfInBounds_toArray, List.set_cons_zero, List.set_cons_succ]
              refine takeVal 6 149 (.bool v) rfl (by kernel_rfl) (by kernel_rfl) (by kernel_rfl) rfl (by rfl) (fun _ _ _ h => h) hHeld (fun _ hw' => by have cc := HCn.out _ hw'; go_simp) ?_
              simp only [List.setIfInBounds_toArray, List.set_cons_zero, List.set_cons_succ]
              refine step1 2 (by kernel_rfl) ?_
              refine stCall 2 145 15 #[.pointer (some ⟨p, 0, none⟩), .int .i64 (n : Int)] _ rfl rfl (by rfl) (by go_simp) (HUn.out _ hHeld.1.s) ?_
              rintro e wd ⟨rfl, rfl⟩
              refine ⟨_, rfl, hHeld, ?_⟩
              simp only [List.setIfInBounds_toArray, List.set_cons_zero, List.set_cons_succ]
              refine takeVal 7 150 (.bool false) rfl (by kernel_rfl) (by kernel_rfl) (by kernel_rfl) rfl (by rfl) (fun _ _ _ h => h) hHeld (fun _ hw' => by go_simp) ?_
              simp only [List.setIfInBounds_toArray, List.set_cons_zero, List.set_cons_succ]
              refine takeVal 8 151 (.bool false) rfl (by kernel_rfl) (by kernel_rfl) (by kernel_rfl) rfl (by rfl) (fun _ _ _ h => h) hHeld (fun _ hw' => rfl) ?_
              simp only [List.setIfInBounds_toArray, List.set_cons_zero, List.set_cons_succ]
              refine takeVal 9 152 (.pointer (some ⟨p, 0, none⟩)) rfl (by kernel_rfl) (by kernel_rfl) (by kernel_rfl) rfl (by rfl) (fun _ _ _ h => h) hHeld (fun _ hw' => rfl) ?_
              simp only [List.setIfInBounds_toArray, List.set_cons_zero, List.set_cons_succ]
              refine takeVal 12 155 (.int .i64 (s.ri)) rfl (by kernel_rfl) (by kernel_rfl) (by kernel_rfl) rfl (by rfl) (fun _ _ _ h => h) hHeld (fun _ hw' => rfl) ?_
              simp only [List.setIfInBounds_toArray, List.set_cons_zero, List.set_cons_succ]
              refine step1 10 (by kernel_rfl) ?_
              refine stCall 10 153 17 #[.pointer (some ⟨p, 0, none⟩)] _ rfl rfl (by rfl) (by go_simp) (HRo.out _ hHeld.1.s) ?_
              rintro e wa ⟨rfl, bwa⟩
              replace hHeld := hHeld.call bwa
              refine ⟨_, rfl, hHeld, ?_⟩
              simp only [List.setIfInBounds_toArray, List.set_cons_zero, List.set_cons_succ]
              refine takeVal 11 154 (.int .i64 (s.ri)) rfl (by kernel_rfl) (by kernel_rfl) (by kernel_rfl) rfl (by rfl) (fun _ _ _ h => h) hHeld (fun _ hw' => by have e := field_room RB RL (s.ri); go_simp) ?_
              simp only [List.setIfInBounds_toArray, List.set_cons_zero, List.set_cons_succ]
              refine takeVal 13 156 (.bool false) rfl (by kernel_rfl) (by kernel_rfl) (by kernel_rfl) rfl (by rfl) (fun _ _ _ h => h) hHeld (fun _ hw' => by go_simp) ?_
              simp only [List.setIfInBounds_toArray, List.set_cons_zero, List.set_cons_succ]
              refine takeVal 14 157 (.bool false) rfl (by kernel_rfl) (by kernel_rfl) (by kernel_rfl) rfl (by rfl) (fun _ _ _ h => h) hHeld (fun _ hw' => rfl) ?_
              simp only [List.setIfInBounds_toArray, List.set_cons_zero, List.set_cons_succ]
              refine takeVal 15 158 (.bool false) rfl (by kernel_rfl) (by kernel_rfl) (by kernel_rfl) rfl (by rfl) (fun _ _ _ h => h) hHeld (fun _ hw' => rfl) ?_
              simp only [List.setIfInBounds_toArray, List.set_cons_zero, List.set_cons_succ]
              refine takeVal 16 159 (.pointer (some ⟨p, 0, none⟩)) rfl (by kernel_rfl) (by kernel_rfl) (by kernel_rfl) rfl (by rfl) (fun _ _ _ h => h) hHeld (fun _ hw' => rfl) ?_
              simp only [List.setIfInBounds_toArray, List.set_cons_zero, List.set_cons_succ]
              refine step1 17 (by kernel_rfl) ?_
              refine stCall 17 160 15 #[.pointer (some ⟨p, 0, none⟩), .int .i64 1] _ rfl rfl (by rfl) (by go_simp) (HU1.out _ hHeld.1.s) ?_
              rintro e we ⟨rfl, rfl⟩
              refine ⟨_, rfl, hHeld, ?_⟩
              simp only [List.setIfInBounds_toArray, List.set_cons_zero, List.set_cons_succ]
              refine takeVal 18 161 (.bool false) rfl (by kernel_rfl) (by kernel_rfl) (by kernel_rfl) rfl (by rfl) (fun _ _ _ h => h) hHeld (fun _ hw' => by go_simp) ?_
              simp only [List.setIfInBounds_toArray, List.set_cons_zero, List.set_cons_succ]
              refine takeVal 19 162 (.bool false) rfl (by kernel_rfl) (by kernel_rfl) (by kernel_rfl) rfl (by rfl) (fun _ _ _ h => h) hHeld (fun _ hw' => rfl) ?_
              simp only [List.setIfInBounds_toArray, List.set_cons_zero, List.set_cons_succ]
              refine wpAnyH_done (by kernel_rfl) ?_ _
              refine NoPanic.normal ?_
              have HE := hid hHeld
              clear hHeld HUn HCn HU1 HRo
              go_wp2_with fail
              exact ⟨⟨k + 1, s, by omega, by go_num, rfl, HE⟩, by simp [intOf]; omega⟩
          · have h2n : ¬ (2 : Int) ≤ (n : Int) := by omega
            clear h2
            go_upto_region 32 with (fail)
            clear k1 hcu
            obtain ⟨v, hv⟩ : ∃ v, hasL (s).I n = v := ⟨_, rfl⟩
            have HUn := hid fun w h => used_any (s := s) (lo := lo) (hi := hi) (p := p) n w h
            rw [hv] at HUn
            have HCn : Hid (∀ w', InI w w' X lo hi p a b U (s) → w'.cell? ⟨U, n, none⟩ = some (.bool v)) := fun w' h => by rw [← hv]; exact h.at n (by omega)
            have HU1 := hid fun w h => used_any (s := s) (lo := lo) (hi := hi) (p := p) 1 w h
            rw [I8.out.1.s.ok.I1] at HU1
            have HRo := hid fun w h => room_any (s := s) (lo := lo) (hi := hi) (p := p) w h
            rw [show roomV (s) = #[.int .i64 (s).rb, .int .i64 (s).rl, .int .i64 (s).ri] from rfl] at HRo
            generalize (s).rb = RB at HRo
            generalize (s).rl = RL at HRo
            clear hv
            have hnb : (n : Int) < (b : Int) + 2 := hn2
            refine wp_region_noPanic ?_
            refine wp_region_held_drew (S := fun w' => InI w w' X lo hi p a b U (s)) (by kernel_rfl) (I8.out.drewN 1) (fun hHeld => ?_)
            refine takeVal 0 143 (.pointer (some ⟨p, 0, none⟩)) rfl (by kernel_rfl) (by kernel_rfl) (by kernel_rfl) rfl (by rfl) (fun _ _ _ h => h) hHeld (fun _ hw' => rfl) ?_
            simp only [List.setIfInBounds_toArray, List.set_cons_zero, List.set_cons_succ]
            refine takeVal 1 144 (.int .i64 (n : Int)) rfl (by kernel_rfl) (by kernel_rfl) (by kernel_rfl) rfl (by rfl) (fun _ _ _ h => h) hHeld (fun _ hw' => rfl) ?_
            simp only [List.setIfInBounds_toArray, List.set_cons_zero, List.set_cons_succ]
            refine takeVal 3 146 (.slice (some ⟨U, 0, none⟩) (b + 2) (b + 2)) rfl (by kernel_rfl) (by kernel_rfl) (by kernel_rfl) rfl (by rfl) (fun _ _ _ h => h) hHeld (fun _ hw' => rfl) ?_
            simp only [List.setIfInBounds_toArray, List.set_cons_zero, List.set_cons_succ]
            refine takeVal 4 147 (.int .i64 (n : Int)) rfl (by kernel_rfl) (by kernel_rfl) (by kernel_rfl) rfl (by rfl) (fun _ _ _ h => h) hHeld (fun _ hw' => rfl) ?_
            simp only [List.setIfInBounds_toArray, List.set_cons_zero, List.set_cons_succ]
            refine takeVal 5 148 (.pointer (some ⟨U, n, none⟩)) rfl (by kernel_rfl) (by kernel_rfl) (by kernel_rfl) rfl (by rfl) (fun _ _ _ h => h) hHeld (fun _ hw' => by go_simp) ?_
            simp only [List.setIfInBounds_toArray, List.set_cons_zero, List.set_cons_succ]
            refine takeVal 6 149 (.bool v) rfl (by kernel_rfl) (by kernel_rfl) (by kernel_rfl) rfl (by rfl) (fun _ _ _ h => h) hHeld (fun _ hw' => by have cc := HCn.out _ hw'; go_simp) ?_
            simp only [List.setIfInBounds_toArray, List.set_cons_zero, List.set_cons_succ]
            refine step1 2 (by kernel_rfl) ?_
            refine stCall 2 145 15 #[.pointer (some ⟨p, 0, none⟩), .int .i64 (n : Int)] _ rfl rfl (by rfl) (by go_simp) (HUn.out _ hHeld.1.s) ?_
            rintro e wd ⟨rfl, rfl⟩
            refine ⟨_, rfl, hHeld, ?_⟩
            simp only [List.setIfInBounds_toArray, List.set_cons_zero, List.set_cons_succ]
            refine takeVal 7 150 (.bool false) rfl (by kernel_rfl) (by kernel_rfl) (by kernel_rfl) rfl (by rfl) (fun _ _ _ h => h) hHeld (fun _ hw' => by go_simp) ?_
            simp only [List.setIfInBounds_toArray, List.set_cons_zero, List.set_cons_succ]
            refine takeVal 8 151 (.bool false) rfl (by kernel_rfl) (by kernel_rfl) (by kernel_rfl) rfl (by rfl) (fun _ _ _ h => h) hHeld (fun _ hw' => rfl) ?_
            simp only [List.setIfInBounds_toArray, List.set_cons_zero, List.set_cons_succ]
            refine takeVal 9 152 (.pointer (some ⟨p, 0, none⟩)) rfl (by kernel_rfl) (by kernel_rfl) (by kernel_rfl) rfl (by rfl) (fun _ _ _ h => h) hHeld (fun _ hw' => rfl) ?_
            simp only [List.setIfInBounds_toArray, List.set_cons_zero, List.set_cons_succ]
            refine takeVal 12 155 (.int .i64 (s.ri)) rfl (by kernel_rfl) (by kernel_rfl) (by kernel_rfl) rfl (by rfl) (fun _ _ _ h => h) hHeld (fun _ hw' => rfl) ?_
            simp only [List.setIfInBounds_toArray, List.set_cons_zero, List.set_cons_succ]
            refine step1 10 (by kernel_rfl) ?_
            refine stCall 10 153 17 #[.pointer (some ⟨p, 0, none⟩)] _ rfl rfl (by rfl) (by go_simp) (HRo.out _ hHeld.1.s) ?_
            rintro e wa ⟨rfl, bwa⟩
            replace hHeld := hHeld.call bwa
            refine ⟨_, rfl, hHeld, ?_⟩
            simp only [List.setIfInBounds_toArray, List.set_cons_zero, List.set_cons_succ]
            refine takeVal 11 154 (.int .i64 (s.ri)) rfl (by kernel_rfl) (by kernel_rfl) (by kernel_rfl) rfl (by rfl) (fun _ _ _ h => h) hHeld (fun _ hw' => by have e := field_room RB RL (s.ri); go_simp) ?_
            simp only [List.setIfInBounds_toArray, List.set_cons_zero, List.set_cons_succ]
            refine takeVal 13 156 (.bool false) rfl (by kernel_rfl) (by kernel_rfl) (by kernel_rfl) rfl (by rfl) (fun _ _ _ h => h) hHeld (fun _ hw' => by go_simp) ?_
            simp only [List.setIfInBounds_toArray, List.set_cons_zero, List.set_cons_succ]
            refine takeVal 14 157 (.bool false) rfl (by kernel_rfl) (by kernel_rfl) (by kernel_rfl) rfl (by rfl) (fun _ _ _ h => h) hHeld (fun _ hw' => rfl) ?_
            simp only [List.setIfInBounds_toArray, List.set_cons_zero, List.set_cons_succ]
            refine takeVal 15 158 (.bool false) rfl (by kernel_rfl) (by kernel_rfl) (by kernel_rfl) rfl (by rfl) (fun _ _ _ h => h) hHeld (fun _ hw' => rfl) ?_
            simp only [List.setIfInBounds_toArray, List.set_cons_zero, List.set_cons_succ]
            refine takeVal 16 159 (.pointer (some ⟨p, 0, none⟩)) rfl (by kernel_rfl) (by kernel_rfl) (by kernel_rfl) rfl (by rfl) (fun _ _ _ h => h) hHeld (fun _ hw' => rfl) ?_
            simp only [List.setIfInBounds_toArray, List.set_cons_zero, List.set_cons_succ]
            refine step1 17 (by kernel_rfl) ?_
            refine stCall 17 160 15 #[.pointer (some ⟨p, 0, none⟩), .int .i64 1] _ rfl rfl (by rfl) (by go_simp) (HU1.out _ hHeld.1.s) ?_
            rintro e we ⟨rfl, rfl⟩
            refine ⟨_, rfl, hHeld, ?_⟩
            simp only [List.setIfInBounds_toArray, List.set_cons_zero, List.set_cons_succ]
            refine takeVal 18 161 (.bool false) rfl (by kernel_rfl) (by kernel_rfl) (by kernel_rfl) rfl (by rfl) (fun _ _ _ h => h) hHeld (fun _ hw' => by go_simp) ?_
            simp only [List.setIfInBounds_toArray, List.set_cons_zero, List.set_cons_succ]
            refine takeVal 19 162 (.bool false) rfl (by kernel_rfl) (by kernel_rfl) (by kernel_rfl) rfl (by rfl) (fun _ _ _ h => h) hHeld (fun _ hw' => rfl) ?_
            simp only [List.setIfInBounds_toArray, List.set_cons_zero, List.set_cons_succ]
            refine wpAnyH_done (by kernel_rfl) ?_ _
            refine NoPanic.normal ?_
            have HE := hid hHeld
            clear hHeld HUn HCn HU1 HRo
            go_wp2_with fail
            exact ⟨⟨k + 1, s, by omega, by go_num, rfl, HE⟩, by simp [intOf]; omega⟩
      · have hm1 : (0 : Int) < (m : Int) := by omega
        clear hm0
        obtain ⟨y, bb, hF⟩ := first_ex s.I 1
        obtain ⟨E, hE1, hE2, hE3, hE4, hE5⟩ := inode_least I7.out.1.s.ok hF
        rw [I7.out.2.2] at hE2
        replace hE3 := hid hE3
        have TK := hid (takeInode_any (s := s) (lo := lo) (hi := hi) (p := p) y bb w7 I7.out.1.s hF)
        have k1 := I7.out.1.c1
        have HIA := hid fun k hk => I7.out.at k hk
        go_wp2_with (go_at_call 22; refine (HP2.out _).mono ?_; rintro e w8 ⟨rfl, rfl⟩)
        go_loop [15] (fun i => ∃ q : Nat, 2 ≤ q ∧ q ≤ E ∧ i = .int .i64 q) (fun i => E - (intOf i).toNat)
        case atStart => exact ⟨2, by omega, hE1, rfl⟩
        case round =>
          obtain ⟨q, hq1, hq2, rfl⟩ := hrel
          by_cases hqE : q < E
          · have hqb : (q : Int) ≤ (b : Int) := by omega
            have hqb2 : (q : Int) < (b : Int) + 2 := by omega
            have hcu := HIA.out q (by omega)
            rw [hE3.out q hq1 hqE] at hcu
            clear hE4 hE5
            go_wp2
            exact ⟨⟨q + 1, by omega, by omega, by go_num⟩, by simp [intOf]; omega⟩
          · obtain rfl : q = E := by omega
            clear hqE hq2
            cases bb
            · obtain ⟨rfl, hEq⟩ := hE5 rfl
              have hqb : ¬ (q : Int) ≤ (b : Int) := by rw [I7.out.2.2] at hEq; omega
              clear hE4 hE5 hEq
              go_upto_region 18 with (go_at_call 23; refine TK.out.mono ?_; rintro e w8 ⟨rfl, h8, c8⟩; rw [show errN false 81 = 81 from rfl]; rw [show s.takeI 0 false = s from rfl] at h8; have I8 := hid (I7.out.chg h8 c8 HhU.out); clear h8 c8)
              have k8 := I8.out.1.c1
              clear k1 TK I7 HIA hE3
              go_wp2
              exact ⟨⟨k + 1, s, by omega, by go_num, rfl, I8⟩, by simp [intOf]; omega⟩
            · obtain ⟨rfl, hqb0, hv0⟩ := hE4 rfl
              rw [I7.out.2.2] at hqb0
              have hqb : (q : Int) ≤ (b : Int) := by omega
              have hqb2 : (q : Int) < (b : Int) + 2 := by omega
              have hcu := HIA.out q (by omega)
              rw [hv0] at hcu
              have hlI : Hid (q < s.I.length) := by show _ < _; rw [I7.out.1.s.ok.lI, I7.out.2.2]; omega
              have HLF : Hid ((s.setI q true).ri = s.ri - 1) := ri_set (s := s) q true ⟨by omega, by have := hlI.out; omega⟩ hv0
              clear hE4 hE5 hv0 hqb0
              go_upto_region 18 with (go_at_call 23; refine TK.out.mono ?_; rintro e w8 ⟨rfl, h8, c8⟩; rw [show errN true 81 = 0 from rfl]; rw [show s.takeI (q : Int) true = s.setI q true from rfl] at h8; have H8 := hid h8; have C8 := hid c8; clear h8 c8)
              have k8 : w8.cell? ⟨X, 1, none⟩ = some (.int .i64 (b : Int)) := (I7.out.1.chg H8.out C8.out).c1
              have hrow := C8.out.new I7.out.2.1 HhU.out
              have hc8 : w8.cell? ⟨U, q, none⟩ = some (.bool false) := by
                have e := cell_of_row w7 U q _ _ _ I7.out.2.1
                rw [hcu] at e
                rw [cell_of_row _ _ _ _ _ _ hrow]
                exact e.symm
              have hf8 := frozen_of_row w8 U q _ _ hrow
              have I9 := hid (I7.out.set q true hlI.out H8.out C8.out HhU.out)
              clear k1 hcu hrow TK H8 C8 I7 HIA hE3
              go_upto_region 24 with (fail)
              clear k8 hc8 hf8
              generalize w8.setCell ⟨U, q, none⟩ (.bool true) = w9 at *
              go_upto_region 32 with (fail)
              obtain ⟨v, hv⟩ : ∃ v, hasL (s.setI q true).I n = v := ⟨_, rfl⟩
              have HUn := hid fun w h => used_any (s := s.setI q true) (lo := lo) (hi := hi) (p := p) n w h
              rw [hv] at HUn
              have HCn : Hid (∀ w', InI w w' X lo hi p a b U (s.setI q true) → w'.cell? ⟨U, n, none⟩ = some (.bool v)) := fun w' h => by rw [← hv]; exact h.at n (by omega)
              have HU1 := hid fun w h => used_any (s := s.setI q true) (lo := lo) (hi := hi) (p := p) 1 w h
              rw [I9.out.1.s.ok.I1] at HU1
              have HRo := hid fun w h => room_any (s := s.setI q true) (lo := lo) (hi := hi) (p := p) w h
              rw [show roomV (s.setI q true) = #[.int .i64 (s.setI q true).rb, .int .i64 (s.setI q true).rl, .int .i64 (s.setI q true).ri] from rfl, HLF.out] at HRo
              generalize (s.setI q true).rb = RB at HRo
              generalize (s.setI q true).rl = RL at HRo
              clear hv
              have hnb : (n : Int) < (b : Int) + 2 := hn2
              refine wp_region_noPanic ?_
              refine wp_region_held_drew (S := fun w' => InI w w' X lo hi p a b U (s.setI q true)) (by kernel_rfl) (I9.out.drewN 1) (fun hHeld => ?_)
              refine takeVal 0 143 (.pointer (some ⟨p, 0, none⟩)) rfl (by kernel_rfl) (by kernel_rfl) (by kernel_rfl) rfl (by rfl) (fun _ _ _ h => h) hHeld (fun _ hw' => rfl) ?_
              simp only [List.setIfInBounds_toArray, List.set_cons_zero, List.set_cons_succ]
              refine takeVal 1 144 (.int .i64 (n : Int)) rfl (by kernel_rfl) (by kernel_rfl) (by kernel_rfl) rfl (by rfl) (fun _ _ _ h => h) hHeld (fun _ hw' => rfl) ?_
              simp only [List.setIfInBounds_toArray, List.set_cons_zero, List.set_cons_succ]
              refine takeVal 3 146 (.slice (some ⟨U, 0, none⟩) (b + 2) (b + 2)) rfl (by kernel_rfl) (by kernel_rfl) (by kernel_rfl) rfl (by rfl) (fun _ _ _ h => h) hHeld (fun _ hw' => rfl) ?_
              simp only [List.setIfInBounds_toArray, List.set_cons_zero, List.set_cons_succ]
              refine takeVal 4 147 (.int .i64 (n : Int)) rfl (by kernel_rfl) (by kernel_rfl) (by kernel_rfl) rfl (by rfl) (fun _ _ _ h => h) hHeld (fun _ hw' => rfl) ?_
              simp only [List.setIfInBounds_toArray, List.set_cons_zero, List.set_cons_succ]
              refine takeVal 5 148 (.pointer (some ⟨U, n, none⟩)) rfl (by kernel_rfl) (by kernel_rfl) (by kernel_rfl) rfl (by rfl) (fun _ _ _ h => h) hHeld (fun _ hw' => by go_simp) ?_
              simp only [List.setIfInBounds_toArray, List.set_cons_zero, List.set_cons_succ]
              refine takeVal 6 149 (.bool v) rfl (by kernel_rfl) (by kernel_rfl) (by kernel_rfl) rfl (by rfl) (fun _ _ _ h => h) hHeld (fun _ hw' => by have cc := HCn.out _ hw'; go_simp) ?_
              simp only [List.setIfInBounds_toArray, List.set_cons_zero, List.set_cons_succ]
              refine step1 2 (by kernel_rfl) ?_
              refine stCall 2 145 15 #[.pointer (some ⟨p, 0, none⟩), .int .i64 (n : Int)] _ rfl rfl (by rfl) (by go_simp) (HUn.out _ hHeld.1.s) ?_
              rintro e wd ⟨rfl, rfl⟩
              refine ⟨_, rfl, hHeld, ?_⟩
              simp only [List.setIfInBounds_toArray, List.set_cons_zero, List.set_cons_succ]
              refine takeVal 7 150 (.bool false) rfl (by kernel_rfl) (by kernel_rfl) (by kernel_rfl) rfl (by rfl) (fun _ _ _ h => h) hHeld (fun _ hw' => by go_simp) ?_
              simp only [List.setIfInBounds_toArray, List.set_cons_zero, List.set_cons_succ]
              refine takeVal 8 151 (.bool false) rfl (by kernel_rfl) (by kernel_rfl) (by kernel_rfl) rfl (by rfl) (fun _ _ _ h => h) hHeld (fun _ hw' => rfl) ?_
              simp only [List.setIfInBounds_toArray, List.set_cons_zero, List.set_cons_succ]
              refine takeVal 9 152 (.pointer (some ⟨p, 0, none⟩)) rfl (by kernel_rfl) (by kernel_rfl) (by kernel_rfl) rfl (by rfl) (fun _ _ _ h => h) hHeld (fun _ hw' => rfl) ?_
              simp only [List.setIfInBounds_toArray, List.set_cons_zero, List.set_cons_succ]
              refine takeVal 12 155 (.int .i64 (s.ri - 1)) rfl (by kernel_rfl) (by kernel_rfl) (by kernel_rfl) rfl (by rfl) (fun _ _ _ h => h) hHeld (fun _ hw' => rfl) ?_
              simp only [List.setIfInBounds_toArray, List.set_cons_zero, List.set_cons_succ]
              refine step1 10 (by kernel_rfl) ?_
              refine stCall 10 153 17 #[.pointer (some ⟨p, 0, none⟩)] _ rfl rfl (by rfl) (by go_simp) (HRo.out _ hHeld.1.s) ?_
              rintro e wa ⟨rfl, bwa⟩
              replace hHeld := hHeld.call bwa
              refine ⟨_, rfl, hHeld, ?_⟩
              simp only [List.setIfInBounds_toArray, List.set_cons_zero, List.set_cons_succ]
              refine takeVal 11 154 (.int .i64 (s.ri - 1)) rfl (by kernel_rfl) (by kernel_rfl) (by kernel_rfl) rfl (by rfl) (fun _ _ _ h => h) hHeld (fun _ hw' => by have e := field_room RB RL (s.ri - 1); go_simp) ?_
              simp only [List.setIfInBounds_toArray, List.set_cons_zero, List.set_cons_succ]
              refine takeVal 13 156 (.bool false) rfl (by kernel_rfl) (by kernel_rfl) (by kernel_rfl) rfl (by rfl) (fun _ _ _ h => h) hHeld (fun _ hw' => by go_simp) ?_
              simp only [List.setIfInBounds_toArray, List.set_cons_zero, List.set_cons_succ]
              refine takeVal 14 157 (.bool false) rfl (by kernel_rfl) (by kernel_rfl) (by kernel_rfl) rfl (by rfl) (fun _ _ _ h => h) hHeld (fun _ hw' => rfl) ?_
              simp only [List.setIfInBounds_toArray, List.set_cons_zero, List.set_cons_succ]
              refine takeVal 15 158 (.bool false) rfl (by kernel_rfl) (by kernel_rfl) (by kernel_rfl) rfl (by rfl) (fun _ _ _ h => h) hHeld (fun _ hw' => rfl) ?_
              simp only [List.setIfInBounds_toArray, List.set_cons_zero, List.set_cons_succ]
              refine takeVal 16 159 (.pointer (some ⟨p, 0, none⟩)) rfl (by kernel_rfl) (by kernel_rfl) (by kernel_rfl) rfl (by rfl) (fun _ _ _ h => h) hHeld (fun _ hw' => rfl) ?_
              simp only [List.setIfInBounds_toArray, List.set_cons_zero, List.set_cons_succ]
              refine step1 17 (by kernel_rfl) ?_
              refine stCall 17 160 15 #[.pointer (some ⟨p, 0, none⟩), .int .i64 1] _ rfl rfl (by rfl) (by go_simp) (HU1.out _ hHeld.1.s) ?_
              rintro e we ⟨rfl, rfl⟩
              refine ⟨_, rfl, hHeld, ?_⟩
              simp only [List.setIfInBounds_toArray, List.set_cons_zero, List.set_cons_succ]
              refine takeVal 18 161 (.bool false) rfl (by kernel_rfl) (by kernel_rfl) (by kernel_rfl) rfl (by rfl) (fun _ _ _ h => h) hHeld (fun _ hw' => by go_simp) ?_
              simp only [List.setIfInBounds_toArray, List.set_cons_zero, List.set_cons_succ]
              refine takeVal 19 162 (.bool false) rfl (by kernel_rfl) (by kernel_rfl) (by kernel_rfl) rfl (by rfl) (fun _ _ _ h => h) hHeld (fun _ hw' => rfl) ?_
              simp only [List.setIfInBounds_toArray, List.set_cons_zero, List.set_cons_succ]
              refine wpAnyH_done (by kernel_rfl) ?_ _
              refine NoPanic.normal ?_
              have HE := hid hHeld
              clear hHeld HUn HCn HU1 HRo
              go_wp2_with fail
              exact ⟨⟨k + 1, s.setI q true, by omega, by go_num, by rw [HLF.out], HE⟩, by simp [intOf]; omega⟩
    · clear hk
      go_wp2
      go_ret
      exact ⟨rfl, HI.out.1.b⟩

end Go.Proofs.Ytdhhmcecgddlnaa
