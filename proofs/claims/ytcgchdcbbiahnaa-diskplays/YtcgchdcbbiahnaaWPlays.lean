/-
  DiskPlays returns true: the walk.
-/
import Derived.Test.YtcgchdcbbiahnaaStep4
import Derived.Test.YtcgchdcbbiahnaaDesk1
namespace Go.Proofs.Ytcgchdcbbiahnaa
open Go.RowKit

/-- One call of a script, raw. -/
structure OpV where
  kd : Int
  on : Int
  tt : Int
  n : Int
  bs : List Int
def OpV.z : OpV := ⟨0, 0, 0, 0, []⟩
def OpV.cells (o : OpV) (ad : Option Addr) (cap : Nat) : List Value := [.int .i64 o.kd, .int .i64 o.on, .int .i64 o.tt, .int .i64 o.n, .slice ad o.bs.length cap]
def OpsAt (w : World) (a : Option Addr) (l : List OpV) : Prop :=
  l = [] ∨ ∃ b o, a = some ⟨b, o, none⟩ ∧ b < w.heap.size ∧ ∀ j, j < l.length → ∃ ad cap, w.rangeAt b (o + j * 5) ((l.getD j OpV.z).cells ad cap) ∧ BytesAt w ad (l.getD j OpV.z).bs
def OpOK (o : OpV) : Prop := I64 o.on ∧ I64 o.tt ∧ I64 o.n

theorem step_any {w0 : World} {x j : Nat} {s : DS} (o : OpV) (ad : Option Addr) (cap : Nat) (w : World) (h : DInv w0 w x s j) (ho : OpOK o) (HBY : Hid (BytesAt w0 ad o.bs)) (hj : j < 4611686018427387904) :
    Calls Try.prog 25 #[.pointer (some ⟨x, 0, none⟩), .agg (o.cells ad cap).toArray] w fun e w' => e = .returned (.bool true) ∧ ∃ s', DInv w0 w' x s' (j + 1) := by
  obtain ⟨kd, on, tt, N, zs⟩ := o
  obtain ⟨h1, h2, h3⟩ := ho
  show Calls Try.prog 25 #[.pointer (some ⟨x, 0, none⟩), .agg #[.int .i64 kd, .int .i64 on, .int .i64 tt, .int .i64 N, .slice ad zs.length cap]] w _
  by_cases c1 : kd = 1
  · subst c1; exact step_read on tt N ad zs.length cap w h h1 h2
  by_cases c2 : kd = 2
  · subst c2; exact step_write on tt N ad zs.length cap w h h1 h2 zs (hid rfl) HBY hj
  by_cases c3 : kd = 3
  · subst c3; exact step_arm on tt N ad zs.length cap w h h1 h2 h3
  by_cases c4 : kd = 4
  · subst c4; exact step_restart on tt N ad zs.length cap w h h1 h2
  by_cases c5 : kd = 5
  · subst c5; exact step_copy on tt N ad zs.length cap w h h1 h2
  by_cases c6 : kd = 6
  · subst c6
    by_cases cc : s.ims.length < 40
    · exact step_imgroom on tt N ad zs.length cap w h h1 h2 cc
    · exact step_imgfull on tt N ad zs.length cap w h h1 h2 (by have := h.cnt; omega)
  by_cases c7 : kd = 7
  · subst c7
    by_cases cc : 1 ≤ N ∧ N ≤ 4096
    · exact step_newok on tt N ad zs.length cap w h h1 h2 N.toNat (by omega) (by omega) (by omega)
    · exact step_newbad on tt N ad zs.length cap w h h1 h2 cc
  by_cases c8 : kd = 8
  · subst c8; exact step_from on tt N ad zs.length cap w h h1 h2
  exact step_none kd on tt N ad zs.length cap w h h1 h2 c1 c2 c3 c4 c5 c6 c7 c8

theorem row_at {w : World} {base : Nat} {e : TypeId} {n : Nat} {v : Value} {xs : List Value} (h : w.ownsRow base e 1 v n xs) {i : Nat} (hi : i < n) (d : Value) : ∃ g c, v = .slice (some ⟨g, 0, none⟩) n c ∧ n ≤ c ∧ w.cell? ⟨g, i, none⟩ = some (xs.getD i d) := by
  rcases h.2 with ⟨_, h0⟩ | ⟨g, cap, cur, rfl, _, hc, hn, _, hs, ht⟩
  · omega
  · refine ⟨g, cap, rfl, hn, ?_⟩
    rw [cell_of_row _ _ _ _ _ _ hc, ← ht, List.getD_eq_getElem?_getD, List.getElem?_take, if_pos (by omega), Array.getElem?_toList]
    rw [Array.getElem?_eq_getElem (by omega)]
    rfl
theorem im_get {s : DS} {i : Nat} (hi : i < s.ims.length) : ∃ e, e ∈ s.ims ∧ (s.ims.map Im.va).getD i undef = e.va ∧ (s.ims.map Im.vb).getD i undef = e.vb := by
  refine ⟨s.ims[i], List.getElem_mem hi, ?_, ?_⟩
  · simp [List.getD_eq_getElem?_getD, hi]
  · simp [List.getD_eq_getElem?_getD, hi]

set_option maxRecDepth 100000 in
set_option maxHeartbeats 2000000 in
theorem still_any {w0 : World} {x j : Nat} {s : DS} (w : World) (h : DInv w0 w x s j) : Calls Try.prog 27 #[.pointer (some ⟨x, 0, none⟩)] w fun e w' => e = .returned (.bool true) ∧ ∃ n, w' = w.drewN n := by
  have H := hid h
  have hcnt := h.cnt
  clear h
  obtain ⟨a6, cap6, hv6⟩ := row_slice H.out.rl
  have HV6 := hid hv6
  clear hv6
  generalize hnn : s.ims.length = nn at *
  have HNN := hid hnn
  clear hnn
  go_enter Try.func27, Try.ntmps27
  go_wp2_with fail
  go_loopw [3] (fun i wr => ∃ k n : Nat, k ≤ nn ∧ i = .int .i64 k ∧ w.drewN n = wr) (fun i _ => nn - (intOf i).toNat)
  case atStart => exact ⟨0, 0, by omega, rfl, rfl⟩
  case round =>
    obtain ⟨k, n, hk, rfl, rfl⟩ := hrel
    have Hn := hid (H.out.drewN n)
    have c6 := Hn.out.c6
    rw [HV6.out] at c6
    by_cases hlt : k < nn
    · have hkl : (k : Int) < (nn : Int) := by omega
      obtain ⟨g6, q6, hg6, hq6, hc6⟩ := row_at Hn.out.rl (i := k) (by rw [HNN.out]; exact hlt) undef
      obtain ⟨g7, q7, hg7, hq7, hc7⟩ := row_at Hn.out.rw (i := k) (by rw [HNN.out]; exact hlt) undef
      obtain ⟨e, hem, he1, he2⟩ := im_get (s := s) (i := k) (by rw [HNN.out]; exact hlt)
      rw [he1] at hc6
      rw [he2] at hc7
      rw [hg6] at HV6
      have HC6 := hid hc6
      have HC7 := hid hc7
      have hv7 := Hn.out.c7
      rw [hg7, HNN.out] at hv7
      have c66 := Hn.out.c6
      rw [hg6, HNN.out] at c66
      have HI := hid (Hn.out.im e hem)
      have htop := HI.out.top
      clear hc6 hc7 hg6 hg7 he1 he2 hem c6 HV6
      go_wp2_with fail
      refine wp_region_noPanic ?_
      refine wp_region_held_drew (S := fun w' => ∃ m, w' = w.drewN m) (by kernel_rfl) ⟨n + 1, rfl⟩ (fun hHeld => ?_)
      have HI := hid (HI.out.keep (Mod.of_below (below_drewN (w.drewN n) _ 1)) (by simp) (by simp))
      refine takeVal 0 14 (.pointer (some ⟨x, 0, none⟩)) rfl (by kernel_rfl) (by kernel_rfl) (by kernel_rfl) rfl (by rfl) (fun _ _ _ h => h) hHeld (fun _ hw' => rfl) ?_
      simp only [List.setIfInBounds_toArray, List.set_cons_zero, List.set_cons_succ]
      refine takeVal 1 15 (.pointer (some ⟨x, 0, none⟩)) rfl (by kernel_rfl) (by kernel_rfl) (by kernel_rfl) rfl (by rfl) (fun _ _ _ h => h) hHeld (fun _ hw' => by go_simp) ?_
      simp only [List.setIfInBounds_toArray, List.set_cons_zero, List.set_cons_succ]
      refine takeVal 2 16 (.pointer (some ⟨x, 6, none⟩)) rfl (by kernel_rfl) (by kernel_rfl) (by kernel_rfl) rfl (by rfl) (fun _ _ _ h => h) hHeld (fun _ hw' => by go_simp) ?_
      simp only [List.setIfInBounds_toArray, List.set_cons_zero, List.set_cons_succ]
      refine takeVal 3 17 (.slice (some ⟨g6, 0, none⟩) nn q6) rfl (by kernel_rfl) (by kernel_rfl) (by kernel_rfl) rfl (by rfl) (fun _ _ _ h => h) hHeld (fun _ hw' => by obtain ⟨m, rfl⟩ := hw'; have hc : (w.drewN m).cell? ⟨x, 6, none⟩ = some (.slice (some ⟨g6, 0, none⟩) nn q6) := c66; go_simp) ?_
      simp only [List.setIfInBounds_toArray, List.set_cons_zero, List.set_cons_succ]
      refine takeVal 4 18 (.int .i64 (k : Int)) rfl (by kernel_rfl) (by kernel_rfl) (by kernel_rfl) rfl (by rfl) (fun _ _ _ h => h) hHeld (fun _ hw' => rfl) ?_
      simp only [List.setIfInBounds_toArray, List.set_cons_zero, List.set_cons_succ]
      refine takeVal 5 19 (.pointer (some ⟨g6, k, none⟩)) rfl (by kernel_rfl) (by kernel_rfl) (by kernel_rfl) rfl (by rfl) (fun _ _ _ h => h) hHeld (fun _ hw' => by go_simp) ?_
      simp only [List.setIfInBounds_toArray, List.set_cons_zero, List.set_cons_succ]
      refine takeVal 6 20 (e.va) rfl (by kernel_rfl) (by kernel_rfl) (by kernel_rfl) rfl (by rfl) (fun _ _ _ h => h) hHeld (fun _ hw' => by obtain ⟨m, rfl⟩ := hw'; have hc : (w.drewN m).cell? ⟨g6, k, none⟩ = some e.va := HC6.out; go_simp) ?_
      simp only [List.setIfInBounds_toArray, List.set_cons_zero, List.set_cons_succ]
      refine takeVal 7 21 (.pointer (some ⟨x, 0, none⟩)) rfl (by kernel_rfl) (by kernel_rfl) (by kernel_rfl) rfl (by rfl) (fun _ _ _ h => h) hHeld (fun _ hw' => rfl) ?_
      simp only [List.setIfInBounds_toArray, List.set_cons_zero, List.set_cons_succ]
      refine takeVal 8 22 (.pointer (some ⟨x, 0, none⟩)) rfl (by kernel_rfl) (by kernel_rfl) (by kernel_rfl) rfl (by rfl) (fun _ _ _ h => h) hHeld (fun _ hw' => by go_simp) ?_
      simp only [List.setIfInBounds_toArray, List.set_cons_zero, List.set_cons_succ]
      refine takeVal 9 23 (.pointer (some ⟨x, 7, none⟩)) rfl (by kernel_rfl) (by kernel_rfl) (by kernel_rfl) rfl (by rfl) (fun _ _ _ h => h) hHeld (fun _ hw' => by go_simp) ?_
      simp only [List.setIfInBounds_toArray, List.set_cons_zero, List.set_cons_succ]
      refine takeVal 10 24 (.slice (some ⟨g7, 0, none⟩) nn q7) rfl (by kernel_rfl) (by kernel_rfl) (by kernel_rfl) rfl (by rfl) (fun _ _ _ h => h) hHeld (fun _ hw' => by obtain ⟨m, rfl⟩ := hw'; have hc : (w.drewN m).cell? ⟨x, 7, none⟩ = some (.slice (some ⟨g7, 0, none⟩) nn q7) := hv7; go_simp) ?_
      simp only [List.setIfInBounds_toArray, List.set_cons_zero, List.set_cons_succ]
      refine takeVal 11 25 (.int .i64 (k : Int)) rfl (by kernel_rfl) (by kernel_rfl) (by kernel_rfl) rfl (by rfl) (fun _ _ _ h => h) hHeld (fun _ hw' => rfl) ?_
      simp only [List.setIfInBounds_toArray, List.set_cons_zero, List.set_cons_succ]
      refine takeVal 12 26 (.pointer (some ⟨g7, k, none⟩)) rfl (by kernel_rfl) (by kernel_rfl) (by kernel_rfl) rfl (by rfl) (fun _ _ _ h => h) hHeld (fun _ hw' => by go_simp) ?_
      simp only [List.setIfInBounds_toArray, List.set_cons_zero, List.set_cons_succ]
      refine takeVal 13 27 (e.vb) rfl (by kernel_rfl) (by kernel_rfl) (by kernel_rfl) rfl (by rfl) (fun _ _ _ h => h) hHeld (fun _ hw' => by obtain ⟨m, rfl⟩ := hw'; have hc : (w.drewN m).cell? ⟨g7, k, none⟩ = some e.vb := HC7.out; go_simp) ?_
      simp only [List.setIfInBounds_toArray, List.set_cons_zero, List.set_cons_succ]
      refine step1 14 (by kernel_rfl) ?_
      refine stCall 14 28 13 #[e.va, e.vb] _ rfl rfl (by rfl) (by go_simp) (same_any e.L e.m _ _ _ _ _ HI.out.len (by omega) (row_bytes HI.out.ha) (rowX_bytes HI.out.hb)) ?_
      rintro e' wF ⟨rfl, nF, rfl⟩
      have hHeld1 : ∃ m, ((w.drewN n).drew).drewN nF = w.drewN m := ⟨n + 1 + nF, World.drewN_drewN w (n + 1) nF⟩
      refine ⟨_, rfl, hHeld1, ?_⟩
      clear hHeld
      have hHeld := hHeld1
      clear hHeld1
      simp only [List.setIfInBounds_toArray, List.set_cons_zero, List.set_cons_succ]
      refine takeVal 15 4 (.bool true) rfl (by kernel_rfl) (by kernel_rfl) (by kernel_rfl) rfl (by rfl) (fun _ _ _ h => h) hHeld (fun _ hw' => rfl) ?_
      simp only [List.setIfInBounds_toArray, List.set_cons_zero, List.set_cons_succ]
      refine wpAnyH_done (by kernel_rfl) ?_ _
      refine NoPanic.normal ?_
      go_wp2_with fail
      go_roundw
      case rel => exact ⟨k + 1, n + 1 + nF, by omega, by go_num, by first | rfl | exact (World.drewN_drewN _ _ _).symm | exact World.drewN_drewN _ _ _⟩
      case measure => simp [intOf]; omega
    · have e : k = nn := by omega
      subst e
      go_wp2_with fail
      go_ret
      exact ⟨rfl, n, rfl⟩


theorem zero_desk (w : World) : (Instr.build 50 #[]).run Try.prog w = .ok (.agg (deskB 0 (fun _ => 0) (fun _ => 0))) w := by kernel_rfl

set_option maxRecDepth 100000 in
set_option maxHeartbeats 4000000 in
theorem plays_walk (z0 : Int) (l : List OpV) (ad : Option Addr) (cap : Nat) (w : World) (h64 : I64 z0) (hl : l.length ≤ 140737488355328) (hz : OpsAt w ad l) (hok : ∀ o, o ∈ l → OpOK o) :
    Calls Try.prog 5 #[.int .i64 z0, .slice ad l.length cap] w fun e w' => e = .returned (.bool true) ∧ Below w.heap.size w w' := by
  have hbd := pickN_bd z0 (show (1 : Int) ≤ 40 by decide)
  obtain ⟨n, hn⟩ := Int.eq_ofNat_of_zero_le hbd.1
  have HN := hid hn
  have hn40 : n < 40 := by omega
  have hn41 : (n : Int) < 40 := by omega
  clear hn hbd
  have HOA := hid hz
  have HOK := hid hok
  have HZD := hid zero_desk
  clear hz hok
  generalize hL : l.length = L at *
  have HL := hid hL
  clear hL
  go_enter Try.func5, Try.ntmps5
  go_wp2_with (first | (go_at_call 9; refine (awake_any _).mono ?_; rintro e wA ⟨rfl, hbA⟩; have HA := hid hbA; have hzd := zero_desk wA; clear hbA) | (go_at_call 24; refine (pick_any _ _ _ h64 (by decide) (by decide)).mono ?_; rintro e w5 ⟨rfl, rfl⟩; rw [HN.out]) | (go_at_call 23; refine (begins_any (w0 := w) (x := wA.heap.size) (n := 1 + n) _ (heap_alloc_new wA (.cells (deskB 0 (fun _ => 0) (fun _ => 0)) 50)) (HA.out.trans ((Below.refl_call wA (.cells (deskB 0 (fun _ => 0) (fun _ => 0)) 50)).mono HA.out.size)) HA.out.size (by omega) (by omega)).mono ?_; rintro e wB ⟨rfl, s0, hD0⟩; have HD0 := hid hD0; clear hD0))
  generalize wA.heap.size = x at *
  go_loopw [8] (fun i wr => ∃ (j : Nat) (s : DS), j ≤ L ∧ i = .int .i64 j ∧ Hid (DInv w wr x s j)) (fun i _ => L - (intOf i).toNat)
  case atStart => exact ⟨0, s0, by omega, rfl, HD0⟩
  case round =>
    clear HD0
    obtain ⟨j, s, hj, rfl, HD⟩ := hrel
    by_cases hlt : j < L
    · have hjl : (j : Int) < (L : Int) := by omega
      rcases HOA.out with h0 | ⟨b, o, rfl, hb, hc⟩
      · have := HL.out; rw [h0] at this; simp at this; omega
      obtain ⟨ad1, cap1, hr, hby⟩ := hc j (by rw [HL.out]; exact hlt)
      have ho : OpOK (l.getD j OpV.z) := by
        have hjl : j < l.length := by rw [HL.out]; exact hlt
        rw [List.getD_eq_getElem?_getD, List.getElem?_eq_getElem hjl]
        exact HOK.out _ (List.getElem_mem hjl)
      have HR : Hid (wr.rangeAt b (o + j * 5) ((l.getD j OpV.z).cells ad1 cap1)) := by
        intro i v hi
        rw [HD.out.old.cell (p := ⟨b, o + j * 5 + i, none⟩) hb]
        exact hr i v hi
      have HBY := hid hby
      generalize l.getD j OpV.z = ov at *
      clear hr hby hc
      go_wp2_with (first | (refine wpList_load_mid rfl 54 _ rfl b (o + j * 5) rfl _ _ HR.out Try.underlying54 rfl (by kernel_rfl) ?_) | (go_at_call 25; refine (step_any ov ad1 cap1 _ HD.out ho HBY (by omega)).mono ?_; rintro e wS ⟨rfl, s1, hD1⟩; have HD1 := hid hD1; clear hD1) | (go_at_call 26; refine (tells_any _ HD1.out).mono ?_; rintro e wT ⟨rfl, rfl⟩))
      go_roundw
      case rel => exact ⟨j + 1, s1, by omega, by go_num, HD1⟩
      case measure => simp [intOf]; omega
    · have e : j = L := by omega
      subst e
      clear hlt
      go_wp2_with fail
      go_loopw [11] (fun i wq => ∃ (k : Nat), k ≤ 3 ∧ i = .int .i64 k ∧ Hid (DInv w wq x s j)) (fun i _ => 3 - (intOf i).toNat)
      case atStart => exact ⟨0, by omega, rfl, HD⟩
      case round =>
        clear HD
        obtain ⟨k, hk, rfl, HD⟩ := hrel
        by_cases hlt : k < 3
        · have hkl : (k : Int) < 3 := by omega
          have hn1 := (HD.out.isd k hlt).top
          have hln := hid (HD.out.isd k hlt).len
          go_wp2_with fail
          refine wp_region_noPanic ?_
          refine wp_region_held_drew (S := fun w' => DInv w w' x s j) (by kernel_rfl) HD.out.drew (fun hHeld => ?_)
          refine takeVal 0 51 (.pointer (some ⟨x, 0, none⟩)) rfl (by kernel_rfl) (by kernel_rfl) (by kernel_rfl) rfl (by rfl) (fun _ _ _ h => h) hHeld (fun _ hw' => rfl) ?_
          simp only [List.setIfInBounds_toArray, List.set_cons_zero, List.set_cons_succ]
          refine takeVal 1 52 (.int .i64 (k : Int)) rfl (by kernel_rfl) (by kernel_rfl) (by kernel_rfl) rfl (by rfl) (fun _ _ _ h => h) hHeld (fun _ hw' => rfl) ?_
          simp only [List.setIfInBounds_toArray, List.set_cons_zero, List.set_cons_succ]
          refine takeVal 2 53 (.pointer (some ⟨x, 0, none⟩)) rfl (by kernel_rfl) (by kernel_rfl) (by kernel_rfl) rfl (by rfl) (fun _ _ _ h => h) hHeld (fun _ hw' => by go_simp) ?_
          simp only [List.setIfInBounds_toArray, List.set_cons_zero, List.set_cons_succ]
          refine takeVal 3 54 (.pointer (some ⟨x, 0, none⟩)) rfl (by kernel_rfl) (by kernel_rfl) (by kernel_rfl) rfl (by rfl) (fun _ _ _ h => h) hHeld (fun _ hw' => by go_simp) ?_
          simp only [List.setIfInBounds_toArray, List.set_cons_zero, List.set_cons_succ]
          refine takeVal 4 55 (.pointer (some ⟨x, k, none⟩)) rfl (by kernel_rfl) (by kernel_rfl) (by kernel_rfl) rfl (by rfl) (fun _ _ _ h => h) hHeld (fun _ hw' => by go_simp) ?_
          simp only [List.setIfInBounds_toArray, List.set_cons_zero, List.set_cons_succ]
          refine takeVal 5 56 (.pointer (some ⟨s.P k, 0, none⟩)) rfl (by kernel_rfl) (by kernel_rfl) (by kernel_rfl) rfl (by rfl) (fun _ _ _ h => h) hHeld (fun _ hw' => by have hc := hw'.cP k hlt; go_simp) ?_
          simp only [List.setIfInBounds_toArray, List.set_cons_zero, List.set_cons_succ]
          refine takeVal 7 58 (.pointer (some ⟨x, 0, none⟩)) rfl (by kernel_rfl) (by kernel_rfl) (by kernel_rfl) rfl (by rfl) (fun _ _ _ h => h) hHeld (fun _ hw' => rfl) ?_
          simp only [List.setIfInBounds_toArray, List.set_cons_zero, List.set_cons_succ]
          refine takeVal 8 59 (.int .i64 (k : Int)) rfl (by kernel_rfl) (by kernel_rfl) (by kernel_rfl) rfl (by rfl) (fun _ _ _ h => h) hHeld (fun _ hw' => rfl) ?_
          simp only [List.setIfInBounds_toArray, List.set_cons_zero, List.set_cons_succ]
          refine takeVal 9 60 (.pointer (some ⟨x, 0, none⟩)) rfl (by kernel_rfl) (by kernel_rfl) (by kernel_rfl) rfl (by rfl) (fun _ _ _ h => h) hHeld (fun _ hw' => by go_simp) ?_
          simp only [List.setIfInBounds_toArray, List.set_cons_zero, List.set_cons_succ]
          refine takeVal 10 61 (.pointer (some ⟨x, 3, none⟩)) rfl (by kernel_rfl) (by kernel_rfl) (by kernel_rfl) rfl (by rfl) (fun _ _ _ h => h) hHeld (fun _ hw' => by go_simp) ?_
          simp only [List.setIfInBounds_toArray, List.set_cons_zero, List.set_cons_succ]
          refine takeVal 11 62 (.pointer (some ⟨x, 3 + k, none⟩)) rfl (by kernel_rfl) (by kernel_rfl) (by kernel_rfl) rfl (by rfl) (fun _ _ _ h => h) hHeld (fun _ hw' => by go_simp) ?_
          simp only [List.setIfInBounds_toArray, List.set_cons_zero, List.set_cons_succ]
          refine takeVal 12 63 (.pointer (some ⟨s.R k, 0, none⟩)) rfl (by kernel_rfl) (by kernel_rfl) (by kernel_rfl) rfl (by rfl) (fun _ _ _ h => h) hHeld (fun _ hw' => by have hc := hw'.cR k hlt; go_simp) ?_
          simp only [List.setIfInBounds_toArray, List.set_cons_zero, List.set_cons_succ]
          refine takeVal 13 64 (.pointer (some ⟨s.R k, 0, none⟩)) rfl (by kernel_rfl) (by kernel_rfl) (by kernel_rfl) rfl (by rfl) (fun _ _ _ h => h) hHeld (fun _ hw' => by go_simp) ?_
          simp only [List.setIfInBounds_toArray, List.set_cons_zero, List.set_cons_succ]
          refine takeVal 14 65 (.pointer (some ⟨s.R k, 0, none⟩)) rfl (by kernel_rfl) (by kernel_rfl) (by kernel_rfl) rfl (by rfl) (fun _ _ _ h => h) hHeld (fun _ hw' => by go_simp) ?_
          simp only [List.setIfInBounds_toArray, List.set_cons_zero, List.set_cons_succ]
          refine takeVal 15 66 (.slice (some ⟨s.K k, 0, none⟩) (s.N k) (s.C k)) rfl (by kernel_rfl) (by kernel_rfl) (by kernel_rfl) rfl (by rfl) (fun _ _ _ h => h) hHeld (fun _ hw' => by have hc := (hw'.isq k hlt).c0; go_simp) ?_
          simp only [List.setIfInBounds_toArray, List.set_cons_zero, List.set_cons_succ]
          refine step1 6 (by kernel_rfl) ?_
          refine stCall 6 57 12 #[.pointer (some ⟨s.P k, 0, none⟩)] _ rfl rfl (by rfl) (by go_simp) (image_any _ (hHeld.isd k hlt)) ?_
          rintro e wI ⟨qi, rfl, hqi, hri, hbI⟩
          have hHeld1 := hHeld.call hbI
          refine ⟨_, rfl, hHeld1, ?_⟩
          clear hHeld
          have hHeld := hHeld1
          clear hHeld1
          simp only [List.setIfInBounds_toArray, List.set_cons_zero, List.set_cons_succ]
          refine step1 16 (by kernel_rfl) ?_
          refine stCall 16 67 13 #[.slice (some ⟨qi, 0, none⟩) (s.N k) (s.N k), .slice (some ⟨s.K k, 0, none⟩) (s.N k) (s.C k)] _ rfl rfl (by rfl) (by go_simp) (same_any (s.D k).S (s.N k) _ _ _ _ _ hln.out (by omega) (row_bytes hri) (rowX_bytes (hHeld.isq k hlt).row)) ?_
          rintro e wF ⟨rfl, nF, rfl⟩
          have hHeld1 := hHeld.drewN nF
          refine ⟨_, rfl, hHeld1, ?_⟩
          clear hHeld
          have hHeld := hHeld1
          clear hHeld1
          simp only [List.setIfInBounds_toArray, List.set_cons_zero, List.set_cons_succ]
          refine takeVal 17 12 (.bool true) rfl (by kernel_rfl) (by kernel_rfl) (by kernel_rfl) rfl (by rfl) (fun _ _ _ h => h) hHeld (fun _ hw' => rfl) ?_
          simp only [List.setIfInBounds_toArray, List.set_cons_zero, List.set_cons_succ]
          refine wpAnyH_done (by kernel_rfl) ?_ _
          refine NoPanic.normal ?_
          have HD2 := hid hHeld
          clear hHeld
          go_wp2_with fail
          go_roundw
          case rel => exact ⟨k + 1, by omega, by go_num, HD2⟩
          case measure => simp [intOf]; omega
        · go_wp2_with (go_at_call 27; refine (still_any _ HD.out).mono ?_; rintro e wS ⟨rfl, nS, rfl⟩)
          go_ret
          exact ⟨rfl, (HD.out.drewN nS).old⟩

end Go.Proofs.Ytcgchdcbbiahnaa
