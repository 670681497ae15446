/-
 ReadPointers, the program's and the document's.
-/
import Derived.Test.YtpmignilhoihnaaGreatLF1
import Derived.Test.YtpmignilhoihnaaGreatLN2
namespace Go.Proofs.YtpmignilhoihnaaGreat
open Go.RowKit

def numP (x : List Int) (i : Nat) : Num := (4 * (i : Int), 4, x.getD i 0)
def numsPtr (x : List Int) (n : Nat) : List Num := (List.range n).map (numP x)
theorem numsPtr_len (x : List Int) (n : Nat) : (numsPtr x n).length = n := by simp [numsPtr]
theorem numsPtr_succ (x : List Int) (n : Nat) : numsPtr x (n + 1) = numsPtr x n ++ [numP x n] := by simp [numsPtr, List.range_succ]
def okP (x : List Int) (i : Nat) : Prop := 0 ≤ x.getD i 0 ∧ x.getD i 0 ≤ 4294967295
def ptrB (x : List Int) : Bool := (List.range 32).all fun i => decide (0 ≤ x.getD i 0 ∧ x.getD i 0 ≤ 4294967295)
theorem ptrB_true {x : List Int} (h : ∀ i, i < 32 → okP x i) : ptrB x = true := by
 rw [ptrB, List.all_eq_true]
 intro m hm
 exact decide_eq_true (h m (List.mem_range.1 hm))
theorem ptrB_of {x : List Int} (h : ptrB x = true) (i : Nat) (hi : i < 32) : okP x i := by
 have := of_decide_eq_true (List.all_eq_true.1 h i (List.mem_range.2 hi))
 exact this
theorem ptrB_false {x : List Int} {i : Nat} (hi : i < 32) (h : ¬ okP x i) : ptrB x = false := by
 cases e : ptrB x
 ·rfl
 ·exact absurd (ptrB_of e i hi) h
def ptrS (x : List Int) : List Int := if ptrB x = true then layS (numsPtr x 32) else Zs
def ptrE (x : List Int) : Int := if ptrB x = true then 0 else 62
theorem ptrS_sec (x : List Int) : IsSec (ptrS x) := by
 unfold ptrS; split
 ·exact layS_sec _
 ·exact Zs_sec
theorem ptr_ok {x : List Int} (h : ∀ i, i < 32 → okP x i) : ∀ n ∈ numsPtr x 32, okN n := by
 intro n hn
 obtain ⟨i, hi, rfl⟩ := List.mem_map.1 hn;have hi' := List.mem_range.1 hi;have := h i hi';unfold okP at this
 exact okN_of (by decide) (by decide) (by omega) (by omega) this.1 (by rw [top_eq]; omega) (by rw [pw4]; omega)
theorem szP : (Tryz.prog.info? 103).map (·.size) = some 32 := by kernel_rfl
def Zp : List Int := List.replicate 32 0
theorem zero_ptr (w : World) : (zeroValue 103).run Tryz.prog w = .ok (.agg (NA Zp)) w := by kernel_rfl

structure PRun (w : World) (x : List Int) (n : Nat) (v : Value) (wr : World) : Prop where
 i : wr.heap[w.heap.size]? = some (.cells (NA x) 103 (0, 0))
 a : wr.heap[w.heap.size + 1]? = some (.cells (SA Zs) 33 (0, 0))
 o : NOwn wr (w.heap.size + 2) v (numsPtr x n)
 b : Below w.heap.size w wr
 k : ∀ i, i < n → okP x i
theorem PRun.call {w wr w' : World} {x : List Int} {n : Nat} {v : Value} (h : PRun w x n v wr) (hb : Below wr.heap.size wr w') : PRun w x n v w' :=
 ⟨by rw [hb.block _ (slt h.i)]; exact h.i, by rw [hb.block _ (slt h.a)]; exact h.a, h.o.keep fun g hg => hb.block _ (h.o.lt hg).2, btr h.b hb h.b.size, h.k⟩
theorem PRun.app {w wr w' : World} {x : List Int} {n : Nat} {v v' : Value} {y : Num} (h : PRun w x n v wr) (hg : wr.grownBy w' v.ownBlock) (ho : NOwn w' (w.heap.size + 2) v' (numsPtr x n ++ [y])) (hy : y = numP x n) (hk : okP x n) : PRun w x (n + 1) v' w' := by
 have s1 := slt h.i;have s2 := slt h.a
 have hne : ∀ k, k < w.heap.size + 2 → some k ≠ v.ownBlock := fun k hk e => by have := (h.o.lt e.symm).1; omega
 refine ⟨by rw [hg.block _ s1 (hne _ (by omega))]; exact h.i, by rw [hg.block _ s2 (hne _ (by omega))]; exact h.a, ?_, ?_, ?_⟩
 ·rw [numsPtr_succ, ← hy]; exact ho
 ·exact h.b.trans ⟨hg.os, hg.tape, hg.output, hg.size, fun k hk => hg.block k (by have := h.b.size; omega) (hne k (by omega))⟩
 ·intro i hi
  by_cases e : i = n
  ·subst e; exact hk
  ·exact h.k i (by omega)
theorem index_ptr (x : List Int) (n : Nat) (hx : x.length = 32) (hn : n < 32) (w : World) : (Instr.index 103 (.agg (NA x)) (.int .i64 (n : Int))).run Tryz.prog w = .ok (.int .i64 (x.getD n 0)) w := by
 have hsz : (sizeOf 3).run Tryz.prog w = .ok 1 w := by kernel_rfl
 have hlt : (0 : Int) ≤ (n : Int) ∧ (n : Int) < ((32 : Nat) : Int) := by omega
 have hu : Tryz.prog.underlying 103 = some (.array 32 3) := by kernel_rfl
 have hp := part_int x n (by omega) w
 simp only [Instr.index, asIntOf, Sem.run_bind, Sem.run_pure, Result.andThen_ok, run_underlying hu, hlt, and_self, if_true, Sem.run_ite, hsz, Int.toNat_natCast, Nat.mul_one, hp]

set_option maxRecDepth 100000 in
set_option maxHeartbeats 2000000 in
theorem pointersSector_any (x : List Int) (hx : x.length = 32) (w : World) :
  Calls Tryz.prog 117 #[.agg (NA x)] w fun e w' => e = .returned (.tuple #[.agg (SA (ptrS x)), .int .i64 (ptrE x)]) ∧ Below w.heap.size w w' := by
 have hz := zero_sec;have hbs := build_sec;have hmk := make_nums;obtain ⟨W, hW⟩ : ∃ y, y = (w.alloc (.cells (NA x) 103)).alloc (.cells (SA Zs) 33) := ⟨_, rfl⟩
 have X0 : Hid (W.heap[w.heap.size]? = some (.cells (NA x) 103 (0, 0))) := by show _ = _; rw [hW]; exact heap_alloc2_old w _ _
 have Y0 : Hid (W.heap[w.heap.size + 1]? = some (.cells (SA Zs) 33 (0, 0))) := by show _ = _; rw [hW]; exact heap_alloc2_new w _ _
 have B0 : Hid (Below w.heap.size w W) := by show Below _ _ _; rw [hW]; exact ((Below.refl _ _).alloc (Nat.le_refl _) _).alloc (by simp) _
 have z0 : W.heap.size = w.heap.size + 2 := by rw [hW]; simp
 go_enter Tryz.func117, Tryz.ntmps117
 go_upto_region 1 with fail
 rw [← hW];clear hW
 have P0 : PRun w x 0 (.slice (some ⟨w.heap.size + 2, 0, none⟩) 0 32) (W.alloc (.cells (NA Z96) 144)) := by
  refine ⟨?_, ?_, ?_, B0.out.alloc (by omega) _, fun i hi => absurd hi (Nat.not_lt_zero _)⟩
  ·rw [Below.heap_alloc _ _ _ (by omega)]; exact X0.out
  ·rw [Below.heap_alloc _ _ _ (by omega)]; exact Y0.out
  ·have k := World.ownsRow_made (base := w.heap.size + 2) (e := 144) (size := 3) W (NA Z96) 32 (by omega) (by decide) (by rw [NA_size]; rfl)
   rw [z0] at k
   exact k
 have HP0 := hid P0;clear P0 X0 Y0 B0
 go_upto_region 3 with (first | refine load_R rfl 103 (.tmp 1) rfl w.heap.size rfl 103 _ _ HP0.out.i Tryz.underlying103 rfl (by rw [szP, NA_size, hx]) ?_)
 clear hmk
 go_loopw [4, 9] (fun y i wr => ∃ (n : Nat) (v : Value), n ≤ 32 ∧ v = y ∧ i = .int .i64 n ∧ Hid (PRun w x n v wr)) (fun _ i _ => 32 - (intOf i).toNat)
 case atStart => exact ⟨0, _, by omega, rfl, rfl, HP0⟩
 case round =>
  obtain ⟨n, v, hn, rfl, rfl, HP⟩ := hrel;clear HP0
  by_cases hlt : n < 32
  ·have hix := index_ptr x n hx hlt
   generalize hX : x.getD n 0 = X at *
   have hlt' : (n : Int) < 32 := by omega
   by_cases h0 : X < 0
   ·have HB : Hid (ptrB x = false) := ptrB_false hlt (by unfold okP; rw [hX]; omega)
    go_wp2_with (first | (refine store_sec rfl (.tmp 2) _ rfl (w.heap.size + 1) rfl Zs rfl Zs_len Zs Zs_len HP.out.a ?_; intro w5 hw5))
    rw [show ptrS x = Zs by unfold ptrS; rw [HB.out]; rfl, show ptrE x = 62 by unfold ptrE; rw [HB.out]; rfl]
    exact bodyPost_ret (v := .tuple #[.agg (SA Zs), .int .i64 62]) (results_sec Tryz.results117 _ _ (w.heap.size + 1) Zs Zs_len _ rfl rfl hw5.here) rfl ⟨rfl, hw5.below HP.out.b (by omega)⟩
   ·by_cases h1 : 4294967295 < X
    ·have HB : Hid (ptrB x = false) := ptrB_false hlt (by unfold okP; rw [hX]; omega)
     go_wp2_with (first | (refine store_sec rfl (.tmp 2) _ rfl (w.heap.size + 1) rfl Zs rfl Zs_len Zs Zs_len HP.out.a ?_; intro w5 hw5))
     rw [show ptrS x = Zs by unfold ptrS; rw [HB.out]; rfl, show ptrE x = 62 by unfold ptrE; rw [HB.out]; rfl]
     exact bodyPost_ret (v := .tuple #[.agg (SA Zs), .int .i64 62]) (results_sec Tryz.results117 _ _ (w.heap.size + 1) Zs Zs_len _ rfl rfl hw5.here) rfl ⟨rfl, hw5.below HP.out.b (by omega)⟩
    ·have hN := HP.out.call (w' := wr.alloc (.cells #[.int .i64 ((n : Int) * 4), .int .i64 4, .int .i64 X] 144)) ((Below.refl _ _).alloc (Nat.le_refl _) _)
     have hr : (wr.alloc (.cells #[.int .i64 ((n : Int) * 4), .int .i64 4, .int .i64 X] 144)).heap[wr.heap.size]? = some (.cells (cellsN [((n : Int) * 4, 4, X)]).toArray 144 (0, 0)) := heap_alloc_new _ _;have HN := hid hN;have HR := hid hr
     have hy : (((n : Int) * 4, (4 : Int), X) : Num) = numP x n := by unfold numP; rw [hX, Int.mul_comm]
     have hk : okP x n := by unfold okP; rw [hX]; omega
     have hz2 : w.heap.size + 2 ≤ wr.heap.size := by have := slt HP.out.a; omega
     have hl : (numsPtr x n).length ≤ 1000 := by rw [numsPtr_len]; omega
     have HY := hid hy;have HX := hid hX;clear hN hr hy hX
     go_wp2_with (first | (refine wp_appN rfl (.tmp 20) (.tmp 25) rfl (w.heap.size + 2) wr.heap.size 1 v (numsPtr x n) _ rfl rfl HN.out.o HR.out hl (by simp; omega) ?_; intro v' w' g1 g2 g3))
     exact ⟨⟨n + 1, v', by omega, rfl, by go_num, hid (HN.out.app g2 g1 HY.out hk)⟩, by simp [intOf]; omega⟩
  ·have e : n = 32 := by omega
   subst e;have HB : Hid (ptrB x = true) := ptrB_true HP.out.k;obtain ⟨g, cap, hv, hN⟩ := HP.out.o.at (by rw [numsPtr_len]; decide);rw [numsPtr_len] at hv;subst hv;have hlay := lay_any (numsPtr x 32) g cap wr hN (ptr_ok HP.out.k) (by rw [numsPtr_len]; decide);rw [numsPtr_len] at hlay;have HL := hid hlay;have hlen := (layS_sec (numsPtr x 32)).1;have HSX : Hid (ptrS x = layS (numsPtr x 32) ∧ ptrE x = 0) := ⟨by unfold ptrS; rw [HB.out]; rfl, by unfold ptrE; rw [HB.out]; rfl⟩;clear hlay hN
   go_wp2_with (first | (go_at_call 88; refine HL.out.mono ?_; rintro e w4 ⟨rfl, hb4⟩; have HA := hid (HP.out.call hb4)) | (refine store_sec rfl (.tmp 2) _ rfl (w.heap.size + 1) rfl (layS (numsPtr x 32)) rfl hlen Zs Zs_len HA.out.a ?_; intro w5 hw5))
   rw [HSX.out.1, HSX.out.2]
   exact bodyPost_ret (v := .tuple #[.agg (SA (layS (numsPtr x 32))), .int .i64 0]) (results_sec Tryz.results117 _ _ (w.heap.size + 1) _ hlen _ rfl rfl hw5.here) rfl ⟨rfl, hw5.below HA.out.b (by omega)⟩

end Go.Proofs.YtpmignilhoihnaaGreat

namespace Go.Proofs.YtpmignilhoihnaaGreat
open Go.RowKit
-- may lack

def ptrsTo (s : List Int) (n : Nat) : List Int := (List.range 32).map fun i => if i < n then numAt s (4 * i) 4 else 0
theorem ptrsTo_len (s : List Int) (n : Nat) : (ptrsTo s n).length = 32 := by simp [ptrsTo]
theorem ptrsTo_zero (s : List Int) : ptrsTo s 0 = Zp := by
 unfold ptrsTo Zp
 simp
 decide
theorem ptrsTo_step (s : List Int) (n : Nat) (_h : n < 32) : (ptrsTo s n).set n (numAt s (4 * n) 4) = ptrsTo s (n + 1) := by
 apply List.ext_getElem (by simp [ptrsTo])
 intro i h1 h2
 simp [ptrsTo, List.getElem_set]
 by_cases e : n = i
 ·subst e; simp
 ·rw [if_neg e]
  by_cases k : i < n
  ·rw [if_pos k, if_pos (by omega)]
  ·rw [if_neg k, if_neg (by omega)]
theorem sayV_small {s : List Int} {P L : Nat} (h7 : L ≤ 7) : sayV s P L = numAt s P L := by
 unfold sayV;rw [if_neg (fun k => by have := k.1; omega)]
 simp

set_option maxRecDepth 100000 in
set_option maxHeartbeats 2000000 in
theorem readPointers_any (s : List Int) (hs : IsSec s) (w : World) :
  Calls Tryz.prog 116 #[.agg (SA s)] w fun e w' => e = .returned (.agg (NA (ptrsTo s 32))) ∧ Below w.heap.size w w' := by
 have hzp := zero_ptr;have hl := hs.1;obtain ⟨W, hW⟩ : ∃ y, y = ((w.alloc (.cells (SA s) 33)).alloc (.cells (NA Zp) 103)).alloc (.cells (NA Zp) 103) := ⟨_, rfl⟩;have hb2 : Below w.heap.size w ((w.alloc (.cells (SA s) 33)).alloc (.cells (NA Zp) 103)) := ((Below.refl _ _).alloc (Nat.le_refl _) _).alloc (by simp) _
 have hz2 : ((w.alloc (.cells (SA s) 33)).alloc (.cells (NA Zp) 103)).heap.size = w.heap.size + 2 := by simp
 have X0 : W.heap[w.heap.size]? = some (.cells (SA s) 33 (0, 0)) := by rw [hW, Below.heap_alloc _ _ _ (by omega)]; exact heap_alloc2_old w _ _
 have Y0 : W.heap[w.heap.size + 1]? = some (.cells (NA Zp) 103 (0, 0)) := by rw [hW, Below.heap_alloc _ _ _ (by omega)]; exact heap_alloc2_new w _ _
 have Z0 : W.heap[w.heap.size + 2]? = some (.cells (NA (ptrsTo s 0)) 103 (0, 0)) := by rw [hW, ← hz2, ptrsTo_zero]; exact heap_alloc_new _ _
 have B0 : Below w.heap.size w W := by rw [hW]; exact hb2.alloc (by omega) _
 go_enter Tryz.func116, Tryz.ntmps116
 go_upto_region 2 with fail
 rw [← hW];clear hW hb2 hz2
 go_upto_region 3 with fail
 go_loopw [5] (fun i wr => ∃ n : Nat, n ≤ 32 ∧ i = .int .i64 n ∧ wr.heap[w.heap.size]? = some (.cells (SA s) 33 (0, 0)) ∧ wr.heap[w.heap.size + 1]? = some (.cells (NA Zp) 103 (0, 0)) ∧ wr.heap[w.heap.size + 2]? = some (.cells (NA (ptrsTo s n)) 103 (0, 0)) ∧ Below w.heap.size w wr) (fun i _ => 32 - (intOf i).toNat)
 case atStart => exact ⟨0, by omega, rfl, X0, Y0, Z0, B0⟩
 case round =>
  obtain ⟨n, hn, rfl, h1, h2, h3, h4⟩ := hrel;clear X0 Y0 Z0 B0;have H1 := hid h1;have H2 := hid h2;have H3 := hid h3
  by_cases hlt : n < 32
  ·have hlt' : (n : Int) < 32 := by omega
   have hg := fun w' => get1_any s ((n : Int) * 4) 4 w' hs
   rw [show getV s ((n : Int) * 4) 4 = numAt s (4 * n) 4 from by have := getV_small (s := s) (P := 4 * n) (L := 4) hs (by omega) (by decide) (by decide); rw [show ((n : Int) * 4) = ((4 * n : Nat) : Int) by omega]; exact this] at hg;have hst := ptrsTo_step s n hlt
   generalize numAt s (4 * n) 4 = X at *
   have hln : (ptrsTo s n).length = 32 := ptrsTo_len s n;clear h1 h2 h3
   go_wp2_with (first | refine load_sec rfl (.tmp 1) rfl w.heap.size rfl s hl H1.out ?_ | (go_at_call 71; refine (hg _).mono ?_; rintro e w2 ⟨rfl, hb2⟩; have k3 : w2.heap[w.heap.size + 2]? = some (.cells (NA (ptrsTo s n)) 103 (0, 0)) := by { rw [hb2.block _ (slt H3.out)]; exact H3.out }; have hc := row_cell k3 n (by omega); have hf := row_free k3 n; have K3 := hid k3; clear k3))
   have hp := row_setCell K3.out n X;rw [hst] at hp
   exact ⟨⟨n + 1, by omega, by go_num, by rw [hp.other _ (by omega), hb2.block _ (slt H1.out)]; exact H1.out, by rw [hp.other _ (by omega), hb2.block _ (slt H2.out)]; exact H2.out, hp.here, hp.below (btr h4 hb2 h4.size) (by omega)⟩, by simp [intOf]; omega⟩
  ·have e : n = 32 := by omega
   subst e;have hln : (ptrsTo s 32).length = 32 := ptrsTo_len s 32;clear h1 h2 h3
   generalize hPP : ptrsTo s 32 = PP at *
   go_wp2_with (first | refine load_R rfl 103 (.tmp 3) rfl (w.heap.size + 2) rfl 103 _ _ H3.out Tryz.underlying103 rfl (by rw [szP, NA_size, hln]) ?_ | (refine store_R rfl 103 (.tmp 2) _ rfl (w.heap.size + 1) _ rfl rfl 103 _ H2.out (by rw [szP, NA_size, hln]) (by rw [NA_size, NA_size, hln]; rfl) (NA_one _) ?_; intro w4 hw4))
   exact bodyPost_ret (v := .agg (NA PP)) (results_R1 Tryz.results116 _ _ (w.heap.size + 1) _ 103 _ Tryz.underlying103 rfl (by rw [szP, NA_size, hln]) rfl hw4.here) rfl ⟨by rw [hPP], hw4.below h4 (by omega)⟩

set_option maxRecDepth 100000 in
set_option maxHeartbeats 2000000 in
theorem rreadPointers_any (s : List Int) (hs : IsSec s) (w : World) :
  Calls Tryz.prog 55 #[.agg (SA s)] w fun e w' => e = .returned (.agg (NA (ptrsTo s 32))) ∧ Below w.heap.size w w' := by
 have hzp := zero_ptr;have hl := hs.1;obtain ⟨W, hW⟩ : ∃ y, y = ((w.alloc (.cells (SA s) 33)).alloc (.cells (NA Zp) 103)).alloc (.cells (NA Zp) 103) := ⟨_, rfl⟩;have hb2 : Below w.heap.size w ((w.alloc (.cells (SA s) 33)).alloc (.cells (NA Zp) 103)) := ((Below.refl _ _).alloc (Nat.le_refl _) _).alloc (by simp) _
 have hz2 : ((w.alloc (.cells (SA s) 33)).alloc (.cells (NA Zp) 103)).heap.size = w.heap.size + 2 := by simp
 have X0 : W.heap[w.heap.size]? = some (.cells (SA s) 33 (0, 0)) := by rw [hW, Below.heap_alloc _ _ _ (by omega)]; exact heap_alloc2_old w _ _
 have Y0 : W.heap[w.heap.size + 1]? = some (.cells (NA Zp) 103 (0, 0)) := by rw [hW, Below.heap_alloc _ _ _ (by omega)]; exact heap_alloc2_new w _ _
 have Z0 : W.heap[w.heap.size + 2]? = some (.cells (NA (ptrsTo s 0)) 103 (0, 0)) := by rw [hW, ← hz2, ptrsTo_zero]; exact heap_alloc_new _ _
 have B0 : Below w.heap.size w W := by rw [hW]; exact hb2.alloc (by omega) _
 go_enter Tryz.func55, Tryz.ntmps55
 go_upto_region 2 with fail
 rw [← hW];clear hW hb2 hz2
 go_upto_region 3 with fail
 go_loopw [4] (fun i wr => ∃ n : Nat, n ≤ 32 ∧ i = .int .i64 n ∧ wr.heap[w.heap.size]? = some (.cells (SA s) 33 (0, 0)) ∧ wr.heap[w.heap.size + 1]? = some (.cells (NA Zp) 103 (0, 0)) ∧ wr.heap[w.heap.size + 2]? = some (.cells (NA (ptrsTo s n)) 103 (0, 0)) ∧ Below w.heap.size w wr) (fun i _ => 32 - (intOf i).toNat)
 case atStart => exact ⟨0, by omega, rfl, X0, Y0, Z0, B0⟩
 case round =>
  obtain ⟨n, hn, rfl, h1, h2, h3, h4⟩ := hrel;clear X0 Y0 Z0 B0;have H1 := hid h1;have H2 := hid h2;have H3 := hid h3
  by_cases hlt : n < 32
  ·have hlt' : (n : Int) < 32 := by omega
   have hg := fun w' => says_any s (4 * (n : Int)) 4 w' hs (by decide) (by decide) (by omega) (by omega)
   rw [show sayV s (4 * (n : Int)) 4 = numAt s (4 * n) 4 from by have := sayV_small (s := s) (P := 4 * n) (L := 4) (by decide); simpa using this] at hg;have hst := ptrsTo_step s n hlt
   generalize numAt s (4 * n) 4 = X at *
   have hln : (ptrsTo s n).length = 32 := ptrsTo_len s n;clear h1 h2 h3
   go_wp2_with (first | refine load_sec rfl (.tmp 1) rfl w.heap.size rfl s hl H1.out ?_ | (go_at_call 37; refine (hg _).mono ?_; rintro e w2 ⟨rfl, hb2⟩; have k3 : w2.heap[w.heap.size + 2]? = some (.cells (NA (ptrsTo s n)) 103 (0, 0)) := by { rw [hb2.block _ (slt H3.out)]; exact H3.out }; have hc := row_cell k3 n (by omega); have hf := row_free k3 n; have K3 := hid k3; clear k3))
   have hp := row_setCell K3.out n X;rw [hst] at hp
   exact ⟨⟨n + 1, by omega, by go_num, by rw [hp.other _ (by omega), hb2.block _ (slt H1.out)]; exact H1.out, by rw [hp.other _ (by omega), hb2.block _ (slt H2.out)]; exact H2.out, hp.here, hp.below (btr h4 hb2 h4.size) (by omega)⟩, by simp [intOf]; omega⟩
  ·have e : n = 32 := by omega
   subst e;have hln : (ptrsTo s 32).length = 32 := ptrsTo_len s 32;clear h1 h2 h3
   generalize hPP : ptrsTo s 32 = PP at *
   go_wp2_with (first | refine load_R rfl 103 (.tmp 3) rfl (w.heap.size + 2) rfl 103 _ _ H3.out Tryz.underlying103 rfl (by rw [szP, NA_size, hln]) ?_ | (refine store_R rfl 103 (.tmp 2) _ rfl (w.heap.size + 1) _ rfl rfl 103 _ H2.out (by rw [szP, NA_size, hln]) (by rw [NA_size, NA_size, hln]; rfl) (NA_one _) ?_; intro w4 hw4))
   exact bodyPost_ret (v := .agg (NA PP)) (results_R1 Tryz.results55 _ _ (w.heap.size + 1) _ 103 _ Tryz.underlying103 rfl (by rw [szP, NA_size, hln]) rfl hw4.here) rfl ⟨by rw [hPP], hw4.below h4 (by omega)⟩

end Go.Proofs.YtpmignilhoihnaaGreat
