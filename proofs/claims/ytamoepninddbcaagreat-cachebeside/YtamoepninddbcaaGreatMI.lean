/-
  A step, done with both caches: the other kinds.
-/
import Derived.Test.YtamoepninddbcaaGreatMH
namespace Go.Proofs.YtamoepninddbcaaGreat
open Go.RowKit

section
variable {w w0 : World} {A : PA} {σ0 : Nat → Option PRole} {z : CSt} {V M E : List Lst}
/-- What the document's Put is known by. -/
def RPutOK (A : PA) (z : CSt) : Prop := ∀ (W : World) (ρ : Nat → Option RRole) (y : Int) (s l : List Int) (a : Option Addr) (ca : Nat), IsRC W A.r A.rd A.n ρ z → s.length = 128 → LAt W a l → l.length ≤ 17592186044000 → (∀ g, a = some ⟨g, 0, none⟩ → ¬ OwnR ρ g) → Calls Tryz.prog 69 #[.pointer (some ⟨A.r, 0, none⟩), .int .i64 y, .agg (D.SA s), .slice a l.length ca] W fun e w' => e = .returned (.int .i64 (putC A.n z y s l).2) ∧ RPost W w' A.r A.rd A.n ρ (putC A.n z y s l).1
set_option maxRecDepth 100000 in
set_option maxHeartbeats 8000000 in
theorem does_0 (x : SV) (a : Option Addr) (ca : Nat) (h : DPre w0 w A σ0 z V M E x a) (hk : D.pickN x.kind 20 = 0) (hrp : RPutOK A z) :
    Calls Tryz.prog 7 #[.pointer (some ⟨A.pp, 0, none⟩), .agg (x.cells a ca).toArray] w fun e w' => e = .returned (.bool true) ∧ DPost w0 w' A σ0 z := by
  obtain ⟨w1, hw1⟩ : ∃ q, q = w.alloc (.cells (x.cells a ca).toArray 29) := ⟨_, rfl⟩
  obtain ⟨bx, hbx⟩ : ∃ q, q = w.heap.size := ⟨_, rfl⟩
  have hB := h.box (ca := ca)
  rw [← hw1, ← hbx] at hB
  clear h
  have q0 := hB.bo.c0
  have q1 := hB.bo.c1
  have HS := hB.pre.sec
  have HPK := hB.pre.pick w1
  rw [hk] at HPK
  have HNS := hid hB.pre.ns
  have HB := hid hB
  have HK := hid hk
  clear hk
  generalize secP A.n x.N = sn at *
  have HP := puts_any x a ca hB.pre.pf hB.pre.ok hB.pre.at_ hB.pre.tb hB.pre.wr hrp
  have HNX : Hid (NX z 0 5000 (putP A.n z x)) := hid (put_nx hB.pre.pf.inv.1 hB.pre.al _ _ _)
  generalize putP A.n z x = PP at *
  clear hrp
  clear hB
  go_enter Tryz.func7, Tryz.ntmps7
  go_upto_region 1 with fail
  rw [← hw1, ← hbx]
  clear hw1 hbx
  go_wp2_with (first
    | (go_at_call 25; go_must (refine HS.mono ?_; rintro e w' ⟨rfl, hw⟩; have hw := hw.symm; subst hw; clear HS))
    | (go_at_call 26; go_must (refine HPK.mono ?_; rintro e w' ⟨rfl, hw⟩; have hw := hw.symm; subst hw; clear HPK))
    | (refine wpList_load_row rfl 29 _ rfl bx rfl 29 (x.cells a ca).toArray (0, 0) _ HB.out.bo Tryz.underlying29 rfl (by rw [szStep]; rfl) ?_)
    | (go_at_call 27; go_must (refine HP.mono ?_; rintro e w2 ⟨rfl, hP2⟩; have HP2 := hid hP2; clear HP hP2))
    | fail)
  go_ret
  exact ⟨rfl, PF.dpost HNX.out (by decide) HB.out.pre.bq HP2.out⟩
set_option maxRecDepth 100000 in
set_option maxHeartbeats 8000000 in
theorem does_1 (x : SV) (a : Option Addr) (ca : Nat) (h : DPre w0 w A σ0 z V M E x a) (hk : D.pickN x.kind 20 = 1) (hrp : RPutOK A z) :
    Calls Tryz.prog 7 #[.pointer (some ⟨A.pp, 0, none⟩), .agg (x.cells a ca).toArray] w fun e w' => e = .returned (.bool true) ∧ DPost w0 w' A σ0 z := by
  obtain ⟨w1, hw1⟩ : ∃ q, q = w.alloc (.cells (x.cells a ca).toArray 29) := ⟨_, rfl⟩
  obtain ⟨bx, hbx⟩ : ∃ q, q = w.heap.size := ⟨_, rfl⟩
  have hB := h.box (ca := ca)
  rw [← hw1, ← hbx] at hB
  clear h
  have q0 := hB.bo.c0
  have q1 := hB.bo.c1
  have HS := hB.pre.sec
  have HPK := hB.pre.pick w1
  rw [hk] at HPK
  have HNS := hid hB.pre.ns
  have HB := hid hB
  have HK := hid hk
  clear hk
  generalize secP A.n x.N = sn at *
  have HP := puts_any x a ca hB.pre.pf hB.pre.ok hB.pre.at_ hB.pre.tb hB.pre.wr hrp
  have HNX : Hid (NX z 0 5000 (putP A.n z x)) := hid (put_nx hB.pre.pf.inv.1 hB.pre.al _ _ _)
  generalize putP A.n z x = PP at *
  clear hrp
  clear hB
  go_enter Tryz.func7, Tryz.ntmps7
  go_upto_region 1 with fail
  rw [← hw1, ← hbx]
  clear hw1 hbx
  go_wp2_with (first
    | (go_at_call 25; go_must (refine HS.mono ?_; rintro e w' ⟨rfl, hw⟩; have hw := hw.symm; subst hw; clear HS))
    | (go_at_call 26; go_must (refine HPK.mono ?_; rintro e w' ⟨rfl, hw⟩; have hw := hw.symm; subst hw; clear HPK))
    | (refine wpList_load_row rfl 29 _ rfl bx rfl 29 (x.cells a ca).toArray (0, 0) _ HB.out.bo Tryz.underlying29 rfl (by rw [szStep]; rfl) ?_)
    | (go_at_call 27; go_must (refine HP.mono ?_; rintro e w2 ⟨rfl, hP2⟩; have HP2 := hid hP2; clear HP hP2))
    | fail)
  go_ret
  exact ⟨rfl, PF.dpost HNX.out (by decide) HB.out.pre.bq HP2.out⟩
set_option maxRecDepth 100000 in
set_option maxHeartbeats 8000000 in
theorem does_2 (x : SV) (a : Option Addr) (ca : Nat) (h : DPre w0 w A σ0 z V M E x a) (hk : D.pickN x.kind 20 = 2) (hrp : RPutOK A z) :
    Calls Tryz.prog 7 #[.pointer (some ⟨A.pp, 0, none⟩), .agg (x.cells a ca).toArray] w fun e w' => e = .returned (.bool true) ∧ DPost w0 w' A σ0 z := by
  obtain ⟨w1, hw1⟩ : ∃ q, q = w.alloc (.cells (x.cells a ca).toArray 29) := ⟨_, rfl⟩
  obtain ⟨bx, hbx⟩ : ∃ q, q = w.heap.size := ⟨_, rfl⟩
  have hB := h.box (ca := ca)
  rw [← hw1, ← hbx] at hB
  clear h
  have q0 := hB.bo.c0
  have q1 := hB.bo.c1
  have HS := hB.pre.sec
  have HPK := hB.pre.pick w1
  rw [hk] at HPK
  have HNS := hid hB.pre.ns
  have HB := hid hB
  have HK := hid hk
  clear hk
  generalize secP A.n x.N = sn at *
  have HP := puts_any x a ca hB.pre.pf hB.pre.ok hB.pre.at_ hB.pre.tb hB.pre.wr hrp
  have HNX : Hid (NX z 0 5000 (putP A.n z x)) := hid (put_nx hB.pre.pf.inv.1 hB.pre.al _ _ _)
  generalize putP A.n z x = PP at *
  clear hrp
  clear hB
  go_enter Tryz.func7, Tryz.ntmps7
  go_upto_region 1 with fail
  rw [← hw1, ← hbx]
  clear hw1 hbx
  go_wp2_with (first
    | (go_at_call 25; go_must (refine HS.mono ?_; rintro e w' ⟨rfl, hw⟩; have hw := hw.symm; subst hw; clear HS))
    | (go_at_call 26; go_must (refine HPK.mono ?_; rintro e w' ⟨rfl, hw⟩; have hw := hw.symm; subst hw; clear HPK))
    | (refine wpList_load_row rfl 29 _ rfl bx rfl 29 (x.cells a ca).toArray (0, 0) _ HB.out.bo Tryz.underlying29 rfl (by rw [szStep]; rfl) ?_)
    | (go_at_call 27; go_must (refine HP.mono ?_; rintro e w2 ⟨rfl, hP2⟩; have HP2 := hid hP2; clear HP hP2))
    | fail)
  go_ret
  exact ⟨rfl, PF.dpost HNX.out (by decide) HB.out.pre.bq HP2.out⟩
set_option maxRecDepth 100000 in
set_option maxHeartbeats 8000000 in
theorem does_3 (x : SV) (a : Option Addr) (ca : Nat) (h : DPre w0 w A σ0 z V M E x a) (hk : D.pickN x.kind 20 = 3) (hrp : RPutOK A z) :
    Calls Tryz.prog 7 #[.pointer (some ⟨A.pp, 0, none⟩), .agg (x.cells a ca).toArray] w fun e w' => e = .returned (.bool true) ∧ DPost w0 w' A σ0 z := by
  obtain ⟨w1, hw1⟩ : ∃ q, q = w.alloc (.cells (x.cells a ca).toArray 29) := ⟨_, rfl⟩
  obtain ⟨bx, hbx⟩ : ∃ q, q = w.heap.size := ⟨_, rfl⟩
  have hB := h.box (ca := ca)
  rw [← hw1, ← hbx] at hB
  clear h
  have q0 := hB.bo.c0
  have q1 := hB.bo.c1
  have HS := hB.pre.sec
  have HPK := hB.pre.pick w1
  rw [hk] at HPK
  have HNS := hid hB.pre.ns
  have HB := hid hB
  have HK := hid hk
  clear hk
  generalize secP A.n x.N = sn at *
  have HP := puts_any x a ca hB.pre.pf hB.pre.ok hB.pre.at_ hB.pre.tb hB.pre.wr hrp
  have HNX : Hid (NX z 0 5000 (putP A.n z x)) := hid (put_nx hB.pre.pf.inv.1 hB.pre.al _ _ _)
  generalize putP A.n z x = PP at *
  clear hrp
  clear hB
  go_enter Tryz.func7, Tryz.ntmps7
  go_upto_region 1 with fail
  rw [← hw1, ← hbx]
  clear hw1 hbx
  go_wp2_with (first
    | (go_at_call 25; go_must (refine HS.mono ?_; rintro e w' ⟨rfl, hw⟩; have hw := hw.symm; subst hw; clear HS))
    | (go_at_call 26; go_must (refine HPK.mono ?_; rintro e w' ⟨rfl, hw⟩; have hw := hw.symm; subst hw; clear HPK))
    | (refine wpList_load_row rfl 29 _ rfl bx rfl 29 (x.cells a ca).toArray (0, 0) _ HB.out.bo Tryz.underlying29 rfl (by rw [szStep]; rfl) ?_)
    | (go_at_call 27; go_must (refine HP.mono ?_; rintro e w2 ⟨rfl, hP2⟩; have HP2 := hid hP2; clear HP hP2))
    | fail)
  go_ret
  exact ⟨rfl, PF.dpost HNX.out (by decide) HB.out.pre.bq HP2.out⟩
set_option maxRecDepth 100000 in
set_option maxHeartbeats 8000000 in
theorem does_4 (x : SV) (a : Option Addr) (ca : Nat) (h : DPre w0 w A σ0 z V M E x a) (hk : D.pickN x.kind 20 = 4) (hrp : RPutOK A z) :
    Calls Tryz.prog 7 #[.pointer (some ⟨A.pp, 0, none⟩), .agg (x.cells a ca).toArray] w fun e w' => e = .returned (.bool true) ∧ DPost w0 w' A σ0 z := by
  obtain ⟨w1, hw1⟩ : ∃ q, q = w.alloc (.cells (x.cells a ca).toArray 29) := ⟨_, rfl⟩
  obtain ⟨bx, hbx⟩ : ∃ q, q = w.heap.size := ⟨_, rfl⟩
  have hB := h.box (ca := ca)
  rw [← hw1, ← hbx] at hB
  clear h
  have q0 := hB.bo.c0
  have q1 := hB.bo.c1
  have HS := hB.pre.sec
  have HPK := hB.pre.pick w1
  rw [hk] at HPK
  have HNS := hid hB.pre.ns
  have HB := hid hB
  have HK := hid hk
  clear hk
  generalize secP A.n x.N = sn at *
  have HP := puts_any x a ca hB.pre.pf hB.pre.ok hB.pre.at_ hB.pre.tb hB.pre.wr hrp
  have HNX : Hid (NX z 0 5000 (putP A.n z x)) := hid (put_nx hB.pre.pf.inv.1 hB.pre.al _ _ _)
  generalize putP A.n z x = PP at *
  clear hrp
  clear hB
  go_enter Tryz.func7, Tryz.ntmps7
  go_upto_region 1 with fail
  rw [← hw1, ← hbx]
  clear hw1 hbx
  go_wp2_with (first
    | (go_at_call 25; go_must (refine HS.mono ?_; rintro e w' ⟨rfl, hw⟩; have hw := hw.symm; subst hw; clear HS))
    | (go_at_call 26; go_must (refine HPK.mono ?_; rintro e w' ⟨rfl, hw⟩; have hw := hw.symm; subst hw; clear HPK))
    | (refine wpList_load_row rfl 29 _ rfl bx rfl 29 (x.cells a ca).toArray (0, 0) _ HB.out.bo Tryz.underlying29 rfl (by rw [szStep]; rfl) ?_)
    | (go_at_call 27; go_must (refine HP.mono ?_; rintro e w2 ⟨rfl, hP2⟩; have HP2 := hid hP2; clear HP hP2))
    | fail)
  go_ret
  exact ⟨rfl, PF.dpost HNX.out (by decide) HB.out.pre.bq HP2.out⟩
set_option maxRecDepth 100000 in
set_option maxHeartbeats 8000000 in
theorem does_5 (x : SV) (a : Option Addr) (ca : Nat) (h : DPre w0 w A σ0 z V M E x a) (hk : D.pickN x.kind 20 = 5) (hrp : RPutOK A z) :
    Calls Tryz.prog 7 #[.pointer (some ⟨A.pp, 0, none⟩), .agg (x.cells a ca).toArray] w fun e w' => e = .returned (.bool true) ∧ DPost w0 w' A σ0 z := by
  obtain ⟨w1, hw1⟩ : ∃ q, q = w.alloc (.cells (x.cells a ca).toArray 29) := ⟨_, rfl⟩
  obtain ⟨bx, hbx⟩ : ∃ q, q = w.heap.size := ⟨_, rfl⟩
  have hB := h.box (ca := ca)
  rw [← hw1, ← hbx] at hB
  clear h
  have q0 := hB.bo.c0
  have q1 := hB.bo.c1
  have HS := hB.pre.sec
  have HPK := hB.pre.pick w1
  rw [hk] at HPK
  have HNS := hid hB.pre.ns
  have HB := hid hB
  have HK := hid hk
  clear hk
  generalize secP A.n x.N = sn at *
  have HP := puts_any x a ca hB.pre.pf hB.pre.ok hB.pre.at_ hB.pre.tb hB.pre.wr hrp
  have HNX : Hid (NX z 0 5000 (putP A.n z x)) := hid (put_nx hB.pre.pf.inv.1 hB.pre.al _ _ _)
  generalize putP A.n z x = PP at *
  clear hrp
  clear hB
  go_enter Tryz.func7, Tryz.ntmps7
  go_upto_region 1 with fail
  rw [← hw1, ← hbx]
  clear hw1 hbx
  go_wp2_with (first
    | (go_at_call 25; go_must (refine HS.mono ?_; rintro e w' ⟨rfl, hw⟩; have hw := hw.symm; subst hw; clear HS))
    | (go_at_call 26; go_must (refine HPK.mono ?_; rintro e w' ⟨rfl, hw⟩; have hw := hw.symm; subst hw; clear HPK))
    | (refine wpList_load_row rfl 29 _ rfl bx rfl 29 (x.cells a ca).toArray (0, 0) _ HB.out.bo Tryz.underlying29 rfl (by rw [szStep]; rfl) ?_)
    | (go_at_call 27; go_must (refine HP.mono ?_; rintro e w2 ⟨rfl, hP2⟩; have HP2 := hid hP2; clear HP hP2))
    | fail)
  go_ret
  exact ⟨rfl, PF.dpost HNX.out (by decide) HB.out.pre.bq HP2.out⟩
set_option maxRecDepth 100000 in
set_option maxHeartbeats 8000000 in
theorem does_11 (x : SV) (a : Option Addr) (ca : Nat) (h : DPre w0 w A σ0 z V M E x a) (hk : D.pickN x.kind 20 = 11) :
    Calls Tryz.prog 7 #[.pointer (some ⟨A.pp, 0, none⟩), .agg (x.cells a ca).toArray] w fun e w' => e = .returned (.bool true) ∧ DPost w0 w' A σ0 z := by
  obtain ⟨w1, hw1⟩ : ∃ q, q = w.alloc (.cells (x.cells a ca).toArray 29) := ⟨_, rfl⟩
  obtain ⟨bx, hbx⟩ : ∃ q, q = w.heap.size := ⟨_, rfl⟩
  have hB := h.box (ca := ca)
  rw [← hw1, ← hbx] at hB
  clear h
  have q0 := hB.bo.c0
  have q1 := hB.bo.c1
  have HS := hB.pre.sec
  have HPK := hB.pre.pick w1
  rw [hk] at HPK
  have HNS := hid hB.pre.ns
  have HB := hid hB
  have HK := hid hk
  clear hk
  generalize secP A.n x.N = sn at *
  have HNX : Hid (NX z 0 5000 (DropC A.n z sn)) := hid (drop_nx hB.pre.pf.inv.1 hB.pre.al sn)
  have HNE : Hid ((DropC A.n z sn).2 ≠ 22) := hid (drop_ne hB.pre.al sn)
  obtain ⟨PP, hPP⟩ : ∃ q, q = DropC A.n z sn := ⟨_, rfl⟩
  rw [← hPP] at HNX HNE
  have HP : Hid (∀ wb, PF w0 wb A σ0 z z false V M E → Calls Tryz.prog 33 #[.pointer (some ⟨A.c, 0, none⟩), .int .i64 sn] wb fun e w' => e = .returned (.int .i64 PP.2) ∧ PF w0 w' A σ0 PP.1 z false V M E) := hid (fun wb hp => hp.prog (f := 33) (args := #[.pointer (some ⟨A.c, 0, none⟩), .int .i64 sn]) (R := fun e => e = .returned (.int .i64 PP.2)) (z' := PP.1) (fun ρ hc => by rw [hPP]; exact DropC_any sn hc))
  have HD : Hid (∀ wb, PF w0 wb A σ0 PP.1 z false V M E → Calls Tryz.prog 34 #[.pointer (some ⟨A.r, 0, none⟩), .int .i64 sn] wb fun e w' => e = .returned (.int .i64 PP.2) ∧ PF w0 w' A σ0 PP.1 PP.1 false V M E) := hid (fun wb hp => hp.doc (f := 34) (args := #[.pointer (some ⟨A.r, 0, none⟩), .int .i64 sn]) (R := fun e => e = .returned (.int .i64 PP.2)) (z' := PP.1) (fun ρ hc => by rw [hPP]; exact rdrop_any sn wb hc HB.out.pre.al.1))
  clear hPP
  clear hB
  go_enter Tryz.func7, Tryz.ntmps7
  go_upto_region 1 with fail
  rw [← hw1, ← hbx]
  clear hw1 hbx
  go_upto_region 28 with (first
    | (go_at_call 25; go_must (refine HS.mono ?_; rintro e w' ⟨rfl, hw⟩; have hw := hw.symm; subst hw; clear HS))
    | (go_at_call 26; go_must (refine HPK.mono ?_; rintro e w' ⟨rfl, hw⟩; have hw := hw.symm; subst hw; clear HPK))
    | fail)
  clear q0 q1
  refine wp_region_noPanic ?_
  refine wp_region_held_drew (S := fun W => W.heap[A.pp]? = some (.cells (PrC A false) 36 (0, 0))) (by kernel_rfl) HB.out.pre.pf.me (fun hHeld => ?_)
  obtain ⟨wD, hwD⟩ : ∃ q, q = w1.drew := ⟨_, rfl⟩
  have HXD : Hid (Chg w1 wD No) := hid (by rw [hwD]; exact (Chg.refl w1 No).drew)
  rw [← hwD] at hHeld ⊢
  clear hwD
  refine takeVal 0 110 (.pointer (some ⟨A.pp, 0, none⟩)) rfl (by kernel_rfl) (by kernel_rfl) (by kernel_rfl) rfl (by rfl) (fun _ _ _ h => h) hHeld (fun _ hw' => rfl) ?_
  simp only [List.setIfInBounds_toArray, List.set_cons_zero, List.set_cons_succ]
  refine takeVal 1 111 (.pointer (some ⟨A.pp, 0, none⟩)) rfl (by kernel_rfl) (by kernel_rfl) (by kernel_rfl) rfl (by rfl) (fun _ _ _ h => h) hHeld (fun _ hw' => by go_simp) ?_
  simp only [List.setIfInBounds_toArray, List.set_cons_zero, List.set_cons_succ]
  refine takeVal 2 112 (.pointer (some ⟨A.pp, 1, none⟩)) rfl (by kernel_rfl) (by kernel_rfl) (by kernel_rfl) rfl (by rfl) (fun _ _ _ h => h) hHeld (fun _ hw' => by go_simp) ?_
  simp only [List.setIfInBounds_toArray, List.set_cons_zero, List.set_cons_succ]
  refine takeVal 3 113 (.pointer (some ⟨A.c, 0, none⟩)) rfl (by kernel_rfl) (by kernel_rfl) (by kernel_rfl) rfl (by rfl) (fun _ _ _ h => h) hHeld (fun _ hw' => by have hc := pr1 hw'; go_simp) ?_
  simp only [List.setIfInBounds_toArray, List.set_cons_zero, List.set_cons_succ]
  refine takeVal 4 114 (.int .i64 sn) rfl (by kernel_rfl) (by kernel_rfl) (by kernel_rfl) rfl (by rfl) (fun _ _ _ h => h) hHeld (fun _ hw' => rfl) ?_
  simp only [List.setIfInBounds_toArray, List.set_cons_zero, List.set_cons_succ]
  refine takeVal 6 116 (.pointer (some ⟨A.pp, 0, none⟩)) rfl (by kernel_rfl) (by kernel_rfl) (by kernel_rfl) rfl (by rfl) (fun _ _ _ h => h) hHeld (fun _ hw' => rfl) ?_
  simp only [List.setIfInBounds_toArray, List.set_cons_zero, List.set_cons_succ]
  refine takeVal 7 117 (.pointer (some ⟨A.pp, 0, none⟩)) rfl (by kernel_rfl) (by kernel_rfl) (by kernel_rfl) rfl (by rfl) (fun _ _ _ h => h) hHeld (fun _ hw' => by go_simp) ?_
  simp only [List.setIfInBounds_toArray, List.set_cons_zero, List.set_cons_succ]
  refine takeVal 8 118 (.pointer (some ⟨A.pp, 3, none⟩)) rfl (by kernel_rfl) (by kernel_rfl) (by kernel_rfl) rfl (by rfl) (fun _ _ _ h => h) hHeld (fun _ hw' => by go_simp) ?_
  simp only [List.setIfInBounds_toArray, List.set_cons_zero, List.set_cons_succ]
  refine takeVal 9 119 (.pointer (some ⟨A.r, 0, none⟩)) rfl (by kernel_rfl) (by kernel_rfl) (by kernel_rfl) rfl (by rfl) (fun _ _ _ h => h) hHeld (fun _ hw' => by have hc := pr3 hw'; go_simp) ?_
  simp only [List.setIfInBounds_toArray, List.set_cons_zero, List.set_cons_succ]
  refine takeVal 10 120 (.int .i64 sn) rfl (by kernel_rfl) (by kernel_rfl) (by kernel_rfl) rfl (by rfl) (fun _ _ _ h => h) hHeld (fun _ hw' => rfl) ?_
  simp only [List.setIfInBounds_toArray, List.set_cons_zero, List.set_cons_succ]
  refine step1 5 (by kernel_rfl) ?_
  refine stCall 5 115 33 #[.pointer (some ⟨A.c, 0, none⟩), .int .i64 sn] _ rfl rfl (by rfl) (by go_simp) (HP.out wD (HB.out.pre.pf.call HXD.out)) ?_
  rintro e w2 ⟨rfl, hP2⟩
  have hHeld := hP2.me
  refine ⟨_, rfl, hHeld, ?_⟩
  simp only [List.setIfInBounds_toArray, List.set_cons_zero, List.set_cons_succ]
  refine step1 11 (by kernel_rfl) ?_
  refine stCall 11 121 34 #[.pointer (some ⟨A.r, 0, none⟩), .int .i64 sn] _ rfl rfl (by rfl) (by go_simp) (HD.out w2 hP2) ?_
  rintro e w3 ⟨rfl, hP3⟩
  have hHeld := hP3.me
  refine ⟨_, rfl, hHeld, ?_⟩
  simp only [List.setIfInBounds_toArray, List.set_cons_zero, List.set_cons_succ]
  have HP3 := hid hP3
  clear hP2 hP3
  refine takeVal 12 122 (.bool true) rfl (by kernel_rfl) (by kernel_rfl) (by kernel_rfl) rfl (by rfl) (fun _ _ _ h => h) hHeld (fun _ hw' => by go_simp) ?_
  simp only [List.setIfInBounds_toArray, List.set_cons_zero, List.set_cons_succ]
  refine takeVal 13 4 (.bool true) rfl (by kernel_rfl) (by kernel_rfl) (by kernel_rfl) rfl (by rfl) (fun _ _ _ h => h) hHeld (fun _ hw' => rfl) ?_
  simp only [List.setIfInBounds_toArray, List.set_cons_zero, List.set_cons_succ]
  refine wpAnyH_done (by kernel_rfl) ?_ _
  refine NoPanic.normal ?_
  clear hHeld
  go_wp2_with fail
  go_ret
  exact ⟨rfl, PF.dpost0 HNX.out (by decide) HNE.out HB.out.pre.bq HP3.out⟩
set_option maxRecDepth 100000 in
set_option maxHeartbeats 8000000 in
theorem does_12 (x : SV) (a : Option Addr) (ca : Nat) (h : DPre w0 w A σ0 z V M E x a) (hk : D.pickN x.kind 20 = 12) :
    Calls Tryz.prog 7 #[.pointer (some ⟨A.pp, 0, none⟩), .agg (x.cells a ca).toArray] w fun e w' => e = .returned (.bool true) ∧ DPost w0 w' A σ0 z := by
  obtain ⟨w1, hw1⟩ : ∃ q, q = w.alloc (.cells (x.cells a ca).toArray 29) := ⟨_, rfl⟩
  obtain ⟨bx, hbx⟩ : ∃ q, q = w.heap.size := ⟨_, rfl⟩
  have hB := h.box (ca := ca)
  rw [← hw1, ← hbx] at hB
  clear h
  have q0 := hB.bo.c0
  have q1 := hB.bo.c1
  have HS := hB.pre.sec
  have HPK := hB.pre.pick w1
  rw [hk] at HPK
  have HNS := hid hB.pre.ns
  have HB := hid hB
  have HK := hid hk
  clear hk
  generalize secP A.n x.N = sn at *
  have HNX : Hid (NX z 1 5000 (MarkC A.n z sn x.tag)) := hid (mark_nx hB.pre.pf.inv.1 hB.pre.al sn x.tag)
  have HNE : Hid ((MarkC A.n z sn x.tag).2 ≠ 22) := hid (markC_ne hB.pre.al sn x.tag)
  obtain ⟨σ, hI, ho, hc, hnb⟩ := hB.nb
  obtain ⟨PP, hPP⟩ : ∃ q, q = MarkC A.n z sn x.tag := ⟨_, rfl⟩
  rw [← hPP] at HNX HNE
  have HP : Hid (∀ wb, PF w1 wb A σ z z false V M E → Calls Tryz.prog 35 #[.pointer (some ⟨A.c, 0, none⟩), .int .i64 sn, .int .i64 x.tag] wb fun e w' => e = .returned (.int .i64 PP.2) ∧ PF w1 w' A σ PP.1 z false V M E) := hid (fun wb hp => hp.prog (f := 35) (args := #[.pointer (some ⟨A.c, 0, none⟩), .int .i64 sn, .int .i64 x.tag]) (R := fun e => e = .returned (.int .i64 PP.2)) (z' := PP.1) (fun ρ hc => by rw [hPP]; exact mark_anyC sn x.tag hc HB.out.pre.tb))
  have HD : Hid (∀ wb, PF w1 wb A σ PP.1 z false V M E → Calls Tryz.prog 36 #[.pointer (some ⟨A.r, 0, none⟩), .int .i64 sn, .int .i64 x.tag] wb fun e w' => e = .returned (.int .i64 PP.2) ∧ PF w1 w' A σ PP.1 PP.1 false V M E) := hid (fun wb hp => hp.doc (f := 36) (args := #[.pointer (some ⟨A.r, 0, none⟩), .int .i64 sn, .int .i64 x.tag]) (R := fun e => e = .returned (.int .i64 PP.2)) (z' := PP.1) (fun ρ hc => by
    have h9 := rmark_any sn x.tag wb hc HB.out.pre.tb
    rw [(rmark_is HB.out.pre.al sn x.tag).1, (rmark_is HB.out.pre.al sn x.tag).2] at h9
    rw [hPP]
    exact h9))
  have HI := hid hI
  have HO := hid ho
  have HC := hid hc
  have HNB := hid hnb
  clear hPP hI ho hc hnb
  clear hB
  go_enter Tryz.func7, Tryz.ntmps7
  go_upto_region 1 with fail
  rw [← hw1, ← hbx]
  clear hw1 hbx
  go_upto_region 31 with (first
    | (go_at_call 25; go_must (refine HS.mono ?_; rintro e w' ⟨rfl, hw⟩; have hw := hw.symm; subst hw; clear HS))
    | (go_at_call 26; go_must (refine HPK.mono ?_; rintro e w' ⟨rfl, hw⟩; have hw := hw.symm; subst hw; clear HPK))
    | fail)
  clear q0 q1
  refine wp_region_noPanic ?_
  refine wp_region_held_drew (S := fun W => W.heap[A.pp]? = some (.cells (PrC A false) 36 (0, 0)) ∧ StepB W bx x a ca) (by kernel_rfl) ⟨HB.out.pre.pf.me, HB.out.bo⟩ (fun hHeld => ?_)
  obtain ⟨wD, hwD⟩ : ∃ q, q = w1.drew := ⟨_, rfl⟩
  have HXD : Hid (Chg w1 wD No) := hid (by rw [hwD]; exact (Chg.refl w1 No).drew)
  rw [← hwD] at hHeld ⊢
  clear hwD
  refine takeVal 0 126 (.pointer (some ⟨A.pp, 0, none⟩)) rfl (by kernel_rfl) (by kernel_rfl) (by kernel_rfl) rfl (by rfl) (fun _ _ _ h => h) hHeld (fun _ hw' => rfl) ?_
  simp only [List.setIfInBounds_toArray, List.set_cons_zero, List.set_cons_succ]
  refine takeVal 1 127 (.pointer (some ⟨A.pp, 0, none⟩)) rfl (by kernel_rfl) (by kernel_rfl) (by kernel_rfl) rfl (by rfl) (fun _ _ _ h => h) hHeld (fun _ hw' => by go_simp) ?_
  simp only [List.setIfInBounds_toArray, List.set_cons_zero, List.set_cons_succ]
  refine takeVal 2 128 (.pointer (some ⟨A.pp, 1, none⟩)) rfl (by kernel_rfl) (by kernel_rfl) (by kernel_rfl) rfl (by rfl) (fun _ _ _ h => h) hHeld (fun _ hw' => by go_simp) ?_
  simp only [List.setIfInBounds_toArray, List.set_cons_zero, List.set_cons_succ]
  refine takeVal 3 129 (.pointer (some ⟨A.c, 0, none⟩)) rfl (by kernel_rfl) (by kernel_rfl) (by kernel_rfl) rfl (by rfl) (fun _ _ _ h => h) hHeld (fun _ hw' => by have hc := pr1 hw'.1; go_simp) ?_
  simp only [List.setIfInBounds_toArray, List.set_cons_zero, List.set_cons_succ]
  refine takeVal 4 130 (.int .i64 sn) rfl (by kernel_rfl) (by kernel_rfl) (by kernel_rfl) rfl (by rfl) (fun _ _ _ h => h) hHeld (fun _ hw' => rfl) ?_
  simp only [List.setIfInBounds_toArray, List.set_cons_zero, List.set_cons_succ]
  refine takeVal 5 131 (.pointer (some ⟨bx, 2, none⟩)) rfl (by kernel_rfl) (by kernel_rfl) (by kernel_rfl) rfl (by rfl) (fun _ _ _ h => h) hHeld (fun _ hw' => by go_simp) ?_
  simp only [List.setIfInBounds_toArray, List.set_cons_zero, List.set_cons_succ]
  refine takeVal 6 132 (.int .i64 x.tag) rfl (by kernel_rfl) (by kernel_rfl) (by kernel_rfl) rfl (by rfl) (fun _ _ _ h => h) hHeld (fun _ hw' => by have hc := hw'.2.c2; go_simp) ?_
  simp only [List.setIfInBounds_toArray, List.set_cons_zero, List.set_cons_succ]
  refine takeVal 8 134 (.pointer (some ⟨A.pp, 0, none⟩)) rfl (by kernel_rfl) (by kernel_rfl) (by kernel_rfl) rfl (by rfl) (fun _ _ _ h => h) hHeld (fun _ hw' => rfl) ?_
  simp only [List.setIfInBounds_toArray, List.set_cons_zero, List.set_cons_succ]
  refine takeVal 9 135 (.pointer (some ⟨A.pp, 0, none⟩)) rfl (by kernel_rfl) (by kernel_rfl) (by kernel_rfl) rfl (by rfl) (fun _ _ _ h => h) hHeld (fun _ hw' => by go_simp) ?_
  simp only [List.setIfInBounds_toArray, List.set_cons_zero, List.set_cons_succ]
  refine takeVal 10 136 (.pointer (some ⟨A.pp, 3, none⟩)) rfl (by kernel_rfl) (by kernel_rfl) (by kernel_rfl) rfl (by rfl) (fun _ _ _ h => h) hHeld (fun _ hw' => by go_simp) ?_
  simp only [List.setIfInBounds_toArray, List.set_cons_zero, List.set_cons_succ]
  refine takeVal 11 137 (.pointer (some ⟨A.r, 0, none⟩)) rfl (by kernel_rfl) (by kernel_rfl) (by kernel_rfl) rfl (by rfl) (fun _ _ _ h => h) hHeld (fun _ hw' => by have hc := pr3 hw'.1; go_simp) ?_
  simp only [List.setIfInBounds_toArray, List.set_cons_zero, List.set_cons_succ]
  refine takeVal 12 138 (.int .i64 sn) rfl (by kernel_rfl) (by kernel_rfl) (by kernel_rfl) rfl (by rfl) (fun _ _ _ h => h) hHeld (fun _ hw' => rfl) ?_
  simp only [List.setIfInBounds_toArray, List.set_cons_zero, List.set_cons_succ]
  refine takeVal 13 139 (.pointer (some ⟨bx, 2, none⟩)) rfl (by kernel_rfl) (by kernel_rfl) (by kernel_rfl) rfl (by rfl) (fun _ _ _ h => h) hHeld (fun _ hw' => by go_simp) ?_
  simp only [List.setIfInBounds_toArray, List.set_cons_zero, List.set_cons_succ]
  refine takeVal 14 140 (.int .i64 x.tag) rfl (by kernel_rfl) (by kernel_rfl) (by kernel_rfl) rfl (by rfl) (fun _ _ _ h => h) hHeld (fun _ hw' => by have hc := hw'.2.c2; go_simp) ?_
  simp only [List.setIfInBounds_toArray, List.set_cons_zero, List.set_cons_succ]
  refine step1 7 (by kernel_rfl) ?_
  refine stCall 7 133 35 #[.pointer (some ⟨A.c, 0, none⟩), .int .i64 sn, .int .i64 x.tag] _ rfl rfl (by rfl) (by go_simp) (HP.out wD ((PF.start HI.out).call HXD.out)) ?_
  rintro e w2 ⟨rfl, hP2⟩
  have hHeld : w2.heap[A.pp]? = some (.cells (PrC A false) 36 (0, 0)) ∧ StepB w2 bx x a ca := ⟨hP2.me, hP2.kept HNB.out HB.out.bo⟩
  refine ⟨_, rfl, hHeld, ?_⟩
  simp only [List.setIfInBounds_toArray, List.set_cons_zero, List.set_cons_succ]
  refine step1 15 (by kernel_rfl) ?_
  refine stCall 15 141 36 #[.pointer (some ⟨A.r, 0, none⟩), .int .i64 sn, .int .i64 x.tag] _ rfl rfl (by rfl) (by go_simp) (HD.out w2 hP2) ?_
  rintro e w3 ⟨rfl, hP3⟩
  have hHeld : w3.heap[A.pp]? = some (.cells (PrC A false) 36 (0, 0)) ∧ StepB w3 bx x a ca := ⟨hP3.me, hP3.kept HNB.out HB.out.bo⟩
  refine ⟨_, rfl, hHeld, ?_⟩
  simp only [List.setIfInBounds_toArray, List.set_cons_zero, List.set_cons_succ]
  have HP3 := hid hP3
  clear hP2 hP3
  refine takeVal 16 142 (.bool true) rfl (by kernel_rfl) (by kernel_rfl) (by kernel_rfl) rfl (by rfl) (fun _ _ _ h => h) hHeld (fun _ hw' => by go_simp) ?_
  simp only [List.setIfInBounds_toArray, List.set_cons_zero, List.set_cons_succ]
  refine takeVal 17 4 (.bool true) rfl (by kernel_rfl) (by kernel_rfl) (by kernel_rfl) rfl (by rfl) (fun _ _ _ h => h) hHeld (fun _ hw' => rfl) ?_
  simp only [List.setIfInBounds_toArray, List.set_cons_zero, List.set_cons_succ]
  refine wpAnyH_done (by kernel_rfl) ?_ _
  refine NoPanic.normal ?_
  clear hHeld
  go_wp2_with fail
  go_ret
  exact ⟨rfl, PF.dpost0 HNX.out (by decide) HNE.out HB.out.pre.bq (PF.and HO.out HC.out HP3.out)⟩
set_option maxRecDepth 100000 in
set_option maxHeartbeats 8000000 in
theorem does_13 (x : SV) (a : Option Addr) (ca : Nat) (h : DPre w0 w A σ0 z V M E x a) (hk : D.pickN x.kind 20 = 13) :
    Calls Tryz.prog 7 #[.pointer (some ⟨A.pp, 0, none⟩), .agg (x.cells a ca).toArray] w fun e w' => e = .returned (.bool true) ∧ DPost w0 w' A σ0 z := by
  obtain ⟨w1, hw1⟩ : ∃ q, q = w.alloc (.cells (x.cells a ca).toArray 29) := ⟨_, rfl⟩
  obtain ⟨bx, hbx⟩ : ∃ q, q = w.heap.size := ⟨_, rfl⟩
  have hB := h.box (ca := ca)
  rw [← hw1, ← hbx] at hB
  clear h
  have q0 := hB.bo.c0
  have q1 := hB.bo.c1
  have HS := hB.pre.sec
  have HPK := hB.pre.pick w1
  rw [hk] at HPK
  have HNS := hid hB.pre.ns
  have HB := hid hB
  have HK := hid hk
  clear hk
  generalize secP A.n x.N = sn at *
  have HNX : Hid (NX z 1 5000 (MarkC A.n z sn x.tag)) := hid (mark_nx hB.pre.pf.inv.1 hB.pre.al sn x.tag)
  have HNE : Hid ((MarkC A.n z sn x.tag).2 ≠ 22) := hid (markC_ne hB.pre.al sn x.tag)
  obtain ⟨σ, hI, ho, hc, hnb⟩ := hB.nb
  obtain ⟨PP, hPP⟩ : ∃ q, q = MarkC A.n z sn x.tag := ⟨_, rfl⟩
  rw [← hPP] at HNX HNE
  have HP : Hid (∀ wb, PF w1 wb A σ z z false V M E → Calls Tryz.prog 35 #[.pointer (some ⟨A.c, 0, none⟩), .int .i64 sn, .int .i64 x.tag] wb fun e w' => e = .returned (.int .i64 PP.2) ∧ PF w1 w' A σ PP.1 z false V M E) := hid (fun wb hp => hp.prog (f := 35) (args := #[.pointer (some ⟨A.c, 0, none⟩), .int .i64 sn, .int .i64 x.tag]) (R := fun e => e = .returned (.int .i64 PP.2)) (z' := PP.1) (fun ρ hc => by rw [hPP]; exact mark_anyC sn x.tag hc HB.out.pre.tb))
  have HD : Hid (∀ wb, PF w1 wb A σ PP.1 z false V M E → Calls Tryz.prog 36 #[.pointer (some ⟨A.r, 0, none⟩), .int .i64 sn, .int .i64 x.tag] wb fun e w' => e = .returned (.int .i64 PP.2) ∧ PF w1 w' A σ PP.1 PP.1 false V M E) := hid (fun wb hp => hp.doc (f := 36) (args := #[.pointer (some ⟨A.r, 0, none⟩), .int .i64 sn, .int .i64 x.tag]) (R := fun e => e = .returned (.int .i64 PP.2)) (z' := PP.1) (fun ρ hc => by
    have h9 := rmark_any sn x.tag wb hc HB.out.pre.tb
    rw [(rmark_is HB.out.pre.al sn x.tag).1, (rmark_is HB.out.pre.al sn x.tag).2] at h9
    rw [hPP]
    exact h9))
  have HI := hid hI
  have HO := hid ho
  have HC := hid hc
  have HNB := hid hnb
  clear hPP hI ho hc hnb
  clear hB
  go_enter Tryz.func7, Tryz.ntmps7
  go_upto_region 1 with fail
  rw [← hw1, ← hbx]
  clear hw1 hbx
  go_upto_region 31 with (first
    | (go_at_call 25; go_must (refine HS.mono ?_; rintro e w' ⟨rfl, hw⟩; have hw := hw.symm; subst hw; clear HS))
    | (go_at_call 26; go_must (refine HPK.mono ?_; rintro e w' ⟨rfl, hw⟩; have hw := hw.symm; subst hw; clear HPK))
    | fail)
  clear q0 q1
  refine wp_region_noPanic ?_
  refine wp_region_held_drew (S := fun W => W.heap[A.pp]? = some (.cells (PrC A false) 36 (0, 0)) ∧ StepB W bx x a ca) (by kernel_rfl) ⟨HB.out.pre.pf.me, HB.out.bo⟩ (fun hHeld => ?_)
  obtain ⟨wD, hwD⟩ : ∃ q, q = w1.drew := ⟨_, rfl⟩
  have HXD : Hid (Chg w1 wD No) := hid (by rw [hwD]; exact (Chg.refl w1 No).drew)
  rw [← hwD] at hHeld ⊢
  clear hwD
  refine takeVal 0 126 (.pointer (some ⟨A.pp, 0, none⟩)) rfl (by kernel_rfl) (by kernel_rfl) (by kernel_rfl) rfl (by rfl) (fun _ _ _ h => h) hHeld (fun _ hw' => rfl) ?_
  simp only [List.setIfInBounds_toArray, List.set_cons_zero, List.set_cons_succ]
  refine takeVal 1 127 (.pointer (some ⟨A.pp, 0, none⟩)) rfl (by kernel_rfl) (by kernel_rfl) (by kernel_rfl) rfl (by rfl) (fun _ _ _ h => h) hHeld (fun _ hw' => by go_simp) ?_
  simp only [List.setIfInBounds_toArray, List.set_cons_zero, List.set_cons_succ]
  refine takeVal 2 128 (.pointer (some ⟨A.pp, 1, none⟩)) rfl (by kernel_rfl) (by kernel_rfl) (by kernel_rfl) rfl (by rfl) (fun _ _ _ h => h) hHeld (fun _ hw' => by go_simp) ?_
  simp only [List.setIfInBounds_toArray, List.set_cons_zero, List.set_cons_succ]
  refine takeVal 3 129 (.pointer (some ⟨A.c, 0, none⟩)) rfl (by kernel_rfl) (by kernel_rfl) (by kernel_rfl) rfl (by rfl) (fun _ _ _ h => h) hHeld (fun _ hw' => by have hc := pr1 hw'.1; go_simp) ?_
  simp only [List.setIfInBounds_toArray, List.set_cons_zero, List.set_cons_succ]
  refine takeVal 4 130 (.int .i64 sn) rfl (by kernel_rfl) (by kernel_rfl) (by kernel_rfl) rfl (by rfl) (fun _ _ _ h => h) hHeld (fun _ hw' => rfl) ?_
  simp only [List.setIfInBounds_toArray, List.set_cons_zero, List.set_cons_succ]
  refine takeVal 5 131 (.pointer (some ⟨bx, 2, none⟩)) rfl (by kernel_rfl) (by kernel_rfl) (by kernel_rfl) rfl (by rfl) (fun _ _ _ h => h) hHeld (fun _ hw' => by go_simp) ?_
  simp only [List.setIfInBounds_toArray, List.set_cons_zero, List.set_cons_succ]
  refine takeVal 6 132 (.int .i64 x.tag) rfl (by kernel_rfl) (by kernel_rfl) (by kernel_rfl) rfl (by rfl) (fun _ _ _ h => h) hHeld (fun _ hw' => by have hc := hw'.2.c2; go_simp) ?_
  simp only [List.setIfInBounds_toArray, List.set_cons_zero, List.set_cons_succ]
  refine takeVal 8 134 (.pointer (some ⟨A.pp, 0, none⟩)) rfl (by kernel_rfl) (by kernel_rfl) (by kernel_rfl) rfl (by rfl) (fun _ _ _ h => h) hHeld (fun _ hw' => rfl) ?_
  simp only [List.setIfInBounds_toArray, List.set_cons_zero, List.set_cons_succ]
  refine takeVal 9 135 (.pointer (some ⟨A.pp, 0, none⟩)) rfl (by kernel_rfl) (by kernel_rfl) (by kernel_rfl) rfl (by rfl) (fun _ _ _ h => h) hHeld (fun _ hw' => by go_simp) ?_
  simp only [List.setIfInBounds_toArray, List.set_cons_zero, List.set_cons_succ]
  refine takeVal 10 136 (.pointer (some ⟨A.pp, 3, none⟩)) rfl (by kernel_rfl) (by kernel_rfl) (by kernel_rfl) rfl (by rfl) (fun _ _ _ h => h) hHeld (fun _ hw' => by go_simp) ?_
  simp only [List.setIfInBounds_toArray, List.set_cons_zero, List.set_cons_succ]
  refine takeVal 11 137 (.pointer (some ⟨A.r, 0, none⟩)) rfl (by kernel_rfl) (by kernel_rfl) (by kernel_rfl) rfl (by rfl) (fun _ _ _ h => h) hHeld (fun _ hw' => by have hc := pr3 hw'.1; go_simp) ?_
  simp only [List.setIfInBounds_toArray, List.set_cons_zero, List.set_cons_succ]
  refine takeVal 12 138 (.int .i64 sn) rfl (by kernel_rfl) (by kernel_rfl) (by kernel_rfl) rfl (by rfl) (fun _ _ _ h => h) hHeld (fun _ hw' => rfl) ?_
  simp only [List.setIfInBounds_toArray, List.set_cons_zero, List.set_cons_succ]
  refine takeVal 13 139 (.pointer (some ⟨bx, 2, none⟩)) rfl (by kernel_rfl) (by kernel_rfl) (by kernel_rfl) rfl (by rfl) (fun _ _ _ h => h) hHeld (fun _ hw' => by go_simp) ?_
  simp only [List.setIfInBounds_toArray, List.set_cons_zero, List.set_cons_succ]
  refine takeVal 14 140 (.int .i64 x.tag) rfl (by kernel_rfl) (by kernel_rfl) (by kernel_rfl) rfl (by rfl) (fun _ _ _ h => h) hHeld (fun _ hw' => by have hc := hw'.2.c2; go_simp) ?_
  simp only [List.setIfInBounds_toArray, List.set_cons_zero, List.set_cons_succ]
  refine step1 7 (by kernel_rfl) ?_
  refine stCall 7 133 35 #[.pointer (some ⟨A.c, 0, none⟩), .int .i64 sn, .int .i64 x.tag] _ rfl rfl (by rfl) (by go_simp) (HP.out wD ((PF.start HI.out).call HXD.out)) ?_
  rintro e w2 ⟨rfl, hP2⟩
  have hHeld : w2.heap[A.pp]? = some (.cells (PrC A false) 36 (0, 0)) ∧ StepB w2 bx x a ca := ⟨hP2.me, hP2.kept HNB.out HB.out.bo⟩
  refine ⟨_, rfl, hHeld, ?_⟩
  simp only [List.setIfInBounds_toArray, List.set_cons_zero, List.set_cons_succ]
  refine step1 15 (by kernel_rfl) ?_
  refine stCall 15 141 36 #[.pointer (some ⟨A.r, 0, none⟩), .int .i64 sn, .int .i64 x.tag] _ rfl rfl (by rfl) (by go_simp) (HD.out w2 hP2) ?_
  rintro e w3 ⟨rfl, hP3⟩
  have hHeld : w3.heap[A.pp]? = some (.cells (PrC A false) 36 (0, 0)) ∧ StepB w3 bx x a ca := ⟨hP3.me, hP3.kept HNB.out HB.out.bo⟩
  refine ⟨_, rfl, hHeld, ?_⟩
  simp only [List.setIfInBounds_toArray, List.set_cons_zero, List.set_cons_succ]
  have HP3 := hid hP3
  clear hP2 hP3
  refine takeVal 16 142 (.bool true) rfl (by kernel_rfl) (by kernel_rfl) (by kernel_rfl) rfl (by rfl) (fun _ _ _ h => h) hHeld (fun _ hw' => by go_simp) ?_
  simp only [List.setIfInBounds_toArray, List.set_cons_zero, List.set_cons_succ]
  refine takeVal 17 4 (.bool true) rfl (by kernel_rfl) (by kernel_rfl) (by kernel_rfl) rfl (by rfl) (fun _ _ _ h => h) hHeld (fun _ hw' => rfl) ?_
  simp only [List.setIfInBounds_toArray, List.set_cons_zero, List.set_cons_succ]
  refine wpAnyH_done (by kernel_rfl) ?_ _
  refine NoPanic.normal ?_
  clear hHeld
  go_wp2_with fail
  go_ret
  exact ⟨rfl, PF.dpost0 HNX.out (by decide) HNE.out HB.out.pre.bq (PF.and HO.out HC.out HP3.out)⟩
set_option maxRecDepth 100000 in
set_option maxHeartbeats 8000000 in
theorem does_14 (x : SV) (a : Option Addr) (ca : Nat) (h : DPre w0 w A σ0 z V M E x a) (hk : D.pickN x.kind 20 = 14) :
    Calls Tryz.prog 7 #[.pointer (some ⟨A.pp, 0, none⟩), .agg (x.cells a ca).toArray] w fun e w' => e = .returned (.bool true) ∧ DPost w0 w' A σ0 z := by
  obtain ⟨w1, hw1⟩ : ∃ q, q = w.alloc (.cells (x.cells a ca).toArray 29) := ⟨_, rfl⟩
  obtain ⟨bx, hbx⟩ : ∃ q, q = w.heap.size := ⟨_, rfl⟩
  have hB := h.box (ca := ca)
  rw [← hw1, ← hbx] at hB
  clear h
  have q0 := hB.bo.c0
  have q1 := hB.bo.c1
  have HS := hB.pre.sec
  have HPK := hB.pre.pick w1
  rw [hk] at HPK
  have HNS := hid hB.pre.ns
  have HB := hid hB
  have HK := hid hk
  clear hk
  generalize secP A.n x.N = sn at *
  obtain ⟨σ, hI, ho, hc, hnb⟩ := hB.nb
  obtain ⟨kk, hkk⟩ : ∃ q, q = D.pickN x.tag 12 := ⟨_, rfl⟩
  have hb := D.pickN_bd x.tag (show (1 : Int) ≤ 12 by decide)
  rw [← hkk] at hb
  have HTP : Hid (∀ wb : World, Calls Tryz.prog 26 #[.int .i64 x.tag, .int .i64 12] wb fun e w' => e = .returned (.int .i64 kk) ∧ w' = wb) := hid (fun wb => by
    have h9 := D.pick_any x.tag 12 wb HB.out.pre.ok.t (by decide) (by decide)
    rw [← hkk] at h9
    exact h9)
  have HKK := hid hb
  have HNX : Hid (NX z 0 5000 (armZ z kk, 0)) := hid (armZ_nx hB.pre.al)
  have HP : Hid (∀ wb, IsP wb A σ z z false V M E → Calls Tryz.prog 37 #[.pointer (some ⟨A.p, 0, none⟩), .int .i64 kk] wb fun e w' => e = .returned (.int .i64 (D.armE z.d kk)) ∧ PF wb w' A σ (armZ z kk) z false V M E) := hid (fun wb hp => hp.arm (k := kk) HKK.out.1 (by have := HKK.out.2; omega))
  have HI := hid hI
  have HO := hid ho
  have HC := hid hc
  have HNB := hid hnb
  clear hkk hI ho hc hnb hb
  clear hB
  go_enter Tryz.func7, Tryz.ntmps7
  go_upto_region 1 with fail
  rw [← hw1, ← hbx]
  clear hw1 hbx
  go_upto_region 33 with (first
    | (go_at_call 25; go_must (refine HS.mono ?_; rintro e w' ⟨rfl, hw⟩; have hw := hw.symm; subst hw; clear HS))
    | (go_at_call 26; go_must (refine HPK.mono ?_; rintro e w' ⟨rfl, hw⟩; have hw := hw.symm; subst hw; clear HPK))
    | fail)
  clear q0 q1
  refine wp_region_noPanic ?_
  refine wp_region_held_drew (S := fun W => W.heap[A.pp]? = some (.cells (PrC A false) 36 (0, 0)) ∧ StepB W bx x a ca) (by kernel_rfl) ⟨HB.out.pre.pf.me, HB.out.bo⟩ (fun hHeld => ?_)
  obtain ⟨wD, hwD⟩ : ∃ q, q = w1.drew := ⟨_, rfl⟩
  have HXD : Hid (Chg w1 wD No) := hid (by rw [hwD]; exact (Chg.refl w1 No).drew)
  rw [← hwD] at hHeld ⊢
  clear hwD
  refine takeVal 0 145 (.pointer (some ⟨A.pp, 0, none⟩)) rfl (by kernel_rfl) (by kernel_rfl) (by kernel_rfl) rfl (by rfl) (fun _ _ _ h => h) hHeld (fun _ hw' => rfl) ?_
  simp only [List.setIfInBounds_toArray, List.set_cons_zero, List.set_cons_succ]
  refine takeVal 1 146 (.pointer (some ⟨A.pp, 0, none⟩)) rfl (by kernel_rfl) (by kernel_rfl) (by kernel_rfl) rfl (by rfl) (fun _ _ _ h => h) hHeld (fun _ hw' => by go_simp) ?_
  simp only [List.setIfInBounds_toArray, List.set_cons_zero, List.set_cons_succ]
  refine takeVal 2 147 (.pointer (some ⟨A.pp, 0, none⟩)) rfl (by kernel_rfl) (by kernel_rfl) (by kernel_rfl) rfl (by rfl) (fun _ _ _ h => h) hHeld (fun _ hw' => by go_simp) ?_
  simp only [List.setIfInBounds_toArray, List.set_cons_zero, List.set_cons_succ]
  refine takeVal 3 148 (.pointer (some ⟨A.p, 0, none⟩)) rfl (by kernel_rfl) (by kernel_rfl) (by kernel_rfl) rfl (by rfl) (fun _ _ _ h => h) hHeld (fun _ hw' => by have hc := pr0 hw'.1; go_simp) ?_
  simp only [List.setIfInBounds_toArray, List.set_cons_zero, List.set_cons_succ]
  refine takeVal 4 149 (.pointer (some ⟨bx, 2, none⟩)) rfl (by kernel_rfl) (by kernel_rfl) (by kernel_rfl) rfl (by rfl) (fun _ _ _ h => h) hHeld (fun _ hw' => by go_simp) ?_
  simp only [List.setIfInBounds_toArray, List.set_cons_zero, List.set_cons_succ]
  refine takeVal 5 150 (.int .i64 x.tag) rfl (by kernel_rfl) (by kernel_rfl) (by kernel_rfl) rfl (by rfl) (fun _ _ _ h => h) hHeld (fun _ hw' => by have hc := hw'.2.c2; go_simp) ?_
  simp only [List.setIfInBounds_toArray, List.set_cons_zero, List.set_cons_succ]
  refine takeVal 8 153 (.pointer (some ⟨A.pp, 0, none⟩)) rfl (by kernel_rfl) (by kernel_rfl) (by kernel_rfl) rfl (by rfl) (fun _ _ _ h => h) hHeld (fun _ hw' => rfl) ?_
  simp only [List.setIfInBounds_toArray, List.set_cons_zero, List.set_cons_succ]
  refine takeVal 9 154 (.pointer (some ⟨A.pp, 0, none⟩)) rfl (by kernel_rfl) (by kernel_rfl) (by kernel_rfl) rfl (by rfl) (fun _ _ _ h => h) hHeld (fun _ hw' => by go_simp) ?_
  simp only [List.setIfInBounds_toArray, List.set_cons_zero, List.set_cons_succ]
  refine takeVal 10 155 (.pointer (some ⟨A.pp, 2, none⟩)) rfl (by kernel_rfl) (by kernel_rfl) (by kernel_rfl) rfl (by rfl) (fun _ _ _ h => h) hHeld (fun _ hw' => by go_simp) ?_
  simp only [List.setIfInBounds_toArray, List.set_cons_zero, List.set_cons_succ]
  refine takeVal 11 156 (.pointer (some ⟨A.rd, 0, none⟩)) rfl (by kernel_rfl) (by kernel_rfl) (by kernel_rfl) rfl (by rfl) (fun _ _ _ h => h) hHeld (fun _ hw' => by have hc := pr2 hw'.1; go_simp) ?_
  simp only [List.setIfInBounds_toArray, List.set_cons_zero, List.set_cons_succ]
  refine takeVal 12 157 (.pointer (some ⟨bx, 2, none⟩)) rfl (by kernel_rfl) (by kernel_rfl) (by kernel_rfl) rfl (by rfl) (fun _ _ _ h => h) hHeld (fun _ hw' => by go_simp) ?_
  simp only [List.setIfInBounds_toArray, List.set_cons_zero, List.set_cons_succ]
  refine takeVal 13 158 (.int .i64 x.tag) rfl (by kernel_rfl) (by kernel_rfl) (by kernel_rfl) rfl (by rfl) (fun _ _ _ h => h) hHeld (fun _ hw' => by have hc := hw'.2.c2; go_simp) ?_
  simp only [List.setIfInBounds_toArray, List.set_cons_zero, List.set_cons_succ]
  refine step1 6 (by kernel_rfl) ?_
  refine stCall 6 151 26 #[.int .i64 x.tag, .int .i64 12] _ rfl rfl (by rfl) (by go_simp) (HTP.out _) ?_
  rintro e wp ⟨rfl, ewp⟩
  subst ewp
  refine ⟨_, rfl, hHeld, ?_⟩
  simp only [List.setIfInBounds_toArray, List.set_cons_zero, List.set_cons_succ]
  refine step1 7 (by kernel_rfl) ?_
  refine stCall 7 152 37 #[.pointer (some ⟨A.p, 0, none⟩), .int .i64 kk] _ rfl rfl (by rfl) (by go_simp) (HP.out _ (HI.out.call HXD.out)) ?_
  rintro e w2 ⟨rfl, hP2⟩
  obtain ⟨σ2, hI2, ho2, hc2⟩ := hP2
  have hHeld : w2.heap[A.pp]? = some (.cells (PrC A false) 36 (0, 0)) ∧ StepB w2 bx x a ca := ⟨hI2.me, hc2.keep (HXD.out.keep HB.out.bo (fun e => e)) HNB.out⟩
  refine ⟨_, rfl, hHeld, ?_⟩
  simp only [List.setIfInBounds_toArray, List.set_cons_zero, List.set_cons_succ]
  refine step1 14 (by kernel_rfl) ?_
  refine stCall 14 159 26 #[.int .i64 x.tag, .int .i64 12] _ rfl rfl (by rfl) (by go_simp) (HTP.out _) ?_
  rintro e wp ⟨rfl, ewp⟩
  subst ewp
  refine ⟨_, rfl, hHeld, ?_⟩
  simp only [List.setIfInBounds_toArray, List.set_cons_zero, List.set_cons_succ]
  refine step1 15 (by kernel_rfl) ?_
  refine stCall 15 160 38 #[.pointer (some ⟨A.rd, 0, none⟩), .int .i64 kk] _ rfl rfl (by rfl) (by go_simp) (hI2.rarm HKK.out.1 (by have := HKK.out.2; omega)) ?_
  rintro e w3 ⟨rfl, hP3⟩
  have hHeld : w3.heap[A.pp]? = some (.cells (PrC A false) 36 (0, 0)) ∧ StepB w3 bx x a ca := ⟨hP3.me, hP3.kept (fun e => (ho2 _ e).elim HNB.out (fun e => by have := slt HB.out.bo; have := HXD.out.size; omega)) hHeld.2⟩
  refine ⟨_, rfl, hHeld, ?_⟩
  simp only [List.setIfInBounds_toArray, List.set_cons_zero, List.set_cons_succ]
  have HF : Hid (PF w0 w3 A σ0 (armZ z kk) (armZ z kk) false V M E) := hid (PF.and HO.out (HC.out.trans HXD.out (fun _ _ e => e) (fun _ _ e => e.elim)) (PF.and ho2 hc2 hP3))
  clear hP3 ho2 hc2 hI2
  refine takeVal 16 161 (.bool true) rfl (by kernel_rfl) (by kernel_rfl) (by kernel_rfl) rfl (by rfl) (fun _ _ _ h => h) hHeld (fun _ hw' => by go_simp) ?_
  simp only [List.setIfInBounds_toArray, List.set_cons_zero, List.set_cons_succ]
  refine takeVal 17 4 (.bool true) rfl (by kernel_rfl) (by kernel_rfl) (by kernel_rfl) rfl (by rfl) (fun _ _ _ h => h) hHeld (fun _ hw' => rfl) ?_
  simp only [List.setIfInBounds_toArray, List.set_cons_zero, List.set_cons_succ]
  refine wpAnyH_done (by kernel_rfl) ?_ _
  refine NoPanic.normal ?_
  clear hHeld
  go_wp2_with fail
  go_ret
  exact ⟨rfl, PF.dpost0 HNX.out (by decide) (by show (0 : Int) ≠ 22; decide) HB.out.pre.bq HF.out⟩
set_option maxRecDepth 100000 in
set_option maxHeartbeats 8000000 in
theorem does_15 (x : SV) (a : Option Addr) (ca : Nat) (h : DPre w0 w A σ0 z V M E x a) (hk : D.pickN x.kind 20 = 15) :
    Calls Tryz.prog 7 #[.pointer (some ⟨A.pp, 0, none⟩), .agg (x.cells a ca).toArray] w fun e w' => e = .returned (.bool true) ∧ DPost w0 w' A σ0 z := by
  obtain ⟨w1, hw1⟩ : ∃ q, q = w.alloc (.cells (x.cells a ca).toArray 29) := ⟨_, rfl⟩
  obtain ⟨bx, hbx⟩ : ∃ q, q = w.heap.size := ⟨_, rfl⟩
  have hB := h.box (ca := ca)
  rw [← hw1, ← hbx] at hB
  clear h
  have q0 := hB.bo.c0
  have q1 := hB.bo.c1
  have HS := hB.pre.sec
  have HPK := hB.pre.pick w1
  rw [hk] at HPK
  have HNS := hid hB.pre.ns
  have HB := hid hB
  have HK := hid hk
  clear hk
  generalize secP A.n x.N = sn at *
  have HA1 := asks_any (15 - 15) sn hB.pre.pf hB.pre.al hB.pre.tb
  have HA2 : Hid (∀ wb V' M' E', PF w0 wb A σ0 (askZ (15 - 15) z) (askZ (15 - 15) z) false V' M' E' → Calls Tryz.prog 39 #[.pointer (some ⟨A.pp, 0, none⟩), .int .i64 5, .int .i64 sn] wb fun e w' => e = .returned (.bool true) ∧ ∃ V2 M2 E2, PF w0 w' A σ0 (askZ 5 (askZ (15 - 15) z)) (askZ 5 (askZ (15 - 15) z)) false V2 M2 E2 ∧ (BkEq V' M' → BkEq V2 M2)) := hid (fun wb V' M' E' hp => asks_any 5 sn hp (askZ_al HB.out.pre.al) (Nat.le_trans askZ_tc HB.out.pre.tb))
  have e1 : (15 : Int) - 15 = 0 := by decide
  rw [e1] at HA1 HA2
  clear e1
  clear hB
  go_enter Tryz.func7, Tryz.ntmps7
  go_upto_region 1 with fail
  rw [← hw1, ← hbx]
  clear hw1 hbx
  go_wp2_with (first
    | (go_at_call 25; go_must (refine HS.mono ?_; rintro e w' ⟨rfl, hw⟩; have hw := hw.symm; subst hw; clear HS))
    | (go_at_call 26; go_must (refine HPK.mono ?_; rintro e w' ⟨rfl, hw⟩; have hw := hw.symm; subst hw))
    | (go_at_call 39; go_must (first
        | (refine HA1.mono ?_; rintro e w2 ⟨rfl, V2, M2, E2, hP2, hq2⟩; have HA3 := HA2.out w2 V2 M2 E2 hP2; have HQ2 := hid (hq2 HB.out.pre.bq); clear HA1 hP2 hq2)
        | (refine HA3.mono ?_; rintro e w3 ⟨rfl, V3, M3, E3, hP3, hq3⟩; have HP3 := hid hP3; have HQ3 := hid (hq3 HQ2.out); clear HA3 hP3 hq3)))
    | fail)
  go_ret
  exact ⟨rfl, _, false, V3, M3, E3, HP3.out, HQ3.out, fun _ => askZ_al (askZ_al HB.out.pre.al), fun e => by (cases e), Nat.le_trans askZ_tc (Nat.le_trans askZ_tc (Nat.le_add_right _ _)), by rw [askZ_d.1, askZ_d.1]; omega⟩
set_option maxRecDepth 100000 in
set_option maxHeartbeats 8000000 in
theorem does_16 (x : SV) (a : Option Addr) (ca : Nat) (h : DPre w0 w A σ0 z V M E x a) (hk : D.pickN x.kind 20 = 16) :
    Calls Tryz.prog 7 #[.pointer (some ⟨A.pp, 0, none⟩), .agg (x.cells a ca).toArray] w fun e w' => e = .returned (.bool true) ∧ DPost w0 w' A σ0 z := by
  obtain ⟨w1, hw1⟩ : ∃ q, q = w.alloc (.cells (x.cells a ca).toArray 29) := ⟨_, rfl⟩
  obtain ⟨bx, hbx⟩ : ∃ q, q = w.heap.size := ⟨_, rfl⟩
  have hB := h.box (ca := ca)
  rw [← hw1, ← hbx] at hB
  clear h
  have q0 := hB.bo.c0
  have q1 := hB.bo.c1
  have HS := hB.pre.sec
  have HPK := hB.pre.pick w1
  rw [hk] at HPK
  have HNS := hid hB.pre.ns
  have HB := hid hB
  have HK := hid hk
  clear hk
  generalize secP A.n x.N = sn at *
  have HA1 := asks_any (16 - 15) sn hB.pre.pf hB.pre.al hB.pre.tb
  have HA2 : Hid (∀ wb V' M' E', PF w0 wb A σ0 (askZ (16 - 15) z) (askZ (16 - 15) z) false V' M' E' → Calls Tryz.prog 39 #[.pointer (some ⟨A.pp, 0, none⟩), .int .i64 5, .int .i64 sn] wb fun e w' => e = .returned (.bool true) ∧ ∃ V2 M2 E2, PF w0 w' A σ0 (askZ 5 (askZ (16 - 15) z)) (askZ 5 (askZ (16 - 15) z)) false V2 M2 E2 ∧ (BkEq V' M' → BkEq V2 M2)) := hid (fun wb V' M' E' hp => asks_any 5 sn hp (askZ_al HB.out.pre.al) (Nat.le_trans askZ_tc HB.out.pre.tb))
  have e1 : (16 : Int) - 15 = 1 := by decide
  rw [e1] at HA1 HA2
  clear e1
  clear hB
  go_enter Tryz.func7, Tryz.ntmps7
  go_upto_region 1 with fail
  rw [← hw1, ← hbx]
  clear hw1 hbx
  go_wp2_with (first
    | (go_at_call 25; go_must (refine HS.mono ?_; rintro e w' ⟨rfl, hw⟩; have hw := hw.symm; subst hw; clear HS))
    | (go_at_call 26; go_must (refine HPK.mono ?_; rintro e w' ⟨rfl, hw⟩; have hw := hw.symm; subst hw))
    | (go_at_call 39; go_must (first
        | (refine HA1.mono ?_; rintro e w2 ⟨rfl, V2, M2, E2, hP2, hq2⟩; have HA3 := HA2.out w2 V2 M2 E2 hP2; have HQ2 := hid (hq2 HB.out.pre.bq); clear HA1 hP2 hq2)
        | (refine HA3.mono ?_; rintro e w3 ⟨rfl, V3, M3, E3, hP3, hq3⟩; have HP3 := hid hP3; have HQ3 := hid (hq3 HQ2.out); clear HA3 hP3 hq3)))
    | fail)
  go_ret
  exact ⟨rfl, _, false, V3, M3, E3, HP3.out, HQ3.out, fun _ => askZ_al (askZ_al HB.out.pre.al), fun e => by (cases e), Nat.le_trans askZ_tc (Nat.le_trans askZ_tc (Nat.le_add_right _ _)), by rw [askZ_d.1, askZ_d.1]; omega⟩
set_option maxRecDepth 100000 in
set_option maxHeartbeats 8000000 in
theorem does_17 (x : SV) (a : Option Addr) (ca : Nat) (h : DPre w0 w A σ0 z V M E x a) (hk : D.pickN x.kind 20 = 17) :
    Calls Tryz.prog 7 #[.pointer (some ⟨A.pp, 0, none⟩), .agg (x.cells a ca).toArray] w fun e w' => e = .returned (.bool true) ∧ DPost w0 w' A σ0 z := by
  obtain ⟨w1, hw1⟩ : ∃ q, q = w.alloc (.cells (x.cells a ca).toArray 29) := ⟨_, rfl⟩
  obtain ⟨bx, hbx⟩ : ∃ q, q = w.heap.size := ⟨_, rfl⟩
  have hB := h.box (ca := ca)
  rw [← hw1, ← hbx] at hB
  clear h
  have q0 := hB.bo.c0
  have q1 := hB.bo.c1
  have HS := hB.pre.sec
  have HPK := hB.pre.pick w1
  rw [hk] at HPK
  have HNS := hid hB.pre.ns
  have HB := hid hB
  have HK := hid hk
  clear hk
  generalize secP A.n x.N = sn at *
  have HA1 := asks_any (17 - 15) sn hB.pre.pf hB.pre.al hB.pre.tb
  have HA2 : Hid (∀ wb V' M' E', PF w0 wb A σ0 (askZ (17 - 15) z) (askZ (17 - 15) z) false V' M' E' → Calls Tryz.prog 39 #[.pointer (some ⟨A.pp, 0, none⟩), .int .i64 5, .int .i64 sn] wb fun e w' => e = .returned (.bool true) ∧ ∃ V2 M2 E2, PF w0 w' A σ0 (askZ 5 (askZ (17 - 15) z)) (askZ 5 (askZ (17 - 15) z)) false V2 M2 E2 ∧ (BkEq V' M' → BkEq V2 M2)) := hid (fun wb V' M' E' hp => asks_any 5 sn hp (askZ_al HB.out.pre.al) (Nat.le_trans askZ_tc HB.out.pre.tb))
  have e1 : (17 : Int) - 15 = 2 := by decide
  rw [e1] at HA1 HA2
  clear e1
  clear hB
  go_enter Tryz.func7, Tryz.ntmps7
  go_upto_region 1 with fail
  rw [← hw1, ← hbx]
  clear hw1 hbx
  go_wp2_with (first
    | (go_at_call 25; go_must (refine HS.mono ?_; rintro e w' ⟨rfl, hw⟩; have hw := hw.symm; subst hw; clear HS))
    | (go_at_call 26; go_must (refine HPK.mono ?_; rintro e w' ⟨rfl, hw⟩; have hw := hw.symm; subst hw))
    | (go_at_call 39; go_must (first
        | (refine HA1.mono ?_; rintro e w2 ⟨rfl, V2, M2, E2, hP2, hq2⟩; have HA3 := HA2.out w2 V2 M2 E2 hP2; have HQ2 := hid (hq2 HB.out.pre.bq); clear HA1 hP2 hq2)
        | (refine HA3.mono ?_; rintro e w3 ⟨rfl, V3, M3, E3, hP3, hq3⟩; have HP3 := hid hP3; have HQ3 := hid (hq3 HQ2.out); clear HA3 hP3 hq3)))
    | fail)
  go_ret
  exact ⟨rfl, _, false, V3, M3, E3, HP3.out, HQ3.out, fun _ => askZ_al (askZ_al HB.out.pre.al), fun e => by (cases e), Nat.le_trans askZ_tc (Nat.le_trans askZ_tc (Nat.le_add_right _ _)), by rw [askZ_d.1, askZ_d.1]; omega⟩
set_option maxRecDepth 100000 in
set_option maxHeartbeats 8000000 in
theorem does_18 (x : SV) (a : Option Addr) (ca : Nat) (h : DPre w0 w A σ0 z V M E x a) (hk : D.pickN x.kind 20 = 18) :
    Calls Tryz.prog 7 #[.pointer (some ⟨A.pp, 0, none⟩), .agg (x.cells a ca).toArray] w fun e w' => e = .returned (.bool true) ∧ DPost w0 w' A σ0 z := by
  obtain ⟨w1, hw1⟩ : ∃ q, q = w.alloc (.cells (x.cells a ca).toArray 29) := ⟨_, rfl⟩
  obtain ⟨bx, hbx⟩ : ∃ q, q = w.heap.size := ⟨_, rfl⟩
  have hB := h.box (ca := ca)
  rw [← hw1, ← hbx] at hB
  clear h
  have q0 := hB.bo.c0
  have q1 := hB.bo.c1
  have HS := hB.pre.sec
  have HPK := hB.pre.pick w1
  rw [hk] at HPK
  have HNS := hid hB.pre.ns
  have HB := hid hB
  have HK := hid hk
  clear hk
  generalize secP A.n x.N = sn at *
  have HA1 := asks_any (18 - 15) sn hB.pre.pf hB.pre.al hB.pre.tb
  have HA2 : Hid (∀ wb V' M' E', PF w0 wb A σ0 (askZ (18 - 15) z) (askZ (18 - 15) z) false V' M' E' → Calls Tryz.prog 39 #[.pointer (some ⟨A.pp, 0, none⟩), .int .i64 5, .int .i64 sn] wb fun e w' => e = .returned (.bool true) ∧ ∃ V2 M2 E2, PF w0 w' A σ0 (askZ 5 (askZ (18 - 15) z)) (askZ 5 (askZ (18 - 15) z)) false V2 M2 E2 ∧ (BkEq V' M' → BkEq V2 M2)) := hid (fun wb V' M' E' hp => asks_any 5 sn hp (askZ_al HB.out.pre.al) (Nat.le_trans askZ_tc HB.out.pre.tb))
  have e1 : (18 : Int) - 15 = 3 := by decide
  rw [e1] at HA1 HA2
  clear e1
  clear hB
  go_enter Tryz.func7, Tryz.ntmps7
  go_upto_region 1 with fail
  rw [← hw1, ← hbx]
  clear hw1 hbx
  go_wp2_with (first
    | (go_at_call 25; go_must (refine HS.mono ?_; rintro e w' ⟨rfl, hw⟩; have hw := hw.symm; subst hw; clear HS))
    | (go_at_call 26; go_must (refine HPK.mono ?_; rintro e w' ⟨rfl, hw⟩; have hw := hw.symm; subst hw))
    | (go_at_call 39; go_must (first
        | (refine HA1.mono ?_; rintro e w2 ⟨rfl, V2, M2, E2, hP2, hq2⟩; have HA3 := HA2.out w2 V2 M2 E2 hP2; have HQ2 := hid (hq2 HB.out.pre.bq); clear HA1 hP2 hq2)
        | (refine HA3.mono ?_; rintro e w3 ⟨rfl, V3, M3, E3, hP3, hq3⟩; have HP3 := hid hP3; have HQ3 := hid (hq3 HQ2.out); clear HA3 hP3 hq3)))
    | fail)
  go_ret
  exact ⟨rfl, _, false, V3, M3, E3, HP3.out, HQ3.out, fun _ => askZ_al (askZ_al HB.out.pre.al), fun e => by (cases e), Nat.le_trans askZ_tc (Nat.le_trans askZ_tc (Nat.le_add_right _ _)), by rw [askZ_d.1, askZ_d.1]; omega⟩
set_option maxRecDepth 100000 in
set_option maxHeartbeats 8000000 in
theorem does_19 (x : SV) (a : Option Addr) (ca : Nat) (h : DPre w0 w A σ0 z V M E x a) (hk : D.pickN x.kind 20 = 19) :
    Calls Tryz.prog 7 #[.pointer (some ⟨A.pp, 0, none⟩), .agg (x.cells a ca).toArray] w fun e w' => e = .returned (.bool true) ∧ DPost w0 w' A σ0 z := by
  obtain ⟨w1, hw1⟩ : ∃ q, q = w.alloc (.cells (x.cells a ca).toArray 29) := ⟨_, rfl⟩
  obtain ⟨bx, hbx⟩ : ∃ q, q = w.heap.size := ⟨_, rfl⟩
  have hB := h.box (ca := ca)
  rw [← hw1, ← hbx] at hB
  clear h
  have q0 := hB.bo.c0
  have q1 := hB.bo.c1
  have HS := hB.pre.sec
  have HPK := hB.pre.pick w1
  rw [hk] at HPK
  have HNS := hid hB.pre.ns
  have HB := hid hB
  have HK := hid hk
  clear hk
  generalize secP A.n x.N = sn at *
  have HA1 := asks_any (19 - 15) sn hB.pre.pf hB.pre.al hB.pre.tb
  have HA2 : Hid (∀ wb V' M' E', PF w0 wb A σ0 (askZ (19 - 15) z) (askZ (19 - 15) z) false V' M' E' → Calls Tryz.prog 39 #[.pointer (some ⟨A.pp, 0, none⟩), .int .i64 5, .int .i64 sn] wb fun e w' => e = .returned (.bool true) ∧ ∃ V2 M2 E2, PF w0 w' A σ0 (askZ 5 (askZ (19 - 15) z)) (askZ 5 (askZ (19 - 15) z)) false V2 M2 E2 ∧ (BkEq V' M' → BkEq V2 M2)) := hid (fun wb V' M' E' hp => asks_any 5 sn hp (askZ_al HB.out.pre.al) (Nat.le_trans askZ_tc HB.out.pre.tb))
  have e1 : (19 : Int) - 15 = 4 := by decide
  rw [e1] at HA1 HA2
  clear e1
  clear hB
  go_enter Tryz.func7, Tryz.ntmps7
  go_upto_region 1 with fail
  rw [← hw1, ← hbx]
  clear hw1 hbx
  go_wp2_with (first
    | (go_at_call 25; go_must (refine HS.mono ?_; rintro e w' ⟨rfl, hw⟩; have hw := hw.symm; subst hw; clear HS))
    | (go_at_call 26; go_must (refine HPK.mono ?_; rintro e w' ⟨rfl, hw⟩; have hw := hw.symm; subst hw))
    | (go_at_call 39; go_must (first
        | (refine HA1.mono ?_; rintro e w2 ⟨rfl, V2, M2, E2, hP2, hq2⟩; have HA3 := HA2.out w2 V2 M2 E2 hP2; have HQ2 := hid (hq2 HB.out.pre.bq); clear HA1 hP2 hq2)
        | (refine HA3.mono ?_; rintro e w3 ⟨rfl, V3, M3, E3, hP3, hq3⟩; have HP3 := hid hP3; have HQ3 := hid (hq3 HQ2.out); clear HA3 hP3 hq3)))
    | fail)
  go_ret
  exact ⟨rfl, _, false, V3, M3, E3, HP3.out, HQ3.out, fun _ => askZ_al (askZ_al HB.out.pre.al), fun e => by (cases e), Nat.le_trans askZ_tc (Nat.le_trans askZ_tc (Nat.le_add_right _ _)), by rw [askZ_d.1, askZ_d.1]; omega⟩
/-- A step of whatever kind. -/
theorem does_any (x : SV) (a : Option Addr) (ca : Nat) (h : DPre w0 w A σ0 z V M E x a) (hrp : RPutOK A z) :
    Calls Tryz.prog 7 #[.pointer (some ⟨A.pp, 0, none⟩), .agg (x.cells a ca).toArray] w fun e w' => e = .returned (.bool true) ∧ DPost w0 w' A σ0 z := by
  have hb := D.pickN_bd x.kind (show (1 : Int) ≤ 20 by decide)
  rcases (show D.pickN x.kind 20 = 0 ∨ D.pickN x.kind 20 = 1 ∨ D.pickN x.kind 20 = 2 ∨ D.pickN x.kind 20 = 3 ∨ D.pickN x.kind 20 = 4 ∨ D.pickN x.kind 20 = 5 ∨ D.pickN x.kind 20 = 6 ∨ D.pickN x.kind 20 = 7 ∨ D.pickN x.kind 20 = 8 ∨ D.pickN x.kind 20 = 9 ∨ D.pickN x.kind 20 = 10 ∨ D.pickN x.kind 20 = 11 ∨ D.pickN x.kind 20 = 12 ∨ D.pickN x.kind 20 = 13 ∨ D.pickN x.kind 20 = 14 ∨ D.pickN x.kind 20 = 15 ∨ D.pickN x.kind 20 = 16 ∨ D.pickN x.kind 20 = 17 ∨ D.pickN x.kind 20 = 18 ∨ D.pickN x.kind 20 = 19 by omega) with e | e | e | e | e | e | e | e | e | e | e | e | e | e | e | e | e | e | e | e
  · exact does_0 x a ca h e hrp
  · exact does_1 x a ca h e hrp
  · exact does_2 x a ca h e hrp
  · exact does_3 x a ca h e hrp
  · exact does_4 x a ca h e hrp
  · exact does_5 x a ca h e hrp
  · exact does_6 x a ca h e
  · exact does_7 x a ca h e
  · exact does_8 x a ca h e
  · exact does_9 x a ca h e
  · exact does_10 x a ca h e
  · exact does_11 x a ca h e
  · exact does_12 x a ca h e
  · exact does_13 x a ca h e
  · exact does_14 x a ca h e
  · exact does_15 x a ca h e
  · exact does_16 x a ca h e
  · exact does_17 x a ca h e
  · exact does_18 x a ca h e
  · exact does_19 x a ca h e
end
end Go.Proofs.YtamoepninddbcaaGreat
