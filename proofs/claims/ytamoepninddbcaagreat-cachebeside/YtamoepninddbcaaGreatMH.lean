/-
  A step, done with both caches.
-/
import Derived.Test.YtamoepninddbcaaGreatMG
namespace Go.Proofs.YtamoepninddbcaaGreat
open Go.RowKit

theorem pr0 {w : World} {A : PA} {lo : Bool} {f : Nat × Nat} (h : w.heap[A.pp]? = some (.cells (PrC A lo) 36 f)) : w.cell? ⟨A.pp, 0, none⟩ = some (.pointer (some ⟨A.p, 0, none⟩)) := by rw [cell_of_row _ _ _ _ _ _ h]; rfl
theorem pr2 {w : World} {A : PA} {lo : Bool} {f : Nat × Nat} (h : w.heap[A.pp]? = some (.cells (PrC A lo) 36 f)) : w.cell? ⟨A.pp, 2, none⟩ = some (.pointer (some ⟨A.rd, 0, none⟩)) := by rw [cell_of_row _ _ _ _ _ _ h]; rfl
theorem pr4 {w : World} {A : PA} {lo : Bool} {f : Nat × Nat} (h : w.heap[A.pp]? = some (.cells (PrC A lo) 36 f)) : w.cell? ⟨A.pp, 4, none⟩ = some (.bool lo) := by rw [cell_of_row _ _ _ _ _ _ h]; rfl
/-- What a step leaves. -/
def DPost (w0 w' : World) (A : PA) (σ0 : Nat → Option PRole) (z : CSt) : Prop := ∃ z' lo' V' M' E', PF w0 w' A σ0 z' z' lo' V' M' E' ∧ BkEq V' M' ∧ (lo' = false → AL z') ∧ (lo' = true → z'.lost = true) ∧ tc z' ≤ tc z + 1 ∧ z'.d.wr ≤ z.d.wr + 5000
theorem PF.dpost {w0 w' : World} {A : PA} {σ0 : Nat → Option PRole} {z : CSt} {r : CSt × Int} {V M E : List Lst} {k : Nat} (hn : NX z k 5000 r) (hk : k ≤ 1) (hq : BkEq V M) (h : PF w0 w' A σ0 r.1 r.1 (decide (r.2 = 22)) V M E) : DPost w0 w' A σ0 z :=
  ⟨r.1, _, V, M, E, h, hq, fun e => hn.al (of_decide_eq_false e), fun e => hn.lo (of_decide_eq_true e), by have := hn.tc; omega, hn.wr⟩
theorem PF.dpost0 {w0 w' : World} {A : PA} {σ0 : Nat → Option PRole} {z : CSt} {r : CSt × Int} {V M E : List Lst} {k : Nat} (hn : NX z k 5000 r) (hk : k ≤ 1) (h22 : r.2 ≠ 22) (hq : BkEq V M) (h : PF w0 w' A σ0 r.1 r.1 false V M E) : DPost w0 w' A σ0 z :=
  ⟨r.1, _, V, M, E, h, hq, fun _ => hn.al h22, fun e => by (cases e), by have := hn.tc; omega, hn.wr⟩
section
variable {w w0 : World} {A : PA} {σ0 : Nat → Option PRole} {z : CSt} {V M E : List Lst}
/-- What is known ahead of a step. -/
structure DPre (w0 w : World) (A : PA) (σ0 : Nat → Option PRole) (z : CSt) (V M E : List Lst) (x : SV) (a : Option Addr) : Prop where
  pf : PF w0 w A σ0 z z false V M E
  ok : x.OK
  at_ : AAt w a x.af
  al : AL z
  tb : TB z
  wr : z.d.wr < 4611686018427380000
  bq : BkEq V M
/-- Behind the box. -/
structure DBox (w0 w1 : World) (A : PA) (σ0 : Nat → Option PRole) (z : CSt) (V M E : List Lst) (x : SV) (a : Option Addr) (ca bx : Nat) : Prop where
  pre : DPre w0 w1 A σ0 z V M E x a
  bo : StepB w1 bx x a ca
  nb : ∃ σ, IsP w1 A σ z z false V M E ∧ (∀ k, OwnP σ k → OwnP σ0 k ∨ w0.heap.size ≤ k) ∧ Chg w0 w1 (OwnP σ0) ∧ ¬ OwnP σ bx
theorem DPre.box {x : SV} {a : Option Addr} {ca : Nat} (h : DPre w0 w A σ0 z V M E x a) : DBox w0 (w.alloc (.cells (x.cells a ca).toArray 29)) A σ0 z V M E x a ca w.heap.size :=
  ⟨⟨h.pf.call (Chg.alloc _ _ _), h.ok, h.at_.call (Chg.alloc _ _ _), h.al, h.tb, h.wr, h.bq⟩, heap_alloc_new _ _, by
    obtain ⟨σ, h1, h2, h3⟩ := h.pf
    exact ⟨σ, h1.call (Chg.alloc _ _ _), h2, h3.trans (Chg.alloc _ _ No) (fun _ _ e => e) (fun _ _ e => e.elim), fun e => by have := h1.lt e; omega⟩⟩
theorem szStep : (Tryz.prog.info? 29).map (·.size) = some 5 := by kernel_rfl
theorem drop_ne {z : CSt} {n : Nat} (ha : AL z) (x : Int) : (DropC n z x).2 ≠ 22 := by
  unfold DropC
  split
  · show (0 : Int) ≠ 22
    decide
  · exact refC_ne ha _
theorem markC_ne {z : CSt} {n : Nat} (ha : AL z) (x t : Int) : (MarkC n z x t).2 ≠ 22 := by
  unfold MarkC
  split
  · show (0 : Int) ≠ 22
    decide
  · exact refC_ne ha _
theorem DPre.pick {x : SV} {a : Option Addr} (h : DPre w0 w A σ0 z V M E x a) (w' : World) : Calls Tryz.prog 26 #[.int .i64 x.kind, .int .i64 20] w' fun e w2 => e = .returned (.int .i64 (D.pickN x.kind 20)) ∧ w2 = w' := D.pick_any x.kind 20 w' h.ok.k (by decide) (by decide)
theorem DPre.sec {x : SV} {a : Option Addr} (h : DPre w0 w A σ0 z V M E x a) : Calls Tryz.prog 25 #[.pointer (some ⟨A.pp, 0, none⟩), .int .i64 x.N] w fun e w' => e = .returned (.int .i64 (secP A.n x.N)) ∧ w' = w := by
  obtain ⟨σ, hI, _, _⟩ := h.pf
  exact sector_any x.N hI h.ok.n
theorem DPre.ns {x : SV} {a : Option Addr} (h : DPre w0 w A σ0 z V M E x a) : I64 (secP A.n x.N) := secP_i64 h.pf.inv.1.top h.ok.n
/-- Marks: both say one thing. -/
theorem rmark_is {n : Nat} (ha : AL z) (x t : Int) : (if okN n x = true then (0 : Int) else 40) = (MarkC n z x t).2 ∧ (if okN n x = true then markC z x t else z) = (MarkC n z x t).1 := by
  unfold MarkC
  by_cases hx : okN n x = true
  · obtain ⟨h0, h1⟩ := okN_iff.1 hx
    have e : refC n z [x] = 0 := by rw [refC_one h0 h1, ha.1]; rfl
    rw [if_pos hx, if_pos hx, if_pos e]
    exact ⟨rfl, rfl⟩
  · have e : refC n z [x] = 40 := refC_bad (k := 0) (by simp) (by simpa using hx)
    rw [if_neg hx, if_neg hx, if_neg (by rw [e]; decide), e]
    exact ⟨rfl, rfl⟩
def armZ (z : CSt) (k : Int) : CSt := ⟨D.armD z.d k, z.E, z.P, z.ld, z.lost⟩
theorem armZ_in {n : Nat} (h : CInv n z) {k : Int} (h0 : 0 ≤ k) (h1 : k ≤ 12) : 0 ≤ (D.armD z.d k).wr ∧ (0 ≤ (D.armD z.d k).lf ∧ (D.armD z.d k).lf ≤ 9223372036854775807) := by
  have := h.w0
  have := h.lf
  unfold D.armD
  rw [if_neg (by omega)]
  split
  · exact ⟨h.w0, h.lf⟩
  · exact ⟨h.w0, by show 0 ≤ k; exact h0, by show k ≤ _; omega⟩
theorem armZ_nx (ha : AL z) {k : Int} : NX z 0 5000 (armZ z k, 0) := by
  have e : (D.armD z.d k).wr = z.d.wr ∧ (D.armD z.d k).dn = z.d.dn := by
    unfold D.armD
    split
    · exact ⟨rfl, rfl⟩
    · split
      · exact ⟨rfl, rfl⟩
      · exact ⟨rfl, rfl⟩
  refine ⟨?_, ?_, fun _ => ⟨ha.1, ?_⟩, fun e => by cases e⟩
  · unfold tc armZ
    simp only
    omega
  · show (D.armD z.d k).wr ≤ _
    rw [e.1]
    omega
  · show (D.armD z.d k).dn = false
    rw [e.2]
    exact ha.2
theorem isC_arm {w' : World} {c p g n : Nat} {ρ : Nat → Option Role} {k : Int} (h : IsC w c p g n ρ z) (hd : D.IsD w' p g n (D.armD z.d k)) (hc : Chg w w' (· = p)) (h0 : 0 ≤ k) (h1 : k ≤ 12) : CPost w w' c p g n ρ (armZ z k) := by
  obtain ⟨gp, mb, go, tv, lv, h⟩ := h
  obtain ⟨q0, q1⟩ := armZ_in h.inv h0 h1
  obtain ⟨p1, p2, p3, p4, p5, p6, p7⟩ := h.parts hc (· = .p) (fun k e r hr => by subst e; rw [h.rp] at hr; cases hr; rfl)
  exact ⟨ρ, ⟨gp, mb, go, tv, lv, ⟨p1 (by simp), hd, p3 (by simp), p4 (by simp), fun x q hx => p5 x q (by simp) hx, p6 (by simp), h.rc, h.rp, h.rg, h.rr, h.rm, h.rt, h.rl, p7, inv_d h.inv q0 q1⟩⟩, fun _ e => .inl e, hc.mono fun j _ e => ⟨.p, by rw [e]; exact h.rp⟩⟩
theorem isRC_arm {w' : World} {r rd n : Nat} {ρ : Nat → Option RRole} {k : Int} {rk rc : Nat} {X : Array Value} {v0 v1 lv : Value} {tv : Int → Value} {W : List (Int × Int)} (h : IsRC0 w r rd rk n rc X v0 v1 lv tv W ρ z) (hd : D.IsQ w' rd rk n rc X (D.armD z.d k)) (hc : Chg w w' (· = rd)) (h0 : 0 ≤ k) (h1 : k ≤ 12) : RPost w w' r rd n ρ (armZ z k) := by
  obtain ⟨q0, q1⟩ := armZ_in h.inv h0 h1
  exact ⟨ρ, ⟨_, _, _, _, _, _, _, _, h.down hd (hc.mono fun _ _ e => .inl e) q0 q1⟩, fun _ e => .inl e, hc.mono fun j _ e => ⟨.dk, by rw [e]; exact h.rd_⟩⟩
theorem IsP.arm {A : PA} {σ : Nat → Option PRole} {zr : CSt} {lo : Bool} {k : Int} (h : IsP w A σ z zr lo V M E) (h0 : 0 ≤ k) (h1 : k ≤ 12) : Calls Tryz.prog 37 #[.pointer (some ⟨A.p, 0, none⟩), .int .i64 k] w fun e w' => e = .returned (.int .i64 (D.armE z.d k)) ∧ PF w w' A σ (armZ z k) zr lo V M E := by
  obtain ⟨ρ, ρ', lv, mv, ev, h⟩ := h
  obtain ⟨gp, mb, go, tv, lv', hc⟩ := h.ca
  refine (D.arm_any k w hc.dk).mono ?_
  rintro e w' ⟨rfl, hd, hm⟩
  exact ⟨rfl, h.progC (isC_arm h.ca hd ((Chg.of_mod hm).mono fun j _ e => by simpa using e) h0 h1)⟩
theorem IsP.rarm {A : PA} {σ : Nat → Option PRole} {zc : CSt} {lo : Bool} {k : Int} (h : IsP w A σ zc z lo V M E) (h0 : 0 ≤ k) (h1 : k ≤ 12) : Calls Tryz.prog 38 #[.pointer (some ⟨A.rd, 0, none⟩), .int .i64 k] w fun e w' => e = .returned (.int .i64 (D.armE z.d k)) ∧ PF w w' A σ zc (armZ z k) lo V M E := by
  obtain ⟨ρ, ρ', lv, mv, ev, h⟩ := h
  obtain ⟨rk, rc, X, v0, v1, lv', tv, W, hr⟩ := h.rc
  refine (D.rarm_any k w hr.dk).mono ?_
  rintro e w' ⟨rfl, hd, hm⟩
  exact ⟨rfl, h.docC (isRC_arm hr hd ((Chg.of_mod hm).mono fun j _ e => by simpa using e) h0 h1)⟩
end
section
variable {w w0 : World} {A : PA} {σ0 : Nat → Option PRole} {z : CSt} {V M E : List Lst}
set_option maxRecDepth 100000 in
set_option maxHeartbeats 8000000 in
theorem does_6 (x : SV) (a : Option Addr) (ca : Nat) (h : DPre w0 w A σ0 z V M E x a) (hk : D.pickN x.kind 20 = 6) :
    Calls Tryz.prog 7 #[.pointer (some ⟨A.pp, 0, none⟩), .agg (x.cells a ca).toArray] w fun e w' => e = .returned (.bool true) ∧ DPost w0 w' A σ0 z := by
  obtain ⟨w1, hw1⟩ : ∃ q, q = w.alloc (.cells (x.cells a ca).toArray 29) := ⟨_, rfl⟩
  obtain ⟨bx, hbx⟩ : ∃ q, q = w.heap.size := ⟨_, rfl⟩
  have hB := h.box (ca := ca)
  rw [← hw1, ← hbx] at hB
  clear h
  have q0 := hB.bo.c0
  have q1 := hB.bo.c1
  have HS := hB.pre.sec
  have HPK := hB.pre.pick w1
  rw [hk] at HPK
  have HNS := hid hB.pre.ns
  have HB := hid hB
  have HK := hid hk
  clear hk
  generalize secP A.n x.N = sn at *
  obtain ⟨PP, hPP⟩ : ∃ q, q = DrainC A.n z sn := ⟨_, rfl⟩
  have HNX : Hid (NX z 0 5000 PP) := hid (by rw [hPP]; exact Drain_nx HB.out.pre.pf.inv.1 HB.out.pre.al sn)
  have k1 : w1.cell? ⟨A.pp, 1, none⟩ = some (.pointer (some ⟨A.c, 0, none⟩)) := hB.pre.pf.cell 1
  have HP := hB.pre.pf.prog (f := 28) (args := #[.pointer (some ⟨A.c, 0, none⟩), .int .i64 sn]) (R := fun e => e = .returned (.int .i64 PP.2)) (z' := PP.1) (fun ρ hc => by rw [hPP]; exact DrainC_any sn hc HB.out.pre.tb HB.out.pre.wr)
  have HD : Hid (∀ wb, PF w0 wb A σ0 PP.1 z false V M E → Calls Tryz.prog 29 #[.pointer (some ⟨A.r, 0, none⟩), .int .i64 sn] wb fun e w' => e = .returned (.int .i64 PP.2) ∧ PF w0 w' A σ0 PP.1 PP.1 false V M E) := hid (fun wb hp => hp.doc (f := 29) (args := #[.pointer (some ⟨A.r, 0, none⟩), .int .i64 sn]) (R := fun e => e = .returned (.int .i64 PP.2)) (z' := PP.1) (fun ρ hc => by rw [hPP]; exact rdrain_any sn wb hc HB.out.pre.al.1 HB.out.pre.tb HB.out.pre.wr))
  have HPPr := hid hPP
  clear hPP
  clear hB
  go_enter Tryz.func7, Tryz.ntmps7
  go_upto_region 1 with fail
  rw [← hw1, ← hbx]
  clear hw1 hbx
  go_wp2_with (first
    | (go_at_call 25; go_must (refine HS.mono ?_; rintro e w' ⟨rfl, hw⟩; have hw := hw.symm; subst hw; clear HS))
    | (go_at_call 26; go_must (refine HPK.mono ?_; rintro e w' ⟨rfl, hw⟩; have hw := hw.symm; subst hw; clear HPK))
    | (go_at_call 28; go_must (refine HP.mono ?_; rintro e w2 ⟨rfl, hP2⟩; have HP2 := hid hP2; have k3 : w2.cell? ⟨A.pp, 3, none⟩ = some (.pointer (some ⟨A.r, 0, none⟩)) := pr3 hP2.me; have HE := HD.out w2 hP2; clear HP hP2))
    | (go_at_call 29; go_must (refine HE.mono ?_; rintro e w3 ⟨rfl, hP3⟩; have HP3 := hid hP3; have k4 : w3.cell? ⟨A.pp, 4, none⟩ = some (.bool false) := pr4 hP3.me; have f4 := frozen_of_row (j := 4) _ _ _ _ hP3.me; clear HE hP3))
    | fail)
  go_ret
  exact ⟨rfl, PF.dpost HNX.out (by decide) HB.out.pre.bq (HP3.out.flag _)⟩
set_option maxRecDepth 100000 in
set_option maxHeartbeats 8000000 in
theorem does_7 (x : SV) (a : Option Addr) (ca : Nat) (h : DPre w0 w A σ0 z V M E x a) (hk : D.pickN x.kind 20 = 7) :
    Calls Tryz.prog 7 #[.pointer (some ⟨A.pp, 0, none⟩), .agg (x.cells a ca).toArray] w fun e w' => e = .returned (.bool true) ∧ DPost w0 w' A σ0 z := by
  obtain ⟨w1, hw1⟩ : ∃ q, q = w.alloc (.cells (x.cells a ca).toArray 29) := ⟨_, rfl⟩
  obtain ⟨bx, hbx⟩ : ∃ q, q = w.heap.size := ⟨_, rfl⟩
  have hB := h.box (ca := ca)
  rw [← hw1, ← hbx] at hB
  clear h
  have q0 := hB.bo.c0
  have q1 := hB.bo.c1
  have HS := hB.pre.sec
  have HPK := hB.pre.pick w1
  rw [hk] at HPK
  have HNS := hid hB.pre.ns
  have HB := hid hB
  have HK := hid hk
  clear hk
  generalize secP A.n x.N = sn at *
  obtain ⟨PP, hPP⟩ : ∃ q, q = DrainC A.n z sn := ⟨_, rfl⟩
  have HNX : Hid (NX z 0 5000 PP) := hid (by rw [hPP]; exact Drain_nx HB.out.pre.pf.inv.1 HB.out.pre.al sn)
  have k1 : w1.cell? ⟨A.pp, 1, none⟩ = some (.pointer (some ⟨A.c, 0, none⟩)) := hB.pre.pf.cell 1
  have HP := hB.pre.pf.prog (f := 28) (args := #[.pointer (some ⟨A.c, 0, none⟩), .int .i64 sn]) (R := fun e => e = .returned (.int .i64 PP.2)) (z' := PP.1) (fun ρ hc => by rw [hPP]; exact DrainC_any sn hc HB.out.pre.tb HB.out.pre.wr)
  have HD : Hid (∀ wb, PF w0 wb A σ0 PP.1 z false V M E → Calls Tryz.prog 29 #[.pointer (some ⟨A.r, 0, none⟩), .int .i64 sn] wb fun e w' => e = .returned (.int .i64 PP.2) ∧ PF w0 w' A σ0 PP.1 PP.1 false V M E) := hid (fun wb hp => hp.doc (f := 29) (args := #[.pointer (some ⟨A.r, 0, none⟩), .int .i64 sn]) (R := fun e => e = .returned (.int .i64 PP.2)) (z' := PP.1) (fun ρ hc => by rw [hPP]; exact rdrain_any sn wb hc HB.out.pre.al.1 HB.out.pre.tb HB.out.pre.wr))
  have HPPr := hid hPP
  clear hPP
  clear hB
  go_enter Tryz.func7, Tryz.ntmps7
  go_upto_region 1 with fail
  rw [← hw1, ← hbx]
  clear hw1 hbx
  go_wp2_with (first
    | (go_at_call 25; go_must (refine HS.mono ?_; rintro e w' ⟨rfl, hw⟩; have hw := hw.symm; subst hw; clear HS))
    | (go_at_call 26; go_must (refine HPK.mono ?_; rintro e w' ⟨rfl, hw⟩; have hw := hw.symm; subst hw; clear HPK))
    | (go_at_call 28; go_must (refine HP.mono ?_; rintro e w2 ⟨rfl, hP2⟩; have HP2 := hid hP2; have k3 : w2.cell? ⟨A.pp, 3, none⟩ = some (.pointer (some ⟨A.r, 0, none⟩)) := pr3 hP2.me; have HE := HD.out w2 hP2; clear HP hP2))
    | (go_at_call 29; go_must (refine HE.mono ?_; rintro e w3 ⟨rfl, hP3⟩; have HP3 := hid hP3; have k4 : w3.cell? ⟨A.pp, 4, none⟩ = some (.bool false) := pr4 hP3.me; have f4 := frozen_of_row (j := 4) _ _ _ _ hP3.me; clear HE hP3))
    | fail)
  go_ret
  exact ⟨rfl, PF.dpost HNX.out (by decide) HB.out.pre.bq (HP3.out.flag _)⟩
set_option maxRecDepth 100000 in
set_option maxHeartbeats 8000000 in
theorem does_8 (x : SV) (a : Option Addr) (ca : Nat) (h : DPre w0 w A σ0 z V M E x a) (hk : D.pickN x.kind 20 = 8) :
    Calls Tryz.prog 7 #[.pointer (some ⟨A.pp, 0, none⟩), .agg (x.cells a ca).toArray] w fun e w' => e = .returned (.bool true) ∧ DPost w0 w' A σ0 z := by
  obtain ⟨w1, hw1⟩ : ∃ q, q = w.alloc (.cells (x.cells a ca).toArray 29) := ⟨_, rfl⟩
  obtain ⟨bx, hbx⟩ : ∃ q, q = w.heap.size := ⟨_, rfl⟩
  have hB := h.box (ca := ca)
  rw [← hw1, ← hbx] at hB
  clear h
  have q0 := hB.bo.c0
  have q1 := hB.bo.c1
  have HS := hB.pre.sec
  have HPK := hB.pre.pick w1
  rw [hk] at HPK
  have HNS := hid hB.pre.ns
  have HB := hid hB
  have HK := hid hk
  clear hk
  generalize secP A.n x.N = sn at *
  obtain ⟨fl, hfl⟩ : ∃ q, q = (flushC A.n z sn).2.1 := ⟨_, rfl⟩
  obtain ⟨PP, hPP⟩ : ∃ q, q = ((flushC A.n z sn).1, (flushC A.n z sn).2.2) := ⟨_, rfl⟩
  have HNX : Hid (NX z 0 5000 PP) := hid (by rw [hPP]; exact flush_nx HB.out.pre.pf.inv.1 HB.out.pre.al sn)
  have k1 : w1.cell? ⟨A.pp, 1, none⟩ = some (.pointer (some ⟨A.c, 0, none⟩)) := hB.pre.pf.cell 1
  have HP := hB.pre.pf.prog (f := 21) (args := #[.pointer (some ⟨A.c, 0, none⟩), .int .i64 sn]) (R := fun e => e = .returned (.tuple #[.bool fl, .int .i64 PP.2])) (z' := PP.1) (fun ρ hc => by rw [hPP, hfl]; exact flushC_any sn hc HNS.out HB.out.pre.tb HB.out.pre.wr)
  have HD : Hid (∀ wb, PF w0 wb A σ0 PP.1 z false V M E → Calls Tryz.prog 30 #[.pointer (some ⟨A.r, 0, none⟩), .int .i64 sn] wb fun e w' => e = .returned (.tuple #[.bool fl, .int .i64 PP.2]) ∧ PF w0 w' A σ0 PP.1 PP.1 false V M E) := hid (fun wb hp => hp.doc (f := 30) (args := #[.pointer (some ⟨A.r, 0, none⟩), .int .i64 sn]) (R := fun e => e = .returned (.tuple #[.bool fl, .int .i64 PP.2])) (z' := PP.1) (fun ρ hc => by rw [hPP, hfl]; exact rflush_any sn wb hc HB.out.pre.al.1 HB.out.pre.tb HB.out.pre.wr))
  have HPPr := hid hPP
  clear hPP hfl
  clear hB
  go_enter Tryz.func7, Tryz.ntmps7
  go_upto_region 1 with fail
  rw [← hw1, ← hbx]
  clear hw1 hbx
  go_wp2_with (first
    | (go_at_call 25; go_must (refine HS.mono ?_; rintro e w' ⟨rfl, hw⟩; have hw := hw.symm; subst hw; clear HS))
    | (go_at_call 26; go_must (refine HPK.mono ?_; rintro e w' ⟨rfl, hw⟩; have hw := hw.symm; subst hw; clear HPK))
    | (go_at_call 21; go_must (refine HP.mono ?_; rintro e w2 ⟨rfl, hP2⟩; have HP2 := hid hP2; have k3 : w2.cell? ⟨A.pp, 3, none⟩ = some (.pointer (some ⟨A.r, 0, none⟩)) := pr3 hP2.me; have HE := HD.out w2 hP2; clear HP hP2))
    | (go_at_call 30; go_must (refine HE.mono ?_; rintro e w3 ⟨rfl, hP3⟩; have HP3 := hid hP3; have k4 : w3.cell? ⟨A.pp, 4, none⟩ = some (.bool false) := pr4 hP3.me; have f4 := frozen_of_row (j := 4) _ _ _ _ hP3.me; clear HE hP3))
    | fail)
  go_ret
  exact ⟨rfl, PF.dpost HNX.out (by decide) HB.out.pre.bq (HP3.out.flag _)⟩
set_option maxRecDepth 100000 in
set_option maxHeartbeats 8000000 in
theorem does_9 (x : SV) (a : Option Addr) (ca : Nat) (h : DPre w0 w A σ0 z V M E x a) (hk : D.pickN x.kind 20 = 9) :
    Calls Tryz.prog 7 #[.pointer (some ⟨A.pp, 0, none⟩), .agg (x.cells a ca).toArray] w fun e w' => e = .returned (.bool true) ∧ DPost w0 w' A σ0 z := by
  obtain ⟨w1, hw1⟩ : ∃ q, q = w.alloc (.cells (x.cells a ca).toArray 29) := ⟨_, rfl⟩
  obtain ⟨bx, hbx⟩ : ∃ q, q = w.heap.size := ⟨_, rfl⟩
  have hB := h.box (ca := ca)
  rw [← hw1, ← hbx] at hB
  clear h
  have q0 := hB.bo.c0
  have q1 := hB.bo.c1
  have HS := hB.pre.sec
  have HPK := hB.pre.pick w1
  rw [hk] at HPK
  have HNS := hid hB.pre.ns
  have HB := hid hB
  have HK := hid hk
  clear hk
  generalize secP A.n x.N = sn at *
  obtain ⟨fl, hfl⟩ : ∃ q, q = (flushC A.n z sn).2.1 := ⟨_, rfl⟩
  obtain ⟨PP, hPP⟩ : ∃ q, q = ((flushC A.n z sn).1, (flushC A.n z sn).2.2) := ⟨_, rfl⟩
  have HNX : Hid (NX z 0 5000 PP) := hid (by rw [hPP]; exact flush_nx HB.out.pre.pf.inv.1 HB.out.pre.al sn)
  have k1 : w1.cell? ⟨A.pp, 1, none⟩ = some (.pointer (some ⟨A.c, 0, none⟩)) := hB.pre.pf.cell 1
  have HP := hB.pre.pf.prog (f := 21) (args := #[.pointer (some ⟨A.c, 0, none⟩), .int .i64 sn]) (R := fun e => e = .returned (.tuple #[.bool fl, .int .i64 PP.2])) (z' := PP.1) (fun ρ hc => by rw [hPP, hfl]; exact flushC_any sn hc HNS.out HB.out.pre.tb HB.out.pre.wr)
  have HD : Hid (∀ wb, PF w0 wb A σ0 PP.1 z false V M E → Calls Tryz.prog 30 #[.pointer (some ⟨A.r, 0, none⟩), .int .i64 sn] wb fun e w' => e = .returned (.tuple #[.bool fl, .int .i64 PP.2]) ∧ PF w0 w' A σ0 PP.1 PP.1 false V M E) := hid (fun wb hp => hp.doc (f := 30) (args := #[.pointer (some ⟨A.r, 0, none⟩), .int .i64 sn]) (R := fun e => e = .returned (.tuple #[.bool fl, .int .i64 PP.2])) (z' := PP.1) (fun ρ hc => by rw [hPP, hfl]; exact rflush_any sn wb hc HB.out.pre.al.1 HB.out.pre.tb HB.out.pre.wr))
  have HPPr := hid hPP
  clear hPP hfl
  clear hB
  go_enter Tryz.func7, Tryz.ntmps7
  go_upto_region 1 with fail
  rw [← hw1, ← hbx]
  clear hw1 hbx
  go_wp2_with (first
    | (go_at_call 25; go_must (refine HS.mono ?_; rintro e w' ⟨rfl, hw⟩; have hw := hw.symm; subst hw; clear HS))
    | (go_at_call 26; go_must (refine HPK.mono ?_; rintro e w' ⟨rfl, hw⟩; have hw := hw.symm; subst hw; clear HPK))
    | (go_at_call 21; go_must (refine HP.mono ?_; rintro e w2 ⟨rfl, hP2⟩; have HP2 := hid hP2; have k3 : w2.cell? ⟨A.pp, 3, none⟩ = some (.pointer (some ⟨A.r, 0, none⟩)) := pr3 hP2.me; have HE := HD.out w2 hP2; clear HP hP2))
    | (go_at_call 30; go_must (refine HE.mono ?_; rintro e w3 ⟨rfl, hP3⟩; have HP3 := hid hP3; have k4 : w3.cell? ⟨A.pp, 4, none⟩ = some (.bool false) := pr4 hP3.me; have f4 := frozen_of_row (j := 4) _ _ _ _ hP3.me; clear HE hP3))
    | fail)
  go_ret
  exact ⟨rfl, PF.dpost HNX.out (by decide) HB.out.pre.bq (HP3.out.flag _)⟩
set_option maxRecDepth 100000 in
set_option maxHeartbeats 8000000 in
theorem does_10 (x : SV) (a : Option Addr) (ca : Nat) (h : DPre w0 w A σ0 z V M E x a) (hk : D.pickN x.kind 20 = 10) :
    Calls Tryz.prog 7 #[.pointer (some ⟨A.pp, 0, none⟩), .agg (x.cells a ca).toArray] w fun e w' => e = .returned (.bool true) ∧ DPost w0 w' A σ0 z := by
  obtain ⟨w1, hw1⟩ : ∃ q, q = w.alloc (.cells (x.cells a ca).toArray 29) := ⟨_, rfl⟩
  obtain ⟨bx, hbx⟩ : ∃ q, q = w.heap.size := ⟨_, rfl⟩
  have hB := h.box (ca := ca)
  rw [← hw1, ← hbx] at hB
  clear h
  have q0 := hB.bo.c0
  have q1 := hB.bo.c1
  have HS := hB.pre.sec
  have HPK := hB.pre.pick w1
  rw [hk] at HPK
  have HNS := hid hB.pre.ns
  have HB := hid hB
  have HK := hid hk
  clear hk
  generalize secP A.n x.N = sn at *
  obtain ⟨PP, hPP⟩ : ∃ q, q = syncC A.n z := ⟨_, rfl⟩
  have HNX : Hid (NX z 0 5000 PP) := hid (by rw [hPP]; exact sync_nx HB.out.pre.pf.inv.1 HB.out.pre.al)
  have k1 : w1.cell? ⟨A.pp, 1, none⟩ = some (.pointer (some ⟨A.c, 0, none⟩)) := hB.pre.pf.cell 1
  have HP := hB.pre.pf.prog (f := 31) (args := #[.pointer (some ⟨A.c, 0, none⟩)]) (R := fun e => e = .returned (.int .i64 PP.2)) (z' := PP.1) (fun ρ hc => by rw [hPP]; exact syncC_any hc HB.out.pre.tb HB.out.pre.wr)
  have HD : Hid (∀ wb, PF w0 wb A σ0 PP.1 z false V M E → Calls Tryz.prog 32 #[.pointer (some ⟨A.r, 0, none⟩)] wb fun e w' => e = .returned (.int .i64 PP.2) ∧ PF w0 w' A σ0 PP.1 PP.1 false V M E) := hid (fun wb hp => hp.doc (f := 32) (args := #[.pointer (some ⟨A.r, 0, none⟩)]) (R := fun e => e = .returned (.int .i64 PP.2)) (z' := PP.1) (fun ρ hc => by rw [hPP]; exact rsync_any wb hc HB.out.pre.tb HB.out.pre.wr))
  have HPPr := hid hPP
  clear hPP
  clear hB
  go_enter Tryz.func7, Tryz.ntmps7
  go_upto_region 1 with fail
  rw [← hw1, ← hbx]
  clear hw1 hbx
  go_wp2_with (first
    | (go_at_call 25; go_must (refine HS.mono ?_; rintro e w' ⟨rfl, hw⟩; have hw := hw.symm; subst hw; clear HS))
    | (go_at_call 26; go_must (refine HPK.mono ?_; rintro e w' ⟨rfl, hw⟩; have hw := hw.symm; subst hw; clear HPK))
    | (go_at_call 31; go_must (refine HP.mono ?_; rintro e w2 ⟨rfl, hP2⟩; have HP2 := hid hP2; have k3 : w2.cell? ⟨A.pp, 3, none⟩ = some (.pointer (some ⟨A.r, 0, none⟩)) := pr3 hP2.me; have HE := HD.out w2 hP2; clear HP hP2))
    | (go_at_call 32; go_must (refine HE.mono ?_; rintro e w3 ⟨rfl, hP3⟩; have HP3 := hid hP3; have k4 : w3.cell? ⟨A.pp, 4, none⟩ = some (.bool false) := pr4 hP3.me; have f4 := frozen_of_row (j := 4) _ _ _ _ hP3.me; clear HE hP3))
    | fail)
  go_ret
  exact ⟨rfl, PF.dpost HNX.out (by decide) HB.out.pre.bq (HP3.out.flag _)⟩
end
end Go.Proofs.YtamoepninddbcaaGreat
