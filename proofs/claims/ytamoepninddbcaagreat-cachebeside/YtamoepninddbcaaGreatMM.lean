/-
  A cache that has lost its disk: nothing is written, whatever is asked.
-/
import Derived.Test.YtamoepninddbcaaGreatMK
namespace Go.Proofs.YtamoepninddbcaaGreat
open Go.RowKit

def SV.z : SV := ⟨0, 0, 0, 0, []⟩
/-- A script that was handed in. -/
def ScAt (w : World) (ad : Option Addr) (l : List SV) : Prop :=
  l = [] ∨ ∃ b o, ad = some ⟨b, o, none⟩ ∧ b < w.heap.size ∧ ∀ j, j < l.length → ∃ a ca, w.rangeAt b (o + j * 5) ((l.getD j SV.z).cells a ca) ∧ AAt w a (l.getD j SV.z).af
theorem ScAt.call {w w' : World} {ad : Option Addr} {l : List SV} (h : ScAt w ad l) (hc : Chg w w' No) : ScAt w' ad l := by
  rcases h with h | ⟨b, o, rfl, hb, h⟩
  · exact .inl h
  · refine .inr ⟨b, o, rfl, Nat.lt_of_lt_of_le hb hc.size, fun j hj => ?_⟩
    obtain ⟨a, ca, h1, h2⟩ := h j hj
    exact ⟨a, ca, fun i v hv => cell_keep (h1 i v hv) hc hb (fun e => e), h2.call hc⟩
theorem sc_at {w : World} {ad : Option Addr} {l : List SV} (h : ScAt w ad l) {i : Nat} (hi : i < l.length) : ∃ b o a ca, ad = some ⟨b, o, none⟩ ∧ (w.cell? ⟨b, o + i * 5 + 1, none⟩ = some (.int .i64 (l.getD i SV.z).N)) ∧ (w.cell? ⟨b, o + i * 5 + 4, none⟩ = some (.slice a (l.getD i SV.z).af.length ca)) ∧ AAt w a (l.getD i SV.z).af ∧ w.rangeAt b (o + i * 5) ((l.getD i SV.z).cells a ca) := by
  rcases h with h | ⟨b, o, rfl, hb, h⟩
  · rw [h] at hi; exact absurd hi (Nat.not_lt_zero _)
  · obtain ⟨a, ca, h1, h2⟩ := h i hi
    exact ⟨b, o, a, ca, rfl, h1 1 _ rfl, h1 4 _ rfl, h2, h1⟩
/-- Nobody's blocks. -/
def N0 : Nat → Option PRole := fun _ => none
theorem PF.no {ws w : World} {A : PA} {zc zr : CSt} {lo : Bool} {V M E : List Lst} (h : PF ws w A N0 zc zr lo V M E) : Chg ws w No := by
  obtain ⟨σ, _, _, h3⟩ := h
  exact h3.mono fun _ _ ⟨_, e⟩ => by cases e

theorem lost_ref {n : Nat} {z : CSt} (h : z.lost = true) (l : List Int) : refC n z l ≠ 0 := by
  unfold refC
  split
  · first | decide | (rw [if_pos h]; decide)
  · decide
theorem lost_put {n : Nat} {z : CSt} (h : z.lost = true) (x : Int) (s l : List Int) : (putC n z x s l).1 = z := by
  unfold putC
  rw [if_neg (lost_ref h _)]
theorem lost_drain {n : Nat} {z : CSt} (h : z.lost = true) (x : Int) : (DrainC n z x).1 = z := by
  unfold DrainC
  rw [if_neg (lost_ref h _)]
theorem lost_drop {n : Nat} {z : CSt} (h : z.lost = true) (x : Int) : (DropC n z x).1 = z := by
  unfold DropC
  rw [if_neg (lost_ref h _)]
theorem lost_flush {n : Nat} {z : CSt} (h : z.lost = true) (x : Int) : (flushC n z x).1 = z := by
  unfold flushC
  rw [if_neg (lost_ref h _)]
theorem lost_mark {n : Nat} {z : CSt} (h : z.lost = true) (x t : Int) : (MarkC n z x t).1 = z := by
  unfold MarkC
  rw [if_neg (lost_ref h _)]
theorem lost_stand {n : Nat} {z : CSt} (h : z.lost = true) (x : Int) : (standC n z x).1 = z := by
  unfold standC
  rw [if_neg (lost_ref h _)]
theorem lost_read {n : Nat} {z : CSt} (h : z.lost = true) (x : Int) : (rdC n z x).1 = z := by
  unfold rdC
  rw [if_neg (lost_ref h _)]
theorem lost_wr {n : Nat} {z : CSt} (h : z.lost = true) (x : Int) : wrC n z x = (z, 22) := by
  unfold wrC
  rw [if_pos h]
theorem lost_all {n : Nat} {z : CSt} (h : z.lost = true) (k : Nat) (l : List Int) : (wAll n k z l).1 = z := by
  cases k with
  | zero => rfl
  | succ k =>
    unfold wAll
    split
    · rfl
    · rw [lost_wr h, if_neg (by show ¬ (22 : Int) = 0; decide)]
theorem lost_sync {n : Nat} {z : CSt} (h : z.lost = true) : (syncC n z).1 = z := lost_all h _ _
/-- The power is back. -/
def resZ (z : CSt) : CSt := ⟨⟨z.d.S, z.d.wr, false, false, 0⟩, z.E, z.P, z.ld, z.lost⟩
section
variable {w w0 : World} {A : PA} {σ σ0 : Nat → Option PRole} {z zc zr : CSt} {lo : Bool} {V M E : List Lst}
theorem IsP.restart (h : IsP w A σ z zr lo V M E) : Calls Tryz.prog 41 #[.pointer (some ⟨A.p, 0, none⟩)] w fun e w' => e = .returned (.tuple #[]) ∧ PF w w' A σ (resZ z) zr lo V M E := by
  obtain ⟨ρ, ρ', lv, mv, ev, h⟩ := h
  obtain ⟨gp, mb, go, tv, lv', hc⟩ := h.ca
  refine (D.restart_any w hc.dk).mono ?_
  rintro e w' ⟨rfl, hd, hm⟩
  have hcg : Chg w w' (· = A.p) := (Chg.of_mod hm).mono fun j _ e => by simpa using e
  obtain ⟨p1, p2, p3, p4, p5, p6, p7⟩ := hc.parts hcg (· = .p) (fun k e r hr => by subst e; rw [hc.rp] at hr; cases hr; rfl)
  refine ⟨rfl, h.progC ⟨ρ, ⟨gp, mb, go, tv, lv', ⟨p1 (by simp), hd, p3 (by simp), p4 (by simp), fun x q hx => p5 x q (by simp) hx, p6 (by simp), hc.rc, hc.rp, hc.rg, hc.rr, hc.rm, hc.rt, hc.rl, p7, inv_d hc.inv hc.inv.w0 ⟨by show (0 : Int) ≤ 0; decide, by show (0 : Int) ≤ _; decide⟩⟩⟩, fun _ e => .inl e, hcg.mono fun j _ e => ⟨.p, by rw [e]; exact hc.rp⟩⟩⟩
/-- What is kept of a cache that has lost its disk. -/
structure Deaf (wI w : World) (A : PA) (σ : Nat → Option PRole) (d : D.St8) (zc zr : CSt) (lo : Bool) (V M E : List Lst) : Prop where
  pf : PF wI w A σ zc zr lo V M E
  lost : zc.lost = true
  d : zc.d = d
  tb : TB zc
  wr : zc.d.wr < 4611686018427380000
variable {wI : World} {d : D.St8}
theorem Deaf.call {w' : World} (h : Deaf wI w A σ d zc zr lo V M E) (hc : Chg w w' No) : Deaf wI w' A σ d zc zr lo V M E := ⟨h.pf.call hc, h.lost, h.d, h.tb, h.wr⟩
theorem Deaf.on {w' : World} (h : Deaf wI w A σ d zc zr lo V M E) (hp : PF wI w' A σ zc zr lo V M E) : Deaf wI w' A σ d zc zr lo V M E := ⟨hp, h.lost, h.d, h.tb, h.wr⟩
theorem Deaf.prog {f : FuncId} {args : Array Value} (h : Deaf wI w A σ d zc zr lo V M E) {z' : CSt} (hz : z' = zc) (hq : ∀ ρ, IsC w A.c A.p A.g A.n ρ zc → Calls Tryz.prog f args w fun e w' => (∃ v, e = .returned v) ∧ CPost w w' A.c A.p A.g A.n ρ z') : Calls Tryz.prog f args w fun e w' => (∃ v, e = .returned v) ∧ Deaf wI w' A σ d zc zr lo V M E := by
  subst hz
  exact (h.pf.prog hq).mono fun _ _ hh => ⟨hh.1, h.on hh.2⟩
theorem Deaf.drain (h : Deaf wI w A σ d zc zr lo V M E) (x : Int) : Calls Tryz.prog 28 #[.pointer (some ⟨A.c, 0, none⟩), .int .i64 x] w fun e w' => (∃ v, e = .returned v) ∧ Deaf wI w' A σ d zc zr lo V M E :=
  h.prog (lost_drain (n := A.n) h.lost x) fun _ hc => (DrainC_any x hc h.tb h.wr).mono fun _ _ hh => ⟨⟨_, hh.1⟩, hh.2⟩
theorem Deaf.flush (h : Deaf wI w A σ d zc zr lo V M E) (x : Int) (hx : I64 x) : Calls Tryz.prog 21 #[.pointer (some ⟨A.c, 0, none⟩), .int .i64 x] w fun e w' => (∃ v, e = .returned v) ∧ Deaf wI w' A σ d zc zr lo V M E :=
  h.prog (lost_flush (n := A.n) h.lost x) fun _ hc => (flushC_any x hc hx h.tb h.wr).mono fun _ _ hh => ⟨⟨_, hh.1⟩, hh.2⟩
theorem Deaf.drop (h : Deaf wI w A σ d zc zr lo V M E) (x : Int) : Calls Tryz.prog 33 #[.pointer (some ⟨A.c, 0, none⟩), .int .i64 x] w fun e w' => (∃ v, e = .returned v) ∧ Deaf wI w' A σ d zc zr lo V M E :=
  h.prog (lost_drop (n := A.n) h.lost x) fun _ hc => (DropC_any x hc).mono fun _ _ hh => ⟨⟨_, hh.1⟩, hh.2⟩
theorem Deaf.mark (h : Deaf wI w A σ d zc zr lo V M E) (x t : Int) : Calls Tryz.prog 35 #[.pointer (some ⟨A.c, 0, none⟩), .int .i64 x, .int .i64 t] w fun e w' => (∃ v, e = .returned v) ∧ Deaf wI w' A σ d zc zr lo V M E :=
  h.prog (lost_mark (n := A.n) h.lost x t) fun _ hc => (mark_anyC x t hc h.tb).mono fun _ _ hh => ⟨⟨_, hh.1⟩, hh.2⟩
theorem Deaf.read (h : Deaf wI w A σ d zc zr lo V M E) (x : Int) : Calls Tryz.prog 46 #[.pointer (some ⟨A.c, 0, none⟩), .int .i64 x] w fun e w' => (∃ v, e = .returned v) ∧ Deaf wI w' A σ d zc zr lo V M E :=
  h.prog (lost_read (n := A.n) h.lost x) fun _ hc => (read_anyC x hc).mono fun _ _ hh => ⟨⟨_, hh.1⟩, hh.2⟩
theorem Deaf.stands (h : Deaf wI w A σ d zc zr lo V M E) (x : Int) : Calls Tryz.prog 23 #[.pointer (some ⟨A.c, 0, none⟩), .int .i64 x] w fun e w' => (∃ v, e = .returned v) ∧ Deaf wI w' A σ d zc zr lo V M E :=
  h.prog (lost_stand (n := A.n) h.lost x) fun _ hc => (standC_any x hc).mono fun _ _ hh => ⟨⟨_, hh.1⟩, hh.2⟩
theorem Deaf.sync (h : Deaf wI w A σ d zc zr lo V M E) : Calls Tryz.prog 31 #[.pointer (some ⟨A.c, 0, none⟩)] w fun e w' => (∃ v, e = .returned v) ∧ Deaf wI w' A σ d zc zr lo V M E :=
  h.prog (lost_sync (n := A.n) h.lost) fun _ hc => (syncC_any hc h.tb h.wr).mono fun _ _ hh => ⟨⟨_, hh.1⟩, hh.2⟩
theorem Deaf.dirty (h : Deaf wI w A σ d zc zr lo V M E) : Calls Tryz.prog 22 #[.pointer (some ⟨A.c, 0, none⟩)] w fun e w' => (∃ v, e = .returned v) ∧ Deaf wI w' A σ d zc zr lo V M E :=
  h.prog rfl fun _ hc => (dirty_any hc).mono fun _ _ ⟨v, h1, _, h3⟩ => ⟨⟨v, h1⟩, CPost.same hc h3⟩
theorem Deaf.eligible (h : Deaf wI w A σ d zc zr lo V M E) : Calls Tryz.prog 47 #[.pointer (some ⟨A.c, 0, none⟩)] w fun e w' => (∃ v, e = .returned v) ∧ Deaf wI w' A σ d zc zr lo V M E :=
  h.prog rfl fun _ hc => (elig_any hc).mono fun _ _ ⟨v, h1, _, h3⟩ => ⟨⟨v, h1⟩, CPost.same hc h3⟩
theorem Deaf.edges (h : Deaf wI w A σ d zc zr lo V M E) : Calls Tryz.prog 24 #[.pointer (some ⟨A.c, 0, none⟩)] w fun e w' => (∃ v, e = .returned v) ∧ Deaf wI w' A σ d zc zr lo V M E :=
  h.prog rfl fun _ hc => (edgesC_any hc).mono fun _ _ ⟨v, _, h1, _, _, h3⟩ => ⟨⟨v, h1⟩, CPost.same hc h3⟩
theorem Deaf.landed (h : Deaf wI w A σ d zc zr lo V M E) : Calls Tryz.prog 45 #[.pointer (some ⟨A.c, 0, none⟩)] w fun e w' => (∃ v, e = .returned v) ∧ Deaf wI w' A σ d (toldC zc) zr lo V M E := by
  obtain ⟨σ1, ⟨ρ, ρ', lv, mv, ev, h0⟩, ho, hc⟩ := h.pf
  refine (landed2_any h0.ca).mono ?_
  rintro e w' ⟨v, ρ2, rfl, _, hd, hi, hs, hc1⟩
  obtain ⟨σ2, h1, _, g1, f1⟩ := h0.loseC (fun k => v.ownBlock = some k) hd hi hs hc1
  exact ⟨⟨v, rfl⟩, ⟨⟨σ2, ⟨_, _, _, _, _, h1⟩, fun k hk => ho k (g1 k hk), chg_step hc f1 (fun j e => ho j e)⟩, h.lost, h.d, Nat.le_trans told_tc h.tb, h.wr⟩⟩
theorem lt_cell {w : World} {b o : Nat} {v : Value} (h : w.cell? ⟨b, o, none⟩ = some v) : b < w.heap.size := by
  rcases Nat.lt_or_ge b w.heap.size with k | k
  · exact k
  · exfalso
    have e : w.heap[b]? = none := Array.getElem?_eq_none k
    simp [World.cell?, e] at h
theorem Deaf.me (h : Deaf wI w A σ d zc zr lo V M E) : w.heap[A.pp]? = some (.cells (PrC A lo) 36 (0, 0)) := h.pf.me
set_option maxRecDepth 100000 in
set_option maxHeartbeats 20000000 in
theorem deaf_any {ws : World} (l : List SV) (ad : Option Addr) (cap f : Nat) (h : PF ws w A N0 z z lo V M E) (hz : z.lost = true) (ht : TB z) (hw : z.d.wr < 4611686018427380000) (hs : ScAt ws ad l) (hl : l.length ≤ 9007199254740992) (hf : f ≤ l.length) (hok : ∀ j, j < l.length → (l.getD j SV.z).OK) :
    Calls Tryz.prog 9 #[.pointer (some ⟨A.pp, 0, none⟩), .slice ad l.length cap, .int .i64 (f : Int)] w fun e w' => e = .returned (.bool true) ∧ Chg ws w' No := by
  obtain ⟨σ0, hI0, ho0, hc0⟩ := h
  have hno : Chg ws w No := (show PF ws w A N0 z z lo V M E from ⟨σ0, hI0, ho0, hc0⟩).no
  have HD := disks_any hI0
  have HI0 := hid hI0
  have HO0 := hid ho0
  have HNo := hid hno
  have HZ := hid hz
  have HT := hid ht
  have HW := hid hw
  have HSc := hid hs
  have HOk := hid hok
  have HNn := hid hI0.inv.1.top
  obtain ⟨m, hm⟩ : ∃ m, m = l.length := ⟨_, rfl⟩
  have HM := hid hm
  rw [← hm] at hl hf
  rw [← hm]
  clear hI0 ho0 hc0 hno hz ht hw hs hok hm
  go_enter Tryz.func9, Tryz.ntmps9
  go_wp2_with (first
    | (go_at_call 10; go_must (refine HD.mono ?_; rintro e w1 ⟨rfl, hc1⟩; have HI1 := hid (HI0.out.call hc1); have HC1 := hid hc1; have k0 : w1.cell? ⟨A.pp, 0, none⟩ = some (.pointer (some ⟨A.p, 0, none⟩)) := pr0 HI1.out.me; have HR := HI1.out.restart; clear HD hc1))
    | (go_at_call 41; go_must (refine HR.mono ?_; rintro e w2 ⟨rfl, σ2, hI2, ho2, hc2⟩; have HI2 := hid hI2; have HO2 := hid ho2; have HC2 := hid hc2; have k02 : w2.cell? ⟨A.pp, 0, none⟩ = some (.pointer (some ⟨A.p, 0, none⟩)) := pr0 HI2.out.me; have HIm := HI2.out.image; clear HR hI2 ho2 hc2))
    | (go_at_call 42; go_must (refine HIm.mono ?_; rintro e w3 ⟨q, rfl, hq0, hq1, hc3⟩; have HQ0 := hid hq0; have HQ1 := hid hq1; have HC3 := hid hc3; have k03 : w3.cell? ⟨A.pp, 0, none⟩ = some (.pointer (some ⟨A.p, 0, none⟩)) := pr0 (HI2.out.call hc3).me; have HWr := (HI2.out.call hc3).writes; clear HIm hq0 hq1 hc3))
    | (go_at_call 43; go_must (refine HWr.mono ?_; rintro e w' ⟨rfl, hw⟩; have hw := hw.symm; subst hw; clear HWr))
    | fail)
  have HDf : Hid (Deaf w3 w3 A σ2 (resZ z).d (resZ z) z lo V M E) := hid ⟨PF.start (HI2.out.call HC3.out), HZ.out, rfl, HT.out, HW.out⟩
  have HNq : Hid (¬ OwnP σ2 q) := hid (fun e => by have := HI2.out.lt e; have := HQ0.out; omega)
  have HB3 : Hid (Chg ws w3 No) := hid (by
    have t1 : Chg ws w2 No := (HNo.out.tr HC1.out).trans HC2.out (fun _ _ e => e) (fun j hj e => by
      rcases HO0.out j e with ⟨_, e⟩ | e
      · cases e
      · omega)
    exact t1.tr HC3.out)
  have HOs : Hid (∀ k, OwnP σ2 k → ws.heap.size ≤ k) := hid (fun k hk => by
    rcases HO2.out k hk with e | e
    · rcases HO0.out k e with ⟨_, e⟩ | e
      · cases e
      · exact e
    · have := HNo.out.size
      have := HC1.out.size
      omega)
  have HWs : Hid (∀ W zc V M E, Deaf w3 W A σ2 (resZ z).d zc z lo V M E → Chg ws W No) := hid (fun W zc V M E hD => by
    obtain ⟨σ5, _, _, h5⟩ := hD.pf
    exact HB3.out.trans h5 (fun _ _ e => e) (fun j hj e => by have := HOs.out j e; omega))
  obtain ⟨dd, hdd⟩ : ∃ q, q = (resZ z).d := ⟨_, rfl⟩
  have HDD := hid hdd
  rw [← hdd] at HDf HWs ⊢
  clear k0 k02 k03 hdd
  go_loopw [9, 10] (fun x9 _ wr => ∃ (i : Nat) (zc : CSt), x9 = .int .i64 (i : Int) ∧ f ≤ i ∧ i ≤ m ∧ Hid (Deaf w3 wr A σ2 dd zc z lo V M E)) (fun x9 _ _ => m - (intOf x9).toNat)
  case atStart => exact ⟨f, resZ z, rfl, Nat.le_refl _, hf, HDf⟩
  case round =>
    obtain ⟨i, zc, rfl, hfi, him, HA⟩ := hrel
    have i0 : (0 : Int) ≤ (i : Int) := by omega
    have f0 : (0 : Int) ≤ (f : Int) := by omega
    have fb : (f : Int) ≤ 9007199254740992 := by omega
    by_cases hlt : i < m ∧ i < f + 20
    · obtain ⟨h1, h2⟩ := hlt
      have j1 : (i : Int) < (m : Int) := by omega
      have j2 : (i : Int) < (f : Int) + 20 := by omega
      have hil : i < l.length := by rw [← HM.out]; exact h1
      have hnw := HWs.out wr zc V M E HA.out
      obtain ⟨b, o, a, ca, hab, q1, q4, hAt, _⟩ := sc_at (HSc.out.call hnw) hil
      have hOk := HOk.out i hil
      have HBs : Hid (b < ws.heap.size) := hid (by
        obtain ⟨b', o', a', ca', e1, r1, _⟩ := sc_at HSc.out hil
        rw [hab] at e1
        have e2 := (Addr.mk.inj (Option.some.inj e1)).1
        rw [e2]
        exact lt_cell r1)
      have HAt := hid hAt
      have HAl := hid hOk.a
      have HAn := hid hOk.l
      have HNi := hid hOk.n
      have HB4 : Hid (b < wr.heap.size) := hid (lt_cell q4)
      have HQ4 := hid q4
      obtain ⟨af, haf⟩ : ∃ q, q = (l.getD i SV.z).af := ⟨_, rfl⟩
      obtain ⟨an, han⟩ : ∃ q, q = af.length := ⟨_, rfl⟩
      have HAf := hid han
      rw [← haf] at HAt HAl HAn HQ4 q4
      rw [← han] at HAn HQ4 q4
      obtain ⟨nx, hnx⟩ : ∃ q, q = (l.getD i SV.z).N := ⟨_, rfl⟩
      rw [← hnx] at q1 HNi
      subst hab
      obtain ⟨σ5, hI5, ho5, hc5⟩ := HA.out.pf
      have HI5 := hid hI5
      have HO5 := hid ho5
      have HC5 := hid hc5
      have hS := sector_any nx hI5 HNi.out
      have HSn : Hid (I64 (secP A.n nx)) := hid (secP_i64 HNn.out HNi.out)
      generalize secP A.n nx = sn at *
      clear hAt hOk hI5 ho5 hc5 haf han hnx hnw
      go_upto_region 10 with (first
        | (go_at_call 25; go_must (refine hS.mono ?_; rintro e w' ⟨rfl, hw⟩; have hw := hw.symm; subst hw; clear hS))
        | fail)
      clear q1 q4
      obtain ⟨bt, hbt⟩ : ∃ q, q = IntKind.u8.wrap (i : Int) := ⟨_, rfl⟩
      refine wp_region_noPanic ?_
      refine wp_region_held_drew (S := fun W => W.heap[A.pp]? = some (.cells (PrC A lo) 36 (0, 0)) ∧ W.cell? ⟨b, o + i * 5 + 4, none⟩ = some (.slice a an ca)) (by as_aux_lemma => kernel_rfl) ⟨HA.out.me, HQ4.out⟩ (fun hHeld => ?_)
      obtain ⟨wD, hwD⟩ : ∃ q, q = wr.drew := ⟨_, rfl⟩
      have HXD : Hid (Chg wr wD No) := hid (by rw [hwD]; exact (Chg.refl wr No).drew)
      rw [← hwD] at hHeld ⊢
      clear hwD
      refine takeVal 0 49 (.pointer (some ⟨A.pp, 0, none⟩)) rfl (by as_aux_lemma => kernel_rfl) (by as_aux_lemma => kernel_rfl) (by as_aux_lemma => kernel_rfl) rfl (by rfl) (fun _ _ _ h => h) hHeld (fun _ hw' => rfl) ?_
      simp only [List.setIfInBounds_toArray, List.set_cons_zero, List.set_cons_succ]
      refine takeVal 1 50 (.pointer (some ⟨A.pp, 0, none⟩)) rfl (by as_aux_lemma => kernel_rfl) (by as_aux_lemma => kernel_rfl) (by as_aux_lemma => kernel_rfl) rfl (by rfl) (fun _ _ _ h => h) hHeld (fun _ hw' => by go_simp) ?_
      simp only [List.setIfInBounds_toArray, List.set_cons_zero, List.set_cons_succ]
      refine takeVal 2 51 (.pointer (some ⟨A.pp, 1, none⟩)) rfl (by as_aux_lemma => kernel_rfl) (by as_aux_lemma => kernel_rfl) (by as_aux_lemma => kernel_rfl) rfl (by rfl) (fun _ _ _ h => h) hHeld (fun _ hw' => by go_simp) ?_
      simp only [List.setIfInBounds_toArray, List.set_cons_zero, List.set_cons_succ]
      refine takeVal 3 52 (.pointer (some ⟨A.c, 0, none⟩)) rfl (by as_aux_lemma => kernel_rfl) (by as_aux_lemma => kernel_rfl) (by as_aux_lemma => kernel_rfl) rfl (by rfl) (fun _ _ _ h => h) hHeld (fun _ hw' => by have hc := pr1 hw'.1; go_simp) ?_
      simp only [List.setIfInBounds_toArray, List.set_cons_zero, List.set_cons_succ]
      refine takeVal 4 53 (.int .i64 sn) rfl (by as_aux_lemma => kernel_rfl) (by as_aux_lemma => kernel_rfl) (by as_aux_lemma => kernel_rfl) rfl (by rfl) (fun _ _ _ h => h) hHeld (fun _ hw' => rfl) ?_
      simp only [List.setIfInBounds_toArray, List.set_cons_zero, List.set_cons_succ]
      refine takeVal 5 54 (.int .i64 (i : Int)) rfl (by as_aux_lemma => kernel_rfl) (by as_aux_lemma => kernel_rfl) (by as_aux_lemma => kernel_rfl) rfl (by rfl) (fun _ _ _ h => h) hHeld (fun _ hw' => rfl) ?_
      simp only [List.setIfInBounds_toArray, List.set_cons_zero, List.set_cons_succ]
      refine takeVal 6 55 (.int .u8 bt) rfl (by as_aux_lemma => kernel_rfl) (by as_aux_lemma => kernel_rfl) (by as_aux_lemma => kernel_rfl) rfl (by rfl) (fun _ _ _ h => h) hHeld (fun _ hw' => by rw [hbt]; go_simp) ?_
      simp only [List.setIfInBounds_toArray, List.set_cons_zero, List.set_cons_succ]
      refine takeVal 8 57 (.pointer (some ⟨A.pp, 0, none⟩)) rfl (by as_aux_lemma => kernel_rfl) (by as_aux_lemma => kernel_rfl) (by as_aux_lemma => kernel_rfl) rfl (by rfl) (fun _ _ _ h => h) hHeld (fun _ hw' => rfl) ?_
      simp only [List.setIfInBounds_toArray, List.set_cons_zero, List.set_cons_succ]
      refine takeVal 9 58 (.slice (some ⟨b, o, none⟩) m cap) rfl (by as_aux_lemma => kernel_rfl) (by as_aux_lemma => kernel_rfl) (by as_aux_lemma => kernel_rfl) rfl (by rfl) (fun _ _ _ h => h) hHeld (fun _ hw' => rfl) ?_
      simp only [List.setIfInBounds_toArray, List.set_cons_zero, List.set_cons_succ]
      refine takeVal 10 59 (.int .i64 (i : Int)) rfl (by as_aux_lemma => kernel_rfl) (by as_aux_lemma => kernel_rfl) (by as_aux_lemma => kernel_rfl) rfl (by rfl) (fun _ _ _ h => h) hHeld (fun _ hw' => rfl) ?_
      simp only [List.setIfInBounds_toArray, List.set_cons_zero, List.set_cons_succ]
      refine takeVal 11 60 (.pointer (some ⟨b, o + i * 5, none⟩)) rfl (by as_aux_lemma => kernel_rfl) (by as_aux_lemma => kernel_rfl) (by as_aux_lemma => kernel_rfl) rfl (by rfl) (fun _ _ _ h => h) hHeld (fun _ hw' => by go_simp) ?_
      simp only [List.setIfInBounds_toArray, List.set_cons_zero, List.set_cons_succ]
      refine takeVal 12 61 (.pointer (some ⟨b, o + i * 5 + 4, none⟩)) rfl (by as_aux_lemma => kernel_rfl) (by as_aux_lemma => kernel_rfl) (by as_aux_lemma => kernel_rfl) rfl (by rfl) (fun _ _ _ h => h) hHeld (fun _ hw' => by go_simp) ?_
      simp only [List.setIfInBounds_toArray, List.set_cons_zero, List.set_cons_succ]
      refine takeVal 13 62 (.slice a an ca) rfl (by as_aux_lemma => kernel_rfl) (by as_aux_lemma => kernel_rfl) (by as_aux_lemma => kernel_rfl) rfl (by rfl) (fun _ _ _ h => h) hHeld (fun _ hw' => by have hc := hw'.2; go_simp) ?_
      simp only [List.setIfInBounds_toArray, List.set_cons_zero, List.set_cons_succ]
      refine step1 7 (by as_aux_lemma => kernel_rfl) ?_
      refine stCall 7 56 15 #[.int .u8 bt] _ rfl rfl (by rfl) (by go_simp) (full_any bt _) ?_
      rintro e w7 ⟨rfl, hc7⟩
      have HX7 : Hid (Chg wr w7 No) := hid (HXD.out.tr hc7)
      have hHeld : w7.heap[A.pp]? = some (.cells (PrC A lo) 36 (0, 0)) ∧ w7.cell? ⟨b, o + i * 5 + 4, none⟩ = some (.slice a an ca) := ⟨HX7.out.keep HA.out.me (fun e => e), cell_keep HQ4.out HX7.out HB4.out (fun e => e)⟩
      refine ⟨_, rfl, hHeld, ?_⟩
      simp only [List.setIfInBounds_toArray, List.set_cons_zero, List.set_cons_succ]
      have HAF := after_any af a ca (HI5.out.call HX7.out) (HAt.out.call HX7.out) (by have := HAn.out; have := HAf.out; omega) HAl.out
      rw [← HAf.out] at HAF
      refine step1 14 (by as_aux_lemma => kernel_rfl) ?_
      refine stCall 14 63 44 #[.pointer (some ⟨A.pp, 0, none⟩), .slice a an ca] _ rfl rfl (by rfl) (by go_simp) HAF ?_
      rintro e w8 ⟨v8, rfl, hv8, hc8⟩
      have HX8 : Hid (Chg wr w8 No) := hid (HX7.out.tr hc8)
      have hHeld : w8.heap[A.pp]? = some (.cells (PrC A lo) 36 (0, 0)) ∧ w8.cell? ⟨b, o + i * 5 + 4, none⟩ = some (.slice a an ca) := ⟨HX8.out.keep HA.out.me (fun e => e), cell_keep HQ4.out HX8.out HB4.out (fun e => e)⟩
      refine ⟨_, rfl, hHeld, ?_⟩
      simp only [List.setIfInBounds_toArray, List.set_cons_zero, List.set_cons_succ]
      obtain ⟨a8, c8, hw8, hl8, hg8⟩ := hv8.lat
      subst hw8
      obtain ⟨ρ, ρ', lv, mv, ev, h08⟩ := HI5.out.call HX8.out
      have hz8 : ∀ g, a8 = some ⟨g, 0, none⟩ → g < w8.heap.size ∧ ¬ Own ρ g := fun g e => ⟨(row_ge hv8 (hv8.nilcap.2 _ e).2).2, fun ho => by
        have h1 := HI5.out.lt (k := g) ⟨_, h08.sc g ho⟩
        have h2 := hg8 g e
        have h3 := HX7.out.size
        omega⟩
      have HP := put_any sn (fullS bt) (af.map (secP A.n)) a8 c8 h08.ca (fullS_len _) HSn.out hl8 hv8.nilcap.1 hz8 (by have := HAn.out; have := HAf.out; rw [List.length_map]; omega) (fun k hk => by rw [List.length_map] at hk; rw [getD_map0 hk]; exact secP_i64 HNn.out (HAl.out k hk)) HA.out.tb HA.out.wr
      refine step1 15 (by as_aux_lemma => kernel_rfl) ?_
      refine stCall 15 64 20 #[.pointer (some ⟨A.c, 0, none⟩), .int .i64 sn, .agg (D.SA (fullS bt)), .slice a8 (af.map (secP A.n)).length c8] _ rfl rfl (by rfl) (by go_simp) HP ?_
      rintro e w9 ⟨rfl, hP⟩
      rw [lost_put HA.out.lost] at hP
      have h9 := h08.progC hP
      have HD9 : Hid (Deaf w3 w9 A σ2 dd zc z lo V M E) := hid (HA.out.on (PF.and HO5.out (HC5.out.trans HX8.out (fun _ _ e => e) (fun _ _ e => e.elim)) h9))
      have hHeld : w9.heap[A.pp]? = some (.cells (PrC A lo) 36 (0, 0)) ∧ w9.cell? ⟨b, o + i * 5 + 4, none⟩ = some (.slice a an ca) := ⟨HD9.out.me, by
        obtain ⟨σ9, _, _, hc9⟩ := h9
        exact cell_keep hHeld.2 hc9 (by have := HB4.out; have := HX8.out.size; omega) (fun e => by
          have h1 := HBs.out
          rcases HO5.out b e with e | e
          · have := HOs.out b e; omega
          · have := HB3.out.size; omega)⟩
      refine ⟨_, rfl, hHeld, ?_⟩
      simp only [List.setIfInBounds_toArray, List.set_cons_zero, List.set_cons_succ]
      refine wpAnyH_done (by as_aux_lemma => kernel_rfl) ?_ _
      refine NoPanic.normal ?_
      clear hHeld hP h9 HP h08 hz8 hv8 hl8 hg8 HAF hc7 hc8 hbt ρ ρ' lv mv ev
      have HSn' := HSn
      have k1 : w9.cell? ⟨A.pp, 1, none⟩ = some (.pointer (some ⟨A.c, 0, none⟩)) := pr1 HD9.out.me
      have G1 := HD9.out.drain sn
      go_wp2_with (first
        | (go_at_call 28; go_must (refine G1.mono ?_; rintro e wG1 ⟨⟨vG1, rfl⟩, hG1⟩; have HG1 := hid hG1; have kG1 : wG1.cell? ⟨A.pp, 1, none⟩ = some (.pointer (some ⟨A.c, 0, none⟩)) := pr1 hG1.me; have G2 := hG1.flush sn HSn.out; clear G1 hG1))
        | (go_at_call 21; go_must (refine G2.mono ?_; rintro e wG2 ⟨⟨vG2, rfl⟩, hG2⟩; have HG2 := hid hG2; have kG2 : wG2.cell? ⟨A.pp, 1, none⟩ = some (.pointer (some ⟨A.c, 0, none⟩)) := pr1 hG2.me; have G3 := hG2.drop sn; clear G2 hG2))
        | (go_at_call 33; go_must (refine G3.mono ?_; rintro e wG3 ⟨⟨vG3, rfl⟩, hG3⟩; have HG3 := hid hG3; have kG3 : wG3.cell? ⟨A.pp, 1, none⟩ = some (.pointer (some ⟨A.c, 0, none⟩)) := pr1 hG3.me; have G4 := hG3.mark sn (i : Int); clear G3 hG3))
        | (go_at_call 35; go_must (refine G4.mono ?_; rintro e wG4 ⟨⟨vG4, rfl⟩, hG4⟩; have HG4 := hid hG4; have kG4 : wG4.cell? ⟨A.pp, 1, none⟩ = some (.pointer (some ⟨A.c, 0, none⟩)) := pr1 hG4.me; have G5 := hG4.landed; clear G4 hG4))
        | (go_at_call 45; go_must (refine G5.mono ?_; rintro e wG5 ⟨⟨vG5, rfl⟩, hG5⟩; have HG5 := hid hG5; have kG5 : wG5.cell? ⟨A.pp, 1, none⟩ = some (.pointer (some ⟨A.c, 0, none⟩)) := pr1 hG5.me; have G6 := hG5.read sn; clear G5 hG5))
        | (go_at_call 46; go_must (refine G6.mono ?_; rintro e wG6 ⟨⟨vG6, rfl⟩, hG6⟩; have HG6 := hid hG6; have kG6 : wG6.cell? ⟨A.pp, 1, none⟩ = some (.pointer (some ⟨A.c, 0, none⟩)) := pr1 hG6.me; have G7 := hG6.stands sn; clear G6 hG6))
        | (go_at_call 23; go_must (refine G7.mono ?_; rintro e wG7 ⟨⟨vG7, rfl⟩, hG7⟩; have HG7 := hid hG7; have kG7 : wG7.cell? ⟨A.pp, 1, none⟩ = some (.pointer (some ⟨A.c, 0, none⟩)) := pr1 hG7.me; have G8 := hG7.dirty; clear G7 hG7))
        | (go_at_call 22; go_must (refine G8.mono ?_; rintro e wG8 ⟨⟨vG8, rfl⟩, hG8⟩; have HG8 := hid hG8; have kG8 : wG8.cell? ⟨A.pp, 1, none⟩ = some (.pointer (some ⟨A.c, 0, none⟩)) := pr1 hG8.me; have G9 := hG8.eligible; clear G8 hG8))
        | (go_at_call 47; go_must (refine G9.mono ?_; rintro e wG9 ⟨⟨vG9, rfl⟩, hG9⟩; have HG9 := hid hG9; have kG9 : wG9.cell? ⟨A.pp, 1, none⟩ = some (.pointer (some ⟨A.c, 0, none⟩)) := pr1 hG9.me; have G10 := hG9.edges; clear G9 hG9))
        | (go_at_call 24; go_must (refine G10.mono ?_; rintro e wG10 ⟨⟨vG10, rfl⟩, hG10⟩; have HG10 := hid hG10; clear G10 hG10))
        | fail)
      exact ⟨⟨i + 1, toldC zc, by go_num, by omega, by omega, HG10⟩, by simp [intOf]; omega⟩
    · have hcs : ¬ i < m ∨ (i < m ∧ ¬ i < f + 20) := by omega
      have k1 : wr.cell? ⟨A.pp, 1, none⟩ = some (.pointer (some ⟨A.c, 0, none⟩)) := pr1 HA.out.me
      have G1 := HA.out.sync
      have HQD : Hid (∀ W, Deaf w3 W A σ2 dd zc z lo V M E → W.heap[q]? = some (.cells (D.SA dd.S) 47 (0, 0))) := hid (fun W hD => by
        have h9 := hD.pf.kept HNq.out HQ1.out
        rw [HDD.out]
        exact h9)
      clear hlt
      rcases hcs with h1 | ⟨h1, h2⟩
      · have j1 : ¬ (i : Int) < (m : Int) := by omega
        go_wp2_with (first
          | (go_at_call 31; go_must (refine G1.mono ?_; rintro e w5 ⟨⟨v5, rfl⟩, hD5⟩; have HD5 := hid hD5; obtain ⟨σ6, hI6, ho6, hc6⟩ := hD5.pf; have k05 : w5.cell? ⟨A.pp, 0, none⟩ = some (.pointer (some ⟨A.p, 0, none⟩)) := pr0 hI6.me; have HW6 := hI6.writes; have HIm := hI6.image; have HSl := hid hI6.slen; rw [hD5.d] at HW6 HIm HSl; clear G1 hD5 hI6 ho6 hc6))
          | (go_at_call 43; go_must (refine HW6.mono ?_; rintro e w' ⟨rfl, hw⟩; have hw := hw.symm; subst hw; clear HW6))
          | (go_at_call 42; go_must (refine HIm.mono ?_; rintro e w6 ⟨q2, rfl, _, hq2, hc6⟩; have HC6 := hid hc6; have HSm := D.same_any dd.S A.n (some ⟨q2, 0, none⟩) (some ⟨q, 0, none⟩) A.n A.n w6 HSl.out.1 (by have := HSl.out.2; omega) (D.row_bytes hq2) (D.row_bytes (hc6.keep (HQD.out w5 HD5.out) (fun e => e))); clear HIm hq2 hc6))
          | (go_at_call 48; go_must (refine HSm.mono ?_; rintro e w7 ⟨rfl, nn, hn7⟩; have HC7 : Hid (Chg w6 w7 No) := hid (by rw [hn7]; exact chg_drewN _ _); clear HSm hn7))
          | fail)
        go_ret
        exact ⟨rfl, (HWs.out w5 zc V M E HD5.out).tr (HC6.out.tr HC7.out)⟩
      · have j1 : (i : Int) < (m : Int) := by omega
        have j2 : ¬ (i : Int) < (f : Int) + 20 := by omega
        go_wp2_with (first
          | (go_at_call 31; go_must (refine G1.mono ?_; rintro e w5 ⟨⟨v5, rfl⟩, hD5⟩; have HD5 := hid hD5; obtain ⟨σ6, hI6, ho6, hc6⟩ := hD5.pf; have k05 : w5.cell? ⟨A.pp, 0, none⟩ = some (.pointer (some ⟨A.p, 0, none⟩)) := pr0 hI6.me; have HW6 := hI6.writes; have HIm := hI6.image; have HSl := hid hI6.slen; rw [hD5.d] at HW6 HIm HSl; clear G1 hD5 hI6 ho6 hc6))
          | (go_at_call 43; go_must (refine HW6.mono ?_; rintro e w' ⟨rfl, hw⟩; have hw := hw.symm; subst hw; clear HW6))
          | (go_at_call 42; go_must (refine HIm.mono ?_; rintro e w6 ⟨q2, rfl, _, hq2, hc6⟩; have HC6 := hid hc6; have HSm := D.same_any dd.S A.n (some ⟨q2, 0, none⟩) (some ⟨q, 0, none⟩) A.n A.n w6 HSl.out.1 (by have := HSl.out.2; omega) (D.row_bytes hq2) (D.row_bytes (hc6.keep (HQD.out w5 HD5.out) (fun e => e))); clear HIm hq2 hc6))
          | (go_at_call 48; go_must (refine HSm.mono ?_; rintro e w7 ⟨rfl, nn, hn7⟩; have HC7 : Hid (Chg w6 w7 No) := hid (by rw [hn7]; exact chg_drewN _ _); clear HSm hn7))
          | fail)
        go_ret
        exact ⟨rfl, (HWs.out w5 zc V M E HD5.out).tr (HC6.out.tr HC7.out)⟩
end
end Go.Proofs.YtamoepninddbcaaGreat
