/-
  The document's space in memory, and its calls.
-/
import Derived.Test.YtdddcllakjeplaaUG
namespace Go.Proofs.Ytdddcllakjeplaa
open Go.RowKit

theorem inode_least' {s : SS} (h : s.Ok) {y : Int} {bb : Bool} (hF : FirstIs s.I 1 y bb) : ∃ E : Nat, 2 ≤ E ∧ E ≤ s.ni + 1 ∧ (∀ j : Nat, 2 ≤ j → j < E → hasL s.I j = true) ∧ (bb = true → y = (E : Int) ∧ E ≤ s.ni ∧ hasL s.I E = false) ∧ (bb = false → y = 0 ∧ E = s.ni + 1) := by
  have hi := h.i1
  cases bb
  · obtain ⟨e1, e2⟩ := hF.no rfl
    rw [h.lI] at e2
    exact ⟨s.ni + 1, by omega, by omega, fun j h1 h2 => e2 j (by omega) (by omega) (by omega), fun e => (by cases e), fun _ => ⟨e1, rfl⟩⟩
  · obtain ⟨e1, e2, e3, e4, e5⟩ := hF.yes rfl
    rw [h.lI] at e3
    obtain ⟨Y, rfl⟩ := Int.eq_ofNat_of_zero_le e2
    have hY : Y ≠ 1 := fun e => by rw [e] at e4; have := h.I1; rw [show ((1 : Nat) : Int) = 1 from rfl, this] at e4; cases e4
    exact ⟨Y, by omega, by omega, fun j h1 h2 => e5 j (by omega) (by omega) (by omega), fun _ => ⟨rfl, by omega, e4⟩, fun e => (by cases e)⟩
/-- The document's space lies at p: how each sector stands at gT, each inode at gI. -/
structure IsQ0 (w : World) (lo hi p gT gI : Nat) (s : SS) : Prop where
  me : w.heap[p]? = some (.cells #[.int .i64 (s.ns : Int), .int .i64 (s.ni : Int), .slice (some ⟨gT, 0, none⟩) s.ns s.ns, .slice (some ⟨gI, 0, none⟩) (s.ni + 1) (s.ni + 1)] 65 (0, 0))
  rT : w.heap[gT]? = some (.cells (IA s.T) 3 (0, 0))
  rI : w.heap[gI]? = some (.cells (IA (tOf s.I)) 3 (0, 0))
  ok : s.Ok
  rp : Rg lo hi p
  rgT : Rg lo hi gT
  rgI : Rg lo hi gI
  top : hi ≤ w.heap.size
  ap : p ≠ gT ∧ p ≠ gI ∧ gT ≠ gI
def IsQ (w : World) (lo hi p : Nat) (s : SS) : Prop := ∃ gT gI, IsQ0 w lo hi p gT gI s

variable {w : World} {lo hi p gT gI : Nat} {s : SS}
theorem IsQ0.keep {w' : World} {ks : Nat → Prop} (h : IsQ0 w lo hi p gT gI s) (hc : Chg w w' ks) (hk : ∀ k, Rg lo hi k → ¬ ks k) : IsQ0 w' lo hi p gT gI s :=
  ⟨hc.keep h.me (hk _ h.rp), hc.keep h.rT (hk _ h.rgT), hc.keep h.rI (hk _ h.rgI), h.ok, h.rp, h.rgT, h.rgI, Nat.le_trans h.top hc.size, h.ap⟩
theorem IsQ.keep {w' : World} {ks : Nat → Prop} (h : IsQ w lo hi p s) (hc : Chg w w' ks) (hk : ∀ k, Rg lo hi k → ¬ ks k) : IsQ w' lo hi p s := let ⟨a, b, h⟩ := h; ⟨a, b, h.keep hc hk⟩
theorem IsQ.call {w' : World} (h : IsQ w lo hi p s) (hb : Below w.heap.size w w') : IsQ w' lo hi p s := h.keep (Chg.of_below hb No) (fun _ _ e => e)
theorem IsQ0.drewN (h : IsQ0 w lo hi p gT gI s) (n : Nat) : IsQ0 (w.drewN n) lo hi p gT gI s := ⟨h.me, h.rT, h.rI, h.ok, h.rp, h.rgT, h.rgI, h.top, h.ap⟩
theorem IsQ.drewN (h : IsQ w lo hi p s) (n : Nat) : IsQ (w.drewN n) lo hi p s := let ⟨a, b, h⟩ := h; ⟨a, b, h.drewN n⟩
theorem IsQ.ok (h : IsQ w lo hi p s) : s.Ok := let ⟨_, _, h⟩ := h; h.ok
theorem IsQ.rp (h : IsQ w lo hi p s) : Rg lo hi p := let ⟨_, _, h⟩ := h; h.rp
theorem IsQ.top (h : IsQ w lo hi p s) : hi ≤ w.heap.size := let ⟨_, _, h⟩ := h; h.top
theorem IsQ0.c0 (h : IsQ0 w lo hi p gT gI s) : w.cell? ⟨p, 0, none⟩ = some (.int .i64 (s.ns : Int)) := (cell_of_row _ _ _ _ _ _ h.me).trans rfl
theorem IsQ0.c1 (h : IsQ0 w lo hi p gT gI s) : w.cell? ⟨p, 1, none⟩ = some (.int .i64 (s.ni : Int)) := (cell_of_row _ _ _ _ _ _ h.me).trans rfl
theorem IsQ0.c2 (h : IsQ0 w lo hi p gT gI s) : w.cell? ⟨p, 2, none⟩ = some (.slice (some ⟨gT, 0, none⟩) s.ns s.ns) := (cell_of_row _ _ _ _ _ _ h.me).trans rfl
theorem IsQ0.c3 (h : IsQ0 w lo hi p gT gI s) : w.cell? ⟨p, 3, none⟩ = some (.slice (some ⟨gI, 0, none⟩) (s.ni + 1) (s.ni + 1)) := (cell_of_row _ _ _ _ _ _ h.me).trans rfl
theorem IsQ0.atT (h : IsQ0 w lo hi p gT gI s) (k : Nat) (hk : k < s.ns) : w.cell? ⟨gT, k, none⟩ = some (.int .i64 (s.T.getD k 0 : Nat)) := by
  rw [cell_of_row _ _ _ _ _ _ h.rT, IA_get _ _ (by rw [h.ok.lT]; exact hk)]
theorem tOf_len (B : List Bool) : (tOf B).length = B.length := by simp [tOf]
theorem tOf_get (B : List Bool) (k : Nat) : (tOf B).getD k 0 = if hasL B k = true then 1 else 0 := by rw [← atT_nat, tOf_at]
theorem tOf_set (B : List Bool) (k : Nat) (v : Bool) : (tOf B).set k (if v = true then 1 else 0) = tOf (B.set k v) := by unfold tOf; rw [List.map_set]
theorem IsQ0.atI (h : IsQ0 w lo hi p gT gI s) (k : Nat) (hk : k ≤ s.ni) : w.cell? ⟨gI, k, none⟩ = some (.int .i64 (if hasL s.I k = true then 1 else 0)) := by
  rw [cell_of_row _ _ _ _ _ _ h.rI, IA_get _ _ (by rw [tOf_len, h.ok.lI]; omega), tOf_get]
  cases hasL s.I k <;> rfl
theorem IsQ0.setT (h : IsQ0 w lo hi p gT gI s) (i v : Nat) (hi0 : s.ni < i) (hi2 : i < s.ns) (hv : v ≤ 2) : IsQ (w.setCell ⟨gT, i, none⟩ (.int .i64 (v : Int))) lo hi p (s.setT i v) ∧ Chg w (w.setCell ⟨gT, i, none⟩ (.int .i64 (v : Int))) (Rg lo hi) := by
  have hc : Chg w (w.setCell ⟨gT, i, none⟩ (.int .i64 (v : Int))) (· = gT) := Chg.setCell
  refine ⟨⟨gT, gI, ⟨hc.keep h.me h.ap.1, ?_, hc.keep h.rI (fun e => h.ap.2.2 e.symm), h.ok.setT ⟨by omega, by omega⟩ hv, h.rp, h.rgT, h.rgI, Nat.le_trans h.top hc.size, h.ap⟩⟩, hc.mono fun k _ e => h.rgT.eq e⟩
  rw [show (s.setT i v).T = s.T.set i v by show putT s.T i v = _; unfold putT; rw [Int.toNat_natCast]]
  exact IA_put h.rT i v
theorem IsQ0.setI (h : IsQ0 w lo hi p gT gI s) (i : Nat) (v : Bool) (hi0 : 2 ≤ i) (hi2 : i ≤ s.ni) : IsQ (w.setCell ⟨gI, i, none⟩ (.int .i64 ((if v = true then 1 else 0 : Nat) : Int))) lo hi p (s.setI i v) ∧ Chg w (w.setCell ⟨gI, i, none⟩ (.int .i64 ((if v = true then 1 else 0 : Nat) : Int))) (Rg lo hi) := by
  have hc : Chg w (w.setCell ⟨gI, i, none⟩ (.int .i64 ((if v = true then 1 else 0 : Nat) : Int))) (· = gI) := Chg.setCell
  refine ⟨⟨gT, gI, ⟨hc.keep h.me h.ap.2.1, hc.keep h.rT h.ap.2.2, ?_, h.ok.setI (by omega) (by omega), h.rp, h.rgT, h.rgI, Nat.le_trans h.top hc.size, h.ap⟩⟩, hc.mono fun k _ e => h.rgI.eq e⟩
  rw [show (s.setI i v).I = s.I.set i v by show putL s.I i v = _; rw [putL_in], ← tOf_set]
  exact IA_put h.rI i _

set_option maxHeartbeats 400000 in
theorem rdata_any (a b i : Int) (w : World) (n : Nat) (hn : a = n) : Calls Try.prog 32 #[.agg #[.int .i64 a, .int .i64 b], .int .i64 i] w fun e w' => e = .returned (.bool (isB (b + 1) n i)) ∧ Below w.heap.size w w' := by
  have HW := hid (below_box w (.cells #[.int .i64 a, .int .i64 b] 23))
  subst hn
  by_cases h1 : b < i
  · by_cases h2 : i < (n : Int)
    · have HE : Hid (isB (b + 1) n i = true) := decide_eq_true ⟨by omega, h2⟩
      go_enter Try.func32, Try.ntmps32
      go_wp2
      go_ret
      exact ⟨ret_bool HE.out.symm, HW.out⟩
    · have HE : Hid (isB (b + 1) n i = false) := decide_eq_false (fun e => h2 e.2)
      have h3 : decide (i < (n : Int)) = false := decide_eq_false h2
      clear h2
      go_enter Try.func32, Try.ntmps32
      go_wp2
      go_ret
      exact ⟨ret_bool HE.out.symm, HW.out⟩
  · have HE : Hid (isB (b + 1) n i = false) := decide_eq_false (fun e => by omega)
    go_enter Try.func32, Try.ntmps32
    go_wp2
    go_ret
    exact ⟨ret_bool HE.out.symm, HW.out⟩
def inoB (b : Int) (i : Int) : Bool := decide (1 ≤ i ∧ i ≤ b)
set_option maxHeartbeats 400000 in
theorem rinode_any (a b i : Int) (w : World) : Calls Try.prog 31 #[.agg #[.int .i64 a, .int .i64 b], .int .i64 i] w fun e w' => e = .returned (.bool (inoB b i)) ∧ Below w.heap.size w w' := by
  have HW := hid (below_box w (.cells #[.int .i64 a, .int .i64 b] 23))
  by_cases h1 : 1 ≤ i
  · by_cases h2 : i ≤ b
    · have HE : Hid (inoB b i = true) := decide_eq_true ⟨h1, h2⟩
      go_enter Try.func31, Try.ntmps31
      go_wp2
      go_ret
      exact ⟨ret_bool HE.out.symm, HW.out⟩
    · have HE : Hid (inoB b i = false) := decide_eq_false (fun e => h2 e.2)
      go_enter Try.func31, Try.ntmps31
      go_wp2
      go_ret
      exact ⟨ret_bool HE.out.symm, HW.out⟩
  · have HE : Hid (inoB b i = false) := decide_eq_false (fun e => h1 e.1)
    go_enter Try.func31, Try.ntmps31
    go_wp2
    go_ret
    exact ⟨ret_bool HE.out.symm, HW.out⟩
set_option maxHeartbeats 400000 in
theorem rmay_any (a b : Int) (w : World) : Calls Try.prog 30 #[.agg #[.int .i64 a, .int .i64 b]] w fun e w' => e = .returned (.bool (mayB a b)) ∧ Below w.heap.size w w' := by
  have HW := hid (below_box w (.cells #[.int .i64 a, .int .i64 b] 23))
  by_cases h1 : 8 ≤ a
  · by_cases h2 : a ≤ 4096
    · by_cases h3 : 1 ≤ b
      · by_cases h4 : b ≤ 512
        · by_cases h5 : b + 2 ≤ a
          · have HE : Hid (mayB a b = true) := decide_eq_true ⟨⟨h1, h2⟩, h3, h4, h5⟩
            go_enter Try.func30, Try.ntmps30
            go_wp2
            go_ret
            exact ⟨ret_bool HE.out.symm, HW.out⟩
          · have HE : Hid (mayB a b = false) := decide_eq_false (fun e => by omega)
            go_enter Try.func30, Try.ntmps30
            go_wp2
            go_ret
            exact ⟨ret_bool HE.out.symm, HW.out⟩
        · have HE : Hid (mayB a b = false) := decide_eq_false (fun e => by omega)
          go_enter Try.func30, Try.ntmps30
          go_wp2
          go_ret
          exact ⟨ret_bool HE.out.symm, HW.out⟩
      · have HE : Hid (mayB a b = false) := decide_eq_false (fun e => by omega)
        go_enter Try.func30, Try.ntmps30
        go_wp2
        go_ret
        exact ⟨ret_bool HE.out.symm, HW.out⟩
    · have HE : Hid (mayB a b = false) := decide_eq_false (fun e => by omega)
      go_enter Try.func30, Try.ntmps30
      go_wp2
      go_ret
      exact ⟨ret_bool HE.out.symm, HW.out⟩
  · have HE : Hid (mayB a b = false) := decide_eq_false (fun e => by omega)
    go_enter Try.func30, Try.ntmps30
    go_wp2
    go_ret
    exact ⟨ret_bool HE.out.symm, HW.out⟩

set_option maxHeartbeats 400000 in
theorem rused_any (i : Int) (w : World) (h : IsQ w lo hi p s) : Calls Try.prog 12 #[.pointer (some ⟨p, 0, none⟩), .int .i64 i] w fun e w' => e = .returned (.bool (hasL s.I i)) ∧ Below w.heap.size w w' := by
  obtain ⟨gT, gI, h⟩ := h
  have h0 := h.c0
  have h1 := h.c1
  have HS := hid h
  have HIn := hid fun w => rinode_any (s.ns : Int) (s.ni : Int) i w
  by_cases c : 1 ≤ i ∧ i ≤ (s.ni : Int)
  · rw [show inoB (s.ni : Int) i = true from decide_eq_true c] at HIn
    obtain ⟨I, rfl⟩ := Int.eq_ofNat_of_zero_le (show 0 ≤ i by omega)
    have hI1 : (I : Int) < (s.ni : Int) + 1 := by omega
    have hIn : I ≤ s.ni := by omega
    clear c
    go_enter Try.func12, Try.ntmps12
    go_upto_region 2 with (go_at_call 31; refine (HIn.out _).mono ?_; rintro e w1 ⟨rfl, b1⟩; have B1 := hid b1; clear b1)
    have H1 := hid (HS.out.keep (Chg.of_below B1.out No) (fun _ _ e => e))
    have k3 := H1.out.c3
    have kI := H1.out.atI I hIn
    cases hv : hasL s.I (I : Int)
    · rw [hv] at kI
      have kI0 : w1.cell? ⟨gI, I, none⟩ = some (.int .i64 0) := kI
      replace hv := hid hv
      clear kI
      go_wp2
      go_ret
      exact ⟨ret_bool hv.out.symm, B1.out⟩
    · rw [hv] at kI
      have kI0 : w1.cell? ⟨gI, I, none⟩ = some (.int .i64 1) := kI
      replace hv := hid hv
      clear kI
      go_wp2
      go_ret
      exact ⟨ret_bool hv.out.symm, B1.out⟩
  · rw [show inoB (s.ni : Int) i = false from decide_eq_false c] at HIn
    have HE : Hid (hasL s.I i = false) := by
      show _ = _
      cases e : hasL s.I i
      · rfl
      · exact absurd (HS.out.ok.ino_of e) c
    clear c
    go_enter Try.func12, Try.ntmps12
    go_wp2_with (go_at_call 31; refine (HIn.out _).mono ?_; rintro e w1 ⟨rfl, b1⟩; have B1 := hid b1; clear b1)
    go_ret
    exact ⟨ret_bool HE.out.symm, B1.out⟩

set_option maxHeartbeats 400000 in
theorem rfree_any (i : Int) (w : World) (h : IsQ w lo hi p s) : Calls Try.prog 22 #[.pointer (some ⟨p, 0, none⟩), .int .i64 i] w fun e w' => e = .returned (.int .i64 (s.freeE i)) ∧ IsQ w' lo hi p (s.freeS i) ∧ Chg w w' (Rg lo hi) := by
  have HQ := hid h
  have HU := hid (rused_any i w h)
  by_cases c : i = 1 ∨ hasL s.I i = false
  · have HE : Hid (s.freeE i = 82) := if_pos c
    have HF : Hid (s.freeS i = s) := if_pos c
    cases hh : hasL s.I i
    · rw [hh] at HU
      clear c hh
      go_enter Try.func22, Try.ntmps22
      go_wp2_with (go_at_call 12; refine HU.out.mono ?_; rintro e w1 ⟨rfl, b1⟩; have B1 := hid b1; clear b1)
      go_ret
      exact ⟨ret_int HE.out.symm, by rw [HF.out]; exact HQ.out.call B1.out, Chg.of_below B1.out _⟩
    · rw [hh] at HU
      have hi1 : (i == 1) = true := by
        rcases c with c | c
        · rw [c]; rfl
        · rw [hh] at c; cases c
      clear c hh
      go_enter Try.func22, Try.ntmps22
      go_wp2_with (go_at_call 12; refine HU.out.mono ?_; rintro e w1 ⟨rfl, b1⟩; have B1 := hid b1; clear b1)
      go_ret
      exact ⟨ret_int HE.out.symm, by rw [HF.out]; exact HQ.out.call B1.out, Chg.of_below B1.out _⟩
  · have HE : Hid (s.freeE i = 0) := if_neg c
    have HF : Hid (s.freeS i = s.setI i false) := if_neg c
    have hh : hasL s.I i = true := by
      cases e : hasL s.I i
      · exact absurd (.inr e) c
      · rfl
    have hr := h.ok.ino_of hh
    have hi1 : (i == 1) = false := beq_false_of_ne (fun e => c (.inl e))
    have h2 : 2 ≤ i := by have : i ≠ 1 := fun e => c (.inl e); omega
    obtain ⟨I, rfl⟩ := Int.eq_ofNat_of_zero_le (show 0 ≤ i by omega)
    have hI1 : (I : Int) < (s.ni : Int) + 1 := by omega
    have hI2 : 2 ≤ I := by omega
    have hI3 : I ≤ s.ni := by omega
    rw [hh] at HU
    clear c hh hr h2
    go_enter Try.func22, Try.ntmps22
    go_upto_region 4 with (go_at_call 12; refine HU.out.mono ?_; rintro e w1 ⟨rfl, b1⟩; have B1 := hid b1; clear b1)
    obtain ⟨gT, gI, H1⟩ := HQ.out.call B1.out
    replace H1 := hid H1
    have k3 := H1.out.c3
    have kI := H1.out.atI I hI3
    have hf := frozen_of_row w1 gI I _ _ H1.out.rI
    go_wp2
    go_ret
    have hh := H1.out.setI I false hI2 hI3
    exact ⟨ret_int HE.out.symm, by rw [HF.out]; exact hh.1, (Chg.of_below B1.out _).trans hh.2 (fun _ _ e => e) (fun _ _ e => e)⟩

set_option maxHeartbeats 400000 in
theorem rlater_any (i : Int) (w : World) (h : IsQ w lo hi p s) : Calls Try.prog 24 #[.pointer (some ⟨p, 0, none⟩), .int .i64 i] w fun e w' => e = .returned (.int .i64 (s.laterE i)) ∧ IsQ w' lo hi p (s.laterS i) ∧ Chg w w' (Rg lo hi) := by
  have HQ := hid h
  obtain ⟨gT0, gI0, h⟩ := h
  have h0 := h.c0
  have h1 := h.c1
  have HD := hid fun w => rdata_any (s.ns : Int) (s.ni : Int) i w s.ns rfl
  by_cases c : (s.ni : Int) < i ∧ i < (s.ns : Int)
  · rw [show isB ((s.ni : Int) + 1) s.ns i = true from decide_eq_true ⟨by omega, c.2⟩] at HD
    obtain ⟨I, rfl⟩ := Int.eq_ofNat_of_zero_le (show 0 ≤ i by omega)
    have hI1 : (I : Int) < (s.ns : Int) := c.2
    have hI2 : s.ni < I := by omega
    have hI3 : I < s.ns := by omega
    clear c
    by_cases hst : s.T.getD I 0 = 1
    · have HE : Hid (s.laterE I = 0) := if_pos (by rw [atT_nat]; exact hst)
      have HF : Hid (s.laterS I = s.setT I 2) := if_pos (by rw [atT_nat]; exact hst)
      replace hst := hid hst
      go_enter Try.func24, Try.ntmps24
      go_upto_region 2 with (go_at_call 32; refine (HD.out _).mono ?_; rintro e w1 ⟨rfl, b1⟩; have B1 := hid b1; clear b1)
      clear h0 h1 h gT0 gI0
      obtain ⟨gT, gI, H1⟩ := HQ.out.call B1.out
      replace H1 := hid H1
      have k2 := H1.out.c2
      have kT := H1.out.atT I hI3
      rw [hst.out] at kT
      have kT1 : w1.cell? ⟨gT, I, none⟩ = some (.int .i64 1) := kT
      have hf := frozen_of_row w1 gT I _ _ H1.out.rT
      clear kT
      go_wp2
      go_ret
      have hh := H1.out.setT I 2 hI2 hI3 (by decide)
      exact ⟨ret_int HE.out.symm, by rw [HF.out]; exact hh.1, (Chg.of_below B1.out _).trans hh.2 (fun _ _ e => e) (fun _ _ e => e)⟩
    · have HE : Hid (s.laterE I = 82) := if_neg (by rw [atT_nat]; exact hst)
      have HF : Hid (s.laterS I = s) := if_neg (by rw [atT_nat]; exact hst)
      have hv0 : (((s.T.getD I 0 : Nat) : Int) == 1) = false := beq_false_of_ne (fun e => hst (by omega))
      clear hst
      go_enter Try.func24, Try.ntmps24
      go_upto_region 2 with (go_at_call 32; refine (HD.out _).mono ?_; rintro e w1 ⟨rfl, b1⟩; have B1 := hid b1; clear b1)
      clear h0 h1 h gT0 gI0
      obtain ⟨gT, gI, H1⟩ := HQ.out.call B1.out
      replace H1 := hid H1
      have k2 := H1.out.c2
      have kT := H1.out.atT I hI3
      generalize s.T.getD I 0 = v at *
      go_wp2
      go_ret
      exact ⟨ret_int HE.out.symm, by rw [HF.out]; exact HQ.out.call B1.out, Chg.of_below B1.out _⟩
  · rw [show isB ((s.ni : Int) + 1) s.ns i = false from decide_eq_false (fun e => c ⟨by omega, e.2⟩)] at HD
    have h0' : atT s.T i = 0 := by
      by_cases e : atT s.T i = 0
      · exact e
      · have := h.ok.dat_of e
        exact absurd ⟨this.1, this.2⟩ c
    have HE : Hid (s.laterE i = 82) := if_neg (by rw [h0']; decide)
    have HF : Hid (s.laterS i = s) := if_neg (by rw [h0']; decide)
    clear c h0'
    go_enter Try.func24, Try.ntmps24
    go_wp2_with (go_at_call 32; refine (HD.out _).mono ?_; rintro e w1 ⟨rfl, b1⟩; have B1 := hid b1; clear b1)
    go_ret
    exact ⟨ret_int HE.out.symm, by rw [HF.out]; exact HQ.out.call B1.out, Chg.of_below B1.out _⟩

set_option maxRecDepth 100000 in
set_option maxHeartbeats 1000000 in
theorem rtakeBlock_any (x : Int) (bb : Bool) (w : World) (h : IsQ w lo hi p s) (hF : FirstIs (bt s.T) ((s.ni : Int) + 1) x bb) : Calls Try.prog 16 #[.pointer (some ⟨p, 0, none⟩)] w fun e w' =>
    e = .returned (.tuple #[.int .i64 x, .int .i64 (errN bb 80)]) ∧ IsQ w' lo hi p (s.takeS x bb) ∧ Chg w w' (Rg lo hi) := by
  have HQ := hid h
  obtain ⟨gT, gI, h⟩ := h
  have h0 := h.c0
  have h1 := h.c1
  have h2 := h.c2
  have H0 := hid h
  have hbl := block_least h.ok hF
  have hn1 := h.ok.n2
  have hn2 := h.ok.i3
  have hE : ∃ E : Nat, s.ni < E ∧ E ≤ s.ns ∧ Hid (∀ j : Nat, s.ni < j → j < E → s.T.getD j 0 ≠ 0) ∧ (bb = true → x = (E : Int) ∧ E < s.ns ∧ s.T.getD E 0 = 0) ∧ (bb = false → x = 0 ∧ E = s.ns) := by
    cases bb
    · refine ⟨s.ns, by omega, Nat.le_refl _, fun j h1 h2 hz => ?_, fun e => (by cases e), fun _ => ⟨hbl.2 rfl, rfl⟩⟩
      have := (hF.no rfl).2 j (by omega) (by omega) (by rw [bt_len, h.ok.lT]; omega)
      rw [bt_has, atT_nat, hz] at this
      cases this
    · obtain ⟨E, e1, e2, e3, e4, e5⟩ := hbl.1 rfl
      exact ⟨E, e2, by omega, e5, fun _ => ⟨e1, e3, e4⟩, fun e => (by cases e)⟩
  obtain ⟨E, hE1, hE2, hE3, hE4, hE5⟩ := hE
  clear hbl hF
  go_enter Try.func16, Try.ntmps16
  go_wp2
  go_loop [4] (fun i => ∃ q : Nat, s.ni < q ∧ q ≤ E ∧ i = .int .i64 q) (fun i => E - (intOf i).toNat)
  case atStart => exact ⟨s.ni + 1, by omega, by omega, by go_num⟩
  case round =>
    obtain ⟨q, hq1, hq2, rfl⟩ := hrel
    by_cases hqE : q < E
    · have hqn : (q : Int) < (s.ns : Int) := by omega
      have kT := H0.out.atT q (by omega)
      have hv0 : (((s.T.getD q 0 : Nat) : Int) == 0) = false := beq_false_of_ne (fun e => hE3.out q hq1 hqE (by omega))
      clear hE4 hE5
      generalize s.T.getD q 0 = v at *
      go_wp2
      exact ⟨⟨q + 1, by omega, by omega, by go_num⟩, by simp [intOf]; omega⟩
    · obtain rfl : q = E := by omega
      clear hqE hq2
      cases bb
      · obtain ⟨rfl, hq⟩ := hE5 rfl
        have hqn : ¬ (q : Int) < (s.ns : Int) := by omega
        clear hE4 hE5 hq
        go_wp2
        go_ret2
        exact ⟨rfl, HQ.out, Chg.refl _ _⟩
      · obtain ⟨rfl, hq, hz⟩ := hE4 rfl
        have hqn : (q : Int) < (s.ns : Int) := by omega
        have kT := H0.out.atT q hq
        rw [hz] at kT
        have kT0 : w.cell? ⟨gT, q, none⟩ = some (.int .i64 0) := kT
        have hf := frozen_of_row w gT q _ _ H0.out.rT
        clear hE4 hE5 kT
        go_wp2
        go_ret2
        have hh := H0.out.setT q 1 hq1 hq (by decide)
        exact ⟨rfl, hh.1, hh.2⟩

set_option maxRecDepth 100000 in
set_option maxHeartbeats 1000000 in
theorem rtakeInode_any (x : Int) (bb : Bool) (w : World) (h : IsQ w lo hi p s) (hF : FirstIs s.I 1 x bb) : Calls Try.prog 20 #[.pointer (some ⟨p, 0, none⟩)] w fun e w' =>
    e = .returned (.tuple #[.int .i64 x, .int .i64 (errN bb 81)]) ∧ IsQ w' lo hi p (s.takeI x bb) ∧ Chg w w' (Rg lo hi) := by
  have HQ := hid h
  obtain ⟨gT, gI, h⟩ := h
  have h1 := h.c1
  have h3 := h.c3
  have H0 := hid h
  obtain ⟨E, hE1, hE2, hE3, hE4, hE5⟩ := inode_least' h.ok hF
  have hn1 := h.ok.i2
  replace hE3 := hid hE3
  clear hF
  go_enter Try.func20, Try.ntmps20
  go_wp2
  go_loop [4] (fun i => ∃ q : Nat, 2 ≤ q ∧ q ≤ E ∧ i = .int .i64 q) (fun i => E - (intOf i).toNat)
  case atStart => exact ⟨2, by omega, by omega, rfl⟩
  case round =>
    obtain ⟨q, hq1, hq2, rfl⟩ := hrel
    by_cases hqE : q < E
    · have hqn : (q : Int) ≤ (s.ni : Int) := by omega
      have hqn2 : (q : Int) < (s.ni : Int) + 1 := by omega
      have kI := H0.out.atI q (by omega)
      rw [hE3.out q hq1 hqE] at kI
      have kI0 : w.cell? ⟨gI, q, none⟩ = some (.int .i64 1) := kI
      clear hE4 hE5 kI
      go_wp2
      exact ⟨⟨q + 1, by omega, by omega, by go_num⟩, by simp [intOf]; omega⟩
    · obtain rfl : q = E := by omega
      clear hqE hq2
      cases bb
      · obtain ⟨rfl, hq⟩ := hE5 rfl
        have hqn : ¬ (q : Int) ≤ (s.ni : Int) := by omega
        clear hE4 hE5 hq
        go_wp2
        go_ret2
        exact ⟨rfl, HQ.out, Chg.refl _ _⟩
      · obtain ⟨rfl, hq, hz⟩ := hE4 rfl
        have hqn : (q : Int) ≤ (s.ni : Int) := by omega
        have hqn2 : (q : Int) < (s.ni : Int) + 1 := by omega
        have kI := H0.out.atI q hq
        rw [hz] at kI
        have kI0 : w.cell? ⟨gI, q, none⟩ = some (.int .i64 0) := kI
        have hf := frozen_of_row w gI q _ _ H0.out.rI
        clear hE4 hE5 kI
        go_wp2
        go_ret2
        have hh := H0.out.setI q true hq1 hq
        exact ⟨rfl, hh.1, hh.2⟩

end Go.Proofs.Ytdddcllakjeplaa
