/-
  A space in memory, and the calls that ask it and turn it one number at a time.
-/
import Derived.Test.YtdddcllakjeplaaS1
namespace Go.Proofs.Ytdddcllakjeplaa
open Go.RowKit

def lateB (T : List Nat) (i : Int) : Bool := atT T i == 2
theorem lateB_yes {T : List Nat} {i : Int} (h : Late T i) : lateB T i = true := by unfold lateB; rw [h]; rfl
theorem lateB_no {T : List Nat} {i : Int} (h : ¬ Late T i) : lateB T i = false := by
  unfold lateB
  cases hb : atT T i == 2
  · rfl
  · exact absurd (show atT T i = 2 by simpa using hb) h
/-- Blocks from lo on, ahead of hi. -/
def Rg (lo hi : Nat) (k : Nat) : Prop := lo ≤ k ∧ k < hi
/-- The cells of a space. -/
def spC (pi pb m : Nat) (f : Int) : Array Value := #[.pointer (some ⟨pi, 0, none⟩), .int .i64 1, .pointer (some ⟨pb, 0, none⟩), .int .i64 f, .map (some m)]
/-- A space lies at p; all that it has lies from lo on, ahead of hi. -/
structure IsS0 (w : World) (lo hi p pi gi pb gb m : Nat) (s : SS) : Prop where
  me : w.heap[p]? = some (.cells (spC pi pb m ((s.ni : Int) + 1)) 63 (0, 0))
  bi : IsB w pi gi s.I
  bb : IsB w pb gb (bt s.T)
  lt : SetAt w m (Late s.T)
  ok : s.Ok
  rp : Rg lo hi p
  rgi : Rg lo hi gi
  rgb : Rg lo hi gb
  rm : Rg lo hi m
  rpi : Rg lo hi pi
  rpb : Rg lo hi pb
  top : hi ≤ w.heap.size
  ap : (p ≠ gi ∧ p ≠ gb ∧ p ≠ m) ∧ (pi ≠ gb ∧ pi ≠ m ∧ pb ≠ gi ∧ pb ≠ m) ∧ (gi ≠ gb ∧ gi ≠ m ∧ gb ≠ m)
def IsS (w : World) (lo hi p : Nat) (s : SS) : Prop := ∃ pi gi pb gb m, IsS0 w lo hi p pi gi pb gb m s

variable {w : World} {lo hi p pi gi pb gb m : Nat} {s : SS}
theorem IsS0.keep {w' : World} {ks : Nat → Prop} (h : IsS0 w lo hi p pi gi pb gb m s) (hc : Chg w w' ks) (hk : ∀ k, Rg lo hi k → ¬ ks k) : IsS0 w' lo hi p pi gi pb gb m s :=
  ⟨hc.keep h.me (hk _ h.rp), h.bi.keep hc (hk _ h.rpi) (hk _ h.rgi), h.bb.keep hc (hk _ h.rpb) (hk _ h.rgb), h.lt.keep hc (hk _ h.rm), h.ok, h.rp, h.rgi, h.rgb, h.rm, h.rpi, h.rpb, Nat.le_trans h.top hc.size, h.ap⟩
theorem IsS.keep {w' : World} {ks : Nat → Prop} (h : IsS w lo hi p s) (hc : Chg w w' ks) (hk : ∀ k, Rg lo hi k → ¬ ks k) : IsS w' lo hi p s := by
  obtain ⟨a, b, c, d, e, h⟩ := h
  exact ⟨a, b, c, d, e, h.keep hc hk⟩
theorem IsS.call {w' : World} (h : IsS w lo hi p s) (hb : Below w.heap.size w w') : IsS w' lo hi p s := h.keep (Chg.of_below hb No) (fun _ _ e => e)
theorem IsS.boxed (h : IsS w lo hi p s) (o : Obj) : IsS (w.alloc o) lo hi p s := h.keep (Chg.alloc w o No) (fun _ _ e => e)
theorem IsS0.drewN (h : IsS0 w lo hi p pi gi pb gb m s) (n : Nat) : IsS0 (w.drewN n) lo hi p pi gi pb gb m s := ⟨h.me, h.bi.drewN n, h.bb.drewN n, h.lt, h.ok, h.rp, h.rgi, h.rgb, h.rm, h.rpi, h.rpb, h.top, h.ap⟩
theorem IsS.drewN (h : IsS w lo hi p s) (n : Nat) : IsS (w.drewN n) lo hi p s := by
  obtain ⟨a, b, c, d, e, h⟩ := h
  exact ⟨a, b, c, d, e, h.drewN n⟩
theorem IsS.ok (h : IsS w lo hi p s) : s.Ok := let ⟨_, _, _, _, _, h⟩ := h; h.ok
theorem IsS.top (h : IsS w lo hi p s) : hi ≤ w.heap.size := let ⟨_, _, _, _, _, h⟩ := h; h.top
theorem IsS.rp (h : IsS w lo hi p s) : Rg lo hi p := let ⟨_, _, _, _, _, h⟩ := h; h.rp
theorem IsS0.c0 (h : IsS0 w lo hi p pi gi pb gb m s) : w.cell? ⟨p, 0, none⟩ = some (.pointer (some ⟨pi, 0, none⟩)) := by rw [cell_of_row _ _ _ _ _ _ h.me]; rfl
theorem IsS0.c1 (h : IsS0 w lo hi p pi gi pb gb m s) : w.cell? ⟨p, 1, none⟩ = some (.int .i64 1) := by rw [cell_of_row _ _ _ _ _ _ h.me]; rfl
theorem IsS0.c2 (h : IsS0 w lo hi p pi gi pb gb m s) : w.cell? ⟨p, 2, none⟩ = some (.pointer (some ⟨pb, 0, none⟩)) := by rw [cell_of_row _ _ _ _ _ _ h.me]; rfl
theorem IsS0.c3 (h : IsS0 w lo hi p pi gi pb gb m s) : w.cell? ⟨p, 3, none⟩ = some (.int .i64 ((s.ni : Int) + 1)) := by rw [cell_of_row _ _ _ _ _ _ h.me]; rfl
theorem IsS0.c4 (h : IsS0 w lo hi p pi gi pb gb m s) : w.cell? ⟨p, 4, none⟩ = some (.map (some m)) := by rw [cell_of_row _ _ _ _ _ _ h.me]; rfl
theorem IsS0.setT {w' : World} (h : IsS0 w lo hi p pi gi pb gb m s) {i : Int} {v : Nat} (hd : s.dat i) (hv : v ≤ 2) (hc : Chg w w' (fun k => k = gb ∨ k = m)) (hb : IsB w' pb gb (bt (putT s.T i v))) (hl : SetAt w' m (Late (putT s.T i v))) : IsS0 w' lo hi p pi gi pb gb m (s.setT i v) := by
  obtain ⟨⟨a1, a2, a3⟩, ⟨b1, b2, b3, b4⟩, c1, c2, c3⟩ := h.ap
  exact ⟨hc.keep h.me (fun e => by omega), h.bi.keep hc (fun e => by omega) (fun e => by omega), hb, hl, h.ok.setT hd hv, h.rp, h.rgi, h.rgb, h.rm, h.rpi, h.rpb, Nat.le_trans h.top hc.size, h.ap⟩
theorem IsS0.setI {w' : World} (h : IsS0 w lo hi p pi gi pb gb m s) {i : Int} {b : Bool} (h2 : 2 ≤ i) (hn : i ≤ s.ni) (hc : Chg w w' (fun k => k = gi)) (hb : IsB w' pi gi (putL s.I i b)) : IsS0 w' lo hi p pi gi pb gb m (s.setI i b) := by
  obtain ⟨⟨a1, a2, a3⟩, ⟨b1, b2, b3, b4⟩, c1, c2, c3⟩ := h.ap
  exact ⟨hc.keep h.me (fun e => by omega), hb, h.bb.keep hc (fun e => by omega) (fun e => by omega), h.lt.keep hc (fun e => by omega), h.ok.setI h2 hn, h.rp, h.rgi, h.rgb, h.rm, h.rpi, h.rpb, Nat.le_trans h.top hc.size, h.ap⟩

set_option maxHeartbeats 400000 in
theorem used_any (i : Int) (w : World) (h : IsS w lo hi p s) : Calls Try.prog 11 #[.pointer (some ⟨p, 0, none⟩), .int .i64 i] w fun e w' => e = .returned (.bool (hasL s.I i)) ∧ w = w' := by
  obtain ⟨pi, gi, pb, gb, m, h⟩ := h
  have h0 := h.c0
  have HB := hid h.bi
  go_enter Try.func11, Try.ntmps11
  go_wp2_with (go_at_call 33; refine (has_any _ _ HB.out).mono ?_; rintro e w1 ⟨rfl, rfl⟩)
  go_ret
  exact ⟨rfl, rfl⟩

set_option maxHeartbeats 400000 in
theorem isLater_any (i : Int) (hi64 : I64 i) (w : World) (h : IsS w lo hi p s) : Calls Try.prog 37 #[.pointer (some ⟨p, 0, none⟩), .int .i64 i] w fun e w' => e = .returned (.bool (lateB s.T i)) ∧ Below w.heap.size w w' := by
  obtain ⟨pi, gi, pb, gb, m, h⟩ := h
  have h4 := h.c4
  have HS := hid h.lt
  have H64 := hid hi64
  clear hi64
  go_enter Try.func37, Try.ntmps37
  go_wp2_with (at_lookup; go_must (refine wp_ok rfl _ _ rfl m (Late s.T) i rfl rfl HS.out H64.out ?_; intro r hr))
  have HR : Hid (r = lateB s.T i) := by
    show _ = _
    cases r
    · exact (lateB_no (fun e => Bool.noConfusion (hr.2 e))).symm
    · exact (lateB_yes (hr.1 rfl)).symm
  clear hr
  go_ret
  exact ⟨ret_bool HR.out, below_box w _⟩

end Go.Proofs.Ytdddcllakjeplaa
