/-
  The document's graph: Remove.
-/
import Derived.Test.YtfkommjpofpmbaaRef1
namespace Go.Proofs.Ytfkommjpofpmbaa
open Go.RowKit

variable {w : World} {r : Nat} {own : Nat → Prop} {E : Int → Int → Prop}

/-- The edges that have nothing to do with m. -/
def rwo (m : Int) (l : List (Int × Int)) : List (Int × Int) := l.filter fun x => decide (x.1 ≠ m) && decide (x.2 ≠ m)
theorem rwo_list {l : List (Int × Int)} (h : EList E l) (m : Int) : EList (delE E m) (rwo m l) := by
  refine ⟨h.1.filter _, fun x => ?_⟩
  unfold rwo delE
  rw [List.mem_filter, h.2]
  simp
theorem rwo_take {l : List (Int × Int)} {k : Nat} (hk : k < l.length) (m : Int) : rwo m (l.take (k + 1)) = if (edK l k).1 ≠ m ∧ (edK l k).2 ≠ m then rwo m (l.take k) ++ [edK l k] else rwo m (l.take k) := by
  have e : edK l k = l[k] := by simp [edK, hk]
  unfold rwo
  rw [List.take_succ_eq_append_getElem hk, List.filter_append, e]
  by_cases h : (l[k]).1 ≠ m ∧ (l[k]).2 ≠ m
  · rw [if_pos h]
    simp [h.1, h.2]
  · rw [if_neg h]
    simp
    intro k1
    exact Classical.byContradiction fun k2 => h ⟨k1, k2⟩
theorem rwo_len (m : Int) (l : List (Int × Int)) : (rwo m l).length ≤ l.length := List.length_filter_le _ _

/-- What a call that turns the document's graph leaves. -/
def RPost (w : World) (r : Nat) (own : Nat → Prop) (P : Int → (Int → Int → Prop) → Prop) (e : Ending) (w' : World) : Prop :=
  ∃ c E' own', e = .returned (.int .i64 c) ∧ P c E' ∧ IsR w' r own' E' ∧ (∀ k, own' k → own k ∨ (w.heap.size ≤ k ∧ k < w'.heap.size)) ∧ Chg w w' own

/-- A new list is laid into the graph. -/
theorem r_store {w0 wA : World} {a : Option Addr} {c : Nat} {l : List (Int × Int)} (h : IsR0 w0 r a c own l E) {E' : Int → Int → Prop} {base ca : Nat} {a3 : Option Addr} {l' : List (Int × Int)} (hb : w0.heap.size ≤ base) (hc : Chg w0 wA No) (hv : Edgs wA base (.slice a3 l'.length ca) l') (hl : EList E' l') (hs : InSec E') (hr : NoRing E') :
    IsR (wA.setCell ⟨r, 0, none⟩ (.slice a3 l'.length ca)) r (fun k => own k ∨ (w0.heap.size ≤ k ∧ k < wA.heap.size)) E' ∧ Chg w0 (wA.setCell ⟨r, 0, none⟩ (.slice a3 l'.length ca)) own := by
  have hA := h.keep hc (fun _ _ e => e)
  have hrl := slt h.me
  have hcs : Chg wA (wA.setCell ⟨r, 0, none⟩ (.slice a3 l'.length ca)) (· = r) := Chg.setCell
  obtain ⟨a4, c4, e4, hat, hge⟩ := hv.at_
  cases e4
  refine ⟨⟨a3, ca, l', ?_, hat.keep hcs (fun g e k => by have := hge g e; omega), hl, hs, hr, .inl h.o1, fun g e => ?_⟩, hc.trans hcs (fun _ _ e => e.elim) (fun j hj e => by subst e; exact h.o1)⟩
  · exact heap_setCell_same wA r 0 _ 53 (.slice a3 l'.length ca) hA.me
  · subst e
    have := row_ge hv (j := g) rfl
    exact .inr ⟨by omega, this.2⟩

set_option maxRecDepth 100000 in
set_option maxHeartbeats 2000000 in
theorem rremove_any (n : Int) (h : IsR w r own E) : Calls Try.prog 25 #[.pointer (some ⟨r, 0, none⟩), .int .i64 n] w (RPost w r own (Removed E n)) := by
  have HS := fun w => risSector_any n w
  cases hq : isSec n with
  | false =>
    have hn : ¬ Sec n := fun e => by rw [(isSec_iff n).2 e] at hq; cases hq
    have HH := hid h
    rw [hq] at HS
    clear h hq
    unfold RPost
    go_enter Try.func25, Try.ntmps25
    go_wp2_with (first
      | (go_at_call 34; go_must (refine (HS _).mono ?_; rintro e w1 ⟨rfl, rfl⟩))
      | go_in)
    go_ret
    exact ⟨1, E, own, rfl, .inl ⟨hn, rfl, rfl⟩, HH.out, fun _ k => .inl k, Chg.refl _ _⟩
  | true =>
    have hn : Sec n := (isSec_iff n).1 hq
    rw [hq] at HS
    obtain ⟨a, ca, l, h⟩ := h
    have hlen := elist_len h.list h.sec
    have hrl := slt h.me
    have HH := hid h
    have HN := hid hn
    have hc0 := h.c0
    clear h hq hn
    generalize hN : l.length = N at *
    unfold RPost
    go_enter Try.func25, Try.ntmps25
    go_wp2_with (first
      | (go_at_call 34; go_must (refine (HS _).mono ?_; rintro e w1 ⟨rfl, rfl⟩; clear HS))
      | go_in)
    clear hc0
    go_loopw [5, 6] (fun v i wr => ∃ (k : Nat) (wq : World), wq = wr ∧ k ≤ N ∧ i = .int .i64 k ∧ Edgs wq w.heap.size v (rwo n (l.take k)) ∧ Chg w wq No) (fun _ i _ => N - (intOf i).toNat)
    case atStart => exact ⟨0, _, rfl, by omega, rfl, edgs_nil _ _, Chg.refl _ _⟩
    case round =>
      obtain ⟨k, wA, rfl, hk, rfl, hrow, hc⟩ := hrel
      have hwl : (rwo n (l.take k)).length ≤ 16777216 := Nat.le_trans (rwo_len _ _) (by simp; omega)
      have hsz := hc.size
      have hHA := HH.out.keep hc (fun _ _ e => e)
      have hc0 : wA.cell? ⟨r, 0, none⟩ = some (.slice a N ca) := by rw [← hN]; exact hHA.c0
      by_cases hlt : k < N
      · rcases hHA.at_ with h0 | ⟨g1, rfl, hg1, h1⟩
        · rw [h0] at hN; simp at hN; omega
        obtain ⟨p1, q1⟩ := EAt.cells h1 (k := k) (by omega)
        have htk := rwo_take (l := l) (k := k) (by omega) n
        generalize edK l k = y at *
        have hi0 : (0 : Int) ≤ (k : Int) := by omega
        have hi1 : (k : Int) < (N : Int) := by omega
        have hrowA := row_keep hrow (Chg.alloc wA (.cells #[.int .i64 y.1, .int .i64 y.2] 48) No) (fun _ _ e => e)
        have hca : (wA.alloc (.cells #[.int .i64 y.1, .int .i64 y.2] 48)).cell? ⟨wA.heap.size, 0, none⟩ = some (.int .i64 y.1) := by rw [cell_of_row _ _ _ _ _ _ (heap_alloc_new _ _)]; rfl
        have hcb : (wA.alloc (.cells #[.int .i64 y.1, .int .i64 y.2] 48)).cell? ⟨wA.heap.size, 1, none⟩ = some (.int .i64 y.2) := by rw [cell_of_row _ _ _ _ _ _ (heap_alloc_new _ _)]; rfl
        have Hrow := hid (And.intro hrow hc)
        clear h1 hrow hHA hc
        by_cases hy : y.1 ≠ n ∧ y.2 ≠ n
        · rw [if_pos hy] at htk
          obtain ⟨hy1, hy2⟩ := hy
          have HTK := hid htk
          have hb1 : (y.1 == n) = false := by simp [hy1]
          have hb2 : (y.2 == n) = false := by simp [hy2]
          have hb3 : (y.1 != n) = true := by simp [hy1]
          have hb4 : (y.2 != n) = true := by simp [hy2]
          clear htk
          go_wp2_with (first
            | (at_builtin; go_must (refine wp_appE rfl _ _ rfl w.heap.size wA.heap.size 1 _ _ y rfl rfl hrowA hca hcb (by omega) (by simp; omega) ?_; intro v6 w6 h61 h62 h63))
            | go_in)
          have hc6 : Chg w w6 No := Hrow.out.2.trans ((Chg.alloc wA (.cells #[.int .i64 y.1, .int .i64 y.2] 48) No).trans h62 (c := fun k => w.heap.size ≤ k) (fun _ _ e => e.elim) (fun j _ e => (row_ge hrowA e).1)) (fun _ _ e => e) (fun j hj e => by omega)
          go_roundw
          case rel => exact ⟨k + 1, _, rfl, by omega, by go_num, by rw [HTK.out]; exact h61, hc6⟩
          case measure => simp [intOf]; omega
        · rw [if_neg hy] at htk
          have HTK := hid htk
          clear htk hrowA hca hcb
          by_cases hy1 : y.1 = n
          · have hb3 : (y.1 != n) = false := by simp [hy1]
            have hb1 : (y.1 == n) = true := by simp [hy1]
            go_wp2_with fail
            go_roundw
            case rel => exact ⟨k + 1, _, rfl, by omega, by go_num, by rw [HTK.out]; exact Hrow.out.1, Hrow.out.2⟩
            case measure => simp [intOf]; omega
          · have hy2 : y.2 = n := Classical.byContradiction fun e => hy ⟨hy1, e⟩
            have hb1 : (y.1 == n) = false := by simp [hy1]
            have hb3 : (y.1 != n) = true := by simp [hy1]
            have hb2 : (y.2 == n) = true := by simp [hy2]
            have hb4 : (y.2 != n) = false := by simp [hy2]
            go_wp2_with fail
            go_roundw
            case rel => exact ⟨k + 1, _, rfl, by omega, by go_num, by rw [HTK.out]; exact Hrow.out.1, Hrow.out.2⟩
            case measure => simp [intOf]; omega
      · obtain rfl : k = N := by omega
        rw [← hN, List.take_length] at hrow
        obtain ⟨a3, ca3, rfl, hA3, _⟩ := hrow.at_
        have hfz := frozen_of_row wA r 0 _ _ hHA.me
        have HX := hid (And.intro hrow hc)
        clear hrow hA3 hHA hc
        go_wp2_with fail
        go_ret
        obtain ⟨hrow, hc⟩ := HX.out
        have hst := r_store HH.out (Nat.le_refl _) hc hrow (rwo_list HH.out.list n) (inSec_del n HH.out.sec) (noRing_del n HH.out.ring)
        exact ⟨0, delE E n, _, rfl, .inr ⟨HN.out, rfl, rfl⟩, hst.1, fun k e => by simpa [World.setCell] using e, hst.2⟩

end Go.Proofs.Ytfkommjpofpmbaa
