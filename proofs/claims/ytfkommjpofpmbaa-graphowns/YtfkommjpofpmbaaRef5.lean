/-
  The document's graph: Before.
-/
import Derived.Test.YtfkommjpofpmbaaRef4
namespace Go.Proofs.Ytfkommjpofpmbaa
open Go.RowKit

variable {w : World} {r : Nat} {own : Nat → Prop} {E : Int → Int → Prop}

theorem reach_back {l : List (Int × Int)} (h : EList E l) (x n : Int) : Reach (dirF l true) n x ↔ Reach E x n :=
  (Reach.congr (F := rev E) fun a b => by unfold dirF rev; simp; exact h.2 (b, a)).trans Reach.rev_iff

/-- The sectors below k that are marked. -/
def tl (s : List Bool) (k : Nat) : List Int := ((List.range k).filter fun j => s.getD j false).map Int.ofNat
theorem tl_succ (s : List Bool) (k : Nat) : tl s (k + 1) = if s.getD k false = true then tl s k ++ [(k : Int)] else tl s k := by
  unfold tl
  rw [List.range_succ, List.filter_append, List.map_append]
  have e : [k].filter (fun j => s.getD j false) = if s.getD k false = true then [k] else [] := by rw [List.filter_cons]; rfl
  rw [e]
  cases h : s.getD k false
  · rw [if_neg (by simp), if_neg (by simp)]; simp
  · rw [if_pos rfl, if_pos rfl]; rfl
theorem tl_len (s : List Bool) (k : Nat) : (tl s k).length ≤ k := by
  unfold tl
  rw [List.length_map]
  exact Nat.le_trans (List.length_filter_le _ _) (by simp)
theorem tl_up (s : List Bool) (k : Nat) : (tl s k).Pairwise (· < ·) := by
  unfold tl
  rw [List.pairwise_map]
  refine List.Pairwise.imp ?_ (List.pairwise_lt_range.filter _)
  intro a b h
  simpa using h
theorem tl_mem (s : List Bool) (x : Int) : x ∈ tl s 4096 ↔ Tof s x := by
  unfold tl Tof Sec
  rw [List.mem_map]
  constructor
  · rintro ⟨j, hj, rfl⟩
    rw [List.mem_filter, List.mem_range] at hj
    exact ⟨⟨by simp, by simp; omega⟩, by simpa using hj.2⟩
  · rintro ⟨⟨h1, h2⟩, h3⟩
    exact ⟨x.toNat, by rw [List.mem_filter, List.mem_range]; exact ⟨by omega, h3⟩, by simp; omega⟩

set_option maxRecDepth 100000 in
set_option maxHeartbeats 2000000 in
theorem rbefore_any (n : Int) (h : IsR w r own E) : Calls Try.prog 11 #[.pointer (some ⟨r, 0, none⟩), .int .i64 n] w fun e w' =>
    ∃ v l, e = .returned v ∧ Ints w' w.heap.size v l ∧ BList E n l ∧ Chg w w' No := by
  obtain ⟨a, ca, l, h⟩ := h
  have HC := reached_back n h
  have HH := hid h
  have hmk := make_FA
  clear h
  go_enter Try.func11, Try.ntmps11
  go_wp2_with (first
    | (go_at_call 30; go_must (refine HC.mono ?_; rintro e w1 ⟨v, o, rfl, hv, ⟨t, rfl⟩, honce, hmem, hol, c1⟩; obtain ⟨go, co, rfl, hgo, hgo2, hcells⟩ := row_cells hv (by simp); clear HC))
    | go_in)
  have b2 : BoolsAt (w1.alloc (.cells FA 4)) w1.heap.size Fs := ⟨heap_alloc_new _ _, Fs_len⟩
  have c2 := Chg.alloc w1 (.cells FA 4) No
  have z2 : (w1.alloc (.cells FA 4)).heap.size = w1.heap.size + 1 := by simp
  have hbl : ∀ x, x ∈ t ↔ x ≠ n ∧ Reach E x n := fun x => by
    have h1 := hmem x
    rw [reach_back HH.out.list, List.mem_cons] at h1
    rw [List.pairwise_cons] at honce
    constructor
    · exact fun k => ⟨fun e => honce.1 x k e.symm, h1.1 (.inr k)⟩
    · exact fun k => (h1.2 k.2).elim (fun e => absurd e k.1) (fun e => e)
  have hst : ∀ x, x ∈ t → Sec x := fun x hx => by
    obtain ⟨k1, k2⟩ := (hbl x).1 hx
    rcases k2 with e | e
    · exact absurd e k1
    · exact (e.sec HH.out.sec).1
  have z1 := c1.size
  generalize w1.alloc (.cells FA 4) = w2 at *
  rw [List.length_cons] at hol
  generalize hgt : w1.heap.size = gt at *
  have HX := hid (And.intro hcells (And.intro hbl (And.intro hst (And.intro c1 (And.intro c2 hmem)))))
  clear hv honce hmem c1 hcells hbl hst c2
  generalize hO : t.length = O at *
  go_loopw [7] (fun i wr => ∃ (j : Nat) (s : List Bool) (wq : World), wq = wr ∧ j ≤ O ∧ i = .int .i64 ((j : Int) + 1) ∧ BoolsAt wq gt s ∧ (∀ z, Tof s z ↔ z ∈ t.take j) ∧ Chg w2 wq (· = gt)) (fun i _ => O + 1 - (intOf i).toNat)
  case atStart => exact ⟨0, Fs, _, rfl, by omega, rfl, b2, fun z => ⟨fun k => absurd k (Tof_start z), fun k => by simp at k⟩, Chg.refl _ _⟩
  case round =>
    obtain ⟨j, s, wA, rfl, hj, rfl, hb, hT, hc⟩ := hrel
    by_cases hlt : j < O
    · obtain ⟨hcells, hbl, hst, c1, c2, hmem⟩ := HX.out
      have hxc0 := ints_cell hcells (k := j + 1) (by simp; omega)
      have hx0 : (n :: t).getD (j + 1) 0 = t[j]'(by omega) := by simp [show j < t.length by omega]
      rw [hx0] at hxc0
      have hm : t[j]'(by omega) ∈ t := List.getElem_mem _
      have htk : t.take (j + 1) = t.take j ++ [t[j]'(by omega)] := List.take_succ_eq_append_getElem (by omega)
      generalize t[j]'(by omega) = x at *
      obtain ⟨hs0, hs1⟩ := hst x hm
      have hxc := cell_keep (cell_keep hxc0 c2 (by omega) (fun e => e)) hc (by omega) (by omega)
      have hsc := hb.cell (j := x.toNat) (by omega)
      have hsf := hb.free x.toNat
      have hi0 : (0 : Int) ≤ (j : Int) + 1 := by omega
      have hi1 : (j : Int) + 1 < ((O + 1 : Nat) : Int) := by omega
      have HY := hid (And.intro hb (And.intro hT (And.intro hc htk)))
      clear hcells hbl hst c1 c2 hmem hxc0 hx0 hm htk hb hT hc
      go_wp2_with fail
      obtain ⟨hb, hT, hc, htk⟩ := HY.out
      go_roundw
      case rel => exact ⟨j + 1, s.set x.toNat true, _, rfl, by omega, by go_num, hb.set _ _, fun z => by rw [Tof_set hb.2 ⟨hs0, hs1⟩, hT, htk, List.mem_append, List.mem_singleton, Or.comm], hc.trans Chg.setCell (fun _ _ e => e) (fun _ _ e => e)⟩
      case measure => simp [intOf]; omega
    · obtain rfl : j = O := by omega
      have HY := hid (And.intro hT hc)
      clear hT hc
      go_wp2_with fail
      have hz := HY.out.2.size
      go_loopw [8, 9] (fun v i wr => ∃ (k : Nat) (wq : World), wq = wr ∧ k ≤ 4096 ∧ i = .int .i64 (k : Int) ∧ Ints wq wA.heap.size v (tl s k) ∧ BoolsAt wq gt s ∧ Chg wA wq No) (fun _ i _ => 4096 - (intOf i).toNat)
      case atStart => exact ⟨0, _, rfl, by omega, rfl, ints_nil _ _, hb, Chg.refl _ _⟩
      case round =>
        obtain ⟨k, wB, rfl, hk, rfl, hrow, hbB, hcB⟩ := hrel
        have hzB := hcB.size
        have htl := tl_len s k
        by_cases hlt2 : k < 4096
        · have hsc := hbB.cell (j := k) hlt2
          have hi0 : (0 : Int) ≤ (k : Int) := by omega
          have hi1 : (k : Int) < 4096 := by omega
          have hts := tl_succ s k
          cases hsv : s.getD k false with
          | true =>
            rw [hsv] at hsc hts
            rw [if_pos rfl] at hts
            have HTS := hid hts
            have rA := row_keep hrow (Chg.alloc wB (.cells #[.int .i64 (k : Int)] 3) No) (fun _ _ e => e)
            have hcell := cell0 (heap_alloc_new wB (.cells #[.int .i64 (k : Int)] 3))
            have HZ := hid (And.intro hbB (And.intro hcB hrow))
            clear hsv hts hbB hcB hrow hb
            go_wp2_with (first
              | (at_builtin; go_must (refine wp_appI rfl _ _ rfl wA.heap.size wB.heap.size 1 _ _ (k : Int) rfl rfl rA hcell (by omega) (by simp; omega) ?_; intro v6 w6 h61 h62 h63))
              | fail)
            obtain ⟨hbB, hcB, hrow⟩ := HZ.out
            have hb6 := (hbB.keep (Chg.alloc wB (.cells #[.int .i64 (k : Int)] 3) No) (fun e => e)).keep h62 (fun e => by have := (row_ge rA e).1; omega)
            have hc6 : Chg wA w6 No := hcB.trans ((Chg.alloc wB (.cells #[.int .i64 (k : Int)] 3) No).trans h62 (c := fun k => wA.heap.size ≤ k) (fun _ _ e => e.elim) (fun j _ e => (row_ge rA e).1)) (fun _ _ e => e) (fun j hj e => by omega)
            go_roundw
            case rel => exact ⟨k + 1, _, rfl, by omega, by go_num, by rw [HTS.out]; exact h61, hb6, hc6⟩
            case measure => simp [intOf]; omega
          | false =>
            rw [hsv] at hsc hts
            rw [if_neg (by simp)] at hts
            have HTS := hid hts
            have HZ := hid (And.intro hbB (And.intro hcB hrow))
            clear hsv hts hbB hcB hrow hb
            go_wp2_with fail
            obtain ⟨hbB, hcB, hrow⟩ := HZ.out
            go_roundw
            case rel => exact ⟨k + 1, _, rfl, by omega, by go_num, by rw [HTS.out]; exact hrow, hbB, hcB⟩
            case measure => simp [intOf]; omega
        · obtain rfl : k = 4096 := by omega
          have HZ := hid (And.intro hcB hrow)
          clear hbB hcB hrow hb
          go_wp2_with fail
          go_ret
          obtain ⟨hcB, hrow⟩ := HZ.out
          obtain ⟨hcells, hbl, hst, c1, c2, hmem⟩ := HX.out
          obtain ⟨hT, hc⟩ := HY.out
          refine ⟨_, tl s 4096, rfl, row_base hrow (by omega), ⟨tl_up s 4096, fun x => ?_⟩, ((c1.tr c2).trans hc (c := No) (fun _ _ e => e) (fun j hj e => by omega)).tr hcB⟩
          rw [tl_mem, hT, ← hO, List.take_length]
          exact hbl x

end Go.Proofs.Ytfkommjpofpmbaa
