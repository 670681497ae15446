/-
  The document's cache: is it a sector, an error that is heard, what is dirty, what may land.
-/
import Derived.Test.YtamoepninddbcaaGreatKC
namespace Go.Proofs.YtamoepninddbcaaGreat
open Go.RowKit

section
variable {r rd n : Nat} {ρ : Nat → Option RRole} {z : CSt}
set_option maxHeartbeats 2000000 in
set_option maxRecDepth 100000 in
theorem rthere_any (x : Int) (w : World) (h : IsRC w r rd n ρ z) : Calls Tryz.prog 71 #[.pointer (some ⟨r, 0, none⟩), .int .i64 x] w fun e w' => e = .returned (.bool (okN n x)) ∧ w' = w := by
  obtain ⟨rk, rc, X, v0, v1, lv, tv, W, h⟩ := h
  have hL := D.rlen_any w h.dk
  have q0 := h.c0
  have n1 : (n : Int) ≤ 4096 := by have := h.inv.top; omega
  obtain ⟨R, hR⟩ : ∃ y, y = okN n x := ⟨_, rfl⟩
  rw [← hR]
  unfold okN at hR
  clear h
  by_cases h0 : 0 ≤ x
  · rw [decide_eq_true h0] at hR
    by_cases h1 : x < n
    · rw [decide_eq_true h1] at hR
      subst hR
      go_enter Tryz.func71, Tryz.ntmps71
      go_wp2_with (first
        | (go_at_call 53; go_must (refine hL.mono ?_; rintro e w' ⟨rfl, hw⟩; have hw := hw.symm; subst hw))
        | fail)
      go_ret
      exact ⟨rfl, rfl⟩
    · rw [decide_eq_false h1] at hR
      subst hR
      go_enter Tryz.func71, Tryz.ntmps71
      go_wp2_with (first
        | (go_at_call 53; go_must (refine hL.mono ?_; rintro e w' ⟨rfl, hw⟩; have hw := hw.symm; subst hw))
        | fail)
      go_ret
      exact ⟨congrArg (fun b => Ending.returned (.bool b)) (decide_eq_false (Int.not_lt.2 h1)), rfl⟩
  · rw [decide_eq_false h0] at hR
    subst hR
    go_enter Tryz.func71, Tryz.ntmps71
    go_wp2_with (first
      | (go_at_call 53; go_must (refine hL.mono ?_; rintro e w' ⟨rfl, hw⟩; have hw := hw.symm; subst hw))
      | fail)
    go_ret
    exact ⟨rfl, rfl⟩
/-- The disk is lost. -/
theorem IsRC0.lose {w : World} {rk rc : Nat} {X : Array Value} {v0 v1 lv : Value} {tv : Int → Value} {W : List (Int × Int)} (h : IsRC0 w r rd rk n rc X v0 v1 lv tv W ρ z) : IsRC0 (w.setCell ⟨r, 4, none⟩ (.bool true)) r rd rk n rc X v0 v1 lv tv W ρ ⟨z.d, z.E, z.P, z.ld, true⟩ ∧ Chg w (w.setCell ⟨r, 4, none⟩ (.bool true)) (· = r) := by
  have hc : Chg w (w.setCell ⟨r, 4, none⟩ (.bool true)) (· = r) := Chg.setCell
  have hne : ∀ {k : Nat} {q : RRole}, ρ k = some q → q ≠ .me → ¬ k = r := fun hk hq e => ownR_not hk h.rm hq e
  refine ⟨⟨heap_setCell_same w r 4 _ _ _ h.me, isQ_keep h.dk hc (hne h.rd_ (by intro e; cases e)) (hne h.rs (by intro e; cases e)), row_keep h.it hc fun k hk => hne (h.ri k hk) (by intro e; cases e), row_keep h.wy hc fun k hk => hne (h.rw_ k hk) (by intro e; cases e),
    fun x q hx => row_keep (h.tg x q hx) hc fun k hk => hne (h.rt x k (by unfold CSt.dirty; rw [show z.P x = some q from hx]; rfl) hk) (by intro e; cases e), row_keep h.ld hc fun k hk => hne (h.rl k hk) (by intro e; cases e),
    h.wd, h.we, h.rm, h.rd_, h.rs, h.ri, h.rw_, h.rt, h.rl, fun k q hk => Nat.lt_of_lt_of_le (h.lt k q hk) hc.size, ⟨h.inv.ed, h.inv.ok, h.inv.ln, h.inv.ring, h.inv.top, h.inv.w0, h.inv.lf⟩⟩, hc⟩
set_option maxHeartbeats 2000000 in
set_option maxRecDepth 100000 in
theorem rheard_any (e : Int) (w : World) (h : IsRC w r rd n ρ z) : Calls Tryz.prog 103 #[.pointer (some ⟨r, 0, none⟩), .int .i64 e] w fun e' w' => e' = .returned (.int .i64 e) ∧ IsRC w' r rd n ρ (hearC z e) ∧ Chg w w' (· = r) := by
  obtain ⟨rk, rc, X, v0, v1, lv, tv, W, h⟩ := h
  unfold hearC
  by_cases he : e = 22
  · rw [if_pos he]
    have hl := h.lose
    have HL : Hid (IsRC (w.setCell ⟨r, 4, none⟩ (.bool true)) r rd n ρ ⟨z.d, z.E, z.P, z.ld, true⟩) := hid ⟨rk, rc, X, v0, v1, lv, tv, W, hl.1⟩
    have HC := hid hl.2
    have q4 := h.c4
    have hf := frozen_of_row (j := 4) _ _ _ _ h.me
    subst he
    clear h hl
    go_enter Tryz.func103, Tryz.ntmps103
    go_wp2_with fail
    go_ret
    exact ⟨rfl, HL.out, HC.out⟩
  · rw [if_neg he]
    have z1 : (e == 22) = false := beq_eq_false_iff_ne.2 he
    have HH : Hid (IsRC w r rd n ρ z) := hid ⟨rk, rc, X, v0, v1, lv, tv, W, h⟩
    clear h
    go_enter Tryz.func103, Tryz.ntmps103
    go_wp2_with fail
    go_ret
    exact ⟨rfl, HH.out, Chg.refl _ _⟩
theorem take_one {l : List Int} {i : Nat} {x : Int} (h : l[i]? = some x) : l.take (i + 1) = l.take i ++ [x] := by rw [List.take_add_one, h]; rfl
set_option maxHeartbeats 4000000 in
set_option maxRecDepth 100000 in
theorem rdirty_any (w : World) (h : IsRC w r rd n ρ z) : Calls Tryz.prog 78 #[.pointer (some ⟨r, 0, none⟩)] w fun e w' => ∃ v, e = .returned v ∧ Ints w' w.heap.size v (secs z.dirty) ∧ Chg w w' No := by
  obtain ⟨rk, rc, X, v0, v1, lv, tv, W, h⟩ := h
  have hn4 := secs_len z.dirty
  obtain ⟨m, hm⟩ : ∃ y, y = (secs z.dirty).length := ⟨_, rfl⟩
  obtain ⟨a, cp, hpv⟩ := row_shK h.it
  have n1 : (m : Int) ≤ 4096 := by omega
  have HM := hid hm
  have H := hid h
  have HPv := hid hpv
  have HK1 : Hid (∀ W', Chg w W' No → W'.cell? ⟨r, 1, none⟩ = some (.slice a m cp)) := hid (fun W' hW => by
    have := (h.call hW).c1
    rw [hpv, ← hm] at this
    exact this)
  clear hm h hpv hn4
  go_enter Tryz.func78, Tryz.ntmps78
  go_upto_region 3 with fail
  go_loopw [3, 4] (fun x3 x4 wr => ∃ (v : Value) (i : Nat), v = x3 ∧ x4 = .int .i64 (i : Int) ∧ i ≤ m ∧ Hid (Ints wr w.heap.size v ((secs z.dirty).take i) ∧ Chg w wr No)) (fun _ x4 _ => m - (intOf x4).toNat)
  case atStart => exact ⟨_, 0, rfl, rfl, Nat.zero_le _, hid ⟨World.ownsRow_nil _ _ _ _, Chg.refl _ _⟩⟩
  case round =>
    obtain ⟨v, i, rfl, rfl, hi, HA⟩ := hrel
    have i0 : (0 : Int) ≤ (i : Int) := by omega
    have q1 := HK1.out wr HA.out.2
    by_cases hlt : i < m
    · have i1 : (i : Int) < (m : Int) := by omega
      obtain ⟨y, he⟩ : ∃ e, (secs z.dirty)[i]? = some e := ⟨_, List.getElem?_eq_getElem (by rw [← HM.out]; exact hlt)⟩
      obtain ⟨ga, cp2, h1, _, p1, _⟩ := (H.out.call HA.out.2).item he
      rw [HPv.out, ← HM.out] at h1
      cases h1
      have HTk := hid (take_one he)
      have HI5 : Hid (Ints (wr.alloc (.cells #[.int .i64 y] 3)) w.heap.size v ((secs z.dirty).take i)) := hid (row_keep HA.out.1 (Chg.alloc wr (.cells #[.int .i64 y] 3) No) (fun _ _ e => e))
      have hcell : (wr.alloc (.cells #[.int .i64 y] 3)).cell? ⟨wr.heap.size, 0, none⟩ = some (.int .i64 y) := (cell_of_row _ _ _ _ _ _ (heap_alloc_new _ _)).trans rfl
      have HLn : Hid (((secs z.dirty).take i).length ≤ 4096) := hid (by rw [List.length_take]; have := HM.out; omega)
      clear he
      go_wp2_with (first
        | (at_builtin; go_must (refine wp_appI rfl _ _ rfl w.heap.size wr.heap.size 1 _ ((secs z.dirty).take i) y rfl rfl HI5.out hcell (by have := HLn.out; omega) (by have := HA.out.2.size; simp; omega) ?_; intro v5 w5 h51 h52 h53; have H51 := hid h51; have H52 := hid h52; clear h51 h52 h53))
        | fail)
      exact ⟨⟨v5, i + 1, rfl, by go_num, by omega, hid ⟨by rw [HTk.out]; exact H51.out, (HA.out.2.tr (Chg.alloc wr (.cells #[.int .i64 y] 3) No)).trans H52.out (fun _ _ e => e) (fun j hj e => by have := (row_ge HI5.out e).1; omega)⟩⟩, by simp [intOf]; omega⟩
    · have i1 : ¬ (i : Int) < (m : Int) := by omega
      have HF : Hid (Ints wr w.heap.size v (secs z.dirty)) := hid (by
        have := HA.out.1
        rw [List.take_of_length_le (by rw [← HM.out]; omega)] at this
        exact this)
      go_wp2_with fail
      go_ret
      exact ⟨_, rfl, HF.out, HA.out.2⟩
open Classical in
/-- Those of a list that may land. -/
noncomputable def frL (z : CSt) (l : List Int) : List Int := l.filter fun x => decide (FreeE z.E x)
open Classical in
theorem frL_secs (z : CSt) : frL z (secs z.dirty) = secs fun x => z.dirty x ∧ FreeE z.E x := by
  unfold frL secs
  rw [List.filter_filter]
  refine List.filter_congr fun x _ => ?_
  rw [← Bool.decide_and]
  exact decide_eq_decide.2 ⟨fun h => ⟨h.2, h.1⟩, fun h => ⟨h.2, h.1⟩⟩
open Classical in
theorem frL_snoc (z : CSt) (l : List Int) (x : Int) : frL z (l ++ [x]) = frL z l ++ if FreeE z.E x then [x] else [] := by
  unfold frL
  rw [List.filter_append]
  congr 1
  by_cases h : FreeE z.E x
  · rw [if_pos h]; simp [h]
  · rw [if_neg h]; simp [h]
open Classical in
set_option maxHeartbeats 4000000 in
set_option maxRecDepth 100000 in
theorem relig_any (w : World) (h : IsRC w r rd n ρ z) : Calls Tryz.prog 85 #[.pointer (some ⟨r, 0, none⟩)] w fun e w' => ∃ v, e = .returned v ∧ Ints w' w.heap.size v (secs fun x => z.dirty x ∧ FreeE z.E x) ∧ Chg w w' No := by
  rw [← frL_secs]
  have HLd : Hid (∀ (x : Int) (W : World), Chg w W No → Calls Tryz.prog 75 #[.pointer (some ⟨r, 0, none⟩), .int .i64 x] W fun e w' => e = .returned (.bool (decide (¬ FreeE z.E x))) ∧ w' = W) := hid (fun x W hW => rled_any x W (h.call hW))
  obtain ⟨rk, rc, X, v0, v1, lv, tv, W, h⟩ := h
  have hn4 := secs_len z.dirty
  obtain ⟨m, hm⟩ : ∃ y, y = (secs z.dirty).length := ⟨_, rfl⟩
  obtain ⟨a, cp, hpv⟩ := row_shK h.it
  have n1 : (m : Int) ≤ 4096 := by omega
  have HM := hid hm
  have H := hid h
  have HPv := hid hpv
  have HK1 : Hid (∀ W', Chg w W' No → W'.cell? ⟨r, 1, none⟩ = some (.slice a m cp)) := hid (fun W' hW => by
    have := (h.call hW).c1
    rw [hpv, ← hm] at this
    exact this)
  clear hm h hpv hn4
  go_enter Tryz.func85, Tryz.ntmps85
  go_upto_region 3 with fail
  go_loopw [3, 4] (fun x3 x4 wr => ∃ (v : Value) (i : Nat), v = x3 ∧ x4 = .int .i64 (i : Int) ∧ i ≤ m ∧ Hid (Ints wr w.heap.size v (frL z ((secs z.dirty).take i)) ∧ Chg w wr No)) (fun _ x4 _ => m - (intOf x4).toNat)
  case atStart => exact ⟨_, 0, rfl, rfl, Nat.zero_le _, hid ⟨World.ownsRow_nil _ _ _ _, Chg.refl _ _⟩⟩
  case round =>
    obtain ⟨v, i, rfl, rfl, hi, HA⟩ := hrel
    have i0 : (0 : Int) ≤ (i : Int) := by omega
    have q1 := HK1.out wr HA.out.2
    by_cases hlt : i < m
    · have i1 : (i : Int) < (m : Int) := by omega
      obtain ⟨y, he⟩ : ∃ e, (secs z.dirty)[i]? = some e := ⟨_, List.getElem?_eq_getElem (by rw [← HM.out]; exact hlt)⟩
      obtain ⟨ga, cp2, h1, _, p1, _⟩ := (H.out.call HA.out.2).item he
      rw [HPv.out, ← HM.out] at h1
      cases h1
      have HTk := hid (take_one he)
      have hLd := HLd.out y wr HA.out.2
      clear he
      by_cases hf : FreeE z.E y
      · rw [decide_eq_false (fun c => c hf)] at hLd
        have HFr : Hid (frL z ((secs z.dirty).take (i + 1)) = frL z ((secs z.dirty).take i) ++ [y]) := hid (by rw [HTk.out, frL_snoc, if_pos hf])
        have HI5 : Hid (Ints (wr.alloc (.cells #[.int .i64 y] 3)) w.heap.size v (frL z ((secs z.dirty).take i))) := hid (row_keep HA.out.1 (Chg.alloc wr (.cells #[.int .i64 y] 3) No) (fun _ _ e => e))
        have hcell : (wr.alloc (.cells #[.int .i64 y] 3)).cell? ⟨wr.heap.size, 0, none⟩ = some (.int .i64 y) := (cell_of_row _ _ _ _ _ _ (heap_alloc_new _ _)).trans rfl
        have HLn : Hid ((frL z ((secs z.dirty).take i)).length ≤ 4096) := hid (by
          have h9 := List.length_filter_le (fun x => decide (FreeE z.E x)) ((secs z.dirty).take i)
          rw [List.length_take] at h9
          have := HM.out
          unfold frL
          omega)
        clear hf
        go_wp2_with (first
          | (go_at_call 75; go_must (refine hLd.mono ?_; rintro e w' ⟨rfl, hw⟩; have hw := hw.symm; subst hw))
          | (at_builtin; go_must (refine wp_appI rfl _ _ rfl w.heap.size wr.heap.size 1 _ (frL z ((secs z.dirty).take i)) y rfl rfl HI5.out hcell (by have := HLn.out; omega) (by have := HA.out.2.size; simp; omega) ?_; intro v5 w5 h51 h52 h53; have H51 := hid h51; have H52 := hid h52; clear h51 h52 h53))
          | fail)
        exact ⟨⟨v5, i + 1, rfl, by go_num, by omega, hid ⟨by rw [HFr.out]; exact H51.out, (HA.out.2.tr (Chg.alloc wr (.cells #[.int .i64 y] 3) No)).trans H52.out (fun _ _ e => e) (fun j hj e => by have := (row_ge HI5.out e).1; omega)⟩⟩, by simp [intOf]; omega⟩
      · rw [decide_eq_true (show ¬ FreeE z.E y from hf)] at hLd
        have HFr : Hid (frL z ((secs z.dirty).take (i + 1)) = frL z ((secs z.dirty).take i)) := hid (by rw [HTk.out, frL_snoc, if_neg hf, List.append_nil])
        clear hf
        go_wp2_with (first
          | (go_at_call 75; go_must (refine hLd.mono ?_; rintro e w' ⟨rfl, hw⟩; have hw := hw.symm; subst hw))
          | fail)
        exact ⟨⟨v, i + 1, rfl, by go_num, by omega, hid ⟨by rw [HFr.out]; exact HA.out.1, HA.out.2⟩⟩, by simp [intOf]; omega⟩
    · have i1 : ¬ (i : Int) < (m : Int) := by omega
      have HF : Hid (Ints wr w.heap.size v (frL z (secs z.dirty))) := hid (by
        have := HA.out.1
        rw [List.take_of_length_le (by rw [← HM.out]; omega)] at this
        exact this)
      go_wp2_with fail
      go_ret
      exact ⟨_, rfl, HF.out, HA.out.2⟩
end
end Go.Proofs.YtamoepninddbcaaGreat
