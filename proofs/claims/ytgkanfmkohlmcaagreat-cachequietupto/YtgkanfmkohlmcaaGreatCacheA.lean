/-
  The calls of package cache: New, Drain, Drop, Sync, Edges, Flush.
-/
import Derived.Test.YtgkanfmkohlmcaaGreatCache9
import Derived.Test.YtgkanfmkohlmcaaGreatGraph5
namespace Go.Proofs.YtgkanfmkohlmcaaGreat
open Go.RowKit

variable {w : World} {c p g n : Nat} {ρ : Nat → Option Role} {z : CSt}

/-- A new cache. -/
def newZ (d : D.St8) : CSt := ⟨d, fun _ _ => False, fun _ => none, [], false⟩
theorem newZ_inv {d : D.St8} (hn : n ≤ 4096) (h0 : 0 ≤ d.wr) (hl : 0 ≤ d.lf ∧ d.lf ≤ 9223372036854775807) : CInv n (newZ d) :=
  ⟨fun _ _ e => e.elim, fun _ e => (by cases e), fun _ _ e => (by cases e), fun a h => (by obtain ⟨_, h⟩ := h.first; exact h), hn, h0, hl⟩
theorem sum_zero : ∀ l : List Nat, (l.map fun _ => 0).sum = 0
  | [] => rfl
  | _ :: l => by simp only [List.map_cons, List.sum_cons, sum_zero l]
theorem newZ_tb (d : D.St8) : TB (newZ d) := by
  have : tsum (newZ d).P = 0 := sum_zero _
  unfold TB
  rw [this]
  show 0 + 0 ≤ _
  omega

set_option maxRecDepth 100000 in
set_option maxHeartbeats 1000000 in
theorem newC_nil (w : World) : Calls Tryz.prog 31 #[.pointer none] w fun e w' => e = .returned (.tuple #[.pointer none, .int .i64 1]) ∧ w' = w := by
  go_enter Tryz.func31, Tryz.ntmps31
  go_wp2
  go_ret2
  exact ⟨rfl, rfl⟩

set_option maxRecDepth 100000 in
set_option maxHeartbeats 1000000 in
theorem newC_any {d : D.St8} (hd : D.IsD w p g n d) (h0 : 0 ≤ d.wr) (hl : 0 ≤ d.lf ∧ d.lf ≤ 9223372036854775807) : Calls Tryz.prog 31 #[.pointer (some ⟨p, 0, none⟩)] w fun e w' =>
    ∃ c ρ, e = .returned (.tuple #[.pointer (some ⟨c, 0, none⟩), .int .i64 0]) ∧ IsC w' c p g n ρ (newZ d) ∧ (∀ k, Own ρ k → k = p ∨ k = g ∨ w.heap.size ≤ k) ∧ w.heap.size ≤ c ∧ Chg w w' No := by
  have hmm := @run_makeMap Tryz.prog
  have HG := new_any w
  have HD := hid hd
  have HX := hid (And.intro h0 hl)
  clear hd h0 hl
  go_enter Tryz.func31, Tryz.ntmps31
  go_wp2_with (first
    | (go_at_call 57; go_must (refine HG.mono ?_; rintro e w1 ⟨gp, go, rfl, hG1, hgo, hc1⟩))
    | go_in)
  go_ret2
  have hs1 := hc1.size
  have hd := HD.out
  have hp := slt hd.me
  have hg := slt hd.row
  have hne := hd.ne
  have hc3 : Chg w1 ((w1.alloc (.map #[] 0)).alloc (.cells (CC p gp w1.heap.size (.slice none 0 0) false) 71)) No := (Chg.alloc _ _ _).tr (Chg.alloc _ _ _)
  have hc03 := hc1.tr hc3
  have hm := (MapV.made w1).keep (Chg.alloc _ (.cells (CC p gp w1.heap.size (.slice none 0 0) false) 71) No) (fun e => e)
  refine ⟨w1.heap.size + 1, fun k => if k = w1.heap.size + 1 then some .c else if k = w1.heap.size then some .mb else if k = p then some .p else if k = g then some .g else if w.heap.size ≤ k ∧ k < w1.heap.size then some .gr else none, rfl, ⟨gp, w1.heap.size, go, fun _ => .slice none 0 0, .slice none 0 0, ⟨?_, isD_keep hd hc03 (fun e => e) (fun e => e), hG1.call hc3, hm, fun x q hx => (by cases hx), World.ownsRow_nil _ _ _ _, ?_, ?_, ?_, ?_, ?_, fun x k hx => (by cases hx), fun k hk => (by simp [Value.ownBlock] at hk), ?_, newZ_inv hd.top HX.out.1 HX.out.2⟩⟩, ?_, by omega, hc03⟩
  · rw [heap_alloc_if, if_pos (by simp)]
    rfl
  · simp
  · rw [if_neg (by omega), if_neg (by omega), if_pos rfl]
  · rw [if_neg (by omega), if_neg (by omega), if_neg (fun e => hne e.symm), if_pos rfl]
  · intro k hk
    have := hgo k hk
    rw [if_neg (by omega), if_neg (by omega), if_neg (by omega), if_neg (by omega), if_pos (by omega)]
  · rw [if_neg (by omega), if_pos rfl]
  · intro k r hr
    simp only [World.size_alloc]
    split at hr
    · omega
    · split at hr
      · omega
      · split at hr
        · omega
        · split at hr
          · omega
          · split at hr
            · omega
            · cases hr
  · rintro k ⟨r, hr⟩
    simp only at hr
    split at hr
    · exact .inr (.inr (by omega))
    · split at hr
      · exact .inr (.inr (by omega))
      · split at hr
        · rename_i e; exact .inl e
        · split at hr
          · rename_i e; exact .inr (.inl e)
          · split at hr
            · rename_i e; exact .inr (.inr e.1)
            · cases hr

/-- Drain. -/
noncomputable def DrainC (n : Nat) (z : CSt) (x : Int) : CSt × Int := if refC n z [x] = 0 then drainC n z x else (z, refC n z [x])
set_option maxRecDepth 100000 in
set_option maxHeartbeats 1000000 in
theorem DrainC_any (x : Int) (h : IsC w c p g n ρ z) (ht : TB z) (hw : z.d.wr < 4611686018427380000) : Calls Tryz.prog 19 #[.pointer (some ⟨c, 0, none⟩), .int .i64 x] w fun e w' => e = .returned (.int .i64 (DrainC n z x).2) ∧ CPost w w' c p g n ρ (DrainC n z x).1 := by
  have hc1 : Chg w (w.alloc (.cells #[.int .i64 x] 3)) No := Chg.alloc _ _ _
  have HR := refusalC_any [x] (some ⟨w.heap.size, 0, none⟩) 1 (h.call hc1) (lat_one _ x) (by simp)
  simp only [List.length_singleton] at HR
  have HH := hid h
  by_cases h0 : refC n z [x] = 0
  · have e : DrainC n z x = drainC n z x := by unfold DrainC; rw [if_pos h0]
    have hx := (refC_zero h0).2 x (by simp)
    have HD := drain_any x (h.call hc1) hx ht hw
    rw [e]
    rw [h0] at HR
    have HC1 := hid hc1
    clear h hc1 e h0
    go_enter Tryz.func19, Tryz.ntmps19
    go_wp2_with (first
      | (go_at_call 32; go_must (refine HR.mono ?_; rintro e w1 ⟨rfl, rfl⟩))
      | (go_at_call 45; go_must (refine HD.mono ?_; rintro e w2 ⟨rfl, hP2⟩))
      | fail)
    go_ret
    exact ⟨rfl, CPost.step (fun _ k => k) HC1.out hP2⟩
  · have e : DrainC n z x = (z, refC n z [x]) := by unfold DrainC; rw [if_neg h0]
    rw [e]
    obtain ⟨e0, he0⟩ : ∃ e0, refC n z [x] = e0 := ⟨_, rfl⟩
    rw [he0] at HR h0 ⊢
    have hb : (e0 != 0) = true := by simpa using h0
    have HC1 := hid hc1
    clear h hc1 e h0 he0
    go_enter Tryz.func19, Tryz.ntmps19
    go_wp2_with (first
      | (go_at_call 32; go_must (refine HR.mono ?_; rintro e w1 ⟨rfl, rfl⟩))
      | fail)
    go_ret
    exact ⟨rfl, CPost.same HH.out HC1.out⟩

/-- Drop. -/
noncomputable def DropC (n : Nat) (z : CSt) (x : Int) : CSt × Int := if refC n z [x] = 0 then (forC z x, 0) else (z, refC n z [x])
set_option maxRecDepth 100000 in
set_option maxHeartbeats 1000000 in
theorem DropC_any (x : Int) (h : IsC w c p g n ρ z) : Calls Tryz.prog 20 #[.pointer (some ⟨c, 0, none⟩), .int .i64 x] w fun e w' => e = .returned (.int .i64 (DropC n z x).2) ∧ CPost w w' c p g n ρ (DropC n z x).1 := by
  have hc1 : Chg w (w.alloc (.cells #[.int .i64 x] 3)) No := Chg.alloc _ _ _
  have HR := refusalC_any [x] (some ⟨w.heap.size, 0, none⟩) 1 (h.call hc1) (lat_one _ x) (by simp)
  simp only [List.length_singleton] at HR
  have HH := hid h
  by_cases h0 : refC n z [x] = 0
  · have e : DropC n z x = (forC z x, 0) := by unfold DropC; rw [if_pos h0]
    have hx := (refC_zero h0).2 x (by simp)
    have HD := forget_any x (h.call hc1) ⟨hx.1, by have := h.inv.top; omega⟩
    rw [e]
    rw [h0] at HR
    have HC1 := hid hc1
    clear h hc1 e h0
    go_enter Tryz.func20, Tryz.ntmps20
    go_wp2_with (first
      | (go_at_call 32; go_must (refine HR.mono ?_; rintro e w1 ⟨rfl, rfl⟩))
      | (go_at_call 46; go_must (refine HD.mono ?_; rintro e w2 ⟨rfl, hP2⟩))
      | fail)
    go_ret
    exact ⟨rfl, CPost.step (fun _ k => k) HC1.out hP2⟩
  · have e : DropC n z x = (z, refC n z [x]) := by unfold DropC; rw [if_neg h0]
    rw [e]
    obtain ⟨e0, he0⟩ : ∃ e0, refC n z [x] = e0 := ⟨_, rfl⟩
    rw [he0] at HR h0 ⊢
    have hb : (e0 != 0) = true := by simpa using h0
    have HC1 := hid hc1
    clear h hc1 e h0 he0
    go_enter Tryz.func20, Tryz.ntmps20
    go_wp2_with (first
      | (go_at_call 32; go_must (refine HR.mono ?_; rintro e w1 ⟨rfl, rfl⟩))
      | fail)
    go_ret
    exact ⟨rfl, CPost.same HH.out HC1.out⟩

/-- Sync. -/
noncomputable def syncC (n : Nat) (z : CSt) : CSt × Int := wAll n (secs z.dirty).length z (secs z.dirty)
theorem sync_todo (h : CInv n z) (ht : TB z) (hw : z.d.wr < 4611686018427380000) : ToDo n z (secs z.dirty) := by
  have hl := secs_len z.dirty
  exact ⟨(secs_up _).imp fun {a b} e => by omega, fun x hx => (secs_mem.1 hx).2, fun a b hE _ => secs_mem.2 ⟨h.sec (h.ed a b hE).1, (h.ed a b hE).1⟩, ht, by omega, by omega⟩
set_option maxRecDepth 100000 in
set_option maxHeartbeats 1000000 in
theorem syncC_any (h : IsC w c p g n ρ z) (ht : TB z) (hw : z.d.wr < 4611686018427380000) : Calls Tryz.prog 24 #[.pointer (some ⟨c, 0, none⟩)] w fun e w' => e = .returned (.int .i64 (syncC n z).2) ∧ CPost w w' c p g n ρ (syncC n z).1 := by
  have HD := dirty_any h
  have HH := hid h
  have HT := hid (sync_todo h.inv ht hw)
  unfold syncC
  generalize hl : secs z.dirty = l at *
  clear h hl
  go_enter Tryz.func24, Tryz.ntmps24
  go_wp2_with (first
    | (go_at_call 11; go_must (refine HD.mono ?_; rintro e w1 ⟨v1, rfl, hv1, hc1⟩; have HW := writeAll_any _ v1 w.heap.size (HH.out.call hc1) hv1 (fun k hk ho => by have := (row_ge hv1 hk).1; have := HH.out.lt ho; omega) HT.out; have H1 := hid (And.intro hv1 hc1); clear hv1 hc1))
    | (go_at_call 48; go_must (refine HW.mono ?_; rintro e w2 ⟨rfl, hP2⟩))
    | fail)
  go_ret
  refine ⟨rfl, ?_⟩
  obtain ⟨ρ', r1, r2, r3⟩ := hP2
  have hs := H1.out.2.size
  refine ⟨ρ', r1, fun k hk => ?_, H1.out.2.trans r3 (fun _ _ e => e.elim) (fun j hj e => ?_)⟩
  · rcases r2 k hk with e | e
    · exact .inl e
    · exact .inr (by omega)
  · rcases e with e | e
    · exact e
    · have := (row_ge H1.out.1 e).1
      omega

set_option maxRecDepth 100000 in
set_option maxHeartbeats 1000000 in
theorem edgesC_any (h : IsC w c p g n ρ z) : Calls Tryz.prog 21 #[.pointer (some ⟨c, 0, none⟩)] w fun e w' => ∃ v l, e = .returned v ∧ Edgs w' w.heap.size v l ∧ EList z.E l ∧ Chg w w' No := by
  obtain ⟨gp, mb, go, tv, lv, h⟩ := h
  have k1 := h.c1
  have HE := edgesG_any h.gr
  clear h
  go_enter Tryz.func21, Tryz.ntmps21
  go_wp2_with (first
    | (go_at_call 47; go_must (refine HE.mono ?_; rintro e w1 ⟨v1, l1, rfl, h1, h2, h3⟩))
    | fail)
  go_ret
  exact ⟨v1, l1, rfl, h1, h2, h3⟩

open Classical in
/-- Flush. -/
noncomputable def flushC (n : Nat) (z : CSt) (x : Int) : CSt × Bool × Int :=
  if refC n z [x] = 0 then (if z.dirty x ∧ FreeE z.E x then ((wrC n z x).1, decide ((wrC n z x).2 = 0), (wrC n z x).2) else (z, false, 0)) else (z, false, refC n z [x])
set_option maxRecDepth 100000 in
set_option maxHeartbeats 2000000 in
theorem flushC_any (x : Int) (h : IsC w c p g n ρ z) (hIx : I64 x) (ht : TB z) (hw : z.d.wr < 4611686018427380000) : Calls Tryz.prog 14 #[.pointer (some ⟨c, 0, none⟩), .int .i64 x] w fun e w' => e = .returned (.tuple #[.bool (flushC n z x).2.1, .int .i64 (flushC n z x).2.2]) ∧ CPost w w' c p g n ρ (flushC n z x).1 := by
  have hc1 : Chg w (w.alloc (.cells #[.int .i64 x] 3)) No := Chg.alloc _ _ _
  have HR := refusalC_any [x] (some ⟨w.heap.size, 0, none⟩) 1 (h.call hc1) (lat_one _ x) (by simp)
  simp only [List.length_singleton] at HR
  have HH := hid h
  by_cases h0 : refC n z [x] = 0
  · rw [h0] at HR
    have hzp := zeroP
    have hnot : ∀ (x : Bool) (w : World), (Op.unary .not (.bool x)).run Tryz.prog w = .ok (.bool (!x)) w := fun _ _ => rfl
    obtain ⟨gp, mb, go, tv, lv, hA0⟩ := h
    have hA := hA0.call hc1
    have k2 := hA.c2
    have HM := hA.mp
    obtain ⟨C, hC, hCs, hC1⟩ := pend_val (z.P x) (tv x) (fun q hq => ⟨hA.inv.ln x q hq, ints_one (hA.tg x q hq)⟩)
    have HQ := hid (heap_alloc_new (w.alloc (.cells #[.int .i64 x] 3)) (.cells pend0 74))
    rw [World.size_alloc] at HQ
    have HCC := hid hC
    have HA := hid hA
    have HC1 := hid hc1
    have H0 := hid h0
    clear hC hA hA0 hc1 h0
    cases hd : (z.P x).isSome with
    | false =>
      have hdm : ((z.P x).map fun q => Value.agg (pend q.1 (tv x))).isSome = false := by simpa using hd
      have e : flushC n z x = (z, false, 0) := by unfold flushC; rw [if_pos H0.out, if_neg (fun e => by have := e.1; unfold CSt.dirty at this; rw [hd] at this; cases this)]
      rw [e]
      clear e
      go_enter Tryz.func14, Tryz.ntmps14
      go_wp2_with (first
        | (go_at_call 32; go_must (refine HR.mono ?_; rintro e w1 ⟨rfl, rfl⟩))
        | (at_lookup; go_must (refine wp_okV rfl _ _ rfl mb _ x (.agg C) false HCC.out hdm rfl rfl HM hIx ?_))
        | (refine D.store_row rfl 74 _ _ rfl (w.heap.size + 1) rfl C rfl pend0 HQ.out (by rw [szP, hCs]) (by rw [pend0_size, hCs]) hC1 ?_; intro w3 hw3; have hc3 : Chg w w3 No := (HC1.out.tr (Chg.alloc _ (.cells pend0 74) No)).trans (put_chg hw3) (fun _ _ e => e) (fun j hj e => by omega); clear hw3)
        | fail)
      go_ret2
      exact ⟨rfl, CPost.same HH.out hc3⟩
    | true =>
      have hdm : ((z.P x).map fun q => Value.agg (pend q.1 (tv x))).isSome = true := by simpa using hd
      by_cases hf : FreeE z.E x
      · obtain ⟨⟨z1, e1⟩, hR⟩ : ∃ r, wrC n z x = r := ⟨_, rfl⟩
        have e : flushC n z x = (z1, decide (e1 = 0), e1) := by unfold flushC; rw [if_pos H0.out, if_pos ⟨hd, hf⟩, hR]
        rw [e]
        have HRR := hid hR
        have HF0 := hid hf
        have HD0 := hid hd
        clear e hR hf hd
        go_enter Tryz.func14, Tryz.ntmps14
        go_wp2_with (first
          | (go_at_call 32; go_must (refine HR.mono ?_; rintro e w1 ⟨rfl, rfl⟩; clear HR))
          | (at_lookup; go_must (refine wp_okV rfl _ _ rfl mb _ x (.agg C) true HCC.out hdm rfl rfl HM hIx ?_; clear HM k2))
          | (refine D.store_row rfl 74 _ _ rfl (w.heap.size + 1) rfl C rfl pend0 HQ.out (by rw [szP, hCs]) (by rw [pend0_size, hCs]) hC1 ?_; intro w3 hw3; have hc3 : Chg w w3 No := (HC1.out.tr (Chg.alloc _ (.cells pend0 74) No)).trans (put_chg hw3) (fun _ _ e => e) (fun j hj e => by omega); have h3 := HA.out.call ((Chg.alloc _ (.cells pend0 74) No).trans (put_chg hw3) (c := No) (fun _ _ e => e) (fun j hj e => (by have e : j = w.heap.size + 1 := e; simp at hj; omega))); have k31 := h3.c1; have HF := free_any x h3.gr hIx; have HWr := hid (writeC_any x (HH.out.call hc3) HD0.out ht (by omega)); have HC3 := hid hc3; clear hw3 h3 hc3)
          | (go_at_call 37; go_must (refine HF.mono ?_; rintro e w4 ⟨r, rfl, hr, rfl⟩; obtain rfl : r = true := hr.2 HF0.out; clear HF hr; have HW2 := HWr.out; rw [HRR.out] at HW2; clear HWr))
          | (go_at_call 39; go_must (refine HW2.mono ?_; rintro e w5 ⟨rfl, hP5⟩))
          | fail)
        go_ret2
        exact ⟨by simp only [show decide (e1 = 0) = (e1 == 0) from by by_cases h : e1 = 0 <;> simp [h]]; rfl, CPost.step (fun _ k => k) HC3.out hP5⟩
      · have e : flushC n z x = (z, false, 0) := by unfold flushC; rw [if_pos H0.out, if_neg (fun e => hf e.2)]
        rw [e]
        have HF0 := hid hf
        clear e hf hd
        go_enter Tryz.func14, Tryz.ntmps14
        go_wp2_with (first
          | (go_at_call 32; go_must (refine HR.mono ?_; rintro e w1 ⟨rfl, rfl⟩; clear HR))
          | (at_lookup; go_must (refine wp_okV rfl _ _ rfl mb _ x (.agg C) true HCC.out hdm rfl rfl HM hIx ?_; clear HM k2))
          | (refine D.store_row rfl 74 _ _ rfl (w.heap.size + 1) rfl C rfl pend0 HQ.out (by rw [szP, hCs]) (by rw [pend0_size, hCs]) hC1 ?_; intro w3 hw3; have hc3 : Chg w w3 No := (HC1.out.tr (Chg.alloc _ (.cells pend0 74) No)).trans (put_chg hw3) (fun _ _ e => e) (fun j hj e => by omega); have h3 := HA.out.call ((Chg.alloc _ (.cells pend0 74) No).trans (put_chg hw3) (c := No) (fun _ _ e => e) (fun j hj e => (by have e : j = w.heap.size + 1 := e; simp at hj; omega))); have k31 := h3.c1; have HF := free_any x h3.gr hIx; have HC3 := hid hc3; clear hw3 h3 hc3)
          | (go_at_call 37; go_must (refine HF.mono ?_; rintro e w4 ⟨r, rfl, hr, rfl⟩; obtain rfl : r = false := (by cases r; rfl; exact absurd (hr.1 rfl) HF0.out); clear HF hr))
          | fail)
        go_ret2
        exact ⟨rfl, CPost.same HH.out HC3.out⟩
  · have e : flushC n z x = (z, false, refC n z [x]) := by unfold flushC; rw [if_neg h0]
    rw [e]
    obtain ⟨e0, he0⟩ : ∃ e0, refC n z [x] = e0 := ⟨_, rfl⟩
    rw [he0] at HR h0 ⊢
    have hb : (e0 != 0) = true := by simpa using h0
    have HC1 := hid hc1
    clear h hc1 e h0 he0
    go_enter Tryz.func14, Tryz.ntmps14
    go_wp2_with (first
      | (go_at_call 32; go_must (refine HR.mono ?_; rintro e w1 ⟨rfl, rfl⟩))
      | fail)
    go_ret2
    exact ⟨rfl, CPost.same HH.out HC1.out⟩

end Go.Proofs.YtgkanfmkohlmcaaGreat
