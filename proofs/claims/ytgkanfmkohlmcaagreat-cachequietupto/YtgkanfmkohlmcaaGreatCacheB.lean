/-
  Stands: what the disk has; the loss of the disk is marked.
-/
import Derived.Test.YtgkanfmkohlmcaaGreatCacheA
namespace Go.Proofs.YtgkanfmkohlmcaaGreat
open Go.RowKit

variable {w : World} {c p g n : Nat} {ρ : Nat → Option Role} {z : CSt}

theorem load_errno (w : World) (b : Nat) (e : Int) (hb : w.cell? ⟨b, 0, none⟩ = some (.int .i64 e)) : (loadVar 38 ⟨b, 0, none⟩).run Tryz.prog w = .ok (.int .i64 e) w := by
  have h1 : (isAgg 38).run Tryz.prog w = .ok false w := Tryz.isAgg38 w
  simp [loadVar, Sem.run_bind, h1, go_sem, hb]
theorem results_two {fn : Func} {p u : Tmp} (h : fn.results = #[.cell p 46, .cell u 38]) (tmps : Array Value) (w : World) (g b : Nat) (s : List Int) (hs : s.length = 128) (e : Int)
    (hp : tmps.getD p undef = .pointer (some ⟨g, 0, none⟩)) (hu : tmps.getD u undef = .pointer (some ⟨b, 0, none⟩)) (hg : w.heap[g]? = some (.cells (D.SA s) 46 (0, 0))) (hb : w.cell? ⟨b, 0, none⟩ = some (.int .i64 e)) :
    (results fn tmps).run Tryz.prog w = .ok (.tuple #[.agg (D.SA s), .int .i64 e]) w := by
  have hp' : tmps[p]?.getD undef = .pointer (some ⟨g, 0, none⟩) := by simpa using hp
  have hu' : tmps[u]?.getD undef = .pointer (some ⟨b, 0, none⟩) := by simpa using hu
  simp [results, h, hp', hu', asAddr, run_loadVar_row w g 46 46 (D.SA s) (0, 0) _ hg Tryz.underlying46 rfl (by rw [D.sz26, D.SA_size, hs]), load_errno w b e hb]
/-- The disk is lost, if it said so. -/
def hearC (z : CSt) (e : Int) : CSt := if e = 22 then ⟨z.d, z.E, z.P, z.ld, true⟩ else z
/-- Stands. -/
def standC (n : Nat) (z : CSt) (x : Int) : CSt × List Int × Int :=
  if refC n z [x] = 0 then (hearC z (D.refE z.d n x), D.readS z.d n x, D.refE z.d n x) else (z, D.Zs, refC n z [x])
theorem wrote_chg {w w' : World} {g : Nat} {s : List Int} (h : D.Wrote w g s w') : Chg w w' (· = g) := ⟨h.os, h.tape, h.output, Nat.le_of_eq h.size.symm, fun k _ hn => h.other k hn⟩
theorem isC_lost {w : World} {gp mb : Nat} {go : Nat → Prop} {tv : Int → Value} {lv : Value} (h : IsC0 w c p g n gp mb go tv lv ρ z) : IsC0 (w.setCell ⟨c, 4, none⟩ (.bool true)) c p g n gp mb go tv lv ρ ⟨z.d, z.E, z.P, z.ld, true⟩ :=
  isC_down h h.dk (Chg.refl _ _) h.inv.w0 h.inv.lf
def SW (w : World) (x : Int) : World := (((w.alloc (.cells (D.SA D.Zs) 46)).alloc (.cells #[.int .i64 0] 38)).alloc (.cells #[.int .i64 x] 3))
theorem SW_chg (w : World) (x : Int) : Chg w (SW w x) No := ((Chg.alloc _ _ _).tr (Chg.alloc _ _ _)).tr (Chg.alloc _ _ _)
theorem SW_0 (w : World) (x : Int) : (SW w x).heap[w.heap.size]? = some (.cells (D.SA D.Zs) 46 (0, 0)) := by
  unfold SW
  rw [heap_alloc_if, if_neg (by simp; omega), heap_alloc_if, if_neg (by simp), heap_alloc_if, if_pos rfl]
theorem SW_1 (w : World) (x : Int) : (SW w x).heap[w.heap.size + 1]? = some (.cells #[.int .i64 0] 38 (0, 0)) := by
  unfold SW
  rw [heap_alloc_if, if_neg (by simp), heap_alloc_if, if_pos (by simp)]

set_option maxRecDepth 100000 in
set_option maxHeartbeats 2000000 in
theorem standC_any (x : Int) (h : IsC w c p g n ρ z) : Calls Tryz.prog 16 #[.pointer (some ⟨c, 0, none⟩), .int .i64 x] w fun e w' => e = .returned (.tuple #[.agg (D.SA (standC n z x).2.1), .int .i64 (standC n z x).2.2]) ∧ CPost w w' c p g n ρ (standC n z x).1 := by
  have hzs := D.zero_sec
  have hbz := D.build_sec
  have HR := refusalC_any [x] (some ⟨w.heap.size + 1 + 1, 0, none⟩) 1 (h.call (SW_chg w x)) (by
    have := lat_one ((w.alloc (.cells (D.SA D.Zs) 46)).alloc (.cells #[.int .i64 0] 38)) x
    simp only [World.size_alloc] at this
    exact this) (by simp)
  simp only [List.length_singleton] at HR
  have HH := hid h
  have HS0 := hid (SW_0 w x)
  have HS1 := hid (SW_1 w x)
  have HSC := hid (SW_chg w x)
  by_cases h0 : refC n z [x] = 0
  · have e : standC n z x = (hearC z (D.refE z.d n x), D.readS z.d n x, D.refE z.d n x) := by unfold standC; rw [if_pos h0]
    rw [e]
    rw [h0] at HR
    obtain ⟨gp, mb, go, tv, lv, hA⟩ := h.call (SW_chg w x)
    have k0 := hA.c0
    have HRd := D.read_any x (SW w x) hA.dk
    have hlen := D.readS_len hA.dk x
    have hrf : D.refE z.d n x = 0 ∨ D.refE z.d n x = 22 := by
      have hx := (refC_zero h0).2 x (by simp)
      unfold D.refE
      by_cases hd : z.d.dn = true
      · rw [if_pos hd]; exact .inr rfl
      · rw [if_neg hd, if_neg (by omega)]; exact .inl rfl
    have HA := hid hA
    clear h e h0 hA
    generalize D.readS z.d n x = s at *
    generalize D.refE z.d n x = e0 at *
    unfold SW at k0 HRd HR HS0 HS1 HSC HA
    go_enter_defers Tryz.func16, Tryz.ntmps16
    go_wp2_with (first
      | (go_at_call 32; go_must (refine HR.mono ?_; rintro e w1 ⟨rfl, rfl⟩; clear HR))
      | (go_at_call 41; go_must (refine HRd.mono ?_; rintro e w2 ⟨rfl, hb2⟩; have hc2 := Chg.of_below hb2 No; have HQ2 := hid (hc2.keep HS0.out (fun e => e)); have HE2 := hid (hc2.keep HS1.out (fun e => e)); have HC2 := hid hc2; clear HRd hb2 hc2))
      | (refine D.store_sec rfl _ _ rfl w.heap.size rfl s rfl hlen D.Zs D.Zs_len HQ2.out ?_; intro w3 hw3; have hE3 : w3.heap[w.heap.size + 1]? = _ := (hw3.other _ (by omega)).trans HE2.out; have kE3 := cell0 hE3; have fE3 := frozen_of_row w3 (w.heap.size + 1) 0 _ _ hE3; have HE3 := hid hE3; have HQ3 := hid hw3.here; have HC3 := hid (HC2.out.trans (wrote_chg hw3) (c := (· = w.heap.size)) (fun _ _ e => e.elim) (fun _ _ e => e)); clear hw3 hE3)
      | go_in)
    have hc03 : Chg w w3 No := HSC.out.trans HC3.out (fun _ _ e => e) (fun j hj e => by omega)
    have hc04 : Chg w (w3.setCell ⟨w.heap.size + 1, 0, none⟩ (.int .i64 e0)) No := hc03.trans Chg.setCell (fun _ _ e => e) (fun j hj e => by omega)
    obtain ⟨gp4, mb4, go4, tv4, lv4, h4⟩ := HH.out.call hc04
    have hbe : (w3.setCell ⟨w.heap.size + 1, 0, none⟩ (.int .i64 e0)).heap[w.heap.size + 1]? = _ := heap_setCell_same w3 (w.heap.size + 1) 0 _ _ _ HE3.out
    have hq4 : (w3.setCell ⟨w.heap.size + 1, 0, none⟩ (.int .i64 e0)).heap[w.heap.size]? = _ := (heap_setCell_other w3 ⟨w.heap.size + 1, 0, none⟩ w.heap.size _ (by simp)).trans HQ3.out
    have hlc := HH.out.lt ⟨_, h4.rc⟩
    refine leaves_cons (f := 40) (args := #[.pointer (some ⟨c, 0, none⟩), .pointer (some ⟨w.heap.size + 1, 0, none⟩)]) (by simp) (by simp [go_sem]) ?_
    refine (markLoss_d (w.heap.size + 1) e0 .returning _ c ?_ _ h4.c4 (h4.fz 4)).mono ?_
    · rw [cell_of_row _ _ _ _ _ _ hbe]; rfl
    rintro e u' w'' ⟨rfl, rfl, rfl⟩
    rcases hrf with rfl | rfl
    · rw [if_neg (by decide)]
      refine ⟨_, results_two Tryz.results16 _ _ w.heap.size (w.heap.size + 1) s hlen 0 rfl rfl hq4 (by rw [cell_of_row _ _ _ _ _ _ hbe]; rfl), rfl, ?_⟩
      have e : hearC z 0 = z := by unfold hearC; rw [if_neg (by decide)]
      rw [e]
      exact CPost.same HH.out hc04
    · rw [if_pos rfl]
      have hbe2 : ((w3.setCell ⟨w.heap.size + 1, 0, none⟩ (.int .i64 22)).setCell ⟨c, 4, none⟩ (.bool true)).heap[w.heap.size + 1]? = _ := (heap_setCell_other _ ⟨c, 4, none⟩ (w.heap.size + 1) _ (by simp; omega)).trans hbe
      have hq5 : ((w3.setCell ⟨w.heap.size + 1, 0, none⟩ (.int .i64 22)).setCell ⟨c, 4, none⟩ (.bool true)).heap[w.heap.size]? = _ := (heap_setCell_other _ ⟨c, 4, none⟩ w.heap.size _ (by simp; omega)).trans hq4
      refine ⟨_, results_two Tryz.results16 _ _ w.heap.size (w.heap.size + 1) s hlen 22 rfl rfl hq5 (by rw [cell_of_row _ _ _ _ _ _ hbe2]; rfl), rfl, ?_⟩
      have e : hearC z 22 = ⟨z.d, z.E, z.P, z.ld, true⟩ := by unfold hearC; rw [if_pos rfl]
      rw [e]
      refine ⟨ρ, ⟨gp4, mb4, go4, tv4, lv4, isC_lost h4⟩, fun _ k => .inl k, hc04.trans Chg.setCell (fun _ _ e => e.elim) (fun j _ e => ?_)⟩
      have e : j = c := e
      subst e
      exact ⟨_, h4.rc⟩
  · have e : standC n z x = (z, D.Zs, refC n z [x]) := by unfold standC; rw [if_neg h0]
    rw [e]
    obtain ⟨e0, he0⟩ : ∃ e0, refC n z [x] = e0 := ⟨_, rfl⟩
    rw [he0] at HR h0 ⊢
    have hb : (e0 != 0) = true := by simpa using h0
    clear h e h0 he0
    have hE0 := HS1.out
    have kE0 := cell0 hE0
    have fE0 := frozen_of_row (SW w x) (w.heap.size + 1) 0 _ _ hE0
    clear hE0
    unfold SW at HR HS0 HS1 HSC kE0 fE0
    go_enter_defers Tryz.func16, Tryz.ntmps16
    go_wp2_with (first
      | (go_at_call 32; go_must (refine HR.mono ?_; rintro e w1 ⟨rfl, rfl⟩; clear HR))
      | (refine D.store_sec rfl _ _ rfl w.heap.size rfl D.Zs rfl D.Zs_len D.Zs D.Zs_len HS0.out ?_; intro w3 hw3; have hE3 : w3.heap[w.heap.size + 1]? = _ := (hw3.other _ (by omega)).trans HS1.out; have kE3 := cell0 hE3; have fE3 := frozen_of_row w3 (w.heap.size + 1) 0 _ _ hE3; have HE3 := hid hE3; have HQ3 := hid hw3.here; have HC3 := hid (HSC.out.trans (wrote_chg hw3) (c := No) (fun _ _ e => e) (fun j hj e => by omega)); clear hw3 hE3)
      | go_in)
    have hbe : (w3.setCell ⟨w.heap.size + 1, 0, none⟩ (.int .i64 e0)).heap[w.heap.size + 1]? = _ := heap_setCell_same w3 (w.heap.size + 1) 0 _ _ _ HE3.out
    have hq4 : (w3.setCell ⟨w.heap.size + 1, 0, none⟩ (.int .i64 e0)).heap[w.heap.size]? = _ := (heap_setCell_other w3 ⟨w.heap.size + 1, 0, none⟩ w.heap.size _ (by simp)).trans HQ3.out
    refine door_nil _ (results_two Tryz.results16 _ _ w.heap.size (w.heap.size + 1) D.Zs D.Zs_len e0 rfl rfl hq4 (by rw [cell_of_row _ _ _ _ _ _ hbe]; rfl)) ⟨rfl, CPost.same HH.out (HC3.out.trans Chg.setCell (fun _ _ e => e) (fun j hj e => by omega))⟩

end Go.Proofs.YtgkanfmkohlmcaaGreat
