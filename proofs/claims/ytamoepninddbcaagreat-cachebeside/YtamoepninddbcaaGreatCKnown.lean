/-
  What stands behind the steps of known, without a program.
-/
import Derived.Test.YtamoepninddbcaaGreatCacheA
namespace Go.Proofs.YtamoepninddbcaaGreat
open Go.RowKit

variable {w : World} {c p g n : Nat} {ρ : Nat → Option Role} {z : CSt}

theorem load_errno (w : World) (b : Nat) (e : Int) (hb : w.cell? ⟨b, 0, none⟩ = some (.int .i64 e)) : (loadVar 41 ⟨b, 0, none⟩).run Tryz.prog w = .ok (.int .i64 e) w := by
  have h1 : (isAgg 41).run Tryz.prog w = .ok false w := Tryz.isAgg41 w
  simp [loadVar, Sem.run_bind, h1, go_sem, hb]
theorem results_two {fn : Func} {p u : Tmp} (h : fn.results = #[.cell p 47, .cell u 41]) (tmps : Array Value) (w : World) (g b : Nat) (s : List Int) (hs : s.length = 128) (e : Int)
    (hp : tmps.getD p undef = .pointer (some ⟨g, 0, none⟩)) (hu : tmps.getD u undef = .pointer (some ⟨b, 0, none⟩)) (hg : w.heap[g]? = some (.cells (D.SA s) 47 (0, 0))) (hb : w.cell? ⟨b, 0, none⟩ = some (.int .i64 e)) :
    (results fn tmps).run Tryz.prog w = .ok (.tuple #[.agg (D.SA s), .int .i64 e]) w := by
  have hp' : tmps[p]?.getD undef = .pointer (some ⟨g, 0, none⟩) := by simpa using hp
  have hu' : tmps[u]?.getD undef = .pointer (some ⟨b, 0, none⟩) := by simpa using hu
  simp [results, h, hp', hu', asAddr, run_loadVar_row w g 47 47 (D.SA s) (0, 0) _ hg Tryz.underlying47 rfl (by rw [D.sz26, D.SA_size, hs]), load_errno w b e hb]
/-- The disk is lost, if it said so. -/
def hearC (z : CSt) (e : Int) : CSt := if e = 22 then ⟨z.d, z.E, z.P, z.ld, true⟩ else z
/-- Stands. -/
def standC (n : Nat) (z : CSt) (x : Int) : CSt × List Int × Int :=
  if refC n z [x] = 0 then (hearC z (D.refE z.d n x), D.readS z.d n x, D.refE z.d n x) else (z, D.Zs, refC n z [x])
theorem wrote_chg {w w' : World} {g : Nat} {s : List Int} (h : D.Wrote w g s w') : Chg w w' (· = g) := ⟨h.os, h.tape, h.output, Nat.le_of_eq h.size.symm, fun k _ hn => h.other k hn⟩
theorem isC_lost {w : World} {gp mb : Nat} {go : Nat → Prop} {tv : Int → Value} {lv : Value} (h : IsC0 w c p g n gp mb go tv lv ρ z) : IsC0 (w.setCell ⟨c, 4, none⟩ (.bool true)) c p g n gp mb go tv lv ρ ⟨z.d, z.E, z.P, z.ld, true⟩ :=
  isC_down h h.dk (Chg.refl _ _) h.inv.w0 h.inv.lf
def SW (w : World) (x : Int) : World := (((w.alloc (.cells (D.SA D.Zs) 47)).alloc (.cells #[.int .i64 0] 41)).alloc (.cells #[.int .i64 x] 3))
theorem SW_chg (w : World) (x : Int) : Chg w (SW w x) No := ((Chg.alloc _ _ _).tr (Chg.alloc _ _ _)).tr (Chg.alloc _ _ _)
theorem SW_0 (w : World) (x : Int) : (SW w x).heap[w.heap.size]? = some (.cells (D.SA D.Zs) 47 (0, 0)) := by
  unfold SW
  rw [heap_alloc_if, if_neg (by simp; omega), heap_alloc_if, if_neg (by simp), heap_alloc_if, if_pos rfl]
theorem SW_1 (w : World) (x : Int) : (SW w x).heap[w.heap.size + 1]? = some (.cells #[.int .i64 0] 41 (0, 0)) := by
  unfold SW
  rw [heap_alloc_if, if_neg (by simp), heap_alloc_if, if_pos (by simp)]

set_option maxRecDepth 100000 in
set_option maxHeartbeats 2000000 in
theorem standC_any (x : Int) (h : IsC w c p g n ρ z) : Calls Tryz.prog 23 #[.pointer (some ⟨c, 0, none⟩), .int .i64 x] w fun e w' => e = .returned (.tuple #[.agg (D.SA (standC n z x).2.1), .int .i64 (standC n z x).2.2]) ∧ CPost w w' c p g n ρ (standC n z x).1 := by
  have hzs := D.zero_sec
  have hbz := D.build_sec
  have HR := refusalC_any [x] (some ⟨w.heap.size + 1 + 1, 0, none⟩) 1 (h.call (SW_chg w x)) (by
    have := lat_one ((w.alloc (.cells (D.SA D.Zs) 47)).alloc (.cells #[.int .i64 0] 41)) x
    simp only [World.size_alloc] at this
    exact this) (by simp)
  simp only [List.length_singleton] at HR
  have HH := hid h
  have HS0 := hid (SW_0 w x)
  have HS1 := hid (SW_1 w x)
  have HSC := hid (SW_chg w x)
  by_cases h0 : refC n z [x] = 0
  · have e : standC n z x = (hearC z (D.refE z.d n x), D.readS z.d n x, D.refE z.d n x) := by unfold standC; rw [if_pos h0]
    rw [e]
    rw [h0] at HR
    obtain ⟨gp, mb, go, tv, lv, hA⟩ := h.call (SW_chg w x)
    have k0 := hA.c0
    have HRd := D.read_any x (SW w x) hA.dk
    have hlen := D.readS_len hA.dk x
    have hrf : D.refE z.d n x = 0 ∨ D.refE z.d n x = 22 := by
      have hx := (refC_zero h0).2 x (by simp)
      unfold D.refE
      by_cases hd : z.d.dn = true
      · rw [if_pos hd]; exact .inr rfl
      · rw [if_neg hd, if_neg (by omega)]; exact .inl rfl
    have HA := hid hA
    clear h e h0 hA
    generalize D.readS z.d n x = s at *
    generalize D.refE z.d n x = e0 at *
    unfold SW at k0 HRd HR HS0 HS1 HSC HA
    go_enter_defers Tryz.func23, Tryz.ntmps23
    go_wp2_with (first
      | (go_at_call 58; go_must (refine HR.mono ?_; rintro e w1 ⟨rfl, rfl⟩; clear HR))
      | (go_at_call 67; go_must (refine HRd.mono ?_; rintro e w2 ⟨rfl, hb2⟩; have hc2 := Chg.of_below hb2 No; have HQ2 := hid (hc2.keep HS0.out (fun e => e)); have HE2 := hid (hc2.keep HS1.out (fun e => e)); have HC2 := hid hc2; clear HRd hb2 hc2))
      | (refine D.store_sec rfl _ _ rfl w.heap.size rfl s rfl hlen D.Zs D.Zs_len HQ2.out ?_; intro w3 hw3; have hE3 : w3.heap[w.heap.size + 1]? = _ := (hw3.other _ (by omega)).trans HE2.out; have kE3 := cell0 hE3; have fE3 := frozen_of_row w3 (w.heap.size + 1) 0 _ _ hE3; have HE3 := hid hE3; have HQ3 := hid hw3.here; have HC3 := hid (HC2.out.trans (wrote_chg hw3) (c := (· = w.heap.size)) (fun _ _ e => e.elim) (fun _ _ e => e)); clear hw3 hE3)
      | go_in)
    have hc03 : Chg w w3 No := HSC.out.trans HC3.out (fun _ _ e => e) (fun j hj e => by omega)
    have hc04 : Chg w (w3.setCell ⟨w.heap.size + 1, 0, none⟩ (.int .i64 e0)) No := hc03.trans Chg.setCell (fun _ _ e => e) (fun j hj e => by omega)
    obtain ⟨gp4, mb4, go4, tv4, lv4, h4⟩ := HH.out.call hc04
    have hbe : (w3.setCell ⟨w.heap.size + 1, 0, none⟩ (.int .i64 e0)).heap[w.heap.size + 1]? = _ := heap_setCell_same w3 (w.heap.size + 1) 0 _ _ _ HE3.out
    have hq4 : (w3.setCell ⟨w.heap.size + 1, 0, none⟩ (.int .i64 e0)).heap[w.heap.size]? = _ := (heap_setCell_other w3 ⟨w.heap.size + 1, 0, none⟩ w.heap.size _ (by simp)).trans HQ3.out
    have hlc := HH.out.lt ⟨_, h4.rc⟩
    refine leaves_cons (f := 66) (args := #[.pointer (some ⟨c, 0, none⟩), .pointer (some ⟨w.heap.size + 1, 0, none⟩)]) (by simp) (by simp [go_sem]) ?_
    refine (markLoss_d (w.heap.size + 1) e0 .returning _ c ?_ _ h4.c4 (h4.fz 4)).mono ?_
    · rw [cell_of_row _ _ _ _ _ _ hbe]; rfl
    rintro e u' w'' ⟨rfl, rfl, rfl⟩
    rcases hrf with rfl | rfl
    · rw [if_neg (by decide)]
      refine ⟨_, results_two Tryz.results23 _ _ w.heap.size (w.heap.size + 1) s hlen 0 rfl rfl hq4 (by rw [cell_of_row _ _ _ _ _ _ hbe]; rfl), rfl, ?_⟩
      have e : hearC z 0 = z := by unfold hearC; rw [if_neg (by decide)]
      rw [e]
      exact CPost.same HH.out hc04
    · rw [if_pos rfl]
      have hbe2 : ((w3.setCell ⟨w.heap.size + 1, 0, none⟩ (.int .i64 22)).setCell ⟨c, 4, none⟩ (.bool true)).heap[w.heap.size + 1]? = _ := (heap_setCell_other _ ⟨c, 4, none⟩ (w.heap.size + 1) _ (by simp; omega)).trans hbe
      have hq5 : ((w3.setCell ⟨w.heap.size + 1, 0, none⟩ (.int .i64 22)).setCell ⟨c, 4, none⟩ (.bool true)).heap[w.heap.size]? = _ := (heap_setCell_other _ ⟨c, 4, none⟩ w.heap.size _ (by simp; omega)).trans hq4
      refine ⟨_, results_two Tryz.results23 _ _ w.heap.size (w.heap.size + 1) s hlen 22 rfl rfl hq5 (by rw [cell_of_row _ _ _ _ _ _ hbe2]; rfl), rfl, ?_⟩
      have e : hearC z 22 = ⟨z.d, z.E, z.P, z.ld, true⟩ := by unfold hearC; rw [if_pos rfl]
      rw [e]
      refine ⟨ρ, ⟨gp4, mb4, go4, tv4, lv4, isC_lost h4⟩, fun _ k => .inl k, hc04.trans Chg.setCell (fun _ _ e => e.elim) (fun j _ e => ?_)⟩
      have e : j = c := e
      subst e
      exact ⟨_, h4.rc⟩
  · have e : standC n z x = (z, D.Zs, refC n z [x]) := by unfold standC; rw [if_neg h0]
    rw [e]
    obtain ⟨e0, he0⟩ : ∃ e0, refC n z [x] = e0 := ⟨_, rfl⟩
    rw [he0] at HR h0 ⊢
    have hb : (e0 != 0) = true := by simpa using h0
    clear h e h0 he0
    have hE0 := HS1.out
    have kE0 := cell0 hE0
    have fE0 := frozen_of_row (SW w x) (w.heap.size + 1) 0 _ _ hE0
    clear hE0
    unfold SW at HR HS0 HS1 HSC kE0 fE0
    go_enter_defers Tryz.func23, Tryz.ntmps23
    go_wp2_with (first
      | (go_at_call 58; go_must (refine HR.mono ?_; rintro e w1 ⟨rfl, rfl⟩; clear HR))
      | (refine D.store_sec rfl _ _ rfl w.heap.size rfl D.Zs rfl D.Zs_len D.Zs D.Zs_len HS0.out ?_; intro w3 hw3; have hE3 : w3.heap[w.heap.size + 1]? = _ := (hw3.other _ (by omega)).trans HS1.out; have kE3 := cell0 hE3; have fE3 := frozen_of_row w3 (w.heap.size + 1) 0 _ _ hE3; have HE3 := hid hE3; have HQ3 := hid hw3.here; have HC3 := hid (HSC.out.trans (wrote_chg hw3) (c := No) (fun _ _ e => e) (fun j hj e => by omega)); clear hw3 hE3)
      | go_in)
    have hbe : (w3.setCell ⟨w.heap.size + 1, 0, none⟩ (.int .i64 e0)).heap[w.heap.size + 1]? = _ := heap_setCell_same w3 (w.heap.size + 1) 0 _ _ _ HE3.out
    have hq4 : (w3.setCell ⟨w.heap.size + 1, 0, none⟩ (.int .i64 e0)).heap[w.heap.size]? = _ := (heap_setCell_other w3 ⟨w.heap.size + 1, 0, none⟩ w.heap.size _ (by simp)).trans HQ3.out
    refine door_nil _ (results_two Tryz.results23 _ _ w.heap.size (w.heap.size + 1) D.Zs D.Zs_len e0 rfl rfl hq4 (by rw [cell_of_row _ _ _ _ _ _ hbe]; rfl)) ⟨rfl, CPost.same HH.out (HC3.out.trans Chg.setCell (fun _ _ e => e) (fun j hj e => by omega))⟩

end Go.Proofs.YtamoepninddbcaaGreat

namespace Go.Proofs.YtamoepninddbcaaGreat
open Go.RowKit

/-- A sector of one byte all over. -/
def fullS (m : Int) : List Int := List.replicate 128 m
theorem fullS_len (m : Int) : (fullS m).length = 128 := by simp [fullS]
def fillS (m : Int) (k : Nat) : List Int := List.replicate k m ++ List.replicate (128 - k) 0
theorem fillS_len {m : Int} {k : Nat} (h : k ≤ 128) : (fillS m k).length = 128 := by simp [fillS]; omega
theorem fillS_zero (m : Int) : fillS m 0 = D.Zs := by simp [fillS, D.Zs]
theorem fillS_all (m : Int) : fillS m 128 = fullS m := by simp [fillS, fullS]
theorem fillS_set {m : Int} {k : Nat} (h : k < 128) : (fillS m k).set k m = fillS m (k + 1) := by
  unfold fillS
  rw [List.set_append_right _ _ (by simp)]
  obtain ⟨j, hj⟩ : ∃ j, 128 - k = j + 1 := ⟨127 - k, by omega⟩
  have e : List.replicate (k + 1) m = List.replicate k m ++ [m] := List.replicate_succ'
  rw [hj, show 128 - (k + 1) = j by omega, e, List.append_assoc]
  simp [List.replicate_succ]

set_option maxRecDepth 100000 in
set_option maxHeartbeats 1000000 in
theorem full_any (m : Int) (w : World) : Calls Tryz.prog 15 #[.int .u8 m] w fun e w' => e = .returned (.agg (D.SA (fullS m))) ∧ Chg w w' No := by
  have hzs := D.zero_sec
  go_enter Tryz.func15, Tryz.ntmps15
  go_wp2_with fail
  go_loopw [4] (fun i wr => ∃ (k : Nat) (wq : World), wq = wr ∧ k ≤ 128 ∧ i = .int .i64 k ∧ wq.heap[w.heap.size]? = some (.cells (D.SA D.Zs) 47 (0, 0)) ∧ wq.heap[w.heap.size + 1]? = some (.cells (D.SA (fillS m k)) 47 (0, 0)) ∧ Chg w wq No) (fun i _ => 128 - (intOf i).toNat)
  case atStart =>
    refine ⟨0, _, rfl, by omega, rfl, ?_, ?_, (Chg.alloc _ _ _).tr (Chg.alloc _ _ _)⟩
    · rw [heap_alloc_if, if_neg (by simp), heap_alloc_if, if_pos rfl]
    · rw [heap_alloc_if, if_pos (by simp), fillS_zero]
  case round =>
    obtain ⟨k, wA, rfl, hk, rfl, h0, h1, hc⟩ := hrel
    by_cases hlt : k < 128
    · have kc := D.sec_cell h1 k (by rw [fillS_len (by omega)]; omega)
      have fc := frozen_of_row wA (w.heap.size + 1) k _ _ h1
      have hi0 : (0 : Int) ≤ (k : Int) := by omega
      have hi1 : (k : Int) < 128 := by omega
      have H0 := hid (And.intro h0 (And.intro h1 hc))
      clear h0 h1 hc
      go_wp2_with fail
      obtain ⟨h0, h1, hc⟩ := H0.out
      refine ⟨⟨k + 1, _, rfl, by omega, by go_num, (heap_setCell_other wA ⟨w.heap.size + 1, k, none⟩ w.heap.size _ (by simp)).trans h0, ?_, hc.trans Chg.setCell (fun _ _ e => e) (fun j hj e => by omega)⟩, by simp [intOf]; omega⟩
      rw [heap_setCell_same wA (w.heap.size + 1) k _ _ _ h1, D.SA_set, fillS_set hlt]
    · have hkm : k = 128 := by omega
      subst hkm
      rw [fillS_all] at h1
      have H0 := hid (And.intro h0 (And.intro h1 hc))
      clear h0 h1 hc
      go_wp2_with (first
        | (refine wpList_load_row rfl 47 _ rfl (w.heap.size + 1) rfl 47 (D.SA (fullS m)) (0, 0) _ H0.out.2.1 Tryz.underlying47 rfl (by rw [D.sz26, D.SA_size, fullS_len]) ?_)
        | (refine D.store_sec rfl _ _ rfl w.heap.size rfl (fullS m) rfl (fullS_len m) D.Zs D.Zs_len H0.out.1 ?_; intro w3 hw3)
        | fail)
      refine bodyPost_ret (v := .agg (D.SA (fullS m))) (D.results_sec1 Tryz.results15 _ _ w.heap.size (fullS m) (fullS_len m) rfl hw3.here) rfl ⟨rfl, H0.out.2.2.trans (wrote_chg hw3) (fun _ _ e => e) (fun j hj e => by omega)⟩

end Go.Proofs.YtamoepninddbcaaGreat

namespace Go.Proofs.YtamoepninddbcaaGreat

theorem secK_over {l s : List Int} {n k : Nat} (hl : l.length = 128 * n) (hk : k < n) (hs : s.length = 128) : D.secK (D.over l (k * 128) s) k = s := by
  unfold D.secK
  rw [D.over_eq _ _ _ (by rw [hs, hl]; omega), List.append_assoc, List.drop_left' (by rw [List.length_take, hl]; omega), List.take_left' hs]
def zd0 : D.St8 := D.D0 (D.zl (128 * 8))
def kz1 : CSt := layC (newZ zd0) 1 (fullS 1) []
def kz2 : CSt := layC kz1 3 (fullS 3) [1]
def kz3 : CSt := forC ⟨D.writeD zd0 8 1 (fullS 1), kz2.E, kz2.P, [] ++ [], false⟩ 1
def kz4 : CSt := layC kz3 1 (fullS 2) [3]

theorem kd1 (y : Int) : kz1.dirty y ↔ y = 1 := by
  unfold kz1
  rw [layC_dirty]
  exact ⟨fun h => h.resolve_left (fun e => by cases e), .inr⟩
theorem kd2 (y : Int) : kz2.dirty y ↔ y = 1 ∨ y = 3 := by
  unfold kz2
  rw [layC_dirty, kd1]
theorem ke1 (a b : Int) : ¬ kz1.E a b := by
  rintro (⟨_, h⟩ | h)
  · cases h
  · exact h
theorem ke2 (a b : Int) : kz2.E a b ↔ b = 3 ∧ a = 1 := by
  constructor
  · rintro (⟨h1, h2⟩ | h)
    · exact ⟨h1, by simpa using h2⟩
    · exact absurd h (ke1 a b)
  · rintro ⟨h1, h2⟩
    exact .inl ⟨h1, by simp [h2]⟩
theorem kd3 (y : Int) : kz3.dirty y ↔ y = 3 := by
  have : kz3.dirty y ↔ y ≠ 1 ∧ kz2.dirty y := by
    unfold kz3 CSt.dirty forC
    by_cases h : y = 1
    · simp [h]
    · simp [h]
  rw [this, kd2]
  constructor
  · rintro ⟨h1, h2⟩
    exact h2.resolve_left h1
  · rintro rfl
    exact ⟨by decide, .inr rfl⟩
theorem ke3 (a b : Int) : ¬ kz3.E a b := by
  intro h
  have h : kz2.E a b ∧ a ≠ 1 ∧ b ≠ 1 := h
  exact h.2.1 ((ke2 a b).1 h.1).2
theorem kd4 (y : Int) : kz4.dirty y ↔ y = 1 ∨ y = 3 := by
  unfold kz4
  rw [layC_dirty, kd3]
  exact Or.comm
theorem ke4 (a b : Int) : kz4.E a b ↔ b = 1 ∧ a = 3 := by
  constructor
  · rintro (⟨h1, h2⟩ | h)
    · exact ⟨h1, by simpa using h2⟩
    · exact absurd h (ke3 a b)
  · rintro ⟨h1, h2⟩
    exact .inl ⟨h1, by simp [h2]⟩
theorem no_reach {E : Int → Int → Prop} (h : ∀ a b, ¬ E a b) {a b : Int} (hr : Reach E a b) : a = b := by
  rcases hr with e | e
  · exact e
  · obtain ⟨c, hc⟩ := e.first
    exact absurd hc (h a c)
theorem ref8 {z : CSt} {l : List Int} (hlo : z.lost = false) (h : ∀ x, x ∈ l → 0 ≤ x ∧ x < 8) : refC 8 z l = 0 := by
  unfold refC
  rw [if_pos, if_neg (by simp [hlo])]
  rw [List.all_eq_true]
  intro x hx
  exact okN_iff.2 (h x hx)
theorem kp1 : putC 8 (newZ zd0) 1 (fullS 1) [] = (kz1, 0) := by
  have hc : clearC 8 (newZ zd0) 1 [] = (newZ zd0, 0) := by
    unfold clearC
    rw [if_neg]
    rintro ⟨a, h, _⟩
    cases h
  have hd : dofC (newZ zd0) [] 1 = [] := (secs_is List.Pairwise.nil (fun x => by simp) (fun x h => by cases h.1)).symm
  unfold putC
  rw [if_pos (ref8 rfl (by simp)), hc, if_pos rfl, hd]
  rfl
theorem kp2 : putC 8 kz1 3 (fullS 3) [1] = (kz2, 0) := by
  have hc : clearC 8 kz1 3 [1] = (kz1, 0) := by
    unfold clearC
    rw [if_neg]
    rintro ⟨a, _, _, h1, h2⟩
    exact h1 (no_reach ke1 h2).symm
  have hd : dofC kz1 [1] 3 = [1] := (secs_is (by simp) (fun x => by
    rw [kd1]
    simp
    omega) (fun x h => by have := h.1; simp at this; subst this; exact ⟨by decide, by decide⟩)).symm
  unfold putC
  rw [if_pos (ref8 rfl (by simp)), hc, if_pos rfl, hd]
  rfl
theorem kf3 : flushC 8 kz2 3 = (kz2, false, 0) := by
  unfold flushC
  rw [if_pos (ref8 rfl (by simp)), if_neg]
  rintro ⟨_, h⟩
  exact h 1 ((ke2 1 3).2 ⟨rfl, rfl⟩)
theorem kw : D.writeE zd0 8 1 = 0 := rfl
theorem kp3 : putC 8 kz2 1 (fullS 2) [3] = (kz4, 0) := by
  have hfree : FreeE kz2.E 1 := fun a h => by have := ((ke2 a 1).1 h).1; omega
  have hb : befC kz2 1 = [] := (secs_is List.Pairwise.nil (fun x => by
    constructor
    · intro h; cases h
    · rintro ⟨h1, h2⟩
      rcases h2 with e | e
      · exact absurd e h1
      · obtain ⟨d, hd⟩ := e.last
        exact absurd hd (hfree d)) (fun x h => by
      rcases h.2 with e | e
      · exact absurd e h.1
      · obtain ⟨d, hd⟩ := e.last
        exact absurd hd (hfree d))).symm
  have hq : kz2.P 1 = some (fullS 1, []) := by
    have e1 : kz2.P 1 = kz1.P 1 := by unfold kz2; rw [layC_P, if_neg (by decide)]
    have e2 : kz1.P 1 = some (fullS 1, []) := by unfold kz1; rw [layC_P, if_pos rfl]; rfl
    rw [e1, e2]
  have hw : wrC 8 kz2 1 = (kz3, 0) := by
    have hlo : kz2.lost = false := rfl
    have hdd : kz2.d = zd0 := rfl
    have hll : kz2.ld = [] := rfl
    have h := wrC_done (n := 8) hlo hq (by rw [hdd]; exact kw)
    rw [h, hdd, hll, hlo]
    rfl
  have hdr : drainC 8 kz2 1 = (kz3, 0) := by
    unfold drainC
    rw [if_pos ((kd2 1).2 (.inl rfl)), hb]
    simp only [List.length_nil, Nat.zero_add, List.nil_append]
    have h1 := wAll_step (n := 8) (z := kz2) (l := [1]) (k := 0) ⟨by simp, by simpa using hfree, fun j hj => absurd hj (by omega)⟩
    simp only [List.length_singleton, List.getD_cons_zero] at h1
    rw [h1, hw, if_pos rfl]
    simp [wAll]
  have hc : clearC 8 kz2 1 [3] = (kz3, 0) := by
    unfold clearC
    rw [if_pos ⟨3, by simp, (kd2 3).2 (.inr rfl), by decide, .inr (.one ((ke2 1 3).2 ⟨rfl, rfl⟩))⟩, hdr]
  have hd : dofC kz3 [3] 1 = [3] := (secs_is (by simp) (fun x => by
    rw [kd3]
    simp
    omega) (fun x h => by have := h.1; simp at this; subst this; exact ⟨by decide, by decide⟩)).symm
  unfold putC
  rw [if_pos (ref8 rfl (by simp)), hc, if_pos rfl, hd]
  rfl
theorem kdirty : secs kz4.dirty = [1, 3] := (secs_is (by simp) (fun x => by rw [kd4]; simp) (fun x h => by
  rcases (kd4 x).1 h with rfl | rfl
  · exact ⟨by decide, by decide⟩
  · exact ⟨by decide, by decide⟩)).symm
theorem kstand : standC 8 kz4 1 = (kz4, fullS 1, 0) := by
  have hd : kz4.d = D.writeD zd0 8 1 (fullS 1) := rfl
  have hwd : D.writeD zd0 8 1 (fullS 1) = ⟨D.over (D.zl (128 * 8)) (1 * 128) (fullS 1), 1, false, false, 0⟩ := rfl
  have hr : D.refE kz4.d 8 1 = 0 := by rw [hd, hwd]; rfl
  have hs : D.readS kz4.d 8 1 = fullS 1 := by
    unfold D.readS
    rw [if_pos hr, hd, hwd]
    exact secK_over (n := 8) (D.zl_len _) (by decide) (fullS_len 1)
  unfold standC
  rw [if_pos (ref8 rfl (by simp)), hr, hs]
  rfl
theorem kedges {l : List (Int × Int)} (h : EList kz4.E l) : l.length = 1 := by
  have hm : ∀ x, x ∈ l ↔ x = (3, 1) := fun x => by
    rw [h.2, ke4]
    constructor
    · rintro ⟨h1, h2⟩
      exact Prod.ext h2 h1
    · rintro rfl
      exact ⟨rfl, rfl⟩
  match l, h.1, hm with
  | [], _, hm => exact absurd ((hm (3, 1)).2 rfl) (by simp)
  | [_], _, _ => rfl
  | a :: b :: l, hp, hm =>
    obtain ⟨h1, _⟩ := List.pairwise_cons.1 hp
    have ha := (hm a).1 (by simp)
    have hb := (hm b).1 (by simp)
    have := h1 b (by simp)
    rw [ha, hb] at this
    unfold ltE at this
    simp at this
theorem kinv0 : CInv 8 (newZ zd0) := newZ_inv (by decide) (by decide) (by decide)
theorem ktb1 : TB kz1 := layC_tb kinv0 (by decide) (newZ_tb _)
theorem kinv1 : CInv 8 kz1 := layC_inv kinv0 (by decide) (fullS_len 1) ⟨fun a h => (by cases h), fun a h => (by cases h)⟩
theorem ktb2 : TB kz2 := layC_tb kinv1 (by decide) ktb1

end Go.Proofs.YtamoepninddbcaaGreat
