/-
  What stands behind the steps of known, without a program.
-/
import Derived.Test.YtgkanfmkohlmcaaGreatCacheB
namespace Go.Proofs.YtgkanfmkohlmcaaGreat
open Go.RowKit

/-- A sector of one byte all over. -/
def fullS (m : Int) : List Int := List.replicate 128 m
theorem fullS_len (m : Int) : (fullS m).length = 128 := by simp [fullS]
def fillS (m : Int) (k : Nat) : List Int := List.replicate k m ++ List.replicate (128 - k) 0
theorem fillS_len {m : Int} {k : Nat} (h : k ≤ 128) : (fillS m k).length = 128 := by simp [fillS]; omega
theorem fillS_zero (m : Int) : fillS m 0 = D.Zs := by simp [fillS, D.Zs]
theorem fillS_all (m : Int) : fillS m 128 = fullS m := by simp [fillS, fullS]
theorem fillS_set {m : Int} {k : Nat} (h : k < 128) : (fillS m k).set k m = fillS m (k + 1) := by
  unfold fillS
  rw [List.set_append_right _ _ (by simp)]
  obtain ⟨j, hj⟩ : ∃ j, 128 - k = j + 1 := ⟨127 - k, by omega⟩
  have e : List.replicate (k + 1) m = List.replicate k m ++ [m] := List.replicate_succ'
  rw [hj, show 128 - (k + 1) = j by omega, e, List.append_assoc]
  simp [List.replicate_succ]

set_option maxRecDepth 100000 in
set_option maxHeartbeats 1000000 in
theorem full_any (m : Int) (w : World) : Calls Tryz.prog 18 #[.int .u8 m] w fun e w' => e = .returned (.agg (D.SA (fullS m))) ∧ Chg w w' No := by
  have hzs := D.zero_sec
  go_enter Tryz.func18, Tryz.ntmps18
  go_wp2_with fail
  go_loopw [4] (fun i wr => ∃ (k : Nat) (wq : World), wq = wr ∧ k ≤ 128 ∧ i = .int .i64 k ∧ wq.heap[w.heap.size]? = some (.cells (D.SA D.Zs) 46 (0, 0)) ∧ wq.heap[w.heap.size + 1]? = some (.cells (D.SA (fillS m k)) 46 (0, 0)) ∧ Chg w wq No) (fun i _ => 128 - (intOf i).toNat)
  case atStart =>
    refine ⟨0, _, rfl, by omega, rfl, ?_, ?_, (Chg.alloc _ _ _).tr (Chg.alloc _ _ _)⟩
    · rw [heap_alloc_if, if_neg (by simp), heap_alloc_if, if_pos rfl]
    · rw [heap_alloc_if, if_pos (by simp), fillS_zero]
  case round =>
    obtain ⟨k, wA, rfl, hk, rfl, h0, h1, hc⟩ := hrel
    by_cases hlt : k < 128
    · have kc := D.sec_cell h1 k (by rw [fillS_len (by omega)]; omega)
      have fc := frozen_of_row wA (w.heap.size + 1) k _ _ h1
      have hi0 : (0 : Int) ≤ (k : Int) := by omega
      have hi1 : (k : Int) < 128 := by omega
      have H0 := hid (And.intro h0 (And.intro h1 hc))
      clear h0 h1 hc
      go_wp2_with fail
      obtain ⟨h0, h1, hc⟩ := H0.out
      refine ⟨⟨k + 1, _, rfl, by omega, by go_num, (heap_setCell_other wA ⟨w.heap.size + 1, k, none⟩ w.heap.size _ (by simp)).trans h0, ?_, hc.trans Chg.setCell (fun _ _ e => e) (fun j hj e => by omega)⟩, by simp [intOf]; omega⟩
      rw [heap_setCell_same wA (w.heap.size + 1) k _ _ _ h1, D.SA_set, fillS_set hlt]
    · have hkm : k = 128 := by omega
      subst hkm
      rw [fillS_all] at h1
      have H0 := hid (And.intro h0 (And.intro h1 hc))
      clear h0 h1 hc
      go_wp2_with (first
        | (refine wpList_load_row rfl 46 _ rfl (w.heap.size + 1) rfl 46 (D.SA (fullS m)) (0, 0) _ H0.out.2.1 Tryz.underlying46 rfl (by rw [D.sz26, D.SA_size, fullS_len]) ?_)
        | (refine D.store_sec rfl _ _ rfl w.heap.size rfl (fullS m) rfl (fullS_len m) D.Zs D.Zs_len H0.out.1 ?_; intro w3 hw3)
        | fail)
      refine bodyPost_ret (v := .agg (D.SA (fullS m))) (D.results_sec1 Tryz.results18 _ _ w.heap.size (fullS m) (fullS_len m) rfl hw3.here) rfl ⟨rfl, H0.out.2.2.trans (wrote_chg hw3) (fun _ _ e => e) (fun j hj e => by omega)⟩

end Go.Proofs.YtgkanfmkohlmcaaGreat

namespace Go.Proofs.YtgkanfmkohlmcaaGreat

theorem secK_over {l s : List Int} {n k : Nat} (hl : l.length = 128 * n) (hk : k < n) (hs : s.length = 128) : D.secK (D.over l (k * 128) s) k = s := by
  unfold D.secK
  rw [D.over_eq _ _ _ (by rw [hs, hl]; omega), List.append_assoc, List.drop_left' (by rw [List.length_take, hl]; omega), List.take_left' hs]
def zd0 : D.St8 := D.D0 (D.zl (128 * 8))
def kz1 : CSt := layC (newZ zd0) 1 (fullS 1) []
def kz2 : CSt := layC kz1 3 (fullS 3) [1]
def kz3 : CSt := forC ⟨D.writeD zd0 8 1 (fullS 1), kz2.E, kz2.P, [] ++ [], false⟩ 1
def kz4 : CSt := layC kz3 1 (fullS 2) [3]

theorem kd1 (y : Int) : kz1.dirty y ↔ y = 1 := by
  unfold kz1
  rw [layC_dirty]
  exact ⟨fun h => h.resolve_left (fun e => by cases e), .inr⟩
theorem kd2 (y : Int) : kz2.dirty y ↔ y = 1 ∨ y = 3 := by
  unfold kz2
  rw [layC_dirty, kd1]
theorem ke1 (a b : Int) : ¬ kz1.E a b := by
  rintro (⟨_, h⟩ | h)
  · cases h
  · exact h
theorem ke2 (a b : Int) : kz2.E a b ↔ b = 3 ∧ a = 1 := by
  constructor
  · rintro (⟨h1, h2⟩ | h)
    · exact ⟨h1, by simpa using h2⟩
    · exact absurd h (ke1 a b)
  · rintro ⟨h1, h2⟩
    exact .inl ⟨h1, by simp [h2]⟩
theorem kd3 (y : Int) : kz3.dirty y ↔ y = 3 := by
  have : kz3.dirty y ↔ y ≠ 1 ∧ kz2.dirty y := by
    unfold kz3 CSt.dirty forC
    by_cases h : y = 1
    · simp [h]
    · simp [h]
  rw [this, kd2]
  constructor
  · rintro ⟨h1, h2⟩
    exact h2.resolve_left h1
  · rintro rfl
    exact ⟨by decide, .inr rfl⟩
theorem ke3 (a b : Int) : ¬ kz3.E a b := by
  intro h
  have h : kz2.E a b ∧ a ≠ 1 ∧ b ≠ 1 := h
  exact h.2.1 ((ke2 a b).1 h.1).2
theorem kd4 (y : Int) : kz4.dirty y ↔ y = 1 ∨ y = 3 := by
  unfold kz4
  rw [layC_dirty, kd3]
  exact Or.comm
theorem ke4 (a b : Int) : kz4.E a b ↔ b = 1 ∧ a = 3 := by
  constructor
  · rintro (⟨h1, h2⟩ | h)
    · exact ⟨h1, by simpa using h2⟩
    · exact absurd h (ke3 a b)
  · rintro ⟨h1, h2⟩
    exact .inl ⟨h1, by simp [h2]⟩
theorem no_reach {E : Int → Int → Prop} (h : ∀ a b, ¬ E a b) {a b : Int} (hr : Reach E a b) : a = b := by
  rcases hr with e | e
  · exact e
  · obtain ⟨c, hc⟩ := e.first
    exact absurd hc (h a c)
theorem ref8 {z : CSt} {l : List Int} (hlo : z.lost = false) (h : ∀ x, x ∈ l → 0 ≤ x ∧ x < 8) : refC 8 z l = 0 := by
  unfold refC
  rw [if_pos, if_neg (by simp [hlo])]
  rw [List.all_eq_true]
  intro x hx
  exact okN_iff.2 (h x hx)
theorem kp1 : putC 8 (newZ zd0) 1 (fullS 1) [] = (kz1, 0) := by
  have hc : clearC 8 (newZ zd0) 1 [] = (newZ zd0, 0) := by
    unfold clearC
    rw [if_neg]
    rintro ⟨a, h, _⟩
    cases h
  have hd : dofC (newZ zd0) [] 1 = [] := (secs_is List.Pairwise.nil (fun x => by simp) (fun x h => by cases h.1)).symm
  unfold putC
  rw [if_pos (ref8 rfl (by simp)), hc, if_pos rfl, hd]
  rfl
theorem kp2 : putC 8 kz1 3 (fullS 3) [1] = (kz2, 0) := by
  have hc : clearC 8 kz1 3 [1] = (kz1, 0) := by
    unfold clearC
    rw [if_neg]
    rintro ⟨a, _, _, h1, h2⟩
    exact h1 (no_reach ke1 h2).symm
  have hd : dofC kz1 [1] 3 = [1] := (secs_is (by simp) (fun x => by
    rw [kd1]
    simp
    omega) (fun x h => by have := h.1; simp at this; subst this; exact ⟨by decide, by decide⟩)).symm
  unfold putC
  rw [if_pos (ref8 rfl (by simp)), hc, if_pos rfl, hd]
  rfl
theorem kf3 : flushC 8 kz2 3 = (kz2, false, 0) := by
  unfold flushC
  rw [if_pos (ref8 rfl (by simp)), if_neg]
  rintro ⟨_, h⟩
  exact h 1 ((ke2 1 3).2 ⟨rfl, rfl⟩)
theorem kw : D.writeE zd0 8 1 = 0 := rfl
theorem kp3 : putC 8 kz2 1 (fullS 2) [3] = (kz4, 0) := by
  have hfree : FreeE kz2.E 1 := fun a h => by have := ((ke2 a 1).1 h).1; omega
  have hb : befC kz2 1 = [] := (secs_is List.Pairwise.nil (fun x => by
    constructor
    · intro h; cases h
    · rintro ⟨h1, h2⟩
      rcases h2 with e | e
      · exact absurd e h1
      · obtain ⟨d, hd⟩ := e.last
        exact absurd hd (hfree d)) (fun x h => by
      rcases h.2 with e | e
      · exact absurd e h.1
      · obtain ⟨d, hd⟩ := e.last
        exact absurd hd (hfree d))).symm
  have hq : kz2.P 1 = some (fullS 1, []) := by
    have e1 : kz2.P 1 = kz1.P 1 := by unfold kz2; rw [layC_P, if_neg (by decide)]
    have e2 : kz1.P 1 = some (fullS 1, []) := by unfold kz1; rw [layC_P, if_pos rfl]; rfl
    rw [e1, e2]
  have hw : wrC 8 kz2 1 = (kz3, 0) := by
    have hlo : kz2.lost = false := rfl
    have hdd : kz2.d = zd0 := rfl
    have hll : kz2.ld = [] := rfl
    have h := wrC_done (n := 8) hlo hq (by rw [hdd]; exact kw)
    rw [h, hdd, hll, hlo]
    rfl
  have hdr : drainC 8 kz2 1 = (kz3, 0) := by
    unfold drainC
    rw [if_pos ((kd2 1).2 (.inl rfl)), hb]
    simp only [List.length_nil, Nat.zero_add, List.nil_append]
    have h1 := wAll_step (n := 8) (z := kz2) (l := [1]) (k := 0) ⟨by simp, by simpa using hfree, fun j hj => absurd hj (by omega)⟩
    simp only [List.length_singleton, List.getD_cons_zero] at h1
    rw [h1, hw, if_pos rfl]
    simp [wAll]
  have hc : clearC 8 kz2 1 [3] = (kz3, 0) := by
    unfold clearC
    rw [if_pos ⟨3, by simp, (kd2 3).2 (.inr rfl), by decide, .inr (.one ((ke2 1 3).2 ⟨rfl, rfl⟩))⟩, hdr]
  have hd : dofC kz3 [3] 1 = [3] := (secs_is (by simp) (fun x => by
    rw [kd3]
    simp
    omega) (fun x h => by have := h.1; simp at this; subst this; exact ⟨by decide, by decide⟩)).symm
  unfold putC
  rw [if_pos (ref8 rfl (by simp)), hc, if_pos rfl, hd]
  rfl
theorem kdirty : secs kz4.dirty = [1, 3] := (secs_is (by simp) (fun x => by rw [kd4]; simp) (fun x h => by
  rcases (kd4 x).1 h with rfl | rfl
  · exact ⟨by decide, by decide⟩
  · exact ⟨by decide, by decide⟩)).symm
theorem kstand : standC 8 kz4 1 = (kz4, fullS 1, 0) := by
  have hd : kz4.d = D.writeD zd0 8 1 (fullS 1) := rfl
  have hwd : D.writeD zd0 8 1 (fullS 1) = ⟨D.over (D.zl (128 * 8)) (1 * 128) (fullS 1), 1, false, false, 0⟩ := rfl
  have hr : D.refE kz4.d 8 1 = 0 := by rw [hd, hwd]; rfl
  have hs : D.readS kz4.d 8 1 = fullS 1 := by
    unfold D.readS
    rw [if_pos hr, hd, hwd]
    exact secK_over (n := 8) (D.zl_len _) (by decide) (fullS_len 1)
  unfold standC
  rw [if_pos (ref8 rfl (by simp)), hr, hs]
  rfl
theorem kedges {l : List (Int × Int)} (h : EList kz4.E l) : l.length = 1 := by
  have hm : ∀ x, x ∈ l ↔ x = (3, 1) := fun x => by
    rw [h.2, ke4]
    constructor
    · rintro ⟨h1, h2⟩
      exact Prod.ext h2 h1
    · rintro rfl
      exact ⟨rfl, rfl⟩
  match l, h.1, hm with
  | [], _, hm => exact absurd ((hm (3, 1)).2 rfl) (by simp)
  | [_], _, _ => rfl
  | a :: b :: l, hp, hm =>
    obtain ⟨h1, _⟩ := List.pairwise_cons.1 hp
    have ha := (hm a).1 (by simp)
    have hb := (hm b).1 (by simp)
    have := h1 b (by simp)
    rw [ha, hb] at this
    unfold ltE at this
    simp at this
theorem kinv0 : CInv 8 (newZ zd0) := newZ_inv (by decide) (by decide) (by decide)
theorem ktb1 : TB kz1 := layC_tb kinv0 (by decide) (newZ_tb _)
theorem kinv1 : CInv 8 kz1 := layC_inv kinv0 (by decide) (fullS_len 1) ⟨fun a h => (by cases h), fun a h => (by cases h)⟩
theorem ktb2 : TB kz2 := layC_tb kinv1 (by decide) ktb1

end Go.Proofs.YtgkanfmkohlmcaaGreat
