/-
 The document's SuperSector.
-/
import Derived.Test.YtpmignilhoihnabGreatLF1
import Derived.Test.YtpmignilhoihnabGreatL2
import Derived.Deep.CutRange
import Derived.Deep.DeepCutAuto
namespace Go.Proofs.YtpmignilhoihnabGreat
open Go.RowKit

def s4 : List Int := putN Zs 0 1464554050 4
theorem s4_len : s4.length = 128 := by rw [s4, putN_len, Zs_len]
theorem layS_sup (a b : Int) : layS (numsSup a b) = putN (putN s4 4 a 4) 8 b 4 := rfl
theorem supB_wi (a b : Int) : supB a b = (wiB a 8 4096 && wiB b 1 512 && decide (b + 2 ≤ a)) := by
 unfold supB wiB;rw [Bool.eq_iff_iff]
 simp
 omega

set_option maxRecDepth 100000 in
set_option maxHeartbeats 2000000 in
theorem rsuperSector_any (a b : Int) (w : World) :
  Calls Tryz.prog 26 #[.agg #[.int .i64 a, .int .i64 b]] w fun e w' => e = .returned (.tuple #[.agg (SA (supS a b)), .int .i64 (supE a b)]) ∧ Below w.heap.size w w' := by
 have hz := zero_sec;have hbs := build_sec;have HZ : Hid (((w.alloc (.cells #[.int .i64 a, .int .i64 b] 32)).alloc (.cells (SA Zs) 36)).heap[w.heap.size + 1]? = some (.cells (SA Zs) 36 (0, 0))) := heap_alloc2_new w _ _;have HS : Hid (((w.alloc (.cells #[.int .i64 a, .int .i64 b] 32)).alloc (.cells (SA Zs) 36)).heap[w.heap.size]? = some (.cells #[.int .i64 a, .int .i64 b] 32 (0, 0))) := heap_alloc2_old w _ _;have hb : Below w.heap.size w ((w.alloc (.cells #[.int .i64 a, .int .i64 b] 32)).alloc (.cells (SA Zs) 36)) := ((Below.refl _ _).alloc (Nat.le_refl _) _).alloc (by simp) _
 have hsz : ((w.alloc (.cells #[.int .i64 a, .int .i64 b] 32)).alloc (.cells (SA Zs) 36)).heap.size = w.heap.size + 2 := by simp
 cases h : supB a b
 ·have HE : Hid (supS a b = Zs ∧ supE a b = 60) := ⟨by simp [supS, h], by simp [supE, h]⟩
  rw [supB_wi] at h
  cases hm1 : wiB a 8 4096
  ·go_enter Tryz.func26, Tryz.ntmps26
   go_wp2_with (first | (go_at_call 48; refine (rwithin_any _ _ _ _).mono ?_; rintro e w2 ⟨he, rfl⟩; rw [hm1] at he; subst he) | (refine store_sec rfl _ _ rfl (w.heap.size + 1) rfl Zs rfl Zs_len Zs Zs_len HZ.out ?_; intro w3 hw3))
   rw [HE.out.1, HE.out.2]
   exact bodyPost_ret (v := .tuple #[.agg (SA Zs), .int .i64 60]) (results_sec Tryz.results26 _ _ (w.heap.size + 1) Zs Zs_len _ rfl rfl hw3.here) rfl ⟨rfl, hw3.below hb (by omega)⟩
  ·cases hm2 : wiB b 1 512
   ·go_enter Tryz.func26, Tryz.ntmps26
    go_wp2_with (first | (go_at_call 48; refine (rwithin_any _ _ _ _).mono ?_; rintro e w2 ⟨he, rfl⟩; (first | rw [hm1] at he | rw [hm2] at he); subst he) | (refine store_sec rfl _ _ rfl (w.heap.size + 1) rfl Zs rfl Zs_len Zs Zs_len HZ.out ?_; intro w3 hw3))
    rw [HE.out.1, HE.out.2]
    exact bodyPost_ret (v := .tuple #[.agg (SA Zs), .int .i64 60]) (results_sec Tryz.results26 _ _ (w.heap.size + 1) Zs Zs_len _ rfl rfl hw3.here) rfl ⟨rfl, hw3.below hb (by omega)⟩
   ·have hh := of_decide_eq_true hm2
    have h3 : a < b + 2 := by rw [hm1, hm2] at h; simpa using h
    go_enter Tryz.func26, Tryz.ntmps26
    go_wp2_with (first | (go_at_call 48; refine (rwithin_any _ _ _ _).mono ?_; rintro e w2 ⟨he, rfl⟩; (first | rw [hm1] at he | rw [hm2] at he); subst he) | (refine store_sec rfl _ _ rfl (w.heap.size + 1) rfl Zs rfl Zs_len Zs Zs_len HZ.out ?_; intro w3 hw3))
    rw [HE.out.1, HE.out.2]
    exact bodyPost_ret (v := .tuple #[.agg (SA Zs), .int .i64 60]) (results_sec Tryz.results26 _ _ (w.heap.size + 1) Zs Zs_len _ rfl rfl hw3.here) rfl ⟨rfl, hw3.below hb (by omega)⟩
 ·have HE : Hid (supS a b = layS (numsSup a b) ∧ supE a b = 0) := ⟨by simp [supS, h], by simp [supE, h]⟩
  have h' := of_decide_eq_true h;have hm1 : wiB a 8 4096 = true := wiB_true (by omega);have hm2 : wiB b 1 512 = true := wiB_true (by omega);obtain ⟨W, hW⟩ : ∃ x, x = (w.alloc (.cells #[.int .i64 a, .int .i64 b] 32)).alloc (.cells (SA Zs) 36) := ⟨_, rfl⟩;rw [← hW] at HZ HS hb hsz
  have h3 : ¬ a < b + 2 := by omega
  have hl1 := fun w' => rlay_any s4 4 4 a w' s4_len (by decide) (by omega) (by omega)
  have hl2 := fun w' => rlay_any (putN s4 4 a 4) 8 4 b w' (by rw [putN_len, s4_len]) (by decide) (by omega) (by omega)
  have hp1 : (putN s4 4 a 4).length = 128 := by rw [putN_len, s4_len]
  have hp2 : (putN (putN s4 4 a 4) 8 b 4).length = 128 := by rw [putN_len, hp1]
  rw [← layS_sup] at hl2 hp2
  go_enter Tryz.func26, Tryz.ntmps26
  go_upto_region 3 with (first | (go_at_call 48; refine (rwithin_any _ _ _ _).mono ?_; rintro e w2 ⟨he, rfl⟩; (first | rw [hm1] at he | rw [hm2] at he); subst he))
  rw [← hW];clear hW h' h
  go_upto_region 4 with fail
  obtain ⟨W2, hW2⟩ : ∃ x, x = W.alloc (.cells (SA Zs) 36) := ⟨_, rfl⟩;rw [← hW2]
  have g0 : W2.heap[w.heap.size + 2]? = some (.cells (SA Zs) 36 (0, 0)) := by rw [hW2, ← hsz]; exact heap_alloc_new _ _
  have HZ2 : Hid (W2.heap[w.heap.size + 1]? = some (.cells (SA Zs) 36 (0, 0))) := by show _ = _; rw [hW2, Below.heap_alloc _ _ _ (by omega)]; exact HZ.out
  have HS2 : W2.heap[w.heap.size]? = some (.cells #[.int .i64 a, .int .i64 b] 32 (0, 0)) := by rw [hW2, Below.heap_alloc _ _ _ (by omega)]; exact HS.out
  have hb2 : Below w.heap.size w W2 := by rw [hW2]; exact hb.alloc (by omega) _
  have z2 : W2.heap.size = w.heap.size + 3 := by rw [hW2]; simp [hsz]
  clear hW2 HZ HS hb;have hc0 := sec_cell g0 0 (by simp [Zs]);have hf0 := sec_free g0 0;have G0 := hid g0;clear g0
  go_upto_region 5 with fail
  obtain ⟨W3, hW3⟩ : ∃ x, x = W2.setCell ⟨w.heap.size + 2, 0, none⟩ (.int .u8 66) := ⟨_, rfl⟩;rw [← hW3]
  have k0 : Wrote W2 (w.heap.size + 2) (Zs.set 0 66) W3 := by rw [hW3]; exact sec_setCell G0.out 0 66
  have g1 := k0.here;clear hW3 hc0 hf0;have hc1 := sec_cell g1 1 (by simp [Zs]);have hf1 := sec_free g1 1;have G1 := hid g1;clear g1
  go_upto_region 6 with fail
  obtain ⟨W4, hW4⟩ : ∃ x, x = W3.setCell ⟨w.heap.size + 2, 1, none⟩ (.int .u8 82) := ⟨_, rfl⟩;rw [← hW4]
  have k1 : Wrote W3 (w.heap.size + 2) ((Zs.set 0 66).set 1 82) W4 := by rw [hW4]; exact sec_setCell G1.out 1 82
  have g2 := k1.here;clear hW4 hc1 hf1;have hc2 := sec_cell g2 2 (by simp [Zs]);have hf2 := sec_free g2 2;have G2 := hid g2;clear g2
  go_upto_region 7 with fail
  obtain ⟨W5, hW5⟩ : ∃ x, x = W4.setCell ⟨w.heap.size + 2, 2, none⟩ (.int .u8 75) := ⟨_, rfl⟩;rw [← hW5]
  have k2 : Wrote W4 (w.heap.size + 2) (((Zs.set 0 66).set 1 82).set 2 75) W5 := by rw [hW5]; exact sec_setCell G2.out 2 75
  have g3 := k2.here;clear hW5 hc2 hf2;have hc3 := sec_cell g3 3 (by simp [Zs]);have hf3 := sec_free g3 3;have G3 := hid g3;clear g3
  go_upto_region 8 with fail
  obtain ⟨W6, hW6⟩ : ∃ x, x = W5.setCell ⟨w.heap.size + 2, 3, none⟩ (.int .u8 87) := ⟨_, rfl⟩;rw [← hW6]
  have k3 : Wrote W5 (w.heap.size + 2) (s4) W6 := by rw [hW6]; exact sec_setCell G3.out 3 87
  have g4 := k3.here;clear hW6 hc3 hf3;have G4 := hid g4
  have HZ6 : Hid (W6.heap[w.heap.size + 1]? = some (.cells (SA Zs) 36 (0, 0))) := by show _ = _; rw [k3.other _ (by omega), k2.other _ (by omega), k1.other _ (by omega), k0.other _ (by omega)]; exact HZ2.out
  have HS6 : W6.heap[w.heap.size]? = some (.cells #[.int .i64 a, .int .i64 b] 32 (0, 0)) := by rw [k3.other _ (by omega), k2.other _ (by omega), k1.other _ (by omega), k0.other _ (by omega)]; exact HS2
  have hb6 : Below w.heap.size w W6 := k3.below (k2.below (k1.below (k0.below hb2 (by omega)) (by omega)) (by omega)) (by omega)
  have z6 : W6.heap.size = w.heap.size + 3 := by rw [k3.size, k2.size, k1.size, k0.size, z2]
  have hc0 := cell_of_row W6 w.heap.size 0 _ _ _ HS6;have HS6' := hid HS6;clear g4 HS2 HS6 hb2 k0 k1 k2 k3
  go_upto_region 9 with (first | refine load_sec rfl (.tmp 4) rfl (w.heap.size + 2) rfl s4 s4_len G4.out ?_ | (go_at_call 49; refine (hl1 _).mono ?_; rintro e w2 ⟨rfl, hb2⟩; have g5 : w2.heap[w.heap.size + 2]? = some (.cells (SA s4) 36 (0, 0)) := by { rw [hb2.block _ (by omega)]; exact G4.out }; have G5 := hid g5; clear g5) | (refine store_sec rfl (.tmp 4) _ rfl (w.heap.size + 2) rfl _ rfl hp1 s4 s4_len G5.out ?_; intro w3 hw3))
  have z3 := hb2.size;have z4 := hw3.size
  have HZ7 : Hid (w3.heap[w.heap.size + 1]? = some (.cells (SA Zs) 36 (0, 0))) := by show _ = _; rw [hw3.other _ (by omega), hb2.block _ (by omega)]; exact HZ6.out
  have HS7 : w3.heap[w.heap.size]? = some (.cells #[.int .i64 a, .int .i64 b] 32 (0, 0)) := by rw [hw3.other _ (by omega), hb2.block _ (by omega)]; exact HS6'.out
  have hb7 : Below w.heap.size w w3 := hw3.below (btr hb6 hb2 (by omega)) (by omega);have hc1 := cell_of_row w3 w.heap.size 1 _ _ _ HS7;clear hc0
  go_wp2_with (first | refine load_sec rfl (.tmp 4) rfl (w.heap.size + 2) rfl _ hp1 hw3.here ?_ | (go_at_call 49; refine (hl2 _).mono ?_; rintro e w4 ⟨rfl, hb4⟩; have HZ8 : Hid (w4.heap[w.heap.size + 1]? = some (.cells (SA Zs) 36 (0, 0))) := by { show _ = _; rw [hb4.block _ (by omega)]; exact HZ7.out }) | (refine store_sec rfl (.tmp 2) _ rfl (w.heap.size + 1) rfl _ rfl hp2 Zs Zs_len HZ8.out ?_; intro w5 hw5))
  rw [HE.out.1, HE.out.2]
  exact bodyPost_ret (v := .tuple #[.agg (SA (layS (numsSup a b))), .int .i64 0]) (results_sec Tryz.results26 _ _ (w.heap.size + 1) _ hp2 _ rfl rfl hw5.here) rfl ⟨rfl, hw5.below (btr hb7 hb4 (by omega)) (by omega)⟩

end Go.Proofs.YtpmignilhoihnabGreat
