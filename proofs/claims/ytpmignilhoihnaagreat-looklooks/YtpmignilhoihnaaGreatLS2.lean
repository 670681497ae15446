/-
 The document's SlotSector.
-/
import Derived.Test.YtpmignilhoihnaaGreatLF1
import Derived.Deep.CutRange
import Derived.Deep.DeepCutAuto
import Derived.Test.YtpmignilhoihnaaGreatLH4
namespace Go.Proofs.YtpmignilhoihnaaGreat
open Go.RowKit

def s4 : List Int := putN Zs 0 1464554050 4
theorem s4_len : s4.length = 128 := by rw [s4, putN_len, Zs_len]
theorem layS_sup (a b : Int) : layS (numsSup a b) = putN (putN s4 4 a 4) 8 b 4 := rfl
theorem supB_wi (a b : Int) : supB a b = (wiB a 8 4096 && wiB b 1 512 && decide (b + 2 ≤ a)) := by
 unfold supB wiB;rw [Bool.eq_iff_iff]
 simp
 omega

set_option maxRecDepth 100000 in
set_option maxHeartbeats 2000000 in
theorem rsuperSector_any (a b : Int) (w : World) :
  Calls Tryz.prog 38 #[.agg #[.int .i64 a, .int .i64 b]] w fun e w' => e = .returned (.tuple #[.agg (SA (supS a b)), .int .i64 (supE a b)]) ∧ Below w.heap.size w w' := by
 have hz := zero_sec;have hbs := build_sec;have HZ : Hid (((w.alloc (.cells #[.int .i64 a, .int .i64 b] 42)).alloc (.cells (SA Zs) 33)).heap[w.heap.size + 1]? = some (.cells (SA Zs) 33 (0, 0))) := heap_alloc2_new w _ _;have HS : Hid (((w.alloc (.cells #[.int .i64 a, .int .i64 b] 42)).alloc (.cells (SA Zs) 33)).heap[w.heap.size]? = some (.cells #[.int .i64 a, .int .i64 b] 42 (0, 0))) := heap_alloc2_old w _ _;have hb : Below w.heap.size w ((w.alloc (.cells #[.int .i64 a, .int .i64 b] 42)).alloc (.cells (SA Zs) 33)) := ((Below.refl _ _).alloc (Nat.le_refl _) _).alloc (by simp) _
 have hsz : ((w.alloc (.cells #[.int .i64 a, .int .i64 b] 42)).alloc (.cells (SA Zs) 33)).heap.size = w.heap.size + 2 := by simp
 cases h : supB a b
 ·have HE : Hid (supS a b = Zs ∧ supE a b = 60) := ⟨by simp [supS, h], by simp [supE, h]⟩
  rw [supB_wi] at h
  cases hm1 : wiB a 8 4096
  ·go_enter Tryz.func38, Tryz.ntmps38
   go_wp2_with (first | (go_at_call 69; refine (rwithin_any _ _ _ _).mono ?_; rintro e w2 ⟨he, rfl⟩; rw [hm1] at he; subst he) | (refine store_sec rfl _ _ rfl (w.heap.size + 1) rfl Zs rfl Zs_len Zs Zs_len HZ.out ?_; intro w3 hw3))
   rw [HE.out.1, HE.out.2]
   exact bodyPost_ret (v := .tuple #[.agg (SA Zs), .int .i64 60]) (results_sec Tryz.results38 _ _ (w.heap.size + 1) Zs Zs_len _ rfl rfl hw3.here) rfl ⟨rfl, hw3.below hb (by omega)⟩
  ·cases hm2 : wiB b 1 512
   ·go_enter Tryz.func38, Tryz.ntmps38
    go_wp2_with (first | (go_at_call 69; refine (rwithin_any _ _ _ _).mono ?_; rintro e w2 ⟨he, rfl⟩; (first | rw [hm1] at he | rw [hm2] at he); subst he) | (refine store_sec rfl _ _ rfl (w.heap.size + 1) rfl Zs rfl Zs_len Zs Zs_len HZ.out ?_; intro w3 hw3))
    rw [HE.out.1, HE.out.2]
    exact bodyPost_ret (v := .tuple #[.agg (SA Zs), .int .i64 60]) (results_sec Tryz.results38 _ _ (w.heap.size + 1) Zs Zs_len _ rfl rfl hw3.here) rfl ⟨rfl, hw3.below hb (by omega)⟩
   ·have hh := of_decide_eq_true hm2
    have h3 : a < b + 2 := by rw [hm1, hm2] at h; simpa using h
    go_enter Tryz.func38, Tryz.ntmps38
    go_wp2_with (first | (go_at_call 69; refine (rwithin_any _ _ _ _).mono ?_; rintro e w2 ⟨he, rfl⟩; (first | rw [hm1] at he | rw [hm2] at he); subst he) | (refine store_sec rfl _ _ rfl (w.heap.size + 1) rfl Zs rfl Zs_len Zs Zs_len HZ.out ?_; intro w3 hw3))
    rw [HE.out.1, HE.out.2]
    exact bodyPost_ret (v := .tuple #[.agg (SA Zs), .int .i64 60]) (results_sec Tryz.results38 _ _ (w.heap.size + 1) Zs Zs_len _ rfl rfl hw3.here) rfl ⟨rfl, hw3.below hb (by omega)⟩
 ·have HE : Hid (supS a b = layS (numsSup a b) ∧ supE a b = 0) := ⟨by simp [supS, h], by simp [supE, h]⟩
  have h' := of_decide_eq_true h;have hm1 : wiB a 8 4096 = true := wiB_true (by omega);have hm2 : wiB b 1 512 = true := wiB_true (by omega);obtain ⟨W, hW⟩ : ∃ x, x = (w.alloc (.cells #[.int .i64 a, .int .i64 b] 42)).alloc (.cells (SA Zs) 33) := ⟨_, rfl⟩;rw [← hW] at HZ HS hb hsz
  have h3 : ¬ a < b + 2 := by omega
  have hl1 := fun w' => rlay_any s4 4 4 a w' s4_len (by decide) (by omega) (by omega)
  have hl2 := fun w' => rlay_any (putN s4 4 a 4) 8 4 b w' (by rw [putN_len, s4_len]) (by decide) (by omega) (by omega)
  have hp1 : (putN s4 4 a 4).length = 128 := by rw [putN_len, s4_len]
  have hp2 : (putN (putN s4 4 a 4) 8 b 4).length = 128 := by rw [putN_len, hp1]
  rw [← layS_sup] at hl2 hp2
  go_enter Tryz.func38, Tryz.ntmps38
  go_upto_region 3 with (first | (go_at_call 69; refine (rwithin_any _ _ _ _).mono ?_; rintro e w2 ⟨he, rfl⟩; (first | rw [hm1] at he | rw [hm2] at he); subst he))
  rw [← hW];clear hW h' h
  go_upto_region 4 with fail
  obtain ⟨W2, hW2⟩ : ∃ x, x = W.alloc (.cells (SA Zs) 33) := ⟨_, rfl⟩;rw [← hW2]
  have g0 : W2.heap[w.heap.size + 2]? = some (.cells (SA Zs) 33 (0, 0)) := by rw [hW2, ← hsz]; exact heap_alloc_new _ _
  have HZ2 : Hid (W2.heap[w.heap.size + 1]? = some (.cells (SA Zs) 33 (0, 0))) := by show _ = _; rw [hW2, Below.heap_alloc _ _ _ (by omega)]; exact HZ.out
  have HS2 : W2.heap[w.heap.size]? = some (.cells #[.int .i64 a, .int .i64 b] 42 (0, 0)) := by rw [hW2, Below.heap_alloc _ _ _ (by omega)]; exact HS.out
  have hb2 : Below w.heap.size w W2 := by rw [hW2]; exact hb.alloc (by omega) _
  have z2 : W2.heap.size = w.heap.size + 3 := by rw [hW2]; simp [hsz]
  clear hW2 HZ HS hb;have hc0 := sec_cell g0 0 (by simp [Zs]);have hf0 := sec_free g0 0;have G0 := hid g0;clear g0
  go_upto_region 5 with fail
  obtain ⟨W3, hW3⟩ : ∃ x, x = W2.setCell ⟨w.heap.size + 2, 0, none⟩ (.int .u8 66) := ⟨_, rfl⟩;rw [← hW3]
  have k0 : Wrote W2 (w.heap.size + 2) (Zs.set 0 66) W3 := by rw [hW3]; exact sec_setCell G0.out 0 66
  have g1 := k0.here;clear hW3 hc0 hf0;have hc1 := sec_cell g1 1 (by simp [Zs]);have hf1 := sec_free g1 1;have G1 := hid g1;clear g1
  go_upto_region 6 with fail
  obtain ⟨W4, hW4⟩ : ∃ x, x = W3.setCell ⟨w.heap.size + 2, 1, none⟩ (.int .u8 82) := ⟨_, rfl⟩;rw [← hW4]
  have k1 : Wrote W3 (w.heap.size + 2) ((Zs.set 0 66).set 1 82) W4 := by rw [hW4]; exact sec_setCell G1.out 1 82
  have g2 := k1.here;clear hW4 hc1 hf1;have hc2 := sec_cell g2 2 (by simp [Zs]);have hf2 := sec_free g2 2;have G2 := hid g2;clear g2
  go_upto_region 7 with fail
  obtain ⟨W5, hW5⟩ : ∃ x, x = W4.setCell ⟨w.heap.size + 2, 2, none⟩ (.int .u8 75) := ⟨_, rfl⟩;rw [← hW5]
  have k2 : Wrote W4 (w.heap.size + 2) (((Zs.set 0 66).set 1 82).set 2 75) W5 := by rw [hW5]; exact sec_setCell G2.out 2 75
  have g3 := k2.here;clear hW5 hc2 hf2;have hc3 := sec_cell g3 3 (by simp [Zs]);have hf3 := sec_free g3 3;have G3 := hid g3;clear g3
  go_upto_region 8 with fail
  obtain ⟨W6, hW6⟩ : ∃ x, x = W5.setCell ⟨w.heap.size + 2, 3, none⟩ (.int .u8 87) := ⟨_, rfl⟩;rw [← hW6]
  have k3 : Wrote W5 (w.heap.size + 2) (s4) W6 := by rw [hW6]; exact sec_setCell G3.out 3 87
  have g4 := k3.here;clear hW6 hc3 hf3;have G4 := hid g4
  have HZ6 : Hid (W6.heap[w.heap.size + 1]? = some (.cells (SA Zs) 33 (0, 0))) := by show _ = _; rw [k3.other _ (by omega), k2.other _ (by omega), k1.other _ (by omega), k0.other _ (by omega)]; exact HZ2.out
  have HS6 : W6.heap[w.heap.size]? = some (.cells #[.int .i64 a, .int .i64 b] 42 (0, 0)) := by rw [k3.other _ (by omega), k2.other _ (by omega), k1.other _ (by omega), k0.other _ (by omega)]; exact HS2
  have hb6 : Below w.heap.size w W6 := k3.below (k2.below (k1.below (k0.below hb2 (by omega)) (by omega)) (by omega)) (by omega)
  have z6 : W6.heap.size = w.heap.size + 3 := by rw [k3.size, k2.size, k1.size, k0.size, z2]
  have hc0 := cell_of_row W6 w.heap.size 0 _ _ _ HS6;have HS6' := hid HS6;clear g4 HS2 HS6 hb2 k0 k1 k2 k3
  go_upto_region 9 with (first | refine load_sec rfl (.tmp 4) rfl (w.heap.size + 2) rfl s4 s4_len G4.out ?_ | (go_at_call 63; refine (hl1 _).mono ?_; rintro e w2 ⟨rfl, hb2⟩; have g5 : w2.heap[w.heap.size + 2]? = some (.cells (SA s4) 33 (0, 0)) := by { rw [hb2.block _ (by omega)]; exact G4.out }; have G5 := hid g5; clear g5) | (refine store_sec rfl (.tmp 4) _ rfl (w.heap.size + 2) rfl _ rfl hp1 s4 s4_len G5.out ?_; intro w3 hw3))
  have z3 := hb2.size;have z4 := hw3.size
  have HZ7 : Hid (w3.heap[w.heap.size + 1]? = some (.cells (SA Zs) 33 (0, 0))) := by show _ = _; rw [hw3.other _ (by omega), hb2.block _ (by omega)]; exact HZ6.out
  have HS7 : w3.heap[w.heap.size]? = some (.cells #[.int .i64 a, .int .i64 b] 42 (0, 0)) := by rw [hw3.other _ (by omega), hb2.block _ (by omega)]; exact HS6'.out
  have hb7 : Below w.heap.size w w3 := hw3.below (btr hb6 hb2 (by omega)) (by omega);have hc1 := cell_of_row w3 w.heap.size 1 _ _ _ HS7;clear hc0
  go_wp2_with (first | refine load_sec rfl (.tmp 4) rfl (w.heap.size + 2) rfl _ hp1 hw3.here ?_ | (go_at_call 63; refine (hl2 _).mono ?_; rintro e w4 ⟨rfl, hb4⟩; have HZ8 : Hid (w4.heap[w.heap.size + 1]? = some (.cells (SA Zs) 33 (0, 0))) := by { show _ = _; rw [hb4.block _ (by omega)]; exact HZ7.out }) | (refine store_sec rfl (.tmp 2) _ rfl (w.heap.size + 1) rfl _ rfl hp2 Zs Zs_len HZ8.out ?_; intro w5 hw5))
  rw [HE.out.1, HE.out.2]
  exact bodyPost_ret (v := .tuple #[.agg (SA (layS (numsSup a b))), .int .i64 0]) (results_sec Tryz.results38 _ _ (w.heap.size + 1) _ hp2 _ rfl rfl hw5.here) rfl ⟨rfl, hw5.below (btr hb7 hb4 (by omega)) (by omega)⟩

end Go.Proofs.YtpmignilhoihnaaGreat

namespace Go.Proofs.YtpmignilhoihnaaGreat
open Go.RowKit Go.Shelf

theorem u8_beq6 {x : UInt8} (n : Int) (c : UInt8) (hc : (c.toNat : Int) = n) : ((x.toNat : Int) == n) = (x == c) := by
 cases e : (x == c)
 ·simp only [beq_eq_false_iff_ne]; intro h; have : x = c := UInt8.toNat_inj.1 (by omega); simp [this] at e
 ·rw [eq_of_beq e, hc]; simp
theorem dat6 (s : ByteArray) (i : Nat) (hi : i < s.size) : s.data.toList[i]? = some (s[i]'hi) := Lib.data_getElem? s i hi

set_option maxRecDepth 100000 in
set_option maxHeartbeats 1000000 in
theorem risName_any (s : ByteArray) (w : World) (hsz : s.size ≤ 9223372036854775807) :
  Calls Tryz.prog 70 #[.string s] w fun e w' => e = .returned (.bool (nameB s)) ∧ Below w.heap.size w w' := by
 have e1 := toList_one;have e2 := toList_two
 have hwi := fun w' => rwithin_any (s.size : Int) 1 40 w'
 go_enter Tryz.func70, Tryz.ntmps70
 go_wp2
 go_loopw [3] (fun i wr => ∃ k : Nat, k ≤ s.size ∧ i = .int .i64 k ∧ Below w.heap.size w wr ∧ Hid (Lib.NoAny s.data.toList [0, 47] k)) (fun i _ => s.size - (intOf i).toNat)
 case atStart => exact ⟨0, by omega, rfl, Below.refl _ _, Lib.NoAny.zero _ _⟩
 case round =>
  obtain ⟨k, hk, rfl, hbr, HN⟩ := hrel;obtain ⟨Wx, hWx⟩ : ∃ y, y = wr := ⟨_, rfl⟩;subst hWx
  by_cases hlt : k < s.size
  ·obtain ⟨x, hx⟩ : ∃ x : UInt8, s[k]'hlt = x := ⟨_, rfl⟩
   have hxl := dat6 s k hlt;rw [hx] at hxl;have HX := hid hxl
   have hi0 : (0 : Int) ≤ (k : Int) := by omega
   have hi1 : (k : Int) < (s.size : Int) := by omega
   clear hxl
   have BAD : Hid (([0, 47] : List UInt8).contains x = true → nameB s = false) := fun hc => by
    have h1 := Lib.indexAny_hit HN.out HX.out hc
    have h2 : hasB s = true := by unfold hasB Lib.containsAny; rw [show two.data.toList = [0, 47] from rfl, h1]; simp
    unfold nameB; rw [h2]; simp
   by_cases c0 : x = 0
   ·have HB := hid (BAD.out (by rw [c0]; decide))
    subst c0
    go_wp2
    go_ret
    exact ⟨ret_bool HB.out.symm, hbr⟩
   have n0 : ((x.toNat : Int) == 0) = false := by rw [u8_beq6 0 0 rfl]; simpa using c0
   by_cases c1 : x = 47
   ·have HB := hid (BAD.out (by rw [c1]; decide))
    subst c1;clear n0
    go_wp2
    go_ret
    exact ⟨ret_bool HB.out.symm, hbr⟩
   have n1 : ((x.toNat : Int) == 47) = false := by rw [u8_beq6 47 47 rfl]; simpa using c1
   have HNN := hid (HN.out.succ HX.out (by simp [c0, c1]))
   go_wp2
   exact ⟨⟨k + 1, by omega, by go_num, hbr, HNN⟩, by simp [intOf]; omega⟩
  ·have HH : Hid (nameB s = (decide (1 ≤ s.size ∧ s.size ≤ 40) && (!(s.toList == [46]) && !(s.toList == [46, 46])))) := by
    show _ = _
    have hk2 : k = s.data.toList.length := by simp; omega
    have h1 := Lib.indexAny_none (s := s.data.toList) (chars := [0, 47]) (by rw [← hk2]; exact HN.out)
    have h2 : hasB s = false := by unfold hasB Lib.containsAny; rw [show two.data.toList = [0, 47] from rfl, h1]; simp
    unfold nameB; rw [h2]; simp
   have HW : Hid (wiB (s.size : Int) 1 40 = decide (1 ≤ s.size ∧ s.size ≤ 40)) := by
    show _ = _
    by_cases h : 1 ≤ s.size ∧ s.size ≤ 40
    ·rw [decide_eq_true h, wiB_true (by omega)]
    ·rw [decide_eq_false h, wiB_false (by omega)]
   rw [HW.out] at hwi
   generalize decide (1 ≤ s.size ∧ s.size ≤ 40) = D at *
   cases D
   ·go_wp2_with (go_at_call 69; refine (hwi _).mono ?_; rintro e w2 ⟨rfl, hw2⟩; rw [hw2])
    go_ret
    exact ⟨ret_bool (by rw [HH.out]; rfl), hbr⟩
   ·cases k1 : (s.toList == [46])
    ·have m1 : (s.toList != [46]) = true := by rw [bne, k1]; rfl
     cases k2 : (s.toList == [46, 46])
     ·have m2 : (s.toList != [46, 46]) = true := by rw [bne, k2]; rfl
      rw [k1, k2] at HH
      go_wp2_with (go_at_call 69; refine (hwi _).mono ?_; rintro e w2 ⟨rfl, hw2⟩; rw [hw2])
      go_ret
      exact ⟨ret_bool (by rw [HH.out]; rfl), hbr⟩
     ·have m2 : (s.toList != [46, 46]) = false := by rw [bne, k2]; rfl
      rw [k1, k2] at HH
      go_wp2_with (go_at_call 69; refine (hwi _).mono ?_; rintro e w2 ⟨rfl, hw2⟩; rw [hw2])
      go_ret
      exact ⟨ret_bool (by rw [HH.out]; rfl), hbr⟩
    ·have m1 : (s.toList != [46]) = false := by rw [bne, k1]; rfl
     rw [k1] at HH
     go_wp2_with (go_at_call 69; refine (hwi _).mono ?_; rintro e w2 ⟨rfl, hw2⟩; rw [hw2])
     go_ret
     exact ⟨ret_bool (by rw [HH.out]; rfl), hbr⟩

end Go.Proofs.YtpmignilhoihnaaGreat

namespace Go.Proofs.YtpmignilhoihnaaGreat
open Go.RowKit Go.Shelf

theorem spl_take {L B : List Int} {j : Nat} (hj : j < B.length) (h : 5 + B.length ≤ L.length) : (spl L 5 (B.take j)).set (5 + j) (B.getD j 0) = spl L 5 (B.take (j + 1)) := by
 have l1 : (B.take j).length = j := by rw [List.length_take]; omega
 have l2 : (B.take (j + 1)).length = j + 1 := by rw [List.length_take]; omega
 apply ext_getD (by rw [List.length_set, spl_len _ _ _ (by rw [l1]; omega), spl_len _ _ _ (by rw [l2]; omega)])
 intro i hi
 rw [List.length_set, spl_len _ _ _ (by rw [l1]; omega)] at hi;rw [spl_get _ _ _ (by rw [l2]; omega), l2];rw [List.getD_eq_getElem?_getD, List.getElem?_set]
 by_cases c : 5 + j = i
 ·rw [if_pos c, if_pos (by rw [spl_len _ _ _ (by rw [l1]; omega)]; omega), if_pos (by omega)]
  rw [show i - 5 = j by omega]
  simp [List.getD_eq_getElem?_getD]
 ·rw [if_neg c, ← List.getD_eq_getElem?_getD, spl_get _ _ _ (by rw [l1]; omega), l1]
  by_cases d : 5 ≤ i ∧ i < 5 + j
  ·rw [if_pos d, if_pos (by omega)]
   simp only [List.getD_eq_getElem?_getD, List.getElem?_take]
   rw [if_pos (by omega), if_pos (by omega)]
  ·rw [if_neg d, if_neg (by omega)]
theorem spl_zero (L : List Int) : spl L 5 [] = L := by
 unfold spl; simp
theorem bytes_at (s : ByteArray) (j : Nat) (hj : j < s.size) : (bytesI s).getD j 0 = ((s[j]'hj).toNat : Int) := by
 have h := dat6 s j hj;unfold bytesI;rw [List.getD_eq_getElem?_getD, List.getElem?_map, h]; rfl
theorem slot_zero (s : ByteArray) (h : s.toList = []) : slotS 0 s = Zs ∧ slotE 0 s = 0 := by
 have hb : slotB 0 s = true := by unfold slotB; rw [if_pos rfl, h]; rfl
 have hs : s.size = 0 := by rw [← size_eq, h]; rfl
 have hB : bytesI s = [] := by apply List.length_eq_zero_iff.1; rw [bytesI_len, hs]
 refine ⟨?_, by unfold slotE; rw [if_pos hb]⟩;unfold slotS numsSlot;rw [if_pos hb, hB, hs]
 decide

set_option maxRecDepth 100000 in
set_option maxHeartbeats 2000000 in
theorem rslotSector_any (n : Int) (s : ByteArray) (w : World) (hsz : s.size ≤ 9223372036854775807) :
  Calls Tryz.prog 39 #[.agg #[.int .i64 n, .string s]] w fun e w' => e = .returned (.tuple #[.agg (SA (slotS n s)), .int .i64 (slotE n s)]) ∧ Below w.heap.size w w' := by
 have hz := zero_sec;have e0 := toList_nil;obtain ⟨W, hW⟩ : ∃ x, x = ((w.alloc (.cells #[.int .i64 n, .string s] 83)).alloc (.cells (SA Zs) 33)).alloc (.cells (SA Zs) 33) := ⟨_, rfl⟩
 have G0 : Hid (W.heap[w.heap.size]? = some (.cells #[.int .i64 n, .string s] 83 (0, 0))) := by
  show _ = _; rw [hW, Below.heap_alloc _ _ _ (by simp; omega)]; exact heap_alloc2_old w _ _
 have G1 : Hid (W.heap[w.heap.size + 1]? = some (.cells (SA Zs) 33 (0, 0))) := by
  show _ = _; rw [hW, Below.heap_alloc _ _ _ (by simp)]; exact heap_alloc2_new w _ _
 have G2 : Hid (W.heap[w.heap.size + 2]? = some (.cells (SA Zs) 33 (0, 0))) := by
  show _ = _; rw [hW]
  have := heap_alloc_new ((w.alloc (.cells #[.int .i64 n, .string s] 83)).alloc (.cells (SA Zs) 33)) (.cells (SA Zs) 33)
  simpa using this
 have hbW : Below w.heap.size w W := by rw [hW]; exact (((Below.refl _ _).alloc (Nat.le_refl _) _).alloc (by simp) _).alloc (by simp; omega) _
 have HB := hid hbW
 have c0 : W.cell? ⟨w.heap.size, 0, none⟩ = some (.int .i64 n) := by rw [cell_of_row _ _ _ _ _ _ G0.out]; rfl
 have c1 : W.cell? ⟨w.heap.size, 1, none⟩ = some (.string s) := by rw [cell_of_row _ _ _ _ _ _ G0.out]; rfl
 have hnm := fun w' => risName_any s w' hsz
 clear hbW
 by_cases hn0 : n = 0
 ·subst hn0
  cases hs0 : (s.toList == [])
  ·have HE : Hid (slotS 0 s = Zs ∧ slotE 0 s = 63) := by
    have hb : slotB 0 s = false := by
     unfold slotB; rw [if_pos rfl]
     cases e : s.toList with
     | nil => rw [e] at hs0; simp at hs0
     | cons => rfl
    exact ⟨by unfold slotS; rw [hb]; rfl, by unfold slotE; rw [hb]; rfl⟩
   have hwi := fun w' => rwithin_any 0 1 512 w'
   rw [wiB_false (by omega)] at hwi
   go_enter Tryz.func39, Tryz.ntmps39
   go_upto_region 2 with fail
   rw [← hW];clear hW
   go_wp2_with (first | (go_at_call 69; refine (hwi _).mono ?_; rintro e w2 ⟨rfl, hw2⟩; rw [hw2]) | refine load_sec rfl (.tmp 4) rfl (w.heap.size + 2) rfl Zs Zs_len G2.out ?_ | (refine store_sec rfl _ _ rfl (w.heap.size + 1) rfl Zs rfl Zs_len Zs Zs_len G1.out ?_; intro w3 hw3))
   rw [HE.out.1, HE.out.2]
   exact bodyPost_ret (v := .tuple #[.agg (SA Zs), .int .i64 63]) (results_sec Tryz.results39 _ _ (w.heap.size + 1) Zs Zs_len _ rfl rfl hw3.here) rfl ⟨rfl, hw3.below HB.out (by omega)⟩
  ·have HE := hid (slot_zero s (eq_of_beq hs0))
   go_enter Tryz.func39, Tryz.ntmps39
   go_upto_region 2 with fail
   rw [← hW];clear hW
   go_wp2_with (first | refine load_sec rfl (.tmp 4) rfl (w.heap.size + 2) rfl Zs Zs_len G2.out ?_ | (refine store_sec rfl _ _ rfl (w.heap.size + 1) rfl Zs rfl Zs_len Zs Zs_len G1.out ?_; intro w3 hw3))
   rw [HE.out.1, HE.out.2]
   exact bodyPost_ret (v := .tuple #[.agg (SA Zs), .int .i64 0]) (results_sec Tryz.results39 _ _ (w.heap.size + 1) Zs Zs_len _ rfl rfl hw3.here) rfl ⟨rfl, hw3.below HB.out (by omega)⟩
 ·have hn0' : (n == 0) = false := by simp [hn0]
  have hwi := fun w' => rwithin_any n 1 512 w'
  cases hm1 : wiB n 1 512
  ·have HE : Hid (slotS n s = Zs ∧ slotE n s = 63) := by
    have hb : slotB n s = false := by
     unfold slotB; rw [if_neg hn0, show decide (1 ≤ n ∧ n ≤ 512) = false from hm1]; rfl
    exact ⟨by unfold slotS; rw [hb]; rfl, by unfold slotE; rw [hb]; rfl⟩
   rw [hm1] at hwi
   go_enter Tryz.func39, Tryz.ntmps39
   go_upto_region 2 with fail
   rw [← hW];clear hW
   go_wp2_with (first | (go_at_call 69; refine (hwi _).mono ?_; rintro e w2 ⟨rfl, hw2⟩; rw [hw2]) | refine load_sec rfl (.tmp 4) rfl (w.heap.size + 2) rfl Zs Zs_len G2.out ?_ | (refine store_sec rfl _ _ rfl (w.heap.size + 1) rfl Zs rfl Zs_len Zs Zs_len G1.out ?_; intro w3 hw3))
   rw [HE.out.1, HE.out.2]
   exact bodyPost_ret (v := .tuple #[.agg (SA Zs), .int .i64 63]) (results_sec Tryz.results39 _ _ (w.heap.size + 1) Zs Zs_len _ rfl rfl hw3.here) rfl ⟨rfl, hw3.below HB.out (by omega)⟩
  ·rw [hm1] at hwi
   cases hm2 : nameB s
   ·have HE : Hid (slotS n s = Zs ∧ slotE n s = 63) := by
     have hb : slotB n s = false := by
      unfold slotB; rw [if_neg hn0, hm2]; simp
     exact ⟨by unfold slotS; rw [hb]; rfl, by unfold slotE; rw [hb]; rfl⟩
    rw [hm2] at hnm
    go_enter Tryz.func39, Tryz.ntmps39
    go_upto_region 2 with fail
    rw [← hW];clear hW
    go_wp2_with (first | (go_at_call 69; refine (hwi _).mono ?_; rintro e w2 ⟨rfl, hw2⟩; rw [hw2]) | (go_at_call 70; refine (hnm _).mono ?_; rintro e w5 ⟨rfl, hb5⟩) | refine load_sec rfl (.tmp 4) rfl (w.heap.size + 2) rfl Zs Zs_len (by rw [hb5.block _ (slt G2.out)]; exact G2.out) ?_ | (refine store_sec rfl _ _ rfl (w.heap.size + 1) rfl Zs rfl Zs_len Zs Zs_len (by rw [hb5.block _ (slt G1.out)]; exact G1.out) ?_; intro w3 hw3))
    rw [HE.out.1, HE.out.2]
    exact bodyPost_ret (v := .tuple #[.agg (SA Zs), .int .i64 63]) (results_sec Tryz.results39 _ _ (w.heap.size + 1) Zs Zs_len _ rfl rfl hw3.here) rfl ⟨rfl, hw3.below (btr HB.out hb5 HB.out.size) (by omega)⟩
   ·have hbd : slotB n s = true := by unfold slotB; rw [if_neg hn0, hm2, show decide (1 ≤ n ∧ n ≤ 512) = true from hm1]; rfl
    have hb3 := slot_bd hbd;have HE : Hid (slotS n s = spl (putN (putN Zs 0 n 4) 4 s.size 1) 5 (bytesI s) ∧ slotE n s = 0) := ⟨by unfold slotS; rw [if_pos hbd]; rfl, by unfold slotE; rw [if_pos hbd]⟩
    have hl1 := fun w' => rlay_any Zs 0 4 n w' Zs_len (by decide) (by omega) (by omega)
    have lp1 : (putN Zs 0 n 4).length = 128 := by rw [putN_len, Zs_len]
    have hl2 := fun w' => rlay_any (putN Zs 0 n 4) 4 1 (s.size : Int) w' lp1 (by decide) (by omega) (by omega)
    have lp2 : (putN (putN Zs 0 n 4) 4 s.size 1).length = 128 := by rw [putN_len, lp1]
    have hs40 : s.size ≤ 40 := hb3.2.2;rw [hm2] at hnm;clear hbd hb3
    generalize putN Zs 0 n 4 = L1 at *
    generalize putN L1 4 (s.size : Int) 1 = L2 at *
    go_enter Tryz.func39, Tryz.ntmps39
    go_upto_region 2 with fail
    rw [← hW];clear hW
    go_upto_region 6 with (first | (go_at_call 69; refine (hwi _).mono ?_; rintro e w2 ⟨rfl, hw2⟩; rw [hw2]) | (go_at_call 70; refine (hnm _).mono ?_; rintro e w5 ⟨rfl, hb5⟩))
    have G0a : Hid (w5.heap[w.heap.size]? = some (.cells #[.int .i64 n, .string s] 83 (0, 0))) := by show _ = _; rw [hb5.block _ (slt G0.out)]; exact G0.out
    have G1a : Hid (w5.heap[w.heap.size + 1]? = some (.cells (SA Zs) 33 (0, 0))) := by show _ = _; rw [hb5.block _ (slt G1.out)]; exact G1.out
    have G2a : Hid (w5.heap[w.heap.size + 2]? = some (.cells (SA Zs) 33 (0, 0))) := by show _ = _; rw [hb5.block _ (slt G2.out)]; exact G2.out
    have HBa := hid (btr HB.out hb5 HB.out.size)
    have c0a : w5.cell? ⟨w.heap.size, 0, none⟩ = some (.int .i64 n) := by rw [cell_of_row _ _ _ _ _ _ G0a.out]; rfl
    clear G0 G1 G2 HB c0 c1 hb5 hnm hwi
    go_upto_region 7 with (first | refine load_sec rfl (.tmp 4) rfl (w.heap.size + 2) rfl Zs Zs_len G2a.out ?_ | (go_at_call 63; refine (hl1 _).mono ?_; rintro e w6 ⟨rfl, hb6⟩) | (refine store_sec rfl _ _ rfl (w.heap.size + 2) rfl L1 rfl lp1 Zs Zs_len (by rw [hb6.block _ (slt G2a.out)]; exact G2a.out) ?_; intro w7 hw7))
    have G0b : Hid (w7.heap[w.heap.size]? = some (.cells #[.int .i64 n, .string s] 83 (0, 0))) := by show _ = _; rw [hw7.other _ (by omega), hb6.block _ (slt G0a.out)]; exact G0a.out
    have G1b : Hid (w7.heap[w.heap.size + 1]? = some (.cells (SA Zs) 33 (0, 0))) := by show _ = _; rw [hw7.other _ (by omega), hb6.block _ (slt G1a.out)]; exact G1a.out
    have G2b := hid hw7.here;have HBb : Hid (Below w.heap.size w w7) := hw7.below (btr HBa.out hb6 HBa.out.size) (by omega)
    have c1b : w7.cell? ⟨w.heap.size, 1, none⟩ = some (.string s) := by rw [cell_of_row _ _ _ _ _ _ G0b.out]; rfl
    clear G0a G1a G2a HBa c0a hb6 hw7 hl1
    go_upto_region 8 with (first | refine load_sec rfl (.tmp 4) rfl (w.heap.size + 2) rfl L1 lp1 G2b.out ?_ | (go_at_call 63; refine (hl2 _).mono ?_; rintro e w8 ⟨rfl, hb8⟩) | (refine store_sec rfl _ _ rfl (w.heap.size + 2) rfl L2 rfl lp2 L1 lp1 (by rw [hb8.block _ (slt G2b.out)]; exact G2b.out) ?_; intro w9 hw9))
    have G0c : Hid (w9.heap[w.heap.size]? = some (.cells #[.int .i64 n, .string s] 83 (0, 0))) := by show _ = _; rw [hw9.other _ (by omega), hb8.block _ (slt G0b.out)]; exact G0b.out
    have G1c : Hid (w9.heap[w.heap.size + 1]? = some (.cells (SA Zs) 33 (0, 0))) := by show _ = _; rw [hw9.other _ (by omega), hb8.block _ (slt G1b.out)]; exact G1b.out
    have G2c := hid hw9.here;have HBc : Hid (Below w.heap.size w w9) := hw9.below (btr HBb.out hb8 HBb.out.size) (by omega);clear G0b G1b G2b HBb c1b hb8 hw9 hl2 lp1
    try dsimp only [Act.put]
    go_wp2_with fail
    go_loopw [5] (fun i wr => ∃ j : Nat, j ≤ s.size ∧ i = .int .i64 j ∧ Hid (Below w.heap.size w wr ∧ wr.heap[w.heap.size]? = some (.cells #[.int .i64 n, .string s] 83 (0, 0)) ∧ wr.heap[w.heap.size + 1]? = some (.cells (SA Zs) 33 (0, 0)) ∧ wr.heap[w.heap.size + 2]? = some (.cells (SA (spl L2 5 ((bytesI s).take j))) 33 (0, 0)))) (fun i _ => s.size - (intOf i).toNat)
    case atStart => exact ⟨0, by omega, rfl, HBc.out, G0c.out, G1c.out, by rw [List.take_zero, spl_zero]; exact G2c.out⟩
    case round =>
     obtain ⟨j, hj, rfl, HR⟩ := hrel;obtain ⟨Wx, hWx⟩ : ∃ y, y = wr := ⟨_, rfl⟩;subst hWx
     have c1d : Wx.cell? ⟨w.heap.size, 1, none⟩ = some (.string s) := by rw [cell_of_row _ _ _ _ _ _ HR.out.2.1]; rfl
     have lsp : ∀ k, k ≤ s.size → (spl L2 5 ((bytesI s).take k)).length = 128 := fun k hk => by
      rw [spl_len _ _ _ (by rw [List.length_take, bytesI_len, lp2]; omega), lp2]
     by_cases hlt : j < s.size
     ·obtain ⟨x, hx⟩ : ∃ x : UInt8, s[j]'hlt = x := ⟨_, rfl⟩
      have hbx := bytes_at s j hlt;rw [hx] at hbx;have HT := hid (spl_take (L := L2) (B := bytesI s) (j := j) (by rw [bytesI_len]; exact hlt) (by rw [bytesI_len, lp2]; omega));rw [hbx] at HT;obtain ⟨v, hv⟩ : ∃ v, v = (spl L2 5 ((bytesI s).take j)).getD (5 + j) 0 := ⟨_, rfl⟩
      have p2 : Wx.cell? ⟨w.heap.size + 2, 5 + j, none⟩ = some (.int .u8 v) := by
       rw [hv, cell_of_row _ _ _ _ _ _ HR.out.2.2.2]
       simp [SA, lsp j (by omega), show 5 + j < 128 by omega]
      have hfr := frozen_of_row Wx (w.heap.size + 2) (5 + j) _ _ HR.out.2.2.2
      have HS2 : Hid ((Wx.setCell ⟨w.heap.size + 2, 5 + j, none⟩ (.int .u8 (x.toNat : Int))).heap[w.heap.size + 2]? = some (.cells (SA (spl L2 5 ((bytesI s).take (j + 1)))) 33 (0, 0))) := by
       show _ = _
       rw [heap_setCell_same Wx (w.heap.size + 2) (5 + j) _ 33 _ HR.out.2.2.2, SA_set, HT.out]
      have HS0 : Hid ((Wx.setCell ⟨w.heap.size + 2, 5 + j, none⟩ (.int .u8 (x.toNat : Int))).heap[w.heap.size]? = some (.cells #[.int .i64 n, .string s] 83 (0, 0))) := by
       show _ = _
       rw [heap_setCell_other Wx ⟨w.heap.size + 2, 5 + j, none⟩ w.heap.size _ (by show w.heap.size ≠ w.heap.size + 2; omega)]; exact HR.out.2.1
      have HS1 : Hid ((Wx.setCell ⟨w.heap.size + 2, 5 + j, none⟩ (.int .u8 (x.toNat : Int))).heap[w.heap.size + 1]? = some (.cells (SA Zs) 33 (0, 0))) := by
       show _ = _
       rw [heap_setCell_other Wx ⟨w.heap.size + 2, 5 + j, none⟩ (w.heap.size + 1) _ (by show w.heap.size + 1 ≠ w.heap.size + 2; omega)]; exact HR.out.2.2.1
      have HSB : Hid (Below w.heap.size w (Wx.setCell ⟨w.heap.size + 2, 5 + j, none⟩ (.int .u8 (x.toNat : Int)))) :=
       HR.out.1.trans ⟨rfl, rfl, rfl, by simp [World.setCell], fun k hk => heap_setCell_other Wx ⟨w.heap.size + 2, 5 + j, none⟩ k _ (fun e => by have e' : k = w.heap.size + 2 := e; omega)⟩
      have hi0 : (0 : Int) ≤ (j : Int) := by omega
      have hi1 : (j : Int) < (s.size : Int) := by omega
      have hi2 : (5 : Int) + (j : Int) < 128 := by omega
      have hi3 : (0 : Int) ≤ 5 + (j : Int) := by omega
      have et : ((5 : Int) + (j : Int)).toNat = 5 + j := by omega
      clear hv hbx
      go_wp2_with fail
      exact ⟨⟨j + 1, by omega, by go_num, HSB.out, HS0.out, HS1.out, HS2.out⟩, by simp [intOf]; omega⟩
     ·have HF : Hid ((bytesI s).take j = bytesI s) := by show _ = _; rw [List.take_of_length_le (by rw [bytesI_len]; omega)]
      have hlf : (spl L2 5 (bytesI s)).length = 128 := by have := lsp j hj; rw [HF.out] at this; exact this
      have G2d : Hid (Wx.heap[w.heap.size + 2]? = some (.cells (SA (spl L2 5 (bytesI s))) 33 (0, 0))) := by show _ = _; rw [← HF.out]; exact HR.out.2.2.2
      have G1d := hid HR.out.2.2.1;have HBd := hid HR.out.1;clear HR
      go_wp2_with (first | refine load_sec rfl (.tmp 4) rfl (w.heap.size + 2) rfl (spl L2 5 (bytesI s)) hlf G2d.out ?_ | (refine store_sec rfl _ _ rfl (w.heap.size + 1) rfl (spl L2 5 (bytesI s)) rfl hlf Zs Zs_len G1d.out ?_; intro w3 hw3))
      rw [HE.out.1, HE.out.2]
      exact bodyPost_ret (v := .tuple #[.agg (SA (spl L2 5 (bytesI s))), .int .i64 0]) (results_sec Tryz.results39 _ _ (w.heap.size + 1) _ hlf _ rfl rfl hw3.here) rfl ⟨rfl, hw3.below HBd.out (by omega)⟩

end Go.Proofs.YtpmignilhoihnaaGreat
