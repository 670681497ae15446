/-
 The document's ReadSlot.
-/
import Derived.Test.YtboammbcoleicabGreatLH4
import Derived.Test.YtboammbcoleicabGreatLF1
import Derived.Test.YtboammbcoleicabGreatLF2
import Derived.Test.YtboammbcoleicabGreatLP2
import Derived.Maps.AppendAt
import Derived.Deep.DeepMust
namespace Go.Proofs.YtboammbcoleicabGreat
open Go.RowKit Go.Shelf

theorem u8_beq6 {x : UInt8} (n : Int) (c : UInt8) (hc : (c.toNat : Int) = n) : ((x.toNat : Int) == n) = (x == c) := by
 cases e : (x == c)
 ·simp only [beq_eq_false_iff_ne]; intro h; have : x = c := UInt8.toNat_inj.1 (by omega); simp [this] at e
 ·rw [eq_of_beq e, hc]; simp
theorem dat6 (s : ByteArray) (i : Nat) (hi : i < s.size) : s.data.toList[i]? = some (s[i]'hi) := Lib.data_getElem? s i hi

set_option maxRecDepth 100000 in
set_option maxHeartbeats 1000000 in
theorem risName_any (s : ByteArray) (w : World) (hsz : s.size ≤ 9223372036854775807) :
  Calls Tryz.prog 115 #[.string s] w fun e w' => e = .returned (.bool (nameB s)) ∧ Below w.heap.size w w' := by
 have e1 := toList_one;have e2 := toList_two
 have hwi := fun w' => rwithin_any (s.size : Int) 1 40 w'
 go_enter Tryz.func115, Tryz.ntmps115
 go_wp2
 go_loopw [3] (fun i wr => ∃ k : Nat, k ≤ s.size ∧ i = .int .i64 k ∧ Below w.heap.size w wr ∧ Hid (Lib.NoAny s.data.toList [0, 47] k)) (fun i _ => s.size - (intOf i).toNat)
 case atStart => exact ⟨0, by omega, rfl, Below.refl _ _, Lib.NoAny.zero _ _⟩
 case round =>
  obtain ⟨k, hk, rfl, hbr, HN⟩ := hrel;obtain ⟨Wx, hWx⟩ : ∃ y, y = wr := ⟨_, rfl⟩;subst hWx
  by_cases hlt : k < s.size
  ·obtain ⟨x, hx⟩ : ∃ x : UInt8, s[k]'hlt = x := ⟨_, rfl⟩
   have hxl := dat6 s k hlt;rw [hx] at hxl;have HX := hid hxl
   have hi0 : (0 : Int) ≤ (k : Int) := by omega
   have hi1 : (k : Int) < (s.size : Int) := by omega
   clear hxl
   have BAD : Hid (([0, 47] : List UInt8).contains x = true → nameB s = false) := fun hc => by
    have h1 := Lib.indexAny_hit HN.out HX.out hc
    have h2 : hasB s = true := by unfold hasB Lib.containsAny; rw [show two.data.toList = [0, 47] from rfl, h1]; simp
    unfold nameB; rw [h2]; simp
   by_cases c0 : x = 0
   ·have HB := hid (BAD.out (by rw [c0]; decide))
    subst c0
    go_wp2
    go_ret
    exact ⟨ret_bool HB.out.symm, hbr⟩
   have n0 : ((x.toNat : Int) == 0) = false := by rw [u8_beq6 0 0 rfl]; simpa using c0
   by_cases c1 : x = 47
   ·have HB := hid (BAD.out (by rw [c1]; decide))
    subst c1;clear n0
    go_wp2
    go_ret
    exact ⟨ret_bool HB.out.symm, hbr⟩
   have n1 : ((x.toNat : Int) == 47) = false := by rw [u8_beq6 47 47 rfl]; simpa using c1
   have HNN := hid (HN.out.succ HX.out (by simp [c0, c1]))
   go_wp2
   exact ⟨⟨k + 1, by omega, by go_num, hbr, HNN⟩, by simp [intOf]; omega⟩
  ·have HH : Hid (nameB s = (decide (1 ≤ s.size ∧ s.size ≤ 40) && (!(s.toList == [46]) && !(s.toList == [46, 46])))) := by
    show _ = _
    have hk2 : k = s.data.toList.length := by simp; omega
    have h1 := Lib.indexAny_none (s := s.data.toList) (chars := [0, 47]) (by rw [← hk2]; exact HN.out)
    have h2 : hasB s = false := by unfold hasB Lib.containsAny; rw [show two.data.toList = [0, 47] from rfl, h1]; simp
    unfold nameB; rw [h2]; simp
   have HW : Hid (wiB (s.size : Int) 1 40 = decide (1 ≤ s.size ∧ s.size ≤ 40)) := by
    show _ = _
    by_cases h : 1 ≤ s.size ∧ s.size ≤ 40
    ·rw [decide_eq_true h, wiB_true (by omega)]
    ·rw [decide_eq_false h, wiB_false (by omega)]
   rw [HW.out] at hwi
   generalize decide (1 ≤ s.size ∧ s.size ≤ 40) = D at *
   cases D
   ·go_wp2_with (go_at_call 59; refine (hwi _).mono ?_; rintro e w2 ⟨rfl, hw2⟩; rw [hw2])
    go_ret
    exact ⟨ret_bool (by rw [HH.out]; rfl), hbr⟩
   ·cases k1 : (s.toList == [46])
    ·have m1 : (s.toList != [46]) = true := by rw [bne, k1]; rfl
     cases k2 : (s.toList == [46, 46])
     ·have m2 : (s.toList != [46, 46]) = true := by rw [bne, k2]; rfl
      rw [k1, k2] at HH
      go_wp2_with (go_at_call 59; refine (hwi _).mono ?_; rintro e w2 ⟨rfl, hw2⟩; rw [hw2])
      go_ret
      exact ⟨ret_bool (by rw [HH.out]; rfl), hbr⟩
     ·have m2 : (s.toList != [46, 46]) = false := by rw [bne, k2]; rfl
      rw [k1, k2] at HH
      go_wp2_with (go_at_call 59; refine (hwi _).mono ?_; rintro e w2 ⟨rfl, hw2⟩; rw [hw2])
      go_ret
      exact ⟨ret_bool (by rw [HH.out]; rfl), hbr⟩
    ·have m1 : (s.toList != [46]) = false := by rw [bne, k1]; rfl
     rw [k1] at HH
     go_wp2_with (go_at_call 59; refine (hwi _).mono ?_; rintro e w2 ⟨rfl, hw2⟩; rw [hw2])
     go_ret
     exact ⟨ret_bool (by rw [HH.out]; rfl), hbr⟩

end Go.Proofs.YtboammbcoleicabGreat

namespace Go.Proofs.YtboammbcoleicabGreat
open Go.RowKit Go.Shelf

theorem spl_take {L B : List Int} {j : Nat} (hj : j < B.length) (h : 5 + B.length ≤ L.length) : (spl L 5 (B.take j)).set (5 + j) (B.getD j 0) = spl L 5 (B.take (j + 1)) := by
 have l1 : (B.take j).length = j := by rw [List.length_take]; omega
 have l2 : (B.take (j + 1)).length = j + 1 := by rw [List.length_take]; omega
 apply ext_getD (by rw [List.length_set, spl_len _ _ _ (by rw [l1]; omega), spl_len _ _ _ (by rw [l2]; omega)])
 intro i hi
 rw [List.length_set, spl_len _ _ _ (by rw [l1]; omega)] at hi;rw [spl_get _ _ _ (by rw [l2]; omega), l2];rw [List.getD_eq_getElem?_getD, List.getElem?_set]
 by_cases c : 5 + j = i
 ·rw [if_pos c, if_pos (by rw [spl_len _ _ _ (by rw [l1]; omega)]; omega), if_pos (by omega)]
  rw [show i - 5 = j by omega]
  simp [List.getD_eq_getElem?_getD]
 ·rw [if_neg c, ← List.getD_eq_getElem?_getD, spl_get _ _ _ (by rw [l1]; omega), l1]
  by_cases d : 5 ≤ i ∧ i < 5 + j
  ·rw [if_pos d, if_pos (by omega)]
   simp only [List.getD_eq_getElem?_getD, List.getElem?_take]
   rw [if_pos (by omega), if_pos (by omega)]
  ·rw [if_neg d, if_neg (by omega)]
theorem spl_zero (L : List Int) : spl L 5 [] = L := by
 unfold spl; simp
theorem bytes_at (s : ByteArray) (j : Nat) (hj : j < s.size) : (bytesI s).getD j 0 = ((s[j]'hj).toNat : Int) := by
 have h := dat6 s j hj;unfold bytesI;rw [List.getD_eq_getElem?_getD, List.getElem?_map, h]; rfl
theorem slot_zero (s : ByteArray) (h : s.toList = []) : slotS 0 s = Zs ∧ slotE 0 s = 0 := by
 have hb : slotB 0 s = true := by unfold slotB; rw [if_pos rfl, h]; rfl
 have hs : s.size = 0 := by rw [← size_eq, h]; rfl
 have hB : bytesI s = [] := by apply List.length_eq_zero_iff.1; rw [bytesI_len, hs]
 refine ⟨?_, by unfold slotE; rw [if_pos hb]⟩;unfold slotS numsSlot;rw [if_pos hb, hB, hs]
 decide

set_option maxRecDepth 100000 in
set_option maxHeartbeats 2000000 in
theorem rslotSector_any (n : Int) (s : ByteArray) (w : World) (hsz : s.size ≤ 9223372036854775807) :
  Calls Tryz.prog 87 #[.agg #[.int .i64 n, .string s]] w fun e w' => e = .returned (.tuple #[.agg (SA (slotS n s)), .int .i64 (slotE n s)]) ∧ Below w.heap.size w w' := by
 have hz := zero_sec;have e0 := toList_nil;obtain ⟨W, hW⟩ : ∃ x, x = ((w.alloc (.cells #[.int .i64 n, .string s] 102)).alloc (.cells (SA Zs) 46)).alloc (.cells (SA Zs) 46) := ⟨_, rfl⟩
 have G0 : Hid (W.heap[w.heap.size]? = some (.cells #[.int .i64 n, .string s] 102 (0, 0))) := by
  show _ = _; rw [hW, Below.heap_alloc _ _ _ (by simp; omega)]; exact heap_alloc2_old w _ _
 have G1 : Hid (W.heap[w.heap.size + 1]? = some (.cells (SA Zs) 46 (0, 0))) := by
  show _ = _; rw [hW, Below.heap_alloc _ _ _ (by simp)]; exact heap_alloc2_new w _ _
 have G2 : Hid (W.heap[w.heap.size + 2]? = some (.cells (SA Zs) 46 (0, 0))) := by
  show _ = _; rw [hW]
  have := heap_alloc_new ((w.alloc (.cells #[.int .i64 n, .string s] 102)).alloc (.cells (SA Zs) 46)) (.cells (SA Zs) 46)
  simpa using this
 have hbW : Below w.heap.size w W := by rw [hW]; exact (((Below.refl _ _).alloc (Nat.le_refl _) _).alloc (by simp) _).alloc (by simp; omega) _
 have HB := hid hbW
 have c0 : W.cell? ⟨w.heap.size, 0, none⟩ = some (.int .i64 n) := by rw [cell_of_row _ _ _ _ _ _ G0.out]; rfl
 have c1 : W.cell? ⟨w.heap.size, 1, none⟩ = some (.string s) := by rw [cell_of_row _ _ _ _ _ _ G0.out]; rfl
 have hnm := fun w' => risName_any s w' hsz
 clear hbW
 by_cases hn0 : n = 0
 ·subst hn0
  cases hs0 : (s.toList == [])
  ·have HE : Hid (slotS 0 s = Zs ∧ slotE 0 s = 63) := by
    have hb : slotB 0 s = false := by
     unfold slotB; rw [if_pos rfl]
     cases e : s.toList with
     | nil => rw [e] at hs0; simp at hs0
     | cons => rfl
    exact ⟨by unfold slotS; rw [hb]; rfl, by unfold slotE; rw [hb]; rfl⟩
   have hwi := fun w' => rwithin_any 0 1 512 w'
   rw [wiB_false (by omega)] at hwi
   go_enter Tryz.func87, Tryz.ntmps87
   go_upto_region 2 with fail
   rw [← hW];clear hW
   go_wp2_with (first | (go_at_call 59; refine (hwi _).mono ?_; rintro e w2 ⟨rfl, hw2⟩; rw [hw2]) | refine load_sec rfl (.tmp 4) rfl (w.heap.size + 2) rfl Zs Zs_len G2.out ?_ | (refine store_sec rfl _ _ rfl (w.heap.size + 1) rfl Zs rfl Zs_len Zs Zs_len G1.out ?_; intro w3 hw3))
   rw [HE.out.1, HE.out.2]
   exact bodyPost_ret (v := .tuple #[.agg (SA Zs), .int .i64 63]) (results_sec Tryz.results87 _ _ (w.heap.size + 1) Zs Zs_len _ rfl rfl hw3.here) rfl ⟨rfl, hw3.below HB.out (by omega)⟩
  ·have HE := hid (slot_zero s (eq_of_beq hs0))
   go_enter Tryz.func87, Tryz.ntmps87
   go_upto_region 2 with fail
   rw [← hW];clear hW
   go_wp2_with (first | refine load_sec rfl (.tmp 4) rfl (w.heap.size + 2) rfl Zs Zs_len G2.out ?_ | (refine store_sec rfl _ _ rfl (w.heap.size + 1) rfl Zs rfl Zs_len Zs Zs_len G1.out ?_; intro w3 hw3))
   rw [HE.out.1, HE.out.2]
   exact bodyPost_ret (v := .tuple #[.agg (SA Zs), .int .i64 0]) (results_sec Tryz.results87 _ _ (w.heap.size + 1) Zs Zs_len _ rfl rfl hw3.here) rfl ⟨rfl, hw3.below HB.out (by omega)⟩
 ·have hn0' : (n == 0) = false := by simp [hn0]
  have hwi := fun w' => rwithin_any n 1 512 w'
  cases hm1 : wiB n 1 512
  ·have HE : Hid (slotS n s = Zs ∧ slotE n s = 63) := by
    have hb : slotB n s = false := by
     unfold slotB; rw [if_neg hn0, show decide (1 ≤ n ∧ n ≤ 512) = false from hm1]; rfl
    exact ⟨by unfold slotS; rw [hb]; rfl, by unfold slotE; rw [hb]; rfl⟩
   rw [hm1] at hwi
   go_enter Tryz.func87, Tryz.ntmps87
   go_upto_region 2 with fail
   rw [← hW];clear hW
   go_wp2_with (first | (go_at_call 59; refine (hwi _).mono ?_; rintro e w2 ⟨rfl, hw2⟩; rw [hw2]) | refine load_sec rfl (.tmp 4) rfl (w.heap.size + 2) rfl Zs Zs_len G2.out ?_ | (refine store_sec rfl _ _ rfl (w.heap.size + 1) rfl Zs rfl Zs_len Zs Zs_len G1.out ?_; intro w3 hw3))
   rw [HE.out.1, HE.out.2]
   exact bodyPost_ret (v := .tuple #[.agg (SA Zs), .int .i64 63]) (results_sec Tryz.results87 _ _ (w.heap.size + 1) Zs Zs_len _ rfl rfl hw3.here) rfl ⟨rfl, hw3.below HB.out (by omega)⟩
  ·rw [hm1] at hwi
   cases hm2 : nameB s
   ·have HE : Hid (slotS n s = Zs ∧ slotE n s = 63) := by
     have hb : slotB n s = false := by
      unfold slotB; rw [if_neg hn0, hm2]; simp
     exact ⟨by unfold slotS; rw [hb]; rfl, by unfold slotE; rw [hb]; rfl⟩
    rw [hm2] at hnm
    go_enter Tryz.func87, Tryz.ntmps87
    go_upto_region 2 with fail
    rw [← hW];clear hW
    go_wp2_with (first | (go_at_call 59; refine (hwi _).mono ?_; rintro e w2 ⟨rfl, hw2⟩; rw [hw2]) | (go_at_call 115; refine (hnm _).mono ?_; rintro e w5 ⟨rfl, hb5⟩) | refine load_sec rfl (.tmp 4) rfl (w.heap.size + 2) rfl Zs Zs_len (by rw [hb5.block _ (slt G2.out)]; exact G2.out) ?_ | (refine store_sec rfl _ _ rfl (w.heap.size + 1) rfl Zs rfl Zs_len Zs Zs_len (by rw [hb5.block _ (slt G1.out)]; exact G1.out) ?_; intro w3 hw3))
    rw [HE.out.1, HE.out.2]
    exact bodyPost_ret (v := .tuple #[.agg (SA Zs), .int .i64 63]) (results_sec Tryz.results87 _ _ (w.heap.size + 1) Zs Zs_len _ rfl rfl hw3.here) rfl ⟨rfl, hw3.below (btr HB.out hb5 HB.out.size) (by omega)⟩
   ·have hbd : slotB n s = true := by unfold slotB; rw [if_neg hn0, hm2, show decide (1 ≤ n ∧ n ≤ 512) = true from hm1]; rfl
    have hb3 := slot_bd hbd;have HE : Hid (slotS n s = spl (putN (putN Zs 0 n 4) 4 s.size 1) 5 (bytesI s) ∧ slotE n s = 0) := ⟨by unfold slotS; rw [if_pos hbd]; rfl, by unfold slotE; rw [if_pos hbd]⟩
    have hl1 := fun w' => rlay_any Zs 0 4 n w' Zs_len (by decide) (by omega) (by omega)
    have lp1 : (putN Zs 0 n 4).length = 128 := by rw [putN_len, Zs_len]
    have hl2 := fun w' => rlay_any (putN Zs 0 n 4) 4 1 (s.size : Int) w' lp1 (by decide) (by omega) (by omega)
    have lp2 : (putN (putN Zs 0 n 4) 4 s.size 1).length = 128 := by rw [putN_len, lp1]
    have hs40 : s.size ≤ 40 := hb3.2.2;rw [hm2] at hnm;clear hbd hb3
    generalize putN Zs 0 n 4 = L1 at *
    generalize putN L1 4 (s.size : Int) 1 = L2 at *
    go_enter Tryz.func87, Tryz.ntmps87
    go_upto_region 2 with fail
    rw [← hW];clear hW
    go_upto_region 6 with (first | (go_at_call 59; refine (hwi _).mono ?_; rintro e w2 ⟨rfl, hw2⟩; rw [hw2]) | (go_at_call 115; refine (hnm _).mono ?_; rintro e w5 ⟨rfl, hb5⟩))
    have G0a : Hid (w5.heap[w.heap.size]? = some (.cells #[.int .i64 n, .string s] 102 (0, 0))) := by show _ = _; rw [hb5.block _ (slt G0.out)]; exact G0.out
    have G1a : Hid (w5.heap[w.heap.size + 1]? = some (.cells (SA Zs) 46 (0, 0))) := by show _ = _; rw [hb5.block _ (slt G1.out)]; exact G1.out
    have G2a : Hid (w5.heap[w.heap.size + 2]? = some (.cells (SA Zs) 46 (0, 0))) := by show _ = _; rw [hb5.block _ (slt G2.out)]; exact G2.out
    have HBa := hid (btr HB.out hb5 HB.out.size)
    have c0a : w5.cell? ⟨w.heap.size, 0, none⟩ = some (.int .i64 n) := by rw [cell_of_row _ _ _ _ _ _ G0a.out]; rfl
    clear G0 G1 G2 HB c0 c1 hb5 hnm hwi
    go_upto_region 7 with (first | refine load_sec rfl (.tmp 4) rfl (w.heap.size + 2) rfl Zs Zs_len G2a.out ?_ | (go_at_call 60; refine (hl1 _).mono ?_; rintro e w6 ⟨rfl, hb6⟩) | (refine store_sec rfl _ _ rfl (w.heap.size + 2) rfl L1 rfl lp1 Zs Zs_len (by rw [hb6.block _ (slt G2a.out)]; exact G2a.out) ?_; intro w7 hw7))
    have G0b : Hid (w7.heap[w.heap.size]? = some (.cells #[.int .i64 n, .string s] 102 (0, 0))) := by show _ = _; rw [hw7.other _ (by omega), hb6.block _ (slt G0a.out)]; exact G0a.out
    have G1b : Hid (w7.heap[w.heap.size + 1]? = some (.cells (SA Zs) 46 (0, 0))) := by show _ = _; rw [hw7.other _ (by omega), hb6.block _ (slt G1a.out)]; exact G1a.out
    have G2b := hid hw7.here;have HBb : Hid (Below w.heap.size w w7) := hw7.below (btr HBa.out hb6 HBa.out.size) (by omega)
    have c1b : w7.cell? ⟨w.heap.size, 1, none⟩ = some (.string s) := by rw [cell_of_row _ _ _ _ _ _ G0b.out]; rfl
    clear G0a G1a G2a HBa c0a hb6 hw7 hl1
    go_upto_region 8 with (first | refine load_sec rfl (.tmp 4) rfl (w.heap.size + 2) rfl L1 lp1 G2b.out ?_ | (go_at_call 60; refine (hl2 _).mono ?_; rintro e w8 ⟨rfl, hb8⟩) | (refine store_sec rfl _ _ rfl (w.heap.size + 2) rfl L2 rfl lp2 L1 lp1 (by rw [hb8.block _ (slt G2b.out)]; exact G2b.out) ?_; intro w9 hw9))
    have G0c : Hid (w9.heap[w.heap.size]? = some (.cells #[.int .i64 n, .string s] 102 (0, 0))) := by show _ = _; rw [hw9.other _ (by omega), hb8.block _ (slt G0b.out)]; exact G0b.out
    have G1c : Hid (w9.heap[w.heap.size + 1]? = some (.cells (SA Zs) 46 (0, 0))) := by show _ = _; rw [hw9.other _ (by omega), hb8.block _ (slt G1b.out)]; exact G1b.out
    have G2c := hid hw9.here;have HBc : Hid (Below w.heap.size w w9) := hw9.below (btr HBb.out hb8 HBb.out.size) (by omega);clear G0b G1b G2b HBb c1b hb8 hw9 hl2 lp1
    try dsimp only [Act.put]
    go_wp2_with fail
    go_loopw [5] (fun i wr => ∃ j : Nat, j ≤ s.size ∧ i = .int .i64 j ∧ Hid (Below w.heap.size w wr ∧ wr.heap[w.heap.size]? = some (.cells #[.int .i64 n, .string s] 102 (0, 0)) ∧ wr.heap[w.heap.size + 1]? = some (.cells (SA Zs) 46 (0, 0)) ∧ wr.heap[w.heap.size + 2]? = some (.cells (SA (spl L2 5 ((bytesI s).take j))) 46 (0, 0)))) (fun i _ => s.size - (intOf i).toNat)
    case atStart => exact ⟨0, by omega, rfl, HBc.out, G0c.out, G1c.out, by rw [List.take_zero, spl_zero]; exact G2c.out⟩
    case round =>
     obtain ⟨j, hj, rfl, HR⟩ := hrel;obtain ⟨Wx, hWx⟩ : ∃ y, y = wr := ⟨_, rfl⟩;subst hWx
     have c1d : Wx.cell? ⟨w.heap.size, 1, none⟩ = some (.string s) := by rw [cell_of_row _ _ _ _ _ _ HR.out.2.1]; rfl
     have lsp : ∀ k, k ≤ s.size → (spl L2 5 ((bytesI s).take k)).length = 128 := fun k hk => by
      rw [spl_len _ _ _ (by rw [List.length_take, bytesI_len, lp2]; omega), lp2]
     by_cases hlt : j < s.size
     ·obtain ⟨x, hx⟩ : ∃ x : UInt8, s[j]'hlt = x := ⟨_, rfl⟩
      have hbx := bytes_at s j hlt;rw [hx] at hbx;have HT := hid (spl_take (L := L2) (B := bytesI s) (j := j) (by rw [bytesI_len]; exact hlt) (by rw [bytesI_len, lp2]; omega));rw [hbx] at HT;obtain ⟨v, hv⟩ : ∃ v, v = (spl L2 5 ((bytesI s).take j)).getD (5 + j) 0 := ⟨_, rfl⟩
      have p2 : Wx.cell? ⟨w.heap.size + 2, 5 + j, none⟩ = some (.int .u8 v) := by
       rw [hv, cell_of_row _ _ _ _ _ _ HR.out.2.2.2]
       simp [SA, lsp j (by omega), show 5 + j < 128 by omega]
      have hfr := frozen_of_row Wx (w.heap.size + 2) (5 + j) _ _ HR.out.2.2.2
      have HS2 : Hid ((Wx.setCell ⟨w.heap.size + 2, 5 + j, none⟩ (.int .u8 (x.toNat : Int))).heap[w.heap.size + 2]? = some (.cells (SA (spl L2 5 ((bytesI s).take (j + 1)))) 46 (0, 0))) := by
       show _ = _
       rw [heap_setCell_same Wx (w.heap.size + 2) (5 + j) _ 46 _ HR.out.2.2.2, SA_set, HT.out]
      have HS0 : Hid ((Wx.setCell ⟨w.heap.size + 2, 5 + j, none⟩ (.int .u8 (x.toNat : Int))).heap[w.heap.size]? = some (.cells #[.int .i64 n, .string s] 102 (0, 0))) := by
       show _ = _
       rw [heap_setCell_other Wx ⟨w.heap.size + 2, 5 + j, none⟩ w.heap.size _ (by show w.heap.size ≠ w.heap.size + 2; omega)]; exact HR.out.2.1
      have HS1 : Hid ((Wx.setCell ⟨w.heap.size + 2, 5 + j, none⟩ (.int .u8 (x.toNat : Int))).heap[w.heap.size + 1]? = some (.cells (SA Zs) 46 (0, 0))) := by
       show _ = _
       rw [heap_setCell_other Wx ⟨w.heap.size + 2, 5 + j, none⟩ (w.heap.size + 1) _ (by show w.heap.size + 1 ≠ w.heap.size + 2; omega)]; exact HR.out.2.2.1
      have HSB : Hid (Below w.heap.size w (Wx.setCell ⟨w.heap.size + 2, 5 + j, none⟩ (.int .u8 (x.toNat : Int)))) :=
       HR.out.1.trans ⟨rfl, rfl, rfl, by simp [World.setCell], fun k hk => heap_setCell_other Wx ⟨w.heap.size + 2, 5 + j, none⟩ k _ (fun e => by have e' : k = w.heap.size + 2 := e; omega)⟩
      have hi0 : (0 : Int) ≤ (j : Int) := by omega
      have hi1 : (j : Int) < (s.size : Int) := by omega
      have hi2 : (5 : Int) + (j : Int) < 128 := by omega
      have hi3 : (0 : Int) ≤ 5 + (j : Int) := by omega
      have et : ((5 : Int) + (j : Int)).toNat = 5 + j := by omega
      clear hv hbx
      go_wp2_with fail
      exact ⟨⟨j + 1, by omega, by go_num, HSB.out, HS0.out, HS1.out, HS2.out⟩, by simp [intOf]; omega⟩
     ·have HF : Hid ((bytesI s).take j = bytesI s) := by show _ = _; rw [List.take_of_length_le (by rw [bytesI_len]; omega)]
      have hlf : (spl L2 5 (bytesI s)).length = 128 := by have := lsp j hj; rw [HF.out] at this; exact this
      have G2d : Hid (Wx.heap[w.heap.size + 2]? = some (.cells (SA (spl L2 5 (bytesI s))) 46 (0, 0))) := by show _ = _; rw [← HF.out]; exact HR.out.2.2.2
      have G1d := hid HR.out.2.2.1;have HBd := hid HR.out.1;clear HR
      go_wp2_with (first | refine load_sec rfl (.tmp 4) rfl (w.heap.size + 2) rfl (spl L2 5 (bytesI s)) hlf G2d.out ?_ | (refine store_sec rfl _ _ rfl (w.heap.size + 1) rfl (spl L2 5 (bytesI s)) rfl hlf Zs Zs_len G1d.out ?_; intro w3 hw3))
      rw [HE.out.1, HE.out.2]
      exact bodyPost_ret (v := .tuple #[.agg (SA (spl L2 5 (bytesI s))), .int .i64 0]) (results_sec Tryz.results87 _ _ (w.heap.size + 1) _ hlf _ rfl rfl hw3.here) rfl ⟨rfl, hw3.below HBd.out (by omega)⟩

end Go.Proofs.YtboammbcoleicabGreat

namespace Go.Proofs.YtboammbcoleicabGreat
open Go.RowKit Go.Shelf

def BOw (w : World) (B : Nat) (v : Value) (l : List Int) : Prop := w.ownsRow B 5 1 v l.length (l.map (Value.int .u8))
theorem info8 : ∃ i, Tryz.prog.info? 5 = some i ∧ i.zero = some (.int .u8 0) ∧ i.size = 1 ∧ i.bytes = 1 := by
 have h : (Tryz.prog.info? 5).map (fun i => (i.zero, i.size, i.bytes)) = some (some (.int .u8 0), 1, 1) := by kernel_rfl
 cases hq : Tryz.prog.info? 5 with
 | none => rw [hq] at h; cases h
 | some i =>
  rw [hq] at h
  simp at h
  exact ⟨i, rfl, h.1, h.2.1, h.2.2⟩
theorem bow_keep {w w' : World} {B : Nat} {v : Value} {l : List Int} (h : BOw w B v l) (hb : Below w.heap.size w w') : BOw w' B v l := by
 refine ⟨h.1, ?_⟩
 rcases h.2 with h | ⟨g, cap, cur, rfl, hg, hk, r⟩
 ·exact .inl h
 ·exact .inr ⟨g, cap, cur, rfl, hg, by rw [hb.block _ (slt hk)]; exact hk, r⟩
theorem bow_ge {w : World} {B : Nat} {v : Value} {l : List Int} (h : BOw w B v l) {j : Nat} (hj : v.ownBlock = some j) : B ≤ j ∧ j < w.heap.size := by
 rcases h.2 with ⟨rfl, _⟩ | ⟨g, cap, cur, rfl, hg, hb, _⟩
 ·simp [Value.ownBlock] at hj
 ·have e : g = j := by simpa [Value.ownBlock] using hj
  subst e
  exact ⟨hg, slt hb⟩
theorem wp_app8 {ops : Array Oper} {rest : List Oper} {o : Oper} {a : Act} {Q : Exit → Act → World → Prop} {w : World} (hg : o.guard = none) (s x : Operand) (hop : o.op = .call { callee := .builtin .append, args := #[s, x], argTypes := #[41, 41] }) (base g c : Nat) (v : Value) (l : List Int) (y : Int) (hs : a.eval s = v) (hx : a.eval x = .slice (some ⟨g, 0, none⟩) 1 c)
  (hown : BOw w base v l) (hat : w.cell? ⟨g, 0, none⟩ = some (.int .u8 y)) (hl : l.length ≤ 1000000000000) (hbase : base ≤ w.heap.size)
  (hK : ∀ v' w', BOw w' base v' (l ++ [y]) → w.grownBy w' v.ownBlock → wpList Tryz.prog ops Q rest (a.put o.dst v') w') : wpList Tryz.prog ops Q (o :: rest) a w := by
 obtain ⟨i, hi, hz, hsz, hby⟩ := info8;refine wpList_append_own_at w hg s x 41 hop base 5 i _ 1 1 Tryz.underlying41 hi hz hsz hby rfl (by decide) v l.length (l.map (Value.int .u8)) hs hown ⟨g, 0, none⟩ 1 c [.int .u8 y] hx rfl (fun j u hj => ?_) (by simp [Value.oneCell']) (by unfold maxLen; omega) (by omega) hbase ?_
 ·cases j with
  | zero => simp at hj; subst hj; exact hat
  | succ j => simp at hj
 ·intro v' w' h1 h2 _ h4
  refine hK v' w' ?_ h2;unfold BOw;rw [List.map_append, List.length_append]
  exact h1
theorem conv_bow {w : World} {B : Nat} {v : Value} {l : List Int} (h : BOw w B v l) : (convert 41 9 v).run Tryz.prog w = .ok (.string (strOf l)) w := by
 rcases h.2 with ⟨rfl, h0⟩ | ⟨g, cap, cur, rfl, hg, hb, hc, hm, hs, ht⟩
 ·have e : l = [] := List.length_eq_zero_iff.1 h0
  subst e;rw [run_convert_bytes_string w 41 9 5 _ _ _ Tryz.underlying41 Tryz.underlying5 Tryz.underlying9]
  simp [Conv.bytesToString, strOf]; rfl
 ·refine conv_bytes w g 0 l cap (fun j hj => ?_)
  rw [Nat.zero_add, cell_of_row _ _ _ _ _ _ hb]
  have h1 : (cur.toList.take (l.length * 1))[j]? = some (.int .u8 (l.getD j 0)) := by rw [ht]; simp [hj]
  rw [List.getElem?_take, if_pos (by omega)] at h1;rw [← Array.getElem?_toList]; exact h1
theorem wr_keep6 {w w1 w2 : World} {c : List Int} {g : Nat} {o : Obj} (h : Wrote (w1.alloc (.cells (SA Zs) 46)) w1.heap.size c w2) (hb : Below w.heap.size w w1) (hg : w.heap[g]? = some o) : w2.heap[g]? = some o := by
 have := slt hg;have := hb.size;rw [h.other _ (by omega), Below.heap_alloc _ _ _ (by omega), hb.block _ (by omega)]
 exact hg
theorem pr_keep6 {w w1 w2 : World} {c z : Array Value} {t : TypeId} {g : Nat} {o : Obj} (h : PutR (w1.alloc (.cells z t)) w1.heap.size c t w2) (hb : Below w.heap.size w w1) (hg : w.heap[g]? = some o) : w2.heap[g]? = some o := by
 have := slt hg;have := hb.size;rw [h.other _ (by omega), Below.heap_alloc _ _ _ (by omega), hb.block _ (by omega)]
 exact hg
theorem szL3 : (Tryz.prog.info? 102).map (·.size) = some 2 := by kernel_rfl
theorem szSlot (n : Int) (s : ByteArray) : (Tryz.prog.info? 102).map (·.size) = some (#[Value.int .i64 n, Value.string s] : Array Value).size := szL3
theorem rd_far {s : List Int} (hs : IsSec s) (h : ¬ szOf s ≤ 40) (N : Int) : ¬ (slotB N ⟨#[]⟩ = true ∧ slotS N ⟨#[]⟩ = s) := by
 rintro ⟨h1, h2⟩
 have hN : N = 0 := by
  unfold slotB at h1
  split at h1
  ·assumption
  ·rw [Bool.and_eq_true] at h1
   have := h1.2
   simp [nameB] at this
   exact absurd this.1.1 (by decide)
 subst hN;rw [(slot_zero ⟨#[]⟩ toList_nil).1] at h2;subst h2
 exact h (by decide)

set_option maxRecDepth 100000 in
set_option maxHeartbeats 4000000 in
theorem rreadSlot_any (s : List Int) (hs : IsSec s) (w : World) :
  Calls Tryz.prog 63 #[.agg (SA s)] w fun e w' => e = .returned (.tuple #[.agg (SLA (rdSlot (getV s 0 4) s).1 (rdSlot (getV s 0 4) s).2.1), .int .i64 (rdSlot (getV s 0 4) s).2.2]) ∧ Below w.heap.size w w' := by
 have hz := zero_sec;have hl := hs.1
 have e1 : sayV s 0 4 = getV s 0 4 := by
  have h1 := getV_small (P := 0) (L := 4) hs (by decide) (by decide) (by decide);have h2 := sayV_small (s := s) (P := 0) (L := 4) (by decide)
  exact h2.trans h1.symm
 have e2 : sayV s 4 1 = (szOf s : Int) := by
  have h1 := getV_4 hs;have h2 := getV_small (P := 4) (L := 1) hs (by decide) (by decide) (by decide);have h3 := sayV_small (s := s) (P := 4) (L := 1) (by decide)
  exact (h3.trans h2.symm).trans h1
 have hy1 := fun w' => says_any s 0 4 w' hs (by decide) (by decide) (by decide) (by decide)
 have hy2 := fun w' => says_any s 4 1 w' hs (by decide) (by decide) (by decide) (by decide)
 rw [e1] at hy1;rw [e2] at hy2;have hK255 := szOf_le hs
 have HRD : Hid (∀ M, (szOf s ≤ 40 → M = nameOf s) → (¬ szOf s ≤ 40 → M = ⟨#[]⟩) → rdSlot (getV s 0 4) s = if slotB (getV s 0 4) M = true ∧ slotS (getV s 0 4) M = s then (getV s 0 4, M, 0) else (0, ⟨#[]⟩, 63)) := by
  intro M h1 h2
  unfold rdSlot
  by_cases hk : szOf s ≤ 40
  ·rw [h1 hk]; simp [hk]
  ·rw [h2 hk, if_neg (fun h => hk h.1), if_neg (rd_far hs hk _)]
 have HNM : Hid (∀ h : szOf s ≤ 40, nameOf s = strOf (((s.drop 5).take (szOf s)))) := fun _ => rfl
 have HBY : Hid (∀ j, j < 123 → (s.drop 5)[j]? = some (s.getD (5 + j) 0)) := fun j hj => by
  rw [List.getElem?_drop, List.getD_eq_getElem?_getD, List.getElem?_eq_getElem (by omega)]; rfl
 generalize getV s 0 4 = N at *
 generalize hKe : szOf s = K at *
 clear hKe e1 e2;obtain ⟨W, hW⟩ : ∃ x, x = (w.alloc (.cells (SA s) 46)).alloc (.cells #[.int .i64 0, .string ⟨#[]⟩] 102) := ⟨_, rfl⟩
 have G0 : Hid (W.heap[w.heap.size]? = some (.cells (SA s) 46 (0, 0))) := by show _ = _; rw [hW]; exact heap_alloc2_old w _ _
 have G1 : Hid (W.heap[w.heap.size + 1]? = some (.cells #[.int .i64 0, .string ⟨#[]⟩] 102 (0, 0))) := by show _ = _; rw [hW]; exact heap_alloc2_new w _ _
 have HB : Hid (Below w.heap.size w W) := by show Below _ _ _; rw [hW]; exact ((Below.refl _ _).alloc (Nat.le_refl _) _).alloc (by simp) _
 have hbld : ∀ w', (Instr.build 102 #[(0, .int .i64 N)]).run Tryz.prog w' = .ok (.agg #[.int .i64 N, .string ⟨#[]⟩]) w' := fun w' => by kernel_rfl
 have hbl0 : ∀ w', (Instr.build 102 #[]).run Tryz.prog w' = .ok (.agg #[.int .i64 0, .string ⟨#[]⟩]) w' := fun w' => by kernel_rfl
 have hzl : ∀ w', (zeroValue 102).run Tryz.prog w' = .ok (.agg #[.int .i64 0, .string ⟨#[]⟩]) w' := fun w' => by kernel_rfl
 go_enter Tryz.func63, Tryz.ntmps63
 go_upto_region 1 with fail
 rw [← hW];clear hW
 go_upto_region 2 with (first | refine load_sec rfl (.tmp 1) rfl w.heap.size rfl s hl G0.out ?_ | (go_at_call 35; refine (hy1 _).mono ?_; rintro e w2 ⟨rfl, hb2⟩) | (refine store_R rfl 102 (.tmp 4) _ rfl w2.heap.size _ rfl rfl 102 _ (heap_alloc_new _ _) (by rw [szL3]; rfl) rfl (by simp [Value.oneCell']) ?_; intro w3 hw3))
 have G0a := hid (pr_keep6 hw3 hb2 G0.out);have G1a := hid (pr_keep6 hw3 hb2 G1.out);have X3 := hid hw3.here;have HBa : Hid (Below w.heap.size w w3) := hw3.below ((btr HB.out hb2 HB.out.size).alloc (Nat.le_trans HB.out.size hb2.size) _) (Nat.le_trans HB.out.size hb2.size)
 have hg4 : w.heap.size + 2 ≤ w2.heap.size := by have h1 := slt G1.out; have h2 := hb2.size; omega
 obtain ⟨g4, hg4e⟩ : ∃ y, y = w2.heap.size := ⟨_, rfl⟩;rw [← hg4e] at X3 hg4 ⊢;clear hg4e hw3 hb2 G0 G1 HB hy1
 go_upto_region 3 with (first | refine load_sec rfl (.tmp 1) rfl w.heap.size rfl s hl G0a.out ?_ | (go_at_call 35; refine (hy2 _).mono ?_; rintro e w5 ⟨rfl, hb5⟩))
 have G0b : Hid (w5.heap[w.heap.size]? = some (.cells (SA s) 46 (0, 0))) := by show _ = _; rw [hb5.block _ (slt G0a.out)]; exact G0a.out
 have G1b : Hid (w5.heap[w.heap.size + 1]? = some (.cells #[.int .i64 0, .string ⟨#[]⟩] 102 (0, 0))) := by show _ = _; rw [hb5.block _ (slt G1a.out)]; exact G1a.out
 have X5 : Hid (w5.heap[g4]? = some (.cells #[.int .i64 N, .string ⟨#[]⟩] 102 (0, 0))) := by show _ = _; rw [hb5.block _ (slt X3.out)]; exact X3.out
 have HBb := hid (btr HBa.out hb5 HBa.out.size);clear G0a G1a X3 HBa hb5 hy2
 by_cases hk : K ≤ 40
 case neg =>
  have hk' : ¬ (K : Int) ≤ 40 := by omega
  obtain ⟨NM, hNM⟩ : ∃ y : ByteArray, y = ⟨#[]⟩ := ⟨_, rfl⟩
  have hM1 : K ≤ 40 → NM = nameOf s := fun h => absurd h hk
  have hM2 : ¬ K ≤ 40 → NM = ⟨#[]⟩ := fun _ => hNM
  have hNs : NM.size ≤ 40 := by rw [hNM]; decide
  rw [← hNM] at X5;clear hNM
  have hsl := fun w' => rslotSector_any N NM w' (by omega)
  have HRE := hid (HRD.out NM hM1 hM2);clear hM1 hM2 HRD;have HSS := hid (slotS_sec N NM);have HES : Hid (slotE N NM = if slotB N NM = true then 0 else 63) := rfl
  generalize slotS N NM = TT at *
  generalize slotE N NM = EE at *
  have hlt := HSS.out.1
  go_upto_region 11 with (first | refine load_R rfl 102 (.tmp 4) rfl g4 rfl 102 #[.int .i64 N, .string NM] _ X5.out Tryz.underlying102 rfl (szSlot N NM) ?_ | (go_at_call 87; refine (hsl _).mono ?_; rintro e w20 ⟨rfl, hb20⟩) | (refine store_sec rfl (.tmp 8) _ rfl w20.heap.size rfl TT rfl hlt Zs Zs_len (heap_alloc_new _ _) ?_; intro w21 hw21))
  have G0z := hid (wr_keep6 hw21 hb20 G0b.out);have G1z := hid (wr_keep6 hw21 hb20 G1b.out);have Xz := hid (wr_keep6 hw21 hb20 X5.out);have Tz := hid hw21.here;have HBz : Hid (Below w.heap.size w w21) := hw21.below ((btr HBb.out hb20 HBb.out.size).alloc (Nat.le_trans HBb.out.size hb20.size) _) (Nat.le_trans HBb.out.size hb20.size);obtain ⟨g8, hg8⟩ : ∃ y, y = w20.heap.size := ⟨_, rfl⟩;rw [← hg8] at Tz ⊢;have HQ := hid (eq_sec TT s hlt hl);clear hg8 hw21 hb20 hsl
  cases hbv : slotB N NM
  ·have hE : EE = 63 := by rw [HES.out, hbv]; rfl
   subst hE
   have HR : Hid (rdSlot N s = (0, ⟨#[]⟩, 63)) := by show _ = _; rw [HRE.out, hbv]; rfl
   clear hbv
   go_wp2_with (refine store_R rfl 102 (.tmp 2) _ rfl (w.heap.size + 1) _ rfl rfl 102 _ G1z.out (by rw [szL3]; rfl) rfl (by simp [Value.oneCell']) ?_; intro w22 hw22)
   rw [HR.out]
   exact bodyPost_ret (v := .tuple #[.agg #[.int .i64 0, .string ⟨#[]⟩], .int .i64 63]) (results_R Tryz.results63 _ _ (w.heap.size + 1) _ 102 _ _ Tryz.underlying102 rfl (by rw [szL3]; rfl) rfl rfl hw22.here) rfl ⟨rfl, hw22.below HBz.out (by omega)⟩
  ·have hE : EE = 0 := by rw [HES.out, hbv]; rfl
   subst hE
   by_cases hts : TT = s
   ·have HR : Hid (rdSlot N s = (N, NM, 0)) := by show _ = _; rw [HRE.out, if_pos ⟨hbv, hts⟩]
    clear hbv;subst hts
    go_wp2_with (first | refine load_sec_g (.tmp 8) rfl g8 rfl TT hlt Tz.out rfl ?_ | refine load_sec_g (.tmp 1) rfl w.heap.size rfl TT hlt G0z.out rfl ?_ | refine neq_R rfl 46 (.tmp 40) (.tmp 41) rfl (SA TT) (SA TT) true rfl rfl (fun w' => by rw [HQ.out, decide_eq_true rfl]) guard_sec ?_ | refine load_R rfl 102 (.tmp 4) rfl g4 rfl 102 #[.int .i64 N, .string NM] _ Xz.out Tryz.underlying102 rfl (szSlot N NM) ?_ | (refine store_R rfl 102 (.tmp 2) _ rfl (w.heap.size + 1) _ rfl rfl 102 _ G1z.out (by rw [szL3]; rfl) rfl (by simp [Value.oneCell']) ?_; intro w22 hw22))
    rw [HR.out]
    exact bodyPost_ret (v := .tuple #[.agg #[.int .i64 N, .string NM], .int .i64 0]) (results_R Tryz.results63 _ _ (w.heap.size + 1) _ 102 _ _ Tryz.underlying102 rfl (by rw [szL3]; rfl) rfl rfl hw22.here) rfl ⟨rfl, hw22.below HBz.out (by omega)⟩
   ·have HR : Hid (rdSlot N s = (0, ⟨#[]⟩, 63)) := by show _ = _; rw [HRE.out, if_neg (fun h => hts h.2)]
    have HTS := hid hts;clear hbv hts
    go_wp2_with (first | refine load_sec_g (.tmp 8) rfl g8 rfl TT hlt Tz.out rfl ?_ | refine load_sec_g (.tmp 1) rfl w.heap.size rfl s hl G0z.out rfl ?_ | refine neq_R rfl 46 (.tmp 40) (.tmp 41) rfl (SA TT) (SA s) false rfl rfl (fun w' => by rw [HQ.out, decide_eq_false HTS.out]) guard_sec ?_ | (refine store_R rfl 102 (.tmp 2) _ rfl (w.heap.size + 1) _ rfl rfl 102 _ G1z.out (by rw [szL3]; rfl) rfl (by simp [Value.oneCell']) ?_; intro w22 hw22))
    rw [HR.out]
    exact bodyPost_ret (v := .tuple #[.agg #[.int .i64 0, .string ⟨#[]⟩], .int .i64 63]) (results_R Tryz.results63 _ _ (w.heap.size + 1) _ 102 _ _ Tryz.underlying102 rfl (by rw [szL3]; rfl) rfl rfl hw22.here) rfl ⟨rfl, hw22.below HBz.out (by omega)⟩
 have hk' : (K : Int) ≤ 40 := by omega
 go_upto_region 5 with fail
 go_wp2_with fail
 go_loopw [6, 7] (fun v i wr => ∃ j : Nat, j ≤ K ∧ i = .int .i64 j ∧ Hid (Below w5.heap.size w5 wr ∧ BOw wr w5.heap.size v ((s.drop 5).take j))) (fun _ i _ => K - (intOf i).toNat)
 case atStart => exact ⟨0, by omega, rfl, Below.refl _ _, ⟨rfl, .inl ⟨rfl, rfl⟩⟩⟩
 case round =>
  obtain ⟨j, hj, rfl, HR⟩ := hrel;obtain ⟨Wx, hWx⟩ : ∃ y, y = wr := ⟨_, rfl⟩;subst hWx
  by_cases hjk : j < K
  ·have G0x : Wx.heap[w.heap.size]? = some (.cells (SA s) 46 (0, 0)) := by rw [HR.out.1.block _ (slt G0b.out)]; exact G0b.out
   have p1 := sec_cell G0x (5 + j) (by omega);obtain ⟨y, hy⟩ : ∃ y, y = s.getD (5 + j) 0 := ⟨_, rfl⟩;rw [← hy] at p1
   have HT : Hid ((s.drop 5).take (j + 1) = (s.drop 5).take j ++ [y]) := by show _ = _; rw [List.take_add_one, HBY.out j (by omega), hy]; rfl
   have HLN : Hid (((s.drop 5).take j).length ≤ 1000000000000) := by show _ ≤ _; rw [List.length_take]; omega
   have hi2 : (5 : Int) + (j : Int) < 128 := by omega
   have hi3 : (0 : Int) ≤ 5 + (j : Int) := by omega
   have et : ((5 : Int) + (j : Int)).toNat = 5 + j := by omega
   clear hy G0x
   go_wp2_with (first | (at_builtin; go_must (refine wp_app8 rfl _ _ rfl w5.heap.size Wx.heap.size 1 _ ((s.drop 5).take j) y rfl rfl (bow_keep HR.out.2 ((Below.refl _ _).alloc (Nat.le_refl _) _)) (by rw [cell_of_row _ _ _ _ _ _ (heap_alloc_new _ _)]; rfl) HLN.out (by have := HR.out.1.size; simp; omega) ?_; intro v' w' h1 h2)) | go_in)
   refine ⟨⟨j + 1, by omega, by go_num, ?_, by rw [HT.out]; exact h1⟩, by simp [intOf]; omega⟩
   exact (HR.out.1.alloc HR.out.1.size _).trans ⟨h2.os, h2.tape, h2.output, h2.size, fun k hk2 => h2.block k (by have := HR.out.1.size; simp; omega) (fun e => by have := (bow_ge HR.out.2 e.symm).1; omega)⟩
  ·obtain rfl : j = K := by omega
   have hcv := conv_bow HR.out.2
   have G0x : Hid (Wx.heap[w.heap.size]? = some (.cells (SA s) 46 (0, 0))) := by show _ = _; rw [HR.out.1.block _ (slt G0b.out)]; exact G0b.out
   have G1x : Hid (Wx.heap[w.heap.size + 1]? = some (.cells #[.int .i64 0, .string ⟨#[]⟩] 102 (0, 0))) := by show _ = _; rw [HR.out.1.block _ (slt G1b.out)]; exact G1b.out
   have Xx : Hid (Wx.heap[g4]? = some (.cells #[.int .i64 N, .string ⟨#[]⟩] 102 (0, 0))) := by show _ = _; rw [HR.out.1.block _ (slt X5.out)]; exact X5.out
   have HBx := hid (btr HBb.out HR.out.1 HBb.out.size);obtain ⟨NM, hNM⟩ : ∃ y : ByteArray, y = strOf ((s.drop 5).take j) := ⟨_, rfl⟩
   have hM1 : j ≤ 40 → NM = nameOf s := fun h => by rw [HNM.out h]; exact hNM
   have hM2 : ¬ j ≤ 40 → NM = ⟨#[]⟩ := fun h => absurd hk h
   have hNs : NM.size ≤ 40 := by rw [hNM]; simp [strOf, ByteArray.size]; omega
   rw [← hNM] at hcv
   have p1 : Wx.cell? ⟨g4, 1, none⟩ = some (.string ⟨#[]⟩) := by rw [cell_of_row _ _ _ _ _ _ Xx.out]; rfl
   have hfr := frozen_of_row Wx g4 1 _ _ Xx.out
   have Xy : Hid ((Wx.setCell ⟨g4, 1, none⟩ (.string NM)).heap[g4]? = some (.cells #[.int .i64 N, .string NM] 102 (0, 0))) := by show _ = _; rw [heap_setCell_same Wx g4 1 _ 102 _ Xx.out]; rfl
   have G0y : Hid ((Wx.setCell ⟨g4, 1, none⟩ (.string NM)).heap[w.heap.size]? = some (.cells (SA s) 46 (0, 0))) := by show _ = _; rw [heap_setCell_other Wx ⟨g4, 1, none⟩ w.heap.size _ (by show w.heap.size ≠ g4; omega)]; exact G0x.out
   have G1y : Hid ((Wx.setCell ⟨g4, 1, none⟩ (.string NM)).heap[w.heap.size + 1]? = some (.cells #[.int .i64 0, .string ⟨#[]⟩] 102 (0, 0))) := by show _ = _; rw [heap_setCell_other Wx ⟨g4, 1, none⟩ (w.heap.size + 1) _ (by show w.heap.size + 1 ≠ g4; omega)]; exact G1x.out
   have HBy : Hid (Below w.heap.size w (Wx.setCell ⟨g4, 1, none⟩ (.string NM))) := HBx.out.trans ⟨rfl, rfl, rfl, by simp [World.setCell], fun k hk2 => heap_setCell_other Wx ⟨g4, 1, none⟩ k _ (fun e => by have e' : k = g4 := e; omega)⟩;have HM1 := hid hM1;have HM2 := hid hM2;clear hNM HR G0x G1x Xx HBx HNM HBY hM1 hM2
   go_upto_region 10 with fail
   try dsimp only [Act.put]
   generalize Wx.setCell ⟨g4, 1, none⟩ (.string NM) = Wy at *
   clear p1 hfr hcv;have hM1 := HM1.out;have hM2 := HM2.out;clear HM1 HM2
   have hsl := fun w' => rslotSector_any N NM w' (by omega)
   have HRE := hid (HRD.out NM hM1 hM2);clear hM1 hM2 HRD;have HSS := hid (slotS_sec N NM);have HES : Hid (slotE N NM = if slotB N NM = true then 0 else 63) := rfl
   generalize slotS N NM = TT at *
   generalize slotE N NM = EE at *
   have hlt := HSS.out.1
   go_upto_region 11 with (first | refine load_R rfl 102 (.tmp 4) rfl g4 rfl 102 #[.int .i64 N, .string NM] _ Xy.out Tryz.underlying102 rfl (szSlot N NM) ?_ | (go_at_call 87; refine (hsl _).mono ?_; rintro e w20 ⟨rfl, hb20⟩) | (refine store_sec rfl (.tmp 8) _ rfl w20.heap.size rfl TT rfl hlt Zs Zs_len (heap_alloc_new _ _) ?_; intro w21 hw21))
   have G0z := hid (wr_keep6 hw21 hb20 G0y.out);have G1z := hid (wr_keep6 hw21 hb20 G1y.out);have Xz := hid (wr_keep6 hw21 hb20 Xy.out);have Tz := hid hw21.here;have HBz : Hid (Below w.heap.size w w21) := hw21.below ((btr HBy.out hb20 HBy.out.size).alloc (Nat.le_trans HBy.out.size hb20.size) _) (Nat.le_trans HBy.out.size hb20.size);obtain ⟨g8, hg8⟩ : ∃ y, y = w20.heap.size := ⟨_, rfl⟩;rw [← hg8] at Tz ⊢;have HQ := hid (eq_sec TT s hlt hl);clear hg8 hw21 hb20 hsl
   cases hbv : slotB N NM
   ·have hE : EE = 63 := by rw [HES.out, hbv]; rfl
    subst hE
    have HR : Hid (rdSlot N s = (0, ⟨#[]⟩, 63)) := by show _ = _; rw [HRE.out, hbv]; rfl
    clear hbv
    go_wp2_with (refine store_R rfl 102 (.tmp 2) _ rfl (w.heap.size + 1) _ rfl rfl 102 _ G1z.out (by rw [szL3]; rfl) rfl (by simp [Value.oneCell']) ?_; intro w22 hw22)
    rw [HR.out]
    exact bodyPost_ret (v := .tuple #[.agg #[.int .i64 0, .string ⟨#[]⟩], .int .i64 63]) (results_R Tryz.results63 _ _ (w.heap.size + 1) _ 102 _ _ Tryz.underlying102 rfl (by rw [szL3]; rfl) rfl rfl hw22.here) rfl ⟨rfl, hw22.below HBz.out (by omega)⟩
   ·have hE : EE = 0 := by rw [HES.out, hbv]; rfl
    subst hE
    by_cases hts : TT = s
    ·have HR : Hid (rdSlot N s = (N, NM, 0)) := by show _ = _; rw [HRE.out, if_pos ⟨hbv, hts⟩]
     clear hbv;subst hts
     go_wp2_with (first | refine load_sec_g (.tmp 8) rfl g8 rfl TT hlt Tz.out rfl ?_ | refine load_sec_g (.tmp 1) rfl w.heap.size rfl TT hlt G0z.out rfl ?_ | refine neq_R rfl 46 (.tmp 40) (.tmp 41) rfl (SA TT) (SA TT) true rfl rfl (fun w' => by rw [HQ.out, decide_eq_true rfl]) guard_sec ?_ | refine load_R rfl 102 (.tmp 4) rfl g4 rfl 102 #[.int .i64 N, .string NM] _ Xz.out Tryz.underlying102 rfl (szSlot N NM) ?_ | (refine store_R rfl 102 (.tmp 2) _ rfl (w.heap.size + 1) _ rfl rfl 102 _ G1z.out (by rw [szL3]; rfl) rfl (by simp [Value.oneCell']) ?_; intro w22 hw22))
     rw [HR.out]
     exact bodyPost_ret (v := .tuple #[.agg #[.int .i64 N, .string NM], .int .i64 0]) (results_R Tryz.results63 _ _ (w.heap.size + 1) _ 102 _ _ Tryz.underlying102 rfl (by rw [szL3]; rfl) rfl rfl hw22.here) rfl ⟨rfl, hw22.below HBz.out (by omega)⟩
    ·have HR : Hid (rdSlot N s = (0, ⟨#[]⟩, 63)) := by show _ = _; rw [HRE.out, if_neg (fun h => hts h.2)]
     have HTS := hid hts;clear hbv hts
     go_wp2_with (first | refine load_sec_g (.tmp 8) rfl g8 rfl TT hlt Tz.out rfl ?_ | refine load_sec_g (.tmp 1) rfl w.heap.size rfl s hl G0z.out rfl ?_ | refine neq_R rfl 46 (.tmp 40) (.tmp 41) rfl (SA TT) (SA s) false rfl rfl (fun w' => by rw [HQ.out, decide_eq_false HTS.out]) guard_sec ?_ | (refine store_R rfl 102 (.tmp 2) _ rfl (w.heap.size + 1) _ rfl rfl 102 _ G1z.out (by rw [szL3]; rfl) rfl (by simp [Value.oneCell']) ?_; intro w22 hw22))
     rw [HR.out]
     exact bodyPost_ret (v := .tuple #[.agg #[.int .i64 0, .string ⟨#[]⟩], .int .i64 63]) (results_R Tryz.results63 _ _ (w.heap.size + 1) _ 102 _ _ Tryz.underlying102 rfl (by rw [szL3]; rfl) rfl rfl hw22.here) rfl ⟨rfl, hw22.below HBz.out (by omega)⟩

end Go.Proofs.YtboammbcoleicabGreat
