/-
 The document's SlotSector.
-/
import Derived.Test.YtpmignilhoihnabGreatLH4
import Derived.Test.YtpmignilhoihnabGreatLF1
import Derived.Test.YtpmignilhoihnabGreatLF2
namespace Go.Proofs.YtpmignilhoihnabGreat
open Go.RowKit Go.Shelf

theorem u8_beq6 {x : UInt8} (n : Int) (c : UInt8) (hc : (c.toNat : Int) = n) : ((x.toNat : Int) == n) = (x == c) := by
 cases e : (x == c)
 ·simp only [beq_eq_false_iff_ne]; intro h; have : x = c := UInt8.toNat_inj.1 (by omega); simp [this] at e
 ·rw [eq_of_beq e, hc]; simp
theorem dat6 (s : ByteArray) (i : Nat) (hi : i < s.size) : s.data.toList[i]? = some (s[i]'hi) := Lib.data_getElem? s i hi

set_option maxRecDepth 100000 in
set_option maxHeartbeats 1000000 in
theorem risName_any (s : ByteArray) (w : World) (hsz : s.size ≤ 9223372036854775807) :
  Calls Tryz.prog 51 #[.string s] w fun e w' => e = .returned (.bool (nameB s)) ∧ Below w.heap.size w w' := by
 have e1 := toList_one;have e2 := toList_two
 have hwi := fun w' => rwithin_any (s.size : Int) 1 40 w'
 go_enter Tryz.func51, Tryz.ntmps51
 go_wp2
 go_loopw [3] (fun i wr => ∃ k : Nat, k ≤ s.size ∧ i = .int .i64 k ∧ Below w.heap.size w wr ∧ Hid (Lib.NoAny s.data.toList [0, 47] k)) (fun i _ => s.size - (intOf i).toNat)
 case atStart => exact ⟨0, by omega, rfl, Below.refl _ _, Lib.NoAny.zero _ _⟩
 case round =>
  obtain ⟨k, hk, rfl, hbr, HN⟩ := hrel;obtain ⟨Wx, hWx⟩ : ∃ y, y = wr := ⟨_, rfl⟩;subst hWx
  by_cases hlt : k < s.size
  ·obtain ⟨x, hx⟩ : ∃ x : UInt8, s[k]'hlt = x := ⟨_, rfl⟩
   have hxl := dat6 s k hlt;rw [hx] at hxl;have HX := hid hxl
   have hi0 : (0 : Int) ≤ (k : Int) := by omega
   have hi1 : (k : Int) < (s.size : Int) := by omega
   clear hxl
   have BAD : Hid (([0, 47] : List UInt8).contains x = true → nameB s = false) := fun hc => by
    have h1 := Lib.indexAny_hit HN.out HX.out hc
    have h2 : hasB s = true := by unfold hasB Lib.containsAny; rw [show two.data.toList = [0, 47] from rfl, h1]; simp
    unfold nameB; rw [h2]; simp
   by_cases c0 : x = 0
   ·have HB := hid (BAD.out (by rw [c0]; decide))
    subst c0
    go_wp2
    go_ret
    exact ⟨ret_bool HB.out.symm, hbr⟩
   have n0 : ((x.toNat : Int) == 0) = false := by rw [u8_beq6 0 0 rfl]; simpa using c0
   by_cases c1 : x = 47
   ·have HB := hid (BAD.out (by rw [c1]; decide))
    subst c1;clear n0
    go_wp2
    go_ret
    exact ⟨ret_bool HB.out.symm, hbr⟩
   have n1 : ((x.toNat : Int) == 47) = false := by rw [u8_beq6 47 47 rfl]; simpa using c1
   have HNN := hid (HN.out.succ HX.out (by simp [c0, c1]))
   go_wp2
   exact ⟨⟨k + 1, by omega, by go_num, hbr, HNN⟩, by simp [intOf]; omega⟩
  ·have HH : Hid (nameB s = (decide (1 ≤ s.size ∧ s.size ≤ 40) && (!(s.toList == [46]) && !(s.toList == [46, 46])))) := by
    show _ = _
    have hk2 : k = s.data.toList.length := by simp; omega
    have h1 := Lib.indexAny_none (s := s.data.toList) (chars := [0, 47]) (by rw [← hk2]; exact HN.out)
    have h2 : hasB s = false := by unfold hasB Lib.containsAny; rw [show two.data.toList = [0, 47] from rfl, h1]; simp
    unfold nameB; rw [h2]; simp
   have HW : Hid (wiB (s.size : Int) 1 40 = decide (1 ≤ s.size ∧ s.size ≤ 40)) := by
    show _ = _
    by_cases h : 1 ≤ s.size ∧ s.size ≤ 40
    ·rw [decide_eq_true h, wiB_true (by omega)]
    ·rw [decide_eq_false h, wiB_false (by omega)]
   rw [HW.out] at hwi
   generalize decide (1 ≤ s.size ∧ s.size ≤ 40) = D at *
   cases D
   ·go_wp2_with (go_at_call 48; refine (hwi _).mono ?_; rintro e w2 ⟨rfl, hw2⟩; rw [hw2])
    go_ret
    exact ⟨ret_bool (by rw [HH.out]; rfl), hbr⟩
   ·cases k1 : (s.toList == [46])
    ·have m1 : (s.toList != [46]) = true := by rw [bne, k1]; rfl
     cases k2 : (s.toList == [46, 46])
     ·have m2 : (s.toList != [46, 46]) = true := by rw [bne, k2]; rfl
      rw [k1, k2] at HH
      go_wp2_with (go_at_call 48; refine (hwi _).mono ?_; rintro e w2 ⟨rfl, hw2⟩; rw [hw2])
      go_ret
      exact ⟨ret_bool (by rw [HH.out]; rfl), hbr⟩
     ·have m2 : (s.toList != [46, 46]) = false := by rw [bne, k2]; rfl
      rw [k1, k2] at HH
      go_wp2_with (go_at_call 48; refine (hwi _).mono ?_; rintro e w2 ⟨rfl, hw2⟩; rw [hw2])
      go_ret
      exact ⟨ret_bool (by rw [HH.out]; rfl), hbr⟩
    ·have m1 : (s.toList != [46]) = false := by rw [bne, k1]; rfl
     rw [k1] at HH
     go_wp2_with (go_at_call 48; refine (hwi _).mono ?_; rintro e w2 ⟨rfl, hw2⟩; rw [hw2])
     go_ret
     exact ⟨ret_bool (by rw [HH.out]; rfl), hbr⟩

end Go.Proofs.YtpmignilhoihnabGreat

namespace Go.Proofs.YtpmignilhoihnabGreat
open Go.RowKit Go.Shelf

theorem spl_take {L B : List Int} {j : Nat} (hj : j < B.length) (h : 5 + B.length ≤ L.length) : (spl L 5 (B.take j)).set (5 + j) (B.getD j 0) = spl L 5 (B.take (j + 1)) := by
 have l1 : (B.take j).length = j := by rw [List.length_take]; omega
 have l2 : (B.take (j + 1)).length = j + 1 := by rw [List.length_take]; omega
 apply ext_getD (by rw [List.length_set, spl_len _ _ _ (by rw [l1]; omega), spl_len _ _ _ (by rw [l2]; omega)])
 intro i hi
 rw [List.length_set, spl_len _ _ _ (by rw [l1]; omega)] at hi;rw [spl_get _ _ _ (by rw [l2]; omega), l2];rw [List.getD_eq_getElem?_getD, List.getElem?_set]
 by_cases c : 5 + j = i
 ·rw [if_pos c, if_pos (by rw [spl_len _ _ _ (by rw [l1]; omega)]; omega), if_pos (by omega)]
  rw [show i - 5 = j by omega]
  simp [List.getD_eq_getElem?_getD]
 ·rw [if_neg c, ← List.getD_eq_getElem?_getD, spl_get _ _ _ (by rw [l1]; omega), l1]
  by_cases d : 5 ≤ i ∧ i < 5 + j
  ·rw [if_pos d, if_pos (by omega)]
   simp only [List.getD_eq_getElem?_getD, List.getElem?_take]
   rw [if_pos (by omega), if_pos (by omega)]
  ·rw [if_neg d, if_neg (by omega)]
theorem spl_zero (L : List Int) : spl L 5 [] = L := by
 unfold spl; simp
theorem bytes_at (s : ByteArray) (j : Nat) (hj : j < s.size) : (bytesI s).getD j 0 = ((s[j]'hj).toNat : Int) := by
 have h := dat6 s j hj;unfold bytesI;rw [List.getD_eq_getElem?_getD, List.getElem?_map, h]; rfl
theorem slot_zero (s : ByteArray) (h : s.toList = []) : slotS 0 s = Zs ∧ slotE 0 s = 0 := by
 have hb : slotB 0 s = true := by unfold slotB; rw [if_pos rfl, h]; rfl
 have hs : s.size = 0 := by rw [← size_eq, h]; rfl
 have hB : bytesI s = [] := by apply List.length_eq_zero_iff.1; rw [bytesI_len, hs]
 refine ⟨?_, by unfold slotE; rw [if_pos hb]⟩;unfold slotS numsSlot;rw [if_pos hb, hB, hs]
 decide

set_option maxRecDepth 100000 in
set_option maxHeartbeats 2000000 in
theorem rslotSector_any (n : Int) (s : ByteArray) (w : World) (hsz : s.size ≤ 9223372036854775807) :
  Calls Tryz.prog 30 #[.agg #[.int .i64 n, .string s]] w fun e w' => e = .returned (.tuple #[.agg (SA (slotS n s)), .int .i64 (slotE n s)]) ∧ Below w.heap.size w w' := by
 have hz := zero_sec;have e0 := toList_nil;obtain ⟨W, hW⟩ : ∃ x, x = ((w.alloc (.cells #[.int .i64 n, .string s] 82)).alloc (.cells (SA Zs) 36)).alloc (.cells (SA Zs) 36) := ⟨_, rfl⟩
 have G0 : Hid (W.heap[w.heap.size]? = some (.cells #[.int .i64 n, .string s] 82 (0, 0))) := by
  show _ = _; rw [hW, Below.heap_alloc _ _ _ (by simp; omega)]; exact heap_alloc2_old w _ _
 have G1 : Hid (W.heap[w.heap.size + 1]? = some (.cells (SA Zs) 36 (0, 0))) := by
  show _ = _; rw [hW, Below.heap_alloc _ _ _ (by simp)]; exact heap_alloc2_new w _ _
 have G2 : Hid (W.heap[w.heap.size + 2]? = some (.cells (SA Zs) 36 (0, 0))) := by
  show _ = _; rw [hW]
  have := heap_alloc_new ((w.alloc (.cells #[.int .i64 n, .string s] 82)).alloc (.cells (SA Zs) 36)) (.cells (SA Zs) 36)
  simpa using this
 have hbW : Below w.heap.size w W := by rw [hW]; exact (((Below.refl _ _).alloc (Nat.le_refl _) _).alloc (by simp) _).alloc (by simp; omega) _
 have HB := hid hbW
 have c0 : W.cell? ⟨w.heap.size, 0, none⟩ = some (.int .i64 n) := by rw [cell_of_row _ _ _ _ _ _ G0.out]; rfl
 have c1 : W.cell? ⟨w.heap.size, 1, none⟩ = some (.string s) := by rw [cell_of_row _ _ _ _ _ _ G0.out]; rfl
 have hnm := fun w' => risName_any s w' hsz
 clear hbW
 by_cases hn0 : n = 0
 ·subst hn0
  cases hs0 : (s.toList == [])
  ·have HE : Hid (slotS 0 s = Zs ∧ slotE 0 s = 63) := by
    have hb : slotB 0 s = false := by
     unfold slotB; rw [if_pos rfl]
     cases e : s.toList with
     | nil => rw [e] at hs0; simp at hs0
     | cons => rfl
    exact ⟨by unfold slotS; rw [hb]; rfl, by unfold slotE; rw [hb]; rfl⟩
   have hwi := fun w' => rwithin_any 0 1 512 w'
   rw [wiB_false (by omega)] at hwi
   go_enter Tryz.func30, Tryz.ntmps30
   go_upto_region 2 with fail
   rw [← hW];clear hW
   go_wp2_with (first | (go_at_call 48; refine (hwi _).mono ?_; rintro e w2 ⟨rfl, hw2⟩; rw [hw2]) | refine load_sec rfl (.tmp 4) rfl (w.heap.size + 2) rfl Zs Zs_len G2.out ?_ | (refine store_sec rfl _ _ rfl (w.heap.size + 1) rfl Zs rfl Zs_len Zs Zs_len G1.out ?_; intro w3 hw3))
   rw [HE.out.1, HE.out.2]
   exact bodyPost_ret (v := .tuple #[.agg (SA Zs), .int .i64 63]) (results_sec Tryz.results30 _ _ (w.heap.size + 1) Zs Zs_len _ rfl rfl hw3.here) rfl ⟨rfl, hw3.below HB.out (by omega)⟩
  ·have HE := hid (slot_zero s (eq_of_beq hs0))
   go_enter Tryz.func30, Tryz.ntmps30
   go_upto_region 2 with fail
   rw [← hW];clear hW
   go_wp2_with (first | refine load_sec rfl (.tmp 4) rfl (w.heap.size + 2) rfl Zs Zs_len G2.out ?_ | (refine store_sec rfl _ _ rfl (w.heap.size + 1) rfl Zs rfl Zs_len Zs Zs_len G1.out ?_; intro w3 hw3))
   rw [HE.out.1, HE.out.2]
   exact bodyPost_ret (v := .tuple #[.agg (SA Zs), .int .i64 0]) (results_sec Tryz.results30 _ _ (w.heap.size + 1) Zs Zs_len _ rfl rfl hw3.here) rfl ⟨rfl, hw3.below HB.out (by omega)⟩
 ·have hn0' : (n == 0) = false := by simp [hn0]
  have hwi := fun w' => rwithin_any n 1 512 w'
  cases hm1 : wiB n 1 512
  ·have HE : Hid (slotS n s = Zs ∧ slotE n s = 63) := by
    have hb : slotB n s = false := by
     unfold slotB; rw [if_neg hn0, show decide (1 ≤ n ∧ n ≤ 512) = false from hm1]; rfl
    exact ⟨by unfold slotS; rw [hb]; rfl, by unfold slotE; rw [hb]; rfl⟩
   rw [hm1] at hwi
   go_enter Tryz.func30, Tryz.ntmps30
   go_upto_region 2 with fail
   rw [← hW];clear hW
   go_wp2_with (first | (go_at_call 48; refine (hwi _).mono ?_; rintro e w2 ⟨rfl, hw2⟩; rw [hw2]) | refine load_sec rfl (.tmp 4) rfl (w.heap.size + 2) rfl Zs Zs_len G2.out ?_ | (refine store_sec rfl _ _ rfl (w.heap.size + 1) rfl Zs rfl Zs_len Zs Zs_len G1.out ?_; intro w3 hw3))
   rw [HE.out.1, HE.out.2]
   exact bodyPost_ret (v := .tuple #[.agg (SA Zs), .int .i64 63]) (results_sec Tryz.results30 _ _ (w.heap.size + 1) Zs Zs_len _ rfl rfl hw3.here) rfl ⟨rfl, hw3.below HB.out (by omega)⟩
  ·rw [hm1] at hwi
   cases hm2 : nameB s
   ·have HE : Hid (slotS n s = Zs ∧ slotE n s = 63) := by
     have hb : slotB n s = false := by
      unfold slotB; rw [if_neg hn0, hm2]; simp
     exact ⟨by unfold slotS; rw [hb]; rfl, by unfold slotE; rw [hb]; rfl⟩
    rw [hm2] at hnm
    go_enter Tryz.func30, Tryz.ntmps30
    go_upto_region 2 with fail
    rw [← hW];clear hW
    go_wp2_with (first | (go_at_call 48; refine (hwi _).mono ?_; rintro e w2 ⟨rfl, hw2⟩; rw [hw2]) | (go_at_call 51; refine (hnm _).mono ?_; rintro e w5 ⟨rfl, hb5⟩) | refine load_sec rfl (.tmp 4) rfl (w.heap.size + 2) rfl Zs Zs_len (by rw [hb5.block _ (slt G2.out)]; exact G2.out) ?_ | (refine store_sec rfl _ _ rfl (w.heap.size + 1) rfl Zs rfl Zs_len Zs Zs_len (by rw [hb5.block _ (slt G1.out)]; exact G1.out) ?_; intro w3 hw3))
    rw [HE.out.1, HE.out.2]
    exact bodyPost_ret (v := .tuple #[.agg (SA Zs), .int .i64 63]) (results_sec Tryz.results30 _ _ (w.heap.size + 1) Zs Zs_len _ rfl rfl hw3.here) rfl ⟨rfl, hw3.below (btr HB.out hb5 HB.out.size) (by omega)⟩
   ·have hbd : slotB n s = true := by unfold slotB; rw [if_neg hn0, hm2, show decide (1 ≤ n ∧ n ≤ 512) = true from hm1]; rfl
    have hb3 := slot_bd hbd;have HE : Hid (slotS n s = spl (putN (putN Zs 0 n 4) 4 s.size 1) 5 (bytesI s) ∧ slotE n s = 0) := ⟨by unfold slotS; rw [if_pos hbd]; rfl, by unfold slotE; rw [if_pos hbd]⟩
    have hl1 := fun w' => rlay_any Zs 0 4 n w' Zs_len (by decide) (by omega) (by omega)
    have lp1 : (putN Zs 0 n 4).length = 128 := by rw [putN_len, Zs_len]
    have hl2 := fun w' => rlay_any (putN Zs 0 n 4) 4 1 (s.size : Int) w' lp1 (by decide) (by omega) (by omega)
    have lp2 : (putN (putN Zs 0 n 4) 4 s.size 1).length = 128 := by rw [putN_len, lp1]
    have hs40 : s.size ≤ 40 := hb3.2.2;rw [hm2] at hnm;clear hbd hb3
    generalize putN Zs 0 n 4 = L1 at *
    generalize putN L1 4 (s.size : Int) 1 = L2 at *
    go_enter Tryz.func30, Tryz.ntmps30
    go_upto_region 2 with fail
    rw [← hW];clear hW
    go_upto_region 6 with (first | (go_at_call 48; refine (hwi _).mono ?_; rintro e w2 ⟨rfl, hw2⟩; rw [hw2]) | (go_at_call 51; refine (hnm _).mono ?_; rintro e w5 ⟨rfl, hb5⟩))
    have G0a : Hid (w5.heap[w.heap.size]? = some (.cells #[.int .i64 n, .string s] 82 (0, 0))) := by show _ = _; rw [hb5.block _ (slt G0.out)]; exact G0.out
    have G1a : Hid (w5.heap[w.heap.size + 1]? = some (.cells (SA Zs) 36 (0, 0))) := by show _ = _; rw [hb5.block _ (slt G1.out)]; exact G1.out
    have G2a : Hid (w5.heap[w.heap.size + 2]? = some (.cells (SA Zs) 36 (0, 0))) := by show _ = _; rw [hb5.block _ (slt G2.out)]; exact G2.out
    have HBa := hid (btr HB.out hb5 HB.out.size)
    have c0a : w5.cell? ⟨w.heap.size, 0, none⟩ = some (.int .i64 n) := by rw [cell_of_row _ _ _ _ _ _ G0a.out]; rfl
    clear G0 G1 G2 HB c0 c1 hb5 hnm hwi
    go_upto_region 7 with (first | refine load_sec rfl (.tmp 4) rfl (w.heap.size + 2) rfl Zs Zs_len G2a.out ?_ | (go_at_call 49; refine (hl1 _).mono ?_; rintro e w6 ⟨rfl, hb6⟩) | (refine store_sec rfl _ _ rfl (w.heap.size + 2) rfl L1 rfl lp1 Zs Zs_len (by rw [hb6.block _ (slt G2a.out)]; exact G2a.out) ?_; intro w7 hw7))
    have G0b : Hid (w7.heap[w.heap.size]? = some (.cells #[.int .i64 n, .string s] 82 (0, 0))) := by show _ = _; rw [hw7.other _ (by omega), hb6.block _ (slt G0a.out)]; exact G0a.out
    have G1b : Hid (w7.heap[w.heap.size + 1]? = some (.cells (SA Zs) 36 (0, 0))) := by show _ = _; rw [hw7.other _ (by omega), hb6.block _ (slt G1a.out)]; exact G1a.out
    have G2b := hid hw7.here;have HBb : Hid (Below w.heap.size w w7) := hw7.below (btr HBa.out hb6 HBa.out.size) (by omega)
    have c1b : w7.cell? ⟨w.heap.size, 1, none⟩ = some (.string s) := by rw [cell_of_row _ _ _ _ _ _ G0b.out]; rfl
    clear G0a G1a G2a HBa c0a hb6 hw7 hl1
    go_upto_region 8 with (first | refine load_sec rfl (.tmp 4) rfl (w.heap.size + 2) rfl L1 lp1 G2b.out ?_ | (go_at_call 49; refine (hl2 _).mono ?_; rintro e w8 ⟨rfl, hb8⟩) | (refine store_sec rfl _ _ rfl (w.heap.size + 2) rfl L2 rfl lp2 L1 lp1 (by rw [hb8.block _ (slt G2b.out)]; exact G2b.out) ?_; intro w9 hw9))
    have G0c : Hid (w9.heap[w.heap.size]? = some (.cells #[.int .i64 n, .string s] 82 (0, 0))) := by show _ = _; rw [hw9.other _ (by omega), hb8.block _ (slt G0b.out)]; exact G0b.out
    have G1c : Hid (w9.heap[w.heap.size + 1]? = some (.cells (SA Zs) 36 (0, 0))) := by show _ = _; rw [hw9.other _ (by omega), hb8.block _ (slt G1b.out)]; exact G1b.out
    have G2c := hid hw9.here;have HBc : Hid (Below w.heap.size w w9) := hw9.below (btr HBb.out hb8 HBb.out.size) (by omega);clear G0b G1b G2b HBb c1b hb8 hw9 hl2 lp1
    try dsimp only [Act.put]
    go_wp2_with fail
    go_loopw [5] (fun i wr => ∃ j : Nat, j ≤ s.size ∧ i = .int .i64 j ∧ Hid (Below w.heap.size w wr ∧ wr.heap[w.heap.size]? = some (.cells #[.int .i64 n, .string s] 82 (0, 0)) ∧ wr.heap[w.heap.size + 1]? = some (.cells (SA Zs) 36 (0, 0)) ∧ wr.heap[w.heap.size + 2]? = some (.cells (SA (spl L2 5 ((bytesI s).take j))) 36 (0, 0)))) (fun i _ => s.size - (intOf i).toNat)
    case atStart => exact ⟨0, by omega, rfl, HBc.out, G0c.out, G1c.out, by rw [List.take_zero, spl_zero]; exact G2c.out⟩
    case round =>
     obtain ⟨j, hj, rfl, HR⟩ := hrel;obtain ⟨Wx, hWx⟩ : ∃ y, y = wr := ⟨_, rfl⟩;subst hWx
     have c1d : Wx.cell? ⟨w.heap.size, 1, none⟩ = some (.string s) := by rw [cell_of_row _ _ _ _ _ _ HR.out.2.1]; rfl
     have lsp : ∀ k, k ≤ s.size → (spl L2 5 ((bytesI s).take k)).length = 128 := fun k hk => by
      rw [spl_len _ _ _ (by rw [List.length_take, bytesI_len, lp2]; omega), lp2]
     by_cases hlt : j < s.size
     ·obtain ⟨x, hx⟩ : ∃ x : UInt8, s[j]'hlt = x := ⟨_, rfl⟩
      have hbx := bytes_at s j hlt;rw [hx] at hbx;have HT := hid (spl_take (L := L2) (B := bytesI s) (j := j) (by rw [bytesI_len]; exact hlt) (by rw [bytesI_len, lp2]; omega));rw [hbx] at HT;obtain ⟨v, hv⟩ : ∃ v, v = (spl L2 5 ((bytesI s).take j)).getD (5 + j) 0 := ⟨_, rfl⟩
      have p2 : Wx.cell? ⟨w.heap.size + 2, 5 + j, none⟩ = some (.int .u8 v) := by
       rw [hv, cell_of_row _ _ _ _ _ _ HR.out.2.2.2]
       simp [SA, lsp j (by omega), show 5 + j < 128 by omega]
      have hfr := frozen_of_row Wx (w.heap.size + 2) (5 + j) _ _ HR.out.2.2.2
      have HS2 : Hid ((Wx.setCell ⟨w.heap.size + 2, 5 + j, none⟩ (.int .u8 (x.toNat : Int))).heap[w.heap.size + 2]? = some (.cells (SA (spl L2 5 ((bytesI s).take (j + 1)))) 36 (0, 0))) := by
       show _ = _
       rw [heap_setCell_same Wx (w.heap.size + 2) (5 + j) _ 36 _ HR.out.2.2.2, SA_set, HT.out]
      have HS0 : Hid ((Wx.setCell ⟨w.heap.size + 2, 5 + j, none⟩ (.int .u8 (x.toNat : Int))).heap[w.heap.size]? = some (.cells #[.int .i64 n, .string s] 82 (0, 0))) := by
       show _ = _
       rw [heap_setCell_other Wx ⟨w.heap.size + 2, 5 + j, none⟩ w.heap.size _ (by show w.heap.size ≠ w.heap.size + 2; omega)]; exact HR.out.2.1
      have HS1 : Hid ((Wx.setCell ⟨w.heap.size + 2, 5 + j, none⟩ (.int .u8 (x.toNat : Int))).heap[w.heap.size + 1]? = some (.cells (SA Zs) 36 (0, 0))) := by
       show _ = _
       rw [heap_setCell_other Wx ⟨w.heap.size + 2, 5 + j, none⟩ (w.heap.size + 1) _ (by show w.heap.size + 1 ≠ w.heap.size + 2; omega)]; exact HR.out.2.2.1
      have HSB : Hid (Below w.heap.size w (Wx.setCell ⟨w.heap.size + 2, 5 + j, none⟩ (.int .u8 (x.toNat : Int)))) :=
       HR.out.1.trans ⟨rfl, rfl, rfl, by simp [World.setCell], fun k hk => heap_setCell_other Wx ⟨w.heap.size + 2, 5 + j, none⟩ k _ (fun e => by have e' : k = w.heap.size + 2 := e; omega)⟩
      have hi0 : (0 : Int) ≤ (j : Int) := by omega
      have hi1 : (j : Int) < (s.size : Int) := by omega
      have hi2 : (5 : Int) + (j : Int) < 128 := by omega
      have hi3 : (0 : Int) ≤ 5 + (j : Int) := by omega
      have et : ((5 : Int) + (j : Int)).toNat = 5 + j := by omega
      clear hv hbx
      go_wp2_with fail
      exact ⟨⟨j + 1, by omega, by go_num, HSB.out, HS0.out, HS1.out, HS2.out⟩, by simp [intOf]; omega⟩
     ·have HF : Hid ((bytesI s).take j = bytesI s) := by show _ = _; rw [List.take_of_length_le (by rw [bytesI_len]; omega)]
      have hlf : (spl L2 5 (bytesI s)).length = 128 := by have := lsp j hj; rw [HF.out] at this; exact this
      have G2d : Hid (Wx.heap[w.heap.size + 2]? = some (.cells (SA (spl L2 5 (bytesI s))) 36 (0, 0))) := by show _ = _; rw [← HF.out]; exact HR.out.2.2.2
      have G1d := hid HR.out.2.2.1;have HBd := hid HR.out.1;clear HR
      go_wp2_with (first | refine load_sec rfl (.tmp 4) rfl (w.heap.size + 2) rfl (spl L2 5 (bytesI s)) hlf G2d.out ?_ | (refine store_sec rfl _ _ rfl (w.heap.size + 1) rfl (spl L2 5 (bytesI s)) rfl hlf Zs Zs_len G1d.out ?_; intro w3 hw3))
      rw [HE.out.1, HE.out.2]
      exact bodyPost_ret (v := .tuple #[.agg (SA (spl L2 5 (bytesI s))), .int .i64 0]) (results_sec Tryz.results30 _ _ (w.heap.size + 1) _ hlf _ rfl rfl hw3.here) rfl ⟨rfl, hw3.below HBd.out (by omega)⟩

end Go.Proofs.YtpmignilhoihnabGreat
