/-
  SectorLists returns true, for every two lists of bytes and number (of a size that any machine bears): the walk.
-/
import Derived.Test.YtibneoajkbblaaaLists2
import Derived.Test.YtibneoajkbblaaaWKnown
import Derived.Deep.CutRange
import Derived.Deep.DeepCutAuto
import Derived.Deep.CutBlock
namespace Go.Proofs.Ytibneoajkbblaaa
open Go.RowKit

set_option maxRecDepth 100000 in
set_option maxHeartbeats 40000000 in
theorem lists_walk (za zb : List Int) (LA LB : Nat) (hLA : Hid (za.length = LA)) (hLB : Hid (zb.length = LB)) (aa ab : Option Addr) (ca cb : Nat) (n : Int) (w : World) (hla : LA ≤ ca) (hlb : LB ≤ cb) (hma : ca ≤ 1048576) (hmb : cb ≤ 1048576) (HZA : Hid (BytesAt w aa za)) (HZB : Hid (BytesAt w ab zb)) :
    Calls Try.prog 5 #[.slice aa LA ca, .slice ab LB cb, .int .i64 n] w fun e w' => e = .returned (.bool true) ∧ Below w.heap.size w w' := by
  have HFA : Hid ((cutF za).length = 128 * cutM LA) := by show _ = _; rw [cutF_len, hLA.out]
  have HFB : Hid ((cutF zb).length = 128 * cutM LB) := by show _ = _; rw [cutF_len, hLB.out]
  have hMA := cutM_lt LA
  have hMB := cutM_lt LB
  have HLDA := hid fun w1 h => lend_any za LA hLA aa ca w1 (by omega) h
  have HLDB := hid fun w1 h => lend_any zb LB hLB ab cb w1 (by omega) h
  have HCUA := hid fun w1 ad cap h1 h2 h3 => cut_at za LA hLA ad cap w1 h1 h2 h3
  have HCUB := hid fun w1 ad cap h1 h2 h3 => cut_at zb LB hLB ad cap w1 h1 h2 h3
  have HRCA := hid fun w1 h => rcut_any za LA hLA aa ca w1 (by omega) h
  have HRCB := hid fun w1 h => rcut_any zb LB hLB ab cb w1 (by omega) h
  generalize cutF za = FA at *
  generalize cutF zb = FB at *
  generalize cutM LA = MA at *
  generalize cutM LB = MB at *
  have h0 : HB w [] w := ⟨by simp, by simp, Below.refl _ _⟩
  have hi0 : (LA : Int) ≤ (LA : Int) + 8 := by omega
  have hi1 : (LB : Int) ≤ (LB : Int) + 8 := by omega
  have hi2 : ¬ LA + 8 = LA := by omega
  have hi3 : ¬ LB + 8 = LB := by omega
  have hi4 : LA ≤ LA + 8 := by omega
  have hi5 : LB ≤ LB + 8 := by omega
  have HL1 := hid (HLDA.out w HZA.out)
  go_enter Try.func5, Try.ntmps5
  go_wp2_with fail
  refine HL1.out.mono ?_
  rintro e w1 ⟨rfl, hc1, hb1⟩
  have HB1 := hid ((h0.call hb1).more hc1)
  clear hc1 hb1 h0 HL1 HLDA
  go_wp2_with fail
  refine (HLDB.out w1 (bytes_below HZB.out HB1.out.old)).mono ?_
  rintro e w2 ⟨rfl, hc2, hb2⟩
  have dY : w.heap.size < w1.heap.size := HB1.out.low (w.heap.size, _) (List.mem_cons_self ..)
  have HB2 := hid ((HB1.out.call hb2).more hc2)
  clear hc2 hb2 HB1 HLDB
  generalize w1.heap.size = gY at *
  go_wp2_with fail
  refine (HCUA.out w2 (some ⟨w.heap.size, 0, none⟩) (LA + 8) (by omega) (by omega) (lent_row (HB2.out.get (by simp)))).mono ?_
  rintro e w3 ⟨rfl, hc3, hb3⟩
  have dP : gY < w2.heap.size := HB2.out.low (gY, _) (List.mem_cons_self ..)
  have HB3 := hid ((HB2.out.call hb3).more hc3)
  clear hc3 hb3 HB2
  generalize w2.heap.size = gP at *
  go_wp2_with fail
  refine (HCUB.out w3 (some ⟨gY, 0, none⟩) (LB + 8) (by omega) (by omega) (lent_row (HB3.out.get (by simp)))).mono ?_
  rintro e w4 ⟨rfl, hc4, hb4⟩
  have dQ : gP < w3.heap.size := HB3.out.low (gP, _) (List.mem_cons_self ..)
  have HB4 := hid ((HB3.out.call hb4).more hc4)
  clear hc4 hb4 HB3 HCUB
  generalize w3.heap.size = gQ at *
  go_wp2_with fail
  refine (HCUA.out w4 (some ⟨w.heap.size, 0, none⟩) (LA + 8) (by omega) (by omega) (lent_row (HB4.out.get (by simp)))).mono ?_
  rintro e w5 ⟨rfl, hc5, hb5⟩
  have dR : gQ < w4.heap.size := HB4.out.low (gQ, _) (List.mem_cons_self ..)
  have HB5 := hid ((HB4.out.call hb5).more hc5)
  clear hc5 hb5 HB4
  generalize w4.heap.size = gR at *
  go_wp2_with fail
  refine (unchanged_any za LA hLA aa ca w.heap.size w5 w (by omega) HZA.out HB5.out.old (Nat.le_refl _) (HB5.out.get (by simp))).mono ?_
  rintro e w6 ⟨rfl, c6, hw6⟩
  have HB6 := hid (HB5.out.init (l := [(gR, .cells (SA FA) 26 (0, 0)), (gQ, .cells (SA FB) 26 (0, 0)), (gP, .cells (SA FA) 26 (0, 0)), (gY, .cells (SA (lentL zb)) 5 (0, 0))]) |>.wroteB hw6 (Nat.le_refl _) (List.forall_mem_cons.2 ⟨by omega, List.forall_mem_cons.2 ⟨by omega, List.forall_mem_cons.2 ⟨by omega, List.forall_mem_cons.2 ⟨by omega, fun _ h => nomatch h⟩⟩⟩⟩))
  clear hw6 HB5 c6
  go_wp2_with fail
  refine (unchanged_any zb LB hLB ab cb gY w6 w (by omega) HZB.out HB6.out.old (by omega) (HB6.out.get (by simp))).mono ?_
  rintro e w7 ⟨rfl, c7, hw7⟩
  have HB7 := hid (HB6.out.init (l := [(gR, .cells (SA FA) 26 (0, 0)), (gQ, .cells (SA FB) 26 (0, 0)), (gP, .cells (SA FA) 26 (0, 0))]) |>.wroteB hw7 (by omega) (List.forall_mem_cons.2 ⟨by omega, List.forall_mem_cons.2 ⟨by omega, List.forall_mem_cons.2 ⟨by omega, fun _ h => nomatch h⟩⟩⟩))
  clear hw7 HB6 c7
  go_wp2_with fail
  refine (HRCA.out w7 (bytes_below HZA.out HB7.out.old)).mono ?_
  rintro e w8 ⟨vW, rfl, hoW, hbW⟩
  have dW : gR < w7.heap.size := HB7.out.low (gR, _) (List.mem_cons_self ..)
  have HB8 := hid (HB7.out.call hbW)
  obtain ⟨aw, cw, blW, rfl, hcw, hblW, HgeW, HW⟩ := hoW.blk w HB8.out.old
  have dO := hbW.size
  have HB8 := hid (HB8.out.join hblW)
  clear hbW hoW hblW HB7 HRCA
  generalize w7.heap.size = s7 at *
  go_wp2_with fail
  refine (HRCB.out w8 (bytes_below HZB.out HB8.out.old)).mono ?_
  rintro e w9 ⟨vO, rfl, hoO, hbO⟩
  have HB9 := hid (HB8.out.call hbO)
  obtain ⟨ao, co, blO, rfl, hco, hblO, HgeO, HO⟩ := hoO.blk w HB9.out.old
  have HB9 := hid (HB9.out.join hblO)
  clear hbO hoO hblO HB8 HRCB
  generalize w8.heap.size = s8 at *
  go_upto_region 10 with fail
  go_cut [81] (fun x wc => x = .bool false ∧ Hid (HB w (blO ++ (blW ++ [(gR, .cells (SA FA) 26 (0, 0)), (gQ, .cells (SA FB) 26 (0, 0)), (gP, .cells (SA FA) 26 (0, 0))])) wc))
  case first =>
    have HsW : Hid (∀ x, x ∈ blW → x ∈ (blO ++ (blW ++ [(gR, .cells (SA FA) 26 (0, 0)), (gQ, .cells (SA FB) 26 (0, 0)), (gP, .cells (SA FA) 26 (0, 0))]))) := fun x hx => List.mem_append_right _ (List.mem_append_left _ hx)
    have HsO : Hid (∀ x, x ∈ blO → x ∈ (blO ++ (blW ++ [(gR, .cells (SA FA) 26 (0, 0)), (gQ, .cells (SA FB) 26 (0, 0)), (gP, .cells (SA FA) 26 (0, 0))]))) := fun x hx => List.mem_append_left _ hx
    go_wp2_with fail
    refine (same_any FA MA (some ⟨gP, 0, none⟩) aw MA cw w9 HFA.out (by omega) (row_bytes (t := 26) (HB9.out.get (by simp))) (HW.out _ (HB9.out.sub HsW.out))).mono ?_
    rintro e wa ⟨rfl, n1, rfl⟩
    have HBa := hid (HB9.out.drewN (n := n1))
    go_wp2_with fail
    refine (same_any FA MA (some ⟨gR, 0, none⟩) aw MA cw _ HFA.out (by omega) (row_bytes (t := 26) (HBa.out.get (by simp))) (HW.out _ (HBa.out.sub HsW.out))).mono ?_
    rintro e wa ⟨rfl, n2, rfl⟩
    have HBb := hid (HB9.out.drewN (n := n1 + n2))
    go_wp2_with fail
    refine (same_any FB MB (some ⟨gQ, 0, none⟩) ao MB co _ HFB.out (by omega) (row_bytes (t := 26) (HBb.out.get (by simp))) (HO.out _ (HBb.out.sub HsO.out))).mono ?_
    rintro e wa ⟨rfl, n3, rfl⟩
    have HBc := hid (HB9.out.drewN (n := n1 + n2 + n3))
    go_wp2_with fail
    go_meet
    case rel => exact ⟨rfl, HBc⟩
  case rest =>
    obtain ⟨rfl, HB10⟩ := hcut
    clear HB9
    go_upto_region 12 with fail
    have HlowB := hid HB10.out.low
    have holdB := HB10.out.old.size
    have HB11 := hid (HB10.out.alloc (.cells #[] 26)).tail
    have HsW : Hid (∀ x, x ∈ blW → x ∈ (blO ++ (blW ++ [(gR, .cells (SA FA) 26 (0, 0)), (gQ, .cells (SA FB) 26 (0, 0)), (gP, .cells (SA FA) 26 (0, 0))]))) := fun x hx => List.mem_append_right _ (List.mem_append_left _ hx)
    have HsO : Hid (∀ x, x ∈ blO → x ∈ (blO ++ (blW ++ [(gR, .cells (SA FA) 26 (0, 0)), (gQ, .cells (SA FB) 26 (0, 0)), (gP, .cells (SA FA) 26 (0, 0))]))) := fun x hx => List.mem_append_left _ hx
    have hszA : wc.heap.size ≤ (wc.alloc (.cells #[] 26)).heap.size := by simp
    go_upto_region 13 with (first | (at_builtin; refine append_secs2 rfl _ _ rfl wc.heap.size 0 MA cw _ [] FA aw rfl rfl (Own.start (w := wc) (heap_alloc_new _ _) (Nat.le_refl _) (by simp)) (by rw [HFA.out]; omega) (HW.out _ (HB11.out.sub HsW.out)) (by omega) hszA ?_; intro v1 wA HO1 hg1 _; have HBA := hid (HB11.out.append (Own.start (k := 128) (w := wc) (heap_alloc_new _ _) (Nat.le_refl _) (by simp)) hg1 HlowB.out holdB); have hs7 := hg1.size) | (at_builtin; refine append_secs2 rfl _ _ rfl wc.heap.size (0 + MA) MB co v1 ([] ++ FA) FB ao rfl rfl HO1 (by rw [HFB.out]; omega) (HO.out _ (HBA.out.sub HsO.out)) (by omega) (by omega) ?_; intro v2 wB HO2 hg2 _))
    rw [List.nil_append, Nat.zero_add] at HO2
    have HBB := hid (HBA.out.append HO1 hg2 HlowB.out holdB)
    obtain ⟨aA, cA, blA, rfl, hcA, hblA, HgeA, HAl⟩ := HO2.blk w HBB.out.old
    have HB12 := hid (HBB.out.join hblA)
    have HFF : Hid ((FA ++ FB).length = 128 * (MA + MB)) := by show _ = _; rw [List.length_append, HFA.out, HFB.out]; omega
    have dA : gR < wc.heap.size := HB10.out.low (gR, .cells (SA FA) 26 (0, 0)) (by simp)
    clear hblA HO2 HO1 hg1 hg2 HBA HBB hs7 HB11 HB10 hszA HsW HsO HlowB holdB
    generalize FA ++ FB = FF at *
    generalize hMM : MA + MB = MM at *
    have hMMb : MM ≤ 20000 := by omega
    have HMM := hid hMM
    clear hMM
    generalize wc.heap.size = s12 at *
    have HlowB := hid HB12.out.low
    have holdB := HB12.out.old.size
    have HB13 := hid (HB12.out.alloc (.cells #[] 26)).tail
    have HsA : Hid (∀ x, x ∈ blA → x ∈ blA ++ (blO ++ (blW ++ [(gR, .cells (SA FA) 26 (0, 0)), (gQ, .cells (SA FB) 26 (0, 0)), (gP, .cells (SA FA) 26 (0, 0))]))) := fun x hx => List.mem_append_left _ hx
    have dL : gR < wB.heap.size := HB12.out.low (gR, .cells (SA FA) 26 (0, 0)) (by simp)
    have hszA : wB.heap.size ≤ (wB.alloc (.cells #[] 26)).heap.size := by simp
    have h77 := fullL_len 77
    have HF77 := hid fun w => full_any 77 w
    generalize fullL 77 = f77 at *
    go_upto_region 14 with (first | (at_builtin; refine append_secs2 rfl _ _ rfl wB.heap.size 0 MM cA _ [] FF aA rfl rfl (Own.start (w := wB) (heap_alloc_new _ _) (Nat.le_refl _) (by simp)) (by rw [HFF.out]; omega) (HAl.out _ (HB13.out.sub HsA.out)) (by omega) hszA ?_; intro v3 wC HO3 hg3 _; have HBC := hid (HB13.out.append (Own.start (k := 128) (w := wB) (heap_alloc_new _ _) (Nat.le_refl _) (by simp)) hg3 HlowB.out holdB); have hs8 := hg3.size) | (go_at_call 16; refine (HF77.out _).mono ?_; rintro e wD ⟨rfl, hbD⟩; have HBD := hid ((HBC.out.call hbD).alloc (.cells (SA f77) 26)).tail; have HO5 := hid ((HO3.call hbD).call (Below.refl_call wD (.cells (SA f77) 26))); have hsD := hbD.size; have hsE : wD.heap.size ≤ (wD.alloc (.cells (SA f77) 26)).heap.size := by simp) | (refine slice_one rfl _ rfl f77 h77 rfl ?_) | (at_builtin; refine append_secs2 rfl _ _ rfl wB.heap.size (0 + MM) 1 1 v3 ([] ++ FF) f77 (some ⟨wD.heap.size, 0, none⟩) rfl rfl HO5.out h77 (row_bytes (heap_alloc_new _ _)) (by omega) (by omega) ?_; intro v4 wE HO4 hg4 _))
    rw [List.nil_append, Nat.zero_add] at HO4
    have HBE := hid (HBD.out.append HO5.out hg4 HlowB.out holdB)
    obtain ⟨gL, cL, curL, rfl, hcL, hgL, hcurL, HLn⟩ := HO4.blk1 (by omega)
    have HB14 := hid (HBE.out.more hcurL).regroup
    have HKal : Hid (∀ w', HB w ((gL, .cells curL 26 (0, 0)) :: (blA ++ blW)) w' → BytesAt w' aA FF) := fun w' h => HAl.out _ (h.sub (fun x hx => List.mem_cons_of_mem _ (List.mem_append_left _ hx)))
    have HKwa : Hid (∀ w', HB w ((gL, .cells curL 26 (0, 0)) :: (blA ++ blW)) w' → BytesAt w' aw FA) := fun w' h => HW.out _ (h.sub (fun x hx => List.mem_cons_of_mem _ (List.mem_append_right _ hx)))
    have HKle : Hid (∀ w', HB w ((gL, .cells curL 26 (0, 0)) :: (blA ++ blW)) w' → BytesAt w' (some ⟨gL, 0, none⟩) (FF ++ f77)) := fun w' h => HLn.out _ (h.get (List.mem_cons_self ..))
    have HKne : Hid (∀ x, x ∈ ((gL, .cells curL 26 (0, 0)) :: (blA ++ blW)) → gR < x.1) := List.forall_mem_cons.2 ⟨Nat.lt_of_lt_of_le dL hgL, fun x hx => (List.mem_append.1 hx).elim (fun h => Nat.lt_of_lt_of_le dA (HgeA.out x h)) (fun h => Nat.lt_of_lt_of_le dW (HgeW.out x h))⟩
    clear HlowB holdB HB13 HsA hszA hg3 HBC hs8 hbD HBD HO5 hsD hsE HO4 hg4 HBE hcurL HLn HO3 HB12 HgeA HgeO HgeW HW HO HAl
    generalize (gL, Obj.cells curL 26 (0, 0)) :: (blA ++ blW) = KK at *
    have HTF : Hid ((FF ++ f77).take (128 * MM) = FF) := by show _ = _; rw [← HFF.out, List.take_left]
    have HJL := hid fun w1 (h : HB w KK w1) => join_at n FF MM cL gL 0 w1 HFF (by omega) (by rw [← HTF.out]; exact bytes_take (HKle.out w1 h) _) _ (hid rfl)
    have HRJ := hid fun w1 (h : HB w KK w1) => rjoin_any n FF MM HFF aA cA w1 (by omega) (HKal.out w1 h)
    have hNM : joinN n MM ≤ 128 * MM := by unfold joinN; omega
    have HDN : Hid ((FF.take (joinN n MM)).length = joinN n MM) := by show _ = _; rw [List.length_take, HFF.out]; omega
    generalize joinN n MM = N at *
    have hk1 : (MM : Int) ≤ (cL : Int) := by omega
    have hk2 : ¬ cL = 0 := by omega
    have hk3 : MM ≤ cL := by omega
    go_wp2_with fail
    refine (HJL.out wE HB14.out.tail.tail.tail).mono ?_
    rintro e wF ⟨rfl, hcF, hbF⟩
    have dU : gR < wE.heap.size := HB14.out.low (gR, .cells (SA FA) 26 (0, 0)) (by simp)
    have HKU := hid HB14.out.tail.tail.tail.low
    have HB15 := hid ((HB14.out.call hbF).more hcF)
    clear hcF hbF HB14
    generalize wE.heap.size = gU at *
    go_wp2_with fail
    refine (HJL.out wF HB15.out.tail.tail.tail.tail).mono ?_
    rintro e wG ⟨rfl, hcG, hbG⟩
    have dV : gU < wF.heap.size := HB15.out.low (gU, _) (List.mem_cons_self ..)
    have HB16 := hid ((HB15.out.call hbG).more hcG)
    clear hcG hbG HB15 HJL
    generalize wF.heap.size = gV at *
    go_wp2_with fail
    refine (HRJ.out wG HB16.out.tail.tail.tail.tail.tail).mono ?_
    rintro e wH ⟨vH, rfl, hoH, hbH⟩
    have HB17 := hid (HB16.out.call hbH)
    obtain ⟨aH, cH, blH, rfl, hcH, hblH, HgeH, HHb⟩ := hoH.blk w HB17.out.old
    have HB17 := hid (HB17.out.join hblH)
    clear hoH hbH hblH HB16 HRJ
    go_upto_region 17 with fail
    go_cut [137] (fun x wc => x = .bool false ∧ Hid (HB w ((gV, .cells (SA (FF.take N)) 5 (0, 0)) :: (gU, .cells (SA (FF.take N)) 5 (0, 0)) :: (gP, .cells (SA FA) 26 (0, 0)) :: (gQ, .cells (SA FB) 26 (0, 0)) :: (gR, .cells (SA FA) 26 (0, 0)) :: KK) wc))
    case first =>
      have hq := eq_sec f77 f77 h77 h77
      rw [decide_eq_true rfl] at hq
      have HFM : Hid (FF.length = MM * 128) := by show _ = _; rw [HFF.out]; omega
      have HsK : Hid (∀ x, x ∈ KK → x ∈ blH ++ ((gV, .cells (SA (FF.take N)) 5 (0, 0)) :: (gU, .cells (SA (FF.take N)) 5 (0, 0)) :: (gP, .cells (SA FA) 26 (0, 0)) :: (gQ, .cells (SA FB) 26 (0, 0)) :: (gR, .cells (SA FA) 26 (0, 0)) :: KK)) := fun x hx => List.mem_append_right _ (List.mem_cons_of_mem _ (List.mem_cons_of_mem _ (List.mem_cons_of_mem _ (List.mem_cons_of_mem _ (List.mem_cons_of_mem _ hx)))))
      have hk4 : (MM : Int) < (MM : Int) + 1 := by omega
      refine wp_region_noPanic ?_
      refine wp_region_held_drew (S := HB w (blH ++ ((gV, .cells (SA (FF.take N)) 5 (0, 0)) :: (gU, .cells (SA (FF.take N)) 5 (0, 0)) :: (gP, .cells (SA FA) 26 (0, 0)) :: (gQ, .cells (SA FB) 26 (0, 0)) :: (gR, .cells (SA FA) 26 (0, 0)) :: KK))) (by kernel_rfl) HB17.out.drew (fun hHeld => ?_)
      refine takeVal 0 108 (.slice (some ⟨gU, 0, none⟩) N N) rfl (by kernel_rfl) (by kernel_rfl) (by kernel_rfl) rfl (by rfl) (fun _ _ _ h => h) hHeld (fun _ hw' => rfl) ?_
      simp only [List.setIfInBounds_toArray, List.set_cons_zero, List.set_cons_succ]
      refine takeVal 1 109 (.string (strOf (FF.take N))) rfl (by kernel_rfl) (by kernel_rfl) (by kernel_rfl) rfl (by rfl) (fun _ _ _ h => h) hHeld (fun _ hw' => by have hcv := conv_any _ (some ⟨gU, 0, none⟩) (FF.take N) N (row_bytes (t := 5) (hw'.get (g := gU) (by simp))); rw [HDN.out] at hcv; go_simp) ?_
      simp only [List.setIfInBounds_toArray, List.set_cons_zero, List.set_cons_succ]
      refine takeVal 2 110 (.slice aH N cH) rfl (by kernel_rfl) (by kernel_rfl) (by kernel_rfl) rfl (by rfl) (fun _ _ _ h => h) hHeld (fun _ hw' => rfl) ?_
      simp only [List.setIfInBounds_toArray, List.set_cons_zero, List.set_cons_succ]
      refine takeVal 3 111 (.string (strOf (FF.take N))) rfl (by kernel_rfl) (by kernel_rfl) (by kernel_rfl) rfl (by rfl) (fun _ _ _ h => h) hHeld (fun _ hw' => by have hcv := conv_any _ (aH) (FF.take N) cH (HHb.out _ (hw'.sub (fun x hx => List.mem_append_left _ hx))); rw [HDN.out] at hcv; go_simp) ?_
      simp only [List.setIfInBounds_toArray, List.set_cons_zero, List.set_cons_succ]
      refine takeVal 4 112 (.bool false) rfl (by kernel_rfl) (by kernel_rfl) (by kernel_rfl) rfl (by rfl) (fun _ _ _ h => h) hHeld (fun _ hw' => by go_simp) ?_
      simp only [List.setIfInBounds_toArray, List.set_cons_zero, List.set_cons_succ]
      refine takeVal 5 113 (.bool false) rfl (by kernel_rfl) (by kernel_rfl) (by kernel_rfl) rfl (by rfl) (fun _ _ _ h => h) hHeld (fun _ hw' => rfl) ?_
      simp only [List.setIfInBounds_toArray, List.set_cons_zero, List.set_cons_succ]
      refine takeVal 6 114 (.slice (some ⟨gV, 0, none⟩) N N) rfl (by kernel_rfl) (by kernel_rfl) (by kernel_rfl) rfl (by rfl) (fun _ _ _ h => h) hHeld (fun _ hw' => rfl) ?_
      simp only [List.setIfInBounds_toArray, List.set_cons_zero, List.set_cons_succ]
      refine takeVal 7 115 (.string (strOf (FF.take N))) rfl (by kernel_rfl) (by kernel_rfl) (by kernel_rfl) rfl (by rfl) (fun _ _ _ h => h) hHeld (fun _ hw' => by have hcv := conv_any _ (some ⟨gV, 0, none⟩) (FF.take N) N (row_bytes (t := 5) (hw'.get (g := gV) (by simp))); rw [HDN.out] at hcv; go_simp) ?_
      simp only [List.setIfInBounds_toArray, List.set_cons_zero, List.set_cons_succ]
      refine takeVal 8 116 (.slice aH N cH) rfl (by kernel_rfl) (by kernel_rfl) (by kernel_rfl) rfl (by rfl) (fun _ _ _ h => h) hHeld (fun _ hw' => rfl) ?_
      simp only [List.setIfInBounds_toArray, List.set_cons_zero, List.set_cons_succ]
      refine takeVal 9 117 (.string (strOf (FF.take N))) rfl (by kernel_rfl) (by kernel_rfl) (by kernel_rfl) rfl (by rfl) (fun _ _ _ h => h) hHeld (fun _ hw' => by have hcv := conv_any _ (aH) (FF.take N) cH (HHb.out _ (hw'.sub (fun x hx => List.mem_append_left _ hx))); rw [HDN.out] at hcv; go_simp) ?_
      simp only [List.setIfInBounds_toArray, List.set_cons_zero, List.set_cons_succ]
      refine takeVal 10 118 (.bool false) rfl (by kernel_rfl) (by kernel_rfl) (by kernel_rfl) rfl (by rfl) (fun _ _ _ h => h) hHeld (fun _ hw' => by go_simp) ?_
      simp only [List.setIfInBounds_toArray, List.set_cons_zero, List.set_cons_succ]
      refine takeVal 11 119 (.bool false) rfl (by kernel_rfl) (by kernel_rfl) (by kernel_rfl) rfl (by rfl) (fun _ _ _ h => h) hHeld (fun _ hw' => by go_simp) ?_
      simp only [List.setIfInBounds_toArray, List.set_cons_zero, List.set_cons_succ]
      refine takeVal 12 120 (.bool false) rfl (by kernel_rfl) (by kernel_rfl) (by kernel_rfl) rfl (by rfl) (fun _ _ _ h => h) hHeld (fun _ hw' => rfl) ?_
      simp only [List.setIfInBounds_toArray, List.set_cons_zero, List.set_cons_succ]
      refine takeVal 13 121 (.slice (some ⟨gL, 0, none⟩) (MM + 1) cL) rfl (by kernel_rfl) (by kernel_rfl) (by kernel_rfl) rfl (by rfl) (fun _ _ _ h => h) hHeld (fun _ hw' => rfl) ?_
      simp only [List.setIfInBounds_toArray, List.set_cons_zero, List.set_cons_succ]
      refine takeVal 14 122 (.slice aA MM cA) rfl (by kernel_rfl) (by kernel_rfl) (by kernel_rfl) rfl (by rfl) (fun _ _ _ h => h) hHeld (fun _ hw' => rfl) ?_
      simp only [List.setIfInBounds_toArray, List.set_cons_zero, List.set_cons_succ]
      refine takeVal 15 123 (.int .i64 (MM : Int)) rfl (by kernel_rfl) (by kernel_rfl) (by kernel_rfl) rfl (by rfl) (fun _ _ _ h => h) hHeld (fun _ hw' => by go_simp) ?_
      simp only [List.setIfInBounds_toArray, List.set_cons_zero, List.set_cons_succ]
      refine takeVal 16 124 (.slice (some ⟨gL, 0, none⟩) MM cL) rfl (by kernel_rfl) (by kernel_rfl) (by kernel_rfl) rfl (by rfl) (fun _ _ _ h => h) hHeld (fun _ hw' => by go_simp) ?_
      simp only [List.setIfInBounds_toArray, List.set_cons_zero, List.set_cons_succ]
      refine takeVal 17 125 (.slice aA MM cA) rfl (by kernel_rfl) (by kernel_rfl) (by kernel_rfl) rfl (by rfl) (fun _ _ _ h => h) hHeld (fun _ hw' => rfl) ?_
      simp only [List.setIfInBounds_toArray, List.set_cons_zero, List.set_cons_succ]
      refine step1 18 (by kernel_rfl) ?_
      refine stCall 18 126 15 #[.slice (some ⟨gL, 0, none⟩) MM cL, .slice aA MM cA] _ rfl rfl (by rfl) (by go_simp) (same_any FF MM (some ⟨gL, 0, none⟩) aA cL cA _ HFF.out (by omega) (by rw [← HTF.out]; exact bytes_take (HKle.out _ (hHeld.sub HsK.out)) _) (HKal.out _ (hHeld.sub HsK.out))) ?_
      rintro e wI ⟨rfl, nd, rfl⟩
      refine ⟨_, rfl, hHeld.drewN, ?_⟩
      have hHeld := hHeld.drewN (n := nd)
      simp only [List.setIfInBounds_toArray, List.set_cons_zero, List.set_cons_succ]
      refine takeVal 19 127 (.bool false) rfl (by kernel_rfl) (by kernel_rfl) (by kernel_rfl) rfl (by rfl) (fun _ _ _ h => h) hHeld (fun _ hw' => by go_simp) ?_
      simp only [List.setIfInBounds_toArray, List.set_cons_zero, List.set_cons_succ]
      refine takeVal 20 128 (.bool false) rfl (by kernel_rfl) (by kernel_rfl) (by kernel_rfl) rfl (by rfl) (fun _ _ _ h => h) hHeld (fun _ hw' => by go_simp) ?_
      simp only [List.setIfInBounds_toArray, List.set_cons_zero, List.set_cons_succ]
      refine takeVal 21 129 (.bool false) rfl (by kernel_rfl) (by kernel_rfl) (by kernel_rfl) rfl (by rfl) (fun _ _ _ h => h) hHeld (fun _ hw' => rfl) ?_
      simp only [List.setIfInBounds_toArray, List.set_cons_zero, List.set_cons_succ]
      refine takeVal 22 130 (.slice (some ⟨gL, 0, none⟩) (MM + 1) cL) rfl (by kernel_rfl) (by kernel_rfl) (by kernel_rfl) rfl (by rfl) (fun _ _ _ h => h) hHeld (fun _ hw' => rfl) ?_
      simp only [List.setIfInBounds_toArray, List.set_cons_zero, List.set_cons_succ]
      refine takeVal 23 131 (.slice aA MM cA) rfl (by kernel_rfl) (by kernel_rfl) (by kernel_rfl) rfl (by rfl) (fun _ _ _ h => h) hHeld (fun _ hw' => rfl) ?_
      simp only [List.setIfInBounds_toArray, List.set_cons_zero, List.set_cons_succ]
      refine takeVal 24 132 (.int .i64 (MM : Int)) rfl (by kernel_rfl) (by kernel_rfl) (by kernel_rfl) rfl (by rfl) (fun _ _ _ h => h) hHeld (fun _ hw' => by go_simp) ?_
      simp only [List.setIfInBounds_toArray, List.set_cons_zero, List.set_cons_succ]
      refine takeVal 25 133 (.pointer (some ⟨gL, MM * 128, none⟩)) rfl (by kernel_rfl) (by kernel_rfl) (by kernel_rfl) rfl (by rfl) (fun _ _ _ h => h) hHeld (fun _ hw' => by go_simp) ?_
      simp only [List.setIfInBounds_toArray, List.set_cons_zero, List.set_cons_succ]
      refine takeMidL 26 134 (.tmp 133) gL (MM * 128) f77 h77 rfl (by kernel_rfl) (by kernel_rfl) (by kernel_rfl) rfl rfl rfl (by rfl) (fun _ _ _ h => h) hHeld (fun _ h => range_behind (HKle.out _ (h.sub HsK.out)) HFM.out) ?_
      simp only [List.setIfInBounds_toArray, List.set_cons_zero, List.set_cons_succ]
      refine step1 27 (by kernel_rfl) ?_
      refine stCall 27 135 16 #[.int .u8 77] _ rfl rfl (by rfl) (by go_simp) (HF77.out _) ?_
      rintro e wJ ⟨rfl, hbJ⟩
      refine ⟨_, rfl, hHeld.call hbJ, ?_⟩
      have hHeld := hHeld.call hbJ
      simp only [List.setIfInBounds_toArray, List.set_cons_zero, List.set_cons_succ]
      refine takeVal 28 136 (.bool false) rfl (by kernel_rfl) (by kernel_rfl) (by kernel_rfl) rfl (by rfl) (fun _ _ _ h => h) hHeld (fun _ hw' => by go_simp) ?_
      simp only [List.setIfInBounds_toArray, List.set_cons_zero, List.set_cons_succ]
      refine takeVal 29 137 (.bool false) rfl (by kernel_rfl) (by kernel_rfl) (by kernel_rfl) rfl (by rfl) (fun _ _ _ h => h) hHeld (fun _ hw' => by go_simp) ?_
      simp only [List.setIfInBounds_toArray, List.set_cons_zero, List.set_cons_succ]
      refine wpAnyH_done (by kernel_rfl) ?_ _
      refine NoPanic.normal ?_
      go_wp2_with fail
      go_meet
      case rel => exact ⟨rfl, hid (hHeld.sub (fun x hx => List.mem_append_right _ hx))⟩
    case rest =>
      obtain ⟨rfl, HB18⟩ := hcut
      clear HB17 HHb HgeH
      go_upto_block 0 with fail
      have HNgP : Hid (∀ y, y ∈ (gQ, .cells (SA FB) 26 (0, 0)) :: (gR, .cells (SA FA) 26 (0, 0)) :: (gV, .cells (SA (FF.take N)) 5 (0, 0)) :: (gU, .cells (SA (FF.take N)) 5 (0, 0)) :: KK → y.1 ≠ gP) := List.forall_mem_cons.2 ⟨by omega, List.forall_mem_cons.2 ⟨by omega, List.forall_mem_cons.2 ⟨by omega, List.forall_mem_cons.2 ⟨by omega, fun x hx => Nat.ne_of_gt (Nat.lt_of_le_of_lt (by omega) (HKne.out x hx))⟩⟩⟩⟩
      go_cut [19] (fun _ wc => Hid (HB w ((gP, .cells (SA (rep 1 (128 * MA))) 26 (0, 0)) :: (gQ, .cells (SA FB) 26 (0, 0)) :: (gR, .cells (SA FA) 26 (0, 0)) :: (gV, .cells (SA (FF.take N)) 5 (0, 0)) :: (gU, .cells (SA (FF.take N)) 5 (0, 0)) :: KK) wc))
      case first =>
        have HBx := hid (HB18.out.rot5.rot5)
        go_wp2_with fail
        go_loopw [19] (fun i wr => ∃ k : Nat, k ≤ MA ∧ i = .int .i64 k ∧ Hid (HB w ((gP, .cells (SA (markK 1 FA (k * 128))) 26 (0, 0)) :: (gQ, .cells (SA FB) 26 (0, 0)) :: (gR, .cells (SA FA) 26 (0, 0)) :: (gV, .cells (SA (FF.take N)) 5 (0, 0)) :: (gU, .cells (SA (FF.take N)) 5 (0, 0)) :: KK) wr)) (fun i _ => MA - (intOf i).toNat)
        case atStart => exact ⟨0, by omega, rfl, by rw [Nat.zero_mul, markK_zero]; exact HBx⟩
        case round =>
          clear HBx
          obtain ⟨k, hk, rfl, HR⟩ := hrel
          by_cases hlt : k < MA
          · have HMO := hid (markK_over 1 FA (k * 128) (by rw [HFA.out]; omega))
            have HML := hid (markK_len 1 FA (k * 128) (by rw [HFA.out]; omega))
            have HFL := hid (fullL_len 1)
            have HFU := hid fun w => full_any 1 w
            generalize fullL 1 = fx at *
            go_wp2_with (first | (go_at_call 16; refine (HFU.out _).mono ?_; rintro e wa ⟨rfl, hba⟩; have HRa := hid (HR.out.call hba)) | (refine store_mid rfl _ _ rfl gP (k * 128) rfl fx rfl HFL.out 26 (markK 1 FA (k * 128)) (HRa.out.get (List.mem_cons_self ..)) (by rw [HML.out, HFA.out]; omega) ?_; intro wb hwb))
            rw [HMO.out] at hwb
            exact ⟨⟨k + 1, by omega, by go_num, by rw [show (k + 1) * 128 = k * 128 + 128 by omega]; exact HRa.out.wroteH hwb (by omega) HNgP.out⟩, by simp [intOf]; omega⟩
          · have HME : Hid (markK 1 FA (k * 128) = rep 1 (128 * MA)) := by show _ = _; rw [show k * 128 = FA.length by rw [HFA.out]; omega, markK_end, HFA.out]
            rw [HME.out] at HR
            go_wp2_with fail
            go_meet
            case rel => exact HR
      case rest =>
        have HB19 := hcut
        clear hcut HB18 HNgP
        go_upto_block 2 with fail
        have HNgQ : Hid (∀ y, y ∈ (gR, .cells (SA FA) 26 (0, 0)) :: (gV, .cells (SA (FF.take N)) 5 (0, 0)) :: (gU, .cells (SA (FF.take N)) 5 (0, 0)) :: (gP, .cells (SA (rep 1 (128 * MA))) 26 (0, 0)) :: KK → y.1 ≠ gQ) := List.forall_mem_cons.2 ⟨by omega, List.forall_mem_cons.2 ⟨by omega, List.forall_mem_cons.2 ⟨by omega, List.forall_mem_cons.2 ⟨by omega, fun x hx => Nat.ne_of_gt (Nat.lt_of_le_of_lt (by omega) (HKne.out x hx))⟩⟩⟩⟩
        go_cut [20] (fun _ wc => Hid (HB w ((gQ, .cells (SA (rep 2 (128 * MB))) 26 (0, 0)) :: (gR, .cells (SA FA) 26 (0, 0)) :: (gV, .cells (SA (FF.take N)) 5 (0, 0)) :: (gU, .cells (SA (FF.take N)) 5 (0, 0)) :: (gP, .cells (SA (rep 1 (128 * MA))) 26 (0, 0)) :: KK) wc))
        case first =>
          have HBx := hid (HB19.out.rot5)
          go_wp2_with fail
          go_loopw [20] (fun i wr => ∃ k : Nat, k ≤ MB ∧ i = .int .i64 k ∧ Hid (HB w ((gQ, .cells (SA (markK 2 FB (k * 128))) 26 (0, 0)) :: (gR, .cells (SA FA) 26 (0, 0)) :: (gV, .cells (SA (FF.take N)) 5 (0, 0)) :: (gU, .cells (SA (FF.take N)) 5 (0, 0)) :: (gP, .cells (SA (rep 1 (128 * MA))) 26 (0, 0)) :: KK) wr)) (fun i _ => MB - (intOf i).toNat)
          case atStart => exact ⟨0, by omega, rfl, by rw [Nat.zero_mul, markK_zero]; exact HBx⟩
          case round =>
            clear HBx
            obtain ⟨k, hk, rfl, HR⟩ := hrel
            by_cases hlt : k < MB
            · have HMO := hid (markK_over 2 FB (k * 128) (by rw [HFB.out]; omega))
              have HML := hid (markK_len 2 FB (k * 128) (by rw [HFB.out]; omega))
              have HFL := hid (fullL_len 2)
              have HFU := hid fun w => full_any 2 w
              generalize fullL 2 = fx at *
              go_wp2_with (first | (go_at_call 16; refine (HFU.out _).mono ?_; rintro e wa ⟨rfl, hba⟩; have HRa := hid (HR.out.call hba)) | (refine store_mid rfl _ _ rfl gQ (k * 128) rfl fx rfl HFL.out 26 (markK 2 FB (k * 128)) (HRa.out.get (List.mem_cons_self ..)) (by rw [HML.out, HFB.out]; omega) ?_; intro wb hwb))
              rw [HMO.out] at hwb
              exact ⟨⟨k + 1, by omega, by go_num, by rw [show (k + 1) * 128 = k * 128 + 128 by omega]; exact HRa.out.wroteH hwb (by omega) HNgQ.out⟩, by simp [intOf]; omega⟩
            · have HME : Hid (markK 2 FB (k * 128) = rep 2 (128 * MB)) := by show _ = _; rw [show k * 128 = FB.length by rw [HFB.out]; omega, markK_end, HFB.out]
              rw [HME.out] at HR
              go_wp2_with fail
              go_meet
              case rel => exact HR
        case rest =>
          have HB20 := hcut
          clear hcut HB19 HNgQ
          go_upto_block 4 with fail
          have HNgR : Hid (∀ y, y ∈ (gV, .cells (SA (FF.take N)) 5 (0, 0)) :: (gU, .cells (SA (FF.take N)) 5 (0, 0)) :: (gP, .cells (SA (rep 1 (128 * MA))) 26 (0, 0)) :: (gQ, .cells (SA (rep 2 (128 * MB))) 26 (0, 0)) :: KK → y.1 ≠ gR) := List.forall_mem_cons.2 ⟨by omega, List.forall_mem_cons.2 ⟨by omega, List.forall_mem_cons.2 ⟨by omega, List.forall_mem_cons.2 ⟨by omega, fun x hx => Nat.ne_of_gt (Nat.lt_of_le_of_lt (by omega) (HKne.out x hx))⟩⟩⟩⟩
          go_cut [21] (fun _ wc => Hid (HB w ((gR, .cells (SA (rep 3 (128 * MA))) 26 (0, 0)) :: (gV, .cells (SA (FF.take N)) 5 (0, 0)) :: (gU, .cells (SA (FF.take N)) 5 (0, 0)) :: (gP, .cells (SA (rep 1 (128 * MA))) 26 (0, 0)) :: (gQ, .cells (SA (rep 2 (128 * MB))) 26 (0, 0)) :: KK) wc))
          case first =>
            have HBx := hid (HB20.out.rot5)
            go_wp2_with fail
            go_loopw [21] (fun i wr => ∃ k : Nat, k ≤ MA ∧ i = .int .i64 k ∧ Hid (HB w ((gR, .cells (SA (markK 3 FA (k * 128))) 26 (0, 0)) :: (gV, .cells (SA (FF.take N)) 5 (0, 0)) :: (gU, .cells (SA (FF.take N)) 5 (0, 0)) :: (gP, .cells (SA (rep 1 (128 * MA))) 26 (0, 0)) :: (gQ, .cells (SA (rep 2 (128 * MB))) 26 (0, 0)) :: KK) wr)) (fun i _ => MA - (intOf i).toNat)
            case atStart => exact ⟨0, by omega, rfl, by rw [Nat.zero_mul, markK_zero]; exact HBx⟩
            case round =>
              clear HBx
              obtain ⟨k, hk, rfl, HR⟩ := hrel
              by_cases hlt : k < MA
              · have HMO := hid (markK_over 3 FA (k * 128) (by rw [HFA.out]; omega))
                have HML := hid (markK_len 3 FA (k * 128) (by rw [HFA.out]; omega))
                have HFL := hid (fullL_len 3)
                have HFU := hid fun w => full_any 3 w
                generalize fullL 3 = fx at *
                go_wp2_with (first | (go_at_call 16; refine (HFU.out _).mono ?_; rintro e wa ⟨rfl, hba⟩; have HRa := hid (HR.out.call hba)) | (refine store_mid rfl _ _ rfl gR (k * 128) rfl fx rfl HFL.out 26 (markK 3 FA (k * 128)) (HRa.out.get (List.mem_cons_self ..)) (by rw [HML.out, HFA.out]; omega) ?_; intro wb hwb))
                rw [HMO.out] at hwb
                exact ⟨⟨k + 1, by omega, by go_num, by rw [show (k + 1) * 128 = k * 128 + 128 by omega]; exact HRa.out.wroteH hwb (by omega) HNgR.out⟩, by simp [intOf]; omega⟩
              · have HME : Hid (markK 3 FA (k * 128) = rep 3 (128 * MA)) := by show _ = _; rw [show k * 128 = FA.length by rw [HFA.out]; omega, markK_end, HFA.out]
                rw [HME.out] at HR
                go_wp2_with fail
                go_meet
                case rel => exact HR
          case rest =>
            have HB21 := hcut
            clear hcut HB20 HNgR
            go_upto_block 6 with fail
            have HNgU : Hid (∀ y, y ∈ (gP, .cells (SA (rep 1 (128 * MA))) 26 (0, 0)) :: (gQ, .cells (SA (rep 2 (128 * MB))) 26 (0, 0)) :: (gR, .cells (SA (rep 3 (128 * MA))) 26 (0, 0)) :: (gV, .cells (SA (FF.take N)) 5 (0, 0)) :: KK → y.1 ≠ gU) := List.forall_mem_cons.2 ⟨by omega, List.forall_mem_cons.2 ⟨by omega, List.forall_mem_cons.2 ⟨by omega, List.forall_mem_cons.2 ⟨by omega, fun x hx => Nat.ne_of_lt (Nat.lt_of_lt_of_le (HKU.out x hx) (by omega))⟩⟩⟩⟩
            go_cut [22] (fun _ wc => Hid (HB w ((gU, .cells (SA (rep 4 N)) 5 (0, 0)) :: (gP, .cells (SA (rep 1 (128 * MA))) 26 (0, 0)) :: (gQ, .cells (SA (rep 2 (128 * MB))) 26 (0, 0)) :: (gR, .cells (SA (rep 3 (128 * MA))) 26 (0, 0)) :: (gV, .cells (SA (FF.take N)) 5 (0, 0)) :: KK) wc))
            case first =>
              have HBx := hid (HB21.out.rot5.rot5)
              go_wp2_with fail
              go_loopw [22] (fun i wr => ∃ k : Nat, k ≤ N ∧ i = .int .i64 k ∧ Hid (HB w ((gU, .cells (SA (markK 4 (FF.take N) k)) 5 (0, 0)) :: (gP, .cells (SA (rep 1 (128 * MA))) 26 (0, 0)) :: (gQ, .cells (SA (rep 2 (128 * MB))) 26 (0, 0)) :: (gR, .cells (SA (rep 3 (128 * MA))) 26 (0, 0)) :: (gV, .cells (SA (FF.take N)) 5 (0, 0)) :: KK) wr)) (fun i _ => N - (intOf i).toNat)
              case atStart => exact ⟨0, by omega, rfl, by rw [markK_zero]; exact HBx⟩
              case round =>
                clear HBx
                obtain ⟨k, hk, rfl, HR⟩ := hrel
                by_cases hlt : k < N
                · have HMS := hid (markK_set 4 (FF.take N) k (by rw [HDN.out]; omega))
                  have hg : wr.heap[gU]? = some (.cells (SA (markK 4 (FF.take N) k)) 5 (0, 0)) := HR.out.get (List.mem_cons_self ..)
                  have hc := sec_cell hg k (by rw [markK_len _ _ _ (by rw [HDN.out]; omega), HDN.out]; exact hlt)
                  have hf := sec_free hg k
                  have HW2 := hid (row_setCell hg k 4)
                  clear hg
                  generalize (markK 4 (FF.take N) k).getD k 0 = old at hc
                  rw [HMS.out] at HW2
                  go_wp2_with fail
                  exact ⟨⟨k + 1, by omega, by go_num, HR.out.wroteH HW2.out (by omega) HNgU.out⟩, by simp [intOf]; omega⟩
                · have HME : Hid (markK 4 (FF.take N) k = rep 4 N) := by show _ = _; rw [show k = (FF.take N).length by rw [HDN.out]; omega, markK_end, HDN.out]
                  rw [HME.out] at HR
                  go_wp2_with fail
                  go_meet
                  case rel => exact HR
            case rest =>
              have HB22 := hcut
              clear hcut HB21 HNgU
              go_upto_block 8 with fail
              have HNgV : Hid (∀ y, y ∈ (gU, .cells (SA (rep 4 N)) 5 (0, 0)) :: (gP, .cells (SA (rep 1 (128 * MA))) 26 (0, 0)) :: (gQ, .cells (SA (rep 2 (128 * MB))) 26 (0, 0)) :: (gR, .cells (SA (rep 3 (128 * MA))) 26 (0, 0)) :: KK → y.1 ≠ gV) := List.forall_mem_cons.2 ⟨by omega, List.forall_mem_cons.2 ⟨by omega, List.forall_mem_cons.2 ⟨by omega, List.forall_mem_cons.2 ⟨by omega, fun x hx => Nat.ne_of_lt (Nat.lt_of_lt_of_le (HKU.out x hx) (by omega))⟩⟩⟩⟩
              go_cut [23] (fun _ wc => Hid (HB w ((gV, .cells (SA (rep 5 N)) 5 (0, 0)) :: (gU, .cells (SA (rep 4 N)) 5 (0, 0)) :: (gP, .cells (SA (rep 1 (128 * MA))) 26 (0, 0)) :: (gQ, .cells (SA (rep 2 (128 * MB))) 26 (0, 0)) :: (gR, .cells (SA (rep 3 (128 * MA))) 26 (0, 0)) :: KK) wc))
              case first =>
                have HBx := hid (HB22.out.rot5.rot5.rot5.rot5)
                go_wp2_with fail
                go_loopw [23] (fun i wr => ∃ k : Nat, k ≤ N ∧ i = .int .i64 k ∧ Hid (HB w ((gV, .cells (SA (markK 5 (FF.take N) k)) 5 (0, 0)) :: (gU, .cells (SA (rep 4 N)) 5 (0, 0)) :: (gP, .cells (SA (rep 1 (128 * MA))) 26 (0, 0)) :: (gQ, .cells (SA (rep 2 (128 * MB))) 26 (0, 0)) :: (gR, .cells (SA (rep 3 (128 * MA))) 26 (0, 0)) :: KK) wr)) (fun i _ => N - (intOf i).toNat)
                case atStart => exact ⟨0, by omega, rfl, by rw [markK_zero]; exact HBx⟩
                case round =>
                  clear HBx
                  obtain ⟨k, hk, rfl, HR⟩ := hrel
                  by_cases hlt : k < N
                  · have HMS := hid (markK_set 5 (FF.take N) k (by rw [HDN.out]; omega))
                    have hg : wr.heap[gV]? = some (.cells (SA (markK 5 (FF.take N) k)) 5 (0, 0)) := HR.out.get (List.mem_cons_self ..)
                    have hc := sec_cell hg k (by rw [markK_len _ _ _ (by rw [HDN.out]; omega), HDN.out]; exact hlt)
                    have hf := sec_free hg k
                    have HW2 := hid (row_setCell hg k 5)
                    clear hg
                    generalize (markK 5 (FF.take N) k).getD k 0 = old at hc
                    rw [HMS.out] at HW2
                    go_wp2_with fail
                    exact ⟨⟨k + 1, by omega, by go_num, HR.out.wroteH HW2.out (by omega) HNgV.out⟩, by simp [intOf]; omega⟩
                  · have HME : Hid (markK 5 (FF.take N) k = rep 5 N) := by show _ = _; rw [show k = (FF.take N).length by rw [HDN.out]; omega, markK_end, HDN.out]
                    rw [HME.out] at HR
                    go_wp2_with fail
                    go_meet
                    case rel => exact HR
              case rest =>
                have HB23 := hcut
                clear hcut HB22 HNgV
                go_upto_region 39 with fail
                have HF1 := hid fun w => full_any 1 w
                have HFL1 := hid (fullL_len 1)
                have HFR1 := hid (rep_two 1 MA)
                generalize fullL 1 = f1 at *
                have HFS1 : Hid ((f1 ++ f1).length = 2 * 128) := by show _ = _; rw [List.length_append, HFL1.out]
                have HBr1 := hid (HB23.out.rot5.rot5)
                have HA1 : Hid (Apart w ((gQ, .cells (SA (rep 2 (128 * MB))) 26 (0, 0)) :: (gR, .cells (SA (rep 3 (128 * MA))) 26 (0, 0)) :: (gV, .cells (SA (rep 5 N)) 5 (0, 0)) :: (gU, .cells (SA (rep 4 N)) 5 (0, 0)) :: KK) (.slice (some ⟨gP, 0, none⟩) MA MA)) := apart_row (by omega) (List.forall_mem_cons.2 ⟨by omega, List.forall_mem_cons.2 ⟨by omega, List.forall_mem_cons.2 ⟨by omega, List.forall_mem_cons.2 ⟨by omega, fun x hx => Nat.ne_of_gt (Nat.lt_of_le_of_lt (by omega) (HKne.out x hx))⟩⟩⟩⟩)
                have HRL1 : Hid ((rep 1 (128 * MA)).length = MA * 128) := by show _ = _; rw [rep_len]; omega
                go_upto_region 40 with (first | (go_at_call 16; refine (HF1.out _).mono ?_; rintro e wa1 ⟨rfl, hba1⟩; have HBa1 := hid (HBr1.out.call hba1); clear HBr1; have HBr1 := HBa1; clear HBa1) | (refine slice_two rfl _ _ rfl f1 f1 HFL1.out HFL1.out rfl rfl ?_; have HBs1 := hid (HBr1.out.alloc (.cells (SA (f1 ++ f1)) 26)).tail) | (at_builtin; refine append_secs2 rfl _ _ rfl w.heap.size MA 2 2 _ (rep 1 (128 * MA)) (f1 ++ f1) (some ⟨_, 0, none⟩) rfl rfl (own_row (HBs1.out.get (List.mem_cons_self ..)) (by omega) HRL1.out (by unfold maxLen; omega)) HFS1.out (row_bytes (heap_alloc_new _ _)) (by omega) HBs1.out.old.size ?_; intro v1 w1 HO1 hg1 hat1))
                rw [HFR1.out] at HO1
                have HC1 := hid (HBs1.out.tail.app hg1 HA1.out)
                have HP1 := hid (HA1.out.next HBs1.out.tail hat1)
                obtain ⟨gA1, cA1, cur1, rfl, hcA1, hgA1, hcur1, HM1⟩ := HO1.blk1 (by omega)
                have HB24 := hid (HC1.out.more hcur1)
                have HQ1 := hid HP1.out.ne
                clear HC1 HP1 hcur1 HBs1 hat1 hg1 HO1 HF1 HFL1 HFR1 HFS1 HA1 HRL1 HB23
                have e11 : gQ ≠ gA1 := HQ1.out _ (List.mem_cons_self ..)
                have e12 : gR ≠ gA1 := HQ1.out _ (List.mem_cons_of_mem _ (List.mem_cons_self ..))
                have e13 : gV ≠ gA1 := HQ1.out _ (List.mem_cons_of_mem _ (List.mem_cons_of_mem _ (List.mem_cons_self ..)))
                have e14 : gU ≠ gA1 := HQ1.out _ (List.mem_cons_of_mem _ (List.mem_cons_of_mem _ (List.mem_cons_of_mem _ (List.mem_cons_self ..))))
                have HF2 := hid fun w => full_any 2 w
                have HFL2 := hid (fullL_len 2)
                have HFR2 := hid (rep_two 2 MB)
                generalize fullL 2 = f2 at *
                have HFS2 : Hid ((f2 ++ f2).length = 2 * 128) := by show _ = _; rw [List.length_append, HFL2.out]
                have HBr2 := hid (HB24.out.rot5)
                have HA2 : Hid (Apart w ((gR, .cells (SA (rep 3 (128 * MA))) 26 (0, 0)) :: (gV, .cells (SA (rep 5 N)) 5 (0, 0)) :: (gU, .cells (SA (rep 4 N)) 5 (0, 0)) :: (gA1, .cells cur1 26 (0, 0)) :: KK) (.slice (some ⟨gQ, 0, none⟩) MB MB)) := apart_row (by omega) (List.forall_mem_cons.2 ⟨by omega, List.forall_mem_cons.2 ⟨by omega, List.forall_mem_cons.2 ⟨by omega, List.forall_mem_cons.2 ⟨by omega, fun x hx => Nat.ne_of_gt (Nat.lt_of_le_of_lt (by omega) (HKne.out x hx))⟩⟩⟩⟩)
                have HRL2 : Hid ((rep 2 (128 * MB)).length = MB * 128) := by show _ = _; rw [rep_len]; omega
                go_upto_region 41 with (first | (go_at_call 16; refine (HF2.out _).mono ?_; rintro e wa2 ⟨rfl, hba2⟩; have HBa2 := hid (HBr2.out.call hba2); clear HBr2; have HBr2 := HBa2; clear HBa2) | (refine slice_two rfl _ _ rfl f2 f2 HFL2.out HFL2.out rfl rfl ?_; have HBs2 := hid (HBr2.out.alloc (.cells (SA (f2 ++ f2)) 26)).tail) | (at_builtin; refine append_secs2 rfl _ _ rfl w.heap.size MB 2 2 _ (rep 2 (128 * MB)) (f2 ++ f2) (some ⟨_, 0, none⟩) rfl rfl (own_row (HBs2.out.get (List.mem_cons_self ..)) (by omega) HRL2.out (by unfold maxLen; omega)) HFS2.out (row_bytes (heap_alloc_new _ _)) (by omega) HBs2.out.old.size ?_; intro v2 w2 HO2 hg2 hat2))
                rw [HFR2.out] at HO2
                have HC2 := hid (HBs2.out.tail.app hg2 HA2.out)
                have HP2 := hid (HA2.out.next HBs2.out.tail hat2)
                obtain ⟨gA2, cA2, cur2, rfl, hcA2, hgA2, hcur2, HM2⟩ := HO2.blk1 (by omega)
                have HB25 := hid (HC2.out.more hcur2)
                have HQ2 := hid HP2.out.ne
                clear HC2 HP2 hcur2 HBs2 hat2 hg2 HO2 HF2 HFL2 HFR2 HFS2 HA2 HRL2 HB24
                have e22 : gR ≠ gA2 := HQ2.out _ (List.mem_cons_self ..)
                have e23 : gV ≠ gA2 := HQ2.out _ (List.mem_cons_of_mem _ (List.mem_cons_self ..))
                have e24 : gU ≠ gA2 := HQ2.out _ (List.mem_cons_of_mem _ (List.mem_cons_of_mem _ (List.mem_cons_self ..)))
                have HF3 := hid fun w => full_any 3 w
                have HFL3 := hid (fullL_len 3)
                have HFR3 := hid (rep_two 3 MA)
                generalize fullL 3 = f3 at *
                have HFS3 : Hid ((f3 ++ f3).length = 2 * 128) := by show _ = _; rw [List.length_append, HFL3.out]
                have HBr3 := hid (HB25.out.rot5)
                have HA3 : Hid (Apart w ((gV, .cells (SA (rep 5 N)) 5 (0, 0)) :: (gU, .cells (SA (rep 4 N)) 5 (0, 0)) :: (gA1, .cells cur1 26 (0, 0)) :: (gA2, .cells cur2 26 (0, 0)) :: KK) (.slice (some ⟨gR, 0, none⟩) MA MA)) := apart_row (by omega) (List.forall_mem_cons.2 ⟨by omega, List.forall_mem_cons.2 ⟨by omega, List.forall_mem_cons.2 ⟨by omega, List.forall_mem_cons.2 ⟨by omega, fun x hx => Nat.ne_of_gt (Nat.lt_of_le_of_lt (by omega) (HKne.out x hx))⟩⟩⟩⟩)
                have HRL3 : Hid ((rep 3 (128 * MA)).length = MA * 128) := by show _ = _; rw [rep_len]; omega
                go_upto_region 42 with (first | (go_at_call 16; refine (HF3.out _).mono ?_; rintro e wa3 ⟨rfl, hba3⟩; have HBa3 := hid (HBr3.out.call hba3); clear HBr3; have HBr3 := HBa3; clear HBa3) | (refine slice_two rfl _ _ rfl f3 f3 HFL3.out HFL3.out rfl rfl ?_; have HBs3 := hid (HBr3.out.alloc (.cells (SA (f3 ++ f3)) 26)).tail) | (at_builtin; refine append_secs2 rfl _ _ rfl w.heap.size MA 2 2 _ (rep 3 (128 * MA)) (f3 ++ f3) (some ⟨_, 0, none⟩) rfl rfl (own_row (HBs3.out.get (List.mem_cons_self ..)) (by omega) HRL3.out (by unfold maxLen; omega)) HFS3.out (row_bytes (heap_alloc_new _ _)) (by omega) HBs3.out.old.size ?_; intro v3 w3 HO3 hg3 hat3))
                rw [HFR3.out] at HO3
                have HC3 := hid (HBs3.out.tail.app hg3 HA3.out)
                have HP3 := hid (HA3.out.next HBs3.out.tail hat3)
                obtain ⟨gA3, cA3, cur3, rfl, hcA3, hgA3, hcur3, HM3⟩ := HO3.blk1 (by omega)
                have HB26 := hid (HC3.out.more hcur3)
                have HQ3 := hid HP3.out.ne
                clear HC3 HP3 hcur3 HBs3 hat3 hg3 HO3 HF3 HFL3 HFR3 HFS3 HA3 HRL3 HB25
                have e33 : gV ≠ gA3 := HQ3.out _ (List.mem_cons_self ..)
                have e34 : gU ≠ gA3 := HQ3.out _ (List.mem_cons_of_mem _ (List.mem_cons_self ..))
                have HGG : Hid (GG w ((gA1, .cells cur1 26 (0, 0)) :: (gA2, .cells cur2 26 (0, 0)) :: (gA3, .cells cur3 26 (0, 0)) :: KK) N N (.slice (some ⟨gU, 0, none⟩) N N) (.slice (some ⟨gV, 0, none⟩) N N) w3) := ⟨HB26.out.rot5.tail.tail, own_row (HB26.out.rot5.get (List.mem_cons_of_mem _ (List.mem_cons_self ..))) (by omega) (by rw [rep_len]; omega) (by unfold maxLen; omega), own_row (HB26.out.rot5.get (List.mem_cons_self ..)) (by omega) (by rw [rep_len]; omega) (by unfold maxLen; omega), apart_row (by omega) (List.forall_mem_cons.2 ⟨by omega, List.forall_mem_cons.2 ⟨by omega, List.forall_mem_cons.2 ⟨by omega, fun x hx => Nat.ne_of_lt (Nat.lt_of_lt_of_le (HKU.out x hx) (by omega))⟩⟩⟩), apart_row (by omega) (List.forall_mem_cons.2 ⟨by omega, List.forall_mem_cons.2 ⟨by omega, List.forall_mem_cons.2 ⟨by omega, fun x hx => Nat.ne_of_lt (Nat.lt_of_lt_of_le (HKU.out x hx) (by omega))⟩⟩⟩), fun k hk hk2 => absurd (Option.some.inj (show some gV = some gU from hk2.trans hk.symm)) (by omega)⟩
                have HKal2 : Hid (∀ w', HB w ((gA1, .cells cur1 26 (0, 0)) :: (gA2, .cells cur2 26 (0, 0)) :: (gA3, .cells cur3 26 (0, 0)) :: KK) w' → BytesAt w' aA FF) := fun w' h => HKal.out w' h.tail.tail.tail
                have HKwa2 : Hid (∀ w', HB w ((gA1, .cells cur1 26 (0, 0)) :: (gA2, .cells cur2 26 (0, 0)) :: (gA3, .cells cur3 26 (0, 0)) :: KK) w' → BytesAt w' aw FA) := fun w' h => HKwa.out w' h.tail.tail.tail
                have HKle2 : Hid (∀ w', HB w ((gA1, .cells cur1 26 (0, 0)) :: (gA2, .cells cur2 26 (0, 0)) :: (gA3, .cells cur3 26 (0, 0)) :: KK) w' → BytesAt w' (some ⟨gL, 0, none⟩) (FF ++ f77)) := fun w' h => HKle.out w' h.tail.tail.tail
                have HMk1 : Hid (∀ w', HB w ((gA1, .cells cur1 26 (0, 0)) :: (gA2, .cells cur2 26 (0, 0)) :: (gA3, .cells cur3 26 (0, 0)) :: KK) w' → BytesAt w' (some ⟨gA1, 0, none⟩) (rep 1 (128 * (MA + 2)))) := fun w' h => HM1.out w' (h.get (List.mem_cons_self ..))
                have HMk2 : Hid (∀ w', HB w ((gA1, .cells cur1 26 (0, 0)) :: (gA2, .cells cur2 26 (0, 0)) :: (gA3, .cells cur3 26 (0, 0)) :: KK) w' → BytesAt w' (some ⟨gA2, 0, none⟩) (rep 2 (128 * (MB + 2)))) := fun w' h => HM2.out w' (h.get (List.mem_cons_of_mem _ (List.mem_cons_self ..)))
                have HMk3 : Hid (∀ w', HB w ((gA1, .cells cur1 26 (0, 0)) :: (gA2, .cells cur2 26 (0, 0)) :: (gA3, .cells cur3 26 (0, 0)) :: KK) w' → BytesAt w' (some ⟨gA3, 0, none⟩) (rep 3 (128 * (MA + 2)))) := fun w' h => HM3.out w' (h.get (List.mem_cons_of_mem _ (List.mem_cons_of_mem _ (List.mem_cons_self ..))))
                clear HB26 HKal HKwa HKle HM1 HM2 HM3 HQ1 HQ2 HQ3 HKne HKU
                generalize (gA1, .cells cur1 26 (0, 0)) :: (gA2, .cells cur2 26 (0, 0)) :: (gA3, .cells cur3 26 (0, 0)) :: KK = K2 at *
                go_upto_block 10 with fail
                go_cut [27, 28, 29] (fun vu vv _ wc => Hid (GG w K2 (N + 40) (N + 40) vu vv wc))
                case first =>
                  go_wp2_with fail
                  go_loopw [27, 28, 29] (fun vu vv i wr => ∃ k : Nat, k ≤ 40 ∧ i = .int .i64 k ∧ Hid (GG w K2 (N + k) (N + k) vu vv wr)) (fun _ _ i _ => 40 - (intOf i).toNat)
                  case atStart => exact ⟨0, by omega, rfl, HGG⟩
                  case round =>
                    clear HGG
                    obtain ⟨k, hk, rfl, HR⟩ := hrel
                    by_cases hlt : k < 40
                    · have G1 := hid (HR.out.alloc (.cells (SA [4]) 5))
                      go_upto_region 48 with (at_builtin; refine append_bytes2 rfl _ _ rfl w.heap.size (N + k) 1 1 _ (rep 4 (N + k)) [4] ⟨wr.heap.size, 0, none⟩ rfl rfl G1.out.ou rfl (row_bytes (heap_alloc_new _ _)) (by omega) G1.out.hb.old.size ?_; intro y1 x1 HO1 hg1 hat1)
                      have G2 := hid (G1.out.stepU HO1 hg1 hat1)
                      have G3 := hid (G2.out.alloc (.cells (SA [5]) 5))
                      clear G1 HO1 hg1 hat1 HR
                      go_wp2_with (at_builtin; refine append_bytes2 rfl _ _ rfl w.heap.size (N + k) 1 1 _ (rep 5 (N + k)) [5] ⟨x1.heap.size, 0, none⟩ rfl rfl G3.out.ov rfl (row_bytes (heap_alloc_new _ _)) (by omega) G3.out.hb.old.size ?_; intro y2 x2 HO2 hg2 hat2)
                      have G4 := G3.out.stepV HO2 hg2 hat2
                      exact ⟨⟨k + 1, by omega, by go_num, G4⟩, by simp [intOf]; omega⟩
                    · have e : k = 40 := by omega
                      subst e
                      go_wp2_with fail
                      go_meet
                      case rel => exact HR
                case rest =>
                  have HG := hcut
                  clear hcut HGG
                  have hN4 : 0 < N + 40 := by omega
                  have hN5 : N + 40 ≤ 140737488355328 := by omega
                  generalize N + 40 = N4 at *
                  obtain ⟨gu, cu, rfl, _, _, hcellu, _⟩ := HG.out.ou.row hN4
                  obtain ⟨gv, cv, rfl, _, _, hcellv, _⟩ := HG.out.ov.row hN4
                  have HU : Hid (∀ j, j < N4 → wc.cell? ⟨gu, j, none⟩ = some (.int .u8 4)) := fun j hj => by have := hcellu j (by omega); rw [rep_get 4 _ j hj] at this; exact this
                  have HV : Hid (∀ j, j < N4 → wc.cell? ⟨gv, j, none⟩ = some (.int .u8 5)) := fun j hj => by have := hcellv j (by omega); rw [rep_get 5 _ j hj] at this; exact this
                  clear hcellu hcellv
                  go_upto_block 12 with fail
                  go_cut [30] (fun _ w2 => w2 = wc)
                  case first =>
                    go_wp2_with fail
                    go_loop [30] (fun i => ∃ k : Nat, k ≤ N4 ∧ i = .int .i64 k) (fun i => N4 - (intOf i).toNat)
                    case atStart => exact ⟨0, by omega, rfl⟩
                    case round =>
                      obtain ⟨k, hk, rfl⟩ := hrel
                      by_cases hlt : k < N4
                      · have hc := HU.out k hlt
                        go_wp2_with fail
                        exact ⟨⟨k + 1, by omega, by go_num⟩, by simp [intOf]; omega⟩
                      · go_wp2_with fail
                        go_meet
                        case rel => rfl
                  case rest =>
                    subst hcut
                    go_upto_block 14 with fail
                    go_cut [31] (fun _ w2 => w2 = wc)
                    case first =>
                      go_wp2_with fail
                      go_loop [31] (fun i => ∃ k : Nat, k ≤ N4 ∧ i = .int .i64 k) (fun i => N4 - (intOf i).toNat)
                      case atStart => exact ⟨0, by omega, rfl⟩
                      case round =>
                        obtain ⟨k, hk, rfl⟩ := hrel
                        by_cases hlt : k < N4
                        · have hc := HV.out k hlt
                          go_wp2_with fail
                          exact ⟨⟨k + 1, by omega, by go_num⟩, by simp [intOf]; omega⟩
                        · go_wp2_with fail
                          go_meet
                          case rel => rfl
                    case rest =>
                      subst hcut
                      go_upto_region 59 with fail
                      clear HU HV
                      have HBz := hid HG.out.hb
                      clear HG
                      have HKC := hid (marked_any 1 (MA + 2) (some ⟨gA1, 0, none⟩) cA1 _ (by omega) (marks_cells (HMk1.out _ HBz.out)))
                      have HKD := hid (marked_any 2 (MB + 2) (some ⟨gA2, 0, none⟩) cA2 _ (by omega) (marks_cells (HMk2.out _ HBz.out)))
                      have HKE := hid (marked_any 3 (MA + 2) (some ⟨gA3, 0, none⟩) cA3 _ (by omega) (marks_cells (HMk3.out _ HBz.out)))
                      go_wp2_with fail
                      refine HKC.out.mono ?_
                      rintro e x1 ⟨rfl, rfl⟩
                      go_wp2_with fail
                      refine HKD.out.mono ?_
                      rintro e x1 ⟨rfl, rfl⟩
                      go_wp2_with fail
                      refine HKE.out.mono ?_
                      rintro e x1 ⟨rfl, rfl⟩
                      clear HKC HKD HKE
                      go_wp2_with fail
                      refine (same_any FF MM (some ⟨gL, 0, none⟩) aA cL cA _ HFF.out (by omega) (by rw [← HTF.out]; exact bytes_take (HKle2.out _ HBz.out) _) (HKal2.out _ HBz.out)).mono ?_
                      rintro e x2 ⟨rfl, nd, rfl⟩
                      have HBy := hid (HBz.out.drewN (n := nd))
                      go_wp2_with fail
                      refine (HCUA.out _ aa ca (by omega) (by omega) (bytes_below HZA.out HBy.out.old)).mono ?_
                      rintro e x3 ⟨rfl, hc3, hb3⟩
                      have HBx := hid (HBy.out.call hb3)
                      have HC3 := hid hc3
                      clear hc3 hb3 HBy HBz
                      go_wp2_with fail
                      refine (same_any FA MA _ aw MA cw x3 HFA.out (by omega) (row_bytes HC3.out) (HKwa2.out _ HBx.out)).mono ?_
                      rintro e x4 ⟨rfl, nd2, rfl⟩
                      have HBw := hid (HBx.out.drewN (n := nd2))
                      go_wp2_with fail
                      refine (known_any _).mono ?_
                      rintro e x5 ⟨rfl, hb5⟩
                      have HBv := hid (HBw.out.call hb5)
                      clear hb5 HBw HBx
                      go_wp2_with fail
                      go_ret
                      exact ⟨rfl, HBv.out.old⟩

end Go.Proofs.Ytibneoajkbblaaa
