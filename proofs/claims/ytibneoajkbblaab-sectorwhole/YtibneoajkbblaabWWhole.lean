/-
  SectorWhole returns true, for every list of bytes and number: the walk.
-/
import Derived.Test.YtibneoajkbblaabSteps
import Derived.Test.YtibneoajkbblaabWKnown
import Derived.Deep.CutRange
import Derived.Deep.DeepCutAuto
namespace Go.Proofs.Ytibneoajkbblaab
open Go.RowKit

set_option maxRecDepth 100000 in
set_option maxHeartbeats 40000000 in
theorem whole_walk (zs : List Int) (L : Nat) (hL : Hid (zs.length = L)) (ad : Option Addr) (cap : Nat) (n : Int) (w : World) (hl : L ≤ cap) (hm : cap ≤ 140737488351232) (HZ : Hid (BytesAt w ad zs)) (hn : Hid (I64 n)) :
    Calls Try.prog 4 #[.slice ad L cap, .int .i64 n] w fun e w' => e = .returned (.bool true) ∧ Below w.heap.size w w' := by
  have HFL : Hid ((cutF zs).length = 128 * cutM L) := by show _ = _; rw [cutF_len, hL.out]
  have HFT : Hid ((cutF zs).take L = zs) := by show _ = _; rw [← hL.out]; exact cutF_take zs
  have HF0 : Hid (∀ i, L ≤ i → (cutF zs).getD i 0 = 0) := fun i hi => cutF_zero zs i (by rw [hL.out]; exact hi)
  have hM1 := cutM_le L
  have hM2 := cutM_lt L
  have HJL : Hid (joinN (L : Int) (cutM L) = L) := by show _ = _; unfold joinN; omega
  have HJM : Hid (joinN (128 * ((cutM L : Nat) : Int)) (cutM L) = 128 * cutM L) := by show _ = _; unfold joinN; omega
  have HFA : Hid ((cutF zs).take (128 * cutM L) = cutF zs) := by show _ = _; rw [List.take_of_length_le (by rw [cutF_len, hL.out]; exact Nat.le_refl _)]
  have HMq : Hid (IntKind.i64.wrap (((L : Int) + 127).tdiv 128) = (cutM L : Nat)) := by
    show _ = _
    rw [Int.tdiv_eq_ediv_of_nonneg (by omega), IntKind.wrap_i64]
    unfold cutM
    omega
  have hpb := pickN_bd n (show (1 : Int) ≤ ((cutM L : Nat) : Int) + 1 by omega)
  obtain ⟨K, hK⟩ := Int.eq_ofNat_of_zero_le hpb.1
  have HPK := hid fun w => pick_any n (((cutM L : Nat) : Int) + 1) w hn.out (by omega) (by omega)
  rw [hK] at HPK
  have hKM : K ≤ cutM L := by omega
  obtain ⟨T, HT⟩ : ∃ T, Hid (T = min (128 * K) L) := ⟨_, rfl⟩
  have htwo := cutF_two zs K T (by rw [hL.out]; exact HT.out)
  have hlt1 : (zs.take T).length = T := by rw [List.length_take, hL.out]; have := HT.out; omega
  have hlt2 : (zs.drop T).length = L - T := by rw [List.length_drop, hL.out]
  rw [hlt1, hlt2, hL.out] at htwo
  have HAB := hid htwo.1
  have HMM2 := hid htwo.2
  have HCA : Hid (∀ w1, Below w.heap.size w w1 → Calls Try.prog 9 #[.slice ad T cap] w1 fun e w' => e = .returned (.slice (some ⟨w1.heap.size, 0, none⟩) (cutM T) (cutM T)) ∧ w'.heap[w1.heap.size]? = some (.cells (SA (cutF (zs.take T))) 23 (0, 0)) ∧ Below w1.heap.size w1 w') :=
    fun w1 h => cut_at (zs.take T) T hlt1 ad cap w1 (by have := HT.out; omega) (by omega) (bytes_below (bytes_take HZ.out T) h)
  have HCB : Hid (∀ w1 ad2 cap2, L - T ≤ cap2 → cap2 ≤ 140737488355328 → BytesAt w1 ad2 (zs.drop T) → Calls Try.prog 9 #[.slice ad2 (L - T) cap2] w1 fun e w' => e = .returned (.slice (some ⟨w1.heap.size, 0, none⟩) (cutM (L - T)) (cutM (L - T))) ∧ w'.heap[w1.heap.size]? = some (.cells (SA (cutF (zs.drop T))) 23 (0, 0)) ∧ Below w1.heap.size w1 w') :=
    fun w1 ad2 cap2 h1 h2 h3 => cut_at (zs.drop T) (L - T) hlt2 ad2 cap2 w1 h1 h2 h3
  have HLA : Hid ((cutF (zs.take T)).length = 128 * cutM T) := by show _ = _; rw [cutF_len, hlt1]
  have HLB : Hid ((cutF (zs.drop T)).length = 128 * cutM (L - T)) := by show _ = _; rw [cutF_len, hlt2]
  generalize cutF (zs.take T) = A at *
  generalize cutF (zs.drop T) = B at *
  clear htwo hlt1 hlt2 hpb hK
  have hsm := pickN_bd n (show (1 : Int) ≤ 128 * ((cutM L : Nat) : Int) + 1 by omega)
  obtain ⟨S, hS⟩ := Int.eq_ofNat_of_zero_le hsm.1
  have HPS := hid fun w => pick_any n (128 * ((cutM L : Nat) : Int) + 1) w hn.out (by omega) (by omega)
  rw [hS] at HPS hsm
  have hSM : S ≤ 128 * cutM L := by omega
  clear hsm hS
  have HJS : Hid (joinN (S : Int) (cutM L) = S) := by show _ = _; unfold joinN; omega
  obtain ⟨N1, HN1⟩ : ∃ N1, Hid (N1 = min S (128 * K)) := ⟨_, rfl⟩
  have HJ1 : Hid (joinN (N1 : Int) K = N1) := by show _ = _; have := HN1.out; unfold joinN; omega
  have HJ3 : Hid (joinN ((S : Int) - 128 * (K : Int)) (cutM L - K) = S - 128 * K) := by show _ = _; unfold joinN; omega
  have HLK : Hid (((cutF zs).take (128 * K)).length = 128 * K) := by show _ = _; rw [List.length_take, HFL.out]; omega
  have HLD : Hid (((cutF zs).drop (128 * K)).length = 128 * (cutM L - K)) := by show _ = _; rw [List.length_drop, HFL.out]; omega
  have HD1 : Hid (((cutF zs).take S).length = S) := by show _ = _; rw [List.length_take, HFL.out]; omega
  have HD2 : Hid ((((cutF zs).take (128 * K)).take N1).length = N1) := by show _ = _; have := HN1.out; rw [List.length_take, HLK.out]; omega
  have HD3 : Hid ((((cutF zs).drop (128 * K)).take (S - 128 * K)).length = S - 128 * K) := by show _ = _; rw [List.length_take, HLD.out]; omega
  have HDD : Hid (((cutF zs).take (128 * K)).take N1 ++ ((cutF zs).drop (128 * K)).take (S - 128 * K) = (cutF zs).take S) := by
    show _ = _
    have := HN1.out
    rw [List.take_take, show min N1 (128 * K) = min S (128 * K) by omega]
    exact take_cut _ _ _
  have HMe : Hid (((L : Int) + 127) / 128 = (cutM L : Nat)) := by show _ = _; unfold cutM; omega
  have h0 : HB w [] w := ⟨by simp, by simp, Below.refl _ _⟩
  have HC := hid (cut_at zs L hL ad cap w hl (by omega) HZ.out)
  go_enter Try.func4, Try.ntmps4
  go_wp2_with fail
  refine HC.out.mono ?_
  rintro e w1 ⟨rfl, hc1, hb1⟩
  have HB1 := hid ((h0.call hb1).more hc1)
  clear hb1 hc1 h0 HC
  generalize cutF zs = fl at *
  generalize hMM : cutM L = M at *
  have HMM := hid hMM
  clear hMM
  go_upto_region 2 with fail
  go_cut [31] (fun x wc => x = .bool false ∧ Hid (HB w [(w.heap.size, .cells (SA fl) 23 (0, 0))] wc))
  case first =>
    have hwr : IntKind.i64.wrap ((L : Int) + 127) = (L : Int) + 127 := by rw [IntKind.wrap_i64]; omega
    refine wp_region_noPanic ?_
    refine wp_region_held_drew (S := HB w [(w.heap.size, .cells (SA fl) 23 (0, 0))]) (by kernel_rfl) HB1.out.drew (fun hHeld => ?_)
    refine takeVal 0 15 (.slice (some ⟨w.heap.size, 0, none⟩) M M) rfl (by kernel_rfl) (by kernel_rfl) (by kernel_rfl) rfl (by rfl) (fun _ _ _ h => h) hHeld (fun _ hw' => rfl) ?_
    simp only [List.setIfInBounds_toArray, List.set_cons_zero, List.set_cons_succ]
    refine takeVal 1 16 (.int .i64 (M : Int)) rfl (by kernel_rfl) (by kernel_rfl) (by kernel_rfl) rfl (by rfl) (fun _ _ _ h => h) hHeld (fun _ hw' => by go_simp) ?_
    simp only [List.setIfInBounds_toArray, List.set_cons_zero, List.set_cons_succ]
    refine takeVal 2 17 (.slice ad L cap) rfl (by kernel_rfl) (by kernel_rfl) (by kernel_rfl) rfl (by rfl) (fun _ _ _ h => h) hHeld (fun _ hw' => rfl) ?_
    simp only [List.setIfInBounds_toArray, List.set_cons_zero, List.set_cons_succ]
    refine takeVal 3 18 (.int .i64 (L : Int)) rfl (by kernel_rfl) (by kernel_rfl) (by kernel_rfl) rfl (by rfl) (fun _ _ _ h => h) hHeld (fun _ hw' => by go_simp) ?_
    simp only [List.setIfInBounds_toArray, List.set_cons_zero, List.set_cons_succ]
    refine takeVal 4 19 (.int .i64 ((L : Int) + 127)) rfl (by kernel_rfl) (by kernel_rfl) (by kernel_rfl) rfl (by rfl) (fun _ _ _ h => h) hHeld (fun _ hw' => by go_simp) ?_
    simp only [List.setIfInBounds_toArray, List.set_cons_zero, List.set_cons_succ]
    refine takeVal 5 20 (.int .i64 (M : Int)) rfl (by kernel_rfl) (by kernel_rfl) (by kernel_rfl) rfl (by rfl) (fun _ _ _ h => h) hHeld (fun _ hw' => by go_simp; exact HMq.out) ?_
    simp only [List.setIfInBounds_toArray, List.set_cons_zero, List.set_cons_succ]
    refine takeVal 6 21 (.bool false) rfl (by kernel_rfl) (by kernel_rfl) (by kernel_rfl) rfl (by rfl) (fun _ _ _ h => h) hHeld (fun _ hw' => by go_simp) ?_
    simp only [List.setIfInBounds_toArray, List.set_cons_zero, List.set_cons_succ]
    refine takeVal 7 22 (.bool false) rfl (by kernel_rfl) (by kernel_rfl) (by kernel_rfl) rfl (by rfl) (fun _ _ _ h => h) hHeld (fun _ hw' => rfl) ?_
    simp only [List.setIfInBounds_toArray, List.set_cons_zero, List.set_cons_succ]
    refine takeVal 8 23 (.slice ad L cap) rfl (by kernel_rfl) (by kernel_rfl) (by kernel_rfl) rfl (by rfl) (fun _ _ _ h => h) hHeld (fun _ hw' => rfl) ?_
    simp only [List.setIfInBounds_toArray, List.set_cons_zero, List.set_cons_succ]
    refine takeVal 9 24 (.int .i64 (L : Int)) rfl (by kernel_rfl) (by kernel_rfl) (by kernel_rfl) rfl (by rfl) (fun _ _ _ h => h) hHeld (fun _ hw' => by go_simp) ?_
    simp only [List.setIfInBounds_toArray, List.set_cons_zero, List.set_cons_succ]
    refine takeVal 10 25 (.slice (some ⟨w.heap.size, 0, none⟩) M M) rfl (by kernel_rfl) (by kernel_rfl) (by kernel_rfl) rfl (by rfl) (fun _ _ _ h => h) hHeld (fun _ hw' => rfl) ?_
    simp only [List.setIfInBounds_toArray, List.set_cons_zero, List.set_cons_succ]
    refine takeVal 13 28 (.slice ad L cap) rfl (by kernel_rfl) (by kernel_rfl) (by kernel_rfl) rfl (by rfl) (fun _ _ _ h => h) hHeld (fun _ hw' => rfl) ?_
    simp only [List.setIfInBounds_toArray, List.set_cons_zero, List.set_cons_succ]
    refine takeVal 14 29 (.string (strOf zs)) rfl (by kernel_rfl) (by kernel_rfl) (by kernel_rfl) rfl (by rfl) (fun _ _ _ h => h) hHeld (fun _ hw' => by have hcv := conv_any _ ad zs cap (bytes_below HZ.out hw'.old); rw [hL.out] at hcv; go_simp) ?_
    simp only [List.setIfInBounds_toArray, List.set_cons_zero, List.set_cons_succ]
    refine step1 11 (by kernel_rfl) ?_
    refine stCall 11 26 10 #[.int .i64 (L : Int), .slice (some ⟨w.heap.size, 0, none⟩) M M] _ rfl rfl (by rfl) (by go_simp) (join_at (L : Int) fl M M w.heap.size 0 _ HFL (by omega) (row_bytes (t := 23) (hHeld.get (by simp))) L HJL) ?_
    rintro e w2 ⟨rfl, hj2, hb2⟩
    refine ⟨_, rfl, hHeld.call hb2, ?_⟩
    have hHeld := hHeld.call hb2
    simp only [List.setIfInBounds_toArray, List.set_cons_zero, List.set_cons_succ]
    clear hb2
    rw [HFT.out] at hj2
    have hcv : (convert 28 9 (.slice (some ⟨w1.heap.size, 0, none⟩) L L)).run Try.prog w2 = .ok (.string (strOf zs)) w2 := by
      have h := conv_any w2 (some ⟨w1.heap.size, 0, none⟩) zs L (row_bytes hj2)
      rw [hL.out] at h
      exact h
    refine step1 12 (by kernel_rfl) ?_
    refine stVal 12 27 (.string (strOf zs)) rfl rfl (by rfl) (by go_simp) hHeld ?_
    simp only [List.setIfInBounds_toArray, List.set_cons_zero, List.set_cons_succ]
    clear hcv hj2
    refine takeVal 15 30 (.bool false) rfl (by kernel_rfl) (by kernel_rfl) (by kernel_rfl) rfl (by rfl) (fun _ _ _ h => h) hHeld (fun _ hw' => by go_simp) ?_
    simp only [List.setIfInBounds_toArray, List.set_cons_zero, List.set_cons_succ]
    refine takeVal 16 31 (.bool false) rfl (by kernel_rfl) (by kernel_rfl) (by kernel_rfl) rfl (by rfl) (fun _ _ _ h => h) hHeld (fun _ hw' => by go_simp) ?_
    simp only [List.setIfInBounds_toArray, List.set_cons_zero, List.set_cons_succ]
    refine wpAnyH_done (by kernel_rfl) ?_ _
    refine NoPanic.normal ?_
    go_wp2_with fail
    go_meet
    case rel => exact ⟨rfl, hid hHeld⟩
  case rest =>
    obtain ⟨rfl, HB2⟩ := hcut
    clear HB1
    go_upto_if 34 with fail
    go_cut [6] (fun _ wc => Hid (HB w [(w.heap.size, .cells (SA fl) 23 (0, 0))] wc))
    case first =>
      by_cases hM0 : M = 0
      · subst hM0
        go_wp2_with fail
        go_meet
        case rel => exact HB2
      · have hMp : (0 : Int) < (M : Int) := by omega
        have HJ := hid (join_at (128 * (M : Int)) fl M M w.heap.size 0 wc HFL (by omega) (row_bytes (t := 23) (HB2.out.get (by simp))) (128 * M) HJM)
        go_wp2_with fail
        refine HJ.out.mono ?_
        rintro e w3 ⟨rfl, hj3, hb3⟩
        rw [HFA.out] at hj3
        have HB3 := hid (HB2.out.call hb3)
        have HJ3 := hid hj3
        clear hb3 hj3 HB2 HJ
        generalize wc.heap.size = gz at *
        go_wp2_with fail
        go_loop [7] (fun i => ∃ k : Nat, L ≤ k ∧ k ≤ 128 * M ∧ i = .int .i64 k) (fun i => 128 * M - (intOf i).toNat)
        case atStart => exact ⟨L, Nat.le_refl _, hM1, rfl⟩
        case round =>
          obtain ⟨k, hk0, hk1, rfl⟩ := hrel
          by_cases hlt : k < 128 * M
          · have hc := sec_cell HJ3.out k (by rw [HFL.out]; exact hlt)
            rw [HF0.out k hk0] at hc
            have hkl : (k : Int) < 128 * (M : Int) := by omega
            go_wp2_with fail
            exact ⟨⟨k + 1, by omega, by omega, by go_num⟩, by simp [intOf]; omega⟩
          · have hne : (128 * (M : Int) != 128 * (M : Int)) = false := by simp
            go_wp2_with fail
            go_meet
            case rel => exact HB3
    case rest =>
      have HB3 := hcut
      clear hcut HB2
      go_upto_region 14 with (go_at_call 11; refine (HPK.out _).mono ?_; rintro e w' ⟨rfl, rfl⟩)
      go_cut [9] (fun x wc => x = .int .i64 (T : Int) ∧ Hid (HB w [(w.heap.size, .cells (SA fl) 23 (0, 0))] wc))
      case first =>
        by_cases cm : (L : Int) < 128 * (K : Int)
        · have e : T = L := by have := HT.out; omega
          subst e
          go_wp2_with fail
          go_meet
          case rel => exact ⟨rfl, HB3⟩
        · have e : (T : Int) = 128 * (K : Int) := by have := HT.out; omega
          have E := hid e
          clear e
          go_wp2_with fail
          go_meet
          case rel => exact ⟨by rw [E.out], HB3⟩
      case rest =>
        obtain ⟨rfl, HB4⟩ := hcut
        clear HB3
        have hTL : (T : Int) ≤ (L : Int) := by have := HT.out; omega
        have hTL' : T ≤ L := by omega
        have hTc : T ≤ cap := by omega
        go_wp2_with fail
        refine (HCA.out _ HB4.out.old).mono ?_
        rintro e w5 ⟨rfl, hc5, hb5⟩
        have HB5 := hid ((HB4.out.call hb5).more hc5)
        clear hc5 hb5 HB4 HCA
        generalize wc.heap.size = ga at *
        go_upto_region 16 with fail
        go_cut [11] (fun x wc => ∃ gb, x = .slice (some ⟨gb, 0, none⟩) (cutM (L - T)) (cutM (L - T)) ∧ Hid (HB w [(gb, .cells (SA B) 23 (0, 0)), (ga, .cells (SA A) 23 (0, 0)), (w.heap.size, .cells (SA fl) 23 (0, 0))] wc))
        case first =>
          cases ad with
          | none =>
            have hbd := bytes_below (bytes_drop0 HZ.out T) HB5.out.old
            go_wp2_with fail
            refine (HCB.out _ none (cap - T) (by omega) (by omega) hbd).mono ?_
            rintro e w6 ⟨rfl, hc6, hb6⟩
            have HB6 := hid ((HB5.out.call hb6).more hc6)
            clear hc6 hb6
            go_wp2_with fail
            go_meet
            case rel => exact ⟨_, rfl, HB6⟩
          | some x =>
            by_cases hcT : cap = T
            · have hbd : BytesAt w5 (some x) (zs.drop T) := .inl (List.drop_of_length_le (by rw [hL.out]; omega))
              go_wp2_with fail
              refine (HCB.out _ (some x) 0 (by omega) (by omega) hbd).mono ?_
              clear hcT
              rintro e w6 ⟨rfl, hc6, hb6⟩
              have HB6 := hid ((HB5.out.call hb6).more hc6)
              clear hc6 hb6
              go_wp2_with fail
              go_meet
              case rel => exact ⟨_, rfl, HB6⟩
            · have hbd := bytes_below (bytes_drop1 HZ.out T) HB5.out.old
              go_wp2_with fail
              refine (HCB.out _ (some (x.add T)) (cap - T) (by omega) (by omega) hbd).mono ?_
              rintro e w6 ⟨rfl, hc6, hb6⟩
              have HB6 := hid ((HB5.out.call hb6).more hc6)
              clear hc6 hb6
              go_wp2_with fail
              go_meet
              case rel => exact ⟨_, rfl, HB6⟩
        case rest =>
          obtain ⟨gb, rfl, HB6⟩ := hcut
          clear HB5 HCB
          go_upto_region 17 with fail
          go_cut [84] (fun x wc => x = .bool false ∧ Hid (HB w [(w.heap.size, .cells (SA fl) 23 (0, 0))] wc))
          case first =>
            have hb0 := HB6.out.low
            have hb1 := HB6.out.old.size
            have HB7 := hid (HB6.out.alloc (.cells #[] 23)).tail
            have hsz : wc.heap.size ≤ (wc.alloc (.cells #[] 23)).heap.size := by simp
            have hnm : cutM T + cutM (L - T) = M := HMM2.out
            go_wp2_with (first | (at_builtin; refine append_secs rfl _ _ rfl wc.heap.size 0 (cutM T) (cutM T) _ [] A ⟨ga, 0, none⟩ rfl rfl (Own.start (w := wc) (heap_alloc_new _ _) (Nat.le_refl _) (by simp)) (by rw [HLA.out]; omega) (row_bytes (t := 23) (HB7.out.get (by simp))) (by omega) hsz ?_; intro v1 w7 HO1 hg1; have HB8 := hid (HB7.out.append (Own.start (k := 128) (w := wc) (heap_alloc_new _ _) (Nat.le_refl _) (by simp)) hg1 hb0 hb1); have hs7 := hg1.size) | (at_builtin; refine append_secs rfl _ _ rfl wc.heap.size (0 + cutM T) (cutM (L - T)) (cutM (L - T)) v1 ([] ++ A) B ⟨gb, 0, none⟩ rfl rfl HO1 (by rw [HLB.out]; omega) (row_bytes (t := 23) (HB8.out.get (by simp))) (by omega) (by omega) ?_; intro v2 w8 HO2 hg2))
            rw [List.nil_append, HAB.out, Nat.zero_add, hnm] at HO2
            have HB9 := hid (HB8.out.append HO1 hg2 hb0 hb1)
            obtain ⟨a2, c2, rfl, _, hbt⟩ := HO2.at_
            have hrow : w8.heap[w.heap.size]? = some (.cells (SA fl) 23 (0, 0)) := HB9.out.get (by simp)
            refine (same_any fl M a2 (some ⟨w.heap.size, 0, none⟩) c2 M w8 HFL.out (by omega) hbt (row_bytes hrow)).mono ?_
            rintro e w9 ⟨rfl, nd, rfl⟩
            have HB10 := hid (HB9.out.tail.tail.drewN (n := nd))
            clear hrow hbt hg1 hg2 HO1 HO2 HB9 HB8 HB7 hb0 hb1
            go_wp2_with fail
            go_meet
            case rel => exact ⟨rfl, HB10⟩
          case rest =>
            obtain ⟨rfl, HB7⟩ := hcut
            clear HB6
            go_upto_region 20 with (go_at_call 11; refine (HPS.out _).mono ?_; rintro e w' ⟨rfl, rfl⟩)
            have hwr1 : IntKind.i64.wrap (128 * (K : Int)) = 128 * (K : Int) := by rw [IntKind.wrap_i64]; omega
            have hwr2 : IntKind.i64.wrap ((S : Int) - 128 * (K : Int)) = (S : Int) - 128 * (K : Int) := by rw [IntKind.wrap_i64]; omega
            have HMN : Hid ((if 128 * (K : Int) < (S : Int) then 128 * (K : Int) else (S : Int)) = (N1 : Int)) := by show _ = _; have := HN1.out; split <;> omega
            have hN1S : N1 ≤ S := by have := HN1.out; omega
            have hsum : N1 + (S - 128 * K) = S := by have := HN1.out; omega
            have hKM' : (K : Int) ≤ (M : Int) := by omega
            refine wp_region_noPanic ?_
            refine wp_region_held_drew (S := HB w [(w.heap.size, .cells (SA fl) 23 (0, 0))]) (by kernel_rfl) HB7.out.drew (fun hHeld => ?_)
            refine takeVal 0 91 (.int .i64 (S : Int)) rfl (by kernel_rfl) (by kernel_rfl) (by kernel_rfl) rfl (by rfl) (fun _ _ _ h => h) hHeld (fun _ hw' => rfl) ?_
            simp only [List.setIfInBounds_toArray, List.set_cons_zero, List.set_cons_succ]
            refine takeVal 1 92 (.slice (some ⟨w.heap.size, 0, none⟩) M M) rfl (by kernel_rfl) (by kernel_rfl) (by kernel_rfl) rfl (by rfl) (fun _ _ _ h => h) hHeld (fun _ hw' => rfl) ?_
            simp only [List.setIfInBounds_toArray, List.set_cons_zero, List.set_cons_succ]
            refine takeVal 5 96 (.int .i64 (S : Int)) rfl (by kernel_rfl) (by kernel_rfl) (by kernel_rfl) rfl (by rfl) (fun _ _ _ h => h) hHeld (fun _ hw' => rfl) ?_
            simp only [List.setIfInBounds_toArray, List.set_cons_zero, List.set_cons_succ]
            refine takeVal 6 97 (.int .i64 (K : Int)) rfl (by kernel_rfl) (by kernel_rfl) (by kernel_rfl) rfl (by rfl) (fun _ _ _ h => h) hHeld (fun _ hw' => rfl) ?_
            simp only [List.setIfInBounds_toArray, List.set_cons_zero, List.set_cons_succ]
            refine takeVal 7 98 (.int .i64 (128 * (K : Int))) rfl (by kernel_rfl) (by kernel_rfl) (by kernel_rfl) rfl (by rfl) (fun _ _ _ h => h) hHeld (fun _ hw' => by go_simp) ?_
            simp only [List.setIfInBounds_toArray, List.set_cons_zero, List.set_cons_succ]
            refine takeVal 8 99 (.int .i64 (N1 : Int)) rfl (by kernel_rfl) (by kernel_rfl) (by kernel_rfl) rfl (by rfl) (fun _ _ _ h => h) hHeld (fun _ hw' => by go_simp; exact HMN.out) ?_
            simp only [List.setIfInBounds_toArray, List.set_cons_zero, List.set_cons_succ]
            refine takeVal 9 100 (.slice (some ⟨w.heap.size, 0, none⟩) M M) rfl (by kernel_rfl) (by kernel_rfl) (by kernel_rfl) rfl (by rfl) (fun _ _ _ h => h) hHeld (fun _ hw' => rfl) ?_
            simp only [List.setIfInBounds_toArray, List.set_cons_zero, List.set_cons_succ]
            refine takeVal 10 101 (.int .i64 (K : Int)) rfl (by kernel_rfl) (by kernel_rfl) (by kernel_rfl) rfl (by rfl) (fun _ _ _ h => h) hHeld (fun _ hw' => rfl) ?_
            simp only [List.setIfInBounds_toArray, List.set_cons_zero, List.set_cons_succ]
            refine takeVal 11 102 (.slice (some ⟨w.heap.size, 0, none⟩) K M) rfl (by kernel_rfl) (by kernel_rfl) (by kernel_rfl) rfl (by rfl) (fun _ _ _ h => h) hHeld (fun _ hw' => by go_simp) ?_
            simp only [List.setIfInBounds_toArray, List.set_cons_zero, List.set_cons_succ]
            refine takeVal 14 105 (.int .i64 (S : Int)) rfl (by kernel_rfl) (by kernel_rfl) (by kernel_rfl) rfl (by rfl) (fun _ _ _ h => h) hHeld (fun _ hw' => rfl) ?_
            simp only [List.setIfInBounds_toArray, List.set_cons_zero, List.set_cons_succ]
            refine takeVal 15 106 (.int .i64 (K : Int)) rfl (by kernel_rfl) (by kernel_rfl) (by kernel_rfl) rfl (by rfl) (fun _ _ _ h => h) hHeld (fun _ hw' => rfl) ?_
            simp only [List.setIfInBounds_toArray, List.set_cons_zero, List.set_cons_succ]
            refine takeVal 16 107 (.int .i64 (128 * (K : Int))) rfl (by kernel_rfl) (by kernel_rfl) (by kernel_rfl) rfl (by rfl) (fun _ _ _ h => h) hHeld (fun _ hw' => by go_simp) ?_
            simp only [List.setIfInBounds_toArray, List.set_cons_zero, List.set_cons_succ]
            refine takeVal 17 108 (.int .i64 ((S : Int) - 128 * (K : Int))) rfl (by kernel_rfl) (by kernel_rfl) (by kernel_rfl) rfl (by rfl) (fun _ _ _ h => h) hHeld (fun _ hw' => by go_simp) ?_
            simp only [List.setIfInBounds_toArray, List.set_cons_zero, List.set_cons_succ]
            refine takeVal 18 109 (.slice (some ⟨w.heap.size, 0, none⟩) M M) rfl (by kernel_rfl) (by kernel_rfl) (by kernel_rfl) rfl (by rfl) (fun _ _ _ h => h) hHeld (fun _ hw' => rfl) ?_
            simp only [List.setIfInBounds_toArray, List.set_cons_zero, List.set_cons_succ]
            refine takeVal 19 110 (.int .i64 (K : Int)) rfl (by kernel_rfl) (by kernel_rfl) (by kernel_rfl) rfl (by rfl) (fun _ _ _ h => h) hHeld (fun _ hw' => rfl) ?_
            simp only [List.setIfInBounds_toArray, List.set_cons_zero, List.set_cons_succ]
            obtain ⟨off, HOF, HOB⟩ := off_of fl K M w hKM HFL
            refine takeVal 20 111 (.slice (some ⟨w.heap.size, off, none⟩) (M - K) (M - K)) rfl (by kernel_rfl) (by kernel_rfl) (by kernel_rfl) rfl (by rfl) (fun _ _ _ h => h) hHeld (fun _ hw' => by rcases HOF.out with ⟨h1, h2⟩ | ⟨h1, h2⟩ <;> subst h2 <;> go_simp <;> (intro hne; omega)) ?_
            simp only [List.setIfInBounds_toArray, List.set_cons_zero, List.set_cons_succ]
            refine step2 2 4 (by kernel_rfl) ?_ ?_
            · refine stCall 2 93 10 #[.int .i64 (S : Int), .slice (some ⟨w.heap.size, 0, none⟩) M M] _ rfl rfl (by rfl) (by go_simp) (join_ex (S : Int) fl M M w.heap.size 0 _ HFL (by omega) (row_bytes (t := 23) (hHeld.get (by simp))) S HJS) ?_
              rintro e wX ⟨g1, rfl, hj1, hlo1, hb1⟩
              refine ⟨_, rfl, hHeld.call hb1, ?_⟩
              have hHeld := (hHeld.call hb1).more hj1
              refine wpAnyH_more (S' := HB w [(g1, .cells (SA (fl.take S)) 5 (0, 0)), (w.heap.size, .cells (SA fl) 23 (0, 0))]) (fun _ h => h.tail) _ _ _ _ ?_
              simp only [List.setIfInBounds_toArray, List.set_cons_zero, List.set_cons_succ]
              refine takeVal 3 94 (.string (strOf (fl.take S))) rfl (by kernel_rfl) (by kernel_rfl) (by kernel_rfl) rfl (by rfl) (fun _ _ _ h => h) hHeld (fun _ hw' => by have hcv := conv_any _ (some ⟨g1, 0, none⟩) (fl.take S) S (row_bytes (t := 5) (hw'.get (by simp))); rw [HD1.out] at hcv; go_simp) ?_
              simp only [List.setIfInBounds_toArray, List.set_cons_zero, List.set_cons_succ]
              refine step2 4 12 (by kernel_rfl) ?_ ?_
              · refine stNewX 4 95 rfl rfl (by rfl) (by go_simp) ?_
                intro g0 wN hg0 hgN hA0 hup
                have d0 : w.heap.size < g0 := by rw [hg0]; exact hHeld.low (w.heap.size, .cells (SA fl) 23 (0, 0)) (by simp)
                have d1 : g1 ≠ g0 := by rw [hg0]; exact Nat.ne_of_lt (hHeld.low (g1, .cells (SA (fl.take S)) 5 (0, 0)) (by simp))
                refine ⟨hup _ _ hHeld, ?_⟩
                have hHeld := hup _ _ hHeld
                simp only [List.setIfInBounds_toArray, List.set_cons_zero, List.set_cons_succ]
                refine step1 12 (by kernel_rfl) ?_
                have hr12 := row_bytes (t := 23) (hHeld.get (g := w.heap.size) (o := .cells (SA fl) 23 (0, 0)) (by simp))
                refine stCall 12 103 10 #[.int .i64 (N1 : Int), .slice (some ⟨w.heap.size, 0, none⟩) K M] _ rfl rfl (by rfl) (by go_simp) (join_ex (N1 : Int) (fl.take (128 * K)) K M w.heap.size 0 _ HLK (by omega) (bytes_take hr12 _) N1 HJ1) ?_
                rintro e wY ⟨g2, rfl, hj2, hlo2, hb2⟩
                refine ⟨_, rfl, hHeld.call hb2, ?_⟩
                have hHeld := hHeld.call hb2
                simp only [List.setIfInBounds_toArray, List.set_cons_zero, List.set_cons_succ]
                have H0 : wY.heap[g0]? = some (.cells #[] 5 (0, 0)) := by rw [hb2.block _ hgN]; exact hA0
                have HG2 := hj2
                have hbz : g0 ≤ wY.heap.size := by have := hb2.size; omega
                have hn0 : Apart w [(g1, .cells (SA (fl.take S)) 5 (0, 0)), (w.heap.size, .cells (SA fl) 23 (0, 0))] (.slice (some ⟨g0, 0, none⟩) 0 0) := Apart.start d0 d1
                refine step1 13 (by kernel_rfl) ?_
                refine stAppB 13 104 rfl rfl (by rfl) _ _ rfl g0 0 N1 N1 (.slice (some ⟨g0, 0, none⟩) 0 0) [] ((fl.take (128 * K)).take N1) ⟨g2, 0, none⟩ rfl rfl (Own.start (w := wY) H0 (Nat.le_refl _) (Nat.le_refl _)) HD2.out (row_bytes HG2) (by omega) hbz ?_
                intro v1 wA HO1 hgA hatA
                have hn1 := hn0.next hHeld hatA
                have hHeld := hHeld.app hgA hn0
                refine ⟨hHeld, ?_⟩
                simp only [List.setIfInBounds_toArray, List.set_cons_zero, List.set_cons_succ]
                refine step1 21 (by kernel_rfl) ?_
                refine stCall 21 112 10 #[.int .i64 ((S : Int) - 128 * (K : Int)), .slice (some ⟨w.heap.size, off, none⟩) (M - K) (M - K)] _ rfl rfl (by rfl) (by go_simp) (join_ex ((S : Int) - 128 * (K : Int)) (fl.drop (128 * K)) (M - K) (M - K) w.heap.size off _ HLD (by omega) (HOB.out _ hHeld.tail) (S - 128 * K) HJ3) ?_
                rintro e wB ⟨g3, rfl, hj3, hlo3, hb3⟩
                refine ⟨_, rfl, hHeld.call hb3, ?_⟩
                have hHeld := hHeld.call hb3
                have HO1 := HO1.call hb3
                have hsB := hb3.size
                have hsA := hgA.size
                simp only [List.setIfInBounds_toArray, List.set_cons_zero, List.set_cons_succ]
                refine step1 22 (by kernel_rfl) ?_
                refine stAppB 22 113 rfl rfl (by rfl) _ _ rfl g0 (0 + N1) (S - 128 * K) (S - 128 * K) v1 ([] ++ (fl.take (128 * K)).take N1) ((fl.drop (128 * K)).take (S - 128 * K)) ⟨g3, 0, none⟩ rfl rfl HO1 HD3.out (row_bytes hj3) (by omega) (by omega) ?_
                intro v2 wC HO2 hgC _
                have hHeld := hHeld.app hgC hn1
                refine ⟨hHeld, ?_⟩
                rw [List.nil_append, HDD.out, Nat.zero_add, hsum] at HO2
                obtain ⟨a2, c2, rfl, _, hbt⟩ := HO2.at_
                have hcv := conv_any wC a2 (fl.take S) c2 hbt
                rw [HD1.out] at hcv
                simp only [List.setIfInBounds_toArray, List.set_cons_zero, List.set_cons_succ]
                refine step1 23 (by kernel_rfl) ?_
                refine stVal 23 114 (.string (strOf (fl.take S))) rfl rfl (by rfl) (by go_simp) hHeld ?_
                simp only [List.setIfInBounds_toArray, List.set_cons_zero, List.set_cons_succ]
                clear hcv hbt HO1 HO2
                refine takeVal 24 115 (.bool true) rfl (by kernel_rfl) (by kernel_rfl) (by kernel_rfl) rfl (by rfl) (fun _ _ _ h => h) hHeld (fun _ hw' => by go_simp) ?_
                simp only [List.setIfInBounds_toArray, List.set_cons_zero, List.set_cons_succ]
                refine takeVal 25 116 (.bool true) rfl (by kernel_rfl) (by kernel_rfl) (by kernel_rfl) rfl (by rfl) (fun _ _ _ h => h) hHeld (fun _ hw' => rfl) ?_
                simp only [List.setIfInBounds_toArray, List.set_cons_zero, List.set_cons_succ]
                refine step1 26 (by kernel_rfl) ?_
                refine stCall 26 117 8 #[] _ rfl rfl (by rfl) (by go_simp) (known_any _) ?_
                rintro e wD ⟨rfl, hbD⟩
                refine ⟨_, rfl, hHeld.call hbD, ?_⟩
                have hHeld := hHeld.call hbD
                simp only [List.setIfInBounds_toArray, List.set_cons_zero, List.set_cons_succ]
                refine takeVal 27 118 (.bool true) rfl (by kernel_rfl) (by kernel_rfl) (by kernel_rfl) rfl (by rfl) (fun _ _ _ h => h) hHeld (fun _ hw' => by go_simp) ?_
                simp only [List.setIfInBounds_toArray, List.set_cons_zero, List.set_cons_succ]
                refine takeVal 28 4 (.bool true) rfl (by kernel_rfl) (by kernel_rfl) (by kernel_rfl) rfl (by rfl) (fun _ _ _ h => h) hHeld (fun _ hw' => rfl) ?_
                simp only [List.setIfInBounds_toArray, List.set_cons_zero, List.set_cons_succ]
                refine wpAnyH_done (by kernel_rfl) ?_ _
                refine NoPanic.normal ?_
                go_wp2_with fail
                go_ret
                exact ⟨rfl, hHeld.old⟩
              · have hr12 := row_bytes (t := 23) (hHeld.get (g := w.heap.size) (o := .cells (SA fl) 23 (0, 0)) (by simp))
                refine stCall 12 103 10 #[.int .i64 (N1 : Int), .slice (some ⟨w.heap.size, 0, none⟩) K M] _ rfl rfl (by rfl) (by go_simp) (join_ex (N1 : Int) (fl.take (128 * K)) K M w.heap.size 0 _ HLK (by omega) (bytes_take hr12 _) N1 HJ1) ?_
                rintro e wY ⟨g2, rfl, hj2, hlo2, hb2⟩
                refine ⟨_, rfl, hHeld.call hb2, ?_⟩
                have hHeld := hHeld.call hb2
                simp only [List.setIfInBounds_toArray, List.set_cons_zero, List.set_cons_succ]
                refine step1 4 (by kernel_rfl) ?_
                refine stNewX 4 95 rfl rfl (by rfl) (by go_simp) ?_
                intro g0 wN hg0 hgN hA0 hup
                have d0 : w.heap.size < g0 := by rw [hg0]; exact hHeld.low (w.heap.size, .cells (SA fl) 23 (0, 0)) (by simp)
                have d1 : g1 ≠ g0 := by rw [hg0]; exact Nat.ne_of_lt (hHeld.low (g1, .cells (SA (fl.take S)) 5 (0, 0)) (by simp))
                have HG2 := (hup _ _ (hHeld.more hj2)).get (g := g2) (o := .cells (SA ((fl.take (128 * K)).take N1)) 5 (0, 0)) (by simp)
                refine ⟨hup _ _ hHeld, ?_⟩
                have hHeld := hup _ _ hHeld
                simp only [List.setIfInBounds_toArray, List.set_cons_zero, List.set_cons_succ]
                have H0 := hA0
                have hbz := Nat.le_of_lt hgN
                have hn0 : Apart w [(g1, .cells (SA (fl.take S)) 5 (0, 0)), (w.heap.size, .cells (SA fl) 23 (0, 0))] (.slice (some ⟨g0, 0, none⟩) 0 0) := Apart.start d0 d1
                refine step1 13 (by kernel_rfl) ?_
                refine stAppB 13 104 rfl rfl (by rfl) _ _ rfl g0 0 N1 N1 (.slice (some ⟨g0, 0, none⟩) 0 0) [] ((fl.take (128 * K)).take N1) ⟨g2, 0, none⟩ rfl rfl (Own.start (w := wN) H0 (Nat.le_refl _) (Nat.le_refl _)) HD2.out (row_bytes HG2) (by omega) hbz ?_
                intro v1 wA HO1 hgA hatA
                have hn1 := hn0.next hHeld hatA
                have hHeld := hHeld.app hgA hn0
                refine ⟨hHeld, ?_⟩
                simp only [List.setIfInBounds_toArray, List.set_cons_zero, List.set_cons_succ]
                refine step1 21 (by kernel_rfl) ?_
                refine stCall 21 112 10 #[.int .i64 ((S : Int) - 128 * (K : Int)), .slice (some ⟨w.heap.size, off, none⟩) (M - K) (M - K)] _ rfl rfl (by rfl) (by go_simp) (join_ex ((S : Int) - 128 * (K : Int)) (fl.drop (128 * K)) (M - K) (M - K) w.heap.size off _ HLD (by omega) (HOB.out _ hHeld.tail) (S - 128 * K) HJ3) ?_
                rintro e wB ⟨g3, rfl, hj3, hlo3, hb3⟩
                refine ⟨_, rfl, hHeld.call hb3, ?_⟩
                have hHeld := hHeld.call hb3
                have HO1 := HO1.call hb3
                have hsB := hb3.size
                have hsA := hgA.size
                simp only [List.setIfInBounds_toArray, List.set_cons_zero, List.set_cons_succ]
                refine step1 22 (by kernel_rfl) ?_
                refine stAppB 22 113 rfl rfl (by rfl) _ _ rfl g0 (0 + N1) (S - 128 * K) (S - 128 * K) v1 ([] ++ (fl.take (128 * K)).take N1) ((fl.drop (128 * K)).take (S - 128 * K)) ⟨g3, 0, none⟩ rfl rfl HO1 HD3.out (row_bytes hj3) (by omega) (by omega) ?_
                intro v2 wC HO2 hgC _
                have hHeld := hHeld.app hgC hn1
                refine ⟨hHeld, ?_⟩
                rw [List.nil_append, HDD.out, Nat.zero_add, hsum] at HO2
                obtain ⟨a2, c2, rfl, _, hbt⟩ := HO2.at_
                have hcv := conv_any wC a2 (fl.take S) c2 hbt
                rw [HD1.out] at hcv
                simp only [List.setIfInBounds_toArray, List.set_cons_zero, List.set_cons_succ]
                refine step1 23 (by kernel_rfl) ?_
                refine stVal 23 114 (.string (strOf (fl.take S))) rfl rfl (by rfl) (by go_simp) hHeld ?_
                simp only [List.setIfInBounds_toArray, List.set_cons_zero, List.set_cons_succ]
                clear hcv hbt HO1 HO2
                refine takeVal 24 115 (.bool true) rfl (by kernel_rfl) (by kernel_rfl) (by kernel_rfl) rfl (by rfl) (fun _ _ _ h => h) hHeld (fun _ hw' => by go_simp) ?_
                simp only [List.setIfInBounds_toArray, List.set_cons_zero, List.set_cons_succ]
                refine takeVal 25 116 (.bool true) rfl (by kernel_rfl) (by kernel_rfl) (by kernel_rfl) rfl (by rfl) (fun _ _ _ h => h) hHeld (fun _ hw' => rfl) ?_
                simp only [List.setIfInBounds_toArray, List.set_cons_zero, List.set_cons_succ]
                refine step1 26 (by kernel_rfl) ?_
                refine stCall 26 117 8 #[] _ rfl rfl (by rfl) (by go_simp) (known_any _) ?_
                rintro e wD ⟨rfl, hbD⟩
                refine ⟨_, rfl, hHeld.call hbD, ?_⟩
                have hHeld := hHeld.call hbD
                simp only [List.setIfInBounds_toArray, List.set_cons_zero, List.set_cons_succ]
                refine takeVal 27 118 (.bool true) rfl (by kernel_rfl) (by kernel_rfl) (by kernel_rfl) rfl (by rfl) (fun _ _ _ h => h) hHeld (fun _ hw' => by go_simp) ?_
                simp only [List.setIfInBounds_toArray, List.set_cons_zero, List.set_cons_succ]
                refine takeVal 28 4 (.bool true) rfl (by kernel_rfl) (by kernel_rfl) (by kernel_rfl) rfl (by rfl) (fun _ _ _ h => h) hHeld (fun _ hw' => rfl) ?_
                simp only [List.setIfInBounds_toArray, List.set_cons_zero, List.set_cons_succ]
                refine wpAnyH_done (by kernel_rfl) ?_ _
                refine NoPanic.normal ?_
                go_wp2_with fail
                go_ret
                exact ⟨rfl, hHeld.old⟩
            · refine stNewX 4 95 rfl rfl (by rfl) (by go_simp) ?_
              intro g0 wN hg0 hgN hA0 hup
              have d0 : w.heap.size < g0 := by rw [hg0]; exact hHeld.low (w.heap.size, .cells (SA fl) 23 (0, 0)) (by simp)
              refine ⟨hup _ _ hHeld, ?_⟩
              have hHeld := hup _ _ hHeld
              simp only [List.setIfInBounds_toArray, List.set_cons_zero, List.set_cons_succ]
              refine step1 2 (by kernel_rfl) ?_
              refine stCall 2 93 10 #[.int .i64 (S : Int), .slice (some ⟨w.heap.size, 0, none⟩) M M] _ rfl rfl (by rfl) (by go_simp) (join_ex (S : Int) fl M M w.heap.size 0 _ HFL (by omega) (row_bytes (t := 23) (hHeld.get (by simp))) S HJS) ?_
              rintro e wX ⟨g1, rfl, hj1, hlo1, hb1⟩
              refine ⟨_, rfl, hHeld.call hb1, ?_⟩
              have hHeld := (hHeld.call hb1).more hj1
              refine wpAnyH_more (S' := HB w [(g1, .cells (SA (fl.take S)) 5 (0, 0)), (w.heap.size, .cells (SA fl) 23 (0, 0))]) (fun _ h => h.tail) _ _ _ _ ?_
              simp only [List.setIfInBounds_toArray, List.set_cons_zero, List.set_cons_succ]
              refine takeVal 3 94 (.string (strOf (fl.take S))) rfl (by kernel_rfl) (by kernel_rfl) (by kernel_rfl) rfl (by rfl) (fun _ _ _ h => h) hHeld (fun _ hw' => by have hcv := conv_any _ (some ⟨g1, 0, none⟩) (fl.take S) S (row_bytes (t := 5) (hw'.get (by simp))); rw [HD1.out] at hcv; go_simp) ?_
              simp only [List.setIfInBounds_toArray, List.set_cons_zero, List.set_cons_succ]
              have d1 : g1 ≠ g0 := by omega
              have hA1 : wX.heap[g0]? = some (.cells #[] 5 (0, 0)) := by rw [hb1.block _ hgN]; exact hA0
              have hAs1 : g0 < wX.heap.size := by have := hb1.size; omega
              refine step1 12 (by kernel_rfl) ?_
              have hr12 := row_bytes (t := 23) (hHeld.get (g := w.heap.size) (o := .cells (SA fl) 23 (0, 0)) (by simp))
              refine stCall 12 103 10 #[.int .i64 (N1 : Int), .slice (some ⟨w.heap.size, 0, none⟩) K M] _ rfl rfl (by rfl) (by go_simp) (join_ex (N1 : Int) (fl.take (128 * K)) K M w.heap.size 0 _ HLK (by omega) (bytes_take hr12 _) N1 HJ1) ?_
              rintro e wY ⟨g2, rfl, hj2, hlo2, hb2⟩
              refine ⟨_, rfl, hHeld.call hb2, ?_⟩
              have hHeld := hHeld.call hb2
              simp only [List.setIfInBounds_toArray, List.set_cons_zero, List.set_cons_succ]
              have H0 : wY.heap[g0]? = some (.cells #[] 5 (0, 0)) := by rw [hb2.block _ hAs1]; exact hA1
              have HG2 := hj2
              have hbz : g0 ≤ wY.heap.size := by have := hb2.size; omega
              have hn0 : Apart w [(g1, .cells (SA (fl.take S)) 5 (0, 0)), (w.heap.size, .cells (SA fl) 23 (0, 0))] (.slice (some ⟨g0, 0, none⟩) 0 0) := Apart.start d0 d1
              refine step1 13 (by kernel_rfl) ?_
              refine stAppB 13 104 rfl rfl (by rfl) _ _ rfl g0 0 N1 N1 (.slice (some ⟨g0, 0, none⟩) 0 0) [] ((fl.take (128 * K)).take N1) ⟨g2, 0, none⟩ rfl rfl (Own.start (w := wY) H0 (Nat.le_refl _) (Nat.le_refl _)) HD2.out (row_bytes HG2) (by omega) hbz ?_
              intro v1 wA HO1 hgA hatA
              have hn1 := hn0.next hHeld hatA
              have hHeld := hHeld.app hgA hn0
              refine ⟨hHeld, ?_⟩
              simp only [List.setIfInBounds_toArray, List.set_cons_zero, List.set_cons_succ]
              refine step1 21 (by kernel_rfl) ?_
              refine stCall 21 112 10 #[.int .i64 ((S : Int) - 128 * (K : Int)), .slice (some ⟨w.heap.size, off, none⟩) (M - K) (M - K)] _ rfl rfl (by rfl) (by go_simp) (join_ex ((S : Int) - 128 * (K : Int)) (fl.drop (128 * K)) (M - K) (M - K) w.heap.size off _ HLD (by omega) (HOB.out _ hHeld.tail) (S - 128 * K) HJ3) ?_
              rintro e wB ⟨g3, rfl, hj3, hlo3, hb3⟩
              refine ⟨_, rfl, hHeld.call hb3, ?_⟩
              have hHeld := hHeld.call hb3
              have HO1 := HO1.call hb3
              have hsB := hb3.size
              have hsA := hgA.size
              simp only [List.setIfInBounds_toArray, List.set_cons_zero, List.set_cons_succ]
              refine step1 22 (by kernel_rfl) ?_
              refine stAppB 22 113 rfl rfl (by rfl) _ _ rfl g0 (0 + N1) (S - 128 * K) (S - 128 * K) v1 ([] ++ (fl.take (128 * K)).take N1) ((fl.drop (128 * K)).take (S - 128 * K)) ⟨g3, 0, none⟩ rfl rfl HO1 HD3.out (row_bytes hj3) (by omega) (by omega) ?_
              intro v2 wC HO2 hgC _
              have hHeld := hHeld.app hgC hn1
              refine ⟨hHeld, ?_⟩
              rw [List.nil_append, HDD.out, Nat.zero_add, hsum] at HO2
              obtain ⟨a2, c2, rfl, _, hbt⟩ := HO2.at_
              have hcv := conv_any wC a2 (fl.take S) c2 hbt
              rw [HD1.out] at hcv
              simp only [List.setIfInBounds_toArray, List.set_cons_zero, List.set_cons_succ]
              refine step1 23 (by kernel_rfl) ?_
              refine stVal 23 114 (.string (strOf (fl.take S))) rfl rfl (by rfl) (by go_simp) hHeld ?_
              simp only [List.setIfInBounds_toArray, List.set_cons_zero, List.set_cons_succ]
              clear hcv hbt HO1 HO2
              refine takeVal 24 115 (.bool true) rfl (by kernel_rfl) (by kernel_rfl) (by kernel_rfl) rfl (by rfl) (fun _ _ _ h => h) hHeld (fun _ hw' => by go_simp) ?_
              simp only [List.setIfInBounds_toArray, List.set_cons_zero, List.set_cons_succ]
              refine takeVal 25 116 (.bool true) rfl (by kernel_rfl) (by kernel_rfl) (by kernel_rfl) rfl (by rfl) (fun _ _ _ h => h) hHeld (fun _ hw' => rfl) ?_
              simp only [List.setIfInBounds_toArray, List.set_cons_zero, List.set_cons_succ]
              refine step1 26 (by kernel_rfl) ?_
              refine stCall 26 117 8 #[] _ rfl rfl (by rfl) (by go_simp) (known_any _) ?_
              rintro e wD ⟨rfl, hbD⟩
              refine ⟨_, rfl, hHeld.call hbD, ?_⟩
              have hHeld := hHeld.call hbD
              simp only [List.setIfInBounds_toArray, List.set_cons_zero, List.set_cons_succ]
              refine takeVal 27 118 (.bool true) rfl (by kernel_rfl) (by kernel_rfl) (by kernel_rfl) rfl (by rfl) (fun _ _ _ h => h) hHeld (fun _ hw' => by go_simp) ?_
              simp only [List.setIfInBounds_toArray, List.set_cons_zero, List.set_cons_succ]
              refine takeVal 28 4 (.bool true) rfl (by kernel_rfl) (by kernel_rfl) (by kernel_rfl) rfl (by rfl) (fun _ _ _ h => h) hHeld (fun _ hw' => rfl) ?_
              simp only [List.setIfInBounds_toArray, List.set_cons_zero, List.set_cons_succ]
              refine wpAnyH_done (by kernel_rfl) ?_ _
              refine NoPanic.normal ?_
              go_wp2_with fail
              go_ret
              exact ⟨rfl, hHeld.old⟩

end Go.Proofs.Ytibneoajkbblaab
