/-
  LayoutTurned, no mask: its walk.
-/
import Derived.Test.YtligeanfgeajoabWTurnL
namespace Go.Proofs.Ytligeanfgeajoab
open Go.RowKit

set_option maxRecDepth 100000 in
set_option maxHeartbeats 8000000 in
theorem turned_z (a b : Int) (z x : List Int) (n : Int) (s : ByteArray) (at_ : Int) (K : Nat) (S1 S2 S3 S4 Z X : List Int) (E1 E2 E3 E4 F1 F2 F4 Ra Rb N : Int) (M : ByteArray) (w : World) (hz : z.length = 18) (hx : x.length = 32) (hZ : Z.length = 18) (hX : X.length = 32) (hK : K < 128)
    (hl1 : S1.length = 128) (hl2 : S2.length = 128) (hl3 : S3.length = 128) (hl4 : S4.length = 128)
    (hpk : ∀ w', Calls Try.prog 6 #[.int .i64 at_, .int .i64 128] w' fun e w'' => e = .returned (.int .i64 (K : Int)) ∧ w' = w'')
    (q1 : bits .xor .u8 (S1.getD K 0) 1 = turnB (S1.getD K 0) 1) (q2 : bits .xor .u8 (S2.getD K 0) 1 = turnB (S2.getD K 0) 1) (q3 : bits .xor .u8 (S3.getD K 0) 1 = turnB (S3.getD K 0) 1) (q4 : bits .xor .u8 (S4.getD K 0) 1 = turnB (S4.getD K 0) 1)
    (hw1 : ∀ w', Calls Try.prog 7 #[.agg #[.int .i64 a, .int .i64 b]] w' fun e w'' => e = .returned (.tuple #[.agg (SA S1), .int .i64 E1]) ∧ Below w'.heap.size w' w'')
    (hr1 : ∀ w', Calls Try.prog 8 #[.agg (SA (turnS S1 K 1))] w' fun e w'' => e = .returned (.tuple #[.agg (SUA Ra Rb), .int .i64 F1]) ∧ Below w'.heap.size w' w'')
    (hw2 : ∀ w', Calls Try.prog 9 #[.agg (NA z)] w' fun e w'' => e = .returned (.tuple #[.agg (SA S2), .int .i64 E2]) ∧ Below w'.heap.size w' w'')
    (hr2 : ∀ w', Calls Try.prog 10 #[.agg (SA (turnS S2 K 1))] w' fun e w'' => e = .returned (.tuple #[.agg (NA Z), .int .i64 F2]) ∧ Below w'.heap.size w' w'')
    (hw3 : ∀ w', Calls Try.prog 11 #[.agg (NA x)] w' fun e w'' => e = .returned (.tuple #[.agg (SA S3), .int .i64 E3]) ∧ Below w'.heap.size w' w'')
    (hr3 : ∀ w', Calls Try.prog 12 #[.agg (SA (turnS S3 K 1))] w' fun e w'' => e = .returned (.agg (NA X)) ∧ Below w'.heap.size w' w'')
    (hw4 : ∀ w', Calls Try.prog 13 #[.agg #[.int .i64 n, .string s]] w' fun e w'' => e = .returned (.tuple #[.agg (SA S4), .int .i64 E4]) ∧ Below w'.heap.size w' w'')
    (hr4 : ∀ w', Calls Try.prog 14 #[.agg (SA (turnS S4 K 1))] w' fun e w'' => e = .returned (.tuple #[.agg (SLA N M), .int .i64 F4]) ∧ Below w'.heap.size w' w'')
    (A1 : Hid ((E1 == 0) = false ∨ (E1 = 0 ∧ (F1 == 0) = false) ∨ (E1 = 0 ∧ F1 = 0 ∧ ¬ (Ra = a ∧ Rb = b))))
    (A2 : Hid ((E2 == 0) = false ∨ (E2 = 0 ∧ (F2 == 0) = false) ∨ (E2 = 0 ∧ F2 = 0 ∧ ¬ Z = z)))
    (A3 : Hid ((E3 == 0) = false ∨ (E3 = 0 ∧ ¬ X = x)))
    (A4 : Hid ((E4 == 0) = false ∨ (E4 = 0 ∧ (F4 == 0) = false) ∨ (E4 = 0 ∧ F4 = 0 ∧ ¬ (N = n ∧ M = s)))) :
    Calls Try.prog 3 #[.agg (thL a b z x n s).toArray, .int .i64 at_, .int .u8 0] w fun e w' => e = .returned (.bool true) ∧ Below w.heap.size w w' := by
  have hzs := zero_sec
  have hzi := zero_inode
  have hzp := zero_ptr
  have C0 := hid (th0 a b z x n s)
  have C1 := hid (th1 a b z x n s)
  have C2 := hid (th2 a b z x n s hz)
  have C3 := hid (th3 a b z x n s hz hx)
  generalize thL a b z x n s = TH at *
  have T0 : Hid ((w.alloc (.cells TH.toArray 32)).heap[w.heap.size]? = some (.cells TH.toArray 32 (0, 0))) := heap_alloc_new _ _
  have B0 : Hid (Below w.heap.size w (w.alloc (.cells TH.toArray 32))) := (Below.refl _ _).alloc (Nat.le_refl _) _
  have hk0 : (0 : Int) ≤ (K : Int) := by omega
  have hk1 : (K : Int) < 128 := by omega
  go_enter Try.func3, Try.ntmps3
  go_upto_region 5 with (first | (go_at_call 5; refine (known_any _).mono ?_; rintro e w1 ⟨rfl, hb1⟩) | (go_at_call 6; refine (hpk _).mono ?_; rintro e w9 ⟨rfl, hw9⟩; subst hw9))
  have T1 : Hid (w1.heap[w.heap.size]? = some (.cells TH.toArray 32 (0, 0))) := by show _ = _; rw [hb1.block _ (slt T0.out)]; exact T0.out
  have B1 : Hid (Below w.heap.size w w1) := btr B0.out hb1 B0.out.size
  clear T0 B0 hb1 hpk
  go_upto_region 8 with (first | refine load_M 23 (.tmp 23) rfl w.heap.size 0 rfl [.int .i64 a, .int .i64 b] _ (th_cells T1.out C0.out) Try.underlying23 rfl (by rw [szS]; rfl) rfl ?_ | (go_at_call 7; refine (hw1 _).mono ?_; rintro e w2 ⟨rfl, hb2⟩) | (refine store_sec rfl (.tmp 8) _ rfl w2.heap.size rfl S1 rfl hl1 Zs Zs_len (heap_alloc_new _ _) ?_; intro w3 hw3; have T3 := hid (wr_keep hw3 hb2 T1.out); have P3 := hid hw3.here; have B3 : Hid (Below w.heap.size w w3) := hw3.below ((btr B1.out hb2 B1.out.size).alloc (Nat.le_trans B1.out.size hb2.size) _) (Nat.le_trans B1.out.size hb2.size); have hG : w.heap.size < w2.heap.size := Nat.lt_of_lt_of_le (slt T1.out) hb2.size; obtain ⟨G, hGe⟩ : ∃ y, y = w2.heap.size := ⟨_, rfl⟩; rw [← hGe] at P3 hG ⊢; clear hGe hw3 hb2 T1 B1))
  have pc1 := sec_cellK P3.out hl1 hK
  have fr1 := frozen_of_row w3 G K _ _ P3.out
  obtain ⟨v1, hv1⟩ : ∃ y, bits .xor .u8 (S1.getD K 0) 1 = y := ⟨_, rfl⟩
  have V1 : Hid (turnB (S1.getD K 0) 1 = v1) := q1.symm.trans hv1
  clear q1
  generalize hyy1 : S1.getD K 0 = y1 at pc1 hv1
  have Y1 := hid hyy1
  clear hyy1
  go_upto_region 9 with fail
  try dsimp only [Act.put]
  have T4 : Hid ((w3.setCell ⟨G, K, none⟩ (.int .u8 v1)).heap[w.heap.size]? = some (.cells TH.toArray 32 (0, 0))) := turn_far T3.out (by omega)
  have P4 : Hid ((w3.setCell ⟨G, K, none⟩ (.int .u8 v1)).heap[G]? = some (.cells (SA (turnS S1 K 1)) 36 (0, 0))) := by show _ = _; rw [← V1.out]; exact turn_here P3.out
  have B4 : Hid (Below w.heap.size w (w3.setCell ⟨G, K, none⟩ (.int .u8 v1))) := turn_below B3.out (by omega)
  generalize w3.setCell ⟨G, K, none⟩ (.int .u8 v1) = w4 at *
  clear pc1 fr1 hv1 T3 P3 B3
  go_upto_region 10 with (first | refine load_sec rfl (.tmp 8) rfl G rfl (turnS S1 K 1) (by rw [turnS, List.length_set]; exact hl1) P4.out ?_ | (go_at_call 8; refine (hr1 _).mono ?_; rintro e w5 ⟨rfl, hb5⟩) | (refine store_R rfl 23 (.tmp 10) _ rfl w5.heap.size _ rfl rfl 23 _ (heap_alloc_new _ _) (by rw [szS]; rfl) rfl (by simp [SUA, Value.oneCell']) ?_; intro w6 hw6; have T6 := hid (pr_keep hw6 hb5 T4.out); have P6 := hid (pr_keep hw6 hb5 P4.out); have R6 := hid hw6.here; have B6 : Hid (Below w.heap.size w w6) := hw6.below ((btr B4.out hb5 B4.out.size).alloc (Nat.le_trans B4.out.size hb5.size) _) (Nat.le_trans B4.out.size hb5.size); obtain ⟨g1, hg1⟩ : ∃ y, y = w5.heap.size := ⟨_, rfl⟩; rw [← hg1] at R6 ⊢; clear hg1 hw6 hb5 T4 P4 B4))
  go_cut [51] (fun x wc => x = .bool false ∧ Hid (wc = w6))
  case first =>
    rcases A1.out with h1 | ⟨h1, h2⟩ | ⟨h1, h2, h3⟩
    · go_wp2_with fail
      go_meet
      case rel => exact ⟨rfl, rfl⟩
    · subst h1
      go_wp2_with fail
      go_meet
      case rel => exact ⟨rfl, rfl⟩
    · subst h1 h2
      have H3 := hid h3
      clear h3
      go_wp2_with (first | refine load_Rb 23 (.tmp 10) rfl g1 rfl 23 _ _ R6.out Try.underlying23 rfl (by rw [szS]; rfl) rfl ?_ | refine load_M 23 (.tmp 48) rfl w.heap.size 0 rfl [.int .i64 a, .int .i64 b] _ (th_cells T6.out C0.out) Try.underlying23 rfl (by rw [szS]; rfl) rfl ?_ | refine eql_R rfl 23 (.tmp 47) (.tmp 49) rfl (SUA Ra Rb) (#[.int .i64 a, .int .i64 b]) false rfl rfl (eq_sup_no Ra Rb a b H3.out) guard_supb ?_)
      go_meet
      case rel => exact ⟨rfl, rfl⟩
  case rest =>
    obtain ⟨rfl, hwc⟩ := hcut
    obtain rfl : wc = w6 := hwc.out
    clear hwc R6
    go_upto_region 13 with (first | refine load_M 26 (.tmp 53) rfl w.heap.size 2 rfl (z.map (Value.int .i64)) _ (th_cells T6.out C1.out) Try.underlying26 rfl (by rw [szI, List.length_map, hz]) rfl ?_ | (go_at_call 9; refine (hw2 _).mono ?_; rintro e w7 ⟨rfl, hb7⟩) | (refine store_sec rfl (.tmp 8) _ rfl G rfl S2 rfl hl2 (turnS S1 K 1) (by rw [turnS, List.length_set]; exact hl1) (by rw [hb7.block _ (slt P6.out)]; exact P6.out) ?_; intro w8 hw8; have T8 := hid (wr_far hw8 hb7 T6.out (by omega)); have P8 := hid hw8.here; have B8 : Hid (Below w.heap.size w w8) := hw8.below (btr B6.out hb7 B6.out.size) (by omega); clear hw8 hb7 T6 B6 P6))
    have pc2 := sec_cellK P8.out hl2 hK
    have fr2 := frozen_of_row w8 G K _ _ P8.out
    obtain ⟨v2, hv2⟩ : ∃ y, bits .xor .u8 (S2.getD K 0) 1 = y := ⟨_, rfl⟩
    have V2 : Hid (turnB (S2.getD K 0) 1 = v2) := q2.symm.trans hv2
    clear q2
    generalize hyy2 : S2.getD K 0 = y2 at pc2 hv2
    have Y2 := hid hyy2
    clear hyy2
    go_upto_region 14 with fail
    try dsimp only [Act.put]
    have T9 : Hid ((w8.setCell ⟨G, K, none⟩ (.int .u8 v2)).heap[w.heap.size]? = some (.cells TH.toArray 32 (0, 0))) := turn_far T8.out (by omega)
    have P9 : Hid ((w8.setCell ⟨G, K, none⟩ (.int .u8 v2)).heap[G]? = some (.cells (SA (turnS S2 K 1)) 36 (0, 0))) := by show _ = _; rw [← V2.out]; exact turn_here P8.out
    have B9 : Hid (Below w.heap.size w (w8.setCell ⟨G, K, none⟩ (.int .u8 v2))) := turn_below B8.out (by omega)
    generalize w8.setCell ⟨G, K, none⟩ (.int .u8 v2) = w9 at *
    clear pc2 fr2 hv2 T8 P8 B8
    go_upto_region 15 with (first | refine load_sec rfl (.tmp 8) rfl G rfl (turnS S2 K 1) (by rw [turnS, List.length_set]; exact hl2) P9.out ?_ | (go_at_call 10; refine (hr2 _).mono ?_; rintro e w10 ⟨rfl, hb10⟩) | (refine store_R rfl 26 (.tmp 12) _ rfl w10.heap.size _ rfl rfl 26 _ (heap_alloc_new _ _) (by rw [szI, NA_size, hZ]) (by rw [NA_size, NA_size, hZ]; rfl) (NA_one _) ?_; intro w11 hw11; have T11 := hid (pr_keep hw11 hb10 T9.out); have P11 := hid (pr_keep hw11 hb10 P9.out); have R11 := hid hw11.here; have B11 : Hid (Below w.heap.size w w11) := hw11.below ((btr B9.out hb10 B9.out.size).alloc (Nat.le_trans B9.out.size hb10.size) _) (Nat.le_trans B9.out.size hb10.size); obtain ⟨g2, hg2⟩ : ∃ y, y = w10.heap.size := ⟨_, rfl⟩; rw [← hg2] at R11 ⊢; clear hg2 hw11 hb10 T9 P9 B9))
    go_cut [81] (fun x wc => x = .bool false ∧ Hid (wc = w11))
    case first =>
      rcases A2.out with h1 | ⟨h1, h2⟩ | ⟨h1, h2, h3⟩
      · go_wp2_with fail
        go_meet
        case rel => exact ⟨rfl, rfl⟩
      · subst h1
        go_wp2_with fail
        go_meet
        case rel => exact ⟨rfl, rfl⟩
      · subst h1 h2
        have H3 := hid h3
        clear h3
        go_wp2_with (first | refine load_Rb 26 (.tmp 12) rfl g2 rfl 26 _ _ R11.out Try.underlying26 rfl (by rw [szI, NA_size, hZ]) rfl ?_ | refine load_M 26 (.tmp 78) rfl w.heap.size 2 rfl (z.map (Value.int .i64)) _ (th_cells T11.out C1.out) Try.underlying26 rfl (by rw [szI, List.length_map, hz]) rfl ?_ | refine eql_R rfl 26 (.tmp 77) (.tmp 79) rfl (NA Z) (NA z) false rfl rfl (fun w' => by rw [eq_inode Z z hZ hz, decide_eq_false H3.out]) guard_inode ?_)
        go_meet
        case rel => exact ⟨rfl, rfl⟩
    case rest =>
      obtain ⟨rfl, hwc⟩ := hcut
      obtain rfl : wc = w11 := hwc.out
      clear hwc R11
      go_upto_region 18 with (first | refine load_M 28 (.tmp 83) rfl w.heap.size 20 rfl (x.map (Value.int .i64)) _ (th_cells T11.out C2.out) Try.underlying28 rfl (by rw [szP, List.length_map, hx]) rfl ?_ | (go_at_call 11; refine (hw3 _).mono ?_; rintro e w12 ⟨rfl, hb12⟩) | (refine store_sec rfl (.tmp 8) _ rfl G rfl S3 rfl hl3 (turnS S2 K 1) (by rw [turnS, List.length_set]; exact hl2) (by rw [hb12.block _ (slt P11.out)]; exact P11.out) ?_; intro w13 hw13; have T13 := hid (wr_far hw13 hb12 T11.out (by omega)); have P13 := hid hw13.here; have B13 : Hid (Below w.heap.size w w13) := hw13.below (btr B11.out hb12 B11.out.size) (by omega); clear hw13 hb12 T11 B11 P11))
      have pc3 := sec_cellK P13.out hl3 hK
      have fr3 := frozen_of_row w13 G K _ _ P13.out
      obtain ⟨v3, hv3⟩ : ∃ y, bits .xor .u8 (S3.getD K 0) 1 = y := ⟨_, rfl⟩
      have V3 : Hid (turnB (S3.getD K 0) 1 = v3) := q3.symm.trans hv3
      clear q3
      generalize hyy3 : S3.getD K 0 = y3 at pc3 hv3
      have Y3 := hid hyy3
      clear hyy3
      go_upto_region 19 with fail
      try dsimp only [Act.put]
      have T14 : Hid ((w13.setCell ⟨G, K, none⟩ (.int .u8 v3)).heap[w.heap.size]? = some (.cells TH.toArray 32 (0, 0))) := turn_far T13.out (by omega)
      have P14 : Hid ((w13.setCell ⟨G, K, none⟩ (.int .u8 v3)).heap[G]? = some (.cells (SA (turnS S3 K 1)) 36 (0, 0))) := by show _ = _; rw [← V3.out]; exact turn_here P13.out
      have B14 : Hid (Below w.heap.size w (w13.setCell ⟨G, K, none⟩ (.int .u8 v3))) := turn_below B13.out (by omega)
      generalize w13.setCell ⟨G, K, none⟩ (.int .u8 v3) = w14 at *
      clear pc3 fr3 hv3 T13 P13 B13
      go_upto_region 20 with (first | refine load_sec rfl (.tmp 8) rfl G rfl (turnS S3 K 1) (by rw [turnS, List.length_set]; exact hl3) P14.out ?_ | (go_at_call 12; refine (hr3 _).mono ?_; rintro e w15 ⟨rfl, hb15⟩) | (refine store_R rfl 28 (.tmp 13) _ rfl w15.heap.size _ rfl rfl 28 _ (heap_alloc_new _ _) (by rw [szP, NA_size, hX]) (by rw [NA_size, NA_size, hX]; rfl) (NA_one _) ?_; intro w16 hw16; have T16 := hid (pr_keep hw16 hb15 T14.out); have P16 := hid (pr_keep hw16 hb15 P14.out); have R16 := hid hw16.here; have B16 : Hid (Below w.heap.size w w16) := hw16.below ((btr B14.out hb15 B14.out.size).alloc (Nat.le_trans B14.out.size hb15.size) _) (Nat.le_trans B14.out.size hb15.size); obtain ⟨g3, hg3⟩ : ∃ y, y = w15.heap.size := ⟨_, rfl⟩; rw [← hg3] at R16 ⊢; clear hg3 hw16 hb15 T14 P14 B14))
      dsimp only [Act.put]
      go_cut [104] (fun x wc => x = .bool false ∧ Hid (wc = w16))
      case first =>
        rcases A3.out with h1 | ⟨h1, h3⟩
        · go_wp2_with fail
          go_meet
          case rel => exact ⟨rfl, rfl⟩
        · subst h1
          have H3 := hid h3
          clear h3
          go_wp2_with (first | refine load_Rb 28 (.tmp 13) rfl g3 rfl 28 _ _ R16.out Try.underlying28 rfl (by rw [szP, NA_size, hX]) rfl ?_ | refine load_M 28 (.tmp 101) rfl w.heap.size 20 rfl (x.map (Value.int .i64)) _ (th_cells T16.out C2.out) Try.underlying28 rfl (by rw [szP, List.length_map, hx]) rfl ?_ | refine eql_R rfl 28 (.tmp 100) (.tmp 102) rfl (NA X) (NA x) false rfl rfl (fun w' => by rw [eq_ptrb X x hX hx, decide_eq_false H3.out]) guard_ptrb ?_)
          go_meet
          case rel => exact ⟨rfl, rfl⟩
      case rest =>
        obtain ⟨rfl, hwc⟩ := hcut
        obtain rfl : wc = w16 := hwc.out
        clear hwc R16
        go_upto_region 23 with (first | refine load_M 30 (.tmp 106) rfl w.heap.size 52 rfl [.int .i64 n, .string s] _ (th_cells T16.out C3.out) Try.underlying30 rfl (by rw [szL]; rfl) rfl ?_ | (go_at_call 13; refine (hw4 _).mono ?_; rintro e w17 ⟨rfl, hb17⟩) | (refine store_sec rfl (.tmp 8) _ rfl G rfl S4 rfl hl4 (turnS S3 K 1) (by rw [turnS, List.length_set]; exact hl3) (by rw [hb17.block _ (slt P16.out)]; exact P16.out) ?_; intro w18 hw18; have T18 := hid (wr_far hw18 hb17 T16.out (by omega)); have P18 := hid hw18.here; have B18 : Hid (Below w.heap.size w w18) := hw18.below (btr B16.out hb17 B16.out.size) (by omega); clear hw18 hb17 T16 B16 P16))
        have pc4 := sec_cellK P18.out hl4 hK
        have fr4 := frozen_of_row w18 G K _ _ P18.out
        obtain ⟨v4, hv4⟩ : ∃ y, bits .xor .u8 (S4.getD K 0) 1 = y := ⟨_, rfl⟩
        have V4 : Hid (turnB (S4.getD K 0) 1 = v4) := q4.symm.trans hv4
        clear q4
        generalize hyy4 : S4.getD K 0 = y4 at pc4 hv4
        have Y4 := hid hyy4
        clear hyy4
        go_upto_region 24 with fail
        try dsimp only [Act.put]
        have T19 : Hid ((w18.setCell ⟨G, K, none⟩ (.int .u8 v4)).heap[w.heap.size]? = some (.cells TH.toArray 32 (0, 0))) := turn_far T18.out (by omega)
        have P19 : Hid ((w18.setCell ⟨G, K, none⟩ (.int .u8 v4)).heap[G]? = some (.cells (SA (turnS S4 K 1)) 36 (0, 0))) := by show _ = _; rw [← V4.out]; exact turn_here P18.out
        have B19 : Hid (Below w.heap.size w (w18.setCell ⟨G, K, none⟩ (.int .u8 v4))) := turn_below B18.out (by omega)
        generalize w18.setCell ⟨G, K, none⟩ (.int .u8 v4) = w19 at *
        clear pc4 fr4 hv4 T18 P18 B18
        go_upto_region 25 with (first | refine load_sec rfl (.tmp 8) rfl G rfl (turnS S4 K 1) (by rw [turnS, List.length_set]; exact hl4) P19.out ?_ | (go_at_call 14; refine (hr4 _).mono ?_; rintro e w20 ⟨rfl, hb20⟩) | (refine store_R rfl 30 (.tmp 14) _ rfl w20.heap.size _ rfl rfl 30 _ (heap_alloc_new _ _) (by rw [szL]; rfl) rfl (by simp [SLA, Value.oneCell']) ?_; intro w21 hw21; have T21 := hid (pr_keep hw21 hb20 T19.out); have P21 := hid (pr_keep hw21 hb20 P19.out); have R21 := hid hw21.here; have B21 : Hid (Below w.heap.size w w21) := hw21.below ((btr B19.out hb20 B19.out.size).alloc (Nat.le_trans B19.out.size hb20.size) _) (Nat.le_trans B19.out.size hb20.size); obtain ⟨g4, hg4⟩ : ∃ y, y = w20.heap.size := ⟨_, rfl⟩; rw [← hg4] at R21 ⊢; clear hg4 hw21 hb20 T19 P19 B19))
        rcases A4.out with h1 | ⟨h1, h2⟩ | ⟨h1, h2, h3⟩
        · have h1' : (E4 != 0) = true := by rw [bne, h1]; rfl
          go_wp2_with fail
          go_ret
          exact ⟨rfl, B21.out⟩
        · subst h1
          have h2' : (F4 != 0) = true := by rw [bne, h2]; rfl
          go_wp2_with fail
          go_ret
          exact ⟨rfl, B21.out⟩
        · subst h1 h2
          have H3 := hid h3
          clear h3
          go_wp2_with (first | refine load_Rb 30 (.tmp 14) rfl g4 rfl 30 _ _ R21.out Try.underlying30 rfl (by rw [szL]; rfl) rfl ?_ | refine load_M 30 (.tmp 133) rfl w.heap.size 52 rfl [.int .i64 n, .string s] _ (th_cells T21.out C3.out) Try.underlying30 rfl (by rw [szL]; rfl) rfl ?_ | refine neq_R rfl 30 (.tmp 132) (.tmp 134) rfl (SLA N M) (#[.int .i64 n, .string s]) false rfl rfl (eq_slot_no N M n s H3.out) guard_slotb ?_)
          go_ret
          exact ⟨rfl, B21.out⟩

end Go.Proofs.Ytligeanfgeajoab
