/-
  DiskRefused returns true: the walk.
-/
import Derived.Test.YtcgchdcbbiahnabLaw1
namespace Go.Proofs.Ytcgchdcbbiahnab
open Go.RowKit

theorem new_okI (i : Int) (n : Nat) (hi : i = n) (w : World) (h0 : 1 ≤ n) (h1 : n ≤ 4096) : Calls Try.prog 6 #[.int .i64 i] w fun e w' => ∃ p g, e = .returned (.tuple #[.pointer (some ⟨p, 0, none⟩), .int .i64 0]) ∧ w.heap.size ≤ p ∧ w.heap.size ≤ g ∧ IsD w' p g n (D0 (zl (128 * n))) ∧ Below w.heap.size w w' := by
  subst hi
  exact new_ok n w h0 h1
theorem refE_place {d : St8} {n : Nat} {i : Int} (hd : d.dn = false) (h : i < 0 ∨ (n : Int) ≤ i) : refE d n i = 21 := by
  unfold refE
  rw [if_neg (by simp [hd]), if_pos h]
theorem write_place {p g n : Nat} {d : St8} (i : Int) (s : List Int) (w : World) (h : IsD w p g n d) (hd : d.dn = false) (hi : i < 0 ∨ (n : Int) ≤ i) : Calls Try.prog 8 #[.pointer (some ⟨p, 0, none⟩), .int .i64 i, .agg (SA s)] w fun e w' => e = .returned (.int .i64 21) ∧ IsD w' p g n d ∧ Below w.heap.size w w' := by
  have := write_no i s w h (by rw [refE_place hd hi]; decide)
  rw [refE_place hd hi] at this
  exact this
theorem read_place {p g n : Nat} {d : St8} (i : Int) (w : World) (h : IsD w p g n d) (hd : d.dn = false) (hi : i < 0 ∨ (n : Int) ≤ i) : Calls Try.prog 10 #[.pointer (some ⟨p, 0, none⟩), .int .i64 i] w fun e w' => e = .returned (.tuple #[.agg (SA Zs), .int .i64 21]) ∧ Below w.heap.size w w' := by
  have := read_any i w h
  unfold readS at this
  rw [refE_place hd hi, if_neg (by decide)] at this
  exact this
theorem arm_neg {p g n : Nat} {d : St8} (k : Int) (w : World) (h : IsD w p g n d) (hk : k < 0) : Calls Try.prog 7 #[.pointer (some ⟨p, 0, none⟩), .int .i64 k] w fun e w' => e = .returned (.int .i64 1) ∧ IsD w' p g n d ∧ Mod w w' [p] := by
  have := arm_any k w h
  unfold armE armD at this
  rw [if_pos hk, if_pos hk] at this
  exact this
theorem arm_go {p g n : Nat} {d : St8} (k : Int) (w : World) (h : IsD w p g n d) (hd : d.dn = false) (hk : 0 ≤ k) : Calls Try.prog 7 #[.pointer (some ⟨p, 0, none⟩), .int .i64 k] w fun e w' => e = .returned (.int .i64 0) ∧ IsD w' p g n ⟨d.S, d.wr, d.dn, true, k⟩ ∧ Mod w w' [p] := by
  have := arm_any k w h
  rw [armE_ok hd hk, armD_ok hd hk] at this
  exact this
theorem write_go {p g n : Nat} {S : List Int} {wr lf : Int} (i : Int) (s : List Int) (w : World) (h : IsD w p g n ⟨S, wr, false, true, lf⟩) (hs : s.length = 128) (hw0 : 0 ≤ wr) (hw1 : wr < 4611686018427387904) (hl0 : 0 < lf) (hl1 : lf ≤ 9223372036854775807) (hi0 : 0 ≤ i) (hi1 : i < n) :
    Calls Try.prog 8 #[.pointer (some ⟨p, 0, none⟩), .int .i64 i, .agg (SA s)] w fun e w' => e = .returned (.int .i64 0) ∧ IsD w' p g n ⟨over S (i.toNat * 128) s, wr + 1, false, true, lf - 1⟩ ∧ Mod w w' [p, g] :=
  write_left i s w h (refE_ok rfl hi0 hi1) rfl hl0 hl1 hs hw0 hw1
theorem write_end {p g n : Nat} {S : List Int} {wr : Int} (i : Int) (s : List Int) (w : World) (h : IsD w p g n ⟨S, wr, false, true, 0⟩) (hi0 : 0 ≤ i) (hi1 : i < n) :
    Calls Try.prog 8 #[.pointer (some ⟨p, 0, none⟩), .int .i64 i, .agg (SA s)] w fun e w' => e = .returned (.int .i64 22) ∧ IsD w' p g n ⟨S, wr, true, true, 0⟩ ∧ Mod w w' [p] :=
  write_off i s w h (refE_ok rfl hi0 hi1) rfl rfl

/-- A list of ints that lies in memory. -/
def IntsAt (w : World) (a : Option Addr) (xs : List Int) : Prop :=
  xs = [] ∨ ∃ b o, a = some ⟨b, o, none⟩ ∧ b < w.heap.size ∧ ∀ j, j < xs.length → w.cell? ⟨b, o + j, none⟩ = some (.int .i64 (xs.getD j 0))

set_option maxRecDepth 100000 in
set_option maxHeartbeats 4000000 in
theorem refused_walk (sc ar : Int) (xs : List Int) (len : Nat) (hlen : Hid (xs.length = len)) (a : Option Addr) (cap : Nat) (w : World) (hsc : I64 sc) (har : I64 ar) (hl : len ≤ 140737488355328) (HX : Hid (IntsAt w a xs)) (H64 : Hid (∀ x, x ∈ xs → I64 x)) :
    Calls Try.prog 3 #[.int .i64 sc, .int .i64 ar, .slice a len cap] w fun e w' => e = .returned (.bool true) ∧ Below w.heap.size w w' := by
  have hz := zero_sec
  have hcv := conv_same
  have HOR := hid fun g w h => of_any [114, 105, 103, 104, 116] 5 rfl (some ⟨g, 0, none⟩) 5 w h
  have hAl := ofS_len [114, 105, 103, 104, 116]
  generalize ofS [114, 105, 103, 104, 116] = A at *
  have HPN := hid fun w => pick_any sc 60 w hsc (by decide) (by decide)
  have HPK := hid fun w => pick_any ar 20 w har (by decide) (by decide)
  have hN := pickN_bd sc (show (1 : Int) ≤ 60 by decide)
  have hK := pickN_bd ar (show (1 : Int) ≤ 20 by decide)
  generalize pickN sc 60 = N at *
  generalize pickN ar 20 = K at *
  obtain ⟨n0, rfl⟩ := Int.eq_ofNat_of_zero_le hN.1
  obtain ⟨K, rfl⟩ := Int.eq_ofNat_of_zero_le hK.1
  have hn : n0 + 1 ≤ 60 := by omega
  have hk20 : K < 20 := by omega
  clear hN hK
  go_enter Try.func3, Try.ntmps3
  go_upto_region 6 with (first | (go_at_call 4; refine (awake_any _).mono ?_; rintro e w1 ⟨rfl, hb1⟩; have HB1 := hid hb1; clear hb1) | (go_at_call 5; refine (HPN.out _).mono ?_; rintro e w2 ⟨rfl, rfl⟩) | (go_at_call 6; refine (new_okI _ (n0 + 1) (by omega) _ (by omega) (by omega)).mono ?_; rintro e w2 ⟨p, g, rfl, hp0, hg0, hd2, hb2⟩; have HD2 := hid hd2; have HB2 := hid (HB1.out.trans (hb2.mono HB1.out.size)); have HP0 := hid (Nat.le_trans HB1.out.size hp0); have HG0 := hid (Nat.le_trans HB1.out.size hg0); clear hd2 hb2 hp0 hg0))
  generalize zl (128 * (n0 + 1)) = Z at *
  have HPG : Hid (∀ k, k ∈ [p, g] → w.heap.size ≤ k) := by
    show ∀ k, k ∈ [p, g] → w.heap.size ≤ k
    intro k hk
    rcases List.mem_cons.1 hk with e | e
    · rw [e]; exact HP0.out
    · rw [List.mem_singleton.1 e]; exact HG0.out
  go_wp2_with (first | (go_at_call 5; refine (HPK.out _).mono ?_; rintro e w2 ⟨rfl, rfl⟩) | (go_at_call 7; refine (arm_go _ _ HD2.out rfl (by omega)).mono ?_; rintro e w3 ⟨rfl, hd3, hm3⟩; have HD3 : Hid (IsD w3 p g (n0 + 1) ⟨Z, 0, false, true, (K : Int)⟩) := hd3; have HB3 := hid (hm3.to HB2.out HB2.out.size (by simpa using HP0.out)); clear hd3 hm3))
  clear HD2 HB2 HB1
  go_loopw [13] (fun i wr => ∃ k : Nat, k ≤ len ∧ i = .int .i64 k ∧ Hid (IsD wr p g (n0 + 1) ⟨Z, 0, false, true, (K : Int)⟩) ∧ Hid (Below w.heap.size w wr)) (fun i _ => len - (intOf i).toNat)
  case atStart => exact ⟨0, by omega, rfl, HD3, HB3⟩
  case round =>
    clear HD3 HB3
    obtain ⟨k, hk, rfl, HD, HBl⟩ := hrel
    by_cases hlt : k < len
    · have hc0 : ∃ b o, a = some ⟨b, o, none⟩ ∧ b < w.heap.size ∧ w.cell? ⟨b, o + k, none⟩ = some (.int .i64 (xs.getD k 0)) := by
        rcases HX.out with h | ⟨b, o, h1, h2, h3⟩
        · have := hlen.out; rw [h] at this; simp at this; omega
        · exact ⟨b, o, h1, h2, h3 k (by rw [hlen.out]; exact hlt)⟩
      obtain ⟨b, o, rfl, hb, hcell⟩ := hc0
      rw [← HBl.out.cell (p := ⟨b, o + k, none⟩) hb] at hcell
      have hx64 : I64 (xs.getD k 0) := by
        have hlt' : k < xs.length := by rw [hlen.out]; exact hlt
        rw [List.getD_eq_getElem?_getD, List.getElem?_eq_getElem hlt']
        exact H64.out _ (List.getElem_mem hlt')
      generalize xs.getD k 0 = x at *
      have hxb := hx64
      obtain ⟨hx0, hx1⟩ := hxb
      have hkl : (k : Int) < (len : Int) := by omega
      have hpk := pickN_bd x (show (1 : Int) ≤ 1000 by decide)
      by_cases hneg : x < 0
      · clear hlt
        go_wp2_with (first | (go_at_call 9; refine (of_any _ _ rfl _ _ _ (row_bytesF (l := [119, 114, 111, 110, 103]) (heap_alloc_new _ _))).mono ?_; rintro e w3 ⟨rfl, hb3⟩; have hq3 := (Below.refl_call wr _).trans (hb3.mono (by simp)); have HD3 := hid (HD.out.call hq3); have HB3 := hid (HBl.out.trans (hq3.mono HBl.out.size)); clear hb3 hq3) | (go_at_call 8; refine (write_place _ _ _ HD3.out rfl (.inl hneg)).mono ?_; rintro e w4 ⟨rfl, hd4, hb4⟩; have HD4 := hid hd4; have HB4 := hid (HB3.out.trans (hb4.mono HB3.out.size)); clear hd4 hb4) | (go_at_call 10; refine (read_place _ _ HD4.out rfl (.inl hneg)).mono ?_; rintro e w5 ⟨rfl, hb5⟩; have HD5 := hid (HD4.out.call hb5); have HB5 := hid (HB4.out.trans (hb5.mono HB4.out.size)); clear hb5) | (refine store_sec rfl _ _ rfl w5.heap.size rfl Zs rfl Zs_len Zs Zs_len (heap_alloc_new _ _) ?_; intro w6 hw6; have hq6 := hw6.below (Below.refl_call w5 (.cells (SA Zs) 32)) (Nat.le_refl _); have HD6 := hid (HD5.out.call hq6); have HB6 := hid (HB5.out.trans (hq6.mono HB5.out.size)); clear hw6 hq6) | (go_at_call 5; refine (pick_any _ _ _ hx64 (by decide) (by decide)).mono ?_; rintro e w7 ⟨rfl, rfl⟩) | (go_at_call 7; refine (arm_neg _ _ HD6.out (by omega)).mono ?_; rintro e w8 ⟨rfl, hd8, hm8⟩; have HD8 := hid hd8; have HB8 := hid (hm8.to HB6.out HB6.out.size (by simpa using HP0.out)); clear hd8 hm8) | (go_at_call 11; refine (down_any _ HD8.out).mono ?_; rintro e w9 ⟨rfl, rfl⟩) | (go_at_call 12; refine (writes_any _ HD8.out).mono ?_; rintro e w9 ⟨rfl, rfl⟩))
        exact ⟨⟨k + 1, by omega, by go_num, HD8, HB8⟩, by simp [intOf]; omega⟩
      · by_cases hin : x < (n0 : Int) + 1
        · have hx64o := hx64
          have hx64 : I64 (x + (1 + (n0 : Int))) := ⟨by omega, by omega⟩
          have hpk := pickN_bd (x + (1 + (n0 : Int))) (show (1 : Int) ≤ 1000 by decide)
          clear hlt hx64o
          go_wp2_with (first | (go_at_call 9; refine (of_any _ _ rfl _ _ _ (row_bytesF (l := [119, 114, 111, 110, 103]) (heap_alloc_new _ _))).mono ?_; rintro e w3 ⟨rfl, hb3⟩; have hq3 := (Below.refl_call wr _).trans (hb3.mono (by simp)); have HD3 := hid (HD.out.call hq3); have HB3 := hid (HBl.out.trans (hq3.mono HBl.out.size)); clear hb3 hq3) | (go_at_call 8; refine (write_place _ _ _ HD3.out rfl (.inr (by omega))).mono ?_; rintro e w4 ⟨rfl, hd4, hb4⟩; have HD4 := hid hd4; have HB4 := hid (HB3.out.trans (hb4.mono HB3.out.size)); clear hd4 hb4) | (go_at_call 10; refine (read_place _ _ HD4.out rfl (.inr (by omega))).mono ?_; rintro e w5 ⟨rfl, hb5⟩; have HD5 := hid (HD4.out.call hb5); have HB5 := hid (HB4.out.trans (hb5.mono HB4.out.size)); clear hb5) | (refine store_sec rfl _ _ rfl w5.heap.size rfl Zs rfl Zs_len Zs Zs_len (heap_alloc_new _ _) ?_; intro w6 hw6; have hq6 := hw6.below (Below.refl_call w5 (.cells (SA Zs) 32)) (Nat.le_refl _); have HD6 := hid (HD5.out.call hq6); have HB6 := hid (HB5.out.trans (hq6.mono HB5.out.size)); clear hw6 hq6) | (go_at_call 5; refine (pick_any _ _ _ hx64 (by decide) (by decide)).mono ?_; rintro e w7 ⟨rfl, rfl⟩) | (go_at_call 7; refine (arm_neg _ _ HD6.out (by omega)).mono ?_; rintro e w8 ⟨rfl, hd8, hm8⟩; have HD8 := hid hd8; have HB8 := hid (hm8.to HB6.out HB6.out.size (by simpa using HP0.out)); clear hd8 hm8) | (go_at_call 11; refine (down_any _ HD8.out).mono ?_; rintro e w9 ⟨rfl, rfl⟩) | (go_at_call 12; refine (writes_any _ HD8.out).mono ?_; rintro e w9 ⟨rfl, rfl⟩))
          exact ⟨⟨k + 1, by omega, by go_num, HD8, HB8⟩, by simp [intOf]; omega⟩
        · clear hlt
          go_wp2_with (first | (go_at_call 9; refine (of_any _ _ rfl _ _ _ (row_bytesF (l := [119, 114, 111, 110, 103]) (heap_alloc_new _ _))).mono ?_; rintro e w3 ⟨rfl, hb3⟩; have hq3 := (Below.refl_call wr _).trans (hb3.mono (by simp)); have HD3 := hid (HD.out.call hq3); have HB3 := hid (HBl.out.trans (hq3.mono HBl.out.size)); clear hb3 hq3) | (go_at_call 8; refine (write_place _ _ _ HD3.out rfl (.inr (by omega))).mono ?_; rintro e w4 ⟨rfl, hd4, hb4⟩; have HD4 := hid hd4; have HB4 := hid (HB3.out.trans (hb4.mono HB3.out.size)); clear hd4 hb4) | (go_at_call 10; refine (read_place _ _ HD4.out rfl (.inr (by omega))).mono ?_; rintro e w5 ⟨rfl, hb5⟩; have HD5 := hid (HD4.out.call hb5); have HB5 := hid (HB4.out.trans (hb5.mono HB4.out.size)); clear hb5) | (refine store_sec rfl _ _ rfl w5.heap.size rfl Zs rfl Zs_len Zs Zs_len (heap_alloc_new _ _) ?_; intro w6 hw6; have hq6 := hw6.below (Below.refl_call w5 (.cells (SA Zs) 32)) (Nat.le_refl _); have HD6 := hid (HD5.out.call hq6); have HB6 := hid (HB5.out.trans (hq6.mono HB5.out.size)); clear hw6 hq6) | (go_at_call 5; refine (pick_any _ _ _ hx64 (by decide) (by decide)).mono ?_; rintro e w7 ⟨rfl, rfl⟩) | (go_at_call 7; refine (arm_neg _ _ HD6.out (by omega)).mono ?_; rintro e w8 ⟨rfl, hd8, hm8⟩; have HD8 := hid hd8; have HB8 := hid (hm8.to HB6.out HB6.out.size (by simpa using HP0.out)); clear hd8 hm8) | (go_at_call 11; refine (down_any _ HD8.out).mono ?_; rintro e w9 ⟨rfl, rfl⟩) | (go_at_call 12; refine (writes_any _ HD8.out).mono ?_; rintro e w9 ⟨rfl, rfl⟩))
          exact ⟨⟨k + 1, by omega, by go_num, HD8, HB8⟩, by simp [intOf]; omega⟩
    · clear hk
      go_wp2_with fail
      have HD0 := HD
      have HB0 := HBl
      clear HD HBl
      go_loopw [19] (fun i wr => ∃ (k : Nat) (S : List Int), k ≤ K ∧ i = .int .i64 k ∧ Hid (IsD wr p g (n0 + 1) ⟨S, (k : Int), false, true, (K : Int) - (k : Int)⟩) ∧ Hid (Below w.heap.size w wr)) (fun i _ => K - (intOf i).toNat)
      case atStart => exact ⟨0, Z, by omega, rfl, by simpa using HD0, HB0⟩
      case round =>
        clear HD0 HB0 hlt
        obtain ⟨k, S, hk, rfl, HD, HBl⟩ := hrel
        by_cases hlt : k < K
        · have hkl : (k : Int) < (K : Int) := by omega
          have HT0 := hid (Int.tmod_nonneg (1 + (n0 : Int)) (show (0 : Int) ≤ (k : Int) by omega))
          have HT1 : Hid ((k : Int).tmod (1 + (n0 : Int)) < ((n0 + 1 : Nat) : Int)) := by
            have := Int.tmod_lt_of_pos (k : Int) (show (0 : Int) < 1 + (n0 : Int) by omega)
            show _ < _
            omega
          have hnz : (1 + (n0 : Int) == 0) = false := by simp; omega
          go_wp2_with fail
          refine wp_region_noPanic ?_
          refine wp_region_held_drew (S := HB w []) (by kernel_rfl) ⟨by simp, by simp, HBl.out.drew⟩ (fun hHeld => ?_)
          have HDd := hid HD.out.drew
          clear HD
          generalize wr.drew = wd at *
          refine takeVal 0 109 (.pointer (some ⟨p, 0, none⟩)) rfl (by kernel_rfl) (by kernel_rfl) (by kernel_rfl) rfl (by rfl) (fun _ _ _ h => h) hHeld (fun _ hw' => rfl) ?_
          simp only [List.setIfInBounds_toArray, List.set_cons_zero, List.set_cons_succ]
          refine takeVal 1 110 (.int .i64 (k : Int)) rfl (by kernel_rfl) (by kernel_rfl) (by kernel_rfl) rfl (by rfl) (fun _ _ _ h => h) hHeld (fun _ hw' => rfl) ?_
          simp only [List.setIfInBounds_toArray, List.set_cons_zero, List.set_cons_succ]
          refine takeVal 2 111 (.int .i64 (1 + (n0 : Int))) rfl (by kernel_rfl) (by kernel_rfl) (by kernel_rfl) rfl (by rfl) (fun _ _ _ h => h) hHeld (fun _ hw' => rfl) ?_
          simp only [List.setIfInBounds_toArray, List.set_cons_zero, List.set_cons_succ]
          refine takeVal 3 112 (.int .i64 ((k : Int).tmod (1 + (n0 : Int)))) rfl (by kernel_rfl) (by kernel_rfl) (by kernel_rfl) rfl (by rfl) (fun _ _ _ h => h) hHeld (fun _ hw' => by go_simp; omega) ?_
          simp only [List.setIfInBounds_toArray, List.set_cons_zero, List.set_cons_succ]
          refine step1 4 (by kernel_rfl) ?_
          refine stNew 4 113 (.slice (some ⟨wd.heap.size, 0, none⟩) 5 5) (.cells (SA [114, 105, 103, 104, 116]) 5) rfl rfl (by rfl) (by go_simp; rfl) ⟨(hHeld.alloc _).tail, ?_⟩
          have hHeld0 := hHeld
          have hHeld := (hHeld0.alloc (.cells (SA [114, 105, 103, 104, 116]) 5)).tail
          simp only [List.setIfInBounds_toArray, List.set_cons_zero, List.set_cons_succ]
          refine step1 5 (by kernel_rfl) ?_
          refine stTo 5 114 (.slice (some ⟨wd.heap.size, 0, none⟩) 5 5) (wd.alloc (.cells (SA [114, 105, 103, 104, 116]) 5 (5, 6))) rfl rfl (by rfl) (by have hc := conv_same (wd) (SA [114, 105, 103, 104, 116]) 5 5; go_simp; rfl) ⟨(hHeld0.alloc _).tail, ?_⟩
          clear hHeld
          have hHeld := (hHeld0.alloc (.cells (SA [114, 105, 103, 104, 116]) 5 (5, 6))).tail
          simp only [List.setIfInBounds_toArray, List.set_cons_zero, List.set_cons_succ]
          refine step1 6 (by kernel_rfl) ?_
          refine stCall 6 115 9 #[.slice (some ⟨wd.heap.size, 0, none⟩) 5 5] _ rfl rfl (by rfl) (by go_simp) (HOR.out _ _ (row_bytesF (heap_alloc_new _ _))) ?_
          rintro e w3 ⟨rfl, hb3⟩
          refine ⟨_, rfl, hHeld.call hb3, ?_⟩
          have hHeld1 := hHeld.call hb3
          clear hHeld
          have hHeld := hHeld1
          have HD3 := hid ((HDd.out.call (Below.refl_call _ _)).call hb3)
          simp only [List.setIfInBounds_toArray, List.set_cons_zero, List.set_cons_succ]
          refine step1 7 (by kernel_rfl) ?_
          refine stCall 7 116 8 #[.pointer (some ⟨p, 0, none⟩), .int .i64 ((k : Int).tmod (1 + (n0 : Int))), .agg (SA A)] _ rfl rfl (by rfl) (by go_simp) (write_go _ _ _ HD3.out hAl (by omega) (by omega) (by omega) (by omega) HT0.out HT1.out) ?_
          rintro e w4 ⟨rfl, hd4, hm4⟩
          have hb4 : Below w.heap.size w w4 := hm4.to hHeld.old hHeld.old.size HPG.out
          refine ⟨_, rfl, ⟨by simp, by simp, hb4⟩, ?_⟩
          clear hHeld
          have hHeld : HB w [] w4 := ⟨by simp, by simp, hb4⟩
          simp only [List.setIfInBounds_toArray, List.set_cons_zero, List.set_cons_succ]
          refine takeVal 8 20 (.int .i64 0) rfl (by kernel_rfl) (by kernel_rfl) (by kernel_rfl) rfl (by rfl) (fun _ _ _ h => h) hHeld (fun _ hw' => rfl) ?_
          simp only [List.setIfInBounds_toArray, List.set_cons_zero, List.set_cons_succ]
          refine wpAnyH_done (by kernel_rfl) ?_ _
          refine NoPanic.normal ?_
          have HDn := hid hd4
          clear hd4 hm4 HD3
          go_wp2_with fail
          exact ⟨⟨k + 1, _, by omega, by go_num, by
            have := HDn.out
            rw [show (K : Int) - (k : Int) - 1 = (K : Int) - ((k + 1 : Nat) : Int) by omega, show (k : Int) + 1 = ((k + 1 : Nat) : Int) by omega] at this
            exact this, hHeld.old⟩, by simp [intOf]; omega⟩
        · have e : k = K := by omega
          subst e
          rw [Int.sub_self] at HD
          clear hk
          go_wp2_with (first | (go_at_call 9; refine (of_any _ _ rfl _ _ _ (row_bytesF (l := [108, 97, 116, 101]) (heap_alloc_new _ _))).mono ?_; rintro e w3 ⟨rfl, hb3⟩; have hq3 := (Below.refl_call wr _).trans (hb3.mono (by simp)); have HD3 := hid (HD.out.call hq3); have HB3 := hid (HBl.out.trans (hq3.mono HBl.out.size)); clear hb3 hq3) | (go_at_call 8; refine (write_end _ _ _ HD3.out (by decide) (by omega)).mono ?_; rintro e w4 ⟨rfl, hd4, hm4⟩; have HD4 := hid hd4; have HB4 := hid (hm4.to HB3.out HB3.out.size (by simpa using HP0.out)); clear hd4 hm4) | (go_at_call 11; refine (down_any _ HD4.out).mono ?_; rintro e w9 ⟨rfl, rfl⟩) | (go_at_call 12; refine (writes_any _ HD4.out).mono ?_; rintro e w9 ⟨rfl, rfl⟩))
          go_ret
          exact ⟨rfl, HB4.out⟩

end Go.Proofs.Ytcgchdcbbiahnab
