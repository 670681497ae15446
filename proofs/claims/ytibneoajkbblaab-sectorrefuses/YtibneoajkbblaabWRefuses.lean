/-
  SectorRefuses returns true, for every sector, place and list of bytes: the walk.
-/
import Derived.Test.YtibneoajkbblaabWKnown
import Derived.Test.YtibneoajkbblaabWSplice
import Derived.Test.YtibneoajkbblaabWPick
import Derived.Test.YtibneoajkbblaabSliceOne
import Derived.Deep.CutRange
import Derived.Deep.DeepCutAuto
namespace Go.Proofs.Ytibneoajkbblaab
open Go.RowKit

theorem bytes_below {w w' : World} {ad : Option Addr} {zs : List Int} (h : BytesAt w ad zs) (hb : Below w.heap.size w w') : BytesAt w' ad zs := by
  rcases h with h | ⟨b, o, rfl, hlt, hc⟩
  · exact .inl h
  · exact .inr ⟨b, o, rfl, by have := hb.size; omega, fun j hj => by rw [hb.cell (p := ⟨b, o + j, none⟩) hlt]; exact hc j hj⟩

/-- What Get and two Sets tell of a place. -/
theorem refused (s : List Int) (p n : Int) :
    (inB p n = false ∧ getN s p n = 0 ∧ getE s p n = 10 ∧ setS s p n 0 = Zs ∧ setE p n 0 = 10 ∧ setS s p n (-1) = Zs ∧ setE p n (-1) = 10) ∨
    (inB p n = true ∧ setE p n 0 = 0 ∧ setE p n (-1) = 11 ∧ setS s p n (-1) = Zs ∧ (getE s p n = 0 ∨ (getE s p n = 11 ∧ getN s p n = 0))) := by
  cases h : inB p n
  · exact .inl ⟨rfl, by simp [getN, h], by simp [getE, h], by simp [setS, h], by simp [setE, h], by simp [setS, h], by simp [setE, h]⟩
  · have h' := of_decide_eq_true h
    have f0 : fitB 0 n = true := fitB_true ⟨by omega, by decide, Int.pow_pos (by decide)⟩
    have f1 : fitB (-1) n = false := fitB_false (by omega)
    refine .inr ⟨rfl, by simp [setE, h, f0], by simp [setE, h, f1], by simp [setS, f1], ?_⟩
    by_cases ht : numAt s p.toNat n.toNat ≤ top
    · exact .inl (by simp [getE, h, ht])
    · exact .inr ⟨by simp [getE, h, ht], by simp [getN, ht]⟩

set_option maxRecDepth 100000 in
set_option maxHeartbeats 1000000 in
theorem refuses_walk (s : List Int) (p n : Int) (zs : List Int) (ad : Option Addr) (cap : Nat) (w : World) (hs : IsSec s) (hz : BytesAt w ad zs) :
    Calls Try.prog 5 #[.agg (SA s), .agg #[.int .i64 p, .int .i64 n], .slice ad zs.length cap] w fun e w' => e = .returned (.bool true) ∧ Below w.heap.size w w' := by
  have hz0 := zero_sec
  have hgd := guard_sec
  have HC := hid (refused s p n)
  have HG := hid fun w => get_any s p n w hs
  have HS0 := hid fun w => set_any s p n 0 w hs.1
  have HS1 := hid fun w => set_any s p n (-1) w hs.1
  have hT := setS_len s p n 0 hs.1
  have hU := setS_len s p n (-1) hs.1
  have HSP : Hid (∀ w', BytesAt w' ad zs → Calls Try.prog 15 #[.agg (SA s), .int .i64 p, .slice ad zs.length cap] w' fun e w'' => e = .returned (.tuple #[.agg (SA (splS s p zs)), .int .i64 (splE p zs)]) ∧ Below w'.heap.size w' w'') :=
    fun w' h => splice_any s p zs ad cap w' hs.1 h
  have HV : Hid ((liesB p zs.length = true ∧ splE p zs = 0) ∨ (liesB p zs.length = false ∧ splE p zs = 10 ∧ splS s p zs = Zs)) := by
    cases h : liesB p zs.length
    · exact .inr ⟨rfl, by simp [splE, h], by simp [splS, h]⟩
    · exact .inl ⟨rfl, by simp [splE, h]⟩
  have hV : (splS s p zs).length = 128 := by
    unfold splS
    split
    · rename_i h
      have h' := of_decide_eq_true h
      rw [spl_len _ _ _ (by rw [hs.1]; omega), hs.1]
    · exact Zs_len
  have HZ := hid hz
  clear hz
  generalize getN s p n = gn at *
  generalize getE s p n = ge at *
  generalize setS s p n 0 = T at *
  generalize setS s p n (-1) = U at *
  generalize setE p n 0 = te at *
  generalize setE p n (-1) = ue at *
  generalize splS s p zs = V at *
  generalize splE p zs = ve at *
  generalize zs.length = L at *
  have HO : Hid (((w.alloc (.cells (SA s) 23)).alloc (.cells #[.int .i64 p, .int .i64 n] 36)).heap[w.heap.size]? = some (.cells (SA s) 23 (0, 0))) := heap_alloc2_old w _ _
  go_enter Try.func5, Try.ntmps5
  go_upto_region 3 with fail
  go_cut [9] (fun x wc => x = .bool (inB p n) ∧ wc = ((w.alloc (.cells (SA s) 23)).alloc (.cells #[.int .i64 p, .int .i64 n] 36)))
  case first =>
    by_cases h1 : 1 ≤ n
    · by_cases h2 : n ≤ 8
      · by_cases h3 : 0 ≤ p
        · by_cases h4 : p ≤ 128 - n
          · go_wp2_with fail
            go_meet
            case rel => exact ⟨by rw [inB_true ⟨h1, h2, h3, h4⟩], rfl⟩
          · go_wp2_with fail
            go_meet
            case rel => exact ⟨by rw [inB_false (by omega)], rfl⟩
        · go_wp2_with fail
          go_meet
          case rel => exact ⟨by rw [inB_false (by omega)], rfl⟩
      · go_wp2_with fail
        go_meet
        case rel => exact ⟨by rw [inB_false (by omega)], rfl⟩
    · go_wp2_with fail
      go_meet
      case rel => exact ⟨by rw [inB_false (by omega)], rfl⟩
  case rest =>
    obtain ⟨rfl, rfl⟩ := hcut
    generalize inB p n = fit at *
    go_wp2_with (refine load_sec rfl _ rfl w.heap.size rfl s hs.1 HO.out ?_)
    refine (HG.out _).mono ?_
    rintro e' w1 ⟨rfl, hb1⟩
    have HA1 := kept_below hb1 HO (by simp)
    have b1 : Below w.heap.size w w1 := (((Below.refl _ _).alloc (Nat.le_refl _) _).alloc (by simp) _).trans (hb1.mono (by simp; omega))
    have z1 : w.heap.size + 1 ≤ w1.heap.size := by have := hb1.size; simp at this; omega
    clear hb1 HO HG
    go_wp2_with (refine load_sec rfl _ rfl w.heap.size rfl s hs.1 HA1.out ?_)
    refine (HS0.out _).mono ?_
    rintro e' w2 ⟨rfl, hb2⟩
    have HA2 := kept_below hb2 HA1 z1
    have b2 : Below w.heap.size w w2 := b1.trans (hb2.mono (by omega))
    have z2 : w.heap.size + 1 ≤ w2.heap.size := by have := hb2.size; omega
    clear hb2 HA1 HS0 b1 z1
    go_wp2_with (first | (refine store_sec rfl _ _ rfl w2.heap.size rfl T rfl hT Zs Zs_len (heap_alloc_new _ _) ?_; intro w3 hw3; have HA3 := kept_wrote hw3 HA2 z2) | refine load_sec rfl _ rfl w.heap.size rfl s hs.1 HA3.out ?_)
    have HT3 := hid hw3.here
    have Z3 : Hid (w3.heap.size = w2.heap.size + 1) := by show _ = _; rw [hw3.size]; simp
    have b3 : Below w.heap.size w w3 := hw3.below (b2.alloc (by omega) _) (by omega)
    clear hw3
    refine (HS1.out _).mono ?_
    rintro e' w4 ⟨rfl, hb4⟩
    have HA4 := kept_below hb4 HA3 (by have := Z3.out; omega)
    have HT4 := kept_below hb4 HT3 (by have := Z3.out; omega)
    have b4 : Below w.heap.size w w4 := b3.trans (hb4.mono (by have := Z3.out; omega))
    have z4 : w2.heap.size + 1 ≤ w4.heap.size := by have := hb4.size; have := Z3.out; omega
    clear hb4 HA3 HT3 HS1 b2 b3 Z3 HA2
    go_upto_region 7 with (refine store_sec rfl _ _ rfl w4.heap.size rfl U rfl hU Zs Zs_len (heap_alloc_new _ _) ?_; intro w5 hw5)
    have HA5 := kept_wrote hw5 HA4 (by omega)
    have HT5 := kept_wrote hw5 HT4 z4
    have HU5 := hid hw5.here
    have z5 : w4.heap.size + 1 ≤ w5.heap.size := by rw [hw5.size]; simp
    have b5 : Below w.heap.size w w5 := hw5.below (b4.alloc (by omega) _) (by omega)
    clear hw5 HA4 HT4 b4
    go_cut [87] (fun x wc => x = .bool false ∧ w5 = wc)
    case first =>
      rcases HC.out with ⟨rfl, rfl, rfl, rfl, rfl, rfl, rfl⟩ | ⟨rfl, rfl, rfl, rfl, hh⟩
      · have hq := eq_sec Zs Zs Zs_len Zs_len
        rw [decide_eq_true rfl] at hq
        go_wp2_with (first | refine load_sec_g _ rfl w2.heap.size rfl Zs Zs_len HT5.out rfl ?_ | refine load_sec_g _ rfl w4.heap.size rfl Zs Zs_len HU5.out rfl ?_)
        go_meet
        case rel => exact ⟨rfl, rfl⟩
      · clear hh
        go_wp2_with fail
        go_meet
        case rel => exact ⟨rfl, rfl⟩
    case rest =>
      obtain ⟨rfl, rfl⟩ := hcut
      go_upto_region 9 with fail
      go_cut [113] (fun x wc => x = .bool false ∧ w5 = wc)
      case first =>
        rcases HC.out with ⟨rfl, rfl, rfl, rfl, rfl, rfl, rfl⟩ | ⟨rfl, rfl, rfl, rfl, hh⟩
        · go_wp2_with fail
          go_meet
          case rel => exact ⟨rfl, rfl⟩
        · have hq := eq_sec Zs Zs Zs_len Zs_len
          rw [decide_eq_true rfl] at hq
          rcases hh with rfl | ⟨rfl, rfl⟩
          · go_wp2_with (refine load_sec_g _ rfl w4.heap.size rfl Zs Zs_len HU5.out rfl ?_)
            go_meet
            case rel => exact ⟨rfl, rfl⟩
          · go_wp2_with (refine load_sec_g _ rfl w4.heap.size rfl Zs Zs_len HU5.out rfl ?_)
            go_meet
            case rel => exact ⟨rfl, rfl⟩
      case rest =>
        obtain ⟨rfl, rfl⟩ := hcut
        have HB5 := hid (bytes_below HZ.out b5)
        clear HC HT5 HU5
        go_wp2_with (refine load_sec rfl _ rfl w.heap.size rfl s hs.1 HA5.out ?_)
        refine (HSP.out _ HB5.out).mono ?_
        rintro e' w6 ⟨rfl, hb6⟩
        have HA6 := kept_below hb6 HA5 (by omega)
        have b6 : Below w.heap.size w w6 := b5.trans (hb6.mono (by omega))
        have z6 : w.heap.size + 1 ≤ w6.heap.size := by have := hb6.size; omega
        clear hb6 HA5 HSP HB5 HZ b5
        go_upto_region 12 with (refine store_sec rfl _ _ rfl w6.heap.size rfl V rfl hV Zs Zs_len (heap_alloc_new _ _) ?_; intro w7 hw7)
        have HA7 := kept_wrote hw7 HA6 z6
        have HV7 := hid hw7.here
        have z7 : w6.heap.size + 1 ≤ w7.heap.size := by rw [hw7.size]; simp
        have b7 : Below w.heap.size w w7 := hw7.below (b6.alloc (by omega) _) (by omega)
        clear hw7 HA6 b6
        go_cut [18] (fun x wc => x = .bool (liesB p L) ∧ w7 = wc)
        case first =>
          by_cases h1 : 0 ≤ p
          · by_cases h2 : p ≤ 128
            · by_cases h3 : (L : Int) ≤ 128 - p
              · go_wp2_with fail
                go_meet
                case rel => exact ⟨by rw [liesB_true ⟨h1, h2, h3⟩], rfl⟩
              · go_wp2_with fail
                go_meet
                case rel => exact ⟨by rw [liesB_false (by omega)], rfl⟩
            · go_wp2_with fail
              go_meet
              case rel => exact ⟨by rw [liesB_false (by omega)], rfl⟩
          · go_wp2_with fail
            go_meet
            case rel => exact ⟨by rw [liesB_false (by omega)], rfl⟩
        case rest =>
          obtain ⟨rfl, rfl⟩ := hcut
          generalize liesB p L = lies at *
          go_upto_region 13 with fail
          go_cut [151] (fun x wc => x = .bool false ∧ w7 = wc)
          case first =>
            rcases HV.out with ⟨rfl, rfl⟩ | ⟨rfl, rfl, rfl⟩
            · go_wp2_with fail
              go_meet
              case rel => exact ⟨rfl, rfl⟩
            · have hq := eq_sec Zs Zs Zs_len Zs_len
              rw [decide_eq_true rfl] at hq
              go_wp2_with (refine load_sec_g _ rfl w6.heap.size rfl Zs Zs_len HV7.out rfl ?_)
              go_meet
              case rel => exact ⟨rfl, rfl⟩
          case rest =>
            obtain ⟨rfl, rfl⟩ := hcut
            have HB7 : Hid (Below w.heap.size w (w7.alloc (.cells (SA s) 23))) := b7.alloc (by omega) _
            have HJ : Hid (Calls Try.prog 10 #[.int .i64 p, .slice (some ⟨w7.heap.size, 0, none⟩) 1 1] (w7.alloc (.cells (SA s) 23)) fun e w' => e = .returned (.slice (some ⟨w7.heap.size + 1, 0, none⟩) (joinN p 1) (joinN p 1)) ∧ Below (w7.heap.size + 1) (w7.alloc (.cells (SA s) 23)) w') := by
              have h := join_any p (some ⟨w7.heap.size, 0, none⟩) 1 1 s (w7.alloc (.cells (SA s) 23)) hs.1 (by decide) (.inr ⟨w7.heap.size, 0, rfl, by simp, fun j hj => by rw [Nat.zero_add]; exact SA_cell _ _ _ _ hj⟩)
              rw [show (w7.alloc (.cells (SA s) 23)).heap.size = w7.heap.size + 1 by simp] at h
              refine h.mono ?_
              rintro e w' ⟨rfl, _, _, h2⟩
              exact ⟨rfl, h2⟩
            have hjl : ((joinN p 1 : Nat) : Int) = min (max p 0) 128 := by unfold joinN; omega
            have HJL := hid hjl
            have hj0 : 0 ≤ ((joinN p 1 : Nat) : Int) := by omega
            have hj1 : ((joinN p 1 : Nat) : Int) ≤ 128 := by omega
            clear hjl
            generalize joinN p 1 = J at *
            go_wp2_with (first | refine load_sec rfl _ rfl w.heap.size rfl s hs.1 HA7.out ?_ | refine slice_one rfl _ rfl s hs.1 rfl ?_)
            refine HJ.out.mono ?_
            rintro e' w8 ⟨rfl, hb8⟩
            have b8 : Below w.heap.size w w8 := HB7.out.trans (hb8.mono (by omega))
            have z8 := b8.size
            by_cases c1 : p < 0
            · have hJ : (J : Int) = 0 := by have := HJL.out; omega
              go_wp2_with (go_at_call 8; refine (known_any _).mono ?_; rintro e w9 ⟨rfl, hb9⟩)
              go_ret
              exact ⟨rfl, b8.trans (hb9.mono z8)⟩
            · by_cases c2 : 128 < p
              · have hJ : (J : Int) = 128 := by have := HJL.out; omega
                go_wp2_with (go_at_call 8; refine (known_any _).mono ?_; rintro e w9 ⟨rfl, hb9⟩)
                go_ret
                exact ⟨rfl, b8.trans (hb9.mono z8)⟩
              · have hJ : (J : Int) = p := by have := HJL.out; omega
                go_wp2_with (go_at_call 8; refine (known_any _).mono ?_; rintro e w9 ⟨rfl, hb9⟩)
                go_ret
                exact ⟨rfl, b8.trans (hb9.mono z8)⟩

end Go.Proofs.Ytibneoajkbblaab
