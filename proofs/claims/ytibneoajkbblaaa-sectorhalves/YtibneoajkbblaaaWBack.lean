/-
  SectorBack returns true, for every sector, place and number: the walk.
-/
import Derived.Test.YtibneoajkbblaaaPlain2
import Derived.Test.YtibneoajkbblaaaWPick
import Derived.Test.YtibneoajkbblaaaWKnown
namespace Go.Proofs.Ytibneoajkbblaaa
open Go.RowKit

/-- What the Go text calls left, ahead of byte i. -/
def leftAt (N : Int) (P W i : Nat) : Int := N / 256 ^ (min (i - P) W)
theorem leftAt_bd {N : Int} (h0 : 0 ≤ N) (h1 : N < top) (P W i : Nat) : 0 ≤ leftAt N P W i ∧ leftAt N P W i ≤ 4611686018427387904 := by
  unfold leftAt
  have hp : (0 : Int) < 256 ^ (min (i - P) W) := Int.pow_pos (by decide)
  have h2 := Int.ediv_le_self (b := 256 ^ (min (i - P) W)) h0
  rw [top_eq] at h1
  exact ⟨Int.ediv_nonneg h0 (by omega), by omega⟩
theorem leftAt_step {N : Int} (P W i : Nat) (h : P ≤ i ∧ i < P + W) : leftAt N P W i / 256 = leftAt N P W (i + 1) := by
  unfold leftAt
  rw [show min (i - P) W = i - P by omega, show min (i + 1 - P) W = i - P + 1 by omega, Int.pow_succ, Int.ediv_ediv_of_nonneg (Int.pow_nonneg (by decide))]
theorem leftAt_stay {N : Int} (P W i : Nat) (h : ¬ (P ≤ i ∧ i < P + W)) : leftAt N P W i = leftAt N P W (i + 1) := by
  unfold leftAt
  rw [show min (i - P) W = min (i + 1 - P) W by omega]
theorem leftAt_in {N : Int} (P W i : Nat) (h : P ≤ i ∧ i < P + W) : leftAt N P W i = N / 256 ^ (i - P) := by
  unfold leftAt
  rw [show min (i - P) W = i - P by omega]

/-- A block that was there stands, behind a new one that is written. -/
theorem kept_wrote {w w' : World} {o : Obj} {g : Nat} {c : List Int} {x : Option Obj} (h : Wrote (w.alloc o) w.heap.size c w') (hx : Hid (w.heap[g]? = x)) (hg : g + 1 ≤ w.heap.size) : Hid (w'.heap[g]? = x) := by
  show _ = _
  rw [h.other _ (by omega), Below.heap_alloc _ _ _ (by omega)]
  exact hx.out
/-- A block that was there stands behind a call. -/
theorem kept_below {w w' : World} {B g : Nat} {x : Option Obj} (h : Below B w w') (hx : Hid (w.heap[g]? = x)) (hg : g + 1 ≤ B) : Hid (w'.heap[g]? = x) := by
  show _ = _
  rw [h.block _ (by omega)]
  exact hx.out

set_option maxRecDepth 100000 in
set_option maxHeartbeats 1000000 in
theorem back_walk (s : List Int) (a b v : Int) (w : World) (hs : IsSec s) (ha : I64 a) (hb : I64 b) (hv : I64 v) :
    Calls Try.prog 6 #[.agg (SA s), .agg #[.int .i64 a, .int .i64 b], .int .i64 v] w fun e w' => e = .returned (.bool true) ∧ Below w.heap.size w w' := by
  have HSP := hid fun w => spot_any a b w ha hb
  have hP := spP_bd a b
  have hW := spW_bd b
  generalize spP a b = P at *
  generalize spW b = W at *
  have HVL := hid fun w => value_any v W w hv hW.1 hW.2
  have hN := valN_bd v hW.1 hW.2
  have hfit := valN_fit v hW.1 hW.2
  generalize valN v W = N at *
  have hin : inB P W = true := inB_true (by omega)
  have hbk := back hs hin hfit
  have HST := hid fun w => set_any s P W N w hs.1
  have hT := setS_sec hs P W N
  have HST2 := hid fun w => set_any (setS s P W N) P W N w hT.1
  have HGT := hid fun w => get_any (setS s P W N) P W w hT
  rw [hbk.1] at HST HST2
  rw [hbk.2.1] at HST2
  rw [hbk.2.2.1, hbk.2.2.2.1] at HGT
  have HTG := hid hbk.2.2.2.2
  generalize setS s P W N = T at *
  have hz := zero_sec
  have HO : Hid (((w.alloc (.cells (SA s) 26)).alloc (.cells #[.int .i64 a, .int .i64 b] 42)).heap[w.heap.size]? = some (.cells (SA s) 26 (0, 0))) := heap_alloc2_old w _ _
  have hq := eq_sec T T hT.1 hT.1
  rw [decide_eq_true rfl] at hq
  have hgd := guard_sec
  clear hbk hfit ha hb hv
  go_enter Try.func6, Try.ntmps6
  go_wp2_with (first | (go_at_call 20; refine (HSP.out _).mono ?_; rintro e w' ⟨rfl, rfl⟩) | (go_at_call 21; refine (HVL.out _).mono ?_; rintro e w' ⟨rfl, rfl⟩) | refine load_sec rfl _ rfl w.heap.size rfl s hs.1 HO.out ?_)
  refine (HST.out _).mono ?_
  rintro e w1 ⟨rfl, hb1⟩
  have z1 : w.heap.size + 2 ≤ w1.heap.size := by simpa using hb1.size
  have HS1 : Hid (w1.heap[w.heap.size]? = some (.cells (SA s) 26 (0, 0))) := by
    show _ = _
    rw [hb1.block _ (by simp; omega)]
    exact HO.out
  have b1 : Below w.heap.size w w1 := (((Below.refl _ _).alloc (Nat.le_refl _) _).alloc (by simp) _).trans (hb1.mono (by simp; omega))
  clear hb1 HO
  go_wp2_with (first | (refine store_sec rfl _ _ rfl w1.heap.size rfl T rfl hT.1 Zs Zs_len (heap_alloc_new _ _) ?_; intro w2 hw2) | refine load_sec rfl _ rfl w1.heap.size rfl T hT.1 hw2.here ?_)
  have z2 : w2.heap.size = w1.heap.size + 1 := by rw [hw2.size]; simp
  have Z2 := hid z2
  have HS2 : Hid (w2.heap[w.heap.size]? = some (.cells (SA s) 26 (0, 0))) := by
    show _ = _
    rw [hw2.other _ (by omega), Below.heap_alloc _ _ _ (by omega)]
    exact HS1.out
  have HT2 := hid hw2.here
  have b2 : Below w.heap.size w w2 := hw2.below (b1.alloc (by omega) _) (by omega)
  clear z2 hw2
  refine (HST2.out _).mono ?_
  rintro e w3 ⟨rfl, hb3⟩
  have z3 : w1.heap.size + 1 ≤ w3.heap.size := by have := hb3.size; have := Z2.out; omega
  have HS3 : Hid (w3.heap[w.heap.size]? = some (.cells (SA s) 26 (0, 0))) := by
    show _ = _
    rw [hb3.block _ (by have := Z2.out; omega)]
    exact HS2.out
  have HT3 : Hid (w3.heap[w1.heap.size]? = some (.cells (SA T) 26 (0, 0))) := by
    show _ = _
    rw [hb3.block _ (by have := Z2.out; omega)]
    exact HT2.out
  have b3 : Below w.heap.size w w3 := b2.trans (hb3.mono (by have := Z2.out; omega))
  clear hb3 HS2 HT2 Z2 HS1
  go_wp2_with (first | (refine store_sec rfl _ _ rfl w3.heap.size rfl T rfl hT.1 Zs Zs_len (heap_alloc_new _ _) ?_; intro w4 hw4; have HT4 := kept_wrote hw4 HT3 z3) | refine load_sec rfl _ rfl w1.heap.size rfl T hT.1 HT4.out ?_)
  have Z4 : Hid (w4.heap.size = w3.heap.size + 1) := by show _ = _; rw [hw4.size]; simp
  have HS4 : Hid (w4.heap[w.heap.size]? = some (.cells (SA s) 26 (0, 0))) := by
    show _ = _
    rw [hw4.other _ (by omega), Below.heap_alloc _ _ _ (by omega)]
    exact HS3.out
  have HU4 := hid hw4.here
  have b4 : Below w.heap.size w w4 := hw4.below (b3.alloc (by omega) _) (by omega)
  clear hw4 HS3 HT3
  refine (HGT.out _).mono ?_
  rintro e w5 ⟨rfl, hb5⟩
  have HS5 : Hid (w5.heap[w.heap.size]? = some (.cells (SA s) 26 (0, 0))) := by
    show _ = _
    rw [hb5.block _ (by have := Z4.out; omega)]
    exact HS4.out
  have HT5 : Hid (w5.heap[w1.heap.size]? = some (.cells (SA T) 26 (0, 0))) := by
    show _ = _
    rw [hb5.block _ (by have := Z4.out; omega)]
    exact HT4.out
  have HU5 : Hid (w5.heap[w3.heap.size]? = some (.cells (SA T) 26 (0, 0))) := by
    show _ = _
    rw [hb5.block _ (by have := Z4.out; omega)]
    exact HU4.out
  have b5 : Below w.heap.size w w5 := b4.trans (hb5.mono (by have := Z4.out; omega))
  clear hb5 HS4 HT4 HU4 Z4 b1 b2 b3 b4
  have hnn : (N != N) = false := by simp
  go_wp2_with (first | refine load_sec_g _ rfl w1.heap.size rfl T hT.1 HT5.out rfl ?_ | refine load_sec_g _ rfl w3.heap.size rfl T hT.1 HU5.out rfl ?_)
  clear hq hgd hz hnn HGT HST HST2 HVL HSP HU5
  go_loop [16, 17] (fun l i => ∃ k : Nat, k ≤ 128 ∧ i = .int .i64 k ∧ l = .int .i64 (leftAt N P.toNat W.toNat k)) (fun _ i => 128 - (intOf i).toNat)
  case atStart => exact ⟨0, by omega, rfl, by simp [leftAt]⟩
  case round =>
    obtain ⟨k, hk, rfl, rfl⟩ := hrel
    have hl := leftAt_bd hN.1 hN.2.1 P.toNat W.toNat k
    by_cases hlt : k < 128
    · have hcs := sec_cell HS5.out k (by rw [hs.1]; exact hlt)
      have hct := sec_cell HT5.out k (by rw [hT.1]; exact hlt)
      have hg := HTG.out k
      by_cases c : P.toNat ≤ k ∧ k < P.toNat + W.toNat
      · rw [if_pos c, ← leftAt_in _ _ _ c] at hg
        rw [hg] at hct
        have HS := hid (leftAt_step (N := N) P.toNat W.toNat k c)
        have c1 : P ≤ (k : Int) := by omega
        have c2 : (k : Int) < P + W := by omega
        clear hg c
        go_wp2
        exact ⟨⟨k + 1, by omega, by go_num, by rw [HS.out]⟩, by simp [intOf]; omega⟩
      · rw [if_neg c] at hg
        rw [hg] at hct
        have HS := hid (leftAt_stay (N := N) P.toNat W.toNat k c)
        by_cases c1 : P ≤ (k : Int)
        · have c2 : ¬ (k : Int) < P + W := by omega
          clear hg c
          go_wp2
          exact ⟨⟨k + 1, by omega, by go_num, by rw [← HS.out]⟩, by simp [intOf]; omega⟩
        · clear hg c
          go_wp2
          exact ⟨⟨k + 1, by omega, by go_num, by rw [← HS.out]⟩, by simp [intOf]; omega⟩
    · have hz : (leftAt N P.toNat W.toNat k == 0) = true := by
        have e : min (k - P.toNat) W.toNat = W.toNat := by omega
        rw [beq_iff_eq, leftAt, e]
        exact Int.ediv_eq_zero_of_lt hN.1 hN.2.2
      go_wp2_with (go_at_call 9; refine (known_any _).mono ?_; rintro e w6 ⟨rfl, hb6⟩)
      go_ret
      exact ⟨rfl, b5.trans (hb6.mono (by have := b5.size; omega))⟩

end Go.Proofs.Ytibneoajkbblaaa
