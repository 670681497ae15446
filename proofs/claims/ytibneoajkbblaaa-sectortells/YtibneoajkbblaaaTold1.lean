/-
  A step that is told: the arm of Set.
-/
import Derived.Test.YtibneoajkbblaaaTold
namespace Go.Proofs.Ytibneoajkbblaaa
open Go.RowKit

abbrev stepB (w : World) (kd : Int) (s : List Int) (p n v : Int) (ad : Option Addr) (L cap : Nat) : Nat × Obj := (w.heap.size, .cells (stepC kd s p n v ad L cap) 29 (0, 0))
theorem step_start (w : World) (kd : Int) (s : List Int) (p n v : Int) (ad : Option Addr) (L cap : Nat) : HB w [stepB w kd s p n v ad L cap] (w.alloc (.cells (stepC kd s p n v ad L cap) 29)) :=
  (show HB w [] w from ⟨by simp, by simp, Below.refl _ _⟩).alloc _

set_option maxRecDepth 100000 in
set_option maxHeartbeats 1000000 in
theorem told_1 (kd : Int) (s : List Int) (p n v : Int) (ad : Option Addr) (L cap : Nat) (w : World) (hs : IsSec s)
    (HPK : Hid (∀ w, Calls Try.prog 24 #[.int .i64 kd, .int .i64 5] w fun e w' => e = .returned (.int .i64 1) ∧ w' = w)) :
    Calls Try.prog 10 #[.agg (stepC kd s p n v ad L cap)] w fun e w' => e = .returned (.bool true) ∧ Below w.heap.size w w' := by
  have hz := zero_sec
  have hgd := guard_sec
  have HB0 := hid (step_start w kd s p n v ad L cap)
  have hk := step_kind (HB0.out.get (List.mem_singleton.2 rfl))
  have hp := step_p hs.1 (HB0.out.get (List.mem_singleton.2 rfl))
  have hn := step_n hs.1 (HB0.out.get (List.mem_singleton.2 rfl))
  have hv := step_v hs.1 (HB0.out.get (List.mem_singleton.2 rfl))
  have HG := hid fun w => set_any s p n v w hs.1
  have HR := hid fun w => rset_any s p n v w hs.1
  have hA := setS_len s p n v hs.1
  generalize setS s p n v = A at *
  generalize setE p n v = ge at *
  have hq := eq_sec A A hA hA
  rw [decide_eq_true rfl] at hq
  go_enter Try.func10, Try.ntmps10
  go_wp2_with (first | (go_at_call 24; refine (HPK.out _).mono ?_; rintro e w' ⟨rfl, rfl⟩) | refine load_mid rfl _ rfl w.heap.size 1 rfl s hs.1 (step_s (HB0.out.get (List.mem_singleton.2 rfl))) ?_)
  refine (HG.out _).mono ?_
  rintro e w1 ⟨rfl, hb1⟩
  have HB1 := hid (HB0.out.call hb1)
  clear hb1 HB0 HG hk hp hn hv
  have g1 := HB1.out.old.size
  go_upto_region 8 with (refine store_sec rfl _ _ rfl w1.heap.size rfl A rfl hA Zs Zs_len (heap_alloc_new _ _) ?_; intro w2 hw2)
  have HB2 := hid ((HB1.out.alloc _).write hw2 g1 HB1.out.fresh)
  clear hw2 HB1
  generalize w1.heap.size = ga at *
  have hm2 := HB2.out.get (g := w.heap.size) (o := .cells (stepC kd s p n v ad L cap) 29 (0, 0)) (by simp)
  have hp := step_p hs.1 hm2
  have hn := step_n hs.1 hm2
  have hv := step_v hs.1 hm2
  have HM2 := hid hm2
  clear hm2
  go_wp2_with (refine load_mid rfl _ rfl w.heap.size 1 rfl s hs.1 (step_s HM2.out) ?_)
  refine (HR.out _).mono ?_
  rintro e w3 ⟨rfl, hb3⟩
  have HB3 := hid (HB2.out.call hb3)
  clear hb3 HB2 HR hp hn hv HM2
  have g3 := HB3.out.old.size
  go_wp2_with (first | (refine store_sec rfl _ _ rfl w3.heap.size rfl A rfl hA Zs Zs_len (heap_alloc_new _ _) ?_; intro w4 hw4; have HB4 := hid ((HB3.out.alloc _).write hw4 g3 HB3.out.fresh); clear hw4) | refine load_sec rfl _ rfl ga rfl A hA (HB4.out.get (by simp)) ?_ | refine load_sec rfl _ rfl w3.heap.size rfl A hA (HB4.out.get (by simp)) ?_)
  go_ret
  exact ⟨by simp, HB4.out.old⟩

end Go.Proofs.Ytibneoajkbblaaa
