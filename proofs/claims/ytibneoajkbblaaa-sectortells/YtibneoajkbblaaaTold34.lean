/-
  A step that is told: the arms of Wipe and Zero.
-/
import Derived.Test.YtibneoajkbblaaaTold1
import Derived.Test.YtibneoajkbblaaaWZero
namespace Go.Proofs.Ytibneoajkbblaaa
open Go.RowKit

section
variable {ops : Array Oper} {Q : Exit → Act → World → Prop} {S : World → Prop} {fuel : Nat} {listed : Array Bool} {a : Act} {w : World}
/-- A sector in the midst of a block is loaded. -/
theorem takeMid (i d : Nat) (x : Operand) (g k : Nat) (c : List Int) (hc : c.length = 128) {o : Oper} (hop : ops[i]? = some o) (hs : Region.noSelect ops = true) (hf : Region.free .any ops listed i = true) (hr : (Region.ready .any ops listed).contains i = true)
    (hd : o.dst = some d) (ho : o.op = .load 26 x) (hx : a.eval x = .pointer (some ⟨g, k, none⟩)) (hw : Region.wanted o (yielded ops a.tmps) = true) (hQ : ∀ c a w, ¬ Q (.panic c) a w) (hS : S w)
    (hg : ∀ w, S w → w.rangeAt g k (c.map (Value.int .u8)))
    (h : wpAnyH Try.prog .any ops Q S fuel (listed.setIfInBounds i true) { a with tmps := a.tmps.setIfInBounds d (.agg (SA c)) } w) : wpAnyH Try.prog .any ops Q S (fuel + 1) listed a w := by
  refine takeVal i d (.agg (SA c)) hop hs hf hr hd hw hQ hS (fun w hw' => ?_) h
  unfold execOp
  simp only [ho, hx, Instr.loadAt, Instr.sureAddr, Sem.run_bind, Sem.run_pure, Result.andThen_ok, run_loadVar_mid w g k 26 (c.map (Value.int .u8)) _ (hg w hw') Try.underlying26 rfl (by rw [sz26, List.length_map, hc])]
  rfl
end

set_option maxRecDepth 100000 in
set_option maxHeartbeats 1000000 in
theorem told_3 (kd : Int) (s : List Int) (p n v : Int) (ad : Option Addr) (L cap : Nat) (w : World) (hs : IsSec s)
    (HPK : Hid (∀ w, Calls Try.prog 24 #[.int .i64 kd, .int .i64 5] w fun e w' => e = .returned (.int .i64 3) ∧ w' = w)) :
    Calls Try.prog 10 #[.agg (stepC kd s p n v ad L cap)] w fun e w' => e = .returned (.bool true) ∧ Below w.heap.size w w' := by
  have hz := zero_sec
  have hgd := guard_sec
  have HB0 := hid (step_start w kd s p n v ad L cap)
  have hk := step_kind (HB0.out.get (List.mem_singleton.2 rfl))
  have HW := hid fun w => wipe_any s v w hs.1
  have HWR := hid fun w => rwipe_any s v w hs.1
  have HZ := hid fun w => zero_any s hs.1 w
  have HZR := hid fun w => rzero_any s hs.1 w
  have hA := wip_len s v hs.1
  generalize wip s v = A at *
  generalize decide (s = Zs) = q at *
  have hq := eq_sec A A hA hA
  rw [decide_eq_true rfl] at hq
  go_enter Try.func10, Try.ntmps10
  go_wp2_with (go_at_call 24; refine (HPK.out _).mono ?_; rintro e w' ⟨rfl, rfl⟩)
  refine wp_region_noPanic ?_
  refine wp_region_held_drew (S := HB w [stepB w kd s p n v ad L cap]) (by kernel_rfl) HB0.out.drew (fun hHeld => ?_)
  clear hk
  refine takeVal 0 128 (.pointer (some ⟨w.heap.size, 1, none⟩)) rfl (by kernel_rfl) (by kernel_rfl) (by kernel_rfl) rfl (by rfl) (fun _ _ _ h => h) hHeld (fun _ hw' => by go_simp) ?_
  simp only [List.setIfInBounds_toArray, List.set_cons_zero, List.set_cons_succ]
  refine takeMid 1 129 (.tmp 128) (w.heap.size) 1 s hs.1 rfl (by kernel_rfl) (by kernel_rfl) (by kernel_rfl) rfl rfl rfl (by rfl) (fun _ _ _ h => h) hHeld (fun _ h => step_s (h.get (List.mem_singleton.2 rfl))) ?_
  simp only [List.setIfInBounds_toArray, List.set_cons_zero, List.set_cons_succ]
  refine takeVal 2 130 (.pointer (some ⟨w.heap.size, 131, none⟩)) rfl (by kernel_rfl) (by kernel_rfl) (by kernel_rfl) rfl (by rfl) (fun _ _ _ h => h) hHeld (fun _ hw' => by go_simp) ?_
  simp only [List.setIfInBounds_toArray, List.set_cons_zero, List.set_cons_succ]
  refine takeVal 3 131 (.int .i64 v) rfl (by kernel_rfl) (by kernel_rfl) (by kernel_rfl) rfl (by rfl) (fun _ _ _ h => h) hHeld (fun _ hw' => by have hc := step_v hs.1 (hw'.get (List.mem_singleton.2 rfl)); go_simp) ?_
  simp only [List.setIfInBounds_toArray, List.set_cons_zero, List.set_cons_succ]
  refine takeVal 5 133 (.pointer (some ⟨w.heap.size, 1, none⟩)) rfl (by kernel_rfl) (by kernel_rfl) (by kernel_rfl) rfl (by rfl) (fun _ _ _ h => h) hHeld (fun _ hw' => by go_simp) ?_
  simp only [List.setIfInBounds_toArray, List.set_cons_zero, List.set_cons_succ]
  refine takeMid 6 134 (.tmp 133) (w.heap.size) 1 s hs.1 rfl (by kernel_rfl) (by kernel_rfl) (by kernel_rfl) rfl rfl rfl (by rfl) (fun _ _ _ h => h) hHeld (fun _ h => step_s (h.get (List.mem_singleton.2 rfl))) ?_
  simp only [List.setIfInBounds_toArray, List.set_cons_zero, List.set_cons_succ]
  refine takeVal 7 135 (.pointer (some ⟨w.heap.size, 131, none⟩)) rfl (by kernel_rfl) (by kernel_rfl) (by kernel_rfl) rfl (by rfl) (fun _ _ _ h => h) hHeld (fun _ hw' => by go_simp) ?_
  simp only [List.setIfInBounds_toArray, List.set_cons_zero, List.set_cons_succ]
  refine takeVal 8 136 (.int .i64 v) rfl (by kernel_rfl) (by kernel_rfl) (by kernel_rfl) rfl (by rfl) (fun _ _ _ h => h) hHeld (fun _ hw' => by have hc := step_v hs.1 (hw'.get (List.mem_singleton.2 rfl)); go_simp) ?_
  simp only [List.setIfInBounds_toArray, List.set_cons_zero, List.set_cons_succ]
  refine step1 4 (by kernel_rfl) ?_
  refine stCall 4 132 30 #[.agg (SA s), .int .i64 v] _ rfl rfl (by rfl) (by go_simp) (HW.out _) ?_
  rintro e w1 ⟨rfl, hb⟩
  refine ⟨_, rfl, hHeld.call hb, ?_⟩
  have hHeld := hHeld.call hb
  simp only [List.setIfInBounds_toArray, List.set_cons_zero, List.set_cons_succ]
  clear hb
  refine step1 9 (by kernel_rfl) ?_
  refine stCall 9 137 31 #[.agg (SA s), .int .i64 v] _ rfl rfl (by rfl) (by go_simp) (HWR.out _) ?_
  rintro e w2 ⟨rfl, hb⟩
  refine ⟨_, rfl, hHeld.call hb, ?_⟩
  have hHeld := hHeld.call hb
  simp only [List.setIfInBounds_toArray, List.set_cons_zero, List.set_cons_succ]
  clear hb
  refine takeVal 10 138 (.bool true) rfl (by kernel_rfl) (by kernel_rfl) (by kernel_rfl) rfl (by rfl) (fun _ _ _ h => h) hHeld (fun _ hw' => by go_simp) ?_
  simp only [List.setIfInBounds_toArray, List.set_cons_zero, List.set_cons_succ]
  refine takeVal 11 139 (.bool true) rfl (by kernel_rfl) (by kernel_rfl) (by kernel_rfl) rfl (by rfl) (fun _ _ _ h => h) hHeld (fun _ hw' => rfl) ?_
  simp only [List.setIfInBounds_toArray, List.set_cons_zero, List.set_cons_succ]
  refine takeVal 12 140 (.pointer (some ⟨w.heap.size, 1, none⟩)) rfl (by kernel_rfl) (by kernel_rfl) (by kernel_rfl) rfl (by rfl) (fun _ _ _ h => h) hHeld (fun _ hw' => by go_simp) ?_
  simp only [List.setIfInBounds_toArray, List.set_cons_zero, List.set_cons_succ]
  refine takeMid 13 141 (.tmp 140) (w.heap.size) 1 s hs.1 rfl (by kernel_rfl) (by kernel_rfl) (by kernel_rfl) rfl rfl rfl (by rfl) (fun _ _ _ h => h) hHeld (fun _ h => step_s (h.get (List.mem_singleton.2 rfl))) ?_
  simp only [List.setIfInBounds_toArray, List.set_cons_zero, List.set_cons_succ]
  refine takeVal 15 143 (.pointer (some ⟨w.heap.size, 1, none⟩)) rfl (by kernel_rfl) (by kernel_rfl) (by kernel_rfl) rfl (by rfl) (fun _ _ _ h => h) hHeld (fun _ hw' => by go_simp) ?_
  simp only [List.setIfInBounds_toArray, List.set_cons_zero, List.set_cons_succ]
  refine takeMid 16 144 (.tmp 143) (w.heap.size) 1 s hs.1 rfl (by kernel_rfl) (by kernel_rfl) (by kernel_rfl) rfl rfl rfl (by rfl) (fun _ _ _ h => h) hHeld (fun _ h => step_s (h.get (List.mem_singleton.2 rfl))) ?_
  simp only [List.setIfInBounds_toArray, List.set_cons_zero, List.set_cons_succ]
  refine step1 14 (by kernel_rfl) ?_
  refine stCall 14 142 26 #[.agg (SA s)] _ rfl rfl (by rfl) (by go_simp) (HZ.out _) ?_
  rintro e w3 ⟨rfl, hb⟩
  refine ⟨_, rfl, hHeld.call hb, ?_⟩
  have hHeld := hHeld.call hb
  simp only [List.setIfInBounds_toArray, List.set_cons_zero, List.set_cons_succ]
  clear hb
  refine step1 17 (by kernel_rfl) ?_
  refine stCall 17 145 32 #[.agg (SA s)] _ rfl rfl (by rfl) (by go_simp) (HZR.out _) ?_
  rintro e w4 ⟨rfl, hb⟩
  refine ⟨_, rfl, hHeld.call hb, ?_⟩
  have hHeld := hHeld.call hb
  simp only [List.setIfInBounds_toArray, List.set_cons_zero, List.set_cons_succ]
  clear hb
  refine takeVal 18 146 (.bool true) rfl (by kernel_rfl) (by kernel_rfl) (by kernel_rfl) rfl (by rfl) (fun _ _ _ h => h) hHeld (fun _ hw' => by go_simp) ?_
  simp only [List.setIfInBounds_toArray, List.set_cons_zero, List.set_cons_succ]
  refine takeVal 19 147 (.bool true) rfl (by kernel_rfl) (by kernel_rfl) (by kernel_rfl) rfl (by rfl) (fun _ _ _ h => h) hHeld (fun _ hw' => by go_simp) ?_
  simp only [List.setIfInBounds_toArray, List.set_cons_zero, List.set_cons_succ]
  refine takeVal 20 2 (.bool true) rfl (by kernel_rfl) (by kernel_rfl) (by kernel_rfl) rfl (by rfl) (fun _ _ _ h => h) hHeld (fun _ hw' => rfl) ?_
  simp only [List.setIfInBounds_toArray, List.set_cons_zero, List.set_cons_succ]
  refine wpAnyH_done (by kernel_rfl) ?_ _
  refine NoPanic.normal ?_
  go_wp2_with fail
  go_ret
  exact ⟨rfl, hHeld.old⟩

set_option maxRecDepth 100000 in
set_option maxHeartbeats 1000000 in
theorem told_4 (kd : Int) (s : List Int) (p n v : Int) (ad : Option Addr) (L cap : Nat) (w : World) (hs : IsSec s)
    (HPK : Hid (∀ w, Calls Try.prog 24 #[.int .i64 kd, .int .i64 5] w fun e w' => e = .returned (.int .i64 4) ∧ w' = w)) :
    Calls Try.prog 10 #[.agg (stepC kd s p n v ad L cap)] w fun e w' => e = .returned (.bool true) ∧ Below w.heap.size w w' := by
  have hz := zero_sec
  have hgd := guard_sec
  have HB0 := hid (step_start w kd s p n v ad L cap)
  have hk := step_kind (HB0.out.get (List.mem_singleton.2 rfl))
  have hp := step_p hs.1 (HB0.out.get (List.mem_singleton.2 rfl))
  have HW := hid fun w => wipe_any s p w hs.1
  have HWR := hid fun w => rwipe_any s p w hs.1
  have hA := wip_len s p hs.1
  generalize wip s p = A at *
  have HZ := hid fun w => zero_any A hA w
  have HZR := hid fun w => rzero_any A hA w
  generalize decide (A = Zs) = q at *
  have hq := eq_sec A A hA hA
  rw [decide_eq_true rfl] at hq
  go_enter Try.func10, Try.ntmps10
  go_wp2_with (first | (go_at_call 24; refine (HPK.out _).mono ?_; rintro e w' ⟨rfl, rfl⟩) | refine load_mid rfl _ rfl w.heap.size 1 rfl s hs.1 (step_s (HB0.out.get (List.mem_singleton.2 rfl))) ?_)
  refine (HW.out _).mono ?_
  rintro e w1 ⟨rfl, hb1⟩
  have HB1 := hid (HB0.out.call hb1)
  clear hb1 HB0 HW hk hp
  have g1 := HB1.out.old.size
  go_upto_region 18 with (refine store_sec rfl _ _ rfl w1.heap.size rfl A rfl hA Zs Zs_len (heap_alloc_new _ _) ?_; intro w2 hw2)
  have HB2 := hid ((HB1.out.alloc _).write hw2 g1 HB1.out.fresh)
  clear hw2 HB1
  generalize w1.heap.size = ga at *
  refine wp_region_noPanic ?_
  refine wp_region_held_drew (S := HB w [(ga, .cells (SA A) 26 (0, 0)), stepB w kd s p n v ad L cap]) (by kernel_rfl) HB2.out.drew (fun hHeld => ?_)
  simp only [Act.put]
  refine takeSec 0 153 (.tmp 16) (ga) A hA rfl (by kernel_rfl) (by kernel_rfl) (by kernel_rfl) rfl rfl rfl (by rfl) (fun _ _ _ h => h) hHeld (fun _ h => h.get (by simp)) ?_
  simp only [List.setIfInBounds_toArray, List.set_cons_zero, List.set_cons_succ]
  refine takeSec 2 155 (.tmp 16) (ga) A hA rfl (by kernel_rfl) (by kernel_rfl) (by kernel_rfl) rfl rfl rfl (by rfl) (fun _ _ _ h => h) hHeld (fun _ h => h.get (by simp)) ?_
  simp only [List.setIfInBounds_toArray, List.set_cons_zero, List.set_cons_succ]
  refine step1 1 (by kernel_rfl) ?_
  refine stCall 1 154 26 #[.agg (SA A)] _ rfl rfl (by rfl) (by go_simp) (HZ.out _) ?_
  rintro e w3 ⟨rfl, hb⟩
  refine ⟨_, rfl, hHeld.call hb, ?_⟩
  have hHeld := hHeld.call hb
  simp only [List.setIfInBounds_toArray, List.set_cons_zero, List.set_cons_succ]
  clear hb
  refine step1 3 (by kernel_rfl) ?_
  refine stCall 3 156 32 #[.agg (SA A)] _ rfl rfl (by rfl) (by go_simp) (HZR.out _) ?_
  rintro e w4 ⟨rfl, hb⟩
  refine ⟨_, rfl, hHeld.call hb, ?_⟩
  have hHeld := hHeld.call hb
  simp only [List.setIfInBounds_toArray, List.set_cons_zero, List.set_cons_succ]
  clear hb
  refine takeVal 4 157 (.bool true) rfl (by kernel_rfl) (by kernel_rfl) (by kernel_rfl) rfl (by rfl) (fun _ _ _ h => h) hHeld (fun _ hw' => by go_simp) ?_
  simp only [List.setIfInBounds_toArray, List.set_cons_zero, List.set_cons_succ]
  refine takeVal 5 158 (.bool true) rfl (by kernel_rfl) (by kernel_rfl) (by kernel_rfl) rfl (by rfl) (fun _ _ _ h => h) hHeld (fun _ hw' => rfl) ?_
  simp only [List.setIfInBounds_toArray, List.set_cons_zero, List.set_cons_succ]
  refine takeSec 6 159 (.tmp 16) (ga) A hA rfl (by kernel_rfl) (by kernel_rfl) (by kernel_rfl) rfl rfl rfl (by rfl) (fun _ _ _ h => h) hHeld (fun _ h => h.get (by simp)) ?_
  simp only [List.setIfInBounds_toArray, List.set_cons_zero, List.set_cons_succ]
  refine takeVal 7 160 (.pointer (some ⟨w.heap.size, 1, none⟩)) rfl (by kernel_rfl) (by kernel_rfl) (by kernel_rfl) rfl (by rfl) (fun _ _ _ h => h) hHeld (fun _ hw' => by go_simp) ?_
  simp only [List.setIfInBounds_toArray, List.set_cons_zero, List.set_cons_succ]
  refine takeMid 8 161 (.tmp 160) (w.heap.size) 1 s hs.1 rfl (by kernel_rfl) (by kernel_rfl) (by kernel_rfl) rfl rfl rfl (by rfl) (fun _ _ _ h => h) hHeld (fun _ h => step_s (h.get (g := w.heap.size) (o := .cells (stepC kd s p n v ad L cap) 29 (0, 0)) (by simp))) ?_
  simp only [List.setIfInBounds_toArray, List.set_cons_zero, List.set_cons_succ]
  refine takeVal 9 162 (.pointer (some ⟨w.heap.size, 129, none⟩)) rfl (by kernel_rfl) (by kernel_rfl) (by kernel_rfl) rfl (by rfl) (fun _ _ _ h => h) hHeld (fun _ hw' => by go_simp) ?_
  simp only [List.setIfInBounds_toArray, List.set_cons_zero, List.set_cons_succ]
  refine takeVal 10 163 (.int .i64 p) rfl (by kernel_rfl) (by kernel_rfl) (by kernel_rfl) rfl (by rfl) (fun _ _ _ h => h) hHeld (fun _ hw' => by have hc := step_p hs.1 (hw'.get (g := w.heap.size) (o := .cells (stepC kd s p n v ad L cap) 29 (0, 0)) (by simp)); go_simp) ?_
  simp only [List.setIfInBounds_toArray, List.set_cons_zero, List.set_cons_succ]
  refine step1 11 (by kernel_rfl) ?_
  refine stCall 11 164 31 #[.agg (SA s), .int .i64 p] _ rfl rfl (by rfl) (by go_simp) (HWR.out _) ?_
  rintro e w5 ⟨rfl, hb⟩
  refine ⟨_, rfl, hHeld.call hb, ?_⟩
  have hHeld := hHeld.call hb
  simp only [List.setIfInBounds_toArray, List.set_cons_zero, List.set_cons_succ]
  clear hb
  refine takeVal 12 165 (.bool true) rfl (by kernel_rfl) (by kernel_rfl) (by kernel_rfl) rfl (by rfl) (fun _ _ _ h => h) hHeld (fun _ hw' => by go_simp) ?_
  simp only [List.setIfInBounds_toArray, List.set_cons_zero, List.set_cons_succ]
  refine takeVal 13 166 (.bool true) rfl (by kernel_rfl) (by kernel_rfl) (by kernel_rfl) rfl (by rfl) (fun _ _ _ h => h) hHeld (fun _ hw' => by go_simp) ?_
  simp only [List.setIfInBounds_toArray, List.set_cons_zero, List.set_cons_succ]
  refine takeVal 14 2 (.bool true) rfl (by kernel_rfl) (by kernel_rfl) (by kernel_rfl) rfl (by rfl) (fun _ _ _ h => h) hHeld (fun _ hw' => rfl) ?_
  simp only [List.setIfInBounds_toArray, List.set_cons_zero, List.set_cons_succ]
  refine wpAnyH_done (by kernel_rfl) ?_ _
  refine NoPanic.normal ?_
  go_wp2_with fail
  go_ret
  exact ⟨rfl, hHeld.old⟩

end Go.Proofs.Ytibneoajkbblaaa
