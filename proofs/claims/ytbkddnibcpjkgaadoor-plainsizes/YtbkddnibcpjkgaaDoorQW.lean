/-
  package plain: doAt, where something is told of a node.
-/
import Derived.Test.YtbkddnibcpjkgaaDoorQV
namespace Go.Proofs.YtbkddnibcpjkgaaDoor
open Go.RowKit

set_option maxHeartbeats 2000000 in
set_option maxRecDepth 100000 in
theorem doAt_stat {q : PC} {s : PSt} {c : NC} {x : Nd} (i : Int) (path tto : ByteArray) (off len : Int) (da : Option Addr) (dl dc : Nat) (made pick : Int) (w : World) (h : IsPl w q s) (hqc : q.nc i = some c) (hsx : s.nd i = some x) :
    Calls Tryd.prog 19 #[.pointer (some ⟨q.p, 0, none⟩), .int .i64 i, .agg (opA 10 path tto off len da dl dc made pick)] w fun e w' => e = .returned (.agg (ansS i x)) ∧ Chg w w' No := by
  obtain ⟨w1, hw1⟩ : ∃ y, y = (w.alloc (.cells (opA 10 path tto off len da dl dc made pick) 40)).alloc (.cells (ansE 0) 37) := ⟨_, rfl⟩
  have hcA : Chg w (w.alloc (.cells (opA 10 path tto off len da dl dc made pick) 40)) No := Chg.alloc w _ No
  have hc1 : Chg w w1 No := by rw [hw1]; exact hcA.tr (Chg.alloc _ _ No)
  have hO : w1.heap[w.heap.size]? = some (.cells #[.int .i64 10, .string path, .string tto, .int .i64 off, .int .i64 len, .slice da dl dc, .int .i64 made, .int .i64 pick] 40 (0, 0)) := by rw [hw1]; exact (Chg.alloc _ _ No).keep (heap_alloc_new w _) (fun e => e)
  have hA1 : w1.heap[w.heap.size + 1]? = some (.cells (ansE 0) 37 (0, 0)) := by
    have := heap_alloc_new (w.alloc (.cells (opA 10 path tto off len da dl dc made pick) 40)) (.cells (ansE 0) 37)
    rw [show (w.alloc (.cells (opA 10 path tto off len da dl dc made pick) 40)).heap.size = w.heap.size + 1 by simp] at this
    rw [hw1]
    exact this
  have HA : Hid (∀ W, Chg w1 W No → W.heap[w.heap.size + 1]? = some (.cells (ansE 0) 37 (0, 0))) := hid (fun W hW => hW.keep hA1 (fun e => e))
  have hN : IsN w c x := by
    obtain ⟨x', h1, h2⟩ := h.nd i c hqc
    rw [hsx] at h1
    cases h1
    exact h2
  have hrg := h.rng i (by rw [hqc]; intro e; cases e)
  have hI : I64 i := ⟨by omega, by omega⟩
  have c2 := (h.call hc1).c2
  obtain ⟨fm, hfm⟩ : ∃ y, y = (fun i => (q.nc i).map ptrN) := ⟨_, rfl⟩
  have HM : Hid (MapV w1 q.mb fm) := hid (by rw [hfm]; exact (h.call hc1).mp)
  have HFi : Hid ((match fm i with | some v => v | none => Value.pointer none) = .pointer (some ⟨c.p, 0, none⟩)) := hid (by rw [hfm]; simp only [hqc, Option.map_some]; rfl)
  have q0 : w1.cell? ⟨w.heap.size, 0, none⟩ = some (.int .i64 10) := (cell_of_row _ _ _ _ _ _ hO).trans rfl
  have hSt := stat_any i w1 (h.call hc1) hqc hsx
  unfold statA at hSt
  obtain ⟨AN, hAN⟩ : ∃ y, y = ansS i x := ⟨_, rfl⟩
  rw [← hAN]
  obtain ⟨z1, hz1⟩ : ∃ y, y = x.kind := ⟨_, rfl⟩
  obtain ⟨z2, hz2⟩ : ∃ y, y = x.links := ⟨_, rfl⟩
  obtain ⟨z3, hz3⟩ : ∃ y, y = lenN x := ⟨_, rfl⟩
  obtain ⟨z4, hz4⟩ : ∃ y, y = x.made := ⟨_, rfl⟩
  obtain ⟨z5, hz5⟩ : ∃ y, y = cardN x := ⟨_, rfl⟩
  rw [← hz1, ← hz2, ← hz3, ← hz4, ← hz5] at hSt
  have HRow : Hid (#[.int .i64 0, .int .i64 i, .int .i64 z1, .int .i64 z2, .int .i64 z3, .int .i64 z4, .int .i64 (z5 : Nat), .slice none 0 0, .slice none 0 0, .bool false] = AN) := hid (by rw [hAN, hz1, hz2, hz3, hz4, hz5]; rfl)
  have hb : ∀ W, (Instr.build 37 #[(1, .agg #[.int .i64 i, .int .i64 z1, .int .i64 z2, .int .i64 z3, .int .i64 z4, .int .i64 (z5 : Nat)])]).run Tryd.prog W = .ok (.agg #[.int .i64 0, .int .i64 i, .int .i64 z1, .int .i64 z2, .int .i64 z3, .int .i64 z4, .int .i64 (z5 : Nat), .slice none 0 0, .slice none 0 0, .bool false]) W := fun W => by kernel_rfl
  have HC1 := hid hc1
  unfold opA at hw1 ⊢
  unfold ansE at hw1
  have e1 := hw1
  clear hcA hc1 hO hA1 h hqc hsx hfm hrg hN hw1 hAN hz1 hz2 hz3 hz4 hz5
  go_enter Tryd.func19, Tryd.ntmps19
  go_upto_region 1 with fail
  rw [← e1]
  clear e1
  go_wp2_with (first
    | (at_lookup; go_must (refine wp_lookVN rfl _ _ rfl q.mb fm i _ HFi.out rfl rfl HM.out hI ?_))
    | (go_at_call 28; go_must (refine hSt.mono ?_; rintro e w4 ⟨rfl, hc4⟩; have HC4 := hid hc4; have HA4 := hid (HA.out w4 hc4); clear hc4))
    | (refine store_R rfl 37 _ _ rfl (w.heap.size + 1) #[.int .i64 0, .int .i64 i, .int .i64 z1, .int .i64 z2, .int .i64 z3, .int .i64 z4, .int .i64 (z5 : Nat), .slice none 0 0, .slice none 0 0, .bool false] rfl rfl 37 _ HA4.out (by rw [szAn]; rfl) rfl (by simp [Value.oneCell']) ?_; intro w5 hw5)
    | fail)
  exact bodyPost_ret (v := .agg #[.int .i64 0, .int .i64 i, .int .i64 z1, .int .i64 z2, .int .i64 z3, .int .i64 z4, .int .i64 (z5 : Nat), .slice none 0 0, .slice none 0 0, .bool false]) (results_R1 Tryd.results19 _ _ (w.heap.size + 1) _ 37 _ Tryd.underlying37 rfl (by rw [szAn]; rfl) rfl hw5.here) rfl ⟨by rw [HRow.out], (HC1.out.tr HC4.out).trans (kt_new hw5) (fun _ _ e => e) (fun j hj e => by omega)⟩

set_option maxHeartbeats 2000000 in
set_option maxRecDepth 100000 in
theorem doAt_list {q : PC} {s : PSt} {c : NC} {x : Nd} (i : Int) (path tto : ByteArray) (off len : Int) (da : Option Addr) (dl dc : Nat) (made pick : Int) (w : World) (h : IsPl w q s) (hqc : q.nc i = some c) (hsx : s.nd i = some x)
    (hk : x.kind = 2) (hL : ∀ W, Chg w W No → Calls Tryd.prog 36 #[.pointer (some ⟨q.p, 0, none⟩), .pointer (some ⟨c.p, 0, none⟩)] W fun e w' => e = .returned (.slice none 0 0) ∧ Chg W w' No) :
    Calls Tryd.prog 19 #[.pointer (some ⟨q.p, 0, none⟩), .int .i64 i, .agg (opA 11 path tto off len da dl dc made pick)] w fun e w' => e = .returned (.agg (ansE 0)) ∧ Chg w w' No := by
  obtain ⟨w1, hw1⟩ : ∃ y, y = (w.alloc (.cells (opA 11 path tto off len da dl dc made pick) 40)).alloc (.cells (ansE 0) 37) := ⟨_, rfl⟩
  have hcA : Chg w (w.alloc (.cells (opA 11 path tto off len da dl dc made pick) 40)) No := Chg.alloc w _ No
  have hc1 : Chg w w1 No := by rw [hw1]; exact hcA.tr (Chg.alloc _ _ No)
  have hO : w1.heap[w.heap.size]? = some (.cells #[.int .i64 11, .string path, .string tto, .int .i64 off, .int .i64 len, .slice da dl dc, .int .i64 made, .int .i64 pick] 40 (0, 0)) := by rw [hw1]; exact (Chg.alloc _ _ No).keep (heap_alloc_new w _) (fun e => e)
  have hA1 : w1.heap[w.heap.size + 1]? = some (.cells (ansE 0) 37 (0, 0)) := by
    have := heap_alloc_new (w.alloc (.cells (opA 11 path tto off len da dl dc made pick) 40)) (.cells (ansE 0) 37)
    rw [show (w.alloc (.cells (opA 11 path tto off len da dl dc made pick) 40)).heap.size = w.heap.size + 1 by simp] at this
    rw [hw1]
    exact this
  have HA : Hid (∀ W, Chg w1 W No → W.heap[w.heap.size + 1]? = some (.cells (ansE 0) 37 (0, 0))) := hid (fun W hW => hW.keep hA1 (fun e => e))
  have hN : IsN w c x := by
    obtain ⟨x', h1, h2⟩ := h.nd i c hqc
    rw [hsx] at h1
    cases h1
    exact h2
  have hrg := h.rng i (by rw [hqc]; intro e; cases e)
  have hI : I64 i := ⟨by omega, by omega⟩
  have c2 := (h.call hc1).c2
  obtain ⟨fm, hfm⟩ : ∃ y, y = (fun i => (q.nc i).map ptrN) := ⟨_, rfl⟩
  have HM : Hid (MapV w1 q.mb fm) := hid (by rw [hfm]; exact (h.call hc1).mp)
  have HFi : Hid ((match fm i with | some v => v | none => Value.pointer none) = .pointer (some ⟨c.p, 0, none⟩)) := hid (by rw [hfm]; simp only [hqc, Option.map_some]; rfl)
  have q0 : w1.cell? ⟨w.heap.size, 0, none⟩ = some (.int .i64 11) := (cell_of_row _ _ _ _ _ _ hO).trans rfl
  have hDr := isDirectory_any w1 (hN.call hc1)
  rw [decide_eq_true hk] at hDr
  have hCl := hL w1 hc1
  have hb : ∀ W, (Instr.build 37 #[(3, .slice none 0 0)]).run Tryd.prog W = .ok (.agg #[.int .i64 0, .int .i64 0, .int .i64 0, .int .i64 0, .int .i64 0, .int .i64 0, .int .i64 0, .slice none 0 0, .slice none 0 0, .bool false]) W := fun W => by kernel_rfl
  have HC1 := hid hc1
  unfold opA at hw1 ⊢
  unfold ansE at hw1 ⊢
  have e1 := hw1
  clear hcA hc1 hO hA1 h hqc hsx hfm hrg hN hw1 hk hL
  go_enter Tryd.func19, Tryd.ntmps19
  go_upto_region 1 with fail
  rw [← e1]
  clear e1
  go_wp2_with (first
    | (at_lookup; go_must (refine wp_lookVN rfl _ _ rfl q.mb fm i _ HFi.out rfl rfl HM.out hI ?_))
    | (go_at_call 29; go_must (refine hDr.mono ?_; rintro e w2 ⟨rfl, rfl⟩))
    | (go_at_call 36; go_must (refine hCl.mono ?_; rintro e w4 ⟨rfl, hc4⟩; have HC4 := hid hc4; have HA4 := hid (HA.out w4 hc4); clear hc4))
    | (refine store_R rfl 37 _ _ rfl (w.heap.size + 1) #[.int .i64 0, .int .i64 0, .int .i64 0, .int .i64 0, .int .i64 0, .int .i64 0, .int .i64 0, .slice none 0 0, .slice none 0 0, .bool false] rfl rfl 37 _ HA4.out (by rw [szAn]; rfl) rfl (by simp [Value.oneCell']) ?_; intro w5 hw5)
    | fail)
  exact bodyPost_ret (v := .agg #[.int .i64 0, .int .i64 0, .int .i64 0, .int .i64 0, .int .i64 0, .int .i64 0, .int .i64 0, .slice none 0 0, .slice none 0 0, .bool false]) (results_R1 Tryd.results19 _ _ (w.heap.size + 1) _ 37 _ Tryd.underlying37 rfl (by rw [szAn]; rfl) rfl hw5.here) rfl ⟨rfl, (HC1.out.tr HC4.out).trans (kt_new hw5) (fun _ _ e => e) (fun j hj e => by omega)⟩
end Go.Proofs.YtbkddnibcpjkgaaDoor
