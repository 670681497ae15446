/-
  Find: the sector of a block.
-/
import Derived.Test.YtjlhmojofjkkdabC2
namespace Go.Proofs.Ytjlhmojofjkkdab
open Go.RowKit Go.Shelf

def findR (s : Src) (z : List Int) (k : Int) : Int × Int :=
  if k < 0 ∨ 1068 ≤ k then (0, 90) else ((folW s (bgW z k) (plW k) 0).1, (folW s (bgW z k) (plW k) 0).2.2)
theorem plW_len (k : Int) : (plW k).length ≤ 2 := by unfold plW; split <;> (try split) <;> simp
theorem results_2t {fn : Func} {a b : Tmp} (h : fn.results = #[.tmp a, .tmp b]) (tmps : Array Value) (w : World) : (results fn tmps).run Try.prog w = .ok (.tuple #[tmps.getD a undef, tmps.getD b undef]) w := by
  simp [results, h]

set_option maxRecDepth 100000 in
set_option maxHeartbeats 2000000 in
theorem Find_any (pm : Nat) (s : Src) (z : List Int) (k : Int) (w : World) (hz : z.length = 18) (hr : Rd w pm s) :
    Calls Try.prog 11 #[rdV pm, .agg (NA z), .int .i64 k] w fun e w' => e = .returned (.tuple #[.int .i64 (findR s z k).1, .int .i64 (findR s z k).2]) ∧ Below w.heap.size w w' := by
  have hqn : ∀ w, (binOp .eql 54 (rdV pm) .nilIface).run Try.prog w = .ok (.bool false) w := fun _ => by unfold rdV; rfl
  have hqg : ∀ w, (eqGuard .eql 54 (.tmp 12) (.const .nilIface) (rdV pm) .nilIface).run Try.prog w = .ok () w := fun _ => by unfold rdV; rfl
  have hzw : ∀ w, (zeroValue 68).run Try.prog w = .ok (.agg Zw) w := fun w => by kernel_rfl
  obtain ⟨W, hW⟩ : ∃ y, y = w.alloc (.cells (NA z) 24) := ⟨_, rfl⟩
  have HB : Hid (Below w.heap.size w W) := by rw [hW]; exact (Below.refl _ _).alloc (Nat.le_refl _) _
  have H0 : Hid (W.heap[w.heap.size]? = some (.cells (NA z) 24 (0, 0))) := by rw [hW]; exact heap_alloc_new _ _
  by_cases hk : k < 0 ∨ 1068 ≤ k
  · have HE : Hid (findR s z k = (0, 90)) := if_pos hk
    have hw := fun w' => wayOf_bad z k w' hk
    clear hk
    go_enter Try.func11, Try.ntmps11
    go_upto_region 1 with fail
    rw [← hW]
    clear hW
    go_wp2_with (first
      | (refine load_R rfl 24 (.tmp 4) rfl w.heap.size rfl 24 (NA z) _ H0.out Try.underlying24 rfl (by rw [szI, NA_size, hz]) ?_)
      | (go_at_call 17; go_must (refine (hw _).mono ?_; rintro e w2 ⟨rfl, hb2⟩; have HB2 := hid (btr HB.out hb2 HB.out.size); clear hb2))
      | (refine store_R rfl 68 (.tmp 8) (.tmp 18) rfl w2.heap.size Zw rfl rfl 68 Zw (heap_alloc_new _ _) (by rw [szWay]; rfl) rfl Zw_one ?_; intro w5 p5))
    exact bodyPost_ret (results_2t Try.results11 _ _) rfl ⟨by rw [HE.out]; rfl, p5.below (HB2.out.alloc HB2.out.size _) HB2.out.size⟩
  · have HE : Hid (findR s z k = ((folW s (bgW z k) (plW k) 0).1, (folW s (bgW z k) (plW k) 0).2.2)) := if_neg hk
    have hw := fun w' => wayOf_ok z k w' hz (by omega) (by omega)
    have hpl := plW_len k
    clear hk
    go_enter Try.func11, Try.ntmps11
    go_upto_region 1 with fail
    rw [← hW]
    clear hW
    generalize hf : folW s (bgW z k) (plW k) 0 = f at *
    have HF := hid hf
    clear hf
    go_wp2_with (first
      | (refine load_R rfl 24 (.tmp 4) rfl w.heap.size rfl 24 (NA z) _ H0.out Try.underlying24 rfl (by rw [szI, NA_size, hz]) ?_)
      | (go_at_call 17; go_must (refine (hw _).mono ?_; rintro e w2 ⟨a, ap, n, c, m, cp, rfl, hwa, hb2⟩; have HWA := hid hwa; have HB2 := hid (btr HB.out hb2 HB.out.size); clear hwa hb2))
      | (refine store_R rfl 68 (.tmp 8) (.tmp 18) rfl w2.heap.size #[.int .i64 (bgW z k), .slice a n c, .slice ap m cp] rfl rfl 68 Zw (heap_alloc_new _ _) (by rw [szWay]; rfl) rfl (by simp [Value.oneCell']) ?_; intro w5 p5; have HP5 := hid p5.here; have HB5 := hid (p5.below (HB2.out.alloc HB2.out.size _) HB2.out.size); have HWA5 := hid (HWA.out.below (p5.below ((Below.refl _ w2).alloc (Nat.le_refl _) _) (Nat.le_refl _))); clear p5)
      | (refine load_R rfl 68 (.tmp 8) rfl w2.heap.size rfl 68 #[.int .i64 (bgW z k), .slice a n c, .slice ap m cp] _ HP5.out Try.underlying68 rfl (by rw [szWay]; rfl) ?_)
      | (go_at_call 18; go_must (refine (Calls.mono (by have hq := follow_any pm s (bgW z k) a c (plW k) (.slice ap m cp) w5 (hr.below HB5.out) HWA5.out.pl hpl; rw [← HWA5.out.len] at hq; exact hq) ?_); rintro e w6 ⟨rfl, hb6⟩; rw [HF.out]; unfold folV; have HB6 := hid (btr HB5.out hb6 HB5.out.size); clear hb6)))
    exact bodyPost_ret (results_2t Try.results11 _ _) rfl ⟨by rw [HE.out]; rfl, HB6.out⟩

end Go.Proofs.Ytjlhmojofjkkdab
