/-
  The walk of DumpNothing.
-/
import Derived.Test.YtiakfgplhdbaeaaLD
namespace Go.Proofs.Ytiakfgplhdbaeaa
open Go.RowKit

theorem few_sum {L : List Nod} (h : fewB L = true) : L.length ≤ 5000 ∧ ∀ i, i < L.length → szN (L.getD i Nod.z) ≤ 2097152 := by
  unfold fewB at h
  simp only [Bool.and_eq_true, decide_eq_true_eq] at h
  refine ⟨h.2, fun i hi => ?_⟩
  have h1 := sum_more hi
  have h2 := sum_le L (i + 1)
  omega
theorem few_data {L : List Nod} (h : fewB L = true) : ∀ i, i < L.length → (L.getD i Nod.z).data.length ≤ 2097152 := fun i hi => by
  have := (few_sum h).2 i hi
  unfold szN at this
  omega

set_option maxHeartbeats 1000000 in
set_option maxRecDepth 100000 in
theorem own_any (L : List Nod) (a : Option Addr) (cap : Nat) (w : World) (h : NAt w a L) (hf : fewB L = true) :
    Calls Try.prog 18 #[.slice a L.length cap] w fun e w' => ∃ gN hs vb, e = .returned (.slice (some ⟨gN, 0, none⟩) (L.length + 3) (L.length + 3)) ∧ Lent w w' gN L hs vb := by
  have hL := lend_any L a cap w h (few_sum hf).1 (few_data hf)
  obtain ⟨m, hm⟩ : ∃ y, y = L.length := ⟨_, rfl⟩
  rw [← hm] at hL ⊢
  clear h hf hm
  have hfl : ∀ W (gN : Nat) (vb : Value), (Instr.field 27 (.agg #[.slice (some ⟨gN, 0, none⟩) (m + 3) (m + 3), vb]) 0).run Try.prog W = .ok (.slice (some ⟨gN, 0, none⟩) (m + 3) (m + 3)) W := fun W gN vb => by kernel_rfl
  go_enter Try.func18, Try.ntmps18
  go_wp2_with (first
    | (go_at_call 9; go_must (refine hL.mono ?_; rintro e w1 ⟨gN, hs, vb, rfl, hl1⟩; have HL1 := hid hl1; clear hl1))
    | fail)
  go_ret
  exact ⟨gN, hs, vb, rfl, HL1.out⟩
set_option maxHeartbeats 1000000 in
set_option maxRecDepth 100000 in
theorem dump_nil (w : World) : Calls Try.prog 19 #[.nilIface] w fun e w' => e = .returned (.tuple #[.slice none 0 0, .int .i64 1]) ∧ w' = w := by
  go_enter Try.func19, Try.ntmps19
  go_wp2_with fail
  go_ret2
  exact ⟨rfl, rfl⟩
set_option maxHeartbeats 1000000 in
set_option maxRecDepth 100000 in
theorem fill_nil (v : Value) (w : World) : Calls Try.prog 20 #[.nilIface, v] w fun e w' => e = .returned (.tuple #[.int .i64 0, .int .i64 1]) ∧ w' = w := by
  go_enter Try.func20, Try.ntmps20
  go_wp2_with fail
  go_ret2
  exact ⟨rfl, rfl⟩
theorem szRd : (Try.prog.info? 52).map (·.size) = some 2 := by kernel_rfl
set_option maxHeartbeats 1000000 in
set_option maxRecDepth 100000 in
theorem read_nil (w : World) : Calls Try.prog 14 #[.slice none 0 0] w fun e w' => e = .returned (.tuple #[.slice none 0 0, .int .i64 0]) ∧ Chg w w' No := by
  have hb : ∀ W, (Instr.build 52 #[(0, .slice none 0 0)]).run Try.prog W = .ok (.agg #[.slice none 0 0, .bool false]) W := fun W => by kernel_rfl
  go_enter Try.func14, Try.ntmps14
  go_wp2_with (first
    | (refine store_R rfl 52 _ _ rfl w.heap.size #[.slice none 0 0, .bool false] rfl rfl 52 _ (heap_alloc_new _ _) (by rw [szRd]; rfl) rfl (by simp [Value.oneCell']) ?_; intro w2 hw2)
    | fail)
  have hc2 : Chg w w2 No := (Chg.alloc w _ No).trans (kt_new hw2) (fun _ _ e => e) (fun j hj e => by omega)
  have HC2 := hid hc2
  have c0 : w2.cell? ⟨w.heap.size, 0, none⟩ = some (.slice none 0 0) := (cell_of_row _ _ _ _ _ _ hw2.here).trans rfl
  clear hw2 hc2
  go_frame
  go_loopw [4] (fun x4 wr => x4 = .slice none 0 0 ∧ wr = w2) (fun _ _ => 0)
  case atStart => exact ⟨rfl, rfl⟩
  case round =>
    obtain ⟨rfl, rfl⟩ := hrel
    go_wp2_with fail
    go_ret2
    exact ⟨rfl, HC2.out⟩

set_option maxHeartbeats 2000000 in
set_option maxRecDepth 100000 in
theorem nothing_walk (L : List Nod) (a : Option Addr) (cap : Nat) (w : World) (h : NAt w a L) (hz : NSz L) : Calls Try.prog 6 #[.slice a L.length cap] w fun e w' => e = .returned (.bool true) ∧ Below w.heap.size w w' := by
  have hAw := awake_any w
  have HF : Hid (∀ W, Chg w W No → Calls Try.prog 8 #[.slice a L.length cap] W fun e w' => e = .returned (.bool (fewB L)) ∧ Chg W w' No) := hid (fun W hW => few_any L a cap W (h.call hW) hz)
  have HN := hid h
  have HBn : Hid (∀ W, Calls Try.prog 10 #[.slice none 0 0] W fun e w' => (∃ v, e = .returned (.tuple #[v, .int .i64 0]) ∧ BOw w' W.heap.size v []) ∧ Chg W w' No) := hid (fun W => (bytes_any [] none 0 W ⟨.inl rfl, fun i hi => absurd hi (Nat.not_lt_zero _)⟩ (fun i hi => absurd hi (Nat.not_lt_zero _)) (by decide)).mono (by
    rintro e w' ⟨h1 | h1, h2⟩
    · exact ⟨h1.2, h2⟩
    · exact absurd h1.1 (by decide)))
  clear h hz
  obtain ⟨m, hm⟩ : ∃ y, y = L.length := ⟨_, rfl⟩
  rw [← hm] at HF ⊢
  have HM := hid hm
  clear hm
  cases hfw : fewB L with
  | false =>
    rw [hfw] at HF
    go_enter Try.func6, Try.ntmps6
    go_upto_region 2 with (first
      | (go_at_call 7; go_must (refine hAw.mono ?_; rintro e w1 ⟨rfl, hc1⟩; have HC1 := hid hc1; clear hc1))
      | fail)
    have hF := HF.out w1 HC1.out
    clear hAw
    go_wp2_with (first
      | (go_at_call 8; go_must (refine hF.mono ?_; rintro e w2 ⟨rfl, hc2⟩; have HC2 := hid (HC1.out.tr hc2); clear hc2))
      | fail)
    go_ret
    exact ⟨rfl, HC2.out.below⟩
  | true =>
    rw [hfw] at HF
    have HFw := hid hfw
    clear hfw
    go_enter Try.func6, Try.ntmps6
    go_upto_region 2 with (first
      | (go_at_call 7; go_must (refine hAw.mono ?_; rintro e w1 ⟨rfl, hc1⟩; have HC1 := hid hc1; clear hc1))
      | fail)
    have hF := HF.out w1 HC1.out
    clear hAw
    go_upto_region 6 with (first
      | (go_at_call 8; go_must (refine hF.mono ?_; rintro e w2 ⟨rfl, hc2⟩; have HC2 := hid (HC1.out.tr hc2); clear hc2))
      | (go_at_call 19; go_must (refine (dump_nil _).mono ?_; rintro e w3 ⟨rfl, hw3⟩; have hw3 := hw3.symm; subst hw3))
      | fail)
    have hO := own_any L a cap w2 (HN.out.call HC2.out) HFw.out
    rw [← HM.out] at hO
    clear hF HC1
    have f1 : (m : Int) ≤ (m : Int) + 3 := by omega
    go_upto_region 7 with (first
      | (go_at_call 18; go_must (refine hO.mono ?_; rintro e w4 ⟨gN, hs, vb, rfl, hl4⟩; have HC4 := hid (HC2.out.tr hl4.ch); clear hl4))
      | (go_at_call 20; go_must (refine (fill_nil _ _).mono ?_; rintro e w5 ⟨rfl, hw5⟩; have hw5 := hw5.symm; subst hw5))
      | fail)
    have hB := HBn.out w4
    clear hO HC2
    go_upto_region 8 with (first
      | (go_at_call 10; go_must (refine hB.mono ?_; rintro e w6 ⟨⟨v6, rfl, hv6⟩, hc6⟩; have HC6 := hid (HC4.out.tr hc6); obtain ⟨a6, cp6, rfl, _⟩ := hv6.one; clear hv6 hc6))
      | fail)
    have hRd := read_nil w6
    clear hB HC4
    go_wp2_with (first
      | (go_at_call 14; go_must (refine hRd.mono ?_; rintro e w7 ⟨rfl, hc7⟩; have HC7 := hid (HC6.out.tr hc7); clear hc7))
      | fail)
    go_ret
    exact ⟨rfl, HC7.out.below⟩
end Go.Proofs.Ytiakfgplhdbaeaa
