/-
  Room of package space: what it answers.
-/
import Derived.Test.YtdddcllakjeplaaS4
namespace Go.Proofs.Ytdddcllakjeplaa
open Go.RowKit

variable {w : World} {lo hi p : Nat} {s : SS}
theorem len_run {w : World} {m : Nat} {T : List Nat} {o : Oper} {a : Act} (x : Operand) (hop : o.op = Op.call { callee := Callee.builtin Builtin.len, args := #[x], argTypes := #[61] }) (hm : a.eval x = .map (some m)) (h : SetAt w m (Late T)) : (execOp a.eval o).run Try.prog w = .ok (.value (.int .i64 (T.count 2 : Nat))) w := by
  have e := h.lenL (lateL 0 T) (lateL_pw 0 T) (late_mem T) o.type
  rw [lateL_len] at e
  simp [execOp, hop, resolve, invoke, builtin, hm, e, Result.andThen]
theorem szRm : (Try.prog.info? 40).map (·.size) = some 3 := by kernel_rfl
def roomV (s : SS) : Array Value := #[.int .i64 s.rb, .int .i64 s.rl, .int .i64 s.ri]

set_option maxRecDepth 100000 in
set_option maxHeartbeats 1000000 in
theorem room_any (w : World) (h : IsS w lo hi p s) : Calls Try.prog 13 #[.pointer (some ⟨p, 0, none⟩)] w fun e w' => e = .returned (.agg (roomV s)) ∧ Below w.heap.size w w' := by
  obtain ⟨pi, gi, pb, gb, m, h⟩ := h
  have ho := h.ok
  have HF1 := hid fun w h => free_any (p := pb) (g := gb) (L := bt s.T) ((s.ni : Int) + 1) w h (by omega) (by have := ho.i2; omega)
  have HF2 := hid fun w h => free_any (p := pi) (g := gi) (L := s.I) 1 w h (by omega) (by omega)
  rw [bt_len, bt_count _ ho.t2, ho.lT] at HF1
  rw [ho.lI] at HF2
  have hc1 := count_le_len s.T 2
  have hct := count_top (bt s.T)
  have hci := count_top s.I
  rw [bt_len, bt_count _ ho.t2, ho.lT] at hct
  rw [ho.lI] at hci
  have hn := ho.n2
  have hnn := ho.i3
  have hni := ho.i2
  have HRV : Hid (roomV s = #[.int .i64 ((s.ns : Int) - s.ni - 1 - (s.T.count 1 : Nat)), .int .i64 (s.T.count 2 : Nat), .int .i64 ((s.ni : Int) - (s.I.count true : Nat))]) := rfl
  rw [ho.lT] at hc1
  have HS0 := hid h
  generalize hC1 : s.T.count 1 = C1 at *
  generalize hC2 : s.T.count 2 = C2 at *
  replace hC1 := hid hC1
  replace hC2 := hid hC2
  generalize s.I.count true = CI at *
  generalize hV1 : (s.ns : Int) - ((s.ni : Int) + 1) - ((C1 + C2 : Nat) : Int) = V1 at HF1
  generalize hV2 : ((s.ni + 1 : Nat) : Int) - 1 - (CI : Int) = V2 at HF2
  have hb1 : -10000 ≤ V1 ∧ V1 ≤ 10000 := by omega
  have HE : Hid ((s.ns : Int) - s.ni - 1 - (C1 : Int) = V1 + (C2 : Int)) := by show _ = _; omega
  have HE2 : Hid ((s.ni : Int) - (CI : Int) = V2) := by show _ = _; omega
  have HWr : Hid (IntKind.i64.wrap (V1 + (C2 : Int)) = V1 + (C2 : Int)) := hid (IntWalk.i64_in _ (by omega))
  clear hV1 hV2 hc1 hct hci hn hnn hni ho
  go_enter Try.func13, Try.ntmps13
  go_wp2
  refine wp_region_noPanic ?_
  refine wp_region_held_drew (S := fun w' => IsS0 w' lo hi p pi gi pb gb m s ∧ Below w.heap.size w w') (by kernel_rfl) ⟨(HS0.out.keep (Chg.alloc w _ No) (fun _ _ e => e)).drewN 1, below_drewN (below_box w _) 1⟩ (fun hHeld => ?_)
  have hQ := heap_alloc_new w (.cells #[.int .i64 0, .int .i64 0, .int .i64 0] 40 (0, 0))
  refine takeVal 0 3 (.pointer (some ⟨p, 0, none⟩)) rfl (by kernel_rfl) (by kernel_rfl) (by kernel_rfl) rfl (by rfl) (fun _ _ _ h => h) hHeld (fun _ hw' => rfl) ?_
  simp only [List.setIfInBounds_toArray, List.set_cons_zero, List.set_cons_succ]
  refine takeVal 1 4 (.pointer (some ⟨p, 0, none⟩)) rfl (by kernel_rfl) (by kernel_rfl) (by kernel_rfl) rfl (by rfl) (fun _ _ _ h => h) hHeld (fun _ hw' => by go_simp) ?_
  simp only [List.setIfInBounds_toArray, List.set_cons_zero, List.set_cons_succ]
  refine takeVal 2 5 (.pointer (some ⟨p, 2, none⟩)) rfl (by kernel_rfl) (by kernel_rfl) (by kernel_rfl) rfl (by rfl) (fun _ _ _ h => h) hHeld (fun _ hw' => by go_simp) ?_
  simp only [List.setIfInBounds_toArray, List.set_cons_zero, List.set_cons_succ]
  refine takeVal 3 6 (.agg #[.pointer (some ⟨pb, 0, none⟩), .int .i64 ((s.ni : Int) + 1)]) rfl (by kernel_rfl) (by kernel_rfl) (by kernel_rfl) rfl (by rfl) (fun _ _ _ h => h) hHeld (fun _ hw' => by have c2 := hw'.1.c2; have c3 := hw'.1.c3; go_simp) ?_
  simp only [List.setIfInBounds_toArray, List.set_cons_zero, List.set_cons_succ]
  refine takeVal 5 8 (.pointer (some ⟨p, 0, none⟩)) rfl (by kernel_rfl) (by kernel_rfl) (by kernel_rfl) rfl (by rfl) (fun _ _ _ h => h) hHeld (fun _ hw' => rfl) ?_
  simp only [List.setIfInBounds_toArray, List.set_cons_zero, List.set_cons_succ]
  refine takeVal 6 9 (.pointer (some ⟨p, 0, none⟩)) rfl (by kernel_rfl) (by kernel_rfl) (by kernel_rfl) rfl (by rfl) (fun _ _ _ h => h) hHeld (fun _ hw' => by go_simp) ?_
  simp only [List.setIfInBounds_toArray, List.set_cons_zero, List.set_cons_succ]
  refine takeVal 7 10 (.pointer (some ⟨p, 4, none⟩)) rfl (by kernel_rfl) (by kernel_rfl) (by kernel_rfl) rfl (by rfl) (fun _ _ _ h => h) hHeld (fun _ hw' => by go_simp) ?_
  simp only [List.setIfInBounds_toArray, List.set_cons_zero, List.set_cons_succ]
  refine takeVal 8 11 (.map (some m)) rfl (by kernel_rfl) (by kernel_rfl) (by kernel_rfl) rfl (by rfl) (fun _ _ _ h => h) hHeld (fun _ hw' => by have c4 := hw'.1.c4; go_simp) ?_
  simp only [List.setIfInBounds_toArray, List.set_cons_zero, List.set_cons_succ]
  refine takeVal 11 14 (.pointer (some ⟨p, 0, none⟩)) rfl (by kernel_rfl) (by kernel_rfl) (by kernel_rfl) rfl (by rfl) (fun _ _ _ h => h) hHeld (fun _ hw' => rfl) ?_
  simp only [List.setIfInBounds_toArray, List.set_cons_zero, List.set_cons_succ]
  refine takeVal 12 15 (.pointer (some ⟨p, 0, none⟩)) rfl (by kernel_rfl) (by kernel_rfl) (by kernel_rfl) rfl (by rfl) (fun _ _ _ h => h) hHeld (fun _ hw' => by go_simp) ?_
  simp only [List.setIfInBounds_toArray, List.set_cons_zero, List.set_cons_succ]
  refine takeVal 13 16 (.pointer (some ⟨p, 4, none⟩)) rfl (by kernel_rfl) (by kernel_rfl) (by kernel_rfl) rfl (by rfl) (fun _ _ _ h => h) hHeld (fun _ hw' => by go_simp) ?_
  simp only [List.setIfInBounds_toArray, List.set_cons_zero, List.set_cons_succ]
  refine takeVal 14 17 (.map (some m)) rfl (by kernel_rfl) (by kernel_rfl) (by kernel_rfl) rfl (by rfl) (fun _ _ _ h => h) hHeld (fun _ hw' => by have c4 := hw'.1.c4; go_simp) ?_
  simp only [List.setIfInBounds_toArray, List.set_cons_zero, List.set_cons_succ]
  refine takeVal 16 19 (.pointer (some ⟨p, 0, none⟩)) rfl (by kernel_rfl) (by kernel_rfl) (by kernel_rfl) rfl (by rfl) (fun _ _ _ h => h) hHeld (fun _ hw' => rfl) ?_
  simp only [List.setIfInBounds_toArray, List.set_cons_zero, List.set_cons_succ]
  refine takeVal 17 20 (.pointer (some ⟨p, 0, none⟩)) rfl (by kernel_rfl) (by kernel_rfl) (by kernel_rfl) rfl (by rfl) (fun _ _ _ h => h) hHeld (fun _ hw' => by go_simp) ?_
  simp only [List.setIfInBounds_toArray, List.set_cons_zero, List.set_cons_succ]
  refine takeVal 18 21 (.pointer (some ⟨p, 0, none⟩)) rfl (by kernel_rfl) (by kernel_rfl) (by kernel_rfl) rfl (by rfl) (fun _ _ _ h => h) hHeld (fun _ hw' => by go_simp) ?_
  simp only [List.setIfInBounds_toArray, List.set_cons_zero, List.set_cons_succ]
  refine takeVal 19 22 (.agg #[.pointer (some ⟨pi, 0, none⟩), .int .i64 1]) rfl (by kernel_rfl) (by kernel_rfl) (by kernel_rfl) rfl (by rfl) (fun _ _ _ h => h) hHeld (fun _ hw' => by have c0 := hw'.1.c0; have c1 := hw'.1.c1; go_simp) ?_
  simp only [List.setIfInBounds_toArray, List.set_cons_zero, List.set_cons_succ]
  refine step1 4 (by kernel_rfl) ?_
  refine stCall 4 7 34 #[.agg #[.pointer (some ⟨pb, 0, none⟩), .int .i64 ((s.ni : Int) + 1)]] _ rfl rfl (by rfl) (by go_simp) (HF1.out _ hHeld.1.bb) ?_
  rintro e wa ⟨rfl, bwa⟩
  have hQ : wa.heap[w.heap.size]? = some (.cells #[.int .i64 0, .int .i64 0, .int .i64 0] 40 (0, 0)) := (Chg.of_below bwa No).keep hQ (fun e => e)
  have hHeld : IsS0 wa lo hi p pi gi pb gb m s ∧ Below w.heap.size w wa := ⟨hHeld.1.keep (Chg.of_below bwa No) (fun _ _ e => e), hHeld.2.trans (bwa.mono hHeld.2.size)⟩
  refine ⟨_, rfl, hHeld, ?_⟩
  simp only [List.setIfInBounds_toArray, List.set_cons_zero, List.set_cons_succ]
  refine takeVal 9 12 (.int .i64 (C2 : Nat)) rfl (by kernel_rfl) (by kernel_rfl) (by kernel_rfl) rfl (by rfl) (fun _ _ _ h => h) hHeld (fun _ hw' => by refine (len_run (T := s.T) (.tmp 11) rfl rfl hw'.1.lt).trans ?_; rw [hC2.out]) ?_
  simp only [List.setIfInBounds_toArray, List.set_cons_zero, List.set_cons_succ]
  refine takeVal 10 13 (.int .i64 (V1 + (C2 : Int))) rfl (by kernel_rfl) (by kernel_rfl) (by kernel_rfl) rfl (by rfl) (fun _ _ _ h => h) hHeld (fun _ hw' => by go_simp; exact HWr.out) ?_
  simp only [List.setIfInBounds_toArray, List.set_cons_zero, List.set_cons_succ]
  refine takeVal 15 18 (.int .i64 (C2 : Nat)) rfl (by kernel_rfl) (by kernel_rfl) (by kernel_rfl) rfl (by rfl) (fun _ _ _ h => h) hHeld (fun _ hw' => by refine (len_run (T := s.T) (.tmp 17) rfl rfl hw'.1.lt).trans ?_; rw [hC2.out]) ?_
  simp only [List.setIfInBounds_toArray, List.set_cons_zero, List.set_cons_succ]
  refine step1 20 (by kernel_rfl) ?_
  refine stCall 20 23 34 #[.agg #[.pointer (some ⟨pi, 0, none⟩), .int .i64 (1)]] _ rfl rfl (by rfl) (by go_simp) (HF2.out _ hHeld.1.bi) ?_
  rintro e wb ⟨rfl, bwb⟩
  have hQ : wb.heap[w.heap.size]? = some (.cells #[.int .i64 0, .int .i64 0, .int .i64 0] 40 (0, 0)) := (Chg.of_below bwb No).keep hQ (fun e => e)
  have hHeld : IsS0 wb lo hi p pi gi pb gb m s ∧ Below w.heap.size w wb := ⟨hHeld.1.keep (Chg.of_below bwb No) (fun _ _ e => e), hHeld.2.trans (bwb.mono hHeld.2.size)⟩
  refine ⟨_, rfl, hHeld, ?_⟩
  simp only [List.setIfInBounds_toArray, List.set_cons_zero, List.set_cons_succ]
  refine takeVal 21 24 (.agg #[.int .i64 (V1 + (C2 : Int)), .int .i64 (C2 : Nat), .int .i64 V2]) rfl (by kernel_rfl) (by kernel_rfl) (by kernel_rfl) rfl (by rfl) (fun _ _ _ h => h) hHeld (fun _ hw' => by go_simp) ?_
  simp only [List.setIfInBounds_toArray, List.set_cons_zero, List.set_cons_succ]
  refine step1 22 (by kernel_rfl) ?_
  refine stStoreR 22 40 (.tmp 2) (.tmp 24) w.heap.size #[.int .i64 (V1 + (C2 : Int)), .int .i64 (C2 : Nat), .int .i64 V2] 40 #[.int .i64 0, .int .i64 0, .int .i64 0] rfl rfl (by rfl) rfl rfl rfl hQ (by rw [szRm]; rfl) rfl (by simp [Value.oneCell']) ?_
  intro wc hwc
  have hB := hwc.below hHeld.2 (Nat.le_refl _)
  have hG : Rg lo hi w.heap.size → False := fun e => by have h1 := e.2; have h2 := HS0.out.top; omega
  have hHeld : IsS0 wc lo hi p pi gi pb gb m s ∧ Below w.heap.size w wc := ⟨hHeld.1.keep (ks := fun k => k = w.heap.size) ⟨hwc.os, hwc.tape, hwc.output, Nat.le_of_eq hwc.size.symm, fun k _ hk => hwc.other k hk⟩ (fun k hk e => hG (e ▸ hk)), hB⟩
  refine ⟨hHeld, ?_⟩
  refine wpAnyH_done (by kernel_rfl) ?_ _
  refine NoPanic.normal ?_
  go_wp2_with fail
  rw [HRV.out, HE.out, HE2.out]
  exact bodyPost_ret (v := .agg #[.int .i64 (V1 + (C2 : Int)), .int .i64 (C2 : Nat), .int .i64 V2]) (results_R1 Try.results13 _ _ w.heap.size _ 40 _ Try.underlying40 rfl (by rw [szRm]; rfl) rfl hwc.here) rfl ⟨rfl, hB⟩
end Go.Proofs.Ytdddcllakjeplaa
