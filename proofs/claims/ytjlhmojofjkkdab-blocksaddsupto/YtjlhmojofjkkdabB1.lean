/-
  A table is read: the function that the program reads by, which recovers.
-/
import Derived.Test.YtjlhmojofjkkdabB0
import Derived.Defers
import Derived.Recover
namespace Go.Proofs.Ytjlhmojofjkkdab
open Go.RowKit Go.Shelf

/-- A reader in memory. -/
def Rd (W : World) (pm : Nat) (s : Src) : Prop := ∃ a c, W.heap[pm]? = some (.cells (srcV a c s) 35 (0, 0)) ∧ ImgAt W a s.im
theorem Rd.below {W W' : World} {pm : Nat} {s : Src} (h : Rd W pm s) (hb : Below W.heap.size W W') : Rd W' pm s := by
  obtain ⟨a, c, h1, h2⟩ := h
  exact ⟨a, c, by rw [hb.block _ (slt h1)]; exact h1, h2.below hb⟩
theorem Rd.sec {W : World} {pm : Nat} {s : Src} (h : Rd W pm s) (n : Int) : IsSec (rdS s n).1 := by
  obtain ⟨a, c, _, h2⟩ := h
  exact rdS_sec h2 n
def rdV (pm : Nat) : Value := .iface 30 (.pointer (some ⟨pm, 0, none⟩))
def tabS (s : Src) (n : Int) : List Int × Int := if (rdS s n).2 = 0 then (ptrsTo (rdS s n).1 32, 0) else (Zp, (rdS s n).2)
theorem Zp_len : Zp.length = 32 := by simp [Zp]
theorem tabS_len (s : Src) (n : Int) : (tabS s n).1.length = 32 := by
  unfold tabS
  split
  · exact ptrsTo_len _ _
  · exact Zp_len

set_option maxRecDepth 100000 in
set_option maxHeartbeats 2000000 in
theorem mRead_any (pm : Nat) (s : Src) (n : Int) (w : World) (h : Rd w pm s) :
    Calls Try.prog 48 #[.pointer (some ⟨pm, 0, none⟩), .int .i64 n] w fun e w' => e = .returned (.tuple #[.agg (SA (rdS s n).1), .int .i64 (rdS s n).2]) ∧ Below w.heap.size w w' := by
  have hzs := zero_sec
  have hsec := (h.sec n).1
  obtain ⟨a, c, h1, h2⟩ := h
  obtain ⟨W, hW⟩ : ∃ y, y = w.alloc (.cells (SA Zs) 77) := ⟨_, rfl⟩
  have HB : Hid (Below w.heap.size w W) := by rw [hW]; exact (Below.refl _ _).alloc (Nat.le_refl _) _
  have H0 : Hid (W.heap[pm]? = some (.cells (srcV a c s) 35 (0, 0))) := by rw [HB.out.block _ (slt h1)]; exact hid h1
  have H1 : Hid (W.heap[w.heap.size]? = some (.cells (SA Zs) 77 (0, 0))) := by rw [hW]; exact heap_alloc_new _ _
  have hR := rRead_any a c s n W (h2.below HB.out)
  have hsv : (srcV a c s).size = 3 := rfl
  go_enter Try.func48, Try.ntmps48
  go_upto_region 1 with fail
  rw [← hW]
  generalize hR0 : rdS s n = R at *
  have HR0 := hid hR0
  clear hW h1 hR0
  go_wp2_with (first
    | (refine load_R rfl 32 (.tmp 8) rfl pm rfl 35 (srcV a c s) _ H0.out Try.underlying32 rfl (by rw [szSrc, hsv]) ?_)
    | (go_at_call 49; go_must (refine hR.mono ?_; rintro e w2 ⟨rfl, hb2⟩; have HB2 := hid (btr HB.out hb2 HB.out.size); have H2 : Hid (w2.heap[w.heap.size]? = some (.cells (SA Zs) 77 (0, 0))) := (by rw [hb2.block _ (slt H1.out)]; exact H1); clear hb2))
    | (refine store_sec rfl (.tmp 4) (.tmp 12) rfl w.heap.size rfl R.1 rfl hsec Zs Zs_len H2.out ?_; intro w5 p5))
  exact bodyPost_ret (results_sec Try.results48 _ _ w.heap.size R.1 hsec _ rfl rfl p5.here) rfl ⟨by rw [HR0.out]; rfl, p5.below HB2.out (Nat.le_refl _)⟩

/-- Two results that lie in memory. -/
theorem results_2 {fn : Func} {p q : Tmp} {t t' : TypeId} (h : fn.results = #[.cell p t, .cell q t']) (tmps : Array Value) (w : World) (g g' : Nat) (v v' : Value)
    (hp : tmps.getD p undef = .pointer (some ⟨g, 0, none⟩)) (hq : tmps.getD q undef = .pointer (some ⟨g', 0, none⟩)) (h1 : (loadVar t ⟨g, 0, none⟩).run Try.prog w = .ok v w) (h2 : (loadVar t' ⟨g', 0, none⟩).run Try.prog w = .ok v' w) :
    (results fn tmps).run Try.prog w = .ok (.tuple #[v, v']) w := by
  have hp' : tmps[p]?.getD undef = .pointer (some ⟨g, 0, none⟩) := by simpa using hp
  have hq' : tmps[q]?.getD undef = .pointer (some ⟨g', 0, none⟩) := by simpa using hq
  simp [results, h, hp', hq', asAddr, h1, h2, Sem.run_bind]
theorem run_errno (w : World) (g : Nat) (n : Int) (h : w.cell? ⟨g, 0, none⟩ = some (.int .i64 n)) : (loadVar 26 ⟨g, 0, none⟩).run Try.prog w = .ok (.int .i64 n) w := by
  go_simp
section
variable {ops : Array Oper} {Q : Exit → Act → World → Prop} {S : World → Prop} {fuel : Nat} {listed : Array Bool} {a : Act} {w : World}
/-- An operation with no slot: a store. -/
theorem stPut (i : Nat) (w' : World) {o : Oper} (hop : ops[i]? = some o) (hd : o.dst = none) (hw : Region.wanted o (yielded ops a.tmps) = true)
    (hrun : (execOp a.eval o).run Try.prog w = .ok .skip w')
    (h : S w' ∧ wpAnyH Try.prog .any ops Q S fuel (listed.setIfInBounds i true) a w') : St ops Q S fuel listed a w i := by
  refine wpOp_step hop (fun K hK => ?_)
  rw [if_pos hw]
  unfold Oper.wp
  rw [hrun]
  refine hK _ _ ⟨h.1, ?_⟩
  unfold Act.put
  rw [hd]
  exact h.2
end
/-- The deferred function, where nothing panics. -/
theorem catch_idle (p q : Addr) (w : World) :
    CallsD Try.prog 22 #[.pointer (some p), .pointer (some q)] .returning w fun e u' w' => e = .returned (.tuple #[]) ∧ u' = .returning ∧ w' = w := by
  refine callsD_of_wpS Try.func22 rfl fun c₀ cs hu => ?_
  apply wpS_seq
  apply wpS_region
  simp [wpOpsS, go_sem, recoverD, hu, Try.ntmps22, Exit.thenS]
  refine wpS_cond (t := false) (by simp [Act.eval, Array.replicate]) ?_
  simp only [Bool.false_eq_true, if_false]
  refine wpS_of_wp (wp_skip ?_)
  cases c₀
  simp_all [bodyPostS, results, Try.results22]

set_option maxRecDepth 100000 in
set_option maxHeartbeats 2000000 in
theorem table_any (pm : Nat) (s : Src) (n : Int) (w : World) (h : Rd w pm s) :
    Calls Try.prog 15 #[rdV pm, .int .i64 n] w fun e w' => e = .returned (.tuple #[.agg (NA (tabS s n).1), .int .i64 (tabS s n).2]) ∧ Below w.heap.size w w' := by
  have hmf : ∀ (fn : Fn) (first cap : Array Value) (w : World), (Instr.makeFunc fn first cap).run Try.prog w = .ok (.func fn first cap) w := fun _ _ _ _ => rfl
  have hzp := zero_ptr
  have hzs := zero_sec
  have hsec := h.sec n
  have hln := tabS_len s n
  obtain ⟨W, hW⟩ : ∃ y, y = (w.alloc (.cells (NA Zp) 59)).alloc (.cells #[.int .i64 0] 26) := ⟨_, rfl⟩
  have HB : Hid (Below w.heap.size w W) := by rw [hW]; exact ((Below.refl _ _).alloc (Nat.le_refl _) _).alloc (by simp) _
  have H0 : Hid (W.heap[w.heap.size]? = some (.cells (NA Zp) 59 (0, 0))) := by rw [hW]; exact heap_alloc2_old w _ _
  have H1 : Hid (W.heap[w.heap.size + 1]? = some (.cells #[.int .i64 0] 26 (0, 0))) := by rw [hW]; exact heap_alloc2_new w _ _
  have HZ : Hid (W.heap.size = w.heap.size + 2) := by rw [hW]; exact hid (by simp)
  have hR := mRead_any pm s n W (h.below HB.out)
  have hm : ∀ w, (method 212 30 (.pointer (some ⟨pm, 0, none⟩)) "Read").run Try.prog w = .ok (48, .pointer (some ⟨pm, 0, none⟩)) w := fun _ => by kernel_rfl
  unfold rdV
  go_enter_defers Try.func15, Try.ntmps15
  go_upto_region 2 with fail
  rw [← hW]
  clear hW
  generalize hR0 : rdS s n = R at *
  have HR0 := hid hR0
  have HT : Hid (tabS s n = if R.2 = 0 then (ptrsTo R.1 32, 0) else (Zp, R.2)) := by unfold tabS; rw [hR0]; exact hid rfl
  clear hR0 h
  have hf1 := frozen_of_row W (w.heap.size + 1) 0 _ _ H1.out
  go_upto_region 3 with (first
    | (go_at_call 48; go_must (refine hR.mono ?_; rintro e w2 ⟨rfl, hb2⟩; have HB2 := hid (btr HB.out hb2 HB.out.size); have H02 : Hid (w2.heap[w.heap.size]? = some (.cells (NA Zp) 59 (0, 0))) := (by rw [hb2.block _ (slt H0.out)]; exact H0); have H12 : Hid (w2.heap[w.heap.size + 1]? = some (.cells #[.int .i64 0] 26 (0, 0))) := (by rw [hb2.block _ (slt H1.out)]; exact H1); clear hb2))
    | (refine store_sec rfl (.tmp 6) (.tmp 12) rfl w2.heap.size rfl R.1 rfl hsec.1 Zs Zs_len (heap_alloc_new _ _) ?_; go_must (intro w4 p4; have H14 : Hid (w4.heap[w.heap.size + 1]? = some (.cells #[.int .i64 0] 26 (0, 0))) := (by have := slt H12.out; rw [p4.other _ (by omega), Below.heap_alloc _ _ _ this]; exact H12); have c4 : w4.cell? ⟨w.heap.size + 1, 0, none⟩ = some (.int .i64 0) := (by rw [cell_of_row _ _ _ _ _ _ H14.out]; rfl); have f4 := frozen_of_row w4 (w.heap.size + 1) 0 _ _ H14.out)))
  have hw2 : w.heap.size + 2 ≤ w2.heap.size := by have := slt H12.out; omega
  obtain ⟨X, hX⟩ : ∃ y, y = w4.setCell ⟨w.heap.size + 1, 0, none⟩ (.int .i64 R.2) := ⟨_, rfl⟩
  have X1 : Hid (X.heap[w.heap.size + 1]? = some (.cells #[.int .i64 R.2] 26 (0, 0))) := by rw [hX]; exact heap_setCell_same w4 _ 0 _ _ _ H14.out
  have X0 : Hid (X.heap[w.heap.size]? = some (.cells (NA Zp) 59 (0, 0))) := by rw [hX, heap_setCell_other _ _ _ _ (by simp), p4.other _ (by omega), Below.heap_alloc _ _ _ (slt H02.out)]; exact H02
  have X2 : Hid (X.heap[w2.heap.size]? = some (.cells (SA R.1) 77 (0, 0))) := by rw [hX, heap_setCell_other _ _ _ _ (by simp; omega)]; exact p4.here
  have XB : Hid (Below w.heap.size w X) := by rw [hX]; exact (p4.below (HB2.out.alloc (by omega) _) (by omega)).setCell (p := ⟨w.heap.size + 1, 0, none⟩) (by simp) _
  rw [← hX]
  clear hX c4 f4 p4 H14 H12 H02 hf1 hR HZ
  have c1 : X.cell? ⟨w.heap.size + 1, 0, none⟩ = some (.int .i64 R.2) := by rw [cell_of_row _ _ _ _ _ _ X1.out]; rfl
  by_cases hz : R.2 = 0
  · have HT2 : Hid (tabS s n = (ptrsTo R.1 32, 0)) := by rw [HT.out, if_pos hz]; exact hid rfl
    rw [hz] at c1 X1
    have hP := readPointers_any R.1 hsec X
    have hpl := ptrsTo_len R.1 32
    generalize ptrsTo R.1 32 = PP at *
    go_wp2_with (first
      | (refine load_sec rfl (.tmp 6) rfl w2.heap.size rfl R.1 hsec.1 X2.out ?_)
      | (go_at_call 23; go_must (refine hP.mono ?_; rintro e y1 ⟨rfl, hb1⟩; have Y0 : Hid (y1.heap[w.heap.size]? = some (.cells (NA Zp) 59 (0, 0))) := (by rw [hb1.block _ (slt X0.out)]; exact X0); have Y1 : Hid (y1.heap[w.heap.size + 1]? = some (.cells #[.int .i64 0] 26 (0, 0))) := (by rw [hb1.block _ (slt X1.out)]; exact X1); have YB := hid (btr XB.out hb1 XB.out.size); clear hb1))
      | (refine store_R rfl 59 (.tmp 4) (.tmp 19) rfl w.heap.size (NA PP) rfl rfl 59 (NA Zp) Y0.out (by rw [szP, NA_size, hpl]) (by rw [NA_size, NA_size, Zp_len, hpl]) (NA_one _) ?_; go_must (intro y2 p2; have Y12 : Hid (y2.heap[w.heap.size + 1]? = some (.cells #[.int .i64 0] 26 (0, 0))) := (by rw [p2.other _ (by omega)]; exact Y1); have c2 : y2.cell? ⟨w.heap.size + 1, 0, none⟩ = some (.int .i64 0) := (by rw [cell_of_row _ _ _ _ _ _ Y12.out]; rfl); have f2 := frozen_of_row y2 (w.heap.size + 1) 0 _ _ Y12.out)))
    refine leaves_cons (f := 22) (args := #[.pointer (some ⟨w.heap.size, 0, none⟩), .pointer (some ⟨w.heap.size + 1, 0, none⟩)]) (by simp) (by simp [go_sem]) ?_
    refine (catch_idle _ _ _).mono ?_
    rintro e u' w'' ⟨rfl, rfl, rfl⟩
    have Z0 : (y2.setCell ⟨w.heap.size + 1, 0, none⟩ (.int .i64 0)).heap[w.heap.size]? = some (.cells (NA PP) 59 (0, 0)) := by rw [heap_setCell_other _ _ _ _ (by simp)]; exact p2.here
    have Z1 : (y2.setCell ⟨w.heap.size + 1, 0, none⟩ (.int .i64 0)).cell? ⟨w.heap.size + 1, 0, none⟩ = some (.int .i64 0) := World.cell?_setCell_same' _ _ _ (by rw [c2]; rfl)
    exact ⟨_, results_2 Try.results15 _ _ w.heap.size (w.heap.size + 1) _ _ rfl rfl (run_loadR _ w.heap.size 59 59 _ _ Z0 Try.underlying59 rfl (by rw [szP, NA_size, hpl])) (run_errno _ _ _ Z1), by rw [HT2.out], (p2.below YB.out (Nat.le_refl _)).setCell (p := ⟨w.heap.size + 1, 0, none⟩) (by simp) _⟩
  · have HT2 : Hid (tabS s n = (Zp, R.2)) := by rw [HT.out, if_neg hz]; exact hid rfl
    have hbp : ∀ W, (Instr.build 59 #[]).run Try.prog W = .ok (.agg (NA Zp)) W := fun W => by kernel_rfl
    go_upto_region 4 with fail
    refine wp_region_noPanic ?_
    refine wp_region_held_drew (S := fun w' => w'.heap[w.heap.size]? = some (.cells (NA Zp) 59 (0, 0)) ∧ w'.heap[w.heap.size + 1]? = some (.cells #[.int .i64 R.2] 26 (0, 0)) ∧ Below w.heap.size w w') (by kernel_rfl) ⟨X0.out, X1.out, below_drew XB.out⟩ (fun hHeld => ?_)
    refine takeVal 0 16 (.agg (NA Zp)) rfl (by kernel_rfl) (by kernel_rfl) (by kernel_rfl) rfl (by rfl) (fun _ _ _ h => h) hHeld (fun W' _ => by have := hbp W'; go_simp) ?_
    simp only [List.setIfInBounds_toArray, List.set_cons_zero, List.set_cons_succ]
    refine takeVal 1 17 (.int .i64 R.2) rfl (by kernel_rfl) (by kernel_rfl) (by kernel_rfl) rfl (by rfl) (fun _ _ _ h => h) hHeld (fun W' hw' => by have hq : W'.cell? ⟨w.heap.size + 1, 0, none⟩ = some (.int .i64 R.2) := (by rw [cell_of_row _ _ _ _ _ _ hw'.2.1]; rfl); go_simp) ?_
    simp only [List.setIfInBounds_toArray, List.set_cons_zero, List.set_cons_succ]
    refine step1 2 (by kernel_rfl) ?_
    refine stStoreR 2 59 (.tmp 4) (.tmp 16) w.heap.size (NA Zp) 59 (NA Zp) rfl rfl (by rfl) rfl rfl rfl hHeld.1 (by rw [szP, NA_size, Zp_len]) rfl (NA_one _) ?_
    intro y2 p2
    have Y1 : y2.heap[w.heap.size + 1]? = some (.cells #[.int .i64 R.2] 26 (0, 0)) := by rw [p2.other _ (by omega)]; exact hHeld.2.1
    have YB := p2.below hHeld.2.2 (Nat.le_refl _)
    refine ⟨⟨p2.here, Y1, YB⟩, ?_⟩
    refine step1 3 (by kernel_rfl) ?_
    refine stPut 3 (y2.setCell ⟨w.heap.size + 1, 0, none⟩ (.int .i64 R.2)) rfl rfl (by rfl) (by have c2 : y2.cell? ⟨w.heap.size + 1, 0, none⟩ = some (.int .i64 R.2) := (by rw [cell_of_row _ _ _ _ _ _ Y1]; rfl); have f2 := frozen_of_row y2 (w.heap.size + 1) 0 _ _ Y1; go_simp) ?_
    have Z0 : (y2.setCell ⟨w.heap.size + 1, 0, none⟩ (.int .i64 R.2)).heap[w.heap.size]? = some (.cells (NA Zp) 59 (0, 0)) := by rw [heap_setCell_other _ _ _ _ (by simp)]; exact p2.here
    have Z1' : (y2.setCell ⟨w.heap.size + 1, 0, none⟩ (.int .i64 R.2)).heap[w.heap.size + 1]? = some (.cells #[.int .i64 R.2] 26 (0, 0)) := heap_setCell_same y2 _ 0 _ _ _ Y1
    have ZB : Below w.heap.size w (y2.setCell ⟨w.heap.size + 1, 0, none⟩ (.int .i64 R.2)) := YB.setCell (p := ⟨w.heap.size + 1, 0, none⟩) (by simp) _
    refine ⟨⟨Z0, Z1', ZB⟩, ?_⟩
    have Z1 : (y2.setCell ⟨w.heap.size + 1, 0, none⟩ (.int .i64 R.2)).cell? ⟨w.heap.size + 1, 0, none⟩ = some (.int .i64 R.2) := by rw [cell_of_row _ _ _ _ _ _ Z1']; rfl
    refine wpAnyH_done (by kernel_rfl) ?_ _
    refine NoPanic.normal ?_
    generalize y2.setCell ⟨w.heap.size + 1, 0, none⟩ (.int .i64 R.2) = Y at *
    have Z0h := hid Z0
    have ZBh := hid ZB
    clear Z0 Z1' ZB Y1 YB p2 hHeld
    go_wp2_with fail
    refine leaves_cons (f := 22) (args := #[.pointer (some ⟨w.heap.size, 0, none⟩), .pointer (some ⟨w.heap.size + 1, 0, none⟩)]) (by simp) (by simp [go_sem]) ?_
    refine (catch_idle _ _ _).mono ?_
    rintro e u' w'' ⟨rfl, rfl, rfl⟩
    exact ⟨_, results_2 Try.results15 _ _ w.heap.size (w.heap.size + 1) _ _ rfl rfl (run_loadR _ w.heap.size 59 59 _ _ Z0h.out Try.underlying59 rfl (by rw [szP, NA_size, Zp_len])) (run_errno _ _ _ Z1), by rw [HT2.out], ZBh.out⟩

end Go.Proofs.Ytjlhmojofjkkdab
