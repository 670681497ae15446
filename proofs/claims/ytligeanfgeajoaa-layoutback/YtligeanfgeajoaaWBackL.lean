/-
  LayoutBack: its walk, over what the eight calls answer.
-/
import Derived.Test.YtligeanfgeajoaaLK
import Derived.Test.YtligeanfgeajoaaLI4
import Derived.Test.YtligeanfgeajoaaLP2
import Derived.Test.YtligeanfgeajoaaLH4
import Derived.Test.YtligeanfgeajoaaOpenT
import Derived.Deep.CutRange
import Derived.Deep.DeepCutAuto
namespace Go.Proofs.Ytligeanfgeajoaa
open Go.RowKit

theorem load_Rb {ops : Array Oper} {rest : List Oper} {o : Oper} {a : Act} {w : World} {Q : Exit → Act → World → Prop} (t : TypeId) (x : Operand) (ho : o.op = .load t x) (g : Nat) (hx : a.eval x = .pointer (some ⟨g, 0, none⟩)) (tb : TypeId) (c : Array Value) (d : TypeDesc) (hg : w.heap[g]? = some (.cells c tb (0, 0)))
    (hu : Try.prog.underlying t = some d) (hd : d.isRow = true) (hi : (Try.prog.info? t).map (·.size) = some c.size) (hw : Region.wanted o (yielded ops a.tmps) = true)
    (h : wpList Try.prog ops Q rest (a.put o.dst (.agg c)) w) : wpList Try.prog ops Q (o :: rest) a w :=
  wpList_want hw fun _ hK => by
    unfold Oper.wp execOp
    simp only [ho, hx, Instr.loadAt, Instr.sureAddr, Sem.run_bind, Sem.run_pure, Result.andThen_ok, run_loadR w g t tb c d hg hu hd hi]
    exact hK _ _ h
theorem load_M {ops : Array Oper} {rest : List Oper} {o : Oper} {a : Act} {w : World} {Q : Exit → Act → World → Prop} (t : TypeId) (x : Operand) (ho : o.op = .load t x) (g off : Nat) (hx : a.eval x = .pointer (some ⟨g, off, none⟩)) (d : List Value) (td : TypeDesc) (hc : ∀ j v, d[j]? = some v → w.cell? ⟨g, off + j, none⟩ = some v)
    (hu : Try.prog.underlying t = some td) (hd : td.isRow = true) (hi : (Try.prog.info? t).map (·.size) = some d.length) (hw : Region.wanted o (yielded ops a.tmps) = true)
    (h : wpList Try.prog ops Q rest (a.put o.dst (.agg d.toArray)) w) : wpList Try.prog ops Q (o :: rest) a w :=
  wpList_want hw fun _ hK => by
    unfold Oper.wp execOp
    simp only [ho, hx, Instr.loadAt, Instr.sureAddr, Sem.run_bind, Sem.run_pure, Result.andThen_ok, run_loadVar_mid (P := Try.prog) w g off t d td hc hu hd hi]
    exact hK _ _ h
theorem th_cells {w : World} {g off : Nat} {L d : List Value} (hg : w.heap[g]? = some (.cells L.toArray 53 (0, 0))) (h : ∀ j v, d[j]? = some v → L[off + j]? = some v) : ∀ j v, d[j]? = some v → w.cell? ⟨g, off + j, none⟩ = some v := fun j v hv => by
  rw [cell_of_row _ _ _ _ _ _ hg, List.getElem?_toArray]; exact h j v hv
theorem th0 (a b : Int) (z x : List Int) (n : Int) (s : ByteArray) : ∀ (j : Nat) v, ([.int .i64 a, .int .i64 b] : List Value)[j]? = some v → (thL a b z x n s)[0 + j]? = some v := fun j v h => by
  rw [Nat.zero_add]
  unfold thL
  have hj : j < 2 := by
    rcases Nat.lt_or_ge j 2 with g | g
    · exact g
    · rw [List.getElem?_eq_none (by simpa using g)] at h; cases h
  rw [List.getElem?_append_left (by simpa using hj)]; exact h
theorem th1 (a b : Int) (z x : List Int) (n : Int) (s : ByteArray) : ∀ (j : Nat) v, (z.map (Value.int .i64))[j]? = some v → (thL a b z x n s)[2 + j]? = some v := fun j v h => by
  unfold thL
  have hj : j < (z.map (Value.int .i64)).length := by
    rcases Nat.lt_or_ge j (z.map (Value.int .i64)).length with g | g
    · exact g
    · rw [List.getElem?_eq_none g] at h; cases h
  rw [List.getElem?_append_right (by simp), show 2 + j - ([.int .i64 a, .int .i64 b] : List Value).length = j by simp, List.getElem?_append_left hj]; exact h
theorem th2 (a b : Int) (z x : List Int) (n : Int) (s : ByteArray) (hz : z.length = 18) : ∀ (j : Nat) v, (x.map (Value.int .i64))[j]? = some v → (thL a b z x n s)[20 + j]? = some v := fun j v h => by
  unfold thL
  have hj : j < (x.map (Value.int .i64)).length := by
    rcases Nat.lt_or_ge j (x.map (Value.int .i64)).length with g | g
    · exact g
    · rw [List.getElem?_eq_none g] at h; cases h
  rw [List.getElem?_append_right (by simp; omega), List.getElem?_append_right (by simp; omega)]
  rw [show 20 + j - ([.int .i64 a, .int .i64 b] : List Value).length - (z.map (Value.int .i64)).length = j by simp; omega, List.getElem?_append_left hj]; exact h
theorem th3 (a b : Int) (z x : List Int) (n : Int) (s : ByteArray) (hz : z.length = 18) (hx : x.length = 32) : ∀ (j : Nat) v, ([.int .i64 n, .string s] : List Value)[j]? = some v → (thL a b z x n s)[52 + j]? = some v := fun j v h => by
  unfold thL
  rw [List.getElem?_append_right (by simp; omega), List.getElem?_append_right (by simp; omega), List.getElem?_append_right (by simp; omega)]
  rw [show 52 + j - ([.int .i64 a, .int .i64 b] : List Value).length - (z.map (Value.int .i64)).length - (x.map (Value.int .i64)).length = j by simp; omega]; exact h
theorem eq_supb (a b : Int) (w : World) : (Op.equalIn 10000 23 (.agg #[.int .i64 a, .int .i64 b]) (.agg #[.int .i64 a, .int .i64 b])).run Try.prog w = .ok true w := by go_simp
theorem eq_slotb (n : Int) (s : ByteArray) (w : World) : (Op.equalIn 10000 47 (.agg #[.int .i64 n, .string s]) (.agg #[.int .i64 n, .string s])).run Try.prog w = .ok true w := by go_simp
theorem eq_ptrb (x y : List Int) (hx : x.length = 32) (hy : y.length = 32) (w : World) : (Op.equalIn 10000 42 (.agg (NA x)) (.agg (NA y))).run Try.prog w = .ok (decide (x = y)) w := eq_arr 42 32 (by kernel_rfl) 9998 x y hx hy w
theorem guard_supb : Try.prog.eqGuardType Try.prog.depth 23 = false := by kernel_rfl
theorem guard_slotb : Try.prog.eqGuardType Try.prog.depth 47 = false := by kernel_rfl
theorem guard_ptrb : Try.prog.eqGuardType Try.prog.depth 42 = false := by kernel_rfl
theorem szL : (Try.prog.info? 47).map (·.size) = some 2 := by kernel_rfl
/-- A block that stands, behind a row that was written into another one. -/
theorem wr_far {w w1 w2 : World} {c : List Int} {g G : Nat} {o : Obj} (h : Wrote w1 G c w2) (hb : Below w.heap.size w w1) (hg : w.heap[g]? = some o) (hn : g ≠ G) : w2.heap[g]? = some o := by
  rw [h.other _ hn, hb.block _ (slt hg)]; exact hg

set_option maxRecDepth 100000 in
set_option maxHeartbeats 6000000 in
theorem back_core (a b : Int) (z x : List Int) (n : Int) (s : ByteArray) (S1 S2 S3 S4 Z X : List Int) (E1 E2 E3 E4 F1 F2 F4 Ra Rb N : Int) (M : ByteArray) (w : World) (hz : z.length = 18) (hx : x.length = 32) (hZ : Z.length = 18) (hX : X.length = 32)
    (hl1 : S1.length = 128) (hl2 : S2.length = 128) (hl3 : S3.length = 128) (hl4 : S4.length = 128)
    (hw1 : ∀ w', Calls Try.prog 10 #[.agg #[.int .i64 a, .int .i64 b]] w' fun e w'' => e = .returned (.tuple #[.agg (SA S1), .int .i64 E1]) ∧ Below w'.heap.size w' w'')
    (hr1 : ∀ w', Calls Try.prog 12 #[.agg (SA S1)] w' fun e w'' => e = .returned (.tuple #[.agg (SUA Ra Rb), .int .i64 F1]) ∧ Below w'.heap.size w' w'')
    (hw2 : ∀ w', Calls Try.prog 16 #[.agg (NA z)] w' fun e w'' => e = .returned (.tuple #[.agg (SA S2), .int .i64 E2]) ∧ Below w'.heap.size w' w'')
    (hr2 : ∀ w', Calls Try.prog 18 #[.agg (SA S2)] w' fun e w'' => e = .returned (.tuple #[.agg (NA Z), .int .i64 F2]) ∧ Below w'.heap.size w' w'')
    (hw3 : ∀ w', Calls Try.prog 20 #[.agg (NA x)] w' fun e w'' => e = .returned (.tuple #[.agg (SA S3), .int .i64 E3]) ∧ Below w'.heap.size w' w'')
    (hr3 : ∀ w', Calls Try.prog 22 #[.agg (SA S3)] w' fun e w'' => e = .returned (.agg (NA X)) ∧ Below w'.heap.size w' w'')
    (hw4 : ∀ w', Calls Try.prog 24 #[.agg #[.int .i64 n, .string s]] w' fun e w'' => e = .returned (.tuple #[.agg (SA S4), .int .i64 E4]) ∧ Below w'.heap.size w' w'')
    (hr4 : ∀ w', Calls Try.prog 26 #[.agg (SA S4)] w' fun e w'' => e = .returned (.tuple #[.agg (SLA N M), .int .i64 F4]) ∧ Below w'.heap.size w' w'')
    (A1 : Hid ((E1 = 0 ∧ F1 = 0 ∧ a = Ra ∧ b = Rb) ∨ (E1 = 60 ∧ S1 = Zs)))
    (A2 : Hid ((E2 = 0 ∧ F2 = 0 ∧ z = Z) ∨ (E2 = 61 ∧ S2 = Zs)))
    (A3 : Hid ((E3 = 0 ∧ x = X) ∨ (E3 = 62 ∧ S3 = Zs)))
    (A4 : Hid ((E4 = 0 ∧ F4 = 0 ∧ n = N ∧ s = M) ∨ (E4 = 63 ∧ S4 = Zs))) :
    Calls Try.prog 7 #[.agg (thL a b z x n s).toArray] w fun e w' => e = .returned (.bool true) ∧ Below w.heap.size w w' := by
  have hzs := zero_sec
  have hzi := zero_inode
  have hzp := zero_ptr
  have hbs := build_sec
  have C0 := hid (th0 a b z x n s)
  have C1 := hid (th1 a b z x n s)
  have C2 := hid (th2 a b z x n s hz)
  have C3 := hid (th3 a b z x n s hz hx)
  have HEZ : Hid (∀ w', (Op.equalIn 10000 25 (.agg (SA Zs)) (.agg (SA Zs))).run Try.prog w' = .ok true w') := fun w' => by rw [eq_sec _ _ Zs_len Zs_len, decide_eq_true rfl]
  generalize thL a b z x n s = TH at *
  have T0 : Hid ((w.alloc (.cells TH.toArray 53)).heap[w.heap.size]? = some (.cells TH.toArray 53 (0, 0))) := heap_alloc_new _ _
  have B0 : Hid (Below w.heap.size w (w.alloc (.cells TH.toArray 53))) := (Below.refl _ _).alloc (Nat.le_refl _) _
  go_enter Try.func7, Try.ntmps7
  go_upto_region 4 with (first | (go_at_call 9; refine (known_any _).mono ?_; rintro e w1 ⟨rfl, hb1⟩))
  have T1 : Hid (w1.heap[w.heap.size]? = some (.cells TH.toArray 53 (0, 0))) := by show _ = _; rw [hb1.block _ (slt T0.out)]; exact T0.out
  have B1 : Hid (Below w.heap.size w w1) := btr B0.out hb1 B0.out.size
  clear T0 B0 hb1
  go_upto_region 6 with (first | refine load_M 23 (.tmp 15) rfl w.heap.size 0 rfl [.int .i64 a, .int .i64 b] _ (th_cells T1.out C0.out) Try.underlying23 rfl (by rw [szS]; rfl) rfl ?_ | (go_at_call 10; refine (hw1 _).mono ?_; rintro e w2 ⟨rfl, hb2⟩) | (refine store_sec rfl (.tmp 4) _ rfl w2.heap.size rfl S1 rfl hl1 Zs Zs_len (heap_alloc_new _ _) ?_; intro w3 hw3; have T3 := hid (wr_keep hw3 hb2 T1.out); have P3 := hid hw3.here; have B3 : Hid (Below w.heap.size w w3) := hw3.below ((btr B1.out hb2 B1.out.size).alloc (Nat.le_trans B1.out.size hb2.size) _) (Nat.le_trans B1.out.size hb2.size); have hG : w.heap.size < w2.heap.size := Nat.lt_of_lt_of_le (slt T1.out) hb2.size; obtain ⟨G, hGe⟩ : ∃ y, y = w2.heap.size := ⟨_, rfl⟩; rw [← hGe] at P3 hG ⊢; clear hGe hw3 hb2 T1 B1) | refine load_sec rfl (.tmp 4) rfl G rfl S1 hl1 P3.out ?_ | (go_at_call 12; refine (hr1 _).mono ?_; rintro e w4 ⟨rfl, hb4⟩) | (refine store_R rfl 23 (.tmp 6) _ rfl w4.heap.size _ rfl rfl 23 _ (heap_alloc_new _ _) (by rw [szS]; rfl) rfl (by simp [SUA, Value.oneCell']) ?_; intro w5 hw5; have T5 := hid (pr_keep hw5 hb4 T3.out); have P5 := hid (pr_keep hw5 hb4 P3.out); have R5 := hid hw5.here; have B5 : Hid (Below w.heap.size w w5) := hw5.below ((btr B3.out hb4 B3.out.size).alloc (Nat.le_trans B3.out.size hb4.size) _) (Nat.le_trans B3.out.size hb4.size); obtain ⟨g1, hg1⟩ : ∃ y, y = w4.heap.size := ⟨_, rfl⟩; rw [← hg1] at R5 ⊢; clear hg1 hw5 hb4 T3 P3 B3))
  go_cut [49] (fun x wc => x = .bool false ∧ Hid (wc = w5))
  case first =>
    rcases A1.out with ⟨h1, h2, h3, h4⟩ | ⟨h1, h2⟩
    · subst h1 h2 h3 h4
      go_wp2_with (first | refine load_Rb 23 (.tmp 6) rfl g1 rfl 23 _ _ R5.out Try.underlying23 rfl (by rw [szS]; rfl) rfl ?_ | refine load_M 23 (.tmp 32) rfl w.heap.size 0 rfl [.int .i64 a, .int .i64 b] _ (th_cells T5.out C0.out) Try.underlying23 rfl (by rw [szS]; rfl) rfl ?_ | refine neq_R rfl 23 (.tmp 31) (.tmp 33) rfl (#[.int .i64 a, .int .i64 b]) (#[.int .i64 a, .int .i64 b]) true rfl rfl (eq_supb a b) guard_supb ?_)
      go_meet
      case rel => exact ⟨rfl, rfl⟩
    · subst h1 h2
      go_wp2_with (first | refine load_sec_g (.tmp 4) rfl G rfl Zs Zs_len P5.out rfl ?_ | refine neq_R rfl 25 (.tmp 44) (.tmp 45) rfl (SA Zs) (SA Zs) true rfl rfl HEZ.out guard_sec ?_)
      go_meet
      case rel => exact ⟨rfl, rfl⟩
  case rest =>
    obtain ⟨rfl, hwc⟩ := hcut
    obtain rfl : wc = w5 := hwc.out
    clear hwc R5
    go_upto_region 10 with (first | refine load_M 36 (.tmp 51) rfl w.heap.size 2 rfl (z.map (Value.int .i64)) _ (th_cells T5.out C1.out) Try.underlying36 rfl (by rw [szI, List.length_map, hz]) rfl ?_ | (go_at_call 16; refine (hw2 _).mono ?_; rintro e w6 ⟨rfl, hb6⟩) | (refine store_sec rfl (.tmp 4) _ rfl G rfl S2 rfl hl2 S1 hl1 (by rw [hb6.block _ (slt P5.out)]; exact P5.out) ?_; intro w7 hw7; have T7 := hid (wr_far hw7 hb6 T5.out (by omega)); have P7 := hid hw7.here; have B7 : Hid (Below w.heap.size w w7) := hw7.below (btr B5.out hb6 B5.out.size) (by omega); clear hw7 hb6 T5 B5 P5) | refine load_sec rfl (.tmp 4) rfl G rfl S2 hl2 P7.out ?_ | (go_at_call 18; refine (hr2 _).mono ?_; rintro e w8 ⟨rfl, hb8⟩) | (refine store_R rfl 36 (.tmp 8) _ rfl w8.heap.size _ rfl rfl 36 _ (heap_alloc_new _ _) (by rw [szI, NA_size, hZ]) (by rw [NA_size, NA_size, hZ]; rfl) (NA_one _) ?_; intro w9 hw9; have T9 := hid (pr_keep hw9 hb8 T7.out); have P9 := hid (pr_keep hw9 hb8 P7.out); have R9 := hid hw9.here; have B9 : Hid (Below w.heap.size w w9) := hw9.below ((btr B7.out hb8 B7.out.size).alloc (Nat.le_trans B7.out.size hb8.size) _) (Nat.le_trans B7.out.size hb8.size); obtain ⟨g2, hg2⟩ : ∃ y, y = w8.heap.size := ⟨_, rfl⟩; rw [← hg2] at R9 ⊢; clear hg2 hw9 hb8 T7 P7 B7))
    go_cut [85] (fun x wc => x = .bool false ∧ Hid (wc = w9))
    case first =>
      rcases A2.out with ⟨h1, h2, h3⟩ | ⟨h1, h2⟩
      · subst h1 h2 h3
        go_wp2_with (first | refine load_Rb 36 (.tmp 8) rfl g2 rfl 36 _ _ R9.out Try.underlying36 rfl (by rw [szI, NA_size, hz]) rfl ?_ | refine load_M 36 (.tmp 68) rfl w.heap.size 2 rfl (z.map (Value.int .i64)) _ (th_cells T9.out C1.out) Try.underlying36 rfl (by rw [szI, List.length_map, hz]) rfl ?_ | refine neq_R rfl 36 (.tmp 67) (.tmp 69) rfl (NA z) (NA z) true rfl rfl (fun w' => by rw [eq_inode z z hz hz, decide_eq_true rfl]) guard_inode ?_)
        go_meet
        case rel => exact ⟨rfl, rfl⟩
      · subst h1 h2
        go_wp2_with (first | refine load_sec_g (.tmp 4) rfl G rfl Zs Zs_len P9.out rfl ?_ | refine neq_R rfl 25 (.tmp 80) (.tmp 81) rfl (SA Zs) (SA Zs) true rfl rfl HEZ.out guard_sec ?_)
        go_meet
        case rel => exact ⟨rfl, rfl⟩
    case rest =>
      obtain ⟨rfl, hwc⟩ := hcut
      obtain rfl : wc = w9 := hwc.out
      clear hwc R9
      go_upto_region 14 with (first | refine load_M 42 (.tmp 87) rfl w.heap.size 20 rfl (x.map (Value.int .i64)) _ (th_cells T9.out C2.out) Try.underlying42 rfl (by rw [szP, List.length_map, hx]) rfl ?_ | (go_at_call 20; refine (hw3 _).mono ?_; rintro e w10 ⟨rfl, hb10⟩) | (refine store_sec rfl (.tmp 4) _ rfl G rfl S3 rfl hl3 S2 hl2 (by rw [hb10.block _ (slt P9.out)]; exact P9.out) ?_; intro w11 hw11; have T11 := hid (wr_far hw11 hb10 T9.out (by omega)); have P11 := hid hw11.here; have B11 : Hid (Below w.heap.size w w11) := hw11.below (btr B9.out hb10 B9.out.size) (by omega); clear hw11 hb10 T9 B9 P9) | refine load_sec rfl (.tmp 4) rfl G rfl S3 hl3 P11.out ?_ | (go_at_call 22; refine (hr3 _).mono ?_; rintro e w12 ⟨rfl, hb12⟩) | (refine store_R rfl 42 (.tmp 9) _ rfl w12.heap.size _ rfl rfl 42 _ (heap_alloc_new _ _) (by rw [szP, NA_size, hX]) (by rw [NA_size, NA_size, hX]; rfl) (NA_one _) ?_; intro w13 hw13; have T13 := hid (pr_keep hw13 hb12 T11.out); have P13 := hid (pr_keep hw13 hb12 P11.out); have R13 := hid hw13.here; have B13 : Hid (Below w.heap.size w w13) := hw13.below ((btr B11.out hb12 B11.out.size).alloc (Nat.le_trans B11.out.size hb12.size) _) (Nat.le_trans B11.out.size hb12.size); obtain ⟨g3, hg3⟩ : ∃ y, y = w12.heap.size := ⟨_, rfl⟩; rw [← hg3] at R13 ⊢; clear hg3 hw13 hb12 T11 P11 B11))
      dsimp only [Act.put]
      go_cut [114] (fun x wc => x = .bool false ∧ Hid (wc = w13))
      case first =>
        rcases A3.out with ⟨h1, h3⟩ | ⟨h1, h2⟩
        · subst h1 h3
          go_wp2_with (first | refine load_Rb 42 (.tmp 9) rfl g3 rfl 42 _ _ R13.out Try.underlying42 rfl (by rw [szP, NA_size, hx]) rfl ?_ | refine load_M 42 (.tmp 98) rfl w.heap.size 20 rfl (x.map (Value.int .i64)) _ (th_cells T13.out C2.out) Try.underlying42 rfl (by rw [szP, List.length_map, hx]) rfl ?_ | refine neq_R rfl 42 (.tmp 97) (.tmp 99) rfl (NA x) (NA x) true rfl rfl (fun w' => by rw [eq_ptrb x x hx hx, decide_eq_true rfl]) guard_ptrb ?_)
          go_meet
          case rel => exact ⟨rfl, rfl⟩
        · subst h1 h2
          go_wp2_with (first | refine load_sec_g (.tmp 4) rfl G rfl Zs Zs_len P13.out rfl ?_ | refine neq_R rfl 25 (.tmp 109) (.tmp 110) rfl (SA Zs) (SA Zs) true rfl rfl HEZ.out guard_sec ?_)
          go_meet
          case rel => exact ⟨rfl, rfl⟩
      case rest =>
        obtain ⟨rfl, hwc⟩ := hcut
        obtain rfl : wc = w13 := hwc.out
        clear hwc R13
        go_upto_region 18 with (first | refine load_M 47 (.tmp 116) rfl w.heap.size 52 rfl [.int .i64 n, .string s] _ (th_cells T13.out C3.out) Try.underlying47 rfl (by rw [szL]; rfl) rfl ?_ | (go_at_call 24; refine (hw4 _).mono ?_; rintro e w14 ⟨rfl, hb14⟩) | (refine store_sec rfl (.tmp 4) _ rfl G rfl S4 rfl hl4 S3 hl3 (by rw [hb14.block _ (slt P13.out)]; exact P13.out) ?_; intro w15 hw15; have T15 := hid (wr_far hw15 hb14 T13.out (by omega)); have P15 := hid hw15.here; have B15 : Hid (Below w.heap.size w w15) := hw15.below (btr B13.out hb14 B13.out.size) (by omega); clear hw15 hb14 T13 B13 P13) | refine load_sec rfl (.tmp 4) rfl G rfl S4 hl4 P15.out ?_ | (go_at_call 26; refine (hr4 _).mono ?_; rintro e w16 ⟨rfl, hb16⟩) | (refine store_R rfl 47 (.tmp 10) _ rfl w16.heap.size _ rfl rfl 47 _ (heap_alloc_new _ _) (by rw [szL]; rfl) rfl (by simp [SLA, Value.oneCell']) ?_; intro w17 hw17; have T17 := hid (pr_keep hw17 hb16 T15.out); have P17 := hid (pr_keep hw17 hb16 P15.out); have R17 := hid hw17.here; have B17 : Hid (Below w.heap.size w w17) := hw17.below ((btr B15.out hb16 B15.out.size).alloc (Nat.le_trans B15.out.size hb16.size) _) (Nat.le_trans B15.out.size hb16.size); obtain ⟨g4, hg4⟩ : ∃ y, y = w16.heap.size := ⟨_, rfl⟩; rw [← hg4] at R17 ⊢; clear hg4 hw17 hb16 T15 P15 B15))
        go_cut [150] (fun x wc => x = .bool false ∧ Hid (wc = w17))
        case first =>
          rcases A4.out with ⟨h1, h2, h3, h4⟩ | ⟨h1, h2⟩
          · subst h1 h2 h3 h4
            go_wp2_with (first | refine load_Rb 47 (.tmp 10) rfl g4 rfl 47 _ _ R17.out Try.underlying47 rfl (by rw [szL]; rfl) rfl ?_ | refine load_M 47 (.tmp 133) rfl w.heap.size 52 rfl [.int .i64 n, .string s] _ (th_cells T17.out C3.out) Try.underlying47 rfl (by rw [szL]; rfl) rfl ?_ | refine neq_R rfl 47 (.tmp 132) (.tmp 134) rfl (#[.int .i64 n, .string s]) (#[.int .i64 n, .string s]) true rfl rfl (eq_slotb n s) guard_slotb ?_)
            go_meet
            case rel => exact ⟨rfl, rfl⟩
          · subst h1 h2
            go_wp2_with (first | refine load_sec_g (.tmp 4) rfl G rfl Zs Zs_len P17.out rfl ?_ | refine neq_R rfl 25 (.tmp 145) (.tmp 146) rfl (SA Zs) (SA Zs) true rfl rfl HEZ.out guard_sec ?_)
            go_meet
            case rel => exact ⟨rfl, rfl⟩
        case rest =>
          obtain ⟨rfl, hwc⟩ := hcut
          obtain rfl : wc = w17 := hwc.out
          clear hwc R17
          go_wp2_with fail
          go_ret
          exact ⟨rfl, B17.out⟩

end Go.Proofs.Ytligeanfgeajoaa
