/-
  LayoutOne's walk of a sector of zeros.
-/
import Derived.Test.YtligeanfgeajoaaLK
import Derived.Test.YtligeanfgeajoaaLI4
import Derived.Test.YtligeanfgeajoaaLP1
namespace Go.Proofs.Ytligeanfgeajoaa
open Go.RowKit

theorem eq_none (w : World) : (Op.equalIn 10000 47 (.agg (SLA 0 ⟨#[]⟩)) (.agg (SLA 0 ⟨#[]⟩))).run Try.prog w = .ok true w := by
  unfold SLA
  go_simp
theorem guard_slot : Try.prog.eqGuardType Try.prog.depth 47 = false := by kernel_rfl
theorem load_Rz {ops : Array Oper} {rest : List Oper} {o : Oper} {a : Act} {w : World} {Q : Exit → Act → World → Prop} (t : TypeId) (x : Operand) (ho : o.op = .load t x) (g : Nat) (hx : a.eval x = .pointer (some ⟨g, 0, none⟩)) (tb : TypeId) (c : Array Value) (d : TypeDesc) (hg : w.heap[g]? = some (.cells c tb (0, 0)))
    (hu : Try.prog.underlying t = some d) (hd : d.isRow = true) (hi : (Try.prog.info? t).map (·.size) = some c.size) (hw : Region.wanted o (yielded ops a.tmps) = true)
    (h : wpList Try.prog ops Q rest (a.put o.dst (.agg c)) w) : wpList Try.prog ops Q (o :: rest) a w :=
  wpList_want hw fun _ hK => by
    unfold Oper.wp execOp
    simp only [ho, hx, Instr.loadAt, Instr.sureAddr, Sem.run_bind, Sem.run_pure, Result.andThen_ok, run_loadR w g t tb c d hg hu hd hi]
    exact hK _ _ h

set_option maxRecDepth 100000 in
set_option maxHeartbeats 6000000 in
theorem one_zero (s PP : List Int)  (w : World) (hl : s.length = 128) (hrs : ∀ w', Calls Try.prog 12 #[.agg (SA s)] w' fun e w'' => e = .returned (.tuple #[.agg (SUA 0 0), .int .i64 60]) ∧ Below w'.heap.size w' w'') (hri : ∀ w', Calls Try.prog 18 #[.agg (SA s)] w' fun e w'' => e = .returned (.tuple #[.agg (NA Zi), .int .i64 0]) ∧ Below w'.heap.size w' w'') (hsi : ∀ w', Calls Try.prog 16 #[.agg (NA Zi)] w' fun e w'' => e = .returned (.tuple #[.agg (SA s), .int .i64 0]) ∧ Below w'.heap.size w' w'') (hrl : ∀ w', Calls Try.prog 26 #[.agg (SA s)] w' fun e w'' => e = .returned (.tuple #[.agg (SLA 0 ⟨#[]⟩), .int .i64 0]) ∧ Below w'.heap.size w' w'') (hsl : ∀ w', Calls Try.prog 24 #[.agg #[.int .i64 0, .string ⟨#[]⟩]] w' fun e w'' => e = .returned (.tuple #[.agg (SA s), .int .i64 0]) ∧ Below w'.heap.size w' w'') (hrp : ∀ w', Calls Try.prog 22 #[.agg (SA s)] w' fun e w'' => e = .returned (.agg (NA PP)) ∧ Below w'.heap.size w' w'') (hsp : ∀ w', Calls Try.prog 20 #[.agg (NA PP)] w' fun e w'' => e = .returned (.tuple #[.agg (SA s), .int .i64 0]) ∧ Below w'.heap.size w' w'') (HQ : Hid (s = Zs)) :
    Calls Try.prog 8 #[.agg (SA s)] w fun e w' => e = .returned (.bool true) ∧ Below w.heap.size w w' := by
  have hz := zero_sec
  have hzi := zero_inode
  have hbs := build_sec
  have hgd := guard_sec
  have heq : ∀ w', (Op.equalIn 10000 25 (.agg (SA s)) (.agg (SA s))).run Try.prog w' = .ok true w' := fun w' => by rw [eq_sec _ _ hl hl, decide_eq_true rfl]
  have HEZ := hid (eq_sec s Zs hl Zs_len)
  have S0 : Hid ((w.alloc (.cells (SA s) 25)).heap[w.heap.size]? = some (.cells (SA s) 25 (0, 0))) := heap_alloc_new _ _
  have B0 : Hid (Below w.heap.size w (w.alloc (.cells (SA s) 25))) := (Below.refl _ _).alloc (Nat.le_refl _) _
  go_enter Try.func8, Try.ntmps8
  go_upto_region 4 with (first | (go_at_call 9; refine (known_any _).mono ?_; rintro e w1 ⟨rfl, hb1⟩))
  have S1 : Hid (w1.heap[w.heap.size]? = some (.cells (SA s) 25 (0, 0))) := by show _ = _; rw [hb1.block _ (slt S0.out)]; exact S0.out
  have B1 : Hid (Below w.heap.size w w1) := btr B0.out hb1 B0.out.size
  clear S0 B0 hb1
  go_upto_region 5 with (first | refine load_sec rfl (.tmp 1) rfl w.heap.size rfl s hl S1.out ?_ | (go_at_call 12; refine (hrs _).mono ?_; rintro e w2 ⟨rfl, hb2⟩) | (refine store_R rfl 23 (.tmp 4) _ rfl w2.heap.size _ rfl rfl 23 _ (heap_alloc_new _ _) (by rw [szS]; rfl) rfl (by simp [SUA, Value.oneCell']) ?_; intro w3 hw3))
  have S3 := hid (pr_keep hw3 hb2 S1.out)
  have U3 := hid hw3.here
  have B3 : Hid (Below w.heap.size w w3) := hw3.below ((btr B1.out hb2 B1.out.size).alloc (Nat.le_trans B1.out.size hb2.size) _) (Nat.le_trans B1.out.size hb2.size)
  clear S1 B1 hb2 hw3
  go_upto_region 9 with fail
  go_upto_region 10 with (first | refine load_sec rfl (.tmp 1) rfl w.heap.size rfl s hl S3.out ?_ | (go_at_call 18; refine (hri _).mono ?_; rintro e w4 ⟨rfl, hb4⟩) | (refine store_R rfl 36 (.tmp 8) _ rfl w4.heap.size _ rfl rfl 36 _ (heap_alloc_new _ _) (by rw [szI, NA_size, Zi_len]) rfl (NA_one _) ?_; intro w5 hw5))
  have S5 := hid (pr_keep hw5 hb4 S3.out)
  have U5 := hid (pr_keep hw5 hb4 U3.out)
  have I5 := hid hw5.here
  have B5 : Hid (Below w.heap.size w w5) := hw5.below ((btr B3.out hb4 B3.out.size).alloc (Nat.le_trans B3.out.size hb4.size) _) (Nat.le_trans B3.out.size hb4.size)
  clear S3 U3 B3 hb4 hw5
  go_upto_region 12 with (first | refine load_R rfl 36 (.tmp 8) rfl w4.heap.size rfl 36 _ _ I5.out Try.underlying36 rfl (by rw [szI, NA_size, Zi_len]) ?_ | (go_at_call 16; refine (hsi _).mono ?_; rintro e w6 ⟨rfl, hb6⟩) | (refine store_sec rfl (.tmp 10) _ rfl w6.heap.size rfl s rfl hl Zs Zs_len (heap_alloc_new _ _) ?_; intro w7 hw7))
  have S7 := hid (wr_keep hw7 hb6 S5.out)
  have U7 := hid (wr_keep hw7 hb6 U5.out)
  have I7 := hid (wr_keep hw7 hb6 I5.out)
  have T7 := hid hw7.here
  have B7 : Hid (Below w.heap.size w w7) := hw7.below ((btr B5.out hb6 B5.out.size).alloc (Nat.le_trans B5.out.size hb6.size) _) (Nat.le_trans B5.out.size hb6.size)
  clear S5 U5 I5 B5 hb6 hw7
  go_upto_region 14 with (first | refine load_sec_g (.tmp 10) rfl w6.heap.size rfl s hl T7.out rfl ?_ | refine load_sec_g (.tmp 1) rfl w.heap.size rfl s hl S7.out rfl ?_)
  clear T7
  go_upto_region 15 with (first | refine load_sec rfl (.tmp 1) rfl w.heap.size rfl s hl S7.out ?_ | (go_at_call 26; refine (hrl _).mono ?_; rintro e w8 ⟨rfl, hb8⟩) | (refine store_R rfl 47 (.tmp 12) _ rfl w8.heap.size _ rfl rfl 47 _ (heap_alloc_new _ _) (by kernel_rfl) rfl (by simp [SLA, Value.oneCell']) ?_; intro w9 hw9))
  have S9 := hid (pr_keep hw9 hb8 S7.out)
  have U9 := hid (pr_keep hw9 hb8 U7.out)
  have I9 := hid (pr_keep hw9 hb8 I7.out)
  have L9 := hid hw9.here
  have B9 : Hid (Below w.heap.size w w9) := hw9.below ((btr B7.out hb8 B7.out.size).alloc (Nat.le_trans B7.out.size hb8.size) _) (Nat.le_trans B7.out.size hb8.size)
  clear S7 U7 I7 B7 hb8 hw9
  go_upto_region 17 with (first | refine load_R rfl 47 (.tmp 12) rfl w8.heap.size rfl 47 _ _ L9.out Try.underlying47 rfl (by kernel_rfl) ?_ | (go_at_call 24; refine (hsl _).mono ?_; rintro e w10 ⟨rfl, hb10⟩) | (refine store_sec rfl (.tmp 14) _ rfl w10.heap.size rfl s rfl hl Zs Zs_len (heap_alloc_new _ _) ?_; intro w11 hw11))
  have S11 := hid (wr_keep hw11 hb10 S9.out)
  have U11 := hid (wr_keep hw11 hb10 U9.out)
  have I11 := hid (wr_keep hw11 hb10 I9.out)
  have L11 := hid (wr_keep hw11 hb10 L9.out)
  have T11 := hid hw11.here
  have B11 : Hid (Below w.heap.size w w11) := hw11.below ((btr B9.out hb10 B9.out.size).alloc (Nat.le_trans B9.out.size hb10.size) _) (Nat.le_trans B9.out.size hb10.size)
  clear S9 U9 I9 L9 B9 hb10 hw11
  go_upto_region 19 with (first | refine load_sec_g (.tmp 14) rfl w10.heap.size rfl s hl T11.out rfl ?_ | refine load_sec_g (.tmp 1) rfl w.heap.size rfl s hl S11.out rfl ?_)
  clear T11
  go_upto_region 20 with (first | refine load_sec rfl (.tmp 1) rfl w.heap.size rfl s hl S11.out ?_ | (go_at_call 22; refine (hrp _).mono ?_; rintro e w12 ⟨rfl, hb12⟩) | (go_at_call 20; refine (hsp _).mono ?_; rintro e w13 ⟨rfl, hb13⟩) | (refine store_sec rfl (.tmp 16) _ rfl w13.heap.size rfl s rfl hl Zs Zs_len (heap_alloc_new _ _) ?_; intro w14 hw14))
  have S14 := hid (wr_keep hw14 (btr hb12 hb13 hb12.size) S11.out)
  have U14 := hid (wr_keep hw14 (btr hb12 hb13 hb12.size) U11.out)
  have I14 := hid (wr_keep hw14 (btr hb12 hb13 hb12.size) I11.out)
  have L14 := hid (wr_keep hw14 (btr hb12 hb13 hb12.size) L11.out)
  have T14 := hid hw14.here
  have B14 : Hid (Below w.heap.size w w14) := hw14.below ((btr (btr B11.out hb12 B11.out.size) hb13 (Nat.le_trans B11.out.size hb12.size)).alloc (Nat.le_trans (Nat.le_trans B11.out.size hb12.size) hb13.size) _) (Nat.le_trans (Nat.le_trans B11.out.size hb12.size) hb13.size)
  clear S11 U11 I11 L11 B11 hb12 hb13 hw14
  go_upto_region 22 with (first | refine load_sec_g (.tmp 16) rfl w13.heap.size rfl s hl T14.out rfl ?_ | refine load_sec_g (.tmp 1) rfl w.heap.size rfl s hl S14.out rfl ?_)
  clear T14
  have hez : ∀ w', (Op.equalIn 10000 25 (.agg (SA s)) (.agg (SA Zs))).run Try.prog w' = .ok true w' := fun w' => by rw [HEZ.out, decide_eq_true HQ.out]
  have HEI := hid (eq_inode Zi Zi Zi_len Zi_len)
  have hgi := hid guard_inode
  have HES := hid eq_none
  have hgs := hid guard_slot
  clear heq
  go_wp2_with (first | refine load_sec rfl (.tmp 1) rfl w.heap.size rfl s hl S14.out ?_ | refine load_Rz 36 (.tmp 8) rfl w4.heap.size rfl 36 _ _ I14.out Try.underlying36 rfl (by rw [szI, NA_size, Zi_len]) rfl ?_ | refine load_Rz 47 (.tmp 12) rfl w8.heap.size rfl 47 _ _ L14.out Try.underlying47 rfl (by kernel_rfl) rfl ?_ | refine eql_R rfl 36 (.tmp 108) (.tmp 109) rfl (NA Zi) (NA Zi) true rfl rfl (fun w' => by rw [HEI.out, decide_eq_true rfl]) hgi.out ?_ | refine eql_R rfl 47 (.tmp 113) (.tmp 114) rfl (SLA 0 ⟨#[]⟩) (SLA 0 ⟨#[]⟩) true rfl rfl HES.out hgs.out ?_)
  go_ret
  exact ⟨rfl, B14.out⟩

end Go.Proofs.Ytligeanfgeajoaa
