/-
  LayoutInodes, walked.
-/
import Derived.Test.YtmgkfifjcodhnaaLK
import Derived.Test.YtmgkfifjcodhnaaRI4
namespace Go.Proofs.Ytmgkfifjcodhnaa
open Go.RowKit

theorem load_RsI {ops : Array Oper} {rest : List Oper} {o : Oper} {a : Act} {w : World} {Q : Exit → Act → World → Prop} (t : TypeId) (x : Operand) (ho : o.op = .load t x) (g : Nat) (hx : a.eval x = .pointer (some ⟨g, 0, none⟩)) (tb : TypeId) (c : Array Value) (d : TypeDesc) (hg : w.heap[g]? = some (.cells c tb (0, 0)))
    (hu : Try.prog.underlying t = some d) (hd : d.isRow = true) (hi : (Try.prog.info? t).map (·.size) = some c.size) (hw : Region.wanted o (yielded ops a.tmps) = true)
    (h : wpList Try.prog ops Q rest (a.put o.dst (.agg c)) w) : wpList Try.prog ops Q (o :: rest) a w :=
  wpList_want hw fun _ hK => by
    unfold Oper.wp execOp
    simp only [ho, hx, Instr.loadAt, Instr.sureAddr, Sem.run_bind, Sem.run_pure, Result.andThen_ok, run_loadR w g t tb c d hg hu hd hi]
    exact hK _ _ h
set_option maxRecDepth 100000 in
set_option maxHeartbeats 4000000 in
theorem inodes_walk (z s : List Int) (w : World) (hz18 : z.length = 18) (hs : IsSec s) :
    Calls Try.prog 3 #[.agg (NA z), .agg (SA s)] w fun e w' => e = .returned (.bool true) ∧ Below w.heap.size w w' := by
  have hz := zero_sec
  have hzl := zero_inode
  have hl := hs.1
  have h1 := fun w' => inodeSector_any z hz18 w'
  have h2 := fun w' => rinodeSector_any z hz18 w'
  have h3 := fun w' => readInode_any s hs w'
  have h4 := fun w' => rreadInode_any s hs w'
  rw [rd_same hs] at h4
  have lT := inoS_len z
  have lR := rdIno_len (z := zTo s 18) (s := s) (zTo_len s 18)
  generalize inoS z = TT at *
  generalize inoE z = EE at *
  generalize (rdIno (zTo s 18) s).1 = RN at *
  generalize (rdIno (zTo s 18) s).2 = RE at *
  have HQ : Hid (∀ w', (Op.equalIn 10000 26 (.agg (SA TT)) (.agg (SA TT))).run Try.prog w' = .ok true w') := fun w' => by rw [eq_sec _ _ lT lT, decide_eq_true rfl]
  have HQS : Hid (∀ w', (Op.equalIn 10000 24 (.agg (NA RN)) (.agg (NA RN))).run Try.prog w' = .ok true w') := fun w' => by rw [eq_inode _ _ lR lR, decide_eq_true rfl]
  have SZZ : (Try.prog.info? 24).map (·.size) = some (NA z).size := by rw [szI, NA_size, hz18]
  have SZR : (Try.prog.info? 24).map (·.size) = some (NA RN).size := by rw [szI, NA_size, lR]
  have A0 : Hid (((w.alloc (.cells (NA z) 24)).alloc (.cells (SA s) 26)).heap[w.heap.size]? = some (.cells (NA z) 24 (0, 0))) := heap_alloc2_old w _ _
  have S0 : Hid (((w.alloc (.cells (NA z) 24)).alloc (.cells (SA s) 26)).heap[w.heap.size + 1]? = some (.cells (SA s) 26 (0, 0))) := heap_alloc2_new w _ _
  have B0 : Hid (Below w.heap.size w ((w.alloc (.cells (NA z) 24)).alloc (.cells (SA s) 26))) := ((Below.refl _ _).alloc (Nat.le_refl _) _).alloc (by simp) _
  have HSZ := hid SZZ
  have HSR := hid SZR
  clear SZZ SZR
  go_enter Try.func3, Try.ntmps3
  go_upto_region 4 with (first | (go_at_call 4; refine (known_any _).mono ?_; rintro e w1 ⟨rfl, hb1⟩))
  have A1 : Hid (w1.heap[w.heap.size]? = some (.cells (NA z) 24 (0, 0))) := by show _ = _; rw [hb1.block _ (slt A0.out)]; exact A0.out
  have S1 : Hid (w1.heap[w.heap.size + 1]? = some (.cells (SA s) 26 (0, 0))) := by show _ = _; rw [hb1.block _ (slt S0.out)]; exact S0.out
  have B1 : Hid (Below w.heap.size w w1) := btr B0.out hb1 B0.out.size
  clear A0 S0 B0 hb1
  go_upto_region 5 with (first | refine load_R rfl 24 (.tmp 2) rfl w.heap.size rfl 24 (NA z) _ A1.out Try.underlying24 rfl HSZ.out ?_ | (go_at_call 5; refine (h1 _).mono ?_; rintro e w2 ⟨rfl, hb2⟩) | (refine store_sec rfl (.tmp 6) _ rfl w2.heap.size rfl TT rfl lT Zs Zs_len (heap_alloc_new _ _) ?_; intro w3 hw3))
  have A3 := hid (wr_keep hw3 hb2 A1.out)
  have S3 := hid (wr_keep hw3 hb2 S1.out)
  have T3 := hid hw3.here
  have B3 : Hid (Below w.heap.size w w3) := hw3.below ((btr B1.out hb2 B1.out.size).alloc (Nat.le_trans B1.out.size hb2.size) _) (Nat.le_trans B1.out.size hb2.size)
  obtain ⟨gT, hgT⟩ : ∃ y, y = w2.heap.size := ⟨_, rfl⟩
  rw [← hgT] at T3 ⊢
  clear hgT A1 S1 B1 hb2 hw3
  go_upto_region 6 with (first | refine load_R rfl 24 (.tmp 2) rfl w.heap.size rfl 24 (NA z) _ A3.out Try.underlying24 rfl HSZ.out ?_ | (go_at_call 6; refine (h2 _).mono ?_; rintro e w4 ⟨rfl, hb4⟩) | (refine store_sec rfl (.tmp 8) _ rfl w4.heap.size rfl TT rfl lT Zs Zs_len (heap_alloc_new _ _) ?_; intro w5 hw5))
  have S5 := hid (wr_keep hw5 hb4 S3.out)
  have T5 := hid (wr_keep hw5 hb4 T3.out)
  have U5 := hid hw5.here
  have B5 : Hid (Below w.heap.size w w5) := hw5.below ((btr B3.out hb4 B3.out.size).alloc (Nat.le_trans B3.out.size hb4.size) _) (Nat.le_trans B3.out.size hb4.size)
  obtain ⟨gU, hgU⟩ : ∃ y, y = w4.heap.size := ⟨_, rfl⟩
  rw [← hgU] at U5 ⊢
  clear hgU A3 S3 T3 B3 hb4 hw5
  go_upto_region 7 with (first | refine load_sec rfl (.tmp 3) rfl (w.heap.size + 1) rfl s hl S5.out ?_ | (go_at_call 7; refine (h3 _).mono ?_; rintro e w6 ⟨rfl, hb6⟩) | (refine store_R rfl 24 (.tmp 10) _ rfl w6.heap.size (NA RN) rfl rfl 24 _ (heap_alloc_new _ _) HSR.out (by rw [NA_size, NA_size, lR, Zi_len]) (NA_one _) ?_; intro w7 hw7))
  have S7 := hid (pr_keep hw7 hb6 S5.out)
  have T7 := hid (pr_keep hw7 hb6 T5.out)
  have U7 := hid (pr_keep hw7 hb6 U5.out)
  have X7 := hid hw7.here
  have B7 : Hid (Below w.heap.size w w7) := hw7.below ((btr B5.out hb6 B5.out.size).alloc (Nat.le_trans B5.out.size hb6.size) _) (Nat.le_trans B5.out.size hb6.size)
  obtain ⟨gX, hgX⟩ : ∃ y, y = w6.heap.size := ⟨_, rfl⟩
  rw [← hgX] at X7 ⊢
  clear hgX S5 T5 U5 B5 hb6 hw7
  go_upto_region 8 with (first | refine load_sec rfl (.tmp 3) rfl (w.heap.size + 1) rfl s hl S7.out ?_ | (go_at_call 8; refine (h4 _).mono ?_; rintro e w8 ⟨rfl, hb8⟩) | (refine store_R rfl 24 (.tmp 12) _ rfl w8.heap.size (NA RN) rfl rfl 24 _ (heap_alloc_new _ _) HSR.out (by rw [NA_size, NA_size, lR, Zi_len]) (NA_one _) ?_; intro w9 hw9))
  have T9 := hid (pr_keep hw9 hb8 T7.out)
  have U9 := hid (pr_keep hw9 hb8 U7.out)
  have X9 := hid (pr_keep hw9 hb8 X7.out)
  have Y9 := hid hw9.here
  have B9 : Hid (Below w.heap.size w w9) := hw9.below ((btr B7.out hb8 B7.out.size).alloc (Nat.le_trans B7.out.size hb8.size) _) (Nat.le_trans B7.out.size hb8.size)
  obtain ⟨gY, hgY⟩ : ∃ y, y = w8.heap.size := ⟨_, rfl⟩
  rw [← hgY] at Y9 ⊢
  clear hgY S7 T7 U7 X7 B7 hb8 hw9
  go_wp2_with (first | refine load_sec_g (.tmp 6) rfl gT rfl TT lT T9.out rfl ?_ | refine load_sec_g (.tmp 8) rfl gU rfl TT lT U9.out rfl ?_ | refine eql_R rfl 26 (.tmp 39) (.tmp 40) rfl (SA TT) (SA TT) true rfl rfl HQ.out guard_sec ?_ | refine load_RsI 24 (.tmp 10) rfl gX rfl 24 (NA RN) _ X9.out Try.underlying24 rfl HSR.out rfl ?_ | refine load_RsI 24 (.tmp 12) rfl gY rfl 24 (NA RN) _ Y9.out Try.underlying24 rfl HSR.out rfl ?_ | refine eql_R rfl 24 (.tmp 49) (.tmp 50) rfl (NA RN) (NA RN) true rfl rfl HQS.out guard_inode ?_)
  go_ret
  exact ⟨rfl, B9.out⟩

end Go.Proofs.Ytmgkfifjcodhnaa
