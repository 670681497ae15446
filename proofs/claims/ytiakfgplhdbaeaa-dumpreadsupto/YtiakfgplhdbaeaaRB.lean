/-
  The document's Bytes.
-/
import Derived.Test.YtiakfgplhdbaeaaSM
namespace Go.Proofs.Ytiakfgplhdbaeaa
open Go.RowKit

theorem fits_mk {n : Nod} (hk : n.kind = 1 ∨ n.kind = 2) (h0 : 0 ≤ n.made) (h1 : n.made ≤ 1099511627776) (hp : n.path.size ≤ 400) (hs : n.same.size ≤ 400) (hd : n.data.length ≤ 136704) : fitsB n = true := by
  unfold fitsB inB
  simp only [Bool.and_eq_true, decide_eq_true_eq]
  omega
theorem fits_not {n : Nod} (h : ¬ ((n.kind = 1 ∨ n.kind = 2) ∧ 0 ≤ n.made ∧ n.made ≤ 1099511627776 ∧ n.path.size ≤ 400 ∧ n.same.size ≤ 400 ∧ n.data.length ≤ 136704)) : fitsB n = false := by
  rw [← Bool.not_eq_true]
  intro e
  unfold fitsB inB at e
  simp only [Bool.and_eq_true, decide_eq_true_eq] at e
  omega

set_option maxHeartbeats 8000000 in
set_option maxRecDepth 100000 in
theorem rbytes_any (L : List Nod) (a : Option Addr) (cap : Nat) (w : World) (h : NAt w a L) (hl : L.length ≤ 5000000) :
    Calls Try.prog 12 #[.slice a L.length cap] w fun e w' => ((L.all fitsB = true ∧ ∃ v, e = .returned (.tuple #[v, .int .i64 0]) ∧ BOw w' w.heap.size v (flatB L)) ∨ (L.all fitsB = false ∧ e = .returned (.tuple #[.slice none 0 0, .int .i64 170]))) ∧ Chg w w' No := by
  have HN := hid h
  obtain ⟨m, hm⟩ : ∃ y, y = L.length := ⟨_, rfl⟩
  rw [← hm] at hl ⊢
  have HM := hid hm
  obtain ⟨al, hal⟩ : ∃ y, y = L.all fitsB := ⟨_, rfl⟩
  rw [← hal]
  have HAl := hid hal
  clear h hm hal
  go_enter Try.func12, Try.ntmps12
  go_wp2_with fail
  go_loopw [4, 5] (fun x4 x5 wr => ∃ j : Nat, x5 = .int .i64 (j : Int) ∧ j ≤ m ∧ Hid (BOw wr w.heap.size x4 (flatB (L.take j))) ∧ Hid ((L.take j).all fitsB = true) ∧ Hid (Chg w wr No)) (fun _ x5 _ => m - (intOf x5).toNat)
  case atStart => exact ⟨0, rfl, Nat.zero_le _, hid (BOw.nil _ _), hid rfl, hid (Chg.refl _ _)⟩
  case round =>
    obtain ⟨j, rfl, hj, HB0, HA0, HC0⟩ := hrel
    by_cases e : j = m
    · subst e
      have HE : Hid (L.take j = L) := hid (by rw [HM.out]; exact List.take_length)
      go_wp2_with fail
      go_ret2
      refine ⟨.inl ⟨by rw [HAl.out, ← HE.out]; exact HA0.out, _, rfl, ?_⟩, HC0.out⟩
      have := HB0.out
      rw [HE.out] at this
      exact this
    · have hjl : j < L.length := by rw [← HM.out]; omega
      obtain ⟨b, o, rfl, hbl, hld⟩ := (HN.out.call HC0.out).load hjl
      obtain ⟨n, hn⟩ : ∃ y, y = L.getD j Nod.z := ⟨_, rfl⟩
      have HDt : Hid (BytesAt w n.da n.data) := hid (by rw [hn]; exact HN.out.data j hjl)
      have HTk : Hid (L.take (j + 1) = L.take j ++ [n]) := hid (by rw [hn]; exact take_more hjl)
      rw [← hn] at hld
      have f1 : (j : Int) < (m : Int) := by omega
      have HLn0 : Hid ((flatB (L.take j)).length ≤ 700000000000) := hid (by
        have h1 := flat_len _ HA0.out
        have h2 : (L.take j).length ≤ 5000000 := by rw [List.length_take]; omega
        omega)
      have sz := nodA_sz n
      have HLd := hid hld
      have HNo : Hid (fitsB n = false → L.all fitsB = false) := hid (fun hft => by
        rw [← Bool.not_eq_true]
        intro hall
        have h1 : (L.take (j + 1)).all fitsB = true := List.all_eq_true.2 fun x hx => List.all_eq_true.1 hall x (List.mem_of_mem_take hx)
        rw [HTk.out, List.all_append, List.all_cons, hft] at h1
        simp at h1)
      clear hld hn hjl
      go_upto_region 6 with (first
        | (refine load_of rfl 47 _ rfl ⟨b, o + j * 5, none⟩ rfl _ HLd.out ?_)
        | (refine store_R rfl 47 _ _ rfl wr.heap.size (nodA n) rfl rfl 47 _ (heap_alloc_new _ _) sz rfl (nodA_one n) ?_; intro w1 hw1)
        | fail)
      have hc1 : Chg wr w1 No := (Chg.alloc wr _ No).trans (kt_new hw1) (fun _ _ e => e) (fun k hk e => by omega)
      obtain ⟨g6, hg6⟩ : ∃ y, y = wr.heap.size := ⟨_, rfl⟩
      rw [← hg6]
      have HG1 : Hid (w1.heap[g6]? = some (.cells (nodA n) 47 (0, 0))) := hid (by rw [hg6]; exact hw1.here)
      have HB1 := hid (HB0.out.call hc1)
      have HC1 := hid (HC0.out.tr hc1)
      have HQ : Hid (∀ W : World, W.heap[g6]? = some (.cells (nodA n) 47 (0, 0)) → W.cell? ⟨g6, 0, none⟩ = some (.string n.path) ∧ W.cell? ⟨g6, 1, none⟩ = some (.int .i64 n.kind) ∧ W.cell? ⟨g6, 2, none⟩ = some (.int .i64 n.made) ∧ W.cell? ⟨g6, 3, none⟩ = some (.string n.same) ∧ W.cell? ⟨g6, 4, none⟩ = some (.slice n.da n.data.length n.dc)) := hid (fun W hW => ⟨(cell_of_row _ _ _ _ _ _ hW).trans rfl, (cell_of_row _ _ _ _ _ _ hW).trans rfl, (cell_of_row _ _ _ _ _ _ hW).trans rfl, (cell_of_row _ _ _ _ _ _ hW).trans rfl, (cell_of_row _ _ _ _ _ _ hW).trans rfl⟩)
      obtain ⟨q0, q1, q2, q3, q4⟩ := HQ.out w1 HG1.out
      clear hw1 hc1 hg6 HLd hbl HB0 HC0
      obtain ⟨kd, hkd⟩ : ∃ y, y = n.kind := ⟨_, rfl⟩
      obtain ⟨md, hmd⟩ : ∃ y, y = n.made := ⟨_, rfl⟩
      obtain ⟨pa, hpa⟩ : ∃ y, y = n.path := ⟨_, rfl⟩
      obtain ⟨sa, hsa⟩ : ∃ y, y = n.same := ⟨_, rfl⟩
      obtain ⟨dl, hdl⟩ : ∃ y, y = n.data.length := ⟨_, rfl⟩
      rw [← hkd] at q1
      rw [← hmd] at q2
      rw [← hpa] at q0
      rw [← hsa] at q3
      rw [← hdl] at q4
      have HKd := hid hkd
      have HMd := hid hmd
      have HPa := hid hpa
      have HSa := hid hsa
      have HDl := hid hdl
      clear hkd hmd hpa hsa hdl
      by_cases k1 : kd = 1
      · subst k1
        by_cases m0 : md < 0
        · have HF := hid (HNo.out (fits_not (by rw [← HKd.out, ← HMd.out, ← HPa.out, ← HSa.out, ← HDl.out]; omega)))
          go_wp2_with fail
          go_ret2
          exact ⟨.inr ⟨HAl.out.trans HF.out, rfl⟩, HC1.out⟩
        by_cases m1 : 1099511627776 < md
        · have HF := hid (HNo.out (fits_not (by rw [← HKd.out, ← HMd.out, ← HPa.out, ← HSa.out, ← HDl.out]; omega)))
          go_wp2_with fail
          go_ret2
          exact ⟨.inr ⟨HAl.out.trans HF.out, rfl⟩, HC1.out⟩
        by_cases p1 : (400 : Int) < (pa.size : Int)
        · have HF := hid (HNo.out (fits_not (by rw [← HKd.out, ← HMd.out, ← HPa.out, ← HSa.out, ← HDl.out]; omega)))
          go_wp2_with fail
          go_ret2
          exact ⟨.inr ⟨HAl.out.trans HF.out, rfl⟩, HC1.out⟩
        by_cases s1 : (400 : Int) < (sa.size : Int)
        · have HF := hid (HNo.out (fits_not (by rw [← HKd.out, ← HMd.out, ← HPa.out, ← HSa.out, ← HDl.out]; omega)))
          go_wp2_with fail
          go_ret2
          exact ⟨.inr ⟨HAl.out.trans HF.out, rfl⟩, HC1.out⟩
        by_cases d1 : (136704 : Int) < (dl : Int)
        · have HF := hid (HNo.out (fits_not (by rw [← HKd.out, ← HMd.out, ← HPa.out, ← HSa.out, ← HDl.out]; omega)))
          go_wp2_with fail
          go_ret2
          exact ⟨.inr ⟨HAl.out.trans HF.out, rfl⟩, HC1.out⟩
        have HFt := hid (fits_mk (n := n) (by rw [← HKd.out]; omega) (by rw [← HMd.out]; omega) (by rw [← HMd.out]; omega) (by rw [← HPa.out]; omega) (by rw [← HSa.out]; omega) (by rw [← HDl.out]; omega))
        go_upto_region 8 with fail
        have HBa := hid (fun X => (HB1.out.call (Chg.alloc w1 (.cells X 5) No) : BOw (w1.alloc (.cells X 5)) w.heap.size u4 (flatB (L.take j))))
        have HGa : Hid (∀ X, (w1.alloc (.cells X 5)).heap[g6]? = some (.cells (nodA n) 47 (0, 0))) := hid (fun X => (Chg.alloc w1 _ No).keep HG1.out (fun e => e))
        go_upto_region 9 with (first
          | (refine wp_app8 rfl _ _ rfl w.heap.size w1.heap.size 1 u4 (flatB (L.take j)) 1 rfl rfl (HBa.out _) ((cell_of_row _ _ _ _ _ _ (heap_alloc_new _ _)).trans rfl) (by have := HLn0.out; omega) (by have := HC1.out.size; simp; omega) ?_; intro v2 w2 h1 h2 _; have HG2 := hid (h2.keep (HGa.out _) (fun e => by obtain ⟨_, A, hA⟩ := HB1.out.blk e; rw [HG1.out] at hA; cases hA)); have HC2 := hid ((HC1.out.tr (Chg.alloc w1 _ No)).trans h2 (fun _ _ e => e) (fun k hk e => by have := (HB1.out.blk e).1; omega)); have HB2 := hid h1; clear h1 h2)
          | fail)
        have HLn2 : Hid ((flatB (L.take j) ++ [1]).length ≤ 700000000010) := hid (by have := HLn0.out; simp only [List.length_append, List.length_cons, List.length_nil]; omega)
        obtain ⟨q0, q1, q2, q3, q4⟩ := HQ.out w2 HG2.out
        rw [← HMd.out] at q2
        clear HBa HGa HB1 HG1 HC1 q0 q1 q3 q4
        have hLo3 := rlow_any md 8 w2 (by omega) (by omega) (by decide)
        go_upto_region 10 with (first
          | (go_at_call 23; go_must (refine hLo3.mono ?_; rintro e w3 ⟨v3, rfl, hb3, hc3⟩; have HB3 := hid (HB2.out.call hc3); have HG3 := hid (hc3.keep HG2.out (fun e => e)); have HC3 := hid (HC2.out.tr hc3); obtain ⟨a3, c3, rfl, ha3⟩ := hb3.one; have HAt3 := hid ha3; clear hb3 hc3 ha3))
          | (refine wp_appB rfl _ _ rfl w.heap.size _ (flatB (L.take j) ++ [1]) (numB md 8) a3 c3 rfl rfl HB3.out HAt3.out (by have := HLn2.out; rw [numB_len]; omega) HC3.out.size ?_; intro v4 w4 h1 h2; have HB4 := hid h1; have HG4 := hid (h2.keep HG3.out (fun e => by obtain ⟨_, A, hA⟩ := HB3.out.blk e; rw [HG3.out] at hA; cases hA)); have HC4 := hid (HC3.out.trans h2 (fun _ _ e => e) (fun k hk e => by have := (HB3.out.blk e).1; omega)); clear h1 h2)
          | fail)
        have HLn4 : Hid ((flatB (L.take j) ++ [1] ++ numB md 8).length ≤ 700000000020) := hid (by have := HLn2.out; rw [List.length_append, numB_len]; omega)
        obtain ⟨q0, q1, q2, q3, q4⟩ := HQ.out w4 HG4.out
        rw [← HPa.out] at q0
        rw [← HSa.out] at q3
        rw [← HDl.out] at q4
        clear hLo3 HB2 HG2 HC2 HB3 HG3 HC3 HAt3 HLn2 q1 q2
        have hLo5 := rlow_any (pa.size : Int) 4 w4 (by omega) (by omega) (by decide)
        go_upto_region 11 with (first
          | (go_at_call 23; go_must (refine hLo5.mono ?_; rintro e w5 ⟨v5, rfl, hb5, hc5⟩; have HB5 := hid (HB4.out.call hc5); have HG5 := hid (hc5.keep HG4.out (fun e => e)); have HC5 := hid (HC4.out.tr hc5); obtain ⟨a5, c5, rfl, ha5⟩ := hb5.one; have HAt5 := hid ha5; clear hb5 hc5 ha5))
          | (refine wp_appB rfl _ _ rfl w.heap.size _ (flatB (L.take j) ++ [1] ++ numB md 8) (numB (pa.size : Int) 4) a5 c5 rfl rfl HB5.out HAt5.out (by have := HLn4.out; rw [numB_len]; omega) HC5.out.size ?_; intro v6 w6 h1 h2; have HB6 := hid h1; have HG6 := hid (h2.keep HG5.out (fun e => by obtain ⟨_, A, hA⟩ := HB5.out.blk e; rw [HG5.out] at hA; cases hA)); have HC6 := hid (HC5.out.trans h2 (fun _ _ e => e) (fun k hk e => by have := (HB5.out.blk e).1; omega)); clear h1 h2)
          | fail)
        have HLn6 : Hid ((flatB (L.take j) ++ [1] ++ numB md 8 ++ numB (pa.size : Int) 4).length ≤ 700000000030) := hid (by have := HLn4.out; rw [List.length_append, numB_len]; omega)
        obtain ⟨q0, q1, q2, q3, q4⟩ := HQ.out w6 HG6.out
        rw [← HPa.out] at q0
        rw [← HSa.out] at q3
        rw [← HDl.out] at q4
        clear hLo5 HB4 HG4 HC4 HB5 HG5 HC5 HAt5 HLn4 q1 q2
        go_upto_region 12 with (first
          | (refine wp_appS rfl _ _ rfl w.heap.size _ (flatB (L.take j) ++ [1] ++ numB md 8 ++ numB (pa.size : Int) 4) pa rfl rfl HB6.out (by have := HLn6.out; omega) HC6.out.size ?_; intro v7 w7 h1 h2; have HB7 := hid h1; have HG7 := hid (h2.keep HG6.out (fun e => by obtain ⟨_, A, hA⟩ := HB6.out.blk e; rw [HG6.out] at hA; cases hA)); have HC7 := hid (HC6.out.trans h2 (fun _ _ e => e) (fun k hk e => by have := (HB6.out.blk e).1; omega)); clear h1 h2)
          | fail)
        have HLn7 : Hid ((flatB (L.take j) ++ [1] ++ numB md 8 ++ numB (pa.size : Int) 4 ++ bytesI pa).length ≤ 700000000430) := hid (by have := HLn6.out; rw [List.length_append, bytesI_len]; omega)
        obtain ⟨q0, q1, q2, q3, q4⟩ := HQ.out w7 HG7.out
        rw [← HPa.out] at q0
        rw [← HSa.out] at q3
        rw [← HDl.out] at q4
        clear HB6 HG6 HC6 HLn6 q1 q2
        have hLo8 := rlow_any (sa.size : Int) 4 w7 (by omega) (by omega) (by decide)
        go_upto_region 13 with (first
          | (go_at_call 23; go_must (refine hLo8.mono ?_; rintro e w8 ⟨v8, rfl, hb8, hc8⟩; have HB8 := hid (HB7.out.call hc8); have HG8 := hid (hc8.keep HG7.out (fun e => e)); have HC8 := hid (HC7.out.tr hc8); obtain ⟨a8, c8, rfl, ha8⟩ := hb8.one; have HAt8 := hid ha8; clear hb8 hc8 ha8))
          | (refine wp_appB rfl _ _ rfl w.heap.size _ (flatB (L.take j) ++ [1] ++ numB md 8 ++ numB (pa.size : Int) 4 ++ bytesI pa) (numB (sa.size : Int) 4) a8 c8 rfl rfl HB8.out HAt8.out (by have := HLn7.out; rw [numB_len]; omega) HC8.out.size ?_; intro v9 w9 h1 h2; have HB9 := hid h1; have HG9 := hid (h2.keep HG8.out (fun e => by obtain ⟨_, A, hA⟩ := HB8.out.blk e; rw [HG8.out] at hA; cases hA)); have HC9 := hid (HC8.out.trans h2 (fun _ _ e => e) (fun k hk e => by have := (HB8.out.blk e).1; omega)); clear h1 h2)
          | fail)
        have HLn9 : Hid ((flatB (L.take j) ++ [1] ++ numB md 8 ++ numB (pa.size : Int) 4 ++ bytesI pa ++ numB (sa.size : Int) 4).length ≤ 700000000440) := hid (by have := HLn7.out; rw [List.length_append, numB_len]; omega)
        obtain ⟨q0, q1, q2, q3, q4⟩ := HQ.out w9 HG9.out
        rw [← HPa.out] at q0
        rw [← HSa.out] at q3
        rw [← HDl.out] at q4
        clear hLo8 HB7 HG7 HC7 HB8 HG8 HC8 HAt8 HLn7 q1 q2
        go_upto_region 14 with (first
          | (refine wp_appS rfl _ _ rfl w.heap.size _ (flatB (L.take j) ++ [1] ++ numB md 8 ++ numB (pa.size : Int) 4 ++ bytesI pa ++ numB (sa.size : Int) 4) sa rfl rfl HB9.out (by have := HLn9.out; omega) HC9.out.size ?_; intro v10 w10 h1 h2; have HB10 := hid h1; have HG10 := hid (h2.keep HG9.out (fun e => by obtain ⟨_, A, hA⟩ := HB9.out.blk e; rw [HG9.out] at hA; cases hA)); have HC10 := hid (HC9.out.trans h2 (fun _ _ e => e) (fun k hk e => by have := (HB9.out.blk e).1; omega)); clear h1 h2)
          | fail)
        have HLn10 : Hid ((flatB (L.take j) ++ [1] ++ numB md 8 ++ numB (pa.size : Int) 4 ++ bytesI pa ++ numB (sa.size : Int) 4 ++ bytesI sa).length ≤ 700000000840) := hid (by have := HLn9.out; rw [List.length_append, bytesI_len]; omega)
        obtain ⟨q0, q1, q2, q3, q4⟩ := HQ.out w10 HG10.out
        rw [← HPa.out] at q0
        rw [← HSa.out] at q3
        rw [← HDl.out] at q4
        clear HB9 HG9 HC9 HLn9 q1 q2
        have hLo11 := rlow_any (dl : Int) 4 w10 (by omega) (by omega) (by decide)
        go_upto_region 15 with (first
          | (go_at_call 23; go_must (refine hLo11.mono ?_; rintro e w11 ⟨v11, rfl, hb11, hc11⟩; have HB11 := hid (HB10.out.call hc11); have HG11 := hid (hc11.keep HG10.out (fun e => e)); have HC11 := hid (HC10.out.tr hc11); obtain ⟨a11, c11, rfl, ha11⟩ := hb11.one; have HAt11 := hid ha11; clear hb11 hc11 ha11))
          | (refine wp_appB rfl _ _ rfl w.heap.size _ (flatB (L.take j) ++ [1] ++ numB md 8 ++ numB (pa.size : Int) 4 ++ bytesI pa ++ numB (sa.size : Int) 4 ++ bytesI sa) (numB (dl : Int) 4) a11 c11 rfl rfl HB11.out HAt11.out (by have := HLn10.out; rw [numB_len]; omega) HC11.out.size ?_; intro v12 w12 h1 h2; have HB12 := hid h1; have HG12 := hid (h2.keep HG11.out (fun e => by obtain ⟨_, A, hA⟩ := HB11.out.blk e; rw [HG11.out] at hA; cases hA)); have HC12 := hid (HC11.out.trans h2 (fun _ _ e => e) (fun k hk e => by have := (HB11.out.blk e).1; omega)); clear h1 h2)
          | fail)
        have HLn12 : Hid ((flatB (L.take j) ++ [1] ++ numB md 8 ++ numB (pa.size : Int) 4 ++ bytesI pa ++ numB (sa.size : Int) 4 ++ bytesI sa ++ numB (dl : Int) 4).length ≤ 700000000850) := hid (by have := HLn10.out; rw [List.length_append, numB_len]; omega)
        obtain ⟨q0, q1, q2, q3, q4⟩ := HQ.out w12 HG12.out
        rw [← HPa.out] at q0
        rw [← HSa.out] at q3
        rw [← HDl.out] at q4
        clear hLo11 HB10 HG10 HC10 HB11 HG11 HC11 HAt11 HLn10 q1 q2
        have HDn : Hid (BytesAt w12 n.da n.data) := hid (HDt.out.call HC12.out)
        rw [HDl.out] at q4 ⊢
        go_wp2_with (first
          | (refine wp_appB rfl _ _ rfl w.heap.size _ _ n.data n.da n.dc rfl rfl HB12.out HDn.out (by have := HLn12.out; have := HDl.out; omega) HC12.out.size ?_; intro v13 w13 h1 h2; have HB13 := hid h1; have HC13 := hid (HC12.out.trans h2 (fun _ _ e => e) (fun k hk e => by have := (HB12.out.blk e).1; omega)); clear h1 h2)
          | fail)
        refine ⟨⟨j + 1, by go_num, by omega, hid ?_, hid ?_, HC13⟩, by simp [intOf]; omega⟩
        · have hh := HB13.out
          rw [HTk.out]
          have e2 : flatB (L.take j ++ [n]) = flatB (L.take j) ++ nodeB n := by simp [flatB]
          rw [e2]
          rw [HMd.out, HPa.out, HSa.out, HDl.out] at hh
          have e3 : numB n.kind 1 = [1] := by rw [← HKd.out]; rfl
          simpa only [nodeB, e3, List.append_assoc] using hh
        · rw [HTk.out, List.all_append, HA0.out]
          simp [HFt.out]
      by_cases k2 : kd = 2
      · subst k2
        by_cases m0 : md < 0
        · have HF := hid (HNo.out (fits_not (by rw [← HKd.out, ← HMd.out, ← HPa.out, ← HSa.out, ← HDl.out]; omega)))
          go_wp2_with fail
          go_ret2
          exact ⟨.inr ⟨HAl.out.trans HF.out, rfl⟩, HC1.out⟩
        by_cases m1 : 1099511627776 < md
        · have HF := hid (HNo.out (fits_not (by rw [← HKd.out, ← HMd.out, ← HPa.out, ← HSa.out, ← HDl.out]; omega)))
          go_wp2_with fail
          go_ret2
          exact ⟨.inr ⟨HAl.out.trans HF.out, rfl⟩, HC1.out⟩
        by_cases p1 : (400 : Int) < (pa.size : Int)
        · have HF := hid (HNo.out (fits_not (by rw [← HKd.out, ← HMd.out, ← HPa.out, ← HSa.out, ← HDl.out]; omega)))
          go_wp2_with fail
          go_ret2
          exact ⟨.inr ⟨HAl.out.trans HF.out, rfl⟩, HC1.out⟩
        by_cases s1 : (400 : Int) < (sa.size : Int)
        · have HF := hid (HNo.out (fits_not (by rw [← HKd.out, ← HMd.out, ← HPa.out, ← HSa.out, ← HDl.out]; omega)))
          go_wp2_with fail
          go_ret2
          exact ⟨.inr ⟨HAl.out.trans HF.out, rfl⟩, HC1.out⟩
        by_cases d1 : (136704 : Int) < (dl : Int)
        · have HF := hid (HNo.out (fits_not (by rw [← HKd.out, ← HMd.out, ← HPa.out, ← HSa.out, ← HDl.out]; omega)))
          go_wp2_with fail
          go_ret2
          exact ⟨.inr ⟨HAl.out.trans HF.out, rfl⟩, HC1.out⟩
        have HFt := hid (fits_mk (n := n) (by rw [← HKd.out]; omega) (by rw [← HMd.out]; omega) (by rw [← HMd.out]; omega) (by rw [← HPa.out]; omega) (by rw [← HSa.out]; omega) (by rw [← HDl.out]; omega))
        go_upto_region 8 with fail
        have HBa := hid (fun X => (HB1.out.call (Chg.alloc w1 (.cells X 5) No) : BOw (w1.alloc (.cells X 5)) w.heap.size u4 (flatB (L.take j))))
        have HGa : Hid (∀ X, (w1.alloc (.cells X 5)).heap[g6]? = some (.cells (nodA n) 47 (0, 0))) := hid (fun X => (Chg.alloc w1 _ No).keep HG1.out (fun e => e))
        go_upto_region 9 with (first
          | (refine wp_app8 rfl _ _ rfl w.heap.size w1.heap.size 1 u4 (flatB (L.take j)) 2 rfl rfl (HBa.out _) ((cell_of_row _ _ _ _ _ _ (heap_alloc_new _ _)).trans rfl) (by have := HLn0.out; omega) (by have := HC1.out.size; simp; omega) ?_; intro v2 w2 h1 h2 _; have HG2 := hid (h2.keep (HGa.out _) (fun e => by obtain ⟨_, A, hA⟩ := HB1.out.blk e; rw [HG1.out] at hA; cases hA)); have HC2 := hid ((HC1.out.tr (Chg.alloc w1 _ No)).trans h2 (fun _ _ e => e) (fun k hk e => by have := (HB1.out.blk e).1; omega)); have HB2 := hid h1; clear h1 h2)
          | fail)
        have HLn2 : Hid ((flatB (L.take j) ++ [2]).length ≤ 700000000010) := hid (by have := HLn0.out; simp only [List.length_append, List.length_cons, List.length_nil]; omega)
        obtain ⟨q0, q1, q2, q3, q4⟩ := HQ.out w2 HG2.out
        rw [← HMd.out] at q2
        clear HBa HGa HB1 HG1 HC1 q0 q1 q3 q4
        have hLo3 := rlow_any md 8 w2 (by omega) (by omega) (by decide)
        go_upto_region 10 with (first
          | (go_at_call 23; go_must (refine hLo3.mono ?_; rintro e w3 ⟨v3, rfl, hb3, hc3⟩; have HB3 := hid (HB2.out.call hc3); have HG3 := hid (hc3.keep HG2.out (fun e => e)); have HC3 := hid (HC2.out.tr hc3); obtain ⟨a3, c3, rfl, ha3⟩ := hb3.one; have HAt3 := hid ha3; clear hb3 hc3 ha3))
          | (refine wp_appB rfl _ _ rfl w.heap.size _ (flatB (L.take j) ++ [2]) (numB md 8) a3 c3 rfl rfl HB3.out HAt3.out (by have := HLn2.out; rw [numB_len]; omega) HC3.out.size ?_; intro v4 w4 h1 h2; have HB4 := hid h1; have HG4 := hid (h2.keep HG3.out (fun e => by obtain ⟨_, A, hA⟩ := HB3.out.blk e; rw [HG3.out] at hA; cases hA)); have HC4 := hid (HC3.out.trans h2 (fun _ _ e => e) (fun k hk e => by have := (HB3.out.blk e).1; omega)); clear h1 h2)
          | fail)
        have HLn4 : Hid ((flatB (L.take j) ++ [2] ++ numB md 8).length ≤ 700000000020) := hid (by have := HLn2.out; rw [List.length_append, numB_len]; omega)
        obtain ⟨q0, q1, q2, q3, q4⟩ := HQ.out w4 HG4.out
        rw [← HPa.out] at q0
        rw [← HSa.out] at q3
        rw [← HDl.out] at q4
        clear hLo3 HB2 HG2 HC2 HB3 HG3 HC3 HAt3 HLn2 q1 q2
        have hLo5 := rlow_any (pa.size : Int) 4 w4 (by omega) (by omega) (by decide)
        go_upto_region 11 with (first
          | (go_at_call 23; go_must (refine hLo5.mono ?_; rintro e w5 ⟨v5, rfl, hb5, hc5⟩; have HB5 := hid (HB4.out.call hc5); have HG5 := hid (hc5.keep HG4.out (fun e => e)); have HC5 := hid (HC4.out.tr hc5); obtain ⟨a5, c5, rfl, ha5⟩ := hb5.one; have HAt5 := hid ha5; clear hb5 hc5 ha5))
          | (refine wp_appB rfl _ _ rfl w.heap.size _ (flatB (L.take j) ++ [2] ++ numB md 8) (numB (pa.size : Int) 4) a5 c5 rfl rfl HB5.out HAt5.out (by have := HLn4.out; rw [numB_len]; omega) HC5.out.size ?_; intro v6 w6 h1 h2; have HB6 := hid h1; have HG6 := hid (h2.keep HG5.out (fun e => by obtain ⟨_, A, hA⟩ := HB5.out.blk e; rw [HG5.out] at hA; cases hA)); have HC6 := hid (HC5.out.trans h2 (fun _ _ e => e) (fun k hk e => by have := (HB5.out.blk e).1; omega)); clear h1 h2)
          | fail)
        have HLn6 : Hid ((flatB (L.take j) ++ [2] ++ numB md 8 ++ numB (pa.size : Int) 4).length ≤ 700000000030) := hid (by have := HLn4.out; rw [List.length_append, numB_len]; omega)
        obtain ⟨q0, q1, q2, q3, q4⟩ := HQ.out w6 HG6.out
        rw [← HPa.out] at q0
        rw [← HSa.out] at q3
        rw [← HDl.out] at q4
        clear hLo5 HB4 HG4 HC4 HB5 HG5 HC5 HAt5 HLn4 q1 q2
        go_upto_region 12 with (first
          | (refine wp_appS rfl _ _ rfl w.heap.size _ (flatB (L.take j) ++ [2] ++ numB md 8 ++ numB (pa.size : Int) 4) pa rfl rfl HB6.out (by have := HLn6.out; omega) HC6.out.size ?_; intro v7 w7 h1 h2; have HB7 := hid h1; have HG7 := hid (h2.keep HG6.out (fun e => by obtain ⟨_, A, hA⟩ := HB6.out.blk e; rw [HG6.out] at hA; cases hA)); have HC7 := hid (HC6.out.trans h2 (fun _ _ e => e) (fun k hk e => by have := (HB6.out.blk e).1; omega)); clear h1 h2)
          | fail)
        have HLn7 : Hid ((flatB (L.take j) ++ [2] ++ numB md 8 ++ numB (pa.size : Int) 4 ++ bytesI pa).length ≤ 700000000430) := hid (by have := HLn6.out; rw [List.length_append, bytesI_len]; omega)
        obtain ⟨q0, q1, q2, q3, q4⟩ := HQ.out w7 HG7.out
        rw [← HPa.out] at q0
        rw [← HSa.out] at q3
        rw [← HDl.out] at q4
        clear HB6 HG6 HC6 HLn6 q1 q2
        have hLo8 := rlow_any (sa.size : Int) 4 w7 (by omega) (by omega) (by decide)
        go_upto_region 13 with (first
          | (go_at_call 23; go_must (refine hLo8.mono ?_; rintro e w8 ⟨v8, rfl, hb8, hc8⟩; have HB8 := hid (HB7.out.call hc8); have HG8 := hid (hc8.keep HG7.out (fun e => e)); have HC8 := hid (HC7.out.tr hc8); obtain ⟨a8, c8, rfl, ha8⟩ := hb8.one; have HAt8 := hid ha8; clear hb8 hc8 ha8))
          | (refine wp_appB rfl _ _ rfl w.heap.size _ (flatB (L.take j) ++ [2] ++ numB md 8 ++ numB (pa.size : Int) 4 ++ bytesI pa) (numB (sa.size : Int) 4) a8 c8 rfl rfl HB8.out HAt8.out (by have := HLn7.out; rw [numB_len]; omega) HC8.out.size ?_; intro v9 w9 h1 h2; have HB9 := hid h1; have HG9 := hid (h2.keep HG8.out (fun e => by obtain ⟨_, A, hA⟩ := HB8.out.blk e; rw [HG8.out] at hA; cases hA)); have HC9 := hid (HC8.out.trans h2 (fun _ _ e => e) (fun k hk e => by have := (HB8.out.blk e).1; omega)); clear h1 h2)
          | fail)
        have HLn9 : Hid ((flatB (L.take j) ++ [2] ++ numB md 8 ++ numB (pa.size : Int) 4 ++ bytesI pa ++ numB (sa.size : Int) 4).length ≤ 700000000440) := hid (by have := HLn7.out; rw [List.length_append, numB_len]; omega)
        obtain ⟨q0, q1, q2, q3, q4⟩ := HQ.out w9 HG9.out
        rw [← HPa.out] at q0
        rw [← HSa.out] at q3
        rw [← HDl.out] at q4
        clear hLo8 HB7 HG7 HC7 HB8 HG8 HC8 HAt8 HLn7 q1 q2
        go_upto_region 14 with (first
          | (refine wp_appS rfl _ _ rfl w.heap.size _ (flatB (L.take j) ++ [2] ++ numB md 8 ++ numB (pa.size : Int) 4 ++ bytesI pa ++ numB (sa.size : Int) 4) sa rfl rfl HB9.out (by have := HLn9.out; omega) HC9.out.size ?_; intro v10 w10 h1 h2; have HB10 := hid h1; have HG10 := hid (h2.keep HG9.out (fun e => by obtain ⟨_, A, hA⟩ := HB9.out.blk e; rw [HG9.out] at hA; cases hA)); have HC10 := hid (HC9.out.trans h2 (fun _ _ e => e) (fun k hk e => by have := (HB9.out.blk e).1; omega)); clear h1 h2)
          | fail)
        have HLn10 : Hid ((flatB (L.take j) ++ [2] ++ numB md 8 ++ numB (pa.size : Int) 4 ++ bytesI pa ++ numB (sa.size : Int) 4 ++ bytesI sa).length ≤ 700000000840) := hid (by have := HLn9.out; rw [List.length_append, bytesI_len]; omega)
        obtain ⟨q0, q1, q2, q3, q4⟩ := HQ.out w10 HG10.out
        rw [← HPa.out] at q0
        rw [← HSa.out] at q3
        rw [← HDl.out] at q4
        clear HB9 HG9 HC9 HLn9 q1 q2
        have hLo11 := rlow_any (dl : Int) 4 w10 (by omega) (by omega) (by decide)
        go_upto_region 15 with (first
          | (go_at_call 23; go_must (refine hLo11.mono ?_; rintro e w11 ⟨v11, rfl, hb11, hc11⟩; have HB11 := hid (HB10.out.call hc11); have HG11 := hid (hc11.keep HG10.out (fun e => e)); have HC11 := hid (HC10.out.tr hc11); obtain ⟨a11, c11, rfl, ha11⟩ := hb11.one; have HAt11 := hid ha11; clear hb11 hc11 ha11))
          | (refine wp_appB rfl _ _ rfl w.heap.size _ (flatB (L.take j) ++ [2] ++ numB md 8 ++ numB (pa.size : Int) 4 ++ bytesI pa ++ numB (sa.size : Int) 4 ++ bytesI sa) (numB (dl : Int) 4) a11 c11 rfl rfl HB11.out HAt11.out (by have := HLn10.out; rw [numB_len]; omega) HC11.out.size ?_; intro v12 w12 h1 h2; have HB12 := hid h1; have HG12 := hid (h2.keep HG11.out (fun e => by obtain ⟨_, A, hA⟩ := HB11.out.blk e; rw [HG11.out] at hA; cases hA)); have HC12 := hid (HC11.out.trans h2 (fun _ _ e => e) (fun k hk e => by have := (HB11.out.blk e).1; omega)); clear h1 h2)
          | fail)
        have HLn12 : Hid ((flatB (L.take j) ++ [2] ++ numB md 8 ++ numB (pa.size : Int) 4 ++ bytesI pa ++ numB (sa.size : Int) 4 ++ bytesI sa ++ numB (dl : Int) 4).length ≤ 700000000850) := hid (by have := HLn10.out; rw [List.length_append, numB_len]; omega)
        obtain ⟨q0, q1, q2, q3, q4⟩ := HQ.out w12 HG12.out
        rw [← HPa.out] at q0
        rw [← HSa.out] at q3
        rw [← HDl.out] at q4
        clear hLo11 HB10 HG10 HC10 HB11 HG11 HC11 HAt11 HLn10 q1 q2
        have HDn : Hid (BytesAt w12 n.da n.data) := hid (HDt.out.call HC12.out)
        rw [HDl.out] at q4 ⊢
        go_wp2_with (first
          | (refine wp_appB rfl _ _ rfl w.heap.size _ _ n.data n.da n.dc rfl rfl HB12.out HDn.out (by have := HLn12.out; have := HDl.out; omega) HC12.out.size ?_; intro v13 w13 h1 h2; have HB13 := hid h1; have HC13 := hid (HC12.out.trans h2 (fun _ _ e => e) (fun k hk e => by have := (HB12.out.blk e).1; omega)); clear h1 h2)
          | fail)
        refine ⟨⟨j + 1, by go_num, by omega, hid ?_, hid ?_, HC13⟩, by simp [intOf]; omega⟩
        · have hh := HB13.out
          rw [HTk.out]
          have e2 : flatB (L.take j ++ [n]) = flatB (L.take j) ++ nodeB n := by simp [flatB]
          rw [e2]
          rw [HMd.out, HPa.out, HSa.out, HDl.out] at hh
          have e3 : numB n.kind 1 = [2] := by rw [← HKd.out]; rfl
          simpa only [nodeB, e3, List.append_assoc] using hh
        · rw [HTk.out, List.all_append, HA0.out]
          simp [HFt.out]
      have k1b : (kd == 1) = false := beq_eq_false_iff_ne.2 k1
      have k2b : (kd == 2) = false := beq_eq_false_iff_ne.2 k2
      have HF := hid (HNo.out (fits_not (by rw [← HKd.out, ← HMd.out, ← HPa.out, ← HSa.out, ← HDl.out]; omega)))
      go_wp2_with fail
      go_ret2
      exact ⟨.inr ⟨HAl.out.trans HF.out, rfl⟩, HC1.out⟩
end Go.Proofs.Ytiakfgplhdbaeaa
