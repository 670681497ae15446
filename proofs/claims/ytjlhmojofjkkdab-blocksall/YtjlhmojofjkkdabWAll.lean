/-
  BlocksAll: all blocks and all tables of a file are 1102.
-/
import Derived.Test.YtjlhmojofjkkdabF0
import Derived.Test.YtjlhmojofjkkdabF1
import Derived.Test.YtjlhmojofjkkdabG1
namespace Go.Proofs.Ytjlhmojofjkkdab
open Go.RowKit Go.Shelf

theorem allK_take (k : Nat) (h : k < 1068) : allK.take (k + 1) = allK.take k ++ [(k : Int)] := by
  rw [List.take_add_one]
  have : allK[k]? = some (k : Int) := by unfold allK; rw [List.getElem?_map, List.getElem?_range h]; rfl
  rw [this]
  rfl
theorem allK_len : allK.length = 1068 := by unfold allK; rw [List.length_map, List.length_range]

set_option maxRecDepth 100000 in
set_option maxHeartbeats 1000000 in
theorem all_walk (z : List Int) (a : Option Addr) (c : Nat) (s : Src) (w : World) (hz : z.length = 18) (hi : ImgAt w a s.im) :
    Calls Try.prog 3 #[.agg (fileV z a c s)] w fun e w' => e = .returned (.bool true) ∧ Below w.heap.size w w' := by
  obtain ⟨FV, hFV⟩ : ∃ y, y = fileV z a c s := ⟨_, rfl⟩
  have hF21 : FV.size = 21 := by rw [hFV]; exact fileV_size hz a c s
  have hino : ∀ (j : Nat) v, (NA z)[j]? = some v → FV[0 + j]? = some v := by rw [hFV]; exact file_ino z a c s
  have hsrc := fun w => source_any z a c s w hz
  obtain ⟨SV, hSV⟩ : ∃ y, y = srcV a c s := ⟨_, rfl⟩
  rw [← hFV, ← hSV] at hsrc
  rw [← hFV]
  have HSV := hid hSV
  have hS3 : SV.size = 3 := by rw [hSV]; rfl
  have hS1 : SV.all (·.oneCell') = true := by rw [hSV]; simp [srcV, Value.oneCell']
  have HINO := hid hino
  clear hFV hSV hino
  obtain ⟨W, hW⟩ : ∃ y, y = w.alloc (.cells FV 28) := ⟨_, rfl⟩
  have HB : Hid (Below w.heap.size w W) := by rw [hW]; exact (Below.refl _ _).alloc (Nat.le_refl _) _
  have H0 : Hid (W.heap[w.heap.size]? = some (.cells FV 28 (0, 0))) := by rw [hW]; exact heap_alloc_new _ _
  have HL := hid (fun (X : World) (hX : Below W.heap.size W X) => (hX.block _ (slt H0.out)).trans H0.out)
  go_enter Try.func3, Try.ntmps3
  go_upto_region 1 with fail
  rw [← hW]
  clear hW
  go_upto_region 4 with (first
    | (go_at_call 6; go_must (refine (known_any W).mono ?_; rintro e x1 ⟨rfl, hb⟩; have X1 := hid hb; clear hb)))
  go_upto_region 5 with (first
    | (refine load_R rfl 28 (.tmp 1) rfl w.heap.size rfl 28 FV _ (HL.out _ X1.out) Try.underlying28 rfl (by rw [szFile, hF21]) ?_)
    | (go_at_call 7; go_must (refine (hsrc x1).mono ?_; rintro e x3 ⟨rfl, hb⟩; have X3 := hid (btr X1.out hb X1.out.size); clear hb)))
  obtain ⟨V, hV⟩ : ∃ y, y = x3.alloc (.cells SV 35) := ⟨_, rfl⟩
  have KV : Below x3.heap.size x3 V := by rw [hV]; exact (Below.refl _ _).alloc (Nat.le_refl _) _
  have VB : Hid (Below W.heap.size W V) := hid (btr X3.out KV X3.out.size)
  have VR : Hid (Rd V x3.heap.size s) := hid ⟨a, c, by rw [hV, ← HSV.out]; exact heap_alloc_new _ _, (hi.below HB.out).below VB.out⟩
  have hfold : Array.foldl (fun (cs : Array Value) (x : Value × Nat) => cs.setIfInBounds x.snd x.fst) #[Value.slice none 0 0, Value.int .i64 0, Value.int .i64 0] SV.zipIdx 0 3 = SV := by rw [HSV.out]; rfl
  rw [hfold, ← hV]
  obtain ⟨pm, hpm⟩ : ∃ y, y = x3.heap.size := ⟨_, rfl⟩
  rw [← hpm] at VR
  rw [← hpm]
  clear hV KV hfold hpm X3 X1 hS1 hS3 hsrc
  have HLF := hid (fun (X : World) (hX : Below V.heap.size V X) => HL.out X (btr VB.out hX VB.out.size))
  have hP := Spots_any pm s z V hz VR.out
  have hT := hid (fun (X : World) (hX : Below V.heap.size V X) => Tables_any pm s z X hz (VR.out.below hX))
  have hN := hid (fun (X : World) (hX : Below V.heap.size V X) (a : Option Addr) (c : Nat) (hl : LI X a allK) => Need_any pm s z a c allK X hz (VR.out.below hX) hl (by rw [allK_len]; decide))
  have hAns := hid (fun (l : List Spt) (e : Int) (h : SpotsAns (spotsOf (rowsL s z)) l e) => ans_of h)
  have hE1 : Hid ((rowsAns (rowsL s z)).2 ≠ 0 → (needR s z allK).2 ≠ 0) := hid (fun h => need_bad (fun h' => h ((ans_iff s z).2 h')))
  have hE2 : Hid ((rowsAns (rowsL s z)).2 = 0 → (tblR s z).2 = 0 ∧ (needR s z allK).2 = 0 ∧ (needR s z allK).1 + ((rowsAns (rowsL s z)).1.length : Int) + ((tblR s z).1.length : Int) = 1102) := hid (fun h => by
    have h' := (ans_iff s z).1 h
    exact ⟨(tbl_ok h').1, by rw [need_all h'], all_sum hz h'⟩)
  have hNb : Hid ((needR s z allK).2 = 0 → 0 ≤ (needR s z allK).1) := hid (fun h => by rw [(needR_iff h).2.2]; exact Int.natCast_nonneg _)
  generalize rowsAns (rowsL s z) = R at *
  generalize tblR s z = T at *
  generalize needR s z allK = D at *
  go_upto_region 6 with (first
    | (refine load_part rfl 24 (.tmp 23) rfl w.heap.size 0 rfl 28 FV (NA z) _ (HLF.out _ (Below.refl _ _)) HINO.out Try.underlying24 rfl (by rw [szI, NA_size, hz]) ?_)
    | (go_at_call 8; go_must (refine Calls.mono hP ?_; rintro e y1 ⟨v1, l1, c1, rfl, ha1, ho1, hb1⟩; have hR1 := hAns.out _ _ ha1; have Y1 := hid hb1; have O1 := hid ho1; clear ha1 hb1 ho1)))
  have hR1l : l1 = R.1 := by rw [← hR1]
  have hR1e : c1 = R.2 := by rw [← hR1]
  subst hR1l hR1e
  obtain ⟨a1, k1, hv1, p1⟩ := SOwn.pi O1.out
  subst hv1
  clear hR1 p1 O1 hP hAns
  go_upto_region 7 with (first
    | (refine load_part rfl 24 (.tmp 31) rfl w.heap.size 0 rfl 28 FV (NA z) _ (HLF.out _ Y1.out) HINO.out Try.underlying24 rfl (by rw [szI, NA_size, hz]) ?_)
    | (go_at_call 9; go_must (refine (hT.out y1 Y1.out).mono ?_; rintro e y3 ⟨v3, rfl, ho3, hb3⟩; have Y3 := hid (btr Y1.out hb3 Y1.out.size); have O3 := hid ho3; clear hb3 ho3)))
  obtain ⟨a3, k3, hv3, p3⟩ := IOwn.li O3.out
  subst hv3
  clear p3 O3 hT
  go_upto_region 9 with fail
  go_loopw [9, 10] (fun v i wr => ∃ (k : Nat), k ≤ 1068 ∧ i = .int .i64 k ∧ Hid (IOwn wr V.heap.size v (allK.take k)) ∧ Hid (Below V.heap.size V wr)) (fun _ i _ => 1068 - (intOf i).toNat)
  case atStart => exact ⟨0, by omega, rfl, hid (World.ownsRow_nil _ _ _ _), Y3⟩
  case round =>
    obtain ⟨k, hk, rfl, HO, HBr⟩ := hrel
    by_cases hlt : k < 1068
    · have j0 : (0 : Int) ≤ (k : Int) := by omega
      have j1 : (k : Int) < 1068 := by omega
      have HE := hid (allK_take k hlt)
      obtain ⟨LK, hLK⟩ : ∃ y, y = allK.take k := ⟨_, rfl⟩
      have hl : LK.length ≤ 1068 := by rw [hLK, List.length_take]; omega
      rw [← hLK] at HO HE
      clear hLK
      obtain ⟨av, cv, hv, _, _⟩ := row_shape9 HO.out
      subst hv
      have HNw : Hid ((wr.alloc (.cells #[.int .i64 (k : Int)] 3)).heap[wr.heap.size]? = some (.cells #[.int .i64 (k : Int)] 3 (0, 0))) := heap_alloc_new _ _
      go_wp2_with (first
        | (at_builtin; refine wp_appI rfl _ _ rfl V.heap.size wr.heap.size 1 _ LK (k : Int) rfl rfl (ownsRow_alloc9 HO.out _) (by rw [cell_of_row _ _ _ _ _ _ HNw.out]; rfl) (by omega) (by have := HBr.out.size; simp; omega) ?_; intro v2 w2 ho2 hg2))
      exact ⟨⟨k + 1, by omega, by go_num, by rw [HE.out]; exact hid ho2, hid ((HBr.out.alloc HBr.out.size _).trans hg2.low)⟩, by simp [intOf]; omega⟩
    · obtain rfl : k = 1068 := by omega
      have HO2 : Hid (IOwn wr V.heap.size u9 allK) := by have := HO.out; rw [List.take_of_length_le (by rw [allK_len]; exact Nat.le_refl _)] at this; exact this
      clear HO
      obtain ⟨a4, k4, hv4, p4⟩ := IOwn.li HO2.out
      rw [allK_len] at hv4
      subst hv4
      have hNn := hN.out wr HBr.out a4 k4 p4
      rw [allK_len] at hNn
      clear p4
      go_upto_region 13 with (first
        | (refine load_part rfl 24 (.tmp 47) rfl w.heap.size 0 rfl 28 FV (NA z) _ (HLF.out _ HBr.out) HINO.out Try.underlying24 rfl (by rw [szI, NA_size, hz]) ?_)
        | (go_at_call 10; go_must (refine hNn.mono ?_; rintro e y5 ⟨rfl, hb5⟩; have Y5 := hid (btr HBr.out hb5 HBr.out.size); clear hb5)))
      have YB : Hid (Below w.heap.size w y5) := hid (btr HB.out (btr VB.out Y5.out VB.out.size) HB.out.size)
      clear hNn hN HO2
      obtain ⟨R1, R2⟩ := R
      obtain ⟨T1, T2⟩ := T
      obtain ⟨D1, D2⟩ := D
      by_cases he : R2 = 0
      · obtain ⟨q1, q2, q3⟩ := hE2.out he
        have q4 := hNb.out q2
        simp only at q1 q2 q3 q4
        subst q1 q2 he
        clear hE1 hE2 hNb
        have HQ := hid q3
        have b1 : D1 + (R1.length : Int) ≤ 1102 := by omega
        have b2 : D1 + (R1.length : Int) + (T1.length : Int) ≤ 1102 := by omega
        clear q3
        go_wp2_with fail
        go_ret
        refine ⟨?_, YB.out⟩
        exact congrArg (fun b => Ending.returned (.bool b)) (decide_eq_true HQ.out)
      · have q := hE1.out he
        simp only at q he
        clear hE1 hE2 hNb
        go_wp2_with fail
        go_ret
        exact ⟨congrArg (fun b => Ending.returned (.bool b)) (show (D2 != 0) = true by simpa using q), YB.out⟩

end Go.Proofs.Ytjlhmojofjkkdab
