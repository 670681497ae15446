/-
  BlocksAgree: Spots rise, and tell of each index just what Find tells.
-/
import Derived.Test.YtjlhmojofjkkdabF0
import Derived.Test.YtjlhmojofjkkdabF1
import Derived.Test.YtjlhmojofjkkdabG1
namespace Go.Proofs.Ytjlhmojofjkkdab
open Go.RowKit Go.Shelf

theorem seg_zero {f : Nat → Int} {k : Nat} (h : f k = 0) : segS f 0 (k + 1) = segS f 0 k := by
  rw [seg_app f 0 k 1]
  unfold segS
  simp [h]
theorem seg_some {f : Nat → Int} {k : Nat} (h : f k ≠ 0) : segS f 0 (k + 1) = segS f 0 k ++ [⟨(k : Int), f k, 0⟩] := by
  rw [seg_app f 0 k 1]
  unfold segS
  simp [h]
theorem seg_at {f : Nat → Int} {k n : Nat} (hk : k < n) (h : f k ≠ 0) : (segS f 0 n)[(segS f 0 k).length]? = some ⟨(k : Int), f k, 0⟩ := by
  obtain ⟨m, rfl⟩ : ∃ m, n = (k + 1) + m := ⟨n - (k + 1), by omega⟩
  rw [seg_app f 0 (k + 1) m, seg_some h, List.append_assoc, List.getElem?_append_right (Nat.le_refl _), Nat.sub_self]
  rfl
theorem seg_le (f : Nat → Int) (k : Nat) : (segS f 0 k).length ≤ k := by have := seg_len f k; omega
theorem find_all {s : Src} {z : List Int} (h : AllOk s z) {k : Nat} (hk : k < 1068) : findR s z (k : Int) = (secK s z k, 0) := by
  unfold findR
  rw [if_neg (by omega)]
  exact Prod.ext rfl (folK_err h k hk)

set_option maxRecDepth 100000 in
set_option maxHeartbeats 1000000 in
theorem agree_walk (z : List Int) (a : Option Addr) (c : Nat) (s : Src) (w : World) (hz : z.length = 18) (hi : ImgAt w a s.im) :
    Calls Try.prog 4 #[.agg (fileV z a c s)] w fun e w' => e = .returned (.bool true) ∧ Below w.heap.size w w' := by
  obtain ⟨FV, hFV⟩ : ∃ y, y = fileV z a c s := ⟨_, rfl⟩
  have hF21 : FV.size = 21 := by rw [hFV]; exact fileV_size hz a c s
  have hino : ∀ (j : Nat) v, (NA z)[j]? = some v → FV[0 + j]? = some v := by rw [hFV]; exact file_ino z a c s
  have hsrc := fun w => source_any z a c s w hz
  obtain ⟨SV, hSV⟩ : ∃ y, y = srcV a c s := ⟨_, rfl⟩
  rw [← hFV, ← hSV] at hsrc
  rw [← hFV]
  have HSV := hid hSV
  have hS3 : SV.size = 3 := by rw [hSV]; rfl
  have hS1 : SV.all (·.oneCell') = true := by rw [hSV]; simp [srcV, Value.oneCell']
  have HINO := hid hino
  clear hFV hSV hino
  obtain ⟨W, hW⟩ : ∃ y, y = w.alloc (.cells FV 28) := ⟨_, rfl⟩
  have HB : Hid (Below w.heap.size w W) := by rw [hW]; exact (Below.refl _ _).alloc (Nat.le_refl _) _
  have H0 : Hid (W.heap[w.heap.size]? = some (.cells FV 28 (0, 0))) := by rw [hW]; exact heap_alloc_new _ _
  have HL := hid (fun (X : World) (hX : Below W.heap.size W X) => (hX.block _ (slt H0.out)).trans H0.out)
  go_enter Try.func4, Try.ntmps4
  go_upto_region 1 with fail
  rw [← hW]
  clear hW
  go_upto_region 4 with (first
    | (go_at_call 6; go_must (refine (known_any W).mono ?_; rintro e x1 ⟨rfl, hb⟩; have X1 := hid hb; clear hb)))
  go_upto_region 5 with (first
    | (refine load_R rfl 28 (.tmp 1) rfl w.heap.size rfl 28 FV _ (HL.out _ X1.out) Try.underlying28 rfl (by rw [szFile, hF21]) ?_)
    | (go_at_call 7; go_must (refine (hsrc x1).mono ?_; rintro e x3 ⟨rfl, hb⟩; have X3 := hid (btr X1.out hb X1.out.size); clear hb)))
  obtain ⟨V, hV⟩ : ∃ y, y = x3.alloc (.cells SV 35) := ⟨_, rfl⟩
  have KV : Below x3.heap.size x3 V := by rw [hV]; exact (Below.refl _ _).alloc (Nat.le_refl _) _
  have VB : Hid (Below W.heap.size W V) := hid (btr X3.out KV X3.out.size)
  have VR : Hid (Rd V x3.heap.size s) := hid ⟨a, c, by rw [hV, ← HSV.out]; exact heap_alloc_new _ _, (hi.below HB.out).below VB.out⟩
  have hfold : Array.foldl (fun (cs : Array Value) (x : Value × Nat) => cs.setIfInBounds x.snd x.fst) #[Value.slice none 0 0, Value.int .i64 0, Value.int .i64 0] SV.zipIdx 0 3 = SV := by rw [HSV.out]; rfl
  rw [hfold, ← hV]
  obtain ⟨pm, hpm⟩ : ∃ y, y = x3.heap.size := ⟨_, rfl⟩
  rw [← hpm] at VR
  rw [← hpm]
  clear hV KV hfold hpm X3 X1 hS1 hS3 hsrc
  have HLF := hid (fun (X : World) (hX : Below V.heap.size V X) => HL.out X (btr VB.out hX VB.out.size))
  have hP := Spots_any pm s z V hz VR.out
  have hFi := hid (fun (X : World) (hX : Below V.heap.size V X) (k : Int) => Find_any pm s z k X hz (VR.out.below hX))
  have hAns := hid (fun (l : List Spt) (e : Int) (h : SpotsAns (spotsOf (rowsL s z)) l e) => ans_of h)
  have hE1 : Hid ((rowsAns (rowsL s z)).2 ≠ 0 → (rowsAns (rowsL s z)).1 = []) := hid (by
    have : ∀ ys : List Row, (rowsAns ys).2 ≠ 0 → (rowsAns ys).1 = [] := by
      intro ys
      cases ys with
      | nil => intro h; exact absurd rfl h
      | cons y ys =>
        simp only [rowsAns]
        split
        · split
          · intro h; exact absurd rfl h
          · intro _; rfl
        · intro _; rfl
    exact this _)
  have hE2 : Hid ((rowsAns (rowsL s z)).2 = 0 → (rowsAns (rowsL s z)).1 = segS (secK s z) 0 1068 ∧ ∀ k : Nat, k < 1068 → findR s z (k : Int) = (secK s z k, 0)) := hid (fun h => by
    have h' := (ans_iff s z).1 h
    exact ⟨spots_canon hz h', fun k hk => find_all h' hk⟩)
  generalize rowsAns (rowsL s z) = R at *
  go_upto_region 6 with (first
    | (refine load_part rfl 24 (.tmp 21) rfl w.heap.size 0 rfl 28 FV (NA z) _ (HLF.out _ (Below.refl _ _)) HINO.out Try.underlying24 rfl (by rw [szI, NA_size, hz]) ?_)
    | (go_at_call 8; go_must (refine Calls.mono hP ?_; rintro e y1 ⟨v1, l1, c1, rfl, ha1, ho1, hb1⟩; have hR1 := hAns.out _ _ ha1; have Y1 := hid hb1; have O1 := hid ho1; clear ha1 hb1 ho1)))
  have hR1l : l1 = R.1 := by rw [← hR1]
  have hR1e : c1 = R.2 := by rw [← hR1]
  subst hR1l hR1e
  obtain ⟨a1, k1, hv1, p1⟩ := SOwn.pi O1.out
  subst hv1
  have P1 := hid p1
  clear hR1 p1 O1 hP hAns
  obtain ⟨R1, R2⟩ := R
  have HW1 : Hid (Below w.heap.size w y1) := hid (btr HB.out (btr VB.out Y1.out VB.out.size) HB.out.size)
  by_cases he : ¬ R2 = 0
  · have q := hE1.out he
    simp only at q
    subst q
    go_wp2_with fail
    go_ret
    exact ⟨rfl, HW1.out⟩
  have he2 : R2 = 0 := Decidable.not_not.1 he
  subst he2
  obtain ⟨q1, q2⟩ := hE2.out rfl
  simp only at q1
  have hlen : R1.length ≤ 1068 := by rw [q1]; exact seg_le _ _
  have Q1 := hid q1
  have Q2 := hid q2
  clear he hE1 hE2 q1 q2
  obtain ⟨N, hN⟩ : ∃ y, y = R1.length := ⟨_, rfl⟩
  have HN := hid hN
  rw [← hN] at hlen
  simp only [← hN]
  clear hN
  go_upto_region 10 with fail
  go_loopw [7, 8] (fun t i wr => ∃ (k m : Nat), k ≤ 1068 ∧ m ≤ 1068 ∧ i = .int .i64 k ∧ t = .int .i64 m ∧ Hid (m = (segS (secK s z) 0 k).length) ∧ Hid (Below y1.heap.size y1 wr)) (fun _ i _ => 1068 - (intOf i).toNat)
  case atStart => exact ⟨0, 0, by omega, by omega, rfl, rfl, hid rfl, hid (Below.refl _ _)⟩
  case round =>
    obtain ⟨k, m, hk, hm, rfl, rfl, HM, HBr⟩ := hrel
    have HVr : Hid (Below V.heap.size V wr) := hid (btr Y1.out HBr.out Y1.out.size)
    by_cases hlt : k < 1068
    · have j0 : (0 : Int) ≤ (k : Int) := by omega
      have j1 : (k : Int) < 1068 := by omega
      have hF := hFi.out wr HVr.out (k : Int)
      rw [Q2.out k hlt] at hF
      have hs0 : Hid (secK s z k = 0 → segS (secK s z) 0 (k + 1) = segS (secK s z) 0 k) := hid seg_zero
      have hs1 : Hid (secK s z k ≠ 0 → segS (secK s z) 0 (k + 1) = segS (secK s z) 0 k ++ [⟨(k : Int), secK s z k, 0⟩]) := hid seg_some
      have hs2 : Hid (secK s z k ≠ 0 → R1[m]? = some ⟨(k : Int), secK s z k, 0⟩) := hid (fun h => by rw [Q1.out, HM.out]; exact seg_at hlt h)
      generalize secK s z k = x at *
      by_cases hx : x = 0
      · have HE := hid (hs0.out hx)
        subst hx
        clear hs0 hs1 hs2
        go_wp2_with (first
          | (refine load_part rfl 24 (.tmp 41) rfl w.heap.size 0 rfl 28 FV (NA z) _ (HLF.out _ HVr.out) HINO.out Try.underlying24 rfl (by rw [szI, NA_size, hz]) ?_)
          | (go_at_call 11; go_must (refine hF.mono ?_; rintro e y5 ⟨rfl, hb5⟩; have Y5 := hid (btr HBr.out hb5 HBr.out.size); clear hb5)))
        exact ⟨⟨k + 1, m, by omega, by omega, by go_num, rfl, by rw [HE.out]; exact HM, Y5⟩, by simp [intOf]; omega⟩
      · have HE := hid (hs1.out hx)
        have hg := hs2.out hx
        have hmN : m < N := by rw [HN.out]; exact (List.getElem?_eq_some_iff.1 hg).1
        obtain ⟨g, o, ha1, hc1, hc2⟩ := P1.out m _ hg
        subst ha1
        have hgl := World.block_lt_of_cell? _ _ hc1
        have HC1 := hid hc1
        have HC2 := hid hc2
        clear hs0 hs1 hs2 hg hc1 hc2
        have m0 : (0 : Int) ≤ (m : Int) := by omega
        have m1 : (m : Int) < (N : Int) := by omega
        have m2 : ¬ (N : Int) ≤ (m : Int) := by omega
        go_wp2_with (first
          | (refine load_part rfl 24 (.tmp 41) rfl w.heap.size 0 rfl 28 FV (NA z) _ (HLF.out _ HVr.out) HINO.out Try.underlying24 rfl (by rw [szI, NA_size, hz]) ?_)
          | (go_at_call 11; go_must (refine hF.mono ?_; rintro e y5 ⟨rfl, hb5⟩; have Y5 := hid (btr HBr.out hb5 HBr.out.size); have d1 : y5.cell? ⟨g, o + m * 2, none⟩ = some (.int .i64 (k : Int)) := (by rw [Y5.out.cell (p := ⟨g, o + m * 2, none⟩) hgl]; exact HC1.out); have d2 : y5.cell? ⟨g, o + m * 2 + 1, none⟩ = some (.int .i64 x) := (by rw [Y5.out.cell (p := ⟨g, o + m * 2 + 1, none⟩) hgl]; exact HC2.out); clear hb5)))
        exact ⟨⟨k + 1, m + 1, by omega, by omega, by go_num, by go_num, hid (by rw [HE.out, List.length_append, HM.out]; rfl), Y5⟩, by simp [intOf]; omega⟩
    · obtain rfl : k = 1068 := by omega
      have hmN : m = N := by rw [HM.out, HN.out, Q1.out]
      subst hmN
      go_wp2_with fail
      go_ret
      exact ⟨rfl, btr HW1.out HBr.out HW1.out.size⟩

end Go.Proofs.Ytjlhmojofjkkdab
