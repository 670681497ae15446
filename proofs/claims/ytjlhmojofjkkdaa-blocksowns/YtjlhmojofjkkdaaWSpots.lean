/-
  BlocksSpots: Spots and Tables of any file, by any reader.
-/
import Derived.Test.YtjlhmojofjkkdaaF0
import Derived.Test.YtjlhmojofjkkdaaF1
import Derived.Test.YtjlhmojofjkkdaaE4
namespace Go.Proofs.Ytjlhmojofjkkdaa
open Go.RowKit Go.Shelf

theorem rowsAns_le (rs : List Row) (h : ∀ x ∈ rs, x.ps.length ≤ 32) : (rowsAns rs).1.length ≤ 32 * rs.length := by
  induction rs with
  | nil => simp [rowsAns]
  | cons x rs ih =>
    have ih := ih (fun y hy => h y (by simp [hy]))
    have h1 := spotRow_le x
    have h2 := h x (by simp)
    simp only [rowsAns]
    split
    · split
      · simp only [List.length_append, List.length_cons]; omega
      · simp
    · simp
theorem ansL_le (s : Src) (z : List Int) : (rowsAns (rowsL s z)).1.length ≤ 9223372036854775807 := by
  have h1 := rowsAns_le (rowsL s z) rows_ps
  have h2 := rows_le s z
  omega
theorem tblR_le (s : Src) (z : List Int) : (tblR s z).1.length ≤ 9223372036854775807 := by
  have := there_le32 s (z.getD 17 0)
  unfold tblR
  generalize thereL (tabS s (z.getD 17 0)).1 = L at *
  split
  · split <;> simp
  · split
    · split <;> simp <;> omega
    · simp

set_option maxRecDepth 100000 in
set_option maxHeartbeats 1000000 in
theorem spots_walk (z : List Int) (a : Option Addr) (c : Nat) (s : Src) (w : World) (hz : z.length = 18) (hi : ImgAt w a s.im) :
    Calls Try.prog 5 #[.agg (fileV z a c s)] w fun e w' => e = .returned (.bool true) ∧ Below w.heap.size w w' := by
  obtain ⟨FV, hFV⟩ : ∃ y, y = fileV z a c s := ⟨_, rfl⟩
  have hF21 : FV.size = 21 := by rw [hFV]; exact fileV_size hz a c s
  have hino : ∀ (j : Nat) v, (NA z)[j]? = some v → FV[0 + j]? = some v := by rw [hFV]; exact file_ino z a c s
  have hsrc := fun w => source_any z a c s w hz
  obtain ⟨SV, hSV⟩ : ∃ y, y = srcV a c s := ⟨_, rfl⟩
  rw [← hFV, ← hSV] at hsrc
  rw [← hFV]
  have HSV := hid hSV
  have hS3 : SV.size = 3 := by rw [hSV]; rfl
  have hS1 : SV.all (·.oneCell') = true := by rw [hSV]; simp [srcV, Value.oneCell']
  have HINO := hid hino
  clear hFV hSV hino
  obtain ⟨W, hW⟩ : ∃ y, y = w.alloc (.cells FV 32) := ⟨_, rfl⟩
  have HB : Hid (Below w.heap.size w W) := by rw [hW]; exact (Below.refl _ _).alloc (Nat.le_refl _) _
  have H0 : Hid (W.heap[w.heap.size]? = some (.cells FV 32 (0, 0))) := by rw [hW]; exact heap_alloc_new _ _
  have HL := hid (fun (X : World) (hX : Below W.heap.size W X) => (hX.block _ (slt H0.out)).trans H0.out)
  have hz2 : ∀ w, (zeroValue 35).run Try.prog w = .ok (.agg ZR) w := fun w => by kernel_rfl
  go_enter Try.func5, Try.ntmps5
  go_upto_region 1 with fail
  rw [← hW]
  clear hW
  go_upto_region 4 with (first
    | (go_at_call 9; go_must (refine (known_any W).mono ?_; rintro e x1 ⟨rfl, hb⟩; have X1 := hid hb; clear hb)))
  go_upto_region 5 with (first
    | (refine load_R rfl 32 (.tmp 1) rfl w.heap.size rfl 32 FV _ (HL.out _ X1.out) Try.underlying32 rfl (by rw [szFile, hF21]) ?_)
    | (go_at_call 12; go_must (refine (hsrc x1).mono ?_; rintro e x2 ⟨rfl, hb⟩; have X2 := hid (btr X1.out hb X1.out.size); clear hb))
    | (refine store_R rfl 35 (.tmp 4) (.tmp 18) rfl x2.heap.size SV rfl rfl 35 ZR (heap_alloc_new _ _) (by rw [szSrc, hS3]) (by rw [hS3]; rfl) hS1 ?_; go_must (intro x3 p3; have H3 := hid p3.here; have X3 : Hid (Below W.heap.size W x3) := hid (p3.below (X2.out.alloc X2.out.size _) X2.out.size); have X23 : Hid (x2.heap.size < x3.heap.size) := hid (by rw [p3.size]; simp); clear p3)))
  clear hz2
  obtain ⟨V, hV⟩ : ∃ y, y = x3.alloc (.cells SV 39) := ⟨_, rfl⟩
  have KV : Below x3.heap.size x3 V := by rw [hV]; exact (Below.refl _ _).alloc (Nat.le_refl _) _
  have VB : Hid (Below W.heap.size W V) := hid (btr X3.out KV X3.out.size)
  have VS : Hid (V.heap[x2.heap.size]? = some (.cells SV 35 (0, 0))) := by rw [KV.block _ (slt H3.out)]; exact H3
  have VR : Hid (Rd V x3.heap.size s) := hid ⟨a, c, by rw [hV, ← HSV.out]; exact heap_alloc_new _ _, (hi.below HB.out).below VB.out⟩
  go_upto_region 6 with (first
    | (refine load_R rfl 35 (.tmp 4) rfl x2.heap.size rfl 35 SV _ H3.out Try.underlying35 rfl (by rw [szSrc, hS3]) ?_))
  have hfold : Array.foldl (fun (cs : Array Value) (x : Value × Nat) => cs.setIfInBounds x.snd x.fst) #[Value.slice none 0 0, Value.int .i64 0, Value.int .i64 0] SV.zipIdx 0 3 = SV := by rw [HSV.out]; rfl
  rw [hfold, ← hV]
  obtain ⟨pm, hpm⟩ : ∃ y, y = x3.heap.size := ⟨_, rfl⟩
  obtain ⟨bS, hbS⟩ : ∃ y, y = x2.heap.size := ⟨_, rfl⟩
  rw [← hpm] at VR
  rw [← hbS] at VS
  rw [← hpm, ← hbS]
  clear hV KV hfold hpm hbS H3 X3 X23 X2 X1 hS1
  have hLA := ansL_le s z
  have hLT := tblR_le s z
  have HLF := hid (fun (X : World) (hX : Below V.heap.size V X) => HL.out X (btr VB.out hX VB.out.size))
  have HLS := hid (fun (X : World) (hX : Below V.heap.size V X) => (hX.block _ (slt VS.out)).trans VS.out)
  have hQ := hid (fun (X : World) (hX : Below V.heap.size V X) => rSpots_any a c s z X hz (hi.below (btr HB.out (btr VB.out hX VB.out.size) HB.out.size)))
  have hU := hid (fun (X : World) (hX : Below V.heap.size V X) => rTables_any a c s z X hz (hi.below (btr HB.out (btr VB.out hX VB.out.size) HB.out.size)))
  rw [← HSV.out, rows_same] at hQ
  rw [← HSV.out] at hU
  have hP := Spots_any pm s z V hz VR.out
  have hT := hid (fun (X : World) (hX : Below V.heap.size V X) => Tables_any pm s z X hz (VR.out.below hX))
  have hAns := hid (fun (l : List Spt) (e : Int) (h : SpotsAns (spotsOf (rowsL s z)) l e) => ans_of h)
  generalize rowsAns (rowsL s z) = R at *
  generalize tblR s z = T at *
  go_upto_region 7 with (first
    | (refine load_part rfl 29 (.tmp 25) rfl w.heap.size 0 rfl 32 FV (NA z) _ (HLF.out _ (Below.refl _ _)) HINO.out Try.underlying29 rfl (by rw [szI, NA_size, hz]) ?_)
    | (go_at_call 15; go_must (refine Calls.mono hP ?_; rintro e y1 ⟨v1, l1, c1, rfl, ha1, ho1, hb1⟩; have hR1 := hAns.out _ _ ha1; have Y1 := hid hb1; have O1 := hid ho1; clear ha1 hb1 ho1)))
  have hR1l : l1 = R.1 := by rw [← hR1]
  have hR1e : c1 = R.2 := by rw [← hR1]
  subst hR1l hR1e
  obtain ⟨a1, k1, hv1, p1⟩ := SOwn.pi O1.out
  subst hv1
  have P1 := hid p1
  clear hR1 p1 O1 hP
  go_upto_region 8 with (first
    | (refine load_R rfl 35 (.tmp 4) rfl bS rfl 35 SV _ (HLS.out _ Y1.out) Try.underlying35 rfl (by rw [szSrc, hS3]) ?_)
    | (refine load_part rfl 29 (.tmp 32) rfl w.heap.size 0 rfl 32 FV (NA z) _ (HLF.out _ Y1.out) HINO.out Try.underlying29 rfl (by rw [szI, NA_size, hz]) ?_)
    | (go_at_call 16; go_must (refine (hQ.out y1 Y1.out).mono ?_; rintro e y2 ⟨v2, rfl, ho2, hb2⟩; have Y2 := hid (btr Y1.out hb2 Y1.out.size); have O2 := hid ho2; have P12 := hid (P1.out.below hb2); clear hb2 ho2)))
  obtain ⟨a2, k2, hv2, p2⟩ := SOwn.pi O2.out
  subst hv2
  have P2 := hid p2
  clear p2 O2 hQ P1
  go_upto_region 9 with (first
    | (refine load_part rfl 29 (.tmp 40) rfl w.heap.size 0 rfl 32 FV (NA z) _ (HLF.out _ Y2.out) HINO.out Try.underlying29 rfl (by rw [szI, NA_size, hz]) ?_)
    | (go_at_call 17; go_must (refine (hT.out y2 Y2.out).mono ?_; rintro e y3 ⟨v3, rfl, ho3, hb3⟩; have Y3 := hid (btr Y2.out hb3 Y2.out.size); have O3 := hid ho3; have P13 := hid (P12.out.below hb3); have P23 := hid (P2.out.below hb3); clear hb3 ho3)))
  obtain ⟨a3, k3, hv3, p3⟩ := IOwn.li O3.out
  subst hv3
  have P3 := hid p3
  clear p3 O3 hT P12 P2
  go_upto_region 10 with (first
    | (refine load_R rfl 35 (.tmp 4) rfl bS rfl 35 SV _ (HLS.out _ Y3.out) Try.underlying35 rfl (by rw [szSrc, hS3]) ?_)
    | (refine load_part rfl 29 (.tmp 47) rfl w.heap.size 0 rfl 32 FV (NA z) _ (HLF.out _ Y3.out) HINO.out Try.underlying29 rfl (by rw [szI, NA_size, hz]) ?_)
    | (go_at_call 18; go_must (refine (hU.out y3 Y3.out).mono ?_; rintro e y4 ⟨v4, rfl, ho4, hb4⟩; have Y4 := hid (btr Y3.out hb4 Y3.out.size); have O4 := hid ho4; have P14 := hid (P13.out.below hb4); have P24 := hid (P23.out.below hb4); have P34 := hid (P3.out.below hb4); clear hb4 ho4)))
  obtain ⟨a4, k4, hv4, p4⟩ := IOwn.li O4.out
  subst hv4
  have P4 := hid p4
  clear p4 O4 hU P13 P23 P3
  go_wp2_with (first
    | (go_at_call 19; go_must (refine (spotsEq_any a1 a2 k1 k2 R.1 y4 P14.out P24.out hLA).mono ?_; rintro e y5 ⟨rfl, hb5⟩; have Y5 := hid (btr Y4.out hb5 Y4.out.size); have P35 := hid (P34.out.below hb5); have P45 := hid (P4.out.below hb5); clear hb5))
    | (go_at_call 20; go_must (refine (intsEq_any a3 a4 k3 k4 T.1 y5 P35.out P45.out hLT).mono ?_; rintro e y6 ⟨rfl, hb6⟩; have Y6 := hid (btr Y5.out hb6 Y5.out.size); clear hb6)))
  go_ret
  exact ⟨rfl, btr HB.out (btr VB.out Y6.out VB.out.size) HB.out.size⟩

end Go.Proofs.Ytjlhmojofjkkdaa
