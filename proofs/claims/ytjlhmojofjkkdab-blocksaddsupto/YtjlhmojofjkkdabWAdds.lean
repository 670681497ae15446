/-
  BlocksAdds: Need of some and of others.
-/
import Derived.Test.YtjlhmojofjkkdabF0
import Derived.Test.YtjlhmojofjkkdabH0
namespace Go.Proofs.Ytjlhmojofjkkdab
open Go.RowKit Go.Shelf

theorem needL_sm {s : Src} {z ks : List Int} (h : Needs s z ks) : ∀ p ∈ needL s z ks, Sm p := by
  intro p hp
  obtain ⟨k, hk, hm⟩ := (needL_mem h.ok p).1 hp
  have hb : badK k = false := by
    cases hb : badK k with
    | false => rfl
    | true => have := h.good; rw [Bool.eq_false_iff] at this; exact absurd (List.any_eq_true.2 ⟨k, hk, hb⟩) this
  exact ptsL_sm hb p (List.mem_of_mem_drop hm.2)
theorem sm_few {M : List (Int × Int)} (h1 : M.Nodup) (h2 : ∀ p ∈ M, Sm p) : M.length ≤ 1000000000 := by
  have h3 : (M.map fun p => p.1.toNat * 5001 + p.2.toNat).Nodup := by
    unfold List.Nodup
    rw [List.pairwise_map]
    refine List.Pairwise.imp_of_mem ?_ h1
    intro p q hp hq hne e
    apply hne
    obtain ⟨a1, a2, a3, a4⟩ := h2 p hp
    obtain ⟨b1, b2, b3, b4⟩ := h2 q hq
    obtain ⟨p1, p2⟩ := p
    obtain ⟨q1, q2⟩ := q
    simp only at *
    have : p1 = q1 := by omega
    have : p2 = q2 := by omega
    simp [*]
  have h4 := nodup_lenN _ (List.range 26000000) h3 (fun x hx => by
    obtain ⟨p, hp, rfl⟩ := List.mem_map.1 hx
    obtain ⟨a1, a2, a3, a4⟩ := h2 p hp
    simp
    omega)
  simp at h4
  omega
theorem need_big {s : Src} {z ks : List Int} (h : (needR s z ks).2 = 0) : (needR s z ks).1 ≤ 4000000000000000000 := by
  have hn := Needs.of h
  rw [hn.eq]
  have := sm_few (needL_nodup s z ks) (needL_sm hn)
  simp only
  omega
theorem ansL_le2 (s : Src) (z : List Int) : (rowsAns (rowsL s z)).1.length ≤ 2000 := by
  have key : ∀ rs : List Row, (∀ x ∈ rs, x.ps.length ≤ 32) → (rowsAns rs).1.length ≤ 32 * rs.length := by
    intro rs
    induction rs with
    | nil => intro _; simp [rowsAns]
    | cons x rs ih =>
      intro h
      have ih := ih (fun y hy => h y (by simp [hy]))
      have h1 := spotRow_le x
      have h2 := h x (by simp)
      simp only [rowsAns]
      split
      · split
        · simp only [List.length_append, List.length_cons]; omega
        · simp
      · simp
  have h1 := key (rowsL s z) rows_ps
  have h2 := rows_le s z
  omega

set_option maxRecDepth 100000 in
set_option maxHeartbeats 2000000 in
theorem adds_walk (z : List Int) (a : Option Addr) (c : Nat) (s : Src) (aa : Option Addr) (ca : Nat) (ka : List Int) (ab : Option Addr) (cb : Nat) (kb : List Int) (w : World) (hz : z.length = 18) (hi : ImgAt w a s.im) (hka : LI w aa ka) (hna : ka.length ≤ 1048576) (hkb : LI w ab kb) (hnb : kb.length ≤ 1048576) :
    Calls Try.prog 5 #[.agg (fileV z a c s), .slice aa ka.length ca, .slice ab kb.length cb] w fun e w' => e = .returned (.bool true) ∧ Below w.heap.size w w' := by
  obtain ⟨NA1, hNA⟩ : ∃ y, y = ka.length := ⟨_, rfl⟩
  obtain ⟨NB1, hNB⟩ : ∃ y, y = kb.length := ⟨_, rfl⟩
  have HNA := hid hNA
  have HNB := hid hNB
  rw [← hNA] at hna
  rw [← hNB] at hnb
  rw [← hNA, ← hNB]
  clear hNA hNB
  obtain ⟨FV, hFV⟩ : ∃ y, y = fileV z a c s := ⟨_, rfl⟩
  have hF21 : FV.size = 21 := by rw [hFV]; exact fileV_size hz a c s
  have hino : ∀ (j : Nat) v, (NA z)[j]? = some v → FV[0 + j]? = some v := by rw [hFV]; exact file_ino z a c s
  have hsrc := fun w => source_any z a c s w hz
  obtain ⟨SV, hSV⟩ : ∃ y, y = srcV a c s := ⟨_, rfl⟩
  rw [← hFV, ← hSV] at hsrc
  rw [← hFV]
  have HSV := hid hSV
  have hS3 : SV.size = 3 := by rw [hSV]; rfl
  have hS1 : SV.all (·.oneCell') = true := by rw [hSV]; simp [srcV, Value.oneCell']
  have HINO := hid hino
  clear hFV hSV hino
  obtain ⟨W, hW⟩ : ∃ y, y = w.alloc (.cells FV 28) := ⟨_, rfl⟩
  have HB : Hid (Below w.heap.size w W) := by rw [hW]; exact (Below.refl _ _).alloc (Nat.le_refl _) _
  have H0 : Hid (W.heap[w.heap.size]? = some (.cells FV 28 (0, 0))) := by rw [hW]; exact heap_alloc_new _ _
  have HL := hid (fun (X : World) (hX : Below W.heap.size W X) => (hX.block _ (slt H0.out)).trans H0.out)
  go_enter Try.func5, Try.ntmps5
  go_upto_region 1 with fail
  rw [← hW]
  clear hW
  go_upto_region 4 with (first
    | (go_at_call 6; go_must (refine (known_any W).mono ?_; rintro e x1 ⟨rfl, hb⟩; have X1 := hid hb; clear hb)))
  go_upto_region 5 with (first
    | (refine load_R rfl 28 (.tmp 3) rfl w.heap.size rfl 28 FV _ (HL.out _ X1.out) Try.underlying28 rfl (by rw [szFile, hF21]) ?_)
    | (go_at_call 7; go_must (refine (hsrc x1).mono ?_; rintro e x3 ⟨rfl, hb⟩; have X3 := hid (btr X1.out hb X1.out.size); clear hb)))
  obtain ⟨V, hV⟩ : ∃ y, y = x3.alloc (.cells SV 35) := ⟨_, rfl⟩
  have KV : Below x3.heap.size x3 V := by rw [hV]; exact (Below.refl _ _).alloc (Nat.le_refl _) _
  have VB : Hid (Below W.heap.size W V) := hid (btr X3.out KV X3.out.size)
  have VR : Hid (Rd V x3.heap.size s) := hid ⟨a, c, by rw [hV, ← HSV.out]; exact heap_alloc_new _ _, (hi.below HB.out).below VB.out⟩
  have hfold : Array.foldl (fun (cs : Array Value) (x : Value × Nat) => cs.setIfInBounds x.snd x.fst) #[Value.slice none 0 0, Value.int .i64 0, Value.int .i64 0] SV.zipIdx 0 3 = SV := by rw [HSV.out]; rfl
  rw [hfold, ← hV]
  obtain ⟨pm, hpm⟩ : ∃ y, y = x3.heap.size := ⟨_, rfl⟩
  rw [← hpm] at VR
  rw [← hpm]
  clear hV KV hfold hpm X3 X1 hS1 hS3 hsrc
  have HLF := hid (fun (X : World) (hX : Below V.heap.size V X) => HL.out X (btr VB.out hX VB.out.size))
  have hN := hid (fun (X : World) (hX : Below V.heap.size V X) (ks : List Int) (a : Option Addr) (c : Nat) (hl : LI X a ks) (hn : ks.length ≤ 9223372036854775807) => Need_any pm s z a c ks X hz (VR.out.below hX) hl hn)
  have HVw : Hid (∀ X, Below V.heap.size V X → Below w.heap.size w X) := hid (fun X hX => btr HB.out (btr VB.out hX VB.out.size) HB.out.size)
  have E1 := hid (@adds_err s z ka kb)
  have E2 := hid (@adds_ok s z ka kb)
  have HBIG : Hid ((needR s z ka).2 = 0 → (needR s z kb).2 = 0 → (needR s z ka).1 ≤ 4000000000000000000 ∧ (needR s z kb).1 ≤ 4000000000000000000) := hid (fun h1 h2 => ⟨need_big h1, need_big h2⟩)
  have E3 := hid (fun (b : List Int) (h : (needR s z (ka ++ kb)).2 = 0) (hs : ∀ k, k ∈ ka ++ kb ↔ k ∈ b) => need_same h hs)
  have n0 := hN.out V (Below.refl _ _) [] none 0 (fun j k hj => by simp at hj) (by decide)
  rw [need_none] at n0
  go_upto_region 8 with (first
    | (refine load_part rfl 24 (.tmp 34) rfl w.heap.size 0 rfl 28 FV (NA z) _ (HLF.out _ (Below.refl _ _)) HINO.out Try.underlying24 rfl (by rw [szI, NA_size, hz]) ?_)
    | (go_at_call 10; go_must (refine n0.mono ?_; rintro e y1 ⟨rfl, hb⟩; have Y1 := hid hb; clear hb)))
  have nA := hN.out y1 Y1.out ka aa ca (LI.below hka (HVw.out _ Y1.out)) (by rw [← HNA.out]; omega)
  rw [← HNA.out] at nA
  clear n0
  go_upto_region 9 with (first
    | (refine load_part rfl 24 (.tmp 48) rfl w.heap.size 0 rfl 28 FV (NA z) _ (HLF.out _ Y1.out) HINO.out Try.underlying24 rfl (by rw [szI, NA_size, hz]) ?_)
    | (go_at_call 10; go_must (refine nA.mono ?_; rintro e y2 ⟨rfl, hb⟩; have Y2 := hid (btr Y1.out hb Y1.out.size); clear hb)))
  have nB := hN.out y2 Y2.out kb ab cb (LI.below hkb (HVw.out _ Y2.out)) (by rw [← HNB.out]; omega)
  rw [← HNB.out] at nB
  clear nA
  go_upto_region 11 with (first
    | (refine load_part rfl 24 (.tmp 57) rfl w.heap.size 0 rfl 28 FV (NA z) _ (HLF.out _ Y2.out) HINO.out Try.underlying24 rfl (by rw [szI, NA_size, hz]) ?_)
    | (go_at_call 10; go_must (refine nB.mono ?_; rintro e y3 ⟨rfl, hb⟩; have Y3 := hid (btr Y2.out hb Y2.out.size); clear hb)))
  clear nB
  have h3a := LI.below hka (HVw.out _ Y3.out)
  have o3 : IOwn y3 V.heap.size (.slice none 0 0) [] := World.ownsRow_nil _ _ _ _
  have HA3 := hid h3a
  have HO3 := hid o3
  clear h3a o3
  go_upto_region 12 with (first
    | (at_builtin; go_must (refine wp_appIs rfl _ _ rfl V.heap.size (.slice none 0 0) [] ka aa ca rfl (by rw [← HNA.out]; rfl) HO3.out HA3.out (by simp only [List.length_nil]; rw [← HNA.out]; omega) Y3.out.size ?_; intro v4 y4 ho4 hg4)))
  rw [List.nil_append] at ho4
  have Y4 : Hid (Below V.heap.size V y4) := hid (Y3.out.trans hg4.low)
  have HO4 := hid ho4
  clear ho4 hg4 HO3 HA3
  obtain ⟨a4, c4, hv4, _, _⟩ := row_shape9 HO4.out
  rw [← HNA.out] at hv4
  subst hv4
  have HB4 := hid (LI.below hkb (HVw.out _ Y4.out))
  go_upto_region 13 with (first
    | (at_builtin; go_must (refine wp_appIs rfl _ _ rfl V.heap.size _ ka kb ab cb rfl (by rw [← HNB.out]; rfl) HO4.out HB4.out (by rw [← HNA.out, ← HNB.out]; omega) Y4.out.size ?_; intro v5 y5 ho5 hg5)))
  have Y5 : Hid (Below V.heap.size V y5) := hid (Y4.out.trans hg5.low)
  obtain ⟨a5, c5, hv5, p5⟩ := IOwn.li ho5
  obtain ⟨L, hL⟩ : ∃ y, y = ka ++ kb := ⟨_, rfl⟩
  obtain ⟨N, hNn⟩ : ∃ y, y = L.length := ⟨_, rfl⟩
  have hNle : N ≤ 2097152 := by rw [hNn, hL, List.length_append, ← HNA.out, ← HNB.out]; omega
  rw [← hL] at hv5 p5 E1 E2 E3
  rw [← hNn] at hv5
  subst hv5
  have P5 := hid p5
  have HNn := hid hNn
  clear ho5 hg5 HB4 HO4 p5 hL hNn
  have nC := hN.out y5 Y5.out L a5 c5 P5.out (by rw [← HNn.out]; omega)
  rw [← HNn.out] at nC
  go_upto_region 14 with (first
    | (refine load_part rfl 24 (.tmp 72) rfl w.heap.size 0 rfl 28 FV (NA z) _ (HLF.out _ Y5.out) HINO.out Try.underlying24 rfl (by rw [szI, NA_size, hz]) ?_)
    | (go_at_call 10; go_must (refine nC.mono ?_; rintro e y6 ⟨rfl, hb⟩; have Y6 := hid (btr Y5.out hb Y5.out.size); have P6 := hid (P5.out.below hb); clear hb)))
  clear nC P5
  have W6 := hid (HVw.out _ Y6.out)
  obtain ⟨x1, x2, hx⟩ : ∃ x1 x2, needR s z ka = (x1, x2) := ⟨_, _, rfl⟩
  obtain ⟨q1, q2, hq⟩ : ∃ x1 x2, needR s z kb = (x1, x2) := ⟨_, _, rfl⟩
  obtain ⟨t1, t2, ht⟩ : ∃ x1 x2, needR s z L = (x1, x2) := ⟨_, _, rfl⟩
  simp only [hx, hq, ht] at E1 E2 E3 HBIG
  simp only [hx, hq, ht]
  clear hx hq ht
  by_cases hx2 : ¬ x2 = 0
  · have k1 := E1.out (.inl hx2)
    clear E1 E2 E3
    go_wp2_with fail
    go_ret
    exact ⟨congrArg (fun b => Ending.returned (.bool b)) (show (t2 != 0) = true by simpa using k1), W6.out⟩
  have hx3 : x2 = 0 := Decidable.not_not.1 hx2
  subst hx3
  clear hx2
  by_cases hq2 : ¬ q2 = 0
  · have k1 := E1.out (.inr hq2)
    clear E1 E2 E3
    go_wp2_with fail
    go_ret
    exact ⟨congrArg (fun b => Ending.returned (.bool b)) (show (t2 != 0) = true by simpa using k1), W6.out⟩
  have hq3 : q2 = 0 := Decidable.not_not.1 hq2
  subst hq3
  clear hq2
  obtain ⟨k1, k2, k3, k4, k5, k6⟩ := E2.out rfl rfl
  subst k1
  have E4 := hid (fun (b : List Int) (hs : ∀ k, k ∈ L ↔ k ∈ b) => E3.out b rfl hs)
  clear E1 E2 E3
  have b1 : ¬ t1 < x1 := by omega
  have b2 : ¬ t1 < q1 := by omega
  have b3 : ¬ x1 + q1 < t1 := by omega
  have hbig : x1 ≤ 4000000000000000000 ∧ q1 ≤ 4000000000000000000 := HBIG.out rfl rfl
  obtain ⟨hbig1, hbig2⟩ := hbig
  go_upto_region 20 with fail
  clear b1 b2 b3 k2 k3 k4 k5 k6 hbig1 hbig2
  obtain ⟨e0, he0⟩ : ∃ y : Int, y = (N : Int) - 1 := ⟨_, rfl⟩
  rw [← he0]
  have HE0 := hid he0
  clear he0
  go_loopw [17, 18] (fun v i wr => ∃ (r : Nat) (e : Int), r ≤ N ∧ i = .int .i64 e ∧ Hid (e = (r : Int) - 1) ∧ Hid (IOwn wr y6.heap.size v (dbl (L.drop r).reverse)) ∧ Hid (Below y6.heap.size y6 wr)) (fun _ i _ => (intOf i + 1).toNat)
  case atStart => exact ⟨N, e0, Nat.le_refl _, rfl, HE0, hid (by rw [HNn.out, List.drop_length]; exact World.ownsRow_nil _ _ _ _), hid (Below.refl _ _)⟩
  case round =>
    obtain ⟨r, e, hr, rfl, HE, HO, HBr⟩ := hrel
    clear HE0
    by_cases hlt : 0 ≤ e
    · obtain ⟨q, hq⟩ : ∃ q : Nat, e = (q : Int) := ⟨e.toNat, by omega⟩
      have hrq : r = q + 1 := by have := HE.out; omega
      subst hq hrq
      obtain ⟨x, hx⟩ : ∃ x, L[q]? = some x := ⟨_, List.getElem?_eq_getElem (by rw [← HNn.out]; omega)⟩
      obtain ⟨g, o, ha5, hc⟩ := P6.out q x hx
      subst ha5
      have HD := hid (dbl_step hx)
      have hgl := World.block_lt_of_cell? _ _ hc
      have hcr : wr.cell? ⟨g, o + q, none⟩ = some (.int .i64 x) := by rw [HBr.out.cell (p := ⟨g, o + q, none⟩) hgl]; exact hc
      obtain ⟨LK, hLK⟩ : ∃ y, y = dbl (L.drop (q + 1)).reverse := ⟨_, rfl⟩
      have hLl : LK.length ≤ 4194304 := by rw [hLK, dbl_len, List.length_reverse, List.length_drop, ← HNn.out]; omega
      rw [← hLK] at HO HD
      clear hLK
      obtain ⟨av, cv, hv, _, _⟩ := row_shape9 HO.out
      subst hv
      have i0 : (0 : Int) ≤ (q : Int) := by omega
      have i1 : (q : Int) < (N : Int) := by omega
      clear hx hc
      go_upto_region 22 with fail
      refine wp_region_noPanic ?_
      refine wp_region_held_drew (S := fun w' => w'.cell? ⟨g, o + q, none⟩ = some (.int .i64 x)) (by kernel_rfl) hcr (fun hHeld => ?_)
      refine takeVal 0 115 (.slice av LK.length cv) rfl (by kernel_rfl) (by kernel_rfl) (by kernel_rfl) rfl (by rfl) (fun _ _ _ h => h) hHeld (fun W' hw' => rfl) ?_
      simp only [List.setIfInBounds_toArray, List.set_cons_zero, List.set_cons_succ]
      refine takeVal 1 116 (.slice (some ⟨g, o, none⟩) N c5) rfl (by kernel_rfl) (by kernel_rfl) (by kernel_rfl) rfl (by rfl) (fun _ _ _ h => h) hHeld (fun W' hw' => rfl) ?_
      simp only [List.setIfInBounds_toArray, List.set_cons_zero, List.set_cons_succ]
      refine takeVal 2 117 (.int .i64 (q : Int)) rfl (by kernel_rfl) (by kernel_rfl) (by kernel_rfl) rfl (by rfl) (fun _ _ _ h => h) hHeld (fun W' hw' => rfl) ?_
      simp only [List.setIfInBounds_toArray, List.set_cons_zero, List.set_cons_succ]
      refine takeVal 3 118 (.pointer (some ⟨g, o + q, none⟩)) rfl (by kernel_rfl) (by kernel_rfl) (by kernel_rfl) rfl (by rfl) (fun _ _ _ h => h) hHeld (fun W' hw' => by go_simp) ?_
      simp only [List.setIfInBounds_toArray, List.set_cons_zero, List.set_cons_succ]
      refine takeVal 4 119 (.int .i64 x) rfl (by kernel_rfl) (by kernel_rfl) (by kernel_rfl) rfl (by rfl) (fun _ _ _ h => h) hHeld (fun W' hw' => by have hq : W'.cell? ⟨g, o + q, none⟩ = some (.int .i64 x) := hw'; go_simp) ?_
      simp only [List.setIfInBounds_toArray, List.set_cons_zero, List.set_cons_succ]
      refine takeVal 5 120 (.slice (some ⟨g, o, none⟩) N c5) rfl (by kernel_rfl) (by kernel_rfl) (by kernel_rfl) rfl (by rfl) (fun _ _ _ h => h) hHeld (fun W' hw' => rfl) ?_
      simp only [List.setIfInBounds_toArray, List.set_cons_zero, List.set_cons_succ]
      refine takeVal 6 121 (.int .i64 (q : Int)) rfl (by kernel_rfl) (by kernel_rfl) (by kernel_rfl) rfl (by rfl) (fun _ _ _ h => h) hHeld (fun W' hw' => rfl) ?_
      simp only [List.setIfInBounds_toArray, List.set_cons_zero, List.set_cons_succ]
      refine takeVal 7 122 (.pointer (some ⟨g, o + q, none⟩)) rfl (by kernel_rfl) (by kernel_rfl) (by kernel_rfl) rfl (by rfl) (fun _ _ _ h => h) hHeld (fun W' hw' => by go_simp) ?_
      simp only [List.setIfInBounds_toArray, List.set_cons_zero, List.set_cons_succ]
      refine takeVal 8 123 (.int .i64 x) rfl (by kernel_rfl) (by kernel_rfl) (by kernel_rfl) rfl (by rfl) (fun _ _ _ h => h) hHeld (fun W' hw' => by have hq : W'.cell? ⟨g, o + q, none⟩ = some (.int .i64 x) := hw'; go_simp) ?_
      simp only [List.setIfInBounds_toArray, List.set_cons_zero, List.set_cons_succ]
      refine step1 9 (by kernel_rfl) ?_
      obtain ⟨x9, hx9⟩ : ∃ y, y = wr.drew.alloc (.cells #[.int .i64 x, .int .i64 x] 3) := ⟨_, rfl⟩
      have h9 : x9.cell? ⟨g, o + q, none⟩ = some (.int .i64 x) := by
        rw [hx9, ((Below.refl wr.drew.heap.size wr.drew).alloc (Nat.le_refl _) _).cell (p := ⟨g, o + q, none⟩) (World.block_lt_of_cell? _ _ hHeld)]
        exact hHeld
      have h9b : x9.heap[wr.heap.size]? = some (.cells #[.int .i64 x, .int .i64 x] 3 (0, 0)) := by rw [hx9]; exact heap_alloc_new wr.drew _
      have h9o : IOwn x9 y6.heap.size (.slice av LK.length cv) LK := by rw [hx9]; exact ownsRow_alloc9 (World.ownsRow.drew HO.out) _
      have h9B : Below y6.heap.size y6 x9 := by rw [hx9]; exact (below_drew HBr.out).alloc HBr.out.size _
      refine stNew 9 124 (.slice (some ⟨wr.heap.size, 0, none⟩) 2 2) (.cells #[.int .i64 x, .int .i64 x] 3) rfl rfl (by rfl) (by go_simp) ⟨by rw [← hx9]; exact h9, ?_⟩
      simp only [List.setIfInBounds_toArray, List.set_cons_zero, List.set_cons_succ]
      rw [← hx9]
      clear hx9
      refine step1 10 (by kernel_rfl) ?_
      refine stAppI2 10 125 rfl rfl (by rfl) (.tmp 115) (.tmp 124) rfl y6.heap.size wr.heap.size 2 (.slice av LK.length cv) LK x x rfl rfl h9o h9b (by omega) h9B.size ?_
      intro v7 y7 ho7 hg7
      have h7 : y7.cell? ⟨g, o + q, none⟩ = some (.int .i64 x) := by
        rw [hg7.low.cell (p := ⟨g, o + q, none⟩) hgl]
        exact h9
      have HB7 := hid (h9B.trans hg7.low)
      refine ⟨h7, ?_⟩
      simp only [List.setIfInBounds_toArray, List.set_cons_zero, List.set_cons_succ]
      refine takeVal 11 17 (v7) rfl (by kernel_rfl) (by kernel_rfl) (by kernel_rfl) rfl (by rfl) (fun _ _ _ h => h) h7 (fun W' hw' => rfl) ?_
      simp only [List.setIfInBounds_toArray, List.set_cons_zero, List.set_cons_succ]
      refine wpAnyH_done (by kernel_rfl) ?_ _
      refine NoPanic.normal ?_
      have HO7 := hid ho7
      clear ho7 hg7 h7 h9 h9b h9o h9B hHeld hcr HO HBr
      go_wp2_with fail
      exact ⟨⟨q, (q : Int) - 1, by omega, rfl, hid rfl, by rw [HD.out]; exact HO7, HB7⟩, by simp [intOf]⟩
    · obtain rfl : r = 0 := by have := HE.out; omega
      rw [List.drop_zero] at HO
      have HMm := hid (dbl_mem L)
      have hBl : (dbl L.reverse).length ≤ 4194304 := by rw [dbl_len, List.length_reverse, ← HNn.out]; omega
      obtain ⟨BK, hBK⟩ : ∃ y, y = dbl L.reverse := ⟨_, rfl⟩
      rw [← hBK] at HO HMm hBl
      clear hBK
      obtain ⟨a8, c8, hv8, p8⟩ := IOwn.li HO.out
      subst hv8
      have nD := hN.out wr (btr Y6.out HBr.out Y6.out.size) BK a8 c8 p8 (by omega)
      rw [E4.out BK (fun k => (HMm.out k).symm)] at nD
      have HVr := hid (btr Y6.out HBr.out Y6.out.size)
      obtain ⟨NB, hNB⟩ : ∃ y, y = BK.length := ⟨_, rfl⟩
      rw [← hNB] at nD hBl
      rw [← hNB]
      clear hNB p8 HO
      have hPs := hid (fun (X : World) (hX : Below V.heap.size V X) => Spots_any pm s z X hz (VR.out.below hX))
      have hAns := hid (fun (l : List Spt) (e : Int) (h : SpotsAns (spotsOf (rowsL s z)) l e) => ans_of h)
      have hTh := hid (@there_need s z hz)
      have hRl : (rowsAns (rowsL s z)).1.length ≤ 2000 := ansL_le2 s z
      go_upto_region 26 with (first
        | (refine load_part rfl 24 (.tmp 129) rfl w.heap.size 0 rfl 28 FV (NA z) _ (HLF.out _ HVr.out) HINO.out Try.underlying24 rfl (by rw [szI, NA_size, hz]) ?_)
        | (go_at_call 10; go_must (refine nD.mono ?_; rintro e y8 ⟨rfl, hb⟩; have Y8 := hid (btr HVr.out hb HVr.out.size); clear hb)))
      clear nD E4 HMm
      generalize rowsAns (rowsL s z) = R at *
      go_upto_region 27 with (first
        | (refine load_part rfl 24 (.tmp 145) rfl w.heap.size 0 rfl 28 FV (NA z) _ (HLF.out _ Y8.out) HINO.out Try.underlying24 rfl (by rw [szI, NA_size, hz]) ?_)
        | (go_at_call 8; go_must (refine Calls.mono (hPs.out y8 Y8.out) ?_; rintro e y9 ⟨v9, l9, c9, rfl, ha9, ho9, hb9⟩; have hR9 := hAns.out _ _ ha9; have Y9 := hid (btr Y8.out hb9 Y8.out.size); have O9 := hid ho9; clear ha9 hb9 ho9)))
      have hR9l : l9 = R.1 := by rw [← hR9]
      have hR9e : c9 = R.2 := by rw [← hR9]
      subst hR9l hR9e
      obtain ⟨a9, k9, hv9, p9⟩ := SOwn.pi O9.out
      subst hv9
      have P9 := hid p9
      clear hR9 p9 O9 hPs hAns
      obtain ⟨R1, R2⟩ := R
      have W9 := hid (HVw.out _ Y9.out)
      by_cases he : ¬ R2 = 0
      · go_wp2_with fail
        go_ret
        exact ⟨rfl, W9.out⟩
      have he2 : R2 = 0 := Decidable.not_not.1 he
      subst he2
      have hT2 := hid (hTh.out rfl)
      clear he hTh
      simp only at hRl
      obtain ⟨NR, hNR⟩ : ∃ y, y = R1.length := ⟨_, rfl⟩
      have HNR := hid hNR
      simp only [← hNR] at hRl
      simp only [← hNR]
      clear hNR
      go_upto_region 31 with fail
      go_loopw [21, 22] (fun v i wq => ∃ (k : Nat), k ≤ NR ∧ i = .int .i64 k ∧ Hid (IOwn wq y9.heap.size v ((R1.take k).map (·.idx))) ∧ Hid (Below y9.heap.size y9 wq)) (fun _ i _ => NR - (intOf i).toNat)
      case atStart => exact ⟨0, by omega, rfl, hid (World.ownsRow_nil _ _ _ _), hid (Below.refl _ _)⟩
      case round =>
        obtain ⟨k, hk, rfl, HOk, HBk⟩ := hrel
        by_cases hlt2 : k < NR
        · obtain ⟨x, hx⟩ : ∃ x, R1[k]? = some x := ⟨_, List.getElem?_eq_getElem (by rw [← HNR.out]; exact hlt2)⟩
          obtain ⟨g, o, ha9, hc1, hc2⟩ := P9.out k x hx
          subst ha9
          have hc : wr.cell? ⟨g, o + k * 2, none⟩ = some (.int .i64 x.idx) := by rw [HBk.out.cell (p := ⟨g, o + k * 2, none⟩) (World.block_lt_of_cell? _ _ hc1)]; exact hc1
          obtain ⟨LK, hLK⟩ : ∃ y, y = (R1.take k).map (·.idx) := ⟨_, rfl⟩
          have hLl : LK.length ≤ 2000 := by rw [hLK, List.length_map, List.length_take]; omega
          have HD : Hid ((R1.take (k + 1)).map (·.idx) = LK ++ [x.idx]) := by rw [List.take_add_one, hx, hLK]; exact hid (by simp)
          rw [← hLK] at HOk
          clear hLK hc1 hc2 hx
          generalize x.idx = xi at *
          obtain ⟨av, cv, hv, _, _⟩ := row_shape9 HOk.out
          subst hv
          have i0 : (0 : Int) ≤ (k : Int) := by omega
          have i1 : (k : Int) < (NR : Int) := by omega
          have HNw : Hid ((wr.alloc (.cells #[.int .i64 xi] 3)).heap[wr.heap.size]? = some (.cells #[.int .i64 xi] 3 (0, 0))) := heap_alloc_new _ _
          go_wp2_with (first
            | (at_builtin; refine wp_appI rfl _ _ rfl y9.heap.size wr.heap.size 1 _ LK xi rfl rfl (ownsRow_alloc9 HOk.out _) (by rw [cell_of_row _ _ _ _ _ _ HNw.out]; rfl) (by omega) (by have := HBk.out.size; simp; omega) ?_; intro v2 w2 ho2 hg2))
          exact ⟨⟨k + 1, by omega, by go_num, by rw [HD.out]; exact hid ho2, hid ((HBk.out.alloc HBk.out.size _).trans hg2.low)⟩, by simp [intOf]; omega⟩
        · obtain rfl : k = NR := by omega
          rw [List.take_of_length_le (by rw [← HNR.out]; exact Nat.le_refl _)] at HOk
          obtain ⟨TK, hTK⟩ : ∃ y, y = R1.map (·.idx) := ⟨_, rfl⟩
          have hTl : TK.length ≤ 2000 := by rw [hTK, List.length_map, ← HNR.out]; exact hRl
          rw [← hTK] at HOk hT2
          clear hTK
          obtain ⟨a6, c6, hv6, p6⟩ := IOwn.li HOk.out
          subst hv6
          have HVq := hid (btr Y9.out HBk.out Y9.out.size)
          have nE := hN.out wr HVq.out TK a6 c6 p6 (by omega)
          rw [hT2.out] at nE
          have hge : ¬ ((k : Int) < (k : Int)) := by omega
          clear p6 HOk
          go_wp2_with (first
            | (refine load_part rfl 24 (.tmp 170) rfl w.heap.size 0 rfl 28 FV (NA z) _ (HLF.out _ HVq.out) HINO.out Try.underlying24 rfl (by rw [szI, NA_size, hz]) ?_)
            | (go_at_call 10; go_must (refine nE.mono ?_; rintro e y10 ⟨rfl, hb⟩; have Y10 := hid (btr HVq.out hb HVq.out.size); clear hb)))
          go_ret
          exact ⟨rfl, HVw.out _ Y10.out⟩

end Go.Proofs.Ytjlhmojofjkkdab
