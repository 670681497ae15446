/-
  BlocksNeeds: Need of any indexes; the list stays.
-/
import Derived.Test.YtjlhmojofjkkdaaF0
import Derived.Test.YtjlhmojofjkkdaaI1
import Derived.Laws.CopyOwn
namespace Go.Proofs.Ytjlhmojofjkkdaa
open Go.RowKit Go.Shelf

theorem build0I (w : World) : (Instr.buildSlice 33 0 #[]).run Try.prog w = .ok (.slice (some ⟨w.heap.size, 0, none⟩) 0 0) (w.alloc (.cells #[] 3)) := by kernel_rfl
theorem wp_bs0 {ops : Array Oper} {rest : List Oper} {o : Oper} {a : Act} {Q : Exit → Act → World → Prop} {w : World} (hg : o.guard = none) (hop : o.op = .buildSlice 33 0 #[]) (hK : wpList Try.prog ops Q rest (a.put o.dst (.slice (some ⟨w.heap.size, 0, none⟩) 0 0)) (w.alloc (.cells #[] 3))) : wpList Try.prog ops Q (o :: rest) a w := by
  refine wpList_plain hg fun K' hK' => ?_
  unfold Oper.wp
  simp [execOp, hop, build0I w, Result.andThen]
  exact hK' _ _ hK
theorem iown_empty (w : World) : IOwn (w.alloc (.cells #[] 3)) w.heap.size (.slice (some ⟨w.heap.size, 0, none⟩) 0 0) [] :=
  ⟨by simp, .inr ⟨w.heap.size, 0, _, rfl, Nat.le_refl _, heap_alloc_new _ _, Nat.le_refl _, by unfold maxLen; omega, rfl, rfl⟩⟩
theorem li_two {w : World} {g : Nat} {x y : Int} (h : w.heap[g]? = some (.cells #[.int .i64 x, .int .i64 y] 3 (0, 0))) : LI w (some ⟨g, 0, none⟩) [x, y] := by
  intro j k hj
  refine ⟨g, 0, rfl, ?_⟩
  rw [Nat.zero_add, cell_of_row _ _ _ _ _ _ h]
  match j, hj with
  | 0, hj => cases hj; rfl
  | 1, hj => cases hj; rfl
  | j + 2, hj => simp at hj
theorem sz1i : (Try.prog.info? 3).map (·.size) = some 1 := by kernel_rfl
/-- copy over the first numbers of a row at block g. -/
theorem wp_copyI {w : World} {ops : Array Oper} {rest : List Oper} {o : Oper} {a : Act} {Q : Exit → Act → World → Prop} (hgd : o.guard = none) (d s : Operand)
    (ho : o.op = .call { callee := .builtin .copy, args := #[d, s], argTypes := #[33, 33] })
    (g n cap cs : Nat) (sp : Option Addr) (os : List Int) (hd : a.eval d = .slice (some ⟨g, 0, none⟩) n cap) (hs : a.eval s = .slice sp os.length cs)
    (C : Array Value) (hg : w.heap[g]? = some (.cells C 3 (0, 0))) (hfit : n ≤ C.size) (hat : LI w sp os)
    (h : ∀ w', PutR w g (((os.take n).map (Value.int .i64) ++ C.toList.drop (os.take n).length).toArray) 3 w' → wpList Try.prog ops Q rest (a.put o.dst (goInt (os.take n).length)) w') : wpList Try.prog ops Q (o :: rest) a w := by
  have hl : ((os.take n).map (Value.int .i64)).length = Nat.min os.length n := by rw [List.length_map, List.length_take, Nat.min_comm]
  by_cases h0 : (os.take n).length = 0
  · have hz : os.take n = [] := List.eq_nil_of_length_eq_zero h0
    refine wpList_copy_nothing hgd d s 33 33 ho 3 Try.underlying33 sz1i (some ⟨g, 0, none⟩) sp n cap os.length cs hd hs (by rw [← hl, hz]; rfl) ?_
    have hh := h w ⟨by rw [hz]; simpa using hg, fun _ _ => rfl, rfl, rfl, rfl, rfl⟩
    rw [h0] at hh
    exact hh
  · obtain ⟨y, hy⟩ : ∃ y, os[0]? = some y := ⟨_, List.getElem?_eq_getElem (by rw [List.length_take] at h0; omega)⟩
    obtain ⟨g', o', e, _⟩ := hat 0 y hy
    subst e
    refine wpList_copy_own hgd d s 33 33 ho 3 Try.underlying33 sz1i g 0 n cap ⟨g', o', none⟩ os.length cs hd hs C 3 hg ((os.take n).map (Value.int .i64)) hl (fun j v hj => ?_) (by rw [List.length_map, List.length_take]; omega) (fun u hu => by obtain ⟨x, _, rfl⟩ := List.mem_map.1 hu; rfl) ?_
    · rw [List.getElem?_map] at hj
      cases hx : (os.take n)[j]? with
      | none => rw [hx] at hj; cases hj
      | some x =>
        rw [hx] at hj
        have hx2 : os[j]? = some x := by
          rw [List.getElem?_take] at hx
          split at hx
          · exact hx
          · cases hx
        obtain ⟨g2, o2, e2, hc⟩ := hat j x hx2
        cases e2
        rw [addr_add, hc]
        exact hj
    · have e : (C.toList.take 0 ++ ((os.take n).map (Value.int .i64) ++ C.toList.drop (0 + ((os.take n).map (Value.int .i64)).length))).toArray = ((os.take n).map (Value.int .i64) ++ C.toList.drop (os.take n).length).toArray := by
        rw [List.take_zero, List.nil_append, Nat.zero_add, List.length_map]
      rw [e]
      have := h _ (putR_setRow _ hg)
      rw [show ((os.take n).map (Value.int .i64)).length = (os.take n).length from List.length_map _]
      exact this

set_option maxRecDepth 100000 in
set_option maxHeartbeats 2000000 in
theorem needs_walk (z : List Int) (a : Option Addr) (c : Nat) (s : Src) (ak : Option Addr) (ck : Nat) (ks : List Int) (ao : Option Addr) (co : Nat) (os : List Int) (w : World) (hz : z.length = 18) (hi : ImgAt w a s.im) (hks : LI w ak ks) (hn : ks.length ≤ 17592186043904) (hos : LI w ao os) (_hno : os.length ≤ 9223372036854775807) :
    Calls Try.prog 6 #[.agg (fileV z a c s), .slice ak ks.length ck, .slice ao os.length co] w fun e w' => e = .returned (.bool true) ∧ Below w.heap.size w w' := by
  obtain ⟨N, hN⟩ : ∃ y, y = ks.length := ⟨_, rfl⟩
  have HN := hid hN
  rw [← hN] at hn
  rw [← hN]
  clear hN
  obtain ⟨NO, hNO⟩ : ∃ y, y = os.length := ⟨_, rfl⟩
  have HNO := hid hNO
  rw [← hNO]
  clear hNO
  obtain ⟨FV, hFV⟩ : ∃ y, y = fileV z a c s := ⟨_, rfl⟩
  have hF21 : FV.size = 21 := by rw [hFV]; exact fileV_size hz a c s
  have hino : ∀ (j : Nat) v, (NA z)[j]? = some v → FV[0 + j]? = some v := by rw [hFV]; exact file_ino z a c s
  have hsrc := fun w => source_any z a c s w hz
  obtain ⟨SV, hSV⟩ : ∃ y, y = srcV a c s := ⟨_, rfl⟩
  rw [← hFV, ← hSV] at hsrc
  rw [← hFV]
  have HSV := hid hSV
  have hS3 : SV.size = 3 := by rw [hSV]; rfl
  have hS1 : SV.all (·.oneCell') = true := by rw [hSV]; simp [srcV, Value.oneCell']
  have HINO := hid hino
  clear hFV hSV hino
  obtain ⟨W, hW⟩ : ∃ y, y = w.alloc (.cells FV 32) := ⟨_, rfl⟩
  have HB : Hid (Below w.heap.size w W) := by rw [hW]; exact (Below.refl _ _).alloc (Nat.le_refl _) _
  have H0 : Hid (W.heap[w.heap.size]? = some (.cells FV 32 (0, 0))) := by rw [hW]; exact heap_alloc_new _ _
  have HL := hid (fun (X : World) (hX : Below W.heap.size W X) => (hX.block _ (slt H0.out)).trans H0.out)
  have hz2 : ∀ w, (zeroValue 35).run Try.prog w = .ok (.agg ZR) w := fun w => by kernel_rfl
  go_enter Try.func6, Try.ntmps6
  go_upto_region 1 with fail
  rw [← hW]
  clear hW
  go_upto_region 4 with (first
    | (go_at_call 9; go_must (refine (known_any W).mono ?_; rintro e x1 ⟨rfl, hb⟩; have X1 := hid hb; clear hb)))
  go_upto_region 5 with (first
    | (refine load_R rfl 32 (.tmp 3) rfl w.heap.size rfl 32 FV _ (HL.out _ X1.out) Try.underlying32 rfl (by rw [szFile, hF21]) ?_)
    | (go_at_call 12; go_must (refine (hsrc x1).mono ?_; rintro e x2 ⟨rfl, hb⟩; have X2 := hid (btr X1.out hb X1.out.size); clear hb))
    | (refine store_R rfl 35 (.tmp 8) (.tmp 24) rfl x2.heap.size SV rfl rfl 35 ZR (heap_alloc_new _ _) (by rw [szSrc, hS3]) (by rw [hS3]; rfl) hS1 ?_; go_must (intro x3 p3; have H3 := hid p3.here; have X3 : Hid (Below W.heap.size W x3) := hid (p3.below (X2.out.alloc X2.out.size _) X2.out.size); have X23 : Hid (x2.heap.size < x3.heap.size) := hid (by rw [p3.size]; simp); clear p3)))
  clear hz2
  obtain ⟨V, hV⟩ : ∃ y, y = x3.alloc (.cells SV 39) := ⟨_, rfl⟩
  have KV : Below x3.heap.size x3 V := by rw [hV]; exact (Below.refl _ _).alloc (Nat.le_refl _) _
  have VB : Hid (Below W.heap.size W V) := hid (btr X3.out KV X3.out.size)
  have VS : Hid (V.heap[x2.heap.size]? = some (.cells SV 35 (0, 0))) := by rw [KV.block _ (slt H3.out)]; exact H3
  have VR : Hid (Rd V x3.heap.size s) := hid ⟨a, c, by rw [hV, ← HSV.out]; exact heap_alloc_new _ _, (hi.below HB.out).below VB.out⟩
  go_upto_region 6 with (first
    | (refine load_R rfl 35 (.tmp 8) rfl x2.heap.size rfl 35 SV _ H3.out Try.underlying35 rfl (by rw [szSrc, hS3]) ?_))
  have hfold : Array.foldl (fun (cs : Array Value) (x : Value × Nat) => cs.setIfInBounds x.snd x.fst) #[Value.slice none 0 0, Value.int .i64 0, Value.int .i64 0] SV.zipIdx 0 3 = SV := by rw [HSV.out]; rfl
  rw [hfold, ← hV]
  obtain ⟨pm, hpm⟩ : ∃ y, y = x3.heap.size := ⟨_, rfl⟩
  obtain ⟨bS, hbS⟩ : ∃ y, y = x2.heap.size := ⟨_, rfl⟩
  rw [← hpm] at VR
  rw [← hbS] at VS
  rw [← hpm, ← hbS]
  clear hV KV hfold hpm hbS H3 X3 X23 X2 X1 hS1
  have HVw : Hid (∀ X, Below V.heap.size V X → Below w.heap.size w X) := hid (fun X hX => btr HB.out (btr VB.out hX VB.out.size) HB.out.size)
  have HLF := hid (fun (X : World) (hX : Below V.heap.size V X) => HL.out X (btr VB.out hX VB.out.size))
  have HLS := hid (fun (X : World) (hX : Below V.heap.size V X) => (hX.block _ (slt VS.out)).trans VS.out)
  have hP := hid (fun (X : World) (hX : Below V.heap.size V X) (l : List Int) (a : Option Addr) (c : Nat) (hl : LI X a l) (hn : l.length ≤ 9223372036854775807) => Need_any pm s z a c l X hz (VR.out.below hX) hl hn)
  have hQ := hid (fun (X : World) (hX : Below V.heap.size V X) (l : List Int) (b : Option Addr) (d : Nat) (hl : LI X b l) (hn : l.length ≤ 9223372036854775807) => show Calls Try.prog 22 #[.agg SV, .agg (NA z), .slice b l.length d] X (fun e w' => e = .returned (.tuple #[.int .i64 (needR s z l).1, .int .i64 (needR s z l).2]) ∧ Below X.heap.size X w') from by
    have := rNeed_any a c s z b d l X hz (hi.below (HVw.out X hX)) hl hn
    rw [← HSV.out] at this
    exact this)
  have VK : Hid (LI (V.alloc (.cells #[] 3)) ak ks) := hid (hks.below (HVw.out _ ((Below.refl _ _).alloc (Nat.le_refl _) _)))
  have VO0 := hid (iown_empty V)
  go_upto_region 7 with (first
    | (refine wp_bs0 rfl rfl ?_)
    | (at_builtin; refine wp_appIs rfl _ _ rfl V.heap.size (.slice (some ⟨V.heap.size, 0, none⟩) 0 0) [] ks ak ck rfl (by rw [← HN.out]; rfl) VO0.out VK.out (by simp only [List.length_nil]; rw [← HN.out]; omega) (by simp) ?_; intro v1 y1 ho1 hg1; rw [List.nil_append] at ho1; have O1 := hid ho1; have Y1 : Hid (Below V.heap.size V y1) := hid (((Below.refl _ _).alloc (Nat.le_refl _) _).trans hg1.low); clear ho1 hg1 VO0 VK; obtain ⟨a1, c1, hv1, _, _⟩ := row_shape9 O1.out; rw [← HN.out] at hv1; subst hv1)
    | (at_builtin; refine wp_appIs rfl _ _ rfl V.heap.size _ ks [91, 92] (some ⟨y1.heap.size, 0, none⟩) 2 rfl rfl (ownsRow_alloc9 O1.out _) (li_two (heap_alloc_new _ _)) (by rw [← HN.out]; simp only [List.length_cons, List.length_nil]; omega) (by have := Y1.out.size; simp; omega) ?_; intro v2 y2 ho2 hg2; have O2 := hid ho2; have Y2 : Hid (Below V.heap.size V y2) := hid ((Y1.out.alloc Y1.out.size _).trans hg2.low); clear ho2 hg2))
  obtain ⟨g, cap, hv2, hgV, hgl, hcap, hcells⟩ := row_form O2.out (by simp)
  have hlen2 : (ks ++ [91, 92]).length = N + 2 := by rw [List.length_append, HN.out]; rfl
  rw [hlen2] at hv2 hcap
  subst hv2
  have HC := hid hcells
  have hblk : ∃ C : Array Value, y2.heap[g]? = some (.cells C 3 (0, 0)) ∧ N + 2 ≤ C.size ∧ C.toList.take (N + 2) = (ks ++ [91, 92]).map (Value.int .i64) := by
    rcases O2.out.2 with ⟨e, _⟩ | ⟨g', cap', cur, e, _, hb, h1, _, h3, h4⟩
    · cases e
    · injection e with e1 e2 e3
      have eg : g = g' := by simpa using e1
      subst eg
      rw [hlen2] at h4 h1
      exact ⟨cur, hb, by omega, by simpa using h4⟩
  obtain ⟨C, hC1, hC2, hC3⟩ := hblk
  have HC1 := hid hC1
  have HC3 := hid hC3
  clear hcells hlen2 O2 O1 hC1 hC3
  have hmk : Hid (∀ X, Below y2.heap.size y2 X → LI X (some ⟨g, 0, none⟩) ks) := hid (fun X hX j k hj => ⟨g, 0, rfl, by
    rw [hX.cell (p := ⟨g, 0 + j, none⟩) hgl, Nat.zero_add]
    refine HC.out j (.int .i64 k) ?_
    rw [List.getElem?_map, List.getElem?_append_left (List.getElem?_eq_some_iff.1 hj).1, hj]
    rfl⟩)
  have d91 : y2.cell? ⟨g, N, none⟩ = some (.int .i64 91) := HC.out N _ (by rw [List.getElem?_map, List.getElem?_append_right (by rw [HN.out]; exact Nat.le_refl _), HN.out, Nat.sub_self]; rfl)
  have d92 : y2.cell? ⟨g, N + 1, none⟩ = some (.int .i64 92) := HC.out (N + 1) _ (by rw [List.getElem?_map, List.getElem?_append_right (by rw [HN.out]; omega), HN.out, Nat.add_sub_cancel_left]; rfl)
  have D91 := hid d91
  have D92 := hid d92
  clear d91 d92 HC
  have n0 : (0 : Int) ≤ (N : Int) := by omega
  have n1 : (N : Int) ≤ (cap : Int) := by omega
  have n2 : N ≤ cap := by omega
  go_upto_region 8 with fail
  have nA := hP.out y2 Y2.out ks (some ⟨g, 0, none⟩) cap (hmk.out _ (Below.refl _ _)) (by rw [← HN.out]; omega)
  rw [← HN.out] at nA
  go_upto_region 9 with (first
    | (refine load_part rfl 29 (.tmp 40) rfl w.heap.size 0 rfl 32 FV (NA z) _ (HLF.out _ Y2.out) HINO.out Try.underlying29 rfl (by rw [szI, NA_size, hz]) ?_)
    | (go_at_call 21; go_must (refine nA.mono ?_; rintro e y3 ⟨rfl, hb⟩; have K3 := hid hb; have Y3 := hid (btr Y2.out hb Y2.out.size); clear hb)))
  clear nA
  have nB := hQ.out y3 Y3.out ks ak ck (hks.below (HVw.out _ Y3.out)) (by rw [← HN.out]; omega)
  rw [← HN.out] at nB
  go_upto_region 10 with (first
    | (refine load_R rfl 35 (.tmp 8) rfl bS rfl 35 SV _ (HLS.out _ Y3.out) Try.underlying35 rfl (by rw [szSrc, hS3]) ?_)
    | (refine load_part rfl 29 (.tmp 48) rfl w.heap.size 0 rfl 32 FV (NA z) _ (HLF.out _ Y3.out) HINO.out Try.underlying29 rfl (by rw [szI, NA_size, hz]) ?_)
    | (go_at_call 22; go_must (refine nB.mono ?_; rintro e y4 ⟨rfl, hb⟩; have K4 := hid (btr K3.out hb K3.out.size); have Y4 := hid (btr Y3.out hb Y3.out.size); clear hb)))
  clear nB
  generalize needR s z ks = R at *
  have nC := intsEq_any (some ⟨g, 0, none⟩) ak cap ck ks y4 (hmk.out _ K4.out) (hks.below (HVw.out _ Y4.out)) (by rw [← HN.out]; omega)
  rw [← HN.out] at nC
  have m0 : (N : Int) < (N : Int) + 2 := by omega
  have m1 : (N : Int) + 1 < (N : Int) + 2 := by omega
  have m2 : (0 : Int) ≤ (N : Int) + 1 := by omega
  have m3 : (N : Int) + 1 ≤ 9223372036854775807 := by omega
  go_upto_region 12 with (first
    | (go_at_call 20; go_must (refine nC.mono ?_; rintro e y5 ⟨rfl, hb⟩; have K5 := hid (btr K4.out hb K4.out.size); have Y5 := hid (btr Y4.out hb Y4.out.size); have d91 : y5.cell? ⟨g, N, none⟩ = some (.int .i64 91) := (by rw [K5.out.cell (p := ⟨g, N, none⟩) hgl]; exact D91.out); have d92 : y5.cell? ⟨g, N + 1, none⟩ = some (.int .i64 92) := (by rw [K5.out.cell (p := ⟨g, N + 1, none⟩) hgl]; exact D92.out); clear hb)))
  clear d91 d92 nC
  have HC5 : Hid (y5.heap[g]? = some (.cells C 3 (0, 0))) := hid (by rw [K5.out.block _ hgl]; exact HC1.out)
  go_upto_region 13 with (first
    | (refine wp_copyI rfl (.tmp 85) (.tmp 86) rfl g N cap co ao os rfl (by rw [← HNO.out]; rfl) C HC5.out (by omega) (hos.below (HVw.out _ Y5.out)) ?_; intro y6 p6))
  have Y6 : Hid (Below V.heap.size V y6) := hid (p6.below Y5.out hgV)
  obtain ⟨k2, hk2⟩ : ∃ y, y = os.take N ++ ks.drop (os.take N).length := ⟨_, rfl⟩
  have hk2l : k2.length = N := by rw [hk2, List.length_append, List.length_drop, List.length_take, ← HN.out]; omega
  have HK2 : Hid (∀ X, Below y6.heap.size y6 X → LI X (some ⟨g, 0, none⟩) k2) := hid (fun X hX j x hj => ⟨g, 0, rfl, by
    have hjN : j < N := by have := (List.getElem?_eq_some_iff.1 hj).1; omega
    rw [hX.cell (p := ⟨g, 0 + j, none⟩) (slt p6.here), Nat.zero_add, cell_of_row _ _ _ _ _ _ p6.here]
    rw [hk2] at hj
    have hCj : ∀ i, i < N → C.toList[i]? = (ks.map (Value.int .i64))[i]? := fun i hi => by
      have e : (C.toList.take (N + 2))[i]? = C.toList[i]? := by rw [List.getElem?_take, if_pos (by omega)]
      rw [← e, HC3.out, List.map_append, List.getElem?_append_left (by rw [List.length_map, ← HN.out]; exact hi)]
    simp only [List.getElem?_toArray]
    rcases Nat.lt_or_ge j (os.take N).length with e | e
    · rw [List.getElem?_append_left (by rw [List.length_map]; exact e), List.getElem?_map]
      rw [List.getElem?_append_left e] at hj
      rw [hj]; rfl
    · rw [List.getElem?_append_right (by rw [List.length_map]; exact e), List.length_map, List.getElem?_drop, show (os.take N).length + (j - (os.take N).length) = j by omega, hCj j hjN, List.getElem?_map]
      rw [List.getElem?_append_right e, List.getElem?_drop, show (os.take N).length + (j - (os.take N).length) = j by omega] at hj
      rw [hj]; rfl⟩)
  clear p6 HC5 HC1 HC3 hk2 hmk D91 D92 K3 K4 K5
  have nD := hP.out y6 Y6.out k2 (some ⟨g, 0, none⟩) cap (HK2.out _ (Below.refl _ _)) (by omega)
  rw [hk2l] at nD
  go_upto_region 14 with (first
    | (refine load_part rfl 29 (.tmp 91) rfl w.heap.size 0 rfl 32 FV (NA z) _ (HLF.out _ Y6.out) HINO.out Try.underlying29 rfl (by rw [szI, NA_size, hz]) ?_)
    | (go_at_call 21; go_must (refine nD.mono ?_; rintro e y7 ⟨rfl, hb⟩; have K7 := hid hb; have Y7 := hid (btr Y6.out hb Y6.out.size); clear hb)))
  clear nD
  have nE := hQ.out y7 Y7.out k2 (some ⟨g, 0, none⟩) cap (HK2.out _ K7.out) (by omega)
  rw [hk2l] at nE
  generalize needR s z k2 = R2 at *
  go_wp2_with (first
    | (refine load_R rfl 35 (.tmp 8) rfl bS rfl 35 SV _ (HLS.out _ Y7.out) Try.underlying35 rfl (by rw [szSrc, hS3]) ?_)
    | (refine load_part rfl 29 (.tmp 99) rfl w.heap.size 0 rfl 32 FV (NA z) _ (HLF.out _ Y7.out) HINO.out Try.underlying29 rfl (by rw [szI, NA_size, hz]) ?_)
    | (go_at_call 22; go_must (refine nE.mono ?_; rintro e y8 ⟨rfl, hb⟩; have Y8 := hid (btr Y7.out hb Y7.out.size); clear hb)))
  go_ret
  exact ⟨rfl, HVw.out _ Y8.out⟩

end Go.Proofs.Ytjlhmojofjkkdaa
