/-
  The document's cache: Put.
-/
import Derived.Test.YtamoepninddbcaaGreatKR
namespace Go.Proofs.YtamoepninddbcaaGreat
open Go.RowKit

section
variable {r rd n : Nat} {ρ : Nat → Option RRole} {z : CSt}
set_option maxHeartbeats 4000000 in
set_option maxRecDepth 100000 in
theorem rput_x (x : Int) (s l : List Int) (a : Option Addr) (ca : Nat) (w : World) (h : IsRC w r rd n ρ z) (hx : okN n x = false) : Calls Tryz.prog 69 #[.pointer (some ⟨r, 0, none⟩), .int .i64 x, .agg (D.SA s), .slice a l.length ca] w fun e w' => e = .returned (.int .i64 40) ∧ Chg w w' No := by
  obtain ⟨w1, hw1⟩ : ∃ y, y = w.alloc (.cells (D.SA s) 47) := ⟨_, rfl⟩
  have hc1 : Chg w w1 No := by rw [hw1]; exact Chg.alloc _ _ _
  have hT := rthere_any x w1 (h.call hc1)
  rw [hx] at hT
  generalize l.length = nl
  have HC1 := hid hc1
  clear h hx hc1
  subst hw1
  go_enter Tryz.func69, Tryz.ntmps69
  go_wp2_with (first
    | (go_at_call 71; go_must (refine hT.mono ?_; rintro e w' ⟨rfl, hw⟩; have hw := hw.symm; subst hw))
    | fail)
  go_ret
  exact ⟨rfl, HC1.out⟩
theorem take_getD {l : List Int} {i : Nat} (hi : i < l.length) : l.take (i + 1) = l.take i ++ [l.getD i 0] := by
  rw [List.take_add_one, List.getD_eq_getElem?_getD, List.getElem?_eq_getElem hi]
  rfl
/-- A number put in its place, as the loop has it so far. -/
def insL (x : Int) (T : List Int) : List Int := T.filter (· < x) ++ (if T.any (x < ·) = true then [x] else []) ++ T.filter (x < ·)
def tvX (tv : Int → Value) (x : Int) : Int → Value := fun y => if y = x then .slice none 0 0 else tv y
theorem itC_ins {z : CSt} {tv : Int → Value} {x y : Int} (h : y ≠ x) : itC (z.ins x) (tvX tv x) y = itC z tv y := by
  unfold itC CSt.ins tvX
  simp only
  rw [if_neg h, if_neg h]
theorem insL_snoc {x y : Int} {T : List Int} (hu : (T ++ [y]).Pairwise (· < ·)) (hne : y ≠ x) : insL x (T ++ [y]) = if T.any (x < ·) = false ∧ x < y then insL x T ++ [x] ++ [y] else insL x T ++ [y] := by
  obtain ⟨_, _, h3⟩ := List.pairwise_append.1 hu
  unfold insL
  rw [List.filter_append, List.filter_append, List.any_append]
  by_cases hxy : x < y
  · have h1 : ([y].filter (· < x)) = [] := by simp; omega
    have h2 : ([y].filter (x < ·)) = [y] := by simp [hxy]
    have h4 : [y].any (x < ·) = true := by simp [hxy]
    rw [h1, h2, h4, Bool.or_true, if_pos rfl]
    cases hb : T.any (x < ·) with
    | true =>
      rw [if_neg (fun e => by cases e.1), if_pos rfl]
      simp
    | false =>
      rw [if_pos ⟨rfl, hxy⟩, if_neg (by decide)]
      have h5 : T.filter (x < ·) = [] := List.filter_eq_nil_iff.2 fun t ht => by
        have := List.any_eq_false.1 hb t ht
        simpa using this
      rw [h5]
      simp
  · have h1 : ([y].filter (· < x)) = [y] := by
      have : y < x := by omega
      simp [this]
    have h2 : ([y].filter (x < ·)) = [] := by simp; omega
    have h4 : [y].any (x < ·) = false := by simp; omega
    have hb : T.any (x < ·) = false := List.any_eq_false.2 fun t ht => by
      have := h3 t ht y (List.mem_singleton.2 rfl)
      simp
      omega
    have h5 : T.filter (x < ·) = [] := List.filter_eq_nil_iff.2 fun t ht => by
      have := List.any_eq_false.1 hb t ht
      simpa using this
    rw [h1, h2, h4, Bool.or_false, hb, if_neg (by decide), if_neg (fun e => hxy e.2), h5]
    simp
theorem insL_len (x : Int) (T : List Int) : (insL x T).length ≤ 2 * T.length + 1 := by
  unfold insL
  have h1 := List.length_filter_le (fun y : Int => decide (y < x)) T
  have h2 := List.length_filter_le (fun y : Int => decide (x < y)) T
  rw [List.length_append, List.length_append]
  split
  · rw [List.length_singleton]; omega
  · rw [List.length_nil]; omega
theorem insL_done {n : Nat} {z : CSt} {x : Int} (hi : CInv n z) (hx : ¬ z.dirty x) (hok : 0 ≤ x ∧ x < n) : (if (secs z.dirty).any (x < ·) = true then insL x (secs z.dirty) else insL x (secs z.dirty) ++ [x]) = secs (z.ins x).dirty := by
  have hM : (secs z.dirty).filter (· < x) ++ [x] ++ (secs z.dirty).filter (x < ·) = secs (z.ins x).dirty := by
    refine secs_is ?_ (fun y => ?_) (fun y hy => ?_)
    · rw [List.pairwise_append]
      refine ⟨List.pairwise_append.2 ⟨(secs_up _).filter _, List.pairwise_singleton _ _, fun a ha b hb => ?_⟩, (secs_up _).filter _, fun a ha b hb => ?_⟩
      · have := (List.mem_filter.1 ha).2
        rw [List.mem_singleton.1 hb]
        simpa using this
      · have h2 := (List.mem_filter.1 hb).2
        simp only [decide_eq_true_eq] at h2
        rcases List.mem_append.1 ha with ha | ha
        · have h1 := (List.mem_filter.1 ha).2
          simp only [decide_eq_true_eq] at h1
          omega
        · rw [List.mem_singleton.1 ha]; exact h2
    · rw [ins_dirty]
      simp only [List.mem_append, List.mem_filter, List.mem_singleton, decide_eq_true_eq, secs_mem]
      constructor
      · rintro ((⟨⟨_, h⟩, _⟩ | h) | ⟨⟨_, h⟩, _⟩)
        · exact .inl h
        · exact .inr h
        · exact .inl h
      · rintro (h | h)
        · have hs := hi.sec h
          by_cases e : y < x
          · exact .inl (.inl ⟨⟨hs, h⟩, e⟩)
          · refine .inr ⟨⟨hs, h⟩, ?_⟩
            have : y ≠ x := fun c => hx (c ▸ h)
            omega
        · exact .inl (.inr h)
    · rcases (ins_dirty y).1 hy with e | e
      · exact hi.sec e
      · rw [e]
        have := hi.top
        exact ⟨hok.1, by omega⟩
  rw [← hM]
  unfold insL
  cases hb : (secs z.dirty).any (x < ·) with
  | true => rw [if_pos rfl, if_pos rfl]
  | false =>
    rw [if_neg (by decide), if_neg (by decide)]
    have h5 : (secs z.dirty).filter (x < ·) = [] := List.filter_eq_nil_iff.2 fun t ht => by
      have := List.any_eq_false.1 hb t ht
      simpa using this
    rw [h5]
    simp
def itX (x : Int) : List Value := .int .i64 x :: (D.Zs.map (Value.int .u8) ++ [.slice none 0 0])
theorem itX_is {z : CSt} {tv : Int → Value} {x : Int} : itC (z.ins x) (tvX tv x) x = itX x := by
  unfold itC CSt.ins tvX itX
  simp only [if_true]
theorem itX_len (x : Int) : (itX x).length = 130 := by simp [itX, D.Zs_len]
theorem itX_one (x : Int) : ∀ u ∈ itX x, u.oneCell' = true := by
  intro u hu
  unfold itX at hu
  rcases List.mem_cons.1 hu with rfl | hu
  · rfl
  · rcases List.mem_append.1 hu with hu | hu
    · obtain ⟨b, _, rfl⟩ := List.mem_map.1 hu
      rfl
    · rw [List.mem_singleton.1 hu]; rfl
theorem own_done {w : World} {B : Nat} {v : Value} {z : CSt} {tv : Int → Value} {x : Int} {M N : List Int} (e : M ++ [x] = N) (h : w.ownsRow B 109 130 v (M.length + 1) (M.flatMap (itC (z.ins x) (tvX tv x)) ++ itX x)) : w.ownsRow B 109 130 v N.length (N.flatMap (itC (z.ins x) (tvX tv x))) := by
  subst e
  rw [List.length_append, List.length_singleton, List.flatMap_append, List.flatMap_singleton, itX_is]
  exact h
theorem build_itX (x : Int) (w : World) : (Instr.build 109 #[(0, .int .i64 x)]).run Tryz.prog w = .ok (.agg (itX x).toArray) w := by kernel_rfl
section
variable {ops : Array Oper} {rest : List Oper} {o : Oper} {a : Act} {w : World} {Q : Exit → Act → World → Prop}
theorem wp_buildIt (hg : o.guard = none) (y : Operand) (ho : o.op = .build 109 #[(0, y)]) (x : Int) (hy : a.eval y = .int .i64 x)
    (h : wpList Tryz.prog ops Q rest (a.put o.dst (.agg (itX x).toArray)) w) : wpList Tryz.prog ops Q (o :: rest) a w :=
  wpList_plain hg fun _ hK => by
    unfold Oper.wp execOp
    simp only [ho, List.map_toArray, List.map_cons, List.map_nil, hy, Sem.run_bind, build_itX, Result.andThen_ok, Sem.run_pure]
    exact hK _ _ h
end
theorem none_of {z : CSt} {x : Int} (h : ¬ z.dirty x) : z.P x = none := by
  unfold CSt.dirty at h
  cases hq : z.P x with
  | none => rfl
  | some q => rw [hq] at h; exact absurd rfl h
theorem heap_alloc_keep {w : World} {k : Nat} {o ob : Obj} (h : w.heap[k]? = some ob) : (w.drew.alloc o).heap[k]? = some ob := (Chg.alloc w o No).keep h (fun e => e)
section
variable {ops : Array Oper} {Q : Exit → Act → World → Prop} {S : World → Prop} {fuel : Nat} {listed : Array Bool} {a : Act} {w : World}
/-- append of one edge, in a region that draws. -/
theorem stAppE (i d : Nat) {o : Oper} (hop : ops[i]? = some o) (hd : o.dst = some d) (hw : Region.wanted o (yielded ops a.tmps) = true) (s x : Operand)
    (ho : o.op = .call { callee := .builtin .append, args := #[s, x], argTypes := #[64, 64] }) (base g c : Nat) (v : Value) (l : List (Int × Int)) (y : Int × Int) (hs : a.eval s = v) (hx : a.eval x = .slice (some ⟨g, 0, none⟩) 1 c)
    (hown : Edgs w base v l) (hat : w.cell? ⟨g, 0, none⟩ = some (.int .i64 y.1)) (hat1 : w.cell? ⟨g, 1, none⟩ = some (.int .i64 y.2)) (hl : l.length ≤ 1000000000000) (hbase : base ≤ w.heap.size)
    (h : ∀ v' w', Edgs w' base v' (l ++ [y]) → Chg w w' (fun k => v.ownBlock = some k) → (v'.ownBlock = v.ownBlock ∨ v'.ownBlock = some w.heap.size) →
      S w' ∧ wpAnyH Tryz.prog .any ops Q S fuel (listed.setIfInBounds i true) { a with tmps := a.tmps.setIfInBounds d v' } w') : St ops Q S fuel listed a w i := by
  obtain ⟨inf, hi, hz, hsz, hby⟩ := infoE
  obtain ⟨v', w', hr, h1, h2, _, h4⟩ := run_append_own_at (P := Tryz.prog) w base 64 o.type 73 inf _ 2 16 Tryz.underlying64 hi hz hsz hby rfl (by decide) v l.length (cellsE l) hown ⟨g, 0, none⟩ 1 c [.int .i64 y.1, .int .i64 y.2] rfl (fun j u hj => by
    match j, hj with
    | 0, hj => simp at hj; subst hj; exact hat
    | 1, hj => simp at hj; subst hj; exact hat1
    | j + 2, hj => simp at hj) (by simp [Value.oneCell']) (by unfold maxLen; omega) (by omega) hbase
  have hh := h v' w' (by
    unfold Edgs
    rw [List.length_append, show cellsE (l ++ [y]) = cellsE l ++ [.int .i64 y.1, .int .i64 y.2] by rw [cellsE_flat, cellsE_flat, List.flatMap_append]; simp]
    exact h1) ((Chg.grown h2).mono fun j _ e => e.symm) h4
  refine wpOp_step hop (fun K hK => ?_)
  rw [if_pos hw]
  unfold Oper.wp execOp
  simp only [ho, resolve, invoke, builtin, Sem.run_bind, Sem.run_pure, Result.andThen_ok, List.map_toArray, List.map_cons, List.map_nil, hs, hx, hr]
  refine hK _ _ ⟨hh.1, ?_⟩
  unfold Act.put
  rw [hd]
  exact hh.2
end
open Classical in
set_option maxHeartbeats 8000000 in
set_option maxRecDepth 100000 in
theorem rput_l (x : Int) (s l : List Int) (a : Option Addr) (ca : Nat) (w : World) (h : IsRC w r rd n ρ z) (hx : okN n x = true) (hs : s.length = 128) (hla : LAt w a l) (hll : l.length ≤ 17592186044000) (hln : ∀ g, a = some ⟨g, 0, none⟩ → ¬ OwnR ρ g) (hlo : z.lost = false) (ht : TB z) (hw : z.d.wr < 4611686018427380000) :
    Calls Tryz.prog 69 #[.pointer (some ⟨r, 0, none⟩), .int .i64 x, .agg (D.SA s), .slice a l.length ca] w fun e w' => e = .returned (.int .i64 (putC n z x s l).2) ∧ RPost w w' r rd n ρ (putC n z x s l).1 := by
  have H0 := hid h
  obtain ⟨w1, hw1⟩ : ∃ y, y = w.alloc (.cells (D.SA s) 47) := ⟨_, rfl⟩
  have hc1 : Chg w w1 No := by rw [hw1]; exact Chg.alloc _ _ _
  have HB6 : Hid (w1.heap[w.heap.size]? = some (.cells (D.SA s) 47 (0, 0))) := hid (by rw [hw1]; exact heap_alloc_new _ _)
  have hT := rthere_any x w1 (h.call hc1)
  rw [hx] at hT
  have HTh : Hid (∀ y, Calls Tryz.prog 71 #[.pointer (some ⟨r, 0, none⟩), .int .i64 y] w1 fun e w' => e = .returned (.bool (okN n y)) ∧ w' = w1) := hid (fun y => rthere_any y w1 (h.call hc1))
  obtain ⟨nl, hnl⟩ : ∃ y, y = l.length := ⟨_, rfl⟩
  rw [← hnl]
  have n1 : (nl : Int) ≤ 17592186044000 := by omega
  have HNl := hid hnl
  have HX := hid hx
  have HS := hid hs
  have HLa : Hid (LAt w1 a l) := hid (hla.call hc1)
  have HLl := hid hll
  have HLn := hid hln
  have HLo := hid hlo
  have HT := hid ht
  have HW := hid hw
  have HC1 := hid hc1
  have HI1 := hid (h.call hc1)
  have q4 : w1.cell? ⟨r, 4, none⟩ = some (.bool false) := by
    obtain ⟨_, _, _, _, _, _, _, _, h9⟩ := h.call hc1
    rw [← hlo]; exact h9.c4
  clear h hx hs hla hll hln hlo ht hw hc1 hnl
  subst hw1
  go_enter Tryz.func69, Tryz.ntmps69
  go_wp2_with (first
    | (go_at_call 71; go_must (refine hT.mono ?_; rintro e w' ⟨rfl, hw⟩; have hw := hw.symm; subst hw))
    | fail)
  obtain ⟨w1, hw1⟩ : ∃ y, y = w.alloc (.cells (D.SA s) 47) := ⟨_, rfl⟩
  rw [← hw1] at HB6 HTh HLa HC1 HI1 q4 ⊢
  clear hw1 hT
  go_loopw [9] (fun x9 wr => ∃ i : Nat, x9 = .int .i64 (i : Int) ∧ i ≤ nl ∧ wr = w1 ∧ Hid (∀ k, k < i → okN n (l.getD k 0) = true)) (fun x9 _ => nl - (intOf x9).toNat)
  case atStart => exact ⟨0, rfl, Nat.zero_le _, rfl, hid (fun k hk => absurd hk (Nat.not_lt_zero _))⟩
  case round =>
    obtain ⟨i, rfl, hi, rfl, HOk⟩ := hrel
    have i0 : (0 : Int) ≤ (i : Int) := by omega
    by_cases hlt : i < nl
    · have i1 : (i : Int) < (nl : Int) := by omega
      obtain ⟨g, hga, _, p1⟩ := lat_at HLa.out (i := i) (by rw [← HNl.out]; exact hlt)
      subst hga
      have hTh := HTh.out (l.getD i 0)
      have HY : Hid (l.getD i 0 ∈ l) := hid (getD_mem (by rw [← HNl.out]; exact hlt))
      by_cases hy : okN n (l.getD i 0) = true
      · rw [hy] at hTh
        have HOk2 : Hid (∀ k, k < i + 1 → okN n (l.getD k 0) = true) := hid (fun k hk => by
          by_cases e : k = i
          · rw [e]; exact hy
          · exact HOk.out k (by omega))
        clear hy
        generalize l.getD i 0 = y at *
        go_wp2_with (first
          | (go_at_call 71; go_must (refine hTh.mono ?_; rintro e w' ⟨rfl, hw⟩; have hw := hw.symm; subst hw))
          | fail)
        exact ⟨⟨i + 1, by go_num, by omega, trivial, HOk2⟩, by simp [intOf]; omega⟩
      · rw [Bool.not_eq_true] at hy
        rw [hy] at hTh
        have HP : Hid (putC n z x s l = (z, 40)) := hid (by
          have : refC n z (x :: l) = 40 := refC_bad (k := i + 1) (by rw [List.length_cons, ← HNl.out]; omega) (by rw [List.getD_cons_succ]; exact hy)
          unfold putC
          rw [this, if_neg (by decide)])
        clear hy
        generalize l.getD i 0 = y at *
        go_wp2_with (first
          | (go_at_call 71; go_must (refine hTh.mono ?_; rintro e w' ⟨rfl, hw⟩; have hw := hw.symm; subst hw))
          | fail)
        go_ret
        rw [HP.out]
        exact ⟨rfl, RPost.same H0.out HC1.out⟩
    · have i1 : ¬ (i : Int) < (nl : Int) := by omega
      have HR : Hid (refC n z (x :: l) = 0) := hid (by
        rw [refC_ok (fun k hk => ?_), HLo.out]
        · rfl
        · cases k with
          | zero => exact HX.out
          | succ k =>
            rw [List.getD_cons_succ]
            rw [List.length_cons, ← HNl.out] at hk
            exact HOk.out k (by omega))
      have HPut : Hid (putC n z x s l = if (clearC n z x l).2 = 0 then (layC (clearC n z x l).1 x s (dofC (clearC n z x l).1 l x), 0) else clearC n z x l) := hid (by
        unfold putC
        rw [if_pos HR.out])
      clear HOk hi HTh HR
      obtain ⟨wa, hwa⟩ : ∃ y, y = wr := ⟨_, rfl⟩
      subst hwa
      go_wp2_with fail
      go_loopw [10, 11, 12] (fun x10 _ _ wr => ∃ i : Nat, x10 = .int .i64 (i : Int) ∧ i ≤ nl ∧ Hid ((clearC n z x (l.take i)).2 = 0 ∧ RPost wa wr r rd n ρ (clearC n z x (l.take i)).1)) (fun x10 _ _ _ => nl - (intOf x10).toNat)
      case atStart =>
        have e0 : clearC n z x (l.take 0) = (z, 0) := clear_no (fun ⟨b, hb, _⟩ => by rw [List.take_zero] at hb; cases hb)
        exact ⟨0, rfl, Nat.zero_le _, hid ⟨by rw [e0], by rw [e0]; exact RPost.same HI1.out (Chg.refl wa No)⟩⟩
      case round =>
        obtain ⟨i, rfl, hi, HA⟩ := hrel
        have i0 : (0 : Int) ≤ (i : Int) := by omega
        by_cases hlt : i < nl
        · have i1 : (i : Int) < (nl : Int) := by omega
          have hil : i < l.length := by rw [← HNl.out]; exact hlt
          obtain ⟨hz0, ρ', hI, ho, hg⟩ := HA.out
          have HTk := hid (take_getD hil)
          have HYm : Hid (l.getD i 0 ∈ l) := hid (getD_mem hil)
          obtain ⟨g, hga, _, p1⟩ := lat_at (HLa.out.keep hg HLn.out) hil
          subst hga
          generalize l.getD i 0 = y at *
          have hSt := clear_step HI1.out.inv x (l.take i) y HT.out HW.out hz0
          rw [← HTk.out] at hSt
          have hWt := clearC_wrote HI1.out.inv x (l.take i) HT.out HW.out
          clear HA
          obtain ⟨z2, hz2⟩ : ∃ q, q = (clearC n z x (l.take i)).1 := ⟨_, rfl⟩
          rw [← hz2] at hSt hI
          have HSt := hid hSt
          have HI := hid hI
          have HO := hid ho
          have HG := hid hg
          have hP := rplace_any y wr hI
          have hAh := rahead_any y wr hI
          have HNext : Hid (¬ (y ≠ x ∧ z2.dirty y ∧ Reach z2.E x y) → ∀ w5, Chg wr w5 No → (clearC n z x (l.take (i + 1))).2 = 0 ∧ RPost wa w5 r rd n ρ (clearC n z x (l.take (i + 1))).1) := hid (fun hn w5 hc => by
            rw [HSt.out.2 hn]
            exact ⟨rfl, RPost.and HO.out HG.out (RPost.same HI.out hc)⟩)
          clear hz0 ho hg hSt hWt hz2 hil
          by_cases hyx : y = x
          · have z1 : (y != x) = false := by simp [hyx]
            have HN := hid (HNext.out (fun e => e.1 hyx) _ (Chg.refl wr No))
            clear hyx hI
            go_wp2_with fail
            exact ⟨⟨i + 1, by go_num, by omega, HN⟩, by simp [intOf]; omega⟩
          · have z1 : (y != x) = true := by simp [hyx]
            by_cases hd : z2.dirty y
            · obtain ⟨j, _, hpl⟩ := flat_secs hI.inv hd
              rw [hpl] at hP
              have j0 : (0 : Int) ≤ (j : Int) := by omega
              by_cases hre : Reach z2.E x y
              · obtain ⟨hzz, hcd⟩ := HSt.out.1 ⟨hyx, hd, hre⟩
                subst hzz
                have HAm : Hid (∀ (l2 : List Int) (w2 : World) (v : Value), Ints w2 wr.heap.size v l2 → Ahead z2 y l2 → ∃ a2 c2, v = .slice a2 l2.length c2 ∧ Calls Tryz.prog 101 #[.slice a2 l2.length c2, .int .i64 x] w2 fun e w' => e = .returned (.bool true) ∧ w' = w2) := hid (fun l2 w2 v hI2 hA2 => by
                  obtain ⟨a2, c2, hv, hla2, _⟩ := hI2.lat
                  have := ramong_any l2 a2 c2 x w2 hla2 (by have := hA2.len; omega)
                  rw [decide_eq_true ((hA2.is x).2 hre)] at this
                  exact ⟨a2, c2, hv, this⟩)
                have HAx : Hid (∀ w2, Chg wr w2 No → Calls Tryz.prog 73 #[.pointer (some ⟨r, 0, none⟩), .int .i64 x] w2 fun e w' => ∃ v l, e = .returned v ∧ Ints w' w2.heap.size v l ∧ Ahead z2 x l ∧ Chg w2 w' No) := hid (fun w2 hc => rahead_any x w2 (HI.out.call hc))
                have HAll : Hid (∀ (l2 : List Int) (w2 w3 : World) (v : Value), Chg wr w2 No → Ints w3 w2.heap.size v l2 → Ahead z2 x l2 → Chg w2 w3 No → ∃ a2 c2, v = .slice a2 l2.length c2 ∧ Calls Tryz.prog 72 #[.pointer (some ⟨r, 0, none⟩), .slice a2 l2.length c2] w3 fun e w' => e = .returned (.int .i64 (drainC n z2 x).2) ∧ RPost w3 w' r rd n ρ' (drainC n z2 x).1) := hid (fun l2 w2 w3 v hc hI2 hA2 hc3 => by
                  obtain ⟨a2, c2, hv, hla2, hge⟩ := hI2.lat
                  refine ⟨a2, c2, hv, (rall_any l2 a2 c2 w3 (HI.out.call (hc.tr hc3)) hla2 (by have := hA2.len; omega) (fun g hg2 ho => ?_) HT.out HW.out).mono ?_⟩
                  · have := hge g hg2
                    have := HI.out.lt ho
                    have := hc.size
                    omega
                  · rintro e w' ⟨res, h1, h2, h3⟩
                    rw [← drain_all HI.out.inv hA2 h1]
                    exact ⟨h2, h3⟩)
                have HHit : Hid (clearC n z2 x l = drainC n z2 x) := hid (clear_hit ⟨y, HYm.out, hd, hyx, hre⟩)
                have HCd := hid hcd
                clear hyx hd hpl hre hcd hI
                obtain ⟨c, hc⟩ : ∃ c, c = (drainC n z2 x).2 := ⟨_, rfl⟩
                rw [← hc] at HAll
                have HCc := hid hc
                by_cases hc0 : c = 0
                · subst hc0
                  clear hc
                  go_wp2_with (first
                    | (go_at_call 74; go_must (refine hP.mono ?_; rintro e w' ⟨rfl, hw⟩; have hw := hw.symm; subst hw))
                    | (go_at_call 101; go_must (refine hAm2.mono ?_; rintro e w' ⟨rfl, hw⟩; have hw := hw.symm; subst hw; clear hAm2))
                    | (go_at_call 72; go_must (refine hCl.mono ?_; rintro e w7 ⟨rfl, hP7⟩; have HP7 := hid hP7; clear hP7))
                    | (go_at_call 73; go_must (first | (refine hAh.mono ?_; rintro e w2 ⟨v2, l2, rfl, hI2, hA2, hc2⟩; obtain ⟨a2, c2, hv2, hAm2⟩ := HAm.out l2 w2 v2 hI2 hA2; subst hv2; have HC2 := hid hc2; have hAx := HAx.out w2 hc2; clear hI2 hA2 hc2 hAh) | (refine hAx.mono ?_; rintro e w3 ⟨v3, l3, rfl, hI3, hA3, hc3⟩; obtain ⟨a3, c3, hv3, hCl⟩ := HAll.out l3 _ w3 v3 HC2.out hI3 hA3 hc3; subst hv3; have HC3 := hid hc3; clear hI3 hA3 hc3 hAx)))
                    | fail)
                  exact ⟨⟨i + 1, by go_num, by omega, hid ⟨by rw [HCd.out]; exact HCc.out.symm, by rw [HCd.out]; exact RPost.and HO.out HG.out (RPost.step (HC2.out.tr HC3.out) HP7.out)⟩⟩, by simp [intOf]; omega⟩
                · have z3 : (c != 0) = true := by simp [hc0]
                  have HPe : Hid (putC n z2 x s l = drainC n z2 x) := hid (by
                    rw [HPut.out, HHit.out, if_neg (by rw [← hc]; exact hc0)])
                  clear hc hc0
                  go_wp2_with (first
                    | (go_at_call 74; go_must (refine hP.mono ?_; rintro e w' ⟨rfl, hw⟩; have hw := hw.symm; subst hw))
                    | (go_at_call 101; go_must (refine hAm2.mono ?_; rintro e w' ⟨rfl, hw⟩; have hw := hw.symm; subst hw; clear hAm2))
                    | (go_at_call 72; go_must (refine hCl.mono ?_; rintro e w7 ⟨rfl, hP7⟩; have HP7 := hid hP7; clear hP7))
                    | (go_at_call 73; go_must (first | (refine hAh.mono ?_; rintro e w2 ⟨v2, l2, rfl, hI2, hA2, hc2⟩; obtain ⟨a2, c2, hv2, hAm2⟩ := HAm.out l2 w2 v2 hI2 hA2; subst hv2; have HC2 := hid hc2; have hAx := HAx.out w2 hc2; clear hI2 hA2 hc2 hAh) | (refine hAx.mono ?_; rintro e w3 ⟨v3, l3, rfl, hI3, hA3, hc3⟩; obtain ⟨a3, c3, hv3, hCl⟩ := HAll.out l3 _ w3 v3 HC2.out hI3 hA3 hc3; subst hv3; have HC3 := hid hc3; clear hI3 hA3 hc3 hAx)))
                    | fail)
                  go_ret
                  rw [HPe.out]
                  exact ⟨congrArg (fun c => Ending.returned (Value.int IntKind.i64 c)) HCc.out, RPost.step HC1.out (RPost.and HO.out HG.out (RPost.step (HC2.out.tr HC3.out) HP7.out))⟩
              · have HAm : Hid (∀ (l2 : List Int) (w2 : World) (v : Value), Ints w2 wr.heap.size v l2 → Ahead z2 y l2 → ∃ a2 c2, v = .slice a2 l2.length c2 ∧ Calls Tryz.prog 101 #[.slice a2 l2.length c2, .int .i64 x] w2 fun e w' => e = .returned (.bool false) ∧ w' = w2) := hid (fun l2 w2 v hI2 hA2 => by
                  obtain ⟨a2, c2, hv, hla2, _⟩ := hI2.lat
                  have := ramong_any l2 a2 c2 x w2 hla2 (by have := hA2.len; omega)
                  rw [decide_eq_false (fun e => hre ((hA2.is x).1 e))] at this
                  exact ⟨a2, c2, hv, this⟩)
                have HN := hid (HNext.out (fun e => hre e.2.2))
                clear hyx hd hpl hre hI
                go_wp2_with (first
                  | (go_at_call 74; go_must (refine hP.mono ?_; rintro e w' ⟨rfl, hw⟩; have hw := hw.symm; subst hw))
                  | (go_at_call 101; go_must (refine hAm2.mono ?_; rintro e w' ⟨rfl, hw⟩; have hw := hw.symm; subst hw; clear hAm2))
                  | (go_at_call 73; go_must (refine hAh.mono ?_; rintro e w2 ⟨v2, l2, rfl, hI2, hA2, hc2⟩; obtain ⟨a2, c2, hv2, hAm2⟩ := HAm.out l2 w2 v2 hI2 hA2; subst hv2; have HC2 := hid hc2; clear hI2 hA2 hc2 hAh))
                  | fail)
                exact ⟨⟨i + 1, by go_num, by omega, hid (HN.out _ HC2.out)⟩, by simp [intOf]; omega⟩
            · rw [out_secs hd] at hP
              have HN := hid (HNext.out (fun e => hd e.2.1) _ (Chg.refl wr No))
              clear hyx hd hI
              go_wp2_with (first
                | (go_at_call 74; go_must (refine hP.mono ?_; rintro e w' ⟨rfl, hw⟩; have hw := hw.symm; subst hw))
                | fail)
              exact ⟨⟨i + 1, by go_num, by omega, HN⟩, by simp [intOf]; omega⟩
        · have i1 : ¬ (i : Int) < (nl : Int) := by omega
          have HTl : Hid (l.take i = l) := hid (List.take_of_length_le (by rw [← HNl.out]; omega))
          rw [HTl.out] at HA
          obtain ⟨hz0, ρ', hI, ho, hg⟩ := HA.out
          rw [if_pos hz0] at HPut
          have HLay := hid (lay_of_clear HI1.out.inv x l HT.out HW.out hz0)
          obtain ⟨z2, hz2⟩ : ∃ q, q = (clearC n z x l).1 := ⟨_, rfl⟩
          rw [← hz2] at hI HPut HLay
          have HI := hid hI
          have HO := hid ho
          have HG := hid hg
          have HL2 := hid (HLa.out.keep hg HLn.out)
          have HB7 := hid (hg.keep HB6.out (fun e => by have := H0.out.lt e; omega))
          have hP := rplace_any x wr hI
          clear hz0 ho hg hz2 HA
          obtain ⟨pl, hpl⟩ : ∃ y, y = plL (secs z2.dirty) x 0 := ⟨_, rfl⟩
          have HPl : Hid (z2.dirty x ↔ 0 ≤ pl) := hid (by
            rw [hpl]
            constructor
            · intro hd
              obtain ⟨j, _, hj⟩ := flat_secs HI.out.inv hd
              rw [hj]; omega
            · intro h0
              refine Classical.byContradiction fun hd => ?_
              rw [out_secs hd] at h0
              omega)
          rw [← hpl] at hP
          have HZi := hid HI.out.inv
          have HLn2 : Hid (∀ i, i < l.length → ∀ g, a = some ⟨g, 0, none⟩ → ¬ OwnR ρ' g) := hid (fun i hi g hg ho => by
            rcases HO.out g ho with e | e
            · exact HLn.out g hg e
            · obtain ⟨g2, e2, h2, _⟩ := lat_at HLa.out hi
              rw [hg] at e2
              cases e2
              omega)
          clear hI hpl
          go_upto_if 79 with (first
            | (go_at_call 74; go_must (refine hP.mono ?_; rintro e w' ⟨rfl, hw⟩; have hw := hw.symm; subst hw))
            | fail)
          clear hP
          obtain ⟨wb, hwb⟩ : ∃ y, y = wr := ⟨_, rfl⟩
          subst hwb
          go_cut [13, 14, 15] (fun _ _ _ wc => ∃ z3 q3, Hid (RPost wb wc r rd n ρ' z3) ∧ Hid (z3.P x = some q3) ∧ Hid (z3.re x (s, q3.2) = layS z2 x s []))
          case first =>
            as_aux_lemma =>
            by_cases hd : z2.dirty x
            · have hlp : ¬ pl < 0 := by have := HPl.out.1 hd; omega
              obtain ⟨q3, hq3⟩ := Option.isSome_iff_exists.1 hd
              have HQ3 := hid hq3
              clear hq3 hd
              rw [decide_eq_false hlp]
              clear hlp
              go_wp2_with fail
              go_meet
              case rel => exact ⟨z2, q3, hid (RPost.same HI.out (Chg.refl _ No)), HQ3, hid (by rw [re_lay HQ3.out, layS_nil HZi.out])⟩
            · obtain ⟨rk, rc, X, v0, v1, lv, tv, W, hI0⟩ := HI.out
              have hn4 := secs_len z2.dirty
              obtain ⟨m, hm⟩ : ∃ y, y = (secs z2.dirty).length := ⟨_, rfl⟩
              obtain ⟨ai, cp, hpv⟩ := row_shK hI0.it
              have n2 : (m : Int) ≤ 4096 := by omega
              have HM := hid hm
              have HI0 := hid hI0
              have HPv := hid hpv
              have HD := hid hd
              have HK1 : Hid (∀ W', Chg wb W' No → W'.cell? ⟨r, 1, none⟩ = some (.slice ai m cp)) := hid (fun W' hW => by
                have := (hI0.call hW).c1
                rw [hpv, ← hm] at this
                exact this)
              have HIt : Hid (∀ W', Chg wb W' No → ∀ (i : Nat) y, (secs z2.dirty)[i]? = some y → ∃ g, ai = some ⟨g, 0, none⟩ ∧ W'.cell? ⟨g, i * 130, none⟩ = some (.int .i64 y) ∧ W'.rangeAt g (i * 130) (itC z2 tv y)) := hid (fun W' hW i y hi => by
                obtain ⟨g, cp9, e1, _, e2, e3⟩ := (hI0.call hW).item hi
                rw [hpv] at e1
                cases e1
                exact ⟨g, rfl, e2, item_range e3 (itC_len hI0.inv y)⟩)
              have q1 := HK1.out wb (Chg.refl wb No)
              clear hm hI0 hpv hn4
              have hlp : pl < 0 := (show pl < 0 ∨ 0 ≤ pl by omega).resolve_right (fun c => hd (HPl.out.2 c))
              clear hd
              rw [decide_eq_true hlp]
              clear hlp
              go_wp2_with fail
              go_loopw [13, 14, 15] (fun x13 x14 x15 wr => ∃ (v : Value) (i : Nat), v = x13 ∧ x14 = .bool (((secs z2.dirty).take i).any (x < ·)) ∧ x15 = .int .i64 (i : Int) ∧ i ≤ m ∧ Hid (wr.ownsRow wb.heap.size 109 130 v (insL x ((secs z2.dirty).take i)).length ((insL x ((secs z2.dirty).take i)).flatMap (itC (z2.ins x) (tvX tv x))) ∧ Chg wb wr No)) (fun _ _ x15 _ => m - (intOf x15).toNat)
              case atStart => exact ⟨_, 0, rfl, rfl, rfl, Nat.zero_le _, hid ⟨World.ownsRow_nil _ _ _ _, Chg.refl _ _⟩⟩
              case round =>
                obtain ⟨v, k, rfl, rfl, rfl, hk, HA⟩ := hrel
                have k0 : (0 : Int) ≤ (k : Int) := by omega
                have q1 := HK1.out wr HA.out.2
                by_cases hlk : k < m
                · have k1 : (k : Int) < (m : Int) := by omega
                  obtain ⟨y, he⟩ : ∃ e, (secs z2.dirty)[k]? = some e := ⟨_, List.getElem?_eq_getElem (by rw [← HM.out]; exact hlk)⟩
                  obtain ⟨gi, hgi, p1, _⟩ := HIt.out wr HA.out.2 k y he
                  subst hgi
                  have HIy : Hid (∀ W', Chg wb W' No → W'.cell? ⟨r, 1, none⟩ = some (.slice (some ⟨gi, 0, none⟩) m cp) ∧ W'.rangeAt gi (k * 130) (itC (z2.ins x) (tvX tv x) y)) := hid (fun W' hW => by
                    obtain ⟨g9, e9, _, h9⟩ := HIt.out W' hW k y he
                    cases e9
                    refine ⟨HK1.out W' hW, ?_⟩
                    rw [itC_ins (fun e => HD.out (by rw [← e]; exact (secs_mem.1 (List.mem_of_getElem? he)).2))]
                    exact h9)
                  have HTk := hid (take_one he)
                  have hyx : y ≠ x := fun e => HD.out (by rw [← e]; exact (secs_mem.1 (List.mem_of_getElem? he)).2)
                  have HIl : Hid ((itC (z2.ins x) (tvX tv x) y).length = 130) := hid (by rw [itC_ins hyx]; exact itC_len HI0.out.inv y)
                  have HI1' : Hid (∀ u ∈ itC (z2.ins x) (tvX tv x) y, u.oneCell' = true) := hid (by
                    rw [itC_ins hyx]
                    have hd2 : z2.dirty y := (secs_mem.1 (List.mem_of_getElem? he)).2
                    unfold CSt.dirty at hd2
                    obtain ⟨q, hq⟩ := Option.isSome_iff_exists.1 hd2
                    exact itC_one z2 tv y (ints_one (HI0.out.tg y q hq)))
                  have hup : ((secs z2.dirty).take k ++ [y]).Pairwise (· < ·) := by rw [← HTk.out]; exact (secs_up _).sublist (List.take_sublist _ _)
                  have HIn := hid (insL_snoc hup hyx)
                  have HAn : Hid (((secs z2.dirty).take (k + 1)).any (x < ·) = (((secs z2.dirty).take k).any (x < ·) || decide (x < y))) := hid (by rw [HTk.out, List.any_append]; simp)
                  have HUp := hid hup
                  have HLn : Hid ((insL x ((secs z2.dirty).take k)).length ≤ 9000) := hid (by
                    have := insL_len x ((secs z2.dirty).take k)
                    rw [List.length_take] at this
                    have := HM.out
                    omega)
                  have HCc : Hid (Chg wb wr No) := hid HA.out.2
                  clear he hup
                  generalize hT : (secs z2.dirty).take k = T at *
                  cases hb : T.any (x < ·) with
                  | true =>
                    have HNx : Hid (insL x ((secs z2.dirty).take (k + 1)) = insL x T ++ [y] ∧ ((secs z2.dirty).take (k + 1)).any (x < ·) = true) := hid ⟨by rw [HTk.out, HIn.out, if_neg (fun e => by rw [hb] at e; cases e.1)], by rw [HAn.out, hb]; rfl⟩
                    have HOw : Hid (∀ o, (wr.alloc o).ownsRow wb.heap.size 109 130 v (insL x T).length ((insL x T).flatMap (itC (z2.ins x) (tvX tv x)))) := hid (fun o => row_keep HA.out.1 (Chg.alloc wr o No) (fun _ _ e => e))
                    clear hyx hT hb p1
                    go_wp2_with (first
                      | (refine wp_loadIt rfl _ rfl gi (k * 130) (itC (z2.ins x) (tvX tv x) y) rfl (HIy.out _ HCc.out).2 HIl.out ?_)
                      | (refine wp_sliceIt rfl _ rfl (itC (z2.ins x) (tvX tv x) y).toArray (by rw [List.size_toArray]; exact HIl.out) rfl ?_)
                      | (at_builtin; go_must (refine wp_appIt rfl _ _ rfl wb.heap.size wr.heap.size 1 v _ _ (itC (z2.ins x) (tvX tv x) y) rfl rfl (HOw.out _) (heap_alloc_new _ _) HIl.out HI1'.out (by have := HLn.out; omega) (by have := HA.out.2.size; simp; omega) ?_; intro v5 w5 h51 h52 h53; have H51 := hid h51; have H52 := hid h52; clear h51 h52 h53))
                      | fail)
                    exact ⟨⟨v5, k + 1, rfl, by rw [HNx.out.2], by go_num, by omega, hid ⟨by rw [HNx.out.1, List.length_append, List.flatMap_append, List.flatMap_singleton]; exact H51.out, (HA.out.2.tr (Chg.alloc wr _ No)).trans H52.out (fun _ _ e => e) (fun j hj e => by have := (row_ge HA.out.1 e).1; omega)⟩⟩, by simp [intOf]; omega⟩
                  | false =>
                    by_cases hxy : x < y
                    · have HNx : Hid (insL x ((secs z2.dirty).take (k + 1)) = insL x T ++ [x] ++ [y] ∧ ((secs z2.dirty).take (k + 1)).any (x < ·) = true) := hid ⟨by rw [HTk.out, HIn.out, if_pos ⟨hb, hxy⟩], by rw [HAn.out, hb]; simp [hxy]⟩
                      have HOw : Hid (∀ o, (wr.alloc o).ownsRow wb.heap.size 109 130 v (insL x T).length ((insL x T).flatMap (itC (z2.ins x) (tvX tv x)))) := hid (fun o => row_keep HA.out.1 (Chg.alloc wr o No) (fun _ _ e => e))
                      clear hyx hT hb
                      go_wp2_with (first
                        | (refine wp_loadIt rfl _ rfl gi (k * 130) (itC (z2.ins x) (tvX tv x) y) rfl (HIy.out _ HC5.out).2 HIl.out ?_)
                        | (refine wp_buildIt rfl _ rfl x rfl ?_)
                        | (refine wp_sliceIt rfl _ rfl (itX x).toArray (by rw [List.size_toArray]; exact itX_len x) rfl ?_)
                        | (refine wp_sliceIt rfl _ rfl (itC (z2.ins x) (tvX tv x) y).toArray (by rw [List.size_toArray]; exact HIl.out) rfl ?_)
                        | (at_builtin; go_must (first
                          | (refine wp_appIt rfl _ _ rfl wb.heap.size wr.heap.size 1 v _ _ (itX x) rfl rfl (HOw.out _) (heap_alloc_new _ _) (itX_len x) (itX_one x) (by have := HLn.out; omega) (by have := HA.out.2.size; simp; omega) ?_; intro v5 w5 h51 h52 h53; obtain ⟨a5, c5, hv5⟩ := row_shK h51; have HO5 := hid h51; have HC5 : Hid (Chg wb w5 No) := hid ((HA.out.2.tr (Chg.alloc wr _ No)).trans h52 (fun _ _ e => e) (fun j hj e => by have := (row_ge HA.out.1 e).1; omega)); have q15 := (HIy.out w5 HC5.out).1; subst hv5; clear h51 h52 h53)
                          | (refine wp_appIt rfl _ _ rfl wb.heap.size w5.heap.size 1 _ _ _ (itC (z2.ins x) (tvX tv x) y) rfl rfl (row_keep HO5.out (Chg.alloc w5 _ No) (fun _ _ e => e)) (heap_alloc_new _ _) HIl.out HI1'.out (by have := HLn.out; omega) (by have := HC5.out.size; simp; omega) ?_; intro v7 w7 h71 h72 h73; have H71 := hid h71; have H72 := hid h72; clear h71 h72 h73)))
                        | fail)
                      exact ⟨⟨v7, k + 1, rfl, by rw [HNx.out.2], by go_num, by omega, hid ⟨by rw [HNx.out.1, List.length_append, List.length_append, List.flatMap_append, List.flatMap_append, List.flatMap_singleton, List.flatMap_singleton, itX_is]; exact H71.out, (HC5.out.tr (Chg.alloc w5 _ No)).trans H72.out (fun _ _ e => e) (fun j hj e => by have := (row_ge HO5.out e).1; omega)⟩⟩, by simp [intOf]; omega⟩
                    · have HNx : Hid (insL x ((secs z2.dirty).take (k + 1)) = insL x T ++ [y] ∧ ((secs z2.dirty).take (k + 1)).any (x < ·) = false) := hid ⟨by rw [HTk.out, HIn.out, if_neg (fun e => hxy e.2)], by rw [HAn.out, hb]; simp; omega⟩
                      have HOw : Hid (∀ o, (wr.alloc o).ownsRow wb.heap.size 109 130 v (insL x T).length ((insL x T).flatMap (itC (z2.ins x) (tvX tv x)))) := hid (fun o => row_keep HA.out.1 (Chg.alloc wr o No) (fun _ _ e => e))
                      clear hyx hT hb
                      go_wp2_with (first
                      | (refine wp_loadIt rfl _ rfl gi (k * 130) (itC (z2.ins x) (tvX tv x) y) rfl (HIy.out _ HCc.out).2 HIl.out ?_)
                      | (refine wp_sliceIt rfl _ rfl (itC (z2.ins x) (tvX tv x) y).toArray (by rw [List.size_toArray]; exact HIl.out) rfl ?_)
                        | (at_builtin; go_must (refine wp_appIt rfl _ _ rfl wb.heap.size wr.heap.size 1 v _ _ (itC (z2.ins x) (tvX tv x) y) rfl rfl (HOw.out _) (heap_alloc_new _ _) HIl.out HI1'.out (by have := HLn.out; omega) (by have := HA.out.2.size; simp; omega) ?_; intro v5 w5 h51 h52 h53; have H51 := hid h51; have H52 := hid h52; clear h51 h52 h53))
                        | fail)
                      exact ⟨⟨v5, k + 1, rfl, by rw [HNx.out.2], by go_num, by omega, hid ⟨by rw [HNx.out.1, List.length_append, List.flatMap_append, List.flatMap_singleton]; exact H51.out, (HA.out.2.tr (Chg.alloc wr _ No)).trans H52.out (fun _ _ e => e) (fun j hj e => by have := (row_ge HA.out.1 e).1; omega)⟩⟩, by simp [intOf]; omega⟩
                · have k1 : ¬ (k : Int) < (m : Int) := by omega
                  have HTm : Hid ((secs z2.dirty).take k = secs z2.dirty) := hid (List.take_of_length_le (by rw [← HM.out]; omega))
                  rw [HTm.out] at HA ⊢
                  have HDn := hid (insL_done HI0.out.inv HD.out (okN_iff.1 HX.out))
                  cases hb : (secs z2.dirty).any (x < ·) with
                  | true =>
                    rw [hb, if_pos rfl] at HDn
                    have HOw : Hid (wr.ownsRow wb.heap.size 109 130 v (secs (z2.ins x).dirty).length ((secs (z2.ins x).dirty).flatMap (itC (z2.ins x) (tvX tv x)))) := hid (by rw [← HDn.out]; exact HA.out.1)
                    obtain ⟨a5, c5, hv5⟩ := row_shK HOw.out
                    subst hv5
                    have hme := (HI0.out.call HA.out.2).me
                    have f1 := frozen_of_row (j := 1) _ _ _ _ hme
                    have HP8 := hid (HI0.out.insert (okN_iff.1 HX.out) HA.out.2 HOw.out)
                    clear hme hb
                    go_wp2_with fail
                    go_meet
                    case rel => exact ⟨z2.ins x, (D.Zs, []), HP8, hid (by unfold CSt.ins; simp), hid (by rw [ins_re (none_of HD.out), layS_nil HI0.out.inv])⟩
                  | false =>
                    rw [hb, if_neg (by decide)] at HDn
                    have HOw : Hid (∀ o, (wr.alloc o).ownsRow wb.heap.size 109 130 v (insL x (secs z2.dirty)).length ((insL x (secs z2.dirty)).flatMap (itC (z2.ins x) (tvX tv x)))) := hid (fun o => row_keep HA.out.1 (Chg.alloc wr o No) (fun _ _ e => e))
                    have HLn : Hid ((insL x (secs z2.dirty)).length ≤ 9000) := hid (by
                      have := insL_len x (secs z2.dirty)
                      have := secs_len z2.dirty
                      omega)
                    clear hb
                    generalize hM : insL x (secs z2.dirty) = M at *
                    generalize hN : secs (z2.ins x).dirty = N at *
                    have HM' := hid hM
                    have HN' := hid hN
                    clear hM hN
                    go_upto_region 30 with (first
                      | (refine wp_buildIt rfl _ rfl x rfl ?_)
                      | (refine wp_sliceIt rfl _ rfl (itX x).toArray (by rw [List.size_toArray]; exact itX_len x) rfl ?_)
                      | (at_builtin; go_must (refine wp_appIt rfl _ _ rfl wb.heap.size wr.heap.size 1 v _ _ (itX x) rfl rfl (HOw.out _) (heap_alloc_new _ _) (itX_len x) (itX_one x) (by have := HLn.out; omega) (by have := HA.out.2.size; simp; omega) ?_; intro v5 w5 h51 h52 h53; have H51 := hid h51; have H52 := hid h52; clear h51 h52 h53))
                      | fail)
                    have HC5 : Hid (Chg wb w5 No) := hid ((HA.out.2.tr (Chg.alloc wr _ No)).trans H52.out (fun _ _ e => e) (fun j hj e => by have := (row_ge HA.out.1 e).1; omega))
                    have HO5 : Hid (w5.ownsRow wb.heap.size 109 130 v5 N.length (N.flatMap (itC (z2.ins x) (tvX tv x)))) := hid (own_done HDn.out H51.out)
                    obtain ⟨a5, c5, hv5⟩ := row_shK HO5.out
                    subst hv5
                    have hme := (HI0.out.call HC5.out).me
                    have f1 := frozen_of_row (j := 1) _ _ _ _ hme
                    have q15 : w5.cell? ⟨r, 1, none⟩ = some v0 := (cell_of_row _ _ 1 _ _ _ hme).trans rfl
                    have HP8 := hid (HI0.out.insert (okN_iff.1 HX.out) HC5.out (by rw [HN'.out]; exact HO5.out))
                    clear hme
                    go_wp2_with fail
                    go_meet
                    case rel => exact ⟨z2.ins x, (D.Zs, []), HP8, hid (by unfold CSt.ins; simp), hid (by rw [ins_re (none_of HD.out), layS_nil HI0.out.inv])⟩
          case rest =>
            as_aux_lemma =>
            obtain ⟨z3, q3, HP3, HQ3, HRe⟩ := hcut
            obtain ⟨ρ3, hI3, ho3, hg3⟩ := HP3.out
            have hd3 : z3.dirty x := by unfold CSt.dirty; rw [HQ3.out]; rfl
            obtain ⟨j, hj, hpj⟩ := flat_secs hI3.inv hd3
            have hPl : ∀ W', Chg wc W' No → Calls Tryz.prog 74 #[.pointer (some ⟨r, 0, none⟩), .int .i64 x] W' fun e w' => e = .returned (.int .i64 ((j : Nat) : Int)) ∧ w' = W' := fun W' hW => by
              have := rplace_any x W' (hI3.call hW)
              rw [hpj] at this
              exact this
            have HPC := hid hPl
            obtain ⟨rk, rc, X, v0, v1, lv, tv, W, hI0⟩ := hI3
            obtain ⟨g, cp, hv, ⟨A0, hg0⟩, _, hcs⟩ := hI0.item hj
            have hgb : ρ3 g = some .it := hI0.ri g (by rw [hv]; rfl)
            have hbx : w.heap.size < wb.heap.size := by have := slt HB7.out; omega
            have HS7 : Hid (∀ W', Chg wc W' (· = g) → W'.heap[w.heap.size]? = some (.cells (D.SA s) 47 (0, 0))) := hid (fun W' hW => by
              refine hW.keep (hg3.keep HB7.out (fun e => ?_)) (fun e => ?_)
              · rcases HO.out _ e with e2 | e2
                · have := H0.out.lt e2; omega
                · have := HG.out.size
                  have := HC1.out.size
                  have h9 := slt HB6.out
                  omega
              · rcases ho3 _ ⟨_, e ▸ hgb⟩ with e1 | e1
                · rcases HO.out _ e1 with e2 | e2
                  · have := H0.out.lt e2; omega
                  · have h9 := slt HB6.out
                    omega
                · omega)
            have HK1 : Hid (∀ W', Chg wc W' (· = g) → W'.cell? ⟨r, 1, none⟩ = some (.slice (some ⟨g, 0, none⟩) (secs z3.dirty).length cp)) := hid (fun W' hW => by
              have := hW.keep hI0.me (fun e => by have h8 := hI0.rm; rw [show r = g from e, hgb] at h8; cases h8)
              rw [cell_of_row _ _ 1 _ _ _ this, hv]; rfl)
            obtain ⟨wD, hwD⟩ : ∃ q, q = wc.drew := ⟨_, rfl⟩
            have HCD : Hid (Chg wc wD No) := hid (by rw [hwD]; exact (Chg.refl wc No).drew)
            have HTh := hid ((hI0.call HCD.out).there hj hv)
            have HP9 := hid (RPost.step HCD.out ((hI0.call HCD.out).resec hj HQ3.out HS.out hv))
            have HO3 := hid ho3
            have HG3 := hid hg3
            have HI0 := hid hI0
            have HV := hid hv
            have hjl := (List.getElem?_eq_some_iff.1 hj).1
            have h4 := secs_len z3.dirty
            have hj0 : (0 : Int) ≤ (j : Int) := by omega
            have hj1 : (j : Int) < ((secs z3.dirty).length : Int) := by omega
            generalize hmm : (secs z3.dirty).length = m at *
            have HMM := hid hmm
            have hm4 : (m : Int) ≤ 4096 := by omega
            clear hI0 hv hgb hg0 hcs hd3 hpj hj ho3 hg3 hPl hbx hmm hjl h4
            go_upto_region 31 with fail
            refine wp_region_noPanic ?_
            refine wp_region_held_drew (S := fun W => Chg wc W (· = g)) (by as_aux_lemma => kernel_rfl) (Chg.refl wc _).drew (fun hHeld => ?_)
            rw [← hwD] at hHeld ⊢
            clear hwD
            refine takeVal 0 129 (.pointer (some ⟨r, 0, none⟩)) rfl (by as_aux_lemma => kernel_rfl) (by as_aux_lemma => kernel_rfl) (by as_aux_lemma => kernel_rfl) rfl (by rfl) (fun _ _ _ h => h) hHeld (fun _ hw' => rfl) ?_
            simp only [List.setIfInBounds_toArray, List.set_cons_zero, List.set_cons_succ]
            refine takeVal 1 130 (.pointer (some ⟨r, 0, none⟩)) rfl (by as_aux_lemma => kernel_rfl) (by as_aux_lemma => kernel_rfl) (by as_aux_lemma => kernel_rfl) rfl (by rfl) (fun _ _ _ h => h) hHeld (fun _ hw' => by go_simp) ?_
            simp only [List.setIfInBounds_toArray, List.set_cons_zero, List.set_cons_succ]
            refine takeVal 2 131 (.pointer (some ⟨r, 1, none⟩)) rfl (by as_aux_lemma => kernel_rfl) (by as_aux_lemma => kernel_rfl) (by as_aux_lemma => kernel_rfl) rfl (by rfl) (fun _ _ _ h => h) hHeld (fun _ hw' => by go_simp) ?_
            simp only [List.setIfInBounds_toArray, List.set_cons_zero, List.set_cons_succ]
            refine takeVal 3 132 (.slice (some ⟨g, 0, none⟩) m cp) rfl (by as_aux_lemma => kernel_rfl) (by as_aux_lemma => kernel_rfl) (by as_aux_lemma => kernel_rfl) rfl (by rfl) (fun _ _ _ h => h) hHeld (fun _ hw' => by have hc := HK1.out _ hw'; go_simp) ?_
            simp only [List.setIfInBounds_toArray, List.set_cons_zero, List.set_cons_succ]
            refine takeVal 4 133 (.pointer (some ⟨r, 0, none⟩)) rfl (by as_aux_lemma => kernel_rfl) (by as_aux_lemma => kernel_rfl) (by as_aux_lemma => kernel_rfl) rfl (by rfl) (fun _ _ _ h => h) hHeld (fun _ hw' => rfl) ?_
            simp only [List.setIfInBounds_toArray, List.set_cons_zero, List.set_cons_succ]
            refine takeVal 5 134 (.int .i64 x) rfl (by as_aux_lemma => kernel_rfl) (by as_aux_lemma => kernel_rfl) (by as_aux_lemma => kernel_rfl) rfl (by rfl) (fun _ _ _ h => h) hHeld (fun _ hw' => rfl) ?_
            simp only [List.setIfInBounds_toArray, List.set_cons_zero, List.set_cons_succ]
            refine D.takeSec 7 136 (.tmp 6) w.heap.size s HS.out rfl (by as_aux_lemma => kernel_rfl) (by as_aux_lemma => kernel_rfl) (by as_aux_lemma => kernel_rfl) rfl rfl rfl (by rfl) (fun _ _ _ h => h) hHeld (fun _ hw' => HS7.out _ hw') ?_
            simp only [List.setIfInBounds_toArray, List.set_cons_zero, List.set_cons_succ]
            refine step1 6 (by as_aux_lemma => kernel_rfl) ?_
            refine stCall 6 135 74 #[.pointer (some ⟨r, 0, none⟩), .int .i64 x] _ rfl rfl (by rfl) (by go_simp) (HPC.out _ HCD.out) ?_
            rintro e9 w' ⟨rfl, hw⟩
            have hw := hw.symm
            subst hw
            refine ⟨_, rfl, hHeld, ?_⟩
            simp only [List.setIfInBounds_toArray, List.set_cons_zero, List.set_cons_succ]
            refine takeVal 8 137 (.pointer (some ⟨g, j * 130, none⟩)) rfl (by as_aux_lemma => kernel_rfl) (by as_aux_lemma => kernel_rfl) (by as_aux_lemma => kernel_rfl) rfl (by rfl) (fun _ _ _ h => h) hHeld (fun _ hw' => by go_simp) ?_
            simp only [List.setIfInBounds_toArray, List.set_cons_zero, List.set_cons_succ]
            refine takeVal 9 138 (.pointer (some ⟨g, j * 130 + 1, none⟩)) rfl (by as_aux_lemma => kernel_rfl) (by as_aux_lemma => kernel_rfl) (by as_aux_lemma => kernel_rfl) rfl (by rfl) (fun _ _ _ h => h) hHeld (fun _ hw' => by go_simp) ?_
            simp only [List.setIfInBounds_toArray, List.set_cons_zero, List.set_cons_succ]
            refine step1 10 (by as_aux_lemma => kernel_rfl) ?_
            refine stStoreCs 10 rfl rfl (by rfl) _ _ rfl g (j * 130 + 1) rfl s rfl HS.out HTh.out ?_
            refine ⟨HCD.out.trans (Chg.setCells _ _ _) (fun _ _ e => e.elim) (fun _ _ e => e), ?_⟩
            refine wpAnyH_done (by as_aux_lemma => kernel_rfl) ?_ _
            refine NoPanic.normal ?_
            have HPa : Hid (RPost wb (wD.setCells g (j * 130 + 1) (s.map (Value.int .u8))) r rd n ρ' (layS z2 x s [])) := hid (by
              have h1 := HP9.out
              rw [HRe.out] at h1
              refine RPost.and HO3.out HG3.out ?_
              obtain ⟨ρ9, k1, k2, k3⟩ := h1
              exact ⟨ρ9, k1, k2, k3⟩)
            obtain ⟨wd, hwd⟩ : ∃ y, y = wD.setCells g (j * 130 + 1) (s.map (Value.int .u8)) := ⟨_, rfl⟩
            rw [← hwd] at HPa ⊢
            clear hwd hHeld HP9 HTh HPC HK1 HS7
            go_wp2_with fail
            go_loopw [16, 17, 18, 19, 20] (fun x16 _ _ _ _ wr => ∃ i : Nat, x16 = .int .i64 (i : Int) ∧ i ≤ nl ∧ Hid (RPost wb wr r rd n ρ' (layS z2 x s (l.take i)))) (fun x16 _ _ _ _ _ => nl - (intOf x16).toNat)
            case atStart => exact ⟨0, rfl, Nat.zero_le _, hid (by rw [List.take_zero]; exact HPa.out)⟩
            case round =>
              obtain ⟨i, rfl, hi, HA⟩ := hrel
              have i0 : (0 : Int) ≤ (i : Int) := by omega
              by_cases hlt : i < nl
              · have i1 : (i : Int) < (nl : Int) := by omega
                have hil : i < l.length := by rw [← HNl.out]; exact hlt
                obtain ⟨ρ4, hI, ho4, hg4⟩ := HA.out
                have HTk := hid (take_getD hil)
                have HYm : Hid (l.getD i 0 ∈ l) := hid (getD_mem hil)
                have HSub : Hid (∀ b, b ∈ l.take (i + 1) → b ∈ l) := hid (fun b hb => List.mem_of_mem_take hb)
                obtain ⟨g, hga, _, p1⟩ := lat_at (HL2.out.keep hg4 (HLn2.out i hil)) hil
                subst hga
                generalize l.getD i 0 = y at *
                obtain ⟨rk, rc, X, v0, v1, lv, tv, W, hI0⟩ := hI
                have hfw := hI0.few
                obtain ⟨m2, hm2⟩ : ∃ q, q = W.length := ⟨_, rfl⟩
                obtain ⟨a2, cp2, hpv2⟩ := row_shK hI0.wy
                rw [← hm2] at hpv2 hfw
                have n2 : (m2 : Int) ≤ 16777216 := by omega
                have HI0 := hid hI0
                have HM2 := hid hm2
                have HPv2 := hid hpv2
                have HG4 := hid hg4
                have HO4 := hid ho4
                have HEd : Hid (∀ W', Chg wr W' No → ∀ (k : Nat) e, W[k]? = some e → ∃ g, a2 = some ⟨g, 0, none⟩ ∧ W'.cell? ⟨g, k * 2, none⟩ = some (.int .i64 e.1) ∧ W'.cell? ⟨g, k * 2 + 1, none⟩ = some (.int .i64 e.2)) := hid (fun W' hW k e hk => by
                  obtain ⟨g, cp9, e1, _, e2, e3⟩ := (hI0.call hW).edge hk
                  rw [hpv2] at e1
                  cases e1
                  exact ⟨g, rfl, e2, e3⟩)
                have HK2 : Hid (∀ W', Chg wr W' No → W'.cell? ⟨r, 2, none⟩ = some (.slice a2 m2 cp2)) := hid (fun W' hW => by
                  have := (hI0.call hW).c2
                  rw [hpv2] at this
                  exact this)
                have HPL : Hid (∀ W', Chg wr W' No → Calls Tryz.prog 74 #[.pointer (some ⟨r, 0, none⟩), .int .i64 y] W' fun e w' => e = .returned (.int .i64 (plL (secs (layS z2 x s (l.take i)).dirty) y 0)) ∧ w' = W') := hid (fun W' hW => rplace_any y W' ⟨_, _, _, _, _, _, _, _, hI0.call hW⟩)
                have HZ4 := hid hI0.inv
                have HWe := hid hI0.we
                have HWd := hid hI0.wd
                have HSk : Hid (¬ (y ≠ x ∧ z2.dirty y) ∨ (y, x) ∈ W → ∀ w5, Chg wr w5 No → RPost wb w5 r rd n ρ' (layS z2 x s (l.take (i + 1)))) := hid (fun hn w5 hc => by
                  rw [HTk.out, layS_same HZi.out (hn.imp (fun e => e) (fun e => (hI0.we y x).1 e))]
                  exact RPost.and ho4 hg4 (RPost.same ⟨_, _, _, _, _, _, _, _, hI0⟩ hc))
                have HInv : Hid (CInv n (layS z2 x s (l.take (i + 1)))) := hid (layS_inv HZi.out (okN_iff.1 HX.out) HS.out HLay.out HSub.out)
                clear hI0 hm2 hpv2 hg4 ho4 hfw hil HA
                go_upto_region 37 with fail
                clear p1
                obtain ⟨ge, hge⟩ : ∃ q, q = wr.heap.size := ⟨_, rfl⟩
                obtain ⟨w5, hw5⟩ : ∃ q, q = wr.alloc (.cells #[.int .i64 y, .int .i64 x] 73) := ⟨_, rfl⟩
                have HC5 : Hid (Chg wr w5 No) := hid (by rw [hw5]; exact Chg.alloc _ _ _)
                have HE5 : Hid (w5.heap[ge]? = some (.cells #[.int .i64 y, .int .i64 x] 73 (0, 0))) := hid (by rw [hw5, hge]; exact heap_alloc_new _ _)
                have HGe : Hid (wr.heap.size = ge) := hid hge.symm
                rw [← hge, ← hw5]
                clear hge hw5
                have HW0 : Hid (wr = wr) := hid rfl
                obtain ⟨w4, hw4⟩ : ∃ q, q = wr := ⟨_, rfl⟩
                subst hw4
                go_wp2_with fail
                go_loopw [19, 20] (fun x19 x20 wr => ∃ k : Nat, x19 = .bool (decide ((y, x) ∈ W.take k)) ∧ x20 = .int .i64 (k : Int) ∧ k ≤ m2 ∧ Hid (Chg w5 wr No)) (fun _ x20 _ => m2 - (intOf x20).toNat)
                case atStart => exact ⟨0, by simp, rfl, Nat.zero_le _, hid (Chg.refl _ _)⟩
                case round =>
                  as_aux_lemma =>
                  obtain ⟨k, rfl, rfl, hk, HB⟩ := hrel
                  have k0 : (0 : Int) ≤ (k : Int) := by omega
                  have HCw : Hid (Chg w4 wr No) := hid (HC5.out.tr HB.out)
                  have q2 := HK2.out wr HCw.out
                  by_cases hlk : k < m2
                  · have k1 : (k : Int) < (m2 : Int) := by omega
                    obtain ⟨e, he⟩ : ∃ e, W[k]? = some e := ⟨_, List.getElem?_eq_getElem (by rw [← HM2.out]; exact hlk)⟩
                    obtain ⟨g2, hga2, _⟩ := HEd.out wr HCw.out k e he
                    subst hga2
                    have HTj : Hid (W.take (k + 1) = W.take k ++ [e]) := hid (by rw [List.take_add_one, he]; rfl)
                    have HR1 : Hid (∀ W', Chg wr W' No → W'.rangeAt g2 (k * 2) [.int .i64 e.1, .int .i64 e.2]) := hid (fun W' hW => by
                      obtain ⟨g9, e9, h9, h10⟩ := HEd.out W' (HCw.out.tr hW) k e he
                      cases e9
                      exact edge_rangeK h9 h10)
                    have HR2 : Hid (∀ W', Chg wr W' No → W'.rangeAt ge 0 [.int .i64 y, .int .i64 x]) := hid (fun W' hW => by
                      have := (HB.out.tr hW).keep HE5.out (fun e => e)
                      exact edge_rangeK (x := (y, x)) (by rw [cell_of_row _ _ _ _ _ _ this]; rfl) (by rw [cell_of_row _ _ _ _ _ _ this]; rfl))
                    have HK2r : Hid (∀ W', Chg wr W' No → W'.cell? ⟨r, 2, none⟩ = some (.slice (some ⟨g2, 0, none⟩) m2 cp2)) := hid (fun W' hW => HK2.out W' (HCw.out.tr hW))
                    clear he
                    have heq := eqK
                    have hgd := guardK
                    cases hb : decide ((y, x) ∈ W.take k) with
                    | true =>
                      have HNx : Hid (decide ((y, x) ∈ W.take (k + 1)) = true) := hid (by
                        have := of_decide_eq_true hb
                        exact decide_eq_true (by rw [HTj.out]; exact List.mem_append_left _ this))
                      clear hb
                      go_upto_region 41 with fail
                      go_quiet (fail)
                      go_wp2_with fail
                      exact ⟨⟨k + 1, by rw [HNx.out], by go_num, by omega, hid (HB.out.tr (chg_drewN _ _))⟩, by simp [intOf]; omega⟩
                    | false =>
                      go_upto_region 41 with fail
                      clear q2
                      obtain ⟨bq, hbq⟩ : ∃ b, b = (e.1 == y && e.2 == x) := ⟨_, rfl⟩
                      have HNx : Hid (decide ((y, x) ∈ W.take (k + 1)) = bq) := hid (by
                        have h9 := of_decide_eq_false hb
                        rw [hbq, HTj.out]
                        by_cases c : e.1 = y ∧ e.2 = x
                        · have : e = (y, x) := Prod.ext c.1 c.2
                          rw [decide_eq_true (by rw [this]; simp), c.1, c.2]
                          simp
                        · rw [decide_eq_false (fun hm => by
                            rcases List.mem_append.1 hm with hm | hm
                            · exact h9 hm
                            · have := List.mem_singleton.1 hm
                              exact c ⟨by rw [← this], by rw [← this]⟩)]
                          by_cases c1 : e.1 = y
                          · have c2 : ¬ e.2 = x := fun c3 => c ⟨c1, c3⟩
                            simp [c1, c2]
                          · simp [c1])
                      clear hb
                      refine wp_region_noPanic ?_
                      refine wp_region_held_drew (S := fun W => Chg wr W No) (by as_aux_lemma => kernel_rfl) (Chg.refl wr No).drew (fun hHeld => ?_)
                      refine takeVal 0 161 (.bool false) rfl (by as_aux_lemma => kernel_rfl) (by as_aux_lemma => kernel_rfl) (by as_aux_lemma => kernel_rfl) rfl (by rfl) (fun _ _ _ h => h) hHeld (fun _ hw' => rfl) ?_
                      simp only [List.setIfInBounds_toArray, List.set_cons_zero, List.set_cons_succ]
                      refine takeVal 1 162 (.bool false) rfl (by as_aux_lemma => kernel_rfl) (by as_aux_lemma => kernel_rfl) (by as_aux_lemma => kernel_rfl) rfl (by rfl) (fun _ _ _ h => h) hHeld (fun _ hw' => by go_simp) ?_
                      simp only [List.setIfInBounds_toArray, List.set_cons_zero, List.set_cons_succ]
                      refine takeVal 2 163 (.pointer (some ⟨r, 0, none⟩)) rfl (by as_aux_lemma => kernel_rfl) (by as_aux_lemma => kernel_rfl) (by as_aux_lemma => kernel_rfl) rfl (by rfl) (fun _ _ _ h => h) hHeld (fun _ hw' => rfl) ?_
                      simp only [List.setIfInBounds_toArray, List.set_cons_zero, List.set_cons_succ]
                      refine takeVal 3 164 (.pointer (some ⟨r, 0, none⟩)) rfl (by as_aux_lemma => kernel_rfl) (by as_aux_lemma => kernel_rfl) (by as_aux_lemma => kernel_rfl) rfl (by rfl) (fun _ _ _ h => h) hHeld (fun _ hw' => by go_simp) ?_
                      simp only [List.setIfInBounds_toArray, List.set_cons_zero, List.set_cons_succ]
                      refine takeVal 4 165 (.pointer (some ⟨r, 2, none⟩)) rfl (by as_aux_lemma => kernel_rfl) (by as_aux_lemma => kernel_rfl) (by as_aux_lemma => kernel_rfl) rfl (by rfl) (fun _ _ _ h => h) hHeld (fun _ hw' => by go_simp) ?_
                      simp only [List.setIfInBounds_toArray, List.set_cons_zero, List.set_cons_succ]
                      refine takeVal 5 166 (.slice (some ⟨g2, 0, none⟩) m2 cp2) rfl (by as_aux_lemma => kernel_rfl) (by as_aux_lemma => kernel_rfl) (by as_aux_lemma => kernel_rfl) rfl (by rfl) (fun _ _ _ h => h) hHeld (fun _ hw' => by have hc := HK2r.out _ hw'; go_simp) ?_
                      simp only [List.setIfInBounds_toArray, List.set_cons_zero, List.set_cons_succ]
                      refine takeVal 6 167 (.int .i64 (k : Int)) rfl (by as_aux_lemma => kernel_rfl) (by as_aux_lemma => kernel_rfl) (by as_aux_lemma => kernel_rfl) rfl (by rfl) (fun _ _ _ h => h) hHeld (fun _ hw' => rfl) ?_
                      simp only [List.setIfInBounds_toArray, List.set_cons_zero, List.set_cons_succ]
                      refine takeVal 7 168 (.pointer (some ⟨g2, k * 2, none⟩)) rfl (by as_aux_lemma => kernel_rfl) (by as_aux_lemma => kernel_rfl) (by as_aux_lemma => kernel_rfl) rfl (by rfl) (fun _ _ _ h => h) hHeld (fun _ hw' => by go_simp) ?_
                      simp only [List.setIfInBounds_toArray, List.set_cons_zero, List.set_cons_succ]
                      refine takeEK 8 169 (.tmp 168) g2 (k * 2) e rfl (by as_aux_lemma => kernel_rfl) (by as_aux_lemma => kernel_rfl) (by as_aux_lemma => kernel_rfl) rfl rfl rfl (by rfl) (fun _ _ _ h => h) hHeld (fun _ hw' => HR1.out _ hw') ?_
                      simp only [List.setIfInBounds_toArray, List.set_cons_zero, List.set_cons_succ]
                      refine takeEK 9 170 (.tmp 18) ge 0 (y, x) rfl (by as_aux_lemma => kernel_rfl) (by as_aux_lemma => kernel_rfl) (by as_aux_lemma => kernel_rfl) rfl rfl rfl (by rfl) (fun _ _ _ h => h) hHeld (fun _ hw' => HR2.out _ hw') ?_
                      simp only [List.setIfInBounds_toArray, List.set_cons_zero, List.set_cons_succ]
                      refine takeVal 10 171 (.bool bq) rfl (by as_aux_lemma => kernel_rfl) (by as_aux_lemma => kernel_rfl) (by as_aux_lemma => kernel_rfl) rfl (by rfl) (fun _ _ _ h => h) hHeld (fun _ hw' => by rw [hbq]; go_simp) ?_
                      simp only [List.setIfInBounds_toArray, List.set_cons_zero, List.set_cons_succ]
                      refine takeVal 11 172 (.bool bq) rfl (by as_aux_lemma => kernel_rfl) (by as_aux_lemma => kernel_rfl) (by as_aux_lemma => kernel_rfl) rfl (by rfl) (fun _ _ _ h => h) hHeld (fun _ hw' => by go_simp) ?_
                      simp only [List.setIfInBounds_toArray, List.set_cons_zero, List.set_cons_succ]
                      refine step1 12 (by as_aux_lemma => kernel_rfl) ?_
                      refine stVal 12 19 (.bool bq) rfl rfl (by rfl) (by go_simp) hHeld ?_
                      simp only [List.setIfInBounds_toArray, List.set_cons_zero, List.set_cons_succ]
                      refine wpAnyH_done (by as_aux_lemma => kernel_rfl) ?_ _
                      refine NoPanic.normal ?_
                      clear hHeld hbq
                      go_wp2_with fail
                      exact ⟨⟨k + 1, by rw [HNx.out], by go_num, by omega, hid (HB.out.tr (Chg.refl _ No).drew)⟩, by simp [intOf]; omega⟩
                  · have k1 : ¬ (k : Int) < (m2 : Int) := by omega
                    have HTm : Hid (W.take k = W) := hid (List.take_of_length_le (by rw [← HM2.out]; omega))
                    rw [HTm.out]
                    have hPl := HPL.out wr HCw.out
                    have HE6 := hid (HB.out.keep HE5.out (fun e => e))
                    by_cases hyx : y = x
                    · have z1 : (y != x) = false := by simp [hyx]
                      have HN := hid (HSk.out (.inl (fun e => e.1 hyx)) wr HCw.out)
                      clear hyx hPl
                      generalize decide ((y, x) ∈ W) = kb
                      go_wp2_with fail
                      exact ⟨⟨i + 1, by go_num, by omega, HN⟩, by simp [intOf]; omega⟩
                    · have z1 : (y != x) = true := by simp [hyx]
                      by_cases hd : z2.dirty y
                      · have hd4 : (layS z2 x s (l.take i)).dirty y := (layS_dirty hyx).2 hd
                        obtain ⟨j, _, hpl⟩ := flat_secs HZ4.out hd4
                        rw [hpl] at hPl
                        have j0 : (0 : Int) ≤ (j : Int) := by omega
                        by_cases hkn : (y, x) ∈ W
                        · have HN := hid (HSk.out (.inr hkn) wr HCw.out)
                          have zk : decide ((y, x) ∈ W) = true := decide_eq_true hkn
                          clear hyx hd hd4 hpl hkn
                          rw [zk]
                          clear zk
                          go_wp2_with (first
                            | (go_at_call 74; go_must (refine hPl.mono ?_; rintro e w' ⟨rfl, hw⟩; have hw := hw.symm; subst hw))
                            | fail)
                          exact ⟨⟨i + 1, by go_num, by omega, HN⟩, by simp [intOf]; omega⟩
                        · have zk : decide ((y, x) ∈ W) = false := decide_eq_false hkn
                          have HMo : Hid (∀ wx u1, Chg wr wx (fun k => v1.ownBlock = some k) → Edgs wx 0 u1 (W ++ [(y, x)]) → (u1.ownBlock = v1.ownBlock ∨ ∀ k, u1.ownBlock = some k → wr.heap.size ≤ k) → RPost wb (wx.setCell ⟨r, 2, none⟩ u1) r rd n ρ' (layS z2 x s (l.take (i + 1)))) := hid (fun wx u1 h1 h2 h3 => by
                            have hi2 := HInv.out
                            rw [HTk.out, layS_more HZi.out ⟨hyx, hd⟩] at hi2 ⊢
                            have h4 := (HI0.out.call HCw.out).edged hkn hi2 h1 h2 h3
                            exact RPost.and HO4.out HG4.out (RPost.step HCw.out h4))
                          have HRv : Hid (¬ v1.ownBlock = some r) := hid (fun e => by
                            have := HI0.out.rw_ r e
                            rw [HI0.out.rm] at this
                            cases this)
                          have HRe' : Hid (r ≠ ge) := hid (fun e => by
                            have := HI0.out.lt _ _ HI0.out.rm
                            have := HGe.out
                            omega)
                          have HVe : Hid (¬ v1.ownBlock = some ge) := hid (fun e => by
                            have := HI0.out.lt _ _ (HI0.out.rw_ ge e)
                            have := HGe.out
                            omega)
                          have HEw : Hid (Edgs wr 0 v1 W) := hid (HI0.out.call HCw.out).wy
                          have HMe := hid (HI0.out.call HCw.out).me
                          clear hyx hd hd4 hpl hkn
                          rw [zk]
                          clear zk
                          go_upto_region 43 with (first
                            | (go_at_call 74; go_must (refine hPl.mono ?_; rintro e w' ⟨rfl, hw⟩; have hw := hw.symm; subst hw))
                            | fail)
                          clear hPl q2
                          refine wp_region_noPanic ?_
                          refine wp_region_held_drew (S := fun W => W.heap[ge]? = some (.cells #[.int .i64 y, .int .i64 x] 73 (0, 0))) (by as_aux_lemma => kernel_rfl) HE6.out (fun hHeld => ?_)
                          obtain ⟨wF, hwF⟩ : ∃ q, q = wr.drew := ⟨_, rfl⟩
                          have HCF : Hid (Chg wr wF No) := hid (by rw [hwF]; exact (Chg.refl wr No).drew)
                          have HEF : Hid (wF.heap[ge]? = some (.cells #[.int .i64 y, .int .i64 x] 73 (0, 0))) := hid (HCF.out.keep HE6.out (fun e => e))
                          have HMF := hid (HCF.out.keep HMe.out (fun e => e))
                          rw [← hwF] at hHeld ⊢
                          clear hwF
                          refine takeVal 0 186 (.pointer (some ⟨r, 0, none⟩)) rfl (by as_aux_lemma => kernel_rfl) (by as_aux_lemma => kernel_rfl) (by as_aux_lemma => kernel_rfl) rfl (by rfl) (fun _ _ _ h => h) hHeld (fun _ hw' => rfl) ?_
                          simp only [List.setIfInBounds_toArray, List.set_cons_zero, List.set_cons_succ]
                          refine takeVal 1 187 (.pointer (some ⟨r, 0, none⟩)) rfl (by as_aux_lemma => kernel_rfl) (by as_aux_lemma => kernel_rfl) (by as_aux_lemma => kernel_rfl) rfl (by rfl) (fun _ _ _ h => h) hHeld (fun _ hw' => rfl) ?_
                          simp only [List.setIfInBounds_toArray, List.set_cons_zero, List.set_cons_succ]
                          refine takeVal 2 188 (.pointer (some ⟨r, 0, none⟩)) rfl (by as_aux_lemma => kernel_rfl) (by as_aux_lemma => kernel_rfl) (by as_aux_lemma => kernel_rfl) rfl (by rfl) (fun _ _ _ h => h) hHeld (fun _ hw' => by go_simp) ?_
                          simp only [List.setIfInBounds_toArray, List.set_cons_zero, List.set_cons_succ]
                          refine takeVal 3 189 (.pointer (some ⟨r, 2, none⟩)) rfl (by as_aux_lemma => kernel_rfl) (by as_aux_lemma => kernel_rfl) (by as_aux_lemma => kernel_rfl) rfl (by rfl) (fun _ _ _ h => h) hHeld (fun _ hw' => by go_simp) ?_
                          simp only [List.setIfInBounds_toArray, List.set_cons_zero, List.set_cons_succ]
                          refine takeEK 5 191 (.tmp 18) ge 0 (y, x) rfl (by as_aux_lemma => kernel_rfl) (by as_aux_lemma => kernel_rfl) (by as_aux_lemma => kernel_rfl) rfl rfl rfl (by rfl) (fun _ _ _ h => h) hHeld (fun _ hw' => edge_rangeK (x := (y, x)) (by rw [cell_of_row _ _ _ _ _ _ hw']; rfl) (by rw [cell_of_row _ _ _ _ _ _ hw']; rfl)) ?_
                          simp only [List.setIfInBounds_toArray, List.set_cons_zero, List.set_cons_succ]
                          refine step2 4 6 (by as_aux_lemma => kernel_rfl) ?_ ?_
                          ·
                            refine stVal 4 190 v1 rfl rfl (by rfl) (by have hc := (show wF.cell? ⟨r, 2, none⟩ = some v1 from (cell_of_row _ _ 2 _ _ _ HMF.out).trans rfl); have hv := HPv2.out; rw [hv] at hc ⊢; go_simp) hHeld ?_
                            simp only [List.setIfInBounds_toArray, List.set_cons_zero, List.set_cons_succ]
                            refine step1 6 (by as_aux_lemma => kernel_rfl) ?_
                            refine stNew 6 192 (.slice (some ⟨wF.heap.size, 0, none⟩) 1 1) (.cells #[.int .i64 y, .int .i64 x] 73) rfl rfl (by rfl) (by go_simp) ⟨(Chg.alloc wF _ No).keep HEF.out (fun e => e), ?_⟩
                            have hHeld : (wF.alloc (.cells #[.int .i64 y, .int .i64 x] 73)).heap[ge]? = some (.cells #[.int .i64 y, .int .i64 x] 73 (0, 0)) := (Chg.alloc wF _ No).keep HEF.out (fun e => e)
                            simp only [List.setIfInBounds_toArray, List.set_cons_zero, List.set_cons_succ]
                            refine step1 7 (by as_aux_lemma => kernel_rfl) ?_
                            refine stAppE 7 193 rfl rfl (by rfl) _ _ rfl 0 wF.heap.size 1 v1 W (y, x) rfl rfl (row_keep HEw.out (HCF.out.tr (Chg.alloc wF (.cells #[.int .i64 y, .int .i64 x] 73) No)) (fun _ _ e => e)) ((cell_of_row _ _ _ _ _ _ (heap_alloc_new _ _)).trans rfl) ((cell_of_row _ _ _ _ _ _ (heap_alloc_new _ _)).trans rfl) (by have := HM2.out; omega) (Nat.zero_le _) ?_
                            intro v6 w6 h61 h62 h63
                            refine ⟨h62.keep hHeld HVe.out, ?_⟩
                            have hme6 := h62.keep ((Chg.alloc wF (.cells #[.int .i64 y, .int .i64 x] 73) No).keep HMF.out (fun e => e)) HRv.out
                            have hHeld := h62.keep hHeld HVe.out
                            simp only [List.setIfInBounds_toArray, List.set_cons_zero, List.set_cons_succ]
                            have f6 := frozen_of_row (j := 2) _ _ _ _ hme6
                            have q6 : w6.cell? ⟨r, 2, none⟩ = some v1 := (cell_of_row _ _ 2 _ _ _ hme6).trans rfl
                            obtain ⟨va, vc, hv6⟩ := row_shK h61
                            refine takeVal 8 194 (.pointer (some ⟨r, 0, none⟩)) rfl (by as_aux_lemma => kernel_rfl) (by as_aux_lemma => kernel_rfl) (by as_aux_lemma => kernel_rfl) rfl (by rfl) (fun _ _ _ h => h) hHeld (fun _ hw' => by go_simp) ?_
                            simp only [List.setIfInBounds_toArray, List.set_cons_zero, List.set_cons_succ]
                            refine takeVal 9 195 (.pointer (some ⟨r, 2, none⟩)) rfl (by as_aux_lemma => kernel_rfl) (by as_aux_lemma => kernel_rfl) (by as_aux_lemma => kernel_rfl) rfl (by rfl) (fun _ _ _ h => h) hHeld (fun _ hw' => by go_simp) ?_
                            simp only [List.setIfInBounds_toArray, List.set_cons_zero, List.set_cons_succ]
                            refine step1 10 (by as_aux_lemma => kernel_rfl) ?_
                            refine stCell 10 (w6.setCell ⟨r, 2, none⟩ v6) rfl rfl (by rfl) (by rw [hv6]; clear hv6; go_simp) ?_
                            refine ⟨(heap_setCell_other w6 ⟨r, 2, none⟩ ge _ (fun e => HRe'.out e.symm)).trans hHeld, ?_⟩
                            refine wpAnyH_done (by as_aux_lemma => kernel_rfl) ?_ _
                            refine NoPanic.normal ?_
                            have hPO := HMo.out w6 v6 ((HCF.out.tr (Chg.alloc _ _ No)).trans h62 (fun _ _ e => e.elim) (fun _ _ e => e)) h61 (h63.imp (fun e => e) (fun e k hk => by rw [e, World.size_alloc] at hk; have := Option.some.inj hk; have := HCF.out.size; omega))
                            have HPO := hid hPO
                            clear hHeld hme6 hv6 f6 q6 h61 h62 h63 hPO
                            go_wp2_with fail
                            go_roundw
                            case measure => simp [intOf]; omega
                            case rel => exact ⟨i + 1, by go_num, by omega, HPO⟩
                          ·
                            refine stNew 6 192 (.slice (some ⟨wF.heap.size, 0, none⟩) 1 1) (.cells #[.int .i64 y, .int .i64 x] 73) rfl rfl (by rfl) (by go_simp) ⟨(Chg.alloc wF _ No).keep HEF.out (fun e => e), ?_⟩
                            have hHeld : (wF.alloc (.cells #[.int .i64 y, .int .i64 x] 73)).heap[ge]? = some (.cells #[.int .i64 y, .int .i64 x] 73 (0, 0)) := (Chg.alloc wF _ No).keep HEF.out (fun e => e)
                            simp only [List.setIfInBounds_toArray, List.set_cons_zero, List.set_cons_succ]
                            refine step1 4 (by as_aux_lemma => kernel_rfl) ?_
                            refine stVal 4 190 v1 rfl rfl (by rfl) (by have hc := (show (wF.alloc (.cells #[.int .i64 y, .int .i64 x] 73)).cell? ⟨r, 2, none⟩ = some v1 from (cell_of_row _ _ 2 _ _ _ ((Chg.alloc wF (.cells #[.int .i64 y, .int .i64 x] 73) No).keep HMF.out (fun e => e))).trans rfl); have hv := HPv2.out; rw [hv] at hc ⊢; go_simp) hHeld ?_
                            simp only [List.setIfInBounds_toArray, List.set_cons_zero, List.set_cons_succ]
                            refine step1 7 (by as_aux_lemma => kernel_rfl) ?_
                            refine stAppE 7 193 rfl rfl (by rfl) _ _ rfl 0 wF.heap.size 1 v1 W (y, x) rfl rfl (row_keep HEw.out (HCF.out.tr (Chg.alloc wF (.cells #[.int .i64 y, .int .i64 x] 73) No)) (fun _ _ e => e)) ((cell_of_row _ _ _ _ _ _ (heap_alloc_new _ _)).trans rfl) ((cell_of_row _ _ _ _ _ _ (heap_alloc_new _ _)).trans rfl) (by have := HM2.out; omega) (Nat.zero_le _) ?_
                            intro v6 w6 h61 h62 h63
                            refine ⟨h62.keep hHeld HVe.out, ?_⟩
                            have hme6 := h62.keep ((Chg.alloc wF (.cells #[.int .i64 y, .int .i64 x] 73) No).keep HMF.out (fun e => e)) HRv.out
                            have hHeld := h62.keep hHeld HVe.out
                            simp only [List.setIfInBounds_toArray, List.set_cons_zero, List.set_cons_succ]
                            have f6 := frozen_of_row (j := 2) _ _ _ _ hme6
                            have q6 : w6.cell? ⟨r, 2, none⟩ = some v1 := (cell_of_row _ _ 2 _ _ _ hme6).trans rfl
                            obtain ⟨va, vc, hv6⟩ := row_shK h61
                            refine takeVal 8 194 (.pointer (some ⟨r, 0, none⟩)) rfl (by as_aux_lemma => kernel_rfl) (by as_aux_lemma => kernel_rfl) (by as_aux_lemma => kernel_rfl) rfl (by rfl) (fun _ _ _ h => h) hHeld (fun _ hw' => by go_simp) ?_
                            simp only [List.setIfInBounds_toArray, List.set_cons_zero, List.set_cons_succ]
                            refine takeVal 9 195 (.pointer (some ⟨r, 2, none⟩)) rfl (by as_aux_lemma => kernel_rfl) (by as_aux_lemma => kernel_rfl) (by as_aux_lemma => kernel_rfl) rfl (by rfl) (fun _ _ _ h => h) hHeld (fun _ hw' => by go_simp) ?_
                            simp only [List.setIfInBounds_toArray, List.set_cons_zero, List.set_cons_succ]
                            refine step1 10 (by as_aux_lemma => kernel_rfl) ?_
                            refine stCell 10 (w6.setCell ⟨r, 2, none⟩ v6) rfl rfl (by rfl) (by rw [hv6]; clear hv6; go_simp) ?_
                            refine ⟨(heap_setCell_other w6 ⟨r, 2, none⟩ ge _ (fun e => HRe'.out e.symm)).trans hHeld, ?_⟩
                            refine wpAnyH_done (by as_aux_lemma => kernel_rfl) ?_ _
                            refine NoPanic.normal ?_
                            have hPO := HMo.out w6 v6 ((HCF.out.tr (Chg.alloc _ _ No)).trans h62 (fun _ _ e => e.elim) (fun _ _ e => e)) h61 (h63.imp (fun e => e) (fun e k hk => by rw [e, World.size_alloc] at hk; have := Option.some.inj hk; have := HCF.out.size; omega))
                            have HPO := hid hPO
                            clear hHeld hme6 hv6 f6 q6 h61 h62 h63 hPO
                            go_wp2_with fail
                            go_roundw
                            case measure => simp [intOf]; omega
                            case rel => exact ⟨i + 1, by go_num, by omega, HPO⟩
                      · have hd4 : ¬ (layS z2 x s (l.take i)).dirty y := fun e => hd ((layS_dirty hyx).1 e)
                        rw [out_secs hd4] at hPl
                        have HN := hid (HSk.out (.inl (fun e => hd e.2)) wr HCw.out)
                        clear hyx hd hd4
                        generalize decide ((y, x) ∈ W) = kb
                        go_wp2_with (first
                          | (go_at_call 74; go_must (refine hPl.mono ?_; rintro e w' ⟨rfl, hw⟩; have hw := hw.symm; subst hw))
                          | fail)
                        exact ⟨⟨i + 1, by go_num, by omega, HN⟩, by simp [intOf]; omega⟩
              · have i1 : ¬ (i : Int) < (nl : Int) := by omega
                have HTl : Hid (l.take i = l) := hid (List.take_of_length_le (by rw [← HNl.out]; omega))
                go_wp2_with fail
                go_ret
                rw [HPut.out]
                have h9 := HA.out
                rw [HTl.out] at h9
                exact ⟨rfl, RPost.step HC1.out (RPost.and HO.out HG.out h9)⟩
end
end Go.Proofs.YtamoepninddbcaaGreat
