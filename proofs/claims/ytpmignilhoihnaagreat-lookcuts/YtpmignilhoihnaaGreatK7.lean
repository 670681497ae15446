/-
  A table is gone through.
-/
import Derived.Test.YtpmignilhoihnaaGreatK6
namespace Go.Proofs.YtpmignilhoihnaaGreat
open Go.RowKit Go.Shelf

theorem goK_len (F : KeepF) (t : List Int) (s : TS) : ∀ k, (goK F t s k).1.length = t.length
  | 0 => rfl
  | k + 1 => by simp [goK, goK_len F t s k]
theorem goK_le {F : KeepF} {D : Nat} (h : ∀ s i n, (F s i n).2.sp.length ≤ s.sp.length + D) (t : List Int) (s : TS) : ∀ k, (goK F t s k).2.sp.length ≤ s.sp.length + k * D
  | 0 => by simp [goK]
  | k + 1 => by
    have h1 := goK_le h t s k
    have h2 := h (goK F t s k).2 k (t.getD k 0)
    simp only [goK]
    rw [Nat.succ_mul]
    omega
theorem ptrs_bd {s : List Int} (hs : IsSec s) (k : Nat) : 0 ≤ (ptrsTo s 32).getD k 0 ∧ (ptrsTo s 32).getD k 0 ≤ 4294967295 := by
  unfold ptrsTo
  rw [List.getD_eq_getElem?_getD, List.getElem?_map]
  by_cases h : k < 32
  · rw [List.getElem?_range h]
    have := numAt_bd hs (4 * k) 4
    simp only [Option.map_some, Option.getD_some, if_pos h]
    omega
  · rw [List.getElem?_eq_none (by simpa using h)]
    simp
/-- A row's table in memory is one whose block is of pointers. -/
theorem guardP : Tryz.prog.eqGuardType Tryz.prog.depth 103 = false := by kernel_rfl
theorem undP : Tryz.prog.underlying 103 = some (.array 32 3) := by kernel_rfl
theorem Zp_len : Zp.length = 32 := by simp [Zp]
theorem build_ptr (w : World) : (Instr.build 103 #[]).run Tryz.prog w = .ok (.agg (NA Zp)) w := by kernel_rfl
section
variable {ops : Array Oper} {rest : List Oper} {o : Oper} {a : Act} {w : World} {Q : Exit → Act → World → Prop}
theorem load_wtL (hgd : o.guard = none) (x : Operand) (ho : o.op = .load 33 x) (g k : Nat) (hx : a.eval x = .pointer (some ⟨g, k * 128, none⟩)) (im : Img) (hw : WtAt w g im) (hk : k < im.length)
    (h : wpList Tryz.prog ops Q rest (a.put o.dst (.agg (SA (secI im (k : Int))))) w) : wpList Tryz.prog ops Q (o :: rest) a w :=
  wpList_plain hgd fun _ hK => by
    unfold Oper.wp execOp
    simp only [ho, hx, Instr.loadAt, Instr.sureAddr, Sem.run_bind, Sem.run_pure, Result.andThen_ok, load_wt hw hk]
    exact hK _ _ h
end
section
variable {ops : Array Oper} {Q : Exit → Act → World → Prop} {S : World → Prop} {fuel : Nat} {listed : Array Bool} {a : Act} {w : World}
/-- A sector is written into the row, where the order is left open. -/
theorem stStoreW (i : Nat) (x y : Operand) (g k : Nat) (c : List Int) (im : Img) {o : Oper} (hop : ops[i]? = some o) (hd : o.dst = none) (hw : Region.wanted o (yielded ops a.tmps) = true) (ho : o.op = .store 33 x y)
    (hx : a.eval x = .pointer (some ⟨g, k * 128, none⟩)) (hy : a.eval y = .agg (SA c)) (hc : IsSec c) (hW : WtAt w g im) (hk : k < im.length)
    (h : ∀ w', WtAt w' g (im.set k c) → Chg w w' (· = g) → w'.heap.size = w.heap.size → S w' ∧ wpAnyH Tryz.prog .any ops Q S fuel (listed.setIfInBounds i true) a w') : St ops Q S fuel listed a w i := by
  refine wpOp_step hop (fun K hK => ?_)
  rw [if_pos hw]
  have hr := hW.range hk
  have hl : (secI im (k : Int)).length = 128 := (hW.sec _).1
  obtain ⟨_, A, hA, _⟩ := id hW
  refine wp_store_mid 33 x y ho g (k * 128) (SA c) hx hy (fun j hj => ?_) (by rw [sz26, SA_size, hc.1]) (SA_one c) ?_
  · rw [SA_size, hc.1] at hj
    rw [hr j (.int .u8 ((secI im (k : Int)).getD j 0)) (by simp [hl, hj])]
    exact ⟨rfl, frozen_of_row w g _ A 33 hA⟩
  · obtain ⟨h1, h2, h3⟩ := hW.set hk hc
    have := h _ h1 h2 h3
    unfold Act.put
    rw [hd]
    have e : (SA c).toList = c.map (Value.int .u8) := by simp [SA]
    rw [e]
    exact hK _ _ this
end
/-- While a table is gone through. -/
structure GT (w0 w : World) (c : LC) (sb : Nat) (X : World → Prop) (g : Nat) (r : List Int × TS) : Prop where
  t : TE w c sb r.2
  x : X w
  g : w.heap[g]? = some (.cells (NA r.1) 103 (0, 0))
  c : Chg w0 w (Kt c sb w0)
theorem TE.aside {w w' : World} {c : LC} {sb g : Nat} {s : TS} {A : Array Value} {t : TypeId} {f : Nat × Nat} (h : TE w c sb s) (hg : w.heap[g]? = some (.cells A t f)) (h0 : t ≠ 61) (h1 : t ≠ 33) (h2 : t ≠ 111) (h3 : t ≠ 116) (hB : c.B ≤ g) (hc : Chg w w' (· = g)) : TE w' c sb s := by
  obtain ⟨v, k1, k2⟩ := h.sp
  obtain ⟨es, ck, hm⟩ := h.k.cl.isMap
  obtain ⟨B, hb⟩ := h.k.wt.isRow
  have ne : ∀ {j : Nat} {x : Obj}, w.heap[j]? = some x → x ≠ .cells A t f → ¬ j = g := fun hj hn e => by
    subst e
    rw [hg] at hj
    exact hn (Option.some.inj hj).symm
  refine ⟨h.p.keep hc (ne h.p.me (by intro e; cases e; exact h0 rfl)) (fun k e => e ▸ hB), h.k.keep hc (ne hb (by intro e; cases e; exact h1 rfl)) (ne hm (by intro e; cases e)), h.bs, v, hc.keep k1 (ne k1 (by intro e; cases e; exact h2 rfl)), k2.1, ?_⟩
  rcases k2.2 with k | ⟨j, cap, cur, rfl, hb, hj, r⟩
  · exact .inl k
  · exact .inr ⟨j, cap, cur, rfl, hb, hc.keep hj (ne hj (by intro e; cases e; exact h3 rfl)), r⟩
/-- A sector of the image as it should be has turned. -/
theorem TE.wants {w w' : World} {c : LC} {sb : Nat} {s : TS} {wt : Img} (h : TE w c sb s) (hw : WtAt w' c.b.wb wt) (hl : wt.length = c.N) (hc : Chg w w' (· = c.b.wb)) : TE w' c sb ⟨wt, s.cl, s.sp⟩ := by
  obtain ⟨v, k1, k2⟩ := h.sp
  obtain ⟨es, ck, hm⟩ := h.k.cl.isMap
  obtain ⟨B, hb⟩ := h.k.wt.isRow
  refine ⟨h.p.keep hc (obj_ne h.p.me hb (by intro e; cases e)) (fun _ e => e ▸ h.p.b0), ⟨hw, hl, h.k.cl.keep hc (obj_ne hm hb (by intro e; cases e)), h.k.ck⟩, h.bs, v, hc.keep k1 (obj_ne k1 hb (by intro e; cases e)), k2.1, ?_⟩
  rcases k2.2 with k | ⟨j, cap, cur, rfl, hB, hj, r⟩
  · exact .inl k
  · exact .inr ⟨j, cap, cur, rfl, hB, hc.keep hj (obj_ne hj hb (by intro e; cases e)), r⟩
theorem kt_new {w w' : World} {g : Nat} {t : TypeId} {A : Array Value} (h : PutR w g A t w') : Chg w w' (· = g) := ⟨h.os, h.tape, h.output, Nat.le_of_eq h.size.symm, fun k _ hk => h.other k hk⟩

set_option maxRecDepth 100000 in
set_option maxHeartbeats 2000000 in
theorem goThrough_any {c : LC} {sb : Nat} {X : World → Prop} {fn : Nat} {caps : Array Value} {D : Nat} {F : KeepF} (h : Keeper c sb X fn caps 31 D F) (s : TS) (k : Nat) (w : World) (ht : TE w c sb s) (hx : X w) (hk1 : c.M < k) (hk2 : k < c.N) (hl : s.sp.length + 32 * D ≤ 1000000) :
    Calls Tryz.prog 81 #[LP c, .int .i64 (k : Int), .func (.func fn) #[] caps] w fun e w' => e = .returned (.bool (goF F (k : Int) s).1) ∧ TE w' c sb (goF F (k : Int) s).2 ∧ Chg w w' (Kt c sb w) := by
  have c3 := ht.p.c3
  have i0 : (0 : Int) ≤ (k : Int) := by omega
  have HkI : Hid (I64 (k : Int)) := hid (by have := ht.p.n2; constructor <;> omega)
  have i1 : (k : Int) < (c.N : Int) := by omega
  have hsec := ht.k.wt.sec (k : Int)
  have hRP := readPointers_any (secI s.wt (k : Int)) hsec w
  have hwk : k < s.wt.length := by rw [ht.k.wl]; exact hk2
  have HT := hid ht
  have HX := hid hx
  have HG : Hid (goF F (k : Int) s = if (goK F (ptrsTo (secI s.wt (k : Int)) 32) s 32).1 = Zp then (false, ⟨(goK F (ptrsTo (secI s.wt (k : Int)) 32) s 32).2.wt, delC (goK F (ptrsTo (secI s.wt (k : Int)) 32) s 32).2.cl (k : Int), (goK F (ptrsTo (secI s.wt (k : Int)) 32) s 32).2.sp⟩) else (true, ⟨(goK F (ptrsTo (secI s.wt (k : Int)) 32) s 32).2.wt.set k (ptrS (goK F (ptrsTo (secI s.wt (k : Int)) 32) s 32).1), (goK F (ptrsTo (secI s.wt (k : Int)) 32) s 32).2.cl, (goK F (ptrsTo (secI s.wt (k : Int)) 32) s 32).2.sp⟩)) := hid rfl
  have hbd := ptrs_bd hsec
  have ht0 := ptrsTo_len (secI s.wt (k : Int)) 32
  generalize htt : ptrsTo (secI s.wt (k : Int)) 32 = t0 at *
  have HW := hid ht.k.wt
  have hzp := zero_ptr
  have HT0 := hid ht0
  have HBD := hid hbd
  clear hx ht htt ht0 hbd hsec
  unfold LP
  go_enter Tryz.func81, Tryz.ntmps81
  go_upto_region 2 with (first
    | (refine load_wtL rfl _ rfl c.b.wb k rfl s.wt HW.out hwk ?_)
    | (go_at_call 116; go_must (refine hRP.mono ?_; rintro e w1 ⟨rfl, hb1⟩))
    | (refine store_R rfl 103 _ _ rfl w1.heap.size (NA t0) rfl rfl 103 _ (heap_alloc_new _ _) (by rw [szP, NA_size, HT0.out]) (by rw [NA_size, NA_size, Zp_len, HT0.out]) (NA_one _) ?_; intro w2 hw2)
    | fail)
  dsimp only [Act.put]
  have hcw : Chg w w2 No := ((Chg.of_below hb1 No).trans (Chg.alloc w1 (.cells (NA Zp) 103) No) (c := No) (fun _ _ e => e) (fun _ _ e => e)).trans (kt_new hw2) (fun _ _ e => e) (fun j hj e => by have := hb1.size; omega)
  have G0 : Hid (GT w w2 c sb X w1.heap.size (goK F t0 s 0)) := hid ⟨HT.out.call hcw, h.st _ _ HX.out (stays_no hcw), hw2.here, kt_no hcw⟩
  have HP2 := hid hw2.here
  have HgB : Hid (w.heap.size ≤ w1.heap.size ∧ c.B ≤ w1.heap.size) := hid ⟨hb1.size, by have := HT.out.p.b0; have := HT.out.k.wt.lt; have := hb1.size; omega⟩
  generalize w1.heap.size = g at *
  clear hcw hw2 hb1 hRP c3 HW hwk
  go_wp2_with (first
    | (refine load_R rfl 103 _ rfl g rfl 103 (NA t0) _ HP2.out undP rfl (by rw [szP, NA_size, HT0.out]) ?_)
    | fail)
  clear HP2 hzp
  go_loopw [19] (fun i wr => ∃ j : Nat, j ≤ 32 ∧ i = .int .i64 j ∧ Hid (GT w wr c sb X g (goK F t0 s j))) (fun i _ => 32 - (intOf i).toNat)
  case atStart => exact ⟨0, by omega, rfl, G0⟩
  case round =>
    clear G0
    obtain ⟨j, hj, rfl, HGj⟩ := hrel
    have hlen : (goK F t0 s j).1.length = 32 := by rw [goK_len]; exact HT0.out
    have hle := goK_le h.le t0 s j
    have HS : Hid (goK F t0 s (j + 1) = ((goK F t0 s j).1.set j (leftF (F (goK F t0 s j).2 j (t0.getD j 0)).1 (t0.getD j 0)), (F (goK F t0 s j).2 j (t0.getD j 0)).2)) := hid rfl
    by_cases hj32 : j < 32
    · have a0 : (0 : Int) ≤ (j : Int) := by omega
      have a1 : (j : Int) < 32 := by omega
      have hix := index_ptr t0 j HT0.out hj32
      have hLe : (goK F t0 s j).2.sp.length + D ≤ 1000000 := by
        have : (j + 1) * D ≤ 32 * D := Nat.mul_le_mul_right D (by omega)
        rw [Nat.succ_mul] at this
        omega
      obtain ⟨n0, n1⟩ := HBD.out j
      have hLF := left_any h (goK F t0 s j).2 j (t0.getD j 0) wr HGj.out.t HGj.out.x (by omega) (by omega) n0 n1 hLe
      generalize goK F t0 s j = r at *
      generalize t0.getD j 0 = x at *
      generalize F r.2 j x = q at *
      have HLen := hid hlen
      clear hlen hle hLe n0 n1
      go_upto_region 6 with (first
        | (go_at_call 83; go_must (refine hLF.mono ?_; rintro e w4 ⟨rfl, hT4, hc4⟩; have hg4 := HGj.out.t.stay HGj.out.g (by decide) (by decide) (by decide) hc4; have hc := row_cell hg4 j (by rw [HLen.out]; exact hj32); have hf := row_free hg4 j; have HG4 := hid hg4; have HT4 := hid hT4; clear hg4))
        | fail)
      have hp5 := row_setCell HG4.out j (leftF q.1 x)
      have hc5 : Chg w4 (w4.setCell ⟨g, j, none⟩ (.int .i64 (leftF q.1 x))) (· = g) := Chg.setCell
      have hn5 := HgB.out
      have GN : Hid (GT w (w4.setCell ⟨g, j, none⟩ (.int .i64 (leftF q.1 x))) c sb X g (goK F t0 s (j + 1))) := hid (by
        rw [HS.out]
        exact ⟨HT4.out.aside HG4.out (by decide) (by decide) (by decide) (by decide) hn5.2 hc5, h.st _ _ (h.st _ _ HGj.out.x (HGj.out.t.stays hc4)) (stays_at HG4.out (by decide) hc5), hp5.here, (kt_trans HGj.out.c hc4).trans hc5 (fun _ _ e => e) (fun _ hj e => by omega)⟩)
      generalize (w4.setCell ⟨g, j, none⟩ (.int .i64 (leftF q.1 x))) = w5 at *
      clear hc5 hp5 hn5 hc hf HG4 HT4 hT4 hc4 HGj HS hLF
      go_wp2_with fail
      exact ⟨⟨j + 1, by omega, by go_num, GN⟩, by simp [intOf]; omega⟩
    · have a1 : ¬ ((j : Int) < 32) := by omega
      obtain rfl : j = 32 := by omega
      generalize goK F t0 s 32 = r at *
      have HLen := hid hlen
      clear hlen hle HS
      have hbp := build_ptr
      have c3 := HGj.out.t.p.c3
      have c4 := HGj.out.t.p.c4
      by_cases hz : r.1 = Zp
      · have HGz : Hid (goF F (k : Int) s = (false, ⟨r.2.wt, delC r.2.cl (k : Int), r.2.sp⟩)) := hid (by rw [HG.out, if_pos hz])
        have hq : ∀ W, (Op.equalIn 10000 103 (.agg (NA r.1)) (.agg (NA Zp))).run Tryz.prog W = .ok true W := fun W => by
          have := eq_arr 103 32 undP 9998 r.1 Zp HLen.out Zp_len W
          rw [decide_eq_true hz] at this
          exact this
        have HQ := hid hq
        have HCl := hid HGj.out.t.k.cl
        clear hz hq
        go_upto_if 32 with (first
          | (refine load_R rfl 103 _ rfl g rfl 103 (NA r.1) _ HGj.out.g undP rfl (by rw [szP, NA_size, HLen.out]) ?_)
          | (refine eql_R (by rfl) 103 _ _ rfl (NA r.1) (NA Zp) true rfl rfl HQ.out guardP ?_)
          | fail)
        simp only [Act.put, List.setIfInBounds_toArray, List.set_cons_zero, List.set_cons_succ]
        clear hbp
        go_wp2_with (first
          | (at_delete; go_must (refine wp_delS rfl _ _ rfl c.b.cb _ (k : Int) rfl rfl HCl.out HkI.out ?_; intro w5 hs5 hc5 hz5))
          | fail)
        go_ret
        rw [HGz.out]
        have hk := HGj.out.t.k
        have hp := HGj.out.t.p
        refine ⟨rfl, HGj.out.t.claims (hp.cl hk hc5) ⟨hk.wt.keep hc5 (hp.ne_cb hk).2, hk.wl, hs5.cong fun x => ?_, fun x hx => ?_⟩ hc5, kt_trans HGj.out.c (claims_kt HGj.out.t hc5)⟩
        · simp [delC]
          exact ⟨fun e => ⟨e.2, e.1⟩, fun e => ⟨e.2, e.1⟩⟩
        · exact hk.ck x (by simp [delC] at hx; exact hx.2)
      · have HGz : Hid (goF F (k : Int) s = (true, ⟨r.2.wt.set k (ptrS r.1), r.2.cl, r.2.sp⟩)) := hid (by rw [HG.out, if_neg hz])
        have hq : ∀ W, (Op.equalIn 10000 103 (.agg (NA r.1)) (.agg (NA Zp))).run Tryz.prog W = .ok false W := fun W => by
          have := eq_arr 103 32 undP 9998 r.1 Zp HLen.out Zp_len W
          rw [decide_eq_false hz] at this
          exact this
        have HQ := hid hq
        have HPS := hid (fun W => pointersSector_any r.1 HLen.out W)
        have HSE := hid (ptrS_sec r.1)
        have HPW : Hid (c.b.p ≠ c.b.wb) := hid (by
          obtain ⟨A, hA⟩ := HGj.out.t.k.wt.isRow
          exact obj_ne HGj.out.t.p.me hA (by intro e; cases e))
        have HGW : Hid (g ≠ c.b.wb) := hid (by
          obtain ⟨A, hA⟩ := HGj.out.t.k.wt.isRow
          exact obj_ne HGj.out.g hA (by intro e; cases e))
        clear hz hq
        go_upto_if 32 with (first
          | (refine load_R rfl 103 _ rfl g rfl 103 (NA r.1) _ HGj.out.g undP rfl (by rw [szP, NA_size, HLen.out]) ?_)
          | (refine eql_R (by rfl) 103 _ _ rfl (NA r.1) (NA Zp) false rfl rfl HQ.out guardP ?_)
          | fail)
        simp only [Act.put, List.setIfInBounds_toArray, List.set_cons_zero, List.set_cons_succ]
        clear hbp
        go_upto_region 10 with fail
        refine wp_region_noPanic ?_
        refine wp_region_held_drew (S := fun w' => Chg wr w' (· = c.b.wb)) (by kernel_rfl) (Chg.refl _ _).drew (fun hHeld => ?_)
        have hP := fun (W : World) (hW : Chg wr W (· = c.b.wb)) => (HGj.out.t.p.keep hW HPW.out (fun _ e => e ▸ HGj.out.t.p.b0)).c3
        refine takeVal 0 39 (.pointer (some ⟨c.b.p, 0, none⟩)) rfl (by kernel_rfl) (by kernel_rfl) (by kernel_rfl) rfl (by rfl) (fun _ _ _ h => h) hHeld (fun W' hw' => rfl) ?_
        simp only [List.setIfInBounds_toArray, List.set_cons_zero, List.set_cons_succ]
        refine takeVal 1 40 (.pointer (some ⟨c.b.p, 0, none⟩)) rfl (by kernel_rfl) (by kernel_rfl) (by kernel_rfl) rfl (by rfl) (fun _ _ _ h => h) hHeld (fun W' hw' => by go_simp) ?_
        simp only [List.setIfInBounds_toArray, List.set_cons_zero, List.set_cons_succ]
        refine takeVal 2 41 (.pointer (some ⟨c.b.p, 3, none⟩)) rfl (by kernel_rfl) (by kernel_rfl) (by kernel_rfl) rfl (by rfl) (fun _ _ _ h => h) hHeld (fun W' hw' => by go_simp) ?_
        simp only [List.setIfInBounds_toArray, List.set_cons_zero, List.set_cons_succ]
        refine takeVal 3 42 (.slice (some ⟨c.b.wb, 0, none⟩) c.N c.wc) rfl (by kernel_rfl) (by kernel_rfl) (by kernel_rfl) rfl (by rfl) (fun _ _ _ h => h) hHeld (fun W' hw' => by have hc := hP W' hw'; go_simp) ?_
        simp only [List.setIfInBounds_toArray, List.set_cons_zero, List.set_cons_succ]
        refine takeVal 4 43 (.int .i64 (k : Int)) rfl (by kernel_rfl) (by kernel_rfl) (by kernel_rfl) rfl (by rfl) (fun _ _ _ h => h) hHeld (fun W' hw' => rfl) ?_
        simp only [List.setIfInBounds_toArray, List.set_cons_zero, List.set_cons_succ]
        refine takeR 5 44 103 (.tmp 7) g 103 (NA r.1) _ rfl (by kernel_rfl) (by kernel_rfl) (by kernel_rfl) rfl rfl rfl undP rfl (by rw [szP, NA_size, HLen.out]) (by rfl) (fun _ _ _ h => h) hHeld (fun W' hw' => hw'.keep HGj.out.g HGW.out) ?_
        simp only [List.setIfInBounds_toArray, List.set_cons_zero, List.set_cons_succ]
        refine step1 6 (by kernel_rfl) ?_
        refine stCall 6 45 117 #[.agg (NA r.1)] _ rfl rfl (by rfl) (by go_simp) (HPS.out _) ?_
        rintro e w5 ⟨rfl, hb5⟩
        have hc5n : Chg wr w5 No := ((Chg.refl wr No).drew).trans (Chg.of_below hb5 No) (fun _ _ e => e) (fun _ _ e => e)
        have hc5 : Chg wr w5 (· = c.b.wb) := hc5n.mono fun _ _ e => e.elim
        refine ⟨_, rfl, hc5, ?_⟩
        simp only [List.setIfInBounds_toArray, List.set_cons_zero, List.set_cons_succ]
        refine takeVal 7 38 (.tuple #[.agg (SA (ptrS r.1)), .int .i64 (ptrE r.1)]) rfl (by kernel_rfl) (by kernel_rfl) (by kernel_rfl) rfl (by rfl) (fun _ _ _ h => h) hc5 (fun W' hw' => rfl) ?_
        simp only [List.setIfInBounds_toArray, List.set_cons_zero, List.set_cons_succ]
        refine takeVal 8 46 (.agg (SA (ptrS r.1))) rfl (by kernel_rfl) (by kernel_rfl) (by kernel_rfl) rfl (by rfl) (fun _ _ _ h => h) hc5 (fun W' hw' => by go_simp) ?_
        simp only [List.setIfInBounds_toArray, List.set_cons_zero, List.set_cons_succ]
        refine takeVal 9 47 (.int .i64 (ptrE r.1)) rfl (by kernel_rfl) (by kernel_rfl) (by kernel_rfl) rfl (by rfl) (fun _ _ _ h => h) hc5 (fun W' hw' => by go_simp) ?_
        simp only [List.setIfInBounds_toArray, List.set_cons_zero, List.set_cons_succ]
        refine takeVal 10 48 (.pointer (some ⟨c.b.wb, k * 128, none⟩)) rfl (by kernel_rfl) (by kernel_rfl) (by kernel_rfl) rfl (by rfl) (fun _ _ _ h => h) hc5 (fun W' hw' => by go_simp) ?_
        simp only [List.setIfInBounds_toArray, List.set_cons_zero, List.set_cons_succ]
        refine step1 11 (by kernel_rfl) ?_
        refine stStoreW 11 (.tmp 48) (.tmp 46) c.b.wb k (ptrS r.1) r.2.wt rfl rfl (by rfl) rfl rfl rfl HSE.out (HGj.out.t.k.call hc5n).wt (by rw [HGj.out.t.k.wl]; exact hk2) ?_
        intro w6 hw6 hc6 hz6
        refine ⟨hc5.trans hc6 (fun _ _ e => e) (fun _ _ e => e), ?_⟩
        refine wpAnyH_done (by kernel_rfl) ?_ _
        refine NoPanic.normal ?_
        go_wp2_with fail
        go_ret
        rw [HGz.out]
        exact ⟨rfl, (HGj.out.t.call hc5n).wants hw6 (by rw [List.length_set]; exact HGj.out.t.k.wl) hc6, kt_trans HGj.out.c ((kt_no hc5n).trans hc6 (fun _ _ e => e) (fun _ _ e => ⟨e ▸ HGj.out.t.p.b0, .inl e⟩))⟩

end Go.Proofs.YtpmignilhoihnaaGreat
