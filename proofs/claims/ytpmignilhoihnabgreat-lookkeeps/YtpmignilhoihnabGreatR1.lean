/-
 The sectors of blocks that were found; a list of numbers of the call's own.
-/
import Derived.Test.YtpmignilhoihnabGreatK6
import Derived.Test.YtpmignilhoihnabGreatQ0
namespace Go.Proofs.YtpmignilhoihnabGreat
open Go.RowKit Go.Shelf

theorem goK_len (F : KeepF) (t : List Int) (s : TS) : ∀ k, (goK F t s k).1.length = t.length
 | 0 => rfl
 | k + 1 => by simp [goK, goK_len F t s k]
theorem goK_le {F : KeepF} {D : Nat} (h : ∀ s i n, (F s i n).2.sp.length ≤ s.sp.length + D) (t : List Int) (s : TS) : ∀ k, (goK F t s k).2.sp.length ≤ s.sp.length + k * D
 | 0 => by simp [goK]
 | k + 1 => by
  have h1 := goK_le h t s k;have h2 := h (goK F t s k).2 k (t.getD k 0)
  simp only [goK]
  rw [Nat.succ_mul]
  omega
theorem ptrs_bd {s : List Int} (hs : IsSec s) (k : Nat) : 0 ≤ (ptrsTo s 32).getD k 0 ∧ (ptrsTo s 32).getD k 0 ≤ 4294967295 := by
 unfold ptrsTo;rw [List.getD_eq_getElem?_getD, List.getElem?_map]
 by_cases h : k < 32
 ·rw [List.getElem?_range h]
  have := numAt_bd hs (4 * k) 4
  simp only [Option.map_some, Option.getD_some, if_pos h]
  omega
 ·rw [List.getElem?_eq_none (by simpa using h)]
  simp
theorem guardP : Tryz.prog.eqGuardType Tryz.prog.depth 78 = false := by kernel_rfl
theorem undP : Tryz.prog.underlying 78 = some (.array 32 3) := by kernel_rfl
theorem Zp_len : Zp.length = 32 := by simp [Zp]
theorem build_ptr (w : World) : (Instr.build 78 #[]).run Tryz.prog w = .ok (.agg (NA Zp)) w := by kernel_rfl
section
variable {ops : Array Oper} {rest : List Oper} {o : Oper} {a : Act} {w : World} {Q : Exit → Act → World → Prop}
theorem load_wtL (hgd : o.guard = none) (x : Operand) (ho : o.op = .load 36 x) (g k : Nat) (hx : a.eval x = .pointer (some ⟨g, k * 128, none⟩)) (im : Img) (hw : WtAt w g im) (hk : k < im.length)
  (h : wpList Tryz.prog ops Q rest (a.put o.dst (.agg (SA (secI im (k : Int))))) w) : wpList Tryz.prog ops Q (o :: rest) a w :=
 wpList_plain hgd fun _ hK => by
  unfold Oper.wp execOp
  simp only [ho, hx, Instr.loadAt, Instr.sureAddr, Sem.run_bind, Sem.run_pure, Result.andThen_ok, load_wt hw hk]
  exact hK _ _ h
end
section
variable {ops : Array Oper} {Q : Exit → Act → World → Prop} {S : World → Prop} {fuel : Nat} {listed : Array Bool} {a : Act} {w : World}
theorem stStoreW (i : Nat) (x y : Operand) (g k : Nat) (c : List Int) (im : Img) {o : Oper} (hop : ops[i]? = some o) (hd : o.dst = none) (hw : Region.wanted o (yielded ops a.tmps) = true) (ho : o.op = .store 36 x y)
  (hx : a.eval x = .pointer (some ⟨g, k * 128, none⟩)) (hy : a.eval y = .agg (SA c)) (hc : IsSec c) (hW : WtAt w g im) (hk : k < im.length)
  (h : ∀ w', WtAt w' g (im.set k c) → Chg w w' (· = g) → w'.heap.size = w.heap.size → S w' ∧ wpAnyH Tryz.prog .any ops Q S fuel (listed.setIfInBounds i true) a w') : St ops Q S fuel listed a w i := by
 refine wpOp_step hop (fun K hK => ?_);rw [if_pos hw];have hr := hW.range hk;have hl : (secI im (k : Int)).length = 128 := (hW.sec _).1;obtain ⟨_, A, hA, _⟩ := id hW;refine wp_store_mid 36 x y ho g (k * 128) (SA c) hx hy (fun j hj => ?_) (by rw [sz26, SA_size, hc.1]) (SA_one c) ?_
 ·rw [SA_size, hc.1] at hj
  rw [hr j (.int .u8 ((secI im (k : Int)).getD j 0)) (by simp [hl, hj])]
  exact ⟨rfl, frozen_of_row w g _ A 36 hA⟩
 ·obtain ⟨h1, h2, h3⟩ := hW.set hk hc
  have := h _ h1 h2 h3;unfold Act.put;rw [hd]
  have e : (SA c).toList = c.map (Value.int .u8) := by simp [SA]
  rw [e]
  exact hK _ _ this
end
structure GT (w0 w : World) (c : LC) (sb : Nat) (X : World → Prop) (g : Nat) (r : List Int × TS) : Prop where
 t : TE w c sb r.2
 x : X w
 g : w.heap[g]? = some (.cells (NA r.1) 78 (0, 0))
 c : Chg w0 w (Kt c sb w0)
theorem TE.aside {w w' : World} {c : LC} {sb g : Nat} {s : TS} {A : Array Value} {t : TypeId} {f : Nat × Nat} (h : TE w c sb s) (hg : w.heap[g]? = some (.cells A t f)) (h0 : t ≠ 63) (h1 : t ≠ 36) (h2 : t ≠ 113) (h3 : t ≠ 116) (hB : c.B ≤ g) (hc : Chg w w' (· = g)) : TE w' c sb s := by
 obtain ⟨v, k1, k2⟩ := h.sp;obtain ⟨es, ck, hm⟩ := h.k.cl.isMap;obtain ⟨B, hb⟩ := h.k.wt.isRow
 have ne : ∀ {j : Nat} {x : Obj}, w.heap[j]? = some x → x ≠ .cells A t f → ¬ j = g := fun hj hn e => by
  subst e;rw [hg] at hj
  exact hn (Option.some.inj hj).symm
 refine ⟨h.p.keep hc (ne h.p.me (by intro e; cases e; exact h0 rfl)) (fun k e => e ▸ hB), h.k.keep hc (ne hb (by intro e; cases e; exact h1 rfl)) (ne hm (by intro e; cases e)), h.bs, v, hc.keep k1 (ne k1 (by intro e; cases e; exact h2 rfl)), k2.1, ?_⟩
 rcases k2.2 with k | ⟨j, cap, cur, rfl, hb, hj, r⟩
 ·exact .inl k
 ·exact .inr ⟨j, cap, cur, rfl, hb, hc.keep hj (ne hj (by intro e; cases e; exact h3 rfl)), r⟩
theorem TE.wants {w w' : World} {c : LC} {sb : Nat} {s : TS} {wt : Img} (h : TE w c sb s) (hw : WtAt w' c.b.wb wt) (hl : wt.length = c.N) (hc : Chg w w' (· = c.b.wb)) : TE w' c sb ⟨wt, s.cl, s.sp⟩ := by
 obtain ⟨v, k1, k2⟩ := h.sp;obtain ⟨es, ck, hm⟩ := h.k.cl.isMap;obtain ⟨B, hb⟩ := h.k.wt.isRow
 refine ⟨h.p.keep hc (obj_ne h.p.me hb (by intro e; cases e)) (fun _ e => e ▸ h.p.b0), ⟨hw, hl, h.k.cl.keep hc (obj_ne hm hb (by intro e; cases e)), h.k.ck⟩, h.bs, v, hc.keep k1 (obj_ne k1 hb (by intro e; cases e)), k2.1, ?_⟩
 rcases k2.2 with k | ⟨j, cap, cur, rfl, hB, hj, r⟩
 ·exact .inl k
 ·exact .inr ⟨j, cap, cur, rfl, hB, hc.keep hj (obj_ne hj hb (by intro e; cases e)), r⟩
theorem kt_new {w w' : World} {g : Nat} {t : TypeId} {A : Array Value} (h : PutR w g A t w') : Chg w w' (· = g) := ⟨h.os, h.tape, h.output, Nat.le_of_eq h.size.symm, fun k _ hk => h.other k hk⟩

set_option maxRecDepth 100000 in
set_option maxHeartbeats 2000000 in
theorem goThrough_any {c : LC} {sb : Nat} {X : World → Prop} {fn : Nat} {caps : Array Value} {D : Nat} {F : KeepF} (h : Keeper c sb X fn caps 31 D F) (s : TS) (k : Nat) (w : World) (ht : TE w c sb s) (hx : X w) (hk1 : c.M < k) (hk2 : k < c.N) (hl : s.sp.length + 32 * D ≤ 1000000) :
  Calls Tryz.prog 62 #[LP c, .int .i64 (k : Int), .func (.func fn) #[] caps] w fun e w' => e = .returned (.bool (goF F (k : Int) s).1) ∧ TE w' c sb (goF F (k : Int) s).2 ∧ Chg w w' (Kt c sb w) := by
 have c3 := ht.p.c3
 have i0 : (0 : Int) ≤ (k : Int) := by omega
 have HkI : Hid (I64 (k : Int)) := hid (by have := ht.p.n2; constructor <;> omega)
 have i1 : (k : Int) < (c.N : Int) := by omega
 have hsec := ht.k.wt.sec (k : Int);have hRP := readPointers_any (secI s.wt (k : Int)) hsec w
 have hwk : k < s.wt.length := by rw [ht.k.wl]; exact hk2
 have HT := hid ht;have HX := hid hx;have HG : Hid (goF F (k : Int) s = if (goK F (ptrsTo (secI s.wt (k : Int)) 32) s 32).1 = Zp then (false, ⟨(goK F (ptrsTo (secI s.wt (k : Int)) 32) s 32).2.wt, delC (goK F (ptrsTo (secI s.wt (k : Int)) 32) s 32).2.cl (k : Int), (goK F (ptrsTo (secI s.wt (k : Int)) 32) s 32).2.sp⟩) else (true, ⟨(goK F (ptrsTo (secI s.wt (k : Int)) 32) s 32).2.wt.set k (ptrS (goK F (ptrsTo (secI s.wt (k : Int)) 32) s 32).1), (goK F (ptrsTo (secI s.wt (k : Int)) 32) s 32).2.cl, (goK F (ptrsTo (secI s.wt (k : Int)) 32) s 32).2.sp⟩)) := hid rfl;have hbd := ptrs_bd hsec;have ht0 := ptrsTo_len (secI s.wt (k : Int)) 32
 generalize htt : ptrsTo (secI s.wt (k : Int)) 32 = t0 at *
 have HW := hid ht.k.wt;have hzp := zero_ptr;have HT0 := hid ht0;have HBD := hid hbd;clear hx ht htt ht0 hbd hsec;unfold LP
 go_enter Tryz.func62, Tryz.ntmps62
 go_upto_region 2 with (first
  | (refine load_wtL rfl _ rfl c.b.wb k rfl s.wt HW.out hwk ?_)
  | (go_at_call 94; go_must (refine hRP.mono ?_; rintro e w1 ⟨rfl, hb1⟩))
  | (refine store_R rfl 78 _ _ rfl w1.heap.size (NA t0) rfl rfl 78 _ (heap_alloc_new _ _) (by rw [szP, NA_size, HT0.out]) (by rw [NA_size, NA_size, Zp_len, HT0.out]) (NA_one _) ?_; intro w2 hw2)
  | fail)
 dsimp only [Act.put]
 have hcw : Chg w w2 No := ((Chg.of_below hb1 No).trans (Chg.alloc w1 (.cells (NA Zp) 78) No) (c := No) (fun _ _ e => e) (fun _ _ e => e)).trans (kt_new hw2) (fun _ _ e => e) (fun j hj e => by have := hb1.size; omega);have G0 : Hid (GT w w2 c sb X w1.heap.size (goK F t0 s 0)) := hid ⟨HT.out.call hcw, h.st _ _ HX.out (stays_no hcw), hw2.here, kt_no hcw⟩;have HP2 := hid hw2.here;have HgB : Hid (w.heap.size ≤ w1.heap.size ∧ c.B ≤ w1.heap.size) := hid ⟨hb1.size, by have := HT.out.p.b0; have := HT.out.k.wt.lt; have := hb1.size; omega⟩
 generalize w1.heap.size = g at *
 clear hcw hw2 hb1 hRP c3 HW hwk
 go_wp2_with (first
  | (refine load_R rfl 78 _ rfl g rfl 78 (NA t0) _ HP2.out undP rfl (by rw [szP, NA_size, HT0.out]) ?_)
  | fail)
 clear HP2 hzp
 go_loopw [19] (fun i wr => ∃ j : Nat, j ≤ 32 ∧ i = .int .i64 j ∧ Hid (GT w wr c sb X g (goK F t0 s j))) (fun i _ => 32 - (intOf i).toNat)
 case atStart => exact ⟨0, by omega, rfl, G0⟩
 case round =>
  clear G0;obtain ⟨j, hj, rfl, HGj⟩ := hrel
  have hlen : (goK F t0 s j).1.length = 32 := by rw [goK_len]; exact HT0.out
  have hle := goK_le h.le t0 s j;have HS : Hid (goK F t0 s (j + 1) = ((goK F t0 s j).1.set j (leftF (F (goK F t0 s j).2 j (t0.getD j 0)).1 (t0.getD j 0)), (F (goK F t0 s j).2 j (t0.getD j 0)).2)) := hid rfl
  by_cases hj32 : j < 32
  ·have a0 : (0 : Int) ≤ (j : Int) := by omega
   have a1 : (j : Int) < 32 := by omega
   have hix := index_ptr t0 j HT0.out hj32
   have hLe : (goK F t0 s j).2.sp.length + D ≤ 1000000 := by
    have : (j + 1) * D ≤ 32 * D := Nat.mul_le_mul_right D (by omega);rw [Nat.succ_mul] at this
    omega
   obtain ⟨n0, n1⟩ := HBD.out j;have hLF := left_any h (goK F t0 s j).2 j (t0.getD j 0) wr HGj.out.t HGj.out.x (by omega) (by omega) n0 n1 hLe
   generalize goK F t0 s j = r at *
   generalize t0.getD j 0 = x at *
   generalize F r.2 j x = q at *
   have HLen := hid hlen;clear hlen hle hLe n0 n1
   go_upto_region 6 with (first
    | (go_at_call 64; go_must (refine hLF.mono ?_; rintro e w4 ⟨rfl, hT4, hc4⟩; have hg4 := HGj.out.t.stay HGj.out.g (by decide) (by decide) (by decide) hc4; have hc := row_cell hg4 j (by rw [HLen.out]; exact hj32); have hf := row_free hg4 j; have HG4 := hid hg4; have HT4 := hid hT4; clear hg4))
    | fail)
   have hp5 := row_setCell HG4.out j (leftF q.1 x);have hc5 : Chg w4 (w4.setCell ⟨g, j, none⟩ (.int .i64 (leftF q.1 x))) (· = g) := Chg.setCell;have hn5 := HgB.out
   have GN : Hid (GT w (w4.setCell ⟨g, j, none⟩ (.int .i64 (leftF q.1 x))) c sb X g (goK F t0 s (j + 1))) := hid (by
    rw [HS.out]
    exact ⟨HT4.out.aside HG4.out (by decide) (by decide) (by decide) (by decide) hn5.2 hc5, h.st _ _ (h.st _ _ HGj.out.x (HGj.out.t.stays hc4)) (stays_at HG4.out (by decide) hc5), hp5.here, (kt_trans HGj.out.c hc4).trans hc5 (fun _ _ e => e) (fun _ hj e => by omega)⟩)
   generalize (w4.setCell ⟨g, j, none⟩ (.int .i64 (leftF q.1 x))) = w5 at *
   clear hc5 hp5 hn5 hc hf HG4 HT4 hT4 hc4 HGj HS hLF
   go_wp2_with fail
   exact ⟨⟨j + 1, by omega, by go_num, GN⟩, by simp [intOf]; omega⟩
  ·have a1 : ¬ ((j : Int) < 32) := by omega
   obtain rfl : j = 32 := by omega
   generalize goK F t0 s 32 = r at *
   have HLen := hid hlen;clear hlen hle HS;have hbp := build_ptr;have c3 := HGj.out.t.p.c3;have c4 := HGj.out.t.p.c4
   by_cases hz : r.1 = Zp
   ·have HGz : Hid (goF F (k : Int) s = (false, ⟨r.2.wt, delC r.2.cl (k : Int), r.2.sp⟩)) := hid (by rw [HG.out, if_pos hz])
    have hq : ∀ W, (Op.equalIn 10000 78 (.agg (NA r.1)) (.agg (NA Zp))).run Tryz.prog W = .ok true W := fun W => by
     have := eq_arr 78 32 undP 9998 r.1 Zp HLen.out Zp_len W;rw [decide_eq_true hz] at this
     exact this
    have HQ := hid hq;have HCl := hid HGj.out.t.k.cl;clear hz hq
    go_upto_if 32 with (first
     | (refine load_R rfl 78 _ rfl g rfl 78 (NA r.1) _ HGj.out.g undP rfl (by rw [szP, NA_size, HLen.out]) ?_)
     | (refine eql_R (by rfl) 78 _ _ rfl (NA r.1) (NA Zp) true rfl rfl HQ.out guardP ?_)
     | fail)
    simp only [Act.put, List.setIfInBounds_toArray, List.set_cons_zero, List.set_cons_succ]
    clear hbp
    go_wp2_with (first
     | (at_delete; go_must (refine wp_delS rfl _ _ rfl c.b.cb _ (k : Int) rfl rfl HCl.out HkI.out ?_; intro w5 hs5 hc5 hz5))
     | fail)
    go_ret
    rw [HGz.out];have hk := HGj.out.t.k;have hp := HGj.out.t.p;refine ⟨rfl, HGj.out.t.claims (hp.cl hk hc5) ⟨hk.wt.keep hc5 (hp.ne_cb hk).2, hk.wl, hs5.cong fun x => ?_, fun x hx => ?_⟩ hc5, kt_trans HGj.out.c (claims_kt HGj.out.t hc5)⟩
    ·simp [delC]
     exact ⟨fun e => ⟨e.2, e.1⟩, fun e => ⟨e.2, e.1⟩⟩
    ·exact hk.ck x (by simp [delC] at hx; exact hx.2)
   ·have HGz : Hid (goF F (k : Int) s = (true, ⟨r.2.wt.set k (ptrS r.1), r.2.cl, r.2.sp⟩)) := hid (by rw [HG.out, if_neg hz])
    have hq : ∀ W, (Op.equalIn 10000 78 (.agg (NA r.1)) (.agg (NA Zp))).run Tryz.prog W = .ok false W := fun W => by
     have := eq_arr 78 32 undP 9998 r.1 Zp HLen.out Zp_len W;rw [decide_eq_false hz] at this
     exact this
    have HQ := hid hq;have HPS := hid (fun W => pointersSector_any r.1 HLen.out W);have HSE := hid (ptrS_sec r.1)
    have HPW : Hid (c.b.p ≠ c.b.wb) := hid (by
     obtain ⟨A, hA⟩ := HGj.out.t.k.wt.isRow
     exact obj_ne HGj.out.t.p.me hA (by intro e; cases e))
    have HGW : Hid (g ≠ c.b.wb) := hid (by
     obtain ⟨A, hA⟩ := HGj.out.t.k.wt.isRow
     exact obj_ne HGj.out.g hA (by intro e; cases e))
    clear hz hq
    go_upto_if 32 with (first
     | (refine load_R rfl 78 _ rfl g rfl 78 (NA r.1) _ HGj.out.g undP rfl (by rw [szP, NA_size, HLen.out]) ?_)
     | (refine eql_R (by rfl) 78 _ _ rfl (NA r.1) (NA Zp) false rfl rfl HQ.out guardP ?_)
     | fail)
    simp only [Act.put, List.setIfInBounds_toArray, List.set_cons_zero, List.set_cons_succ]
    clear hbp
    go_upto_region 10 with fail
    refine wp_region_noPanic ?_;refine wp_region_held_drew (S := fun w' => Chg wr w' (· = c.b.wb)) (by kernel_rfl) (Chg.refl _ _).drew (fun hH => ?_)
    have hP := fun (W : World) (hW : Chg wr W (· = c.b.wb)) => (HGj.out.t.p.keep hW HPW.out (fun _ e => e ▸ HGj.out.t.p.b0)).c3
    refine tV 0 39 (.pointer (some ⟨c.b.p, 0, none⟩)) rfl (by kernel_rfl) rfl (by rfl) hH (fun W' hw' => rfl) ?_;simp only [sS];refine tV 1 40 (.pointer (some ⟨c.b.p, 0, none⟩)) rfl (by kernel_rfl) rfl (by rfl) hH (fun W' hw' => by go_simp) ?_;simp only [sS];refine tV 2 41 (.pointer (some ⟨c.b.p, 3, none⟩)) rfl (by kernel_rfl) rfl (by rfl) hH (fun W' hw' => by go_simp) ?_;simp only [sS];refine tV 3 42 (.slice (some ⟨c.b.wb, 0, none⟩) c.N c.wc) rfl (by kernel_rfl) rfl (by rfl) hH (fun W' hw' => by have hc := hP W' hw'; go_simp) ?_;simp only [sS];refine tV 4 43 (.int .i64 (k : Int)) rfl (by kernel_rfl) rfl (by rfl) hH (fun W' hw' => rfl) ?_;simp only [sS];refine takeR 5 44 78 (.tmp 7) g 78 (NA r.1) _ rfl (by kernel_rfl) (by kernel_rfl) (by kernel_rfl) rfl rfl rfl undP rfl (by rw [szP, NA_size, HLen.out]) (by rfl) (fun _ _ _ h => h) hH (fun W' hw' => hw'.keep HGj.out.g HGW.out) ?_;simp only [sS];refine step1 6 (by kernel_rfl) ?_;refine stCall 6 45 95 #[.agg (NA r.1)] _ rfl rfl (by rfl) (by go_simp) (HPS.out _) ?_
    rintro e w5 ⟨rfl, hb5⟩
    have hc5n : Chg wr w5 No := ((Chg.refl wr No).drew).trans (Chg.of_below hb5 No) (fun _ _ e => e) (fun _ _ e => e)
    have hc5 : Chg wr w5 (· = c.b.wb) := hc5n.mono fun _ _ e => e.elim
    refine ⟨_, rfl, hc5, ?_⟩;simp only [sS];refine tV 7 38 (.tuple #[.agg (SA (ptrS r.1)), .int .i64 (ptrE r.1)]) rfl (by kernel_rfl) rfl (by rfl) hc5 (fun W' hw' => rfl) ?_;simp only [sS];refine tV 8 46 (.agg (SA (ptrS r.1))) rfl (by kernel_rfl) rfl (by rfl) hc5 (fun W' hw' => by go_simp) ?_;simp only [sS];refine tV 9 47 (.int .i64 (ptrE r.1)) rfl (by kernel_rfl) rfl (by rfl) hc5 (fun W' hw' => by go_simp) ?_;simp only [sS];refine tV 10 48 (.pointer (some ⟨c.b.wb, k * 128, none⟩)) rfl (by kernel_rfl) rfl (by rfl) hc5 (fun W' hw' => by go_simp) ?_;simp only [sS];refine step1 11 (by kernel_rfl) ?_;refine stStoreW 11 (.tmp 48) (.tmp 46) c.b.wb k (ptrS r.1) r.2.wt rfl rfl (by rfl) rfl rfl rfl HSE.out (HGj.out.t.k.call hc5n).wt (by rw [HGj.out.t.k.wl]; exact hk2) ?_
    intro w6 hw6 hc6 hz6
    refine ⟨hc5.trans hc6 (fun _ _ e => e) (fun _ _ e => e), ?_⟩;refine wpAnyH_done (by kernel_rfl) ?_ _;refine NoPanic.normal ?_
    go_wp2_with fail
    go_ret
    rw [HGz.out]
    exact ⟨rfl, (HGj.out.t.call hc5n).wants hw6 (by rw [List.length_set]; exact HGj.out.t.k.wl) hc6, kt_trans HGj.out.c ((kt_no hc5n).trans hc6 (fun _ _ e => e) (fun _ _ e => ⟨e ▸ HGj.out.t.p.b0, .inl e⟩))⟩

end Go.Proofs.YtpmignilhoihnabGreat

namespace Go.Proofs.YtpmignilhoihnabGreat
open Go.RowKit Go.Shelf

abbrev PV (g : Nat) : Value := .pointer (some ⟨g, 0, none⟩)
set_option maxRecDepth 100000 in
set_option maxHeartbeats 1000000 in
theorem table_make (each : Int) (fn : Nat) (caps : Array Value) (kb lb : Nat) (w : World) :
  Calls Tryz.prog 60 #[.int .i64 each, .func (.func fn) #[] caps, PV kb, PV lb] w fun e w' => ∃ ge gk, e = .returned (.func (.func 61) #[] #[PV kb, PV lb, PV gk, PV ge]) ∧ Box w' ge (.int .i64 each) 3 ∧ Box w' gk (.func (.func fn) #[] caps) 118 ∧ Chg w w' No := by
 have h1 : Box ((w.alloc (.cells #[.int .i64 each] 3)).alloc (.cells #[.func (.func fn) #[] caps] 118)) w.heap.size (.int .i64 each) 3 := (Chg.alloc _ _ No).keep (heap_alloc_new w _) (fun e => e)
 have h2 : Box ((w.alloc (.cells #[.int .i64 each] 3)).alloc (.cells #[.func (.func fn) #[] caps] 118)) (w.heap.size + 1) (.func (.func fn) #[] caps) 118 := by
  have := heap_alloc_new (w.alloc (.cells #[.int .i64 each] 3)) (.cells #[.func (.func fn) #[] caps] 118)
  simp only [World.size_alloc] at this
  exact this
 have HC := hid ((Chg.alloc w (.cells #[.int .i64 each] 3) No).trans (Chg.alloc _ (.cells #[.func (.func fn) #[] caps] 118) No) (c := No) (fun _ _ e => e) (fun _ _ e => e));have H1 := hid h1;have H2 := hid h2;clear h1 h2
 go_enter Tryz.func60, Tryz.ntmps60
 go_wp2_with fail
 go_ret
 exact ⟨w.heap.size, w.heap.size + 1, rfl, H1.out, H2.out, HC.out⟩

def XT (c : LC) (X : World → Prop) (kb lb gk ge : Nat) (fn : Nat) (caps : Array Value) (cnt each : Int) (w : World) : Prop :=
 XB c kb lb cnt w ∧ Box w gk (.func (.func fn) #[] caps) 118 ∧ Box w ge (.int .i64 each) 3 ∧ X w
theorem goF_le {F : KeepF} {D : Nat} (h : ∀ s i n, (F s i n).2.sp.length ≤ s.sp.length + D) (at_ : Int) (s : TS) : (goF F at_ s).2.sp.length ≤ s.sp.length + 32 * D := by
 have := goK_le h (ptrsTo (secI s.wt at_) 32) s 32;unfold goF
 simp only
 split <;> exact this
theorem tableF_le {F : KeepF} {D : Nat} (N M cnt each : Int) (h : ∀ s i n, (F s i n).2.sp.length ≤ s.sp.length + D) (s : TS) (i n : Int) : (tableF N M cnt each F s i n).2.sp.length ≤ s.sp.length + 32 * D := by
 unfold tableF
 split
 ·exact goF_le (F := innerF each i F) (fun s i n => h s _ n) n _
 ·exact Nat.le_add_right _ _

set_option maxRecDepth 100000 in
set_option maxHeartbeats 2000000 in
theorem table_any {c : LC} {sb : Nat} {X : World → Prop} {fn : Nat} {caps : Array Value} {U : Int} {D : Nat} {F : KeepF} {kb lb gk ge : Nat} {cnt each : Int} (h : Keeper c sb X fn caps U D F) (he : each = 1 ∨ each = 32) (hU2 : U ≤ 1000000)
  (s : TS) (f n : Int) (w : World) (ht : TE w c sb s) (hx : XT c X kb lb gk ge fn caps cnt each w) (hf : 0 ≤ f) (hU : f + each * 31 ≤ U) (hn0 : 0 ≤ n) (hn1 : n ≤ 4294967295) (hl : s.sp.length + 32 * D ≤ 1000000) :
  Calls Tryz.prog 61 #[.int .i64 f, .int .i64 n, PV kb, PV lb, PV gk, PV ge] w fun e w' => e = .returned (.bool (tableF c.N c.M cnt each F s f n).1) ∧ TE w' c sb (tableF c.N c.M cnt each F s f n).2 ∧ Chg w w' (Kt c sb w) := by
 obtain ⟨hXB, hgk, hge, hX⟩ := hx;have HA := hid (Chg.alloc w (.cells #[.int .i64 f] 3) No);have hgf : Box (w.alloc (.cells #[.int .i64 f] 3)) w.heap.size (.int .i64 f) 3 := heap_alloc_new w _;have hXI : XI X gk w.heap.size ge fn caps f each (w.alloc (.cells #[.int .i64 f] 3)) := ⟨hgk.call HA.out, hgf, hge.call HA.out, h.st _ _ hX (stays_no HA.out)⟩;have k0 := hgf.cell;have k1 := (hXB.1.call HA.out).cell;have k2 := (hXB.2.call HA.out).cell;have hT0 := ht.call HA.out;have hK := inner_keeper (gk := gk) (gf := w.heap.size) (ge := ge) h he hf hU hU2;unfold LP at k2
 by_cases hfc : f < cnt
 ·have hCL := claim_any n _ hT0.p hT0.k ⟨by omega, by omega⟩
  cases hb : claimB c.N c.M s.cl n
  ·have HF : Hid (tableF c.N c.M cnt each F s f n = (false, s)) := hid (by simp [tableF, hb])
   rw [hb] at hCL;rw [HF.out];have HT0 := hid hT0;clear ht hT0 hXB hgk hge hX hXI hgf hK h
   go_enter Tryz.func61, Tryz.ntmps61
   go_wp2_with (first
    | (go_at_call 59; go_must (refine hCL.mono ?_; rintro e w1 ⟨rfl, hp1, hk1, hc1⟩))
    | fail)
   go_ret
   exact ⟨rfl, HT0.out.claims hp1 hk1 hc1, kt_trans (kt_no HA.out) (claims_kt HT0.out hc1)⟩
  ·have HF : Hid (tableF c.N c.M cnt each F s f n = goF (innerF each f F) n ⟨s.wt, Go.Proofs.YtpmignilhoihnabGreat.putC s.cl n, s.sp⟩) := hid (by simp [tableF, hb, hfc])
   rw [hb] at hCL;rw [HF.out]
   have hdat : (c.M : Int) < n ∧ n < c.N := by
    have : dataB c.M c.N n = true := by simp [claimB] at hb; exact hb.2
    simpa [dataB] using this
   obtain ⟨k, rfl⟩ : ∃ k : Nat, n = (k : Int) := ⟨n.toNat, by omega⟩;have HGo := hid (fun (W : World) (hT : TE W c sb ⟨s.wt, Go.Proofs.YtpmignilhoihnabGreat.putC s.cl (k : Int), s.sp⟩) (hxi : XI X gk w.heap.size ge fn caps f each W) => goThrough_any hK ⟨s.wt, Go.Proofs.YtpmignilhoihnabGreat.putC s.cl (k : Int), s.sp⟩ k W hT hxi (by omega) (by omega) hl);have HT0 := hid hT0;have HXI := hid hXI;have HKst := hid hK.st;have HBL := hid (hXB.2.call HA.out);clear ht hT0 hXB hgk hge hX hXI hgf hK h
   generalize goF (innerF each f F) (k : Int) ⟨s.wt, Go.Proofs.YtpmignilhoihnabGreat.putC s.cl (k : Int), s.sp⟩ = q at *
   obtain ⟨qb, qs⟩ := q;unfold LP at HGo
   cases qb
   ·go_enter Tryz.func61, Tryz.ntmps61
    go_wp2_with (first
     | (go_at_call 59; go_must (refine hCL.mono ?_; rintro e w1 ⟨rfl, hp1, hk1, hc1⟩; simp only [if_true] at hk1; have hT1 := HT0.out.claims hp1 hk1 hc1; have hG := HGo.out w1 hT1 (HKst.out _ _ HXI.out (HT0.out.stays (claims_kt HT0.out hc1))); have k21 : w1.cell? ⟨lb, 0, none⟩ = some (.pointer (some ⟨c.b.p, 0, none⟩)) := Box.cell (HT0.out.stays (claims_kt HT0.out hc1) _ _ _ HBL.out (.inr (.inl rfl))); have HT1 := hid hT1; have HC1 := hid hc1; clear hp1 hk1 hT1 hc1))
     | (go_at_call 62; go_must (refine hG.mono ?_; rintro e w2 ⟨rfl, hT2, hc2⟩))
     | fail)
    go_ret
    exact ⟨rfl, hT2, kt_trans (kt_no HA.out) (kt_trans (claims_kt HT0.out HC1.out) hc2)⟩
   ·go_enter Tryz.func61, Tryz.ntmps61
    go_wp2_with (first
     | (go_at_call 59; go_must (refine hCL.mono ?_; rintro e w1 ⟨rfl, hp1, hk1, hc1⟩; simp only [if_true] at hk1; have hT1 := HT0.out.claims hp1 hk1 hc1; have hG := HGo.out w1 hT1 (HKst.out _ _ HXI.out (HT0.out.stays (claims_kt HT0.out hc1))); have k21 : w1.cell? ⟨lb, 0, none⟩ = some (.pointer (some ⟨c.b.p, 0, none⟩)) := Box.cell (HT0.out.stays (claims_kt HT0.out hc1) _ _ _ HBL.out (.inr (.inl rfl))); have HT1 := hid hT1; have HC1 := hid hc1; clear hp1 hk1 hT1 hc1))
     | (go_at_call 62; go_must (refine hG.mono ?_; rintro e w2 ⟨rfl, hT2, hc2⟩))
     | fail)
    go_ret
    exact ⟨rfl, hT2, kt_trans (kt_no HA.out) (kt_trans (claims_kt HT0.out HC1.out) hc2)⟩
 ·have HF : Hid (tableF c.N c.M cnt each F s f n = (false, s)) := hid (by simp [tableF, hfc])
  rw [HF.out];have HT0 := hid hT0;clear ht hT0 hXB hgk hge hX hXI hgf hK h
  go_enter Tryz.func61, Tryz.ntmps61
  go_wp2_with fail
  go_ret
  exact ⟨rfl, HT0.out, kt_no HA.out⟩

theorem table_keeper {c : LC} {sb : Nat} {X : World → Prop} {fn : Nat} {caps : Array Value} {U U' : Int} {D : Nat} {F : KeepF} {kb lb gk ge : Nat} {cnt each : Int} (h : Keeper c sb X fn caps U D F) (he : each = 1 ∨ each = 32) (hU2 : U ≤ 1000000) (hU : U' + each * 31 ≤ U) :
  Keeper c sb (XT c X kb lb gk ge fn caps cnt each) 61 #[PV kb, PV lb, PV gk, PV ge] U' (32 * D) (tableF c.N c.M cnt each F) where
 en := enters_of Tryz.func61 (by kernel_rfl) rfl
 st := fun w w' hx hs => ⟨hx.1.stay hs, hs _ _ _ hx.2.1 (.inr (.inr rfl)), hs _ _ _ hx.2.2.1 (.inl rfl), h.st w w' hx.2.2.2 hs⟩
 le := tableF_le _ _ _ _ h.le
 run := fun s i n w ht hx h0 h1 hn0 hn1 hl => table_any h he hU2 s i n w ht hx h0 (by omega) hn0 hn1 hl

end Go.Proofs.YtpmignilhoihnabGreat

namespace Go.Proofs.YtpmignilhoihnabGreat
open Go.RowKit Go.Shelf

def IOwn (w : World) (B : Nat) (v : Value) (l : List Int) : Prop := w.ownsRow B 3 1 v l.length (l.map (Value.int .i64))
theorem infoI : ∃ i, Tryz.prog.info? 3 = some i ∧ i.zero = some (.int .i64 0) ∧ i.size = 1 ∧ i.bytes = 8 := by
 have h : (Tryz.prog.info? 3).map (fun i => (i.zero, i.size, i.bytes)) = some (some (.int .i64 0), 1, 8) := by kernel_rfl
 cases hq : Tryz.prog.info? 3 with
 | none => rw [hq] at h; cases h
 | some i =>
  rw [hq] at h
  simp at h
  exact ⟨i, rfl, h.1, h.2.1, h.2.2⟩
theorem IOwn.blk {w : World} {B : Nat} {v : Value} {l : List Int} (h : IOwn w B v l) {k : Nat} (e : v.ownBlock = some k) : B ≤ k ∧ ∃ A, w.heap[k]? = some (.cells A 3 (0, 0)) := by
 rcases h.2 with ⟨rfl, _⟩ | ⟨g, cap, cur, rfl, hb, hg, _⟩
 ·cases e
 ·have : g = k := by simpa [Value.ownBlock] using e
  subst this
  exact ⟨hb, cur, hg⟩
theorem IOwn.keep {w w' : World} {B : Nat} {v : Value} {l : List Int} {ks : Nat → Prop} (h : IOwn w B v l) (hc : Chg w w' ks) (hn : ∀ k, v.ownBlock = some k → ¬ ks k) : IOwn w' B v l := by
 refine ⟨h.1, ?_⟩
 rcases h.2 with k | ⟨g, cap, cur, rfl, hb, hg, r⟩
 ·exact .inl k
 ·exact .inr ⟨g, cap, cur, rfl, hb, hc.keep hg (hn g rfl), r⟩
theorem IOwn.lat {w : World} {B : Nat} {v : Value} {l : List Int} (h : IOwn w B v l) : ∃ a c, v = .slice a l.length c ∧ LAt w a l := by
 obtain ⟨a, c, rfl⟩ := row_shapeP h;refine ⟨a, c, rfl, ?_⟩
 rcases Nat.eq_zero_or_pos l.length with h0 | h0
 ·exact .inl (List.eq_nil_of_length_eq_zero h0)
 ·rcases h.2 with ⟨e, _⟩ | ⟨g, cap, cur, e, hb, hg, r⟩
  ·injection e; omega
  ·cases e
   refine .inr ⟨g, rfl, ⟨cur, hg⟩, fun k hk => ?_⟩;have := World.ownsRow.cells h (g := g) rfl k (.int .i64 (l.getD k 0)) (by simp [hk])
   have hadd : (⟨g, 0, none⟩ : Addr).add k = ⟨g, k, none⟩ := by unfold Addr.add; split <;> simp_all
   rw [hadd] at this
   exact this
section
variable {ops : Array Oper} {rest : List Oper} {o : Oper} {a : Act} {Q : Exit → Act → World → Prop} {w : World}
theorem wp_appI (hg : o.guard = none) (s x : Operand) (hop : o.op = .call { callee := .builtin .append, args := #[s, x], argTypes := #[24, 24] }) (B g c : Nat) (v : Value) (l : List Int) (y : Int) (hs : a.eval s = v) (hx : a.eval x = .slice (some ⟨g, 0, none⟩) 1 c)
  (hown : IOwn w B v l) (hat : w.cell? ⟨g, 0, none⟩ = some (.int .i64 y)) (hl : l.length ≤ 1000000000000) (hB : B ≤ w.heap.size)
  (hK : ∀ v' w', IOwn w' B v' (l ++ [y]) → Chg w w' (fun k => v.ownBlock = some k) → wpList Tryz.prog ops Q rest (a.put o.dst v') w') : wpList Tryz.prog ops Q (o :: rest) a w := by
 obtain ⟨i, hi, hz, hsz, hby⟩ := infoI;refine wpList_append_own_at w hg s x 24 hop B 3 i _ 1 8 Tryz.underlying24 hi hz hsz hby rfl (by decide) v l.length (l.map (Value.int .i64)) hs hown ⟨g, 0, none⟩ 1 c [.int .i64 y] hx rfl (fun j u hj => ?_) (by simp [Value.oneCell']) (by unfold maxLen; omega) (by omega) hB ?_
 ·cases j with
  | zero => simp at hj; subst hj; exact hat
  | succ j => simp at hj
 ·intro v' w' h1 h2 _ _
  refine hK v' w' ?_ ((Chg.grown h2).mono fun j _ e => e.symm);unfold IOwn;rw [List.map_append, List.length_append]
  exact h1
end
def SpAt (w : World) (a : Option Addr) (l : List (Int × Int)) : Prop := l = [] ∨ ∃ g, a = some ⟨g, 0, none⟩ ∧ g < w.heap.size ∧ ∀ (k : Nat) x, l[k]? = some x → w.cell? ⟨g, k * 2, none⟩ = some (.int .i64 x.1) ∧ w.cell? ⟨g, k * 2 + 1, none⟩ = some (.int .i64 x.2)
theorem SpAt.call {w w' : World} {a : Option Addr} {l : List (Int × Int)} (h : SpAt w a l) (hc : Chg w w' No) : SpAt w' a l := by
 rcases h with h | ⟨g, rfl, hg, h⟩
 ·exact .inl h
 ·exact .inr ⟨g, rfl, Nat.lt_of_lt_of_le hg hc.size, fun k x hk => ⟨cell_keep (h k x hk).1 hc hg (fun e => e), cell_keep (h k x hk).2 hc hg (fun e => e)⟩⟩
theorem spAt_of {w : World} {B : Nat} {v : Value} {l : List (Int × Int)} (h : w.ownsRow B 116 2 v l.length (cellsP l)) : ∃ a c, v = .slice a l.length c ∧ SpAt w a l := by
 obtain ⟨a, c, rfl⟩ := row_shapeP h;refine ⟨a, c, rfl, ?_⟩
 rcases Nat.eq_zero_or_pos l.length with h0 | h0
 ·exact .inl (List.eq_nil_of_length_eq_zero h0)
 ·rcases h.2 with ⟨e, _⟩ | ⟨g, cap, cur, e, hb, hg, r⟩
  ·injection e; omega
  ·cases e
   refine .inr ⟨g, rfl, slt hg, fun k x hk => ?_⟩
   have hadd : ∀ k, (⟨g, 0, none⟩ : Addr).add k = ⟨g, k, none⟩ := fun k => by unfold Addr.add; split <;> simp_all
   have c0 := World.ownsRow.cells h (g := g) rfl (2 * k) (.int .i64 x.1) (by rw [(cellsP_get l k).1, hk]; rfl);have c1 := World.ownsRow.cells h (g := g) rfl (2 * k + 1) (.int .i64 x.2) (by rw [(cellsP_get l k).2, hk]; rfl);rw [hadd] at c0 c1;rw [Nat.mul_comm k 2]
   exact ⟨c0, c1⟩

set_option maxRecDepth 100000 in
set_option maxHeartbeats 1000000 in
theorem sectorsOf_any (l : List (Int × Int)) (a : Option Addr) (cap : Nat) (w : World) (h : SpAt w a l) (hl : l.length ≤ 1000000) :
  Calls Tryz.prog 65 #[.slice a l.length cap] w fun e w' => ∃ a' c', e = .returned (.slice a' l.length c') ∧ LAt w' a' (l.map Prod.snd) ∧ Chg w w' No := by
 have HS := hid h
 generalize hm : l.length = m at *
 have HM := hid hm;clear h hm
 go_enter Tryz.func65, Tryz.ntmps65
 go_wp2_with fail
 go_loopw [3, 8] (fun v i wr => ∃ (k : Nat) (vv : Value), vv = v ∧ k ≤ m ∧ i = .int .i64 k ∧ Hid (IOwn wr w.heap.size vv ((l.take k).map Prod.snd)) ∧ Hid (Chg w wr No)) (fun _ i _ => m - (intOf i).toNat)
 case atStart => exact ⟨0, _, rfl, by omega, rfl, hid (by simp; exact World.ownsRow_nil _ _ _ _), hid (Chg.refl _ _)⟩
 case round =>
  obtain ⟨k, vv, rfl, hk, rfl, HI, HC⟩ := hrel
  by_cases hlt : k < m
  ·have i0 : (0 : Int) ≤ (k : Int) := by omega
   have i1 : (k : Int) < (m : Int) := by omega
   obtain ⟨x, hx⟩ : ∃ x, l[k]? = some x := ⟨_, List.getElem?_eq_getElem (by rw [HM.out]; exact hlt)⟩
   rcases HS.out with h0 | ⟨g, rfl, hg, hc⟩
   ·rw [h0] at hx; simp at hx
   obtain ⟨c0, c1⟩ := hc k x hx;have d0 := cell_keep c0 HC.out hg (fun e => e);have d1 := cell_keep c1 HC.out hg (fun e => e)
   have HX : Hid (l.take (k + 1) = l.take k ++ [x]) := hid (by
    rw [List.take_add_one, hx]; rfl)
   clear c0 c1 hc hx
   go_upto_region 5 with fail
   have e1 : (wr.alloc (.cells #[.int .i64 x.1, .int .i64 x.2] 116)).cell? ⟨wr.heap.size, 1, none⟩ = some (.int .i64 x.2) := (cell_of_row _ _ _ _ _ _ (heap_alloc_new wr _)).trans rfl
   have hz : (wr.alloc (.cells #[.int .i64 x.1, .int .i64 x.2] 116)).heap.size = wr.heap.size + 1 := by simp
   have e2 : ((wr.alloc (.cells #[.int .i64 x.1, .int .i64 x.2] 116)).alloc (.cells #[.int .i64 x.2] 3)).cell? ⟨wr.heap.size + 1, 0, none⟩ = some (.int .i64 x.2) := by
    rw [← hz]
    exact (cell_of_row _ _ _ _ _ _ (heap_alloc_new (wr.alloc (.cells #[.int .i64 x.1, .int .i64 x.2] 116)) _)).trans rfl
   have HC2 : Hid (Chg wr ((wr.alloc (.cells #[.int .i64 x.1, .int .i64 x.2] 116)).alloc (.cells #[.int .i64 x.2] 3)) No) := hid ((Chg.alloc wr _ No).trans (Chg.alloc _ _ No) (fun _ _ e => e) (fun _ _ e => e));have HI2 := hid (HI.out.keep HC2.out (fun _ _ e => e));have HB2 : Hid (w.heap.size ≤ ((wr.alloc (.cells #[.int .i64 x.1, .int .i64 x.2] 116)).alloc (.cells #[.int .i64 x.2] 3)).heap.size) := hid (Nat.le_trans HC.out.size HC2.out.size);have HT : Hid (((l.take k).map Prod.snd).length ≤ 1000000000000) := hid (by simp; have := HM.out; omega);clear hz
   go_wp2_with (first
    | (at_builtin; go_must (refine wp_appI rfl _ _ rfl w.heap.size (wr.heap.size + 1) 1 vv _ x.2 rfl rfl HI2.out e2 HT.out HB2.out ?_; intro v' w7 hI7 hc7))
    | fail)
   have hch : Chg w w7 No := (HC.out.trans HC2.out (c := No) (fun _ _ e => e) (fun _ _ e => e)).trans hc7 (fun _ _ e => e) (fun j hj e => by have := (HI2.out.blk e).1; omega)
   exact ⟨⟨k + 1, v', rfl, by omega, by go_num, hid (by rw [HX.out, List.map_append]; exact hI7), hid hch⟩, by simp [intOf]; omega⟩
  ·have i1 : ¬ (k : Int) < (m : Int) := by omega
   obtain rfl : k = m := by omega
   have hI := HI.out;rw [List.take_of_length_le (by rw [HM.out]; exact Nat.le_refl _)] at hI;obtain ⟨a', c', rfl, hL⟩ := hI.lat;have HLL := hid hL;rw [List.length_map, HM.out];clear hL hI
   go_wp2_with fail
   go_ret
   exact ⟨a', ⟨c', rfl⟩, HLL.out, HC.out⟩

end Go.Proofs.YtpmignilhoihnabGreat
