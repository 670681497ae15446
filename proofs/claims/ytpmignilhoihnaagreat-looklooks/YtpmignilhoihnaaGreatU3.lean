/-
 Is a slot an entry?
-/
import Derived.Test.YtpmignilhoihnaaGreatT2
import Derived.StringKeys
namespace Go.Proofs.YtpmignilhoihnaaGreat
open Go.RowKit Go.Shelf

theorem sound_bd {M : Int} {im : Img} {i : Int} (h : (soundZ M im i).2 = true) : 1 ≤ i ∧ i ≤ M ∧ ((soundZ M im i).1.getD 0 0 ≠ 0) ∧ ∀ j, j < 18 → 0 ≤ (soundZ M im i).1.getD j 0 ∧ (soundZ M im i).1.getD j 0 ≤ most.getD j 0 := by
 unfold soundZ at h ⊢
 by_cases hi : 1 ≤ i ∧ i ≤ M
 ·rw [if_pos hi] at h ⊢
  simp only [Bool.and_eq_true, decide_eq_true_eq] at h
  refine ⟨hi.1, hi.2, h.2, fun j hj => ?_⟩
  simp only
  unfold rdIno at h ⊢
  by_cases hb : inoB (zTo (secI im i) 18) = true ∧ inoS (zTo (secI im i) 18) = secI im i
  ·rw [if_pos hb] at h ⊢
   have h0 := h.2
   simp only at h0 ⊢
   have hB := hb.1;unfold inoB at hB;rw [if_neg h0] at hB
   simp only [Bool.and_eq_true] at hB
   exact allB_of hB.1 j hj
  ·rw [if_neg hb] at h
   cases h.1
 ·rw [if_neg hi] at h
  cases h
theorem soundZ_len (M : Int) (im : Img) (i : Int) : (soundZ M im i).1.length = 18 := by
 unfold soundZ
 split
 ·exact rdIno_len (zTo_len _ _)
 ·exact Zi_len

set_option maxRecDepth 100000 in
set_option maxHeartbeats 1000000 in
theorem sound_any {c : LC} (i : Int) (w : World) (h : IsP w c) :
  Calls Tryz.prog 23 #[LP c, .int .i64 i] w fun e w' => e = .returned (.tuple #[.agg (NA (soundZ c.M c.im i).1), .bool (soundZ c.M c.im i).2]) ∧ Chg w w' No := by
 have hzi := zero_inode;have hbi := build_inode;have hA := Chg.alloc w (.cells (NA Zi) 51) No;have HA := hid hA;have HN := hid (heap_alloc_new w (.cells (NA Zi) 51));have hPA := h.call hA;have c1 := hPA.c1;have c2 := hPA.c2;have HH := hid h;have HPA := hid hPA;clear h hPA hA;unfold LP
 by_cases h1 : 1 ≤ i
 ·by_cases h2 : i ≤ c.M
  ·have HS : Hid (soundZ c.M c.im i = ((rdIno (zTo (secI c.im i) 18) (secI c.im i)).1, decide ((rdIno (zTo (secI c.im i) 18) (secI c.im i)).2 = 0) && decide ((rdIno (zTo (secI c.im i) 18) (secI c.im i)).1.getD 0 0 ≠ 0))) := hid (by unfold soundZ; rw [if_pos ⟨h1, h2⟩])
   obtain ⟨k, rfl⟩ : ∃ k : Nat, i = (k : Int) := ⟨i.toNat, by omega⟩
   have hkN : k < c.N := by have := HH.out.m2; omega
   have i1 : (k : Int) < (c.N : Int) := by omega
   have i0 : (0 : Int) ≤ (k : Int) := by omega
   obtain ⟨b, o, hia, hb, hr⟩ : ∃ b o, c.ia = some ⟨b, o, none⟩ ∧ b < (w.alloc (.cells (NA Zi) 51)).heap.size ∧ ∀ (j : Nat) s, c.im[j]? = some s → (w.alloc (.cells (NA Zi) 51)).rangeAt b (o + j * 128) (s.map (Value.int .u8)) := by
    rcases HPA.out.ci.2 with e | e
    ·have h1 := HPA.out.il; have h2 := HPA.out.n1; rw [e] at h1; simp at h1; omega
    ·exact e
   rw [hia] at c2;have hrk := hr k _ (getD_at (by rw [HPA.out.il]; exact hkN));have hsec := HPA.out.ci.secI (k : Int);have HRK := hid hrk;have HSL := hid hsec.1;have hRI := readInode_any (secI c.im (k : Int)) hsec (w.alloc (.cells (NA Zi) 51));have HRL : Hid ((rdIno (zTo (secI c.im (k : Int)) 18) (secI c.im (k : Int))).1.length = 18) := hid (rdIno_len (zTo_len _ _));rw [HS.out]
   generalize rdIno (zTo (secI c.im (k : Int)) 18) (secI c.im (k : Int)) = r at *
   generalize secI c.im (k : Int) = sk at *
   clear hr hrk hsec hia HS
   go_enter Tryz.func23, Tryz.ntmps23
   go_upto_region 4 with (first
    | (refine load_mid 33 _ rfl b (o + k * 128) rfl _ _ HRK.out Tryz.underlying33 rfl (by rw [sz26, List.length_map, HSL.out]) (by rfl) ?_)
    | (go_at_call 43; go_must (refine hRI.mono ?_; rintro e w1 ⟨rfl, hb1⟩))
    | (refine store_R rfl 51 _ _ rfl w1.heap.size (NA r.1) rfl rfl 51 _ (heap_alloc_new _ _) (by rw [szI, NA_size, HRL.out]) (by rw [NA_size, NA_size, Zi_len, HRL.out]) (NA_one _) ?_; intro w2 hw2)
    | fail)
   have hg6 := hw2.here;have hA1 : Chg (w.alloc (.cells (NA Zi) 51)) w2 No := ((Chg.of_below hb1 No).trans (Chg.alloc w1 (.cells (NA Zi) 51) No) (c := No) (fun _ _ e => e) (fun _ _ e => e)).trans (kt_new hw2) (fun _ _ e => e) (fun j hj e => by have := hb1.size; omega);have HN2 := hid (hA1.keep HN.out (fun e => e));have HC2 := hid (HA.out.trans hA1 (c := No) (fun _ _ e => e) (fun _ _ e => e));have HG6 := hid hg6;have HNE : Hid (w1.heap.size ≠ w.heap.size) := hid (by have := hb1.size; simp at this; omega);obtain ⟨g6, hg6e⟩ : ∃ y, y = w1.heap.size := ⟨_, rfl⟩;rw [← hg6e] at HG6 HNE;rw [← hg6e];clear hg6 hw2 hb1 hA1 hg6e hRI c1 c2;have HK := hid (row_cell HG6.out 0 (by rw [HRL.out]; decide));obtain ⟨rz, re⟩ := r
   simp only at *
   obtain ⟨K, hkk⟩ : ∃ y, y = rz.getD 0 0 := ⟨_, rfl⟩;rw [← hkk] at HK;have HKK := hid hkk;clear hkk;refine wp_region_noPanic ?_;refine wp_region_held_drew (S := fun w' => Chg w2 w' (· = w.heap.size)) (by kernel_rfl) (Chg.refl _ _).drew (fun hH => ?_)
   have hK6 := fun (W : World) (hW : Chg w2 W (· = w.heap.size)) => cell_keep HK.out hW (slt HG6.out) HNE.out
   by_cases he : re = 0
   ·have hre : re = 0 := he
    subst hre;refine takeR 0 31 51 (.tmp 6) g6 51 (NA rz) _ rfl (by kernel_rfl) (by kernel_rfl) (by kernel_rfl) rfl rfl rfl Tryz.underlying51 rfl (by rw [szI, NA_size, HRL.out]) (by rfl) (fun _ _ _ h => h) hH (fun W' hw' => hw'.keep HG6.out HNE.out) ?_;simp only [sS];refine tV 1 32 (.int .i64 0) rfl (by kernel_rfl) rfl (by rfl) hH (fun W' hw' => rfl) ?_;simp only [sS];refine tV 2 33 (.bool true) rfl (by kernel_rfl) rfl (by rfl) hH (fun W' hw' => by go_simp) ?_;simp only [sS];refine tV 3 34 (.bool true) rfl (by kernel_rfl) rfl (by rfl) hH (fun W' hw' => rfl) ?_;simp only [sS];refine tV 4 35 (.pointer (some ⟨g6, 0, none⟩)) rfl (by kernel_rfl) rfl (by rfl) hH (fun W' hw' => by go_simp) ?_;simp only [sS];refine tV 5 36 (.int .i64 K) rfl (by kernel_rfl) rfl (by rfl) hH (fun W' hw' => by have hc := hK6 W' hw'; go_simp) ?_;simp only [sS];refine tV 6 37 (.bool (K != 0)) rfl (by kernel_rfl) rfl (by rfl) hH (fun W' hw' => by go_simp) ?_;simp only [sS];refine tV 7 38 (.bool (K != 0)) rfl (by kernel_rfl) rfl (by rfl) hH (fun W' hw' => rfl) ?_;simp only [sS];refine step1 8 (by kernel_rfl) ?_;refine stStoreR 8 51 (.tmp 4) (.tmp 31) w.heap.size (NA rz) 51 (NA Zi) rfl rfl (by rfl) rfl rfl rfl (HN2.out) (by rw [szI, NA_size, HRL.out]) (by rw [NA_size, NA_size, Zi_len, HRL.out]) (NA_one _) ?_
    intro w5 hw5
    have h5 := hH.trans (kt_new hw5) (c := (· = w.heap.size)) (fun _ _ e => e) (fun _ _ e => e);refine ⟨h5, ?_⟩;refine tV 9 5 (.bool (K != 0)) rfl (by kernel_rfl) rfl (by rfl) h5 (fun W' hw' => rfl) ?_;simp only [sS];refine wpAnyH_done (by kernel_rfl) ?_ _;refine NoPanic.normal ?_
    go_wp2_with fail
    refine bodyPost_ret (v := .tuple #[.agg (NA rz), .bool (K != 0)]) (results_R Tryz.results23 _ _ w.heap.size _ 51 _ _ Tryz.underlying51 rfl (by rw [szI, NA_size, HRL.out]) rfl rfl hw5.here) rfl ⟨by rw [HKK.out, List.getD_eq_getElem?_getD]; by_cases hk : rz[0]?.getD 0 = 0 <;> simp [hk], (HC2.out.trans (Chg.refl w2 No).drew (c := No) (fun _ _ e => e) (fun _ _ e => e)).trans (kt_new hw5) (fun _ _ e => e) (fun j hj e => by omega)⟩
   ·have hre : (re == 0) = false := by simpa using he
    refine takeR 0 31 51 (.tmp 6) g6 51 (NA rz) _ rfl (by kernel_rfl) (by kernel_rfl) (by kernel_rfl) rfl rfl rfl Tryz.underlying51 rfl (by rw [szI, NA_size, HRL.out]) (by rfl) (fun _ _ _ h => h) hH (fun W' hw' => hw'.keep HG6.out HNE.out) ?_;simp only [sS];refine tV 1 32 (.int .i64 re) rfl (by kernel_rfl) rfl (by rfl) hH (fun W' hw' => rfl) ?_;simp only [sS];refine tV 2 33 (.bool false) rfl (by kernel_rfl) rfl (by rfl) hH (fun W' hw' => by go_simp) ?_;simp only [sS];refine tV 3 34 (.bool false) rfl (by kernel_rfl) rfl (by rfl) hH (fun W' hw' => rfl) ?_;simp only [sS];refine takeNot 4 35 rfl (by kernel_rfl) (by kernel_rfl) (by kernel_rfl) rfl (by rfl) (fun _ _ _ h => h) hH ?_;simp only [sS];refine takeNot 5 36 rfl (by kernel_rfl) (by kernel_rfl) (by kernel_rfl) rfl (by rfl) (fun _ _ _ h => h) hH ?_;simp only [sS];refine takeNot 6 37 rfl (by kernel_rfl) (by kernel_rfl) (by kernel_rfl) rfl (by rfl) (fun _ _ _ h => h) hH ?_;simp only [sS];refine tV 7 38 (.bool false) rfl (by kernel_rfl) rfl (by rfl) hH (fun W' hw' => rfl) ?_;simp only [sS];refine step1 8 (by kernel_rfl) ?_;refine stStoreR 8 51 (.tmp 4) (.tmp 31) w.heap.size (NA rz) 51 (NA Zi) rfl rfl (by rfl) rfl rfl rfl (HN2.out) (by rw [szI, NA_size, HRL.out]) (by rw [NA_size, NA_size, Zi_len, HRL.out]) (NA_one _) ?_
    intro w5 hw5
    have h5 := hH.trans (kt_new hw5) (c := (· = w.heap.size)) (fun _ _ e => e) (fun _ _ e => e);refine ⟨h5, ?_⟩;refine tV 9 5 (.bool false) rfl (by kernel_rfl) rfl (by rfl) h5 (fun W' hw' => rfl) ?_;simp only [sS];refine wpAnyH_done (by kernel_rfl) ?_ _;refine NoPanic.normal ?_
    go_wp2_with fail
    refine bodyPost_ret (v := .tuple #[.agg (NA rz), .bool false]) (results_R Tryz.results23 _ _ w.heap.size _ 51 _ _ Tryz.underlying51 rfl (by rw [szI, NA_size, HRL.out]) rfl rfl hw5.here) rfl ⟨by simp, (HC2.out.trans (Chg.refl w2 No).drew (c := No) (fun _ _ e => e) (fun _ _ e => e)).trans (kt_new hw5) (fun _ _ e => e) (fun j hj e => by omega)⟩
  ·have HS : Hid (soundZ c.M c.im i = (Zi, false)) := hid (by unfold soundZ; rw [if_neg (by omega)])
   rw [HS.out]
   go_enter Tryz.func23, Tryz.ntmps23
   go_wp2_with (first
    | (refine store_R rfl 51 _ _ rfl w.heap.size (NA Zi) rfl rfl 51 _ HN.out (by rw [szI, NA_size, Zi_len]) rfl (NA_one _) ?_; intro w2 hw2)
    | fail)
   refine bodyPost_ret (v := .tuple #[.agg (NA Zi), .bool false]) (results_R Tryz.results23 _ _ w.heap.size _ 51 _ _ Tryz.underlying51 rfl (by rw [szI, NA_size, Zi_len]) rfl rfl hw2.here) rfl ⟨rfl, HA.out.trans (kt_new hw2) (fun _ _ e => e) (fun j hj e => by omega)⟩
 ·have HS : Hid (soundZ c.M c.im i = (Zi, false)) := hid (by unfold soundZ; rw [if_neg (by omega)])
  rw [HS.out]
  go_enter Tryz.func23, Tryz.ntmps23
  go_wp2_with (first
   | (refine store_R rfl 51 _ _ rfl w.heap.size (NA Zi) rfl rfl 51 _ HN.out (by rw [szI, NA_size, Zi_len]) rfl (NA_one _) ?_; intro w2 hw2)
   | fail)
  refine bodyPost_ret (v := .tuple #[.agg (NA Zi), .bool false]) (results_R Tryz.results23 _ _ w.heap.size _ 51 _ _ Tryz.underlying51 rfl (by rw [szI, NA_size, Zi_len]) rfl rfl hw2.here) rfl ⟨rfl, HA.out.trans (kt_new hw2) (fun _ _ e => e) (fun j hj e => by omega)⟩

end Go.Proofs.YtpmignilhoihnaaGreat

namespace Go.Proofs.YtpmignilhoihnaaGreat
open Go.RowKit Go.Shelf

def TkOk (c : LC) (tk : Int → Option (List Int)) : Prop := ∀ i z, tk i = some z → 1 ≤ i ∧ i ≤ c.M ∧ z.length = 18 ∧ 0 ≤ z.getD 1 0 ∧ z.getD 1 0 ≤ 100
theorem few_tk {w : World} {c : LC} {tk : Int → Option (List Int)} (h : TkOk c tk) (hp : IsP w c) : ∃ L : List Int, L.length ≤ 5000 ∧ ∀ x, ((tk x).map fun z => Value.agg (NA z)).isSome = true → x ∈ L := by
 refine ⟨(List.range 4097).map Int.ofNat, by simp, fun x hx => ?_⟩
 cases ht : tk x with
 | none => rw [ht] at hx; cases hx
 | some z =>
  obtain ⟨h1, h2, _⟩ := h x z ht;have := hp.n2;have := hp.m2
  exact List.mem_map.2 ⟨x.toNat, List.mem_range.2 (by omega), by show ((x.toNat : Nat) : Int) = x; omega⟩
section
variable {ops : Array Oper} {Q : Exit → Act → World → Prop} {S : World → Prop} {fuel : Nat} {listed : Array Bool} {a : Act} {w : World}
theorem stPutM (i : Nat) (m x v : Operand) (b : Nat) (f : Int → Option Value) (k : Int) (d : Value) {o : Oper} (hop : ops[i]? = some o) (hd : o.dst = none) (hw : Region.wanted o (yielded ops a.tmps) = true) (ho : o.op = Op.mapUpdate 57 m x v)
  (hm : a.eval m = .map (some b)) (hx : a.eval x = .int .i64 k) (hv : a.eval v = d) (h : MapV w b f) (hk : I64 k) (hf : ∃ L : List Int, L.length ≤ 5000 ∧ ∀ x, (f x).isSome = true → x ∈ L)
  (hK : ∀ w', MapV w' b (fun y => if y = k then some d else f y) → Chg w w' (· = b) → w'.heap.size = w.heap.size → S w' ∧ wpAnyH Tryz.prog .any ops Q S fuel (listed.setIfInBounds i true) a w') : St ops Q S fuel listed a w i := by
 refine wpOp_step hop (fun K hK' => ?_);rw [if_pos hw];obtain ⟨w', hrun, r1, r2, r3⟩ := h.store hk d hf
 have hr : (execOp a.eval o).run Tryz.prog w = .ok .skip w' := by simp [execOp, ho, hm, hx, hv, hrun, Result.andThen]
 unfold Oper.wp;rw [hr];refine hK' _ _ ?_;unfold Act.put;rw [hd]
 exact hK w' r1 r2 r3
end
theorem moreZ_len (z : List Int) : (moreZ z).length = z.length := by simp [moreZ]
theorem IsL.took {w w' : World} {c : LC} {s : LS} {tk : Int → Option (List Int)} (h : IsL w c s) (ht : MapV w' c.b.tb (fun x => (tk x).map fun z => Value.agg (NA z))) (hc : Chg w w' (· = c.b.tb)) : IsL w' c { s with tk := tk } ∧ Chg w w' (Kl c w) := by
 obtain ⟨es3, ck3, hm3⟩ := h.t.isMap;obtain ⟨B, hB⟩ := h.v.k.wt.isRow;obtain ⟨u, hu⟩ := h.q.isBox
 have ne : ∀ {g : Nat} {A : Array Value} {t : TypeId} {f : Nat × Nat}, w.heap[g]? = some (.cells A t f) → ¬ g = c.b.tb := fun hg e => by
  rw [e, hm3] at hg; cases hg
 exact ⟨⟨⟨h.v.p.keep hc (ne h.v.p.me) (fun k e => e ▸ h.v.p.b3), h.v.k.keep hc (ne hB) h.v.p.ct, h.v.v.keep hc h.v.p.vt, h.v.vk⟩, ht, h.q.keep hc (ne hu) (fun g A hg => ne hg) (fun g A hg => ne hg)⟩, hc.mono fun j _ e => ⟨e ▸ h.v.p.b3, .inr (.inr (.inr (.inl e)))⟩⟩
theorem putT_map (tk : Int → Option (List Int)) (i : Int) (z : List Int) (x : Int) : ((putT tk i z x).map fun z => Value.agg (NA z)) = if x = i then some (.agg (NA z)) else (tk x).map fun z => Value.agg (NA z) := by
 unfold putT
 split <;> rfl
theorem inoT_len (N M : Int) (z : List Int) (wt : Img) (cl : Int → Bool) (hz : z.length = 18) : (inoT N M z wt cl).length = 18 := by
 have h : (dirT N M z wt cl).1.length = ((z.drop 4).take 12).length := goK_len _ _ _ 12;unfold inoT
 simp only [List.length_append, h, List.length_take, List.length_drop, hz]
 rfl
theorem takeL_tk (N M : Int) (z : List Int) (s : LS) : (takeL N M z s).tk = s.tk := by
 unfold takeL
 simp only
 split <;> rfl

set_option maxRecDepth 100000 in
set_option maxHeartbeats 1000000 in
theorem enter_any {c : LC} {s : LS} (i : Int) (w : World) (h : IsL w c s) (hk : TkOk c s.tk) (hq : s.q.length ≤ 5000) (hi : match s.tk i with | some z => z.getD 1 0 ≤ 99 | none => (soundZ c.M c.im i).2 = true) (hI : I64 i) :
  Calls Tryz.prog 24 #[LP c, .int .i64 i] w fun e w' => e = .returned (.tuple #[]) ∧ IsL w' c (enterL c.N c.M c.im i s) ∧ Chg w w' (Kl c w) := by
 have hzi := zero_inode;have c6 := h.v.p.c6;have hmv := h.t;have HH := hid h;have HK := hid hk;have hA := Chg.alloc w (.cells (NA Zi) 51) No;have HA := hid hA;have HN := hid (heap_alloc_new w (.cells (NA Zi) 51));have HI := hid hI;unfold LP
 cases ht : s.tk i with
 | some z =>
  rw [ht] at hi;obtain ⟨i1, i2, zl, z0, z1⟩ := hk i z ht;have HE : Hid (enterL c.N c.M c.im i s = { s with tk := putT s.tk i (moreZ z) }) := hid (by unfold enterL; rw [ht]);have HT := hid ht;have HTK := HK;have HBw : Hid (c.B ≤ w.heap.size) := hid (by have := h.v.p.b0; have := h.v.k.wt.lt; omega);have HZ := hid zl
  simp only at hi
  obtain ⟨Lk, hLk⟩ : ∃ y, y = z.getD 1 0 := ⟨_, rfl⟩;have HLk := hid hLk;rw [← hLk] at hi z0 z1;clear h hk ht hA hLk zl
  go_enter Tryz.func24, Tryz.ntmps24
  go_upto_region 4 with (first
   | (at_lookup; go_must (refine wp_okV rfl _ _ rfl c.b.tb _ i (.agg (NA z)) true (by rw [HT.out]; rfl) (by rw [HT.out]; rfl) rfl rfl hmv HI.out ?_))
   | (refine store_R rfl 51 _ _ rfl w.heap.size (NA z) rfl rfl 51 _ HN.out (by rw [szI, NA_size, HZ.out]) (by rw [NA_size, NA_size, Zi_len, HZ.out]) (NA_one _) ?_; intro w2 hw2)
   | fail)
  have hcA : Chg w w2 No := HA.out.trans (kt_new hw2) (fun _ _ e => e) (fun j hj e => by omega);have HL2 := hid (HH.out.call hcA);have HC2 : Hid (Chg w w2 (Kl c w)) := hid (kl_no hcA);have HG2 := hid hw2.here;clear hw2 hcA hmv c6;have q1 := row_cell HG2.out 1 (by rw [HZ.out]; decide);rw [← HLk.out] at q1;have f1 := row_free HG2.out 1

  go_upto_region 5 with fail
  have hp3 := row_setCell HG2.out 1 (Lk + 1);have hc3 : Chg w2 (w2.setCell ⟨w.heap.size, 1, none⟩ (.int .i64 (Lk + 1))) (· = w.heap.size) := Chg.setCell;have HG3 : Hid ((w2.setCell ⟨w.heap.size, 1, none⟩ (.int .i64 (Lk + 1))).heap[w.heap.size]? = some (.cells (NA (moreZ z)) 51 (0, 0))) := hid (by unfold moreZ; rw [← HLk.out]; exact hp3.here);have HL3 := hid (HL2.out.aside HG2.out (by decide) (by decide) (by decide) (by decide) (by decide) (by decide) HBw.out hc3);have HC3 := hid (HC2.out.trans hc3 (c := Kl c w) (fun _ _ e => e) (fun j hj e => by omega))
  generalize (w2.setCell ⟨w.heap.size, 1, none⟩ (.int .i64 (Lk + 1))) = w3 at *
  clear hp3 hc3 q1 f1 HL2 HC2 HG2
  have HPT : Hid (c.b.p ≠ c.b.tb) := hid (by
   obtain ⟨es, ck, hm⟩ := HL3.out.t.isMap
   exact obj_ne HL3.out.v.p.me hm (by intro e; cases e))
  have HGT : Hid (w.heap.size ≠ c.b.tb) := hid (by
   obtain ⟨es, ck, hm⟩ := HL3.out.t.isMap
   exact obj_ne HG3.out hm (by intro e; cases e))
  have hP := fun (W : World) (hW : Chg w3 W (· = c.b.tb)) => (HL3.out.v.p.keep hW HPT.out (fun _ e => e ▸ HL3.out.v.p.b3)).c6
  refine wp_region_noPanic ?_;refine wp_region_held_drew (S := fun w' => Chg w3 w' (· = c.b.tb)) (by kernel_rfl) (Chg.refl _ _).drew (fun hH => ?_);refine tV 0 30 (.pointer (some ⟨c.b.p, 0, none⟩)) rfl (by kernel_rfl) rfl (by rfl) hH (fun W' hw' => rfl) ?_;simp only [sS];refine tV 1 31 (.pointer (some ⟨c.b.p, 0, none⟩)) rfl (by kernel_rfl) rfl (by rfl) hH (fun W' hw' => by go_simp) ?_;simp only [sS];refine tV 2 32 (.pointer (some ⟨c.b.p, 6, none⟩)) rfl (by kernel_rfl) rfl (by rfl) hH (fun W' hw' => by go_simp) ?_;simp only [sS];refine tV 3 33 (.map (some c.b.tb)) rfl (by kernel_rfl) rfl (by rfl) hH (fun W' hw' => by have hc := hP W' hw'; go_simp) ?_;simp only [sS];refine tV 4 34 (.int .i64 i) rfl (by kernel_rfl) rfl (by rfl) hH (fun W' hw' => rfl) ?_;simp only [sS];refine takeR 5 35 51 (.tmp 4) w.heap.size 51 (NA (moreZ z)) _ rfl (by kernel_rfl) (by kernel_rfl) (by kernel_rfl) rfl rfl rfl Tryz.underlying51 rfl (by rw [szI, NA_size, moreZ_len, HZ.out]) (by rfl) (fun _ _ _ h => h) hH (fun W' hw' => hw'.keep HG3.out HGT.out) ?_;simp only [sS];refine step1 6 (by kernel_rfl) ?_;refine stPutM 6 (.tmp 33) (.tmp 34) (.tmp 35) c.b.tb _ i (.agg (NA (moreZ z))) rfl rfl (by rfl) rfl rfl rfl rfl (HL3.out.t.keep (Chg.refl w3 No).drew (fun e => e)) HI.out (few_tk HTK.out HL3.out.v.p) ?_
  intro w5 hm5 hc5 hz5
  have hc35 : Chg w3 w5 (· = c.b.tb) := hH.trans hc5 (fun _ _ e => e) (fun _ _ e => e);refine ⟨hc35, ?_⟩;refine wpAnyH_done (by kernel_rfl) ?_ _;refine NoPanic.normal ?_;obtain ⟨hL5, hK5⟩ := HL3.out.took (tk := putT (s).tk i (moreZ z)) (hm5.cong fun x => (putT_map _ i (moreZ z) x).symm) hc35;have HL5 := hid hL5;have HK5 := hid (kl_trans HC3.out hK5);clear hL5 hK5 hm5 hc5 hz5 hc35 hH hP
  go_wp2_with fail
  go_end0
  rw [HE.out]
  exact ⟨rfl, HL5.out, HK5.out⟩
 | none =>
  have hi' : (soundZ c.M c.im i).2 = true := by rw [ht] at hi; exact hi
  obtain ⟨i1, i2, zk, zb⟩ := sound_bd hi';have HE : Hid (enterL c.N c.M c.im i s = { takeL c.N c.M (soundZ c.M c.im i).1 s with tk := putT (takeL c.N c.M (soundZ c.M c.im i).1 s).tk i (moreZ (inoT c.N c.M (soundZ c.M c.im i).1 s.wt s.cl)) }) := hid (by unfold enterL; rw [ht]);have HT := hid ht;have HBw : Hid (c.B ≤ w.heap.size) := hid (by have := h.v.p.b0; have := h.v.k.wt.lt; omega)
  have HTU := hid (fun (W : World) (hL : IsL W c s) => takeUp_any (soundZ c.M c.im i).1 W hL (soundZ_len _ _ _) (zb 2 (by decide)).1 (zb 2 (by decide)).2 (fun j h4 h18 => ⟨(zb j h18).1, by
   have := (zb j h18).2
   have hm : most.getD j 0 = 4294967295 := by
    have : j = 4 ∨ j = 5 ∨ j = 6 ∨ j = 7 ∨ j = 8 ∨ j = 9 ∨ j = 10 ∨ j = 11 ∨ j = 12 ∨ j = 13 ∨ j = 14 ∨ j = 15 ∨ j = 16 ∨ j = 17 := by omega
    rcases this with rfl | rfl | rfl | rfl | rfl | rfl | rfl | rfl | rfl | rfl | rfl | rfl | rfl | rfl <;> rfl
   rw [hm] at this
   exact this⟩) hq)
  have HSO := hid (fun (W : World) (hP : IsP W c) => sound_any i W hP);have HZl := hid (soundZ_len c.M c.im i);have HZt : Hid ((inoT c.N c.M (soundZ c.M c.im i).1 s.wt s.cl).length = 18) := hid (inoT_len _ _ _ _ _ (soundZ_len _ _ _));have HZ1 : Hid ((inoT c.N c.M (soundZ c.M c.im i).1 s.wt s.cl).getD 1 0 = 0) := hid rfl;have HTK : Hid (TkOk c (takeL c.N c.M (soundZ c.M c.im i).1 s).tk) := hid (by rw [takeL_tk]; exact hk)
  generalize soundZ c.M c.im i = r at *
  obtain ⟨zs, zb2⟩ := r
  simp only at *
  subst hi';clear h hk ht hA zk zb;unfold LP at HSO HTU
  go_enter Tryz.func24, Tryz.ntmps24
  go_upto_region 3 with (first
   | (at_lookup; go_must (refine wp_okV rfl _ _ rfl c.b.tb _ i (.agg (NA Zi)) false (by rw [HT.out]; rfl) (by rw [HT.out]; rfl) rfl rfl hmv HI.out ?_))
   | (refine store_R rfl 51 _ _ rfl w.heap.size (NA Zi) rfl rfl 51 _ HN.out (by rw [szI, NA_size, Zi_len]) rfl (NA_one _) ?_; intro w2 hw2; have hcA : Chg w w2 No := HA.out.trans (kt_new hw2) (fun _ _ e => e) (fun j hj e => by omega); have hSo := HSO.out w2 (HH.out.v.p.call hcA); have HG2 := hid hw2.here; have HCA := hid hcA; clear hw2 hcA)
   | (go_at_call 23; go_must (refine hSo.mono ?_; rintro e w3 ⟨rfl, hc3⟩; have HG3 := hid (hc3.keep HG2.out (fun e => e)); have HC3 := hid (HCA.out.trans hc3 (c := No) (fun _ _ e => e) (fun _ _ e => e)); clear hc3 hSo))
   | (refine store_R rfl 51 _ _ rfl w.heap.size (NA zs) rfl rfl 51 _ HG3.out (by rw [szI, NA_size, HZl.out]) (by rw [NA_size, NA_size, Zi_len, HZl.out]) (NA_one _) ?_; intro w4 hw4)
   | fail)
  dsimp only [Act.put]
  have hc34 : Chg w3 w4 (· = w.heap.size) := kt_new hw4;have hcA : Chg w w4 No := HC3.out.trans hc34 (fun _ _ e => e) (fun j hj e => by omega);have HL4 := hid (HH.out.call hcA);have HG4 := hid hw4.here;have HC4 := hid hcA;have hTU := HTU.out w4 HL4.out;obtain ⟨z, hz⟩ : ∃ y, y = inoT c.N c.M zs s.wt s.cl := ⟨_, rfl⟩;have HZZ := hid hz;rw [← hz] at hTU HZt HZ1 HE;clear hz hw4 hc34 hcA HG3 HC3 HG2 HCA hmv c6 hzi HSO
  go_upto_region 4 with (first
   | (refine load_R rfl 51 _ rfl w.heap.size rfl 51 (NA zs) _ HG4.out Tryz.underlying51 rfl (by rw [szI, NA_size, HZl.out]) ?_)
   | (go_at_call 44; go_must (refine hTU.mono ?_; rintro e w5 ⟨rfl, hL5, hc5⟩; have HG5 := hid (hc5.keep HG4.out (HL4.out.not HG4.out (by decide) (by decide) (by decide) (by decide))); have HL5 := hid hL5; have HC5 := hid (kl_trans (kl_no HC4.out) hc5); clear hL5 hc5 hTU))
   | (refine store_R rfl 51 _ _ rfl w.heap.size (NA z) rfl rfl 51 _ HG5.out (by rw [szI, NA_size, HZt.out]) (by rw [NA_size, NA_size, HZl.out, HZt.out]) (NA_one _) ?_; intro w2 hw2)
   | fail)
  dsimp only [Act.put]
  have hc52 : Chg w5 w2 (· = w.heap.size) := kt_new hw2;have HL2 := hid (HL5.out.aside HG5.out (by decide) (by decide) (by decide) (by decide) (by decide) (by decide) HBw.out hc52);have HC2 : Hid (Chg w w2 (Kl c w)) := hid (HC5.out.trans hc52 (fun _ _ e => e) (fun j hj e => by omega));have HG2 := hid hw2.here;have HZ := HZt;obtain ⟨Lk, hLk⟩ : ∃ y : Int, y = 0 := ⟨0, rfl⟩;have HLk : Hid (Lk = z.getD 1 0) := hid (by rw [HZ1.out]; exact hLk)
  have z0 : 0 ≤ Lk := by omega
  have z1 : Lk ≤ 100 := by omega
  clear hw2 hc52 hLk HL5 HC5 HG5 HL4 HC4 HG4;have q1 := row_cell HG2.out 1 (by rw [HZ.out]; decide);rw [← HLk.out] at q1;have f1 := row_free HG2.out 1

  go_upto_region 5 with fail
  have hp3 := row_setCell HG2.out 1 (Lk + 1);have hc3 : Chg w2 (w2.setCell ⟨w.heap.size, 1, none⟩ (.int .i64 (Lk + 1))) (· = w.heap.size) := Chg.setCell;have HG3 : Hid ((w2.setCell ⟨w.heap.size, 1, none⟩ (.int .i64 (Lk + 1))).heap[w.heap.size]? = some (.cells (NA (moreZ z)) 51 (0, 0))) := hid (by unfold moreZ; rw [← HLk.out]; exact hp3.here);have HL3 := hid (HL2.out.aside HG2.out (by decide) (by decide) (by decide) (by decide) (by decide) (by decide) HBw.out hc3);have HC3 := hid (HC2.out.trans hc3 (c := Kl c w) (fun _ _ e => e) (fun j hj e => by omega))
  generalize (w2.setCell ⟨w.heap.size, 1, none⟩ (.int .i64 (Lk + 1))) = w3 at *
  clear hp3 hc3 q1 f1 HL2 HC2 HG2
  have HPT : Hid (c.b.p ≠ c.b.tb) := hid (by
   obtain ⟨es, ck, hm⟩ := HL3.out.t.isMap
   exact obj_ne HL3.out.v.p.me hm (by intro e; cases e))
  have HGT : Hid (w.heap.size ≠ c.b.tb) := hid (by
   obtain ⟨es, ck, hm⟩ := HL3.out.t.isMap
   exact obj_ne HG3.out hm (by intro e; cases e))
  have hP := fun (W : World) (hW : Chg w3 W (· = c.b.tb)) => (HL3.out.v.p.keep hW HPT.out (fun _ e => e ▸ HL3.out.v.p.b3)).c6
  refine wp_region_noPanic ?_;refine wp_region_held_drew (S := fun w' => Chg w3 w' (· = c.b.tb)) (by kernel_rfl) (Chg.refl _ _).drew (fun hH => ?_);refine tV 0 30 (.pointer (some ⟨c.b.p, 0, none⟩)) rfl (by kernel_rfl) rfl (by rfl) hH (fun W' hw' => rfl) ?_;simp only [sS];refine tV 1 31 (.pointer (some ⟨c.b.p, 0, none⟩)) rfl (by kernel_rfl) rfl (by rfl) hH (fun W' hw' => by go_simp) ?_;simp only [sS];refine tV 2 32 (.pointer (some ⟨c.b.p, 6, none⟩)) rfl (by kernel_rfl) rfl (by rfl) hH (fun W' hw' => by go_simp) ?_;simp only [sS];refine tV 3 33 (.map (some c.b.tb)) rfl (by kernel_rfl) rfl (by rfl) hH (fun W' hw' => by have hc := hP W' hw'; go_simp) ?_;simp only [sS];refine tV 4 34 (.int .i64 i) rfl (by kernel_rfl) rfl (by rfl) hH (fun W' hw' => rfl) ?_;simp only [sS];refine takeR 5 35 51 (.tmp 4) w.heap.size 51 (NA (moreZ z)) _ rfl (by kernel_rfl) (by kernel_rfl) (by kernel_rfl) rfl rfl rfl Tryz.underlying51 rfl (by rw [szI, NA_size, moreZ_len, HZ.out]) (by rfl) (fun _ _ _ h => h) hH (fun W' hw' => hw'.keep HG3.out HGT.out) ?_;simp only [sS];refine step1 6 (by kernel_rfl) ?_;refine stPutM 6 (.tmp 33) (.tmp 34) (.tmp 35) c.b.tb _ i (.agg (NA (moreZ z))) rfl rfl (by rfl) rfl rfl rfl rfl (HL3.out.t.keep (Chg.refl w3 No).drew (fun e => e)) HI.out (few_tk HTK.out HL3.out.v.p) ?_
  intro w5 hm5 hc5 hz5
  have hc35 : Chg w3 w5 (· = c.b.tb) := hH.trans hc5 (fun _ _ e => e) (fun _ _ e => e);refine ⟨hc35, ?_⟩;refine wpAnyH_done (by kernel_rfl) ?_ _;refine NoPanic.normal ?_;obtain ⟨hL5, hK5⟩ := HL3.out.took (tk := putT (takeL c.N c.M zs s).tk i (moreZ z)) (hm5.cong fun x => (putT_map _ i (moreZ z) x).symm) hc35;have HL5 := hid hL5;have HK5 := hid (kl_trans HC3.out hK5);clear hL5 hK5 hm5 hc5 hz5 hc35 hH hP
  go_wp2_with fail
  go_end0
  rw [HE.out]
  exact ⟨rfl, HL5.out, HK5.out⟩

end Go.Proofs.YtpmignilhoihnaaGreat

namespace Go.Proofs.YtpmignilhoihnaaGreat
open Go.RowKit Go.Shelf

theorem keyS : Maps.Keyed Tryz.prog 9 := Maps.string_keyed Tryz.underlying9
theorem keyOfS {s : ByteArray} (h : s.size ≤ 1000) : keyOf Tryz.prog 9 (.string s) = some (.string s.data.toList) := WideMaps.keyOf_string_mk Tryz.underlying9 (by unfold maxLen; omega)
theorem keyLitS (l : List UInt8) : WideAt.IsKeyLit (.string l) := trivial
def NSet (w : World) (b : Nat) (l : List ByteArray) : Prop :=
 ∃ D : DataW Unit, w.ownsMap Tryz.prog 9 unitElem b (Maps.size D) D ∧ Maps.size D ≤ l.length ∧ ∀ x : ByteArray, Maps.has D (.string x.data.toList) = hasN l x
theorem NSet.isMap {w : World} {b : Nat} {l : List ByteArray} (h : NSet w b l) : ∃ es clock, w.heap[b]? = some (.map es clock) := by
 obtain ⟨D, ⟨es, clock, h, _⟩, _⟩ := h
 exact ⟨es, clock, h⟩
theorem NSet.keep {w w' : World} {b : Nat} {l : List ByteArray} {ks : Nat → Prop} (h : NSet w b l) (hc : Chg w w' ks) (hn : ¬ ks b) : NSet w' b l := by
 obtain ⟨D, ⟨es, clock, hb, r⟩, k⟩ := h
 exact ⟨D, ⟨es, clock, hc.keep hb hn, r⟩, k⟩
theorem NSet.made (w : World) : NSet (w.alloc (.map #[] 0)) w.heap.size [] :=
 ⟨.map [], World.ownsMap_made w Tryz.prog 9 unitElem, by simp [Maps.size], fun x => by simp [Maps.has, hasN]⟩
theorem NSet.store {w : World} {b : Nat} {l : List ByteArray} (h : NSet w b l) {x : ByteArray} (hx : x.size ≤ 1000) (hl : l.length ≤ 1000000) :
  ∃ w', (Instr.mapUpdate 88 (.map (some b)) (.string x) (.agg #[])).run Tryz.prog w = .ok () w' ∧ NSet w' b (x :: l) ∧ Chg w w' (· = b) ∧ w'.heap.size = w.heap.size := by
 obtain ⟨D, h, hs, hh⟩ := h;obtain ⟨w', hrun, ho, ht⟩ := h.store keyS Tryz.underlying88 (by unfold maxLen; omega) (keyOfS hx) (unitElem_mk (H := Unit));obtain ⟨h1, h2⟩ := turned_chg ht;refine ⟨w', hrun, ⟨D.put (.string x.data.toList) (.agg []), ?_, ?_, fun y => ?_⟩, h1, h2⟩
 ·obtain ⟨es, clock, hb, F, hs', hD⟩ := ho
  refine ⟨es, clock, hb, F, ?_, hD⟩;rw [hD]
  simp [Maps.size, length_sorted]
 ·rw [Maps.size_put (h.tidy keyS)]
  split <;> simp <;> omega
 ·by_cases hy : y.data = x.data
  ·rw [show y.data.toList = x.data.toList by rw [hy], Maps.has_put_same h.isMap (keyLitS _)]
   simp [hasN, hy]
  ·rw [Maps.has_put_other (by simpa using fun e => hy (Array.ext' e)), hh y]
   have : ¬ x.data = y.data := fun e => hy e.symm
   simp [hasN, this]
section
variable {ops : Array Oper} {rest : List Oper} {o : Oper} {a : Act} {Q : Exit → Act → World → Prop} {w : World}
theorem wp_okN (hg : o.guard = none) (m x : Operand) (hop : o.op = Op.lookup 88 m x true) (b : Nat) (l : List ByteArray) (k : ByteArray) (hm : a.eval m = .map (some b)) (hx : a.eval x = .string k)
  (h : NSet w b l) (hk : k.size ≤ 1000) (hK : wpList Tryz.prog ops Q rest (a.put o.dst (.tuple #[.agg #[], .bool (hasN l k)])) w) : wpList Tryz.prog ops Q (o :: rest) a w := by
 obtain ⟨D, h, _, hh⟩ := h;refine wpList_lookup_own_unit w hg m x 88 hop 9 92 keyS Tryz.underlying88 (zeroU w) b _ D hm h _ _ hx (keyOfS hk) ?_;rw [hh k]
 exact hK
theorem wp_storeN (hg : o.guard = none) (m x v : Operand) (hop : o.op = Op.mapUpdate 88 m x v) (b : Nat) (l : List ByteArray) (k : ByteArray) (hm : a.eval m = .map (some b)) (hx : a.eval x = .string k) (hv : a.eval v = .agg #[])
  (h : NSet w b l) (hk : k.size ≤ 1000) (hl : l.length ≤ 1000000)
  (hK : ∀ w', NSet w' b (k :: l) → Chg w w' (· = b) → w'.heap.size = w.heap.size → wpList Tryz.prog ops Q rest (a.put o.dst undef) w') : wpList Tryz.prog ops Q (o :: rest) a w := by
 refine wpList_plain hg fun K' hK' => ?_
 obtain ⟨w', hrun, r1, r2, r3⟩ := h.store hk hl;unfold Oper.wp
 simp [execOp, hop, hm, hx, hv, hrun, Result.andThen]
 exact hK' _ _ (hK w' r1 r2 r3)
end

end Go.Proofs.YtpmignilhoihnaaGreat

namespace Go.Proofs.YtpmignilhoihnaaGreat
open Go.RowKit Go.Shelf

set_option maxRecDepth 100000 in
set_option maxHeartbeats 1000000 in
theorem isEntry_any {c : LC} {s : LS} {l : List ByteArray} {nb : Nat} (n : Int) (nm : ByteArray) (w : World) (h : IsL w c s) (hk : TkOk c s.tk) (hn : NSet w nb l) (hnI : I64 n) (hnm : nm.size ≤ 1000) :
  Calls Tryz.prog 46 #[LP c, .agg (SLA n nm), .map (some nb)] w fun e w' => e = .returned (.bool (isEntryB c.M c.im s n (hasN l nm))) ∧ Chg w w' No := by
 have hu := zeroU;have hzi := zero_inode;have HH := hid h;have hA := Chg.alloc w (.cells (SLA n nm) 83) No;have hN := heap_alloc_new w (.cells (SLA n nm) 83);have HNS := hid (hn.keep hA (fun e => e));have s0 : (w.alloc (.cells (SLA n nm) 83)).cell? ⟨w.heap.size, 0, none⟩ = some (.int .i64 n) := (cell_of_row _ _ _ _ _ _ hN).trans rfl;have s1 : (w.alloc (.cells (SLA n nm) 83)).cell? ⟨w.heap.size, 1, none⟩ = some (.string nm) := (cell_of_row _ _ _ _ _ _ hN).trans rfl;have hB := Chg.alloc (w.alloc (.cells (SLA n nm) 83)) (.cells #[] 92) No;have hNB := hB.keep hN (fun e => e);have t0 : ((w.alloc (.cells (SLA n nm) 83)).alloc (.cells #[] 92)).cell? ⟨w.heap.size, 0, none⟩ = some (.int .i64 n) := (cell_of_row _ _ _ _ _ _ hNB).trans rfl;have HSc := hid t0;have HSz : Hid (w.heap.size < ((w.alloc (.cells (SLA n nm) 83)).alloc (.cells #[] 92)).heap.size) := hid (slt hNB);have HCc := hid (hA.trans hB (c := No) (fun _ _ e => e) (fun _ _ e => e));have HnI := hid hnI;unfold LP
 cases hl : hasN l nm with
 | true =>
  have HNl := hid hl;have HE : Hid (isEntryB c.M c.im s n true = false) := hid rfl;rw [HE.out];clear h hk hn hA hB hN hNB hl
  go_enter Tryz.func46, Tryz.ntmps46
  go_wp2_with (first
   | (at_lookup; go_must (refine wp_okN rfl _ _ rfl nb l nm rfl rfl HNS.out hnm ?_; rw [HNl.out]))
   | fail)
  go_ret
  exact ⟨rfl, HCc.out⟩
 | false =>
  have HNl := hid hl
  by_cases h1 : n = 1
  ·have HE : Hid (isEntryB c.M c.im s n false = false) := hid (by simp [isEntryB, h1])
   rw [HE.out]
   have hb1 : (n == 1) = true := by simpa using h1
   clear h hk hn hA hB hN hNB hl h1
   go_enter Tryz.func46, Tryz.ntmps46
   go_wp2_with (first
    | (at_lookup; go_must (refine wp_okN rfl _ _ rfl nb l nm rfl rfl HNS.out hnm ?_; rw [HNl.out]))
    | fail)
   go_ret
   exact ⟨rfl, HCc.out⟩
  ·have hb1 : (n == 1) = false := by simpa using h1
   cases ht : s.tk n with
   | some z =>
    have HT := hid ht;obtain ⟨_, _, zl, _, _⟩ := hk n z ht;have HZl := hid zl;obtain ⟨K, hKe⟩ : ∃ y, y = z.getD 0 0 := ⟨_, rfl⟩;obtain ⟨Lk, hLe⟩ : ∃ y, y = z.getD 1 0 := ⟨_, rfl⟩;have HE : Hid (isEntryB c.M c.im s n false = (decide (K = 1) && decide (Lk < 100))) := hid (by rw [hKe, hLe]; simp [isEntryB, h1, ht]);have HKe := hid hKe;have HLe := hid hLe;clear hKe hLe;rw [HE.out];clear h hk hn hA hB hN hNB hl ht zl
    go_enter Tryz.func46, Tryz.ntmps46
    go_upto_region 4 with (first
     | (at_lookup; go_must (refine wp_okN rfl _ _ rfl nb l nm rfl rfl HNS.out hnm ?_; rw [HNl.out]))
     | fail)
    have HL4 := hid (HH.out.call HCc.out)
    generalize hW : (w.alloc (.cells (SLA n nm) 83)).alloc (.cells #[] 92) = W1 at *
    clear hW
    have hP := fun (W : World) (hW : Chg W1 W No) => (HL4.out.v.p.call hW).c6
    have hS := fun (W : World) (hW : Chg W1 W No) => cell_keep HSc.out hW HSz.out (fun e => e)
    have hlk : ∀ (W : World), Chg W1 W No → (Instr.lookup 57 (.map (some c.b.tb)) (.int .i64 n) true).run Tryz.prog W = .ok (.tuple #[.agg (NA z), .bool true]) W := fun W hW => by
     have := (HL4.out.call hW).t.look_ok HnI.out;rw [HT.out] at this
     exact this
    refine wp_region_noPanic ?_;refine wp_region_held_drew (S := fun w' => Chg W1 w' No) (by kernel_rfl) (Chg.refl _ _).drew (fun hH => ?_);refine tV 0 27 (.pointer (some ⟨c.b.p, 0, none⟩)) rfl (by kernel_rfl) rfl (by rfl) hH (fun W' hw' => rfl) ?_;simp only [sS];refine tV 1 28 (.pointer (some ⟨c.b.p, 0, none⟩)) rfl (by kernel_rfl) rfl (by rfl) hH (fun W' hw' => by go_simp) ?_;simp only [sS];refine tV 2 29 (.pointer (some ⟨c.b.p, 6, none⟩)) rfl (by kernel_rfl) rfl (by rfl) hH (fun W' hw' => by go_simp) ?_;simp only [sS];refine tV 3 30 (.map (some c.b.tb)) rfl (by kernel_rfl) rfl (by rfl) hH (fun W' hw' => by have hc := hP W' hw'; go_simp) ?_;simp only [sS];refine tV 4 31 (.pointer (some ⟨w.heap.size, 0, none⟩)) rfl (by kernel_rfl) rfl (by rfl) hH (fun W' hw' => by go_simp) ?_;simp only [sS];refine tV 5 32 (.int .i64 n) rfl (by kernel_rfl) rfl (by rfl) hH (fun W' hw' => by have hc := hS W' hw'; go_simp) ?_;simp only [sS];refine tV 6 33 (.tuple #[.agg (NA z), .bool true]) rfl (by kernel_rfl) rfl (by rfl) hH (fun W' hw' => by have hl := hlk W' hw'; go_simp) ?_;simp only [sS];refine tV 7 26 (.tuple #[.agg (NA z), .bool true]) rfl (by kernel_rfl) rfl (by rfl) hH (fun W' hw' => rfl) ?_;simp only [sS];refine tV 8 34 (.agg (NA z)) rfl (by kernel_rfl) rfl (by rfl) hH (fun W' hw' => by go_simp) ?_;simp only [sS];refine tV 9 35 (.bool true) rfl (by kernel_rfl) rfl (by rfl) hH (fun W' hw' => by go_simp) ?_;simp only [sS];refine step1 10 (by kernel_rfl) ?_;refine stNew 10 9 (.pointer (some ⟨W1.drew.heap.size, 0, none⟩)) (.cells (NA Zi) 51) rfl rfl (by rfl) (by go_simp) ⟨hH.trans (Chg.alloc _ _ No) (fun _ _ e => e) (fun _ _ e => e), ?_⟩;simp only [sS];refine step1 11 (by kernel_rfl) ?_;refine stStoreR 11 51 (.tmp 9) (.tmp 34) W1.drew.heap.size (NA z) 51 (NA Zi) rfl rfl (by rfl) rfl rfl rfl (heap_alloc_new _ _) (by rw [szI, NA_size, HZl.out]) (by first | rfl | (rw [NA_size, NA_size, Zi_len, HZl.out])) (NA_one _) ?_
    intro w5 hw5
    have hc5 : Chg W1 w5 No := (hH.trans (Chg.alloc _ _ No) (c := No) (fun _ _ e => e) (fun _ _ e => e)).trans (kt_new hw5) (fun _ _ e => e) (fun j hj e => by have : W1.drew.heap.size = W1.heap.size := rfl; omega);refine ⟨hc5, ?_⟩;refine tV 12 10 (.bool true) rfl (by kernel_rfl) rfl (by rfl) hc5 (fun W' hw' => rfl) ?_;simp only [sS];refine wpAnyH_done (by kernel_rfl) ?_ _;refine NoPanic.normal ?_;have HG5 := hid hw5.here;have HC5 := hid (HCc.out.trans hc5 (c := No) (fun _ _ e => e) (fun _ _ e => e));have HC15 := hid hc5;obtain ⟨g9, hg9⟩ : ∃ y, y = W1.drew.heap.size := ⟨_, rfl⟩;rw [← hg9] at HG5;rw [← hg9];clear hP hS hlk hw5 hc5 hH hg9;have z0 := row_cell HG5.out 0 (by rw [HZl.out]; decide);have z1 := row_cell HG5.out 1 (by rw [HZl.out]; decide);rw [← HKe.out] at z0;rw [← HLe.out] at z1
    by_cases hK : K = 1
    ·have hKb : (K == 1) = true := by simpa using hK
     have HK1 := hid hK;clear hK
     go_wp2_with fail
     go_ret
     exact ⟨by simp [HK1.out], HC5.out⟩
    ·have hKb : (K == 1) = false := by simpa using hK
     have HK1 := hid hK;clear hK
     go_wp2_with fail
     go_ret
     exact ⟨by simp [HK1.out], HC5.out⟩
   | none =>
    have HT := hid ht;have HZl : Hid (Zi.length = 18) := hid Zi_len;obtain ⟨r, hre⟩ : ∃ y, y = soundZ c.M c.im n := ⟨_, rfl⟩;have HE : Hid (isEntryB c.M c.im s n false = r.2) := hid (by rw [hre]; simp [isEntryB, h1, ht]);have HRe := hid hre;rw [HE.out];clear hre;clear h hk hn hA hB hN hNB hl ht;have HSl := hid (soundZ_len c.M c.im n)
    go_enter Tryz.func46, Tryz.ntmps46
    go_upto_region 4 with (first
     | (at_lookup; go_must (refine wp_okN rfl _ _ rfl nb l nm rfl rfl HNS.out hnm ?_; rw [HNl.out]))
     | fail)
    have HL4 := hid (HH.out.call HCc.out)
    generalize hW : (w.alloc (.cells (SLA n nm) 83)).alloc (.cells #[] 92) = W1 at *
    clear hW
    have hP := fun (W : World) (hW : Chg W1 W No) => (HL4.out.v.p.call hW).c6
    have hS := fun (W : World) (hW : Chg W1 W No) => cell_keep HSc.out hW HSz.out (fun e => e)
    have hlk : ∀ (W : World), Chg W1 W No → (Instr.lookup 57 (.map (some c.b.tb)) (.int .i64 n) true).run Tryz.prog W = .ok (.tuple #[.agg (NA Zi), .bool false]) W := fun W hW => by
     have := (HL4.out.call hW).t.look_ok HnI.out;rw [HT.out] at this
     exact this
    refine wp_region_noPanic ?_;refine wp_region_held_drew (S := fun w' => Chg W1 w' No) (by kernel_rfl) (Chg.refl _ _).drew (fun hH => ?_);refine tV 0 27 (.pointer (some ⟨c.b.p, 0, none⟩)) rfl (by kernel_rfl) rfl (by rfl) hH (fun W' hw' => rfl) ?_;simp only [sS];refine tV 1 28 (.pointer (some ⟨c.b.p, 0, none⟩)) rfl (by kernel_rfl) rfl (by rfl) hH (fun W' hw' => by go_simp) ?_;simp only [sS];refine tV 2 29 (.pointer (some ⟨c.b.p, 6, none⟩)) rfl (by kernel_rfl) rfl (by rfl) hH (fun W' hw' => by go_simp) ?_;simp only [sS];refine tV 3 30 (.map (some c.b.tb)) rfl (by kernel_rfl) rfl (by rfl) hH (fun W' hw' => by have hc := hP W' hw'; go_simp) ?_;simp only [sS];refine tV 4 31 (.pointer (some ⟨w.heap.size, 0, none⟩)) rfl (by kernel_rfl) rfl (by rfl) hH (fun W' hw' => by go_simp) ?_;simp only [sS];refine tV 5 32 (.int .i64 n) rfl (by kernel_rfl) rfl (by rfl) hH (fun W' hw' => by have hc := hS W' hw'; go_simp) ?_;simp only [sS];refine tV 6 33 (.tuple #[.agg (NA Zi), .bool false]) rfl (by kernel_rfl) rfl (by rfl) hH (fun W' hw' => by have hl := hlk W' hw'; go_simp) ?_;simp only [sS];refine tV 7 26 (.tuple #[.agg (NA Zi), .bool false]) rfl (by kernel_rfl) rfl (by rfl) hH (fun W' hw' => rfl) ?_;simp only [sS];refine tV 8 34 (.agg (NA Zi)) rfl (by kernel_rfl) rfl (by rfl) hH (fun W' hw' => by go_simp) ?_;simp only [sS];refine tV 9 35 (.bool false) rfl (by kernel_rfl) rfl (by rfl) hH (fun W' hw' => by go_simp) ?_;simp only [sS];refine step1 10 (by kernel_rfl) ?_;refine stNew 10 9 (.pointer (some ⟨W1.drew.heap.size, 0, none⟩)) (.cells (NA Zi) 51) rfl rfl (by rfl) (by go_simp) ⟨hH.trans (Chg.alloc _ _ No) (fun _ _ e => e) (fun _ _ e => e), ?_⟩;simp only [sS];refine step1 11 (by kernel_rfl) ?_;refine stStoreR 11 51 (.tmp 9) (.tmp 34) W1.drew.heap.size (NA Zi) 51 (NA Zi) rfl rfl (by rfl) rfl rfl rfl (heap_alloc_new _ _) (by rw [szI, NA_size, HZl.out]) (by first | rfl | (rw [NA_size, NA_size, Zi_len, HZl.out])) (NA_one _) ?_
    intro w5 hw5
    have hc5 : Chg W1 w5 No := (hH.trans (Chg.alloc _ _ No) (c := No) (fun _ _ e => e) (fun _ _ e => e)).trans (kt_new hw5) (fun _ _ e => e) (fun j hj e => by have : W1.drew.heap.size = W1.heap.size := rfl; omega);refine ⟨hc5, ?_⟩;refine tV 12 10 (.bool false) rfl (by kernel_rfl) rfl (by rfl) hc5 (fun W' hw' => rfl) ?_;simp only [sS];refine wpAnyH_done (by kernel_rfl) ?_ _;refine NoPanic.normal ?_;have HG5 := hid hw5.here;have HC5 := hid (HCc.out.trans hc5 (c := No) (fun _ _ e => e) (fun _ _ e => e));have HC15 := hid hc5;obtain ⟨g9, hg9⟩ : ∃ y, y = W1.drew.heap.size := ⟨_, rfl⟩;rw [← hg9] at HG5;rw [← hg9];clear hP hS hlk hw5 hc5 hH hg9;have hSo := sound_any n w5 (HL4.out.call HC15.out).v.p;have k0 := cell_keep HSc.out HC15.out HSz.out (fun e => e);unfold LP at hSo;rw [← HRe.out] at hSo HSl
    go_wp2_with (first
     | (go_at_call 23; go_must (refine hSo.mono ?_; rintro e w6 ⟨rfl, hc6⟩))
     | (refine store_R rfl 51 _ _ rfl w6.heap.size (NA r.1) rfl rfl 51 _ (heap_alloc_new _ _) (by rw [szI, NA_size, HSl.out]) (by rw [NA_size, NA_size, Zi_len, HSl.out]) (NA_one _) ?_; intro w7 hw7)
     | fail)
    go_ret
    refine ⟨rfl, (HC5.out.trans hc6 (c := No) (fun _ _ e => e) (fun _ _ e => e)).trans ((Chg.alloc w6 (.cells (NA Zi) 51) No).trans (kt_new hw7) (c := No) (fun _ _ e => e) (fun j hj e => by omega)) (fun _ _ e => e) (fun _ _ e => e)⟩

end Go.Proofs.YtpmignilhoihnaaGreat
