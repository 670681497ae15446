/-
 Is an image well-formed: the document's Well, walked.
-/
import Derived.Test.YtpmignilhoihnabGreatS14
import Derived.Test.YtpmignilhoihnabGreatS5
namespace Go.Proofs.YtpmignilhoihnabGreat
open Go.RowKit Go.Shelf

def WS (w0 w2 : World) (im : Img) (ia : Option Addr) (n M gS : Nat) (x : Value) (wc : World) : Prop :=
 ∃ c : SC, x = .pointer (some ⟨c.p, 0, none⟩) ∧ c.N = n ∧ c.M = M ∧ c.im = im ∧ c.ia = ia ∧ Hid (WQ w0 wc c gS (fun _ => false) (fK im 0)) ∧ Hid (Chg w2 wc No)
theorem ws_made {w0 w2 w3 : World} {im : Img} {ia : Option Addr} {ic n M sb ib gS : Nat} (hi : ImgAt w0 ia im) (hl : n = im.length) (h8 : 8 ≤ n) (h9 : n ≤ 4096) (m1 : 1 ≤ M) (m2 : M + 2 ≤ n) (h02 : Chg w0 w2 No) (hc : Chg w2 w3 No) (hs : BAt w3 sb n (fun _ => false)) (hib : InAt w3 ib (M + 1) (fun _ => Zi)) (hsb : w2.heap.size ≤ sb) (hib2 : w2.heap.size ≤ ib)
  (hg : w2.heap[gS]? = some (.cells (SUA n M) 32 (0, 0))) : WS w0 w2 im ia n M gS (.pointer (some ⟨w3.heap.size, 0, none⟩)) (w3.alloc (.cells #[.int .i64 n, .int .i64 M, .slice ia n ic, .slice (some ⟨sb, 0, none⟩) n n, .slice (some ⟨ib, 0, none⟩) (M + 1) (M + 1)] 68)) := by
 have h03 : Chg w0 w3 No := h02.trans hc (fun _ _ e => e) (fun _ _ e => e);obtain ⟨a1, a2, a3⟩ := sight_made (ic := ic) hi hl.symm h8 h9 m1 m2 h03 hs hib (Nat.le_trans h02.size hsb);have hA := Chg.alloc w3 (.cells (sightV ⟨w3.heap.size, sb, ib, n, M, ia, ic, n, M + 1, im⟩) 68) No;have hc2 : Chg w2 (w3.alloc (.cells (sightV ⟨w3.heap.size, sb, ib, n, M, ia, ic, n, M + 1, im⟩) 68)) No := hc.trans hA (fun _ _ e => e) (fun _ _ e => e)
 exact ⟨⟨w3.heap.size, sb, ib, n, M, ia, ic, n, M + 1, im⟩, rfl, rfl, rfl, rfl, rfl, hid ⟨a1, by rw [fK_zero]; exact a2, hc2.keep hg (fun e => e), a3, Nat.le_trans h02.size hsb, Nat.le_trans h02.size hib2, hi⟩, hid hc2⟩
theorem named_yes {c : SC} {sn : Int → Bool} {n : Nat} {f : Nat → List Int} (w : World) (h : NF w c sn n f) (hd : ∀ i : Int, 1 ≤ i → i ≤ c.M → kd c.im i = 2 → DirOk c.M c.im i) : Calls Tryz.prog 23 #[.pointer (some ⟨c.p, 0, none⟩)] w fun e w' => ∃ tb rb tm R, e = .returned (.tuple #[.slice (some ⟨tb, 0, none⟩) n n, .slice (some ⟨rb, 0, none⟩) n n, .bool true]) ∧ Hid (NAt w' tb n tm) ∧ Hid (BAt w' rb n R) ∧ Hid (∀ j : Int, 1 ≤ j → j ≤ c.M → tm j = (timesI c.M c.im j : Nat)) ∧ Hid (∀ j : Int, R j = true ↔ Rch c.M c.im j) ∧ Chg w w' No := by
 refine (named_any n f w h).mono ?_
 rintro e w' ⟨hc, ⟨tb, rb, tm, R, rfl, h1, h2, _, h4, h5⟩ | ⟨⟨i, i1, i2, i3, i4⟩, _⟩⟩
 ·exact ⟨tb, rb, tm, R, rfl, hid h1, hid h2, hid h4, hid h5, hc⟩
 ·exact absurd (hd i i1 i2 i3) i4
theorem named_bad {c : SC} {sn : Int → Bool} {n : Nat} {f : Nat → List Int} (w : World) (h : NF w c sn n f) (hd : ¬ ∀ i : Int, 1 ≤ i → i ≤ c.M → kd c.im i = 2 → DirOk c.M c.im i) : Calls Tryz.prog 23 #[.pointer (some ⟨c.p, 0, none⟩)] w fun e w' => e = .returned (.tuple #[.slice none 0 0, .slice none 0 0, .bool false]) ∧ Chg w w' No := by
 refine (named_any n f w h).mono ?_
 rintro e w' ⟨hc, ⟨tb, rb, tm, R, _, h1, h2, h3, _⟩ | ⟨_, rfl⟩⟩
 ·exact absurd h3 hd
 ·exact ⟨rfl, hc⟩
theorem ptrs_yes {c : SC} {sn s : Int → Bool} (z : List Int) (hz : z.length = 18) (h0 : 0 ≤ z.getD 2 0) (h1 : z.getD 2 0 ≤ 136704) (w : World) (h : IsS w c sn) (he : ptrsW c.N c.M c.im z sn = some s) :
  Calls Tryz.prog 22 #[.pointer (some ⟨c.p, 0, none⟩), .agg (NA z)] w fun e w' => e = .returned (.bool true) ∧ IsS w' c s ∧ Chg w w' (· = c.sb) := by
 refine (pointers_w z hz h0 (by omega) w h).mono ?_
 rintro e w' ⟨s', rfl, h1, h2, h3⟩
 rw [h2 s he] at h1
 exact ⟨by rw [he]; rfl, h1, h3⟩
theorem ptrs_no {c : SC} {sn : Int → Bool} (z : List Int) (hz : z.length = 18) (h0 : 0 ≤ z.getD 2 0) (h1 : z.getD 2 0 ≤ 136704) (w : World) (h : IsS w c sn) (he : ptrsW c.N c.M c.im z sn = none) :
  Calls Tryz.prog 22 #[.pointer (some ⟨c.p, 0, none⟩), .agg (NA z)] w fun e w' => e = .returned (.bool false) ∧ Chg w w' (· = c.sb) := by
 refine (pointers_w z hz h0 (by omega) w h).mono ?_
 rintro e w' ⟨s', rfl, _, _, h3⟩
 exact ⟨by rw [he]; rfl, h3⟩
structure PtrOk (M : Nat) (im : Img) : Prop where
 ino : ∀ i : Int, 1 ≤ i → i ≤ M → (rdI im i).2 = 0
 ptr : ∀ k : Nat, k < M → kd im ((k : Int) + 1) ≠ 0 → Still im.length M im (zI im ((k : Int) + 1)) (clN M im k)
theorem PtrOk.inoOk {c : SC} (hl : c.im.length = c.N) (hs : AllSec c.im) (h : PtrOk c.M c.im) {i : Int} (h1 : 1 ≤ i) (h2 : i ≤ c.M) (hk : kd c.im i ≠ 0) : InoOk c (zI c.im i) ∧ slotsI c.im i = slB c.im (zI c.im i) (cntZ (zI c.im i)).toNat := by
 obtain ⟨k, rfl⟩ : ∃ k : Nat, i = (k : Int) + 1 := ⟨(i - 1).toNat, by omega⟩;have st := h.ptr k (by omega) hk;obtain ⟨_, _, s0, s1, _⟩ := kind_size (h.ino _ h1 h2) hk;have hM := Int.natCast_nonneg c.M;have hN : (c.im.length : Int) = (c.im.length : Int) := rfl;obtain ⟨t1, t2, t3⟩ := still_tabs hM hN hs (zI_len _ _) st
 have hlN : (c.im.length : Int) = (c.N : Int) := by rw [hl]
 refine ⟨⟨zI_len _ _, ⟨fun q => by have := t1 q; omega, fun q => by have := t2 q; omega, fun q a ha q2 => by have := t3 q a ha q2; omega⟩, s0, s1, fun j hj q => by have := still_data hM hN hs (zI_len _ _) st j hj q; omega⟩, ?_⟩;refine still_slots hM hN hs st ?_ ?_
 ·unfold cntZ; omega
 ·unfold cntZ; omega
theorem slots_len {c : SC} (hl : c.im.length = c.N) (hs : AllSec c.im) (h : PtrOk c.M c.im) {i : Int} (h1 : 1 ≤ i) (h2 : i ≤ c.M) (hk : kd c.im i = 2) : (slotsI c.im i).length ≤ 1068 := by
 obtain ⟨a, b⟩ := h.inoOk hl hs h1 h2 (by omega);rw [b];have := slB_len c.im (zI c.im i) (cntZ (zI c.im i)).toNat;have h3 := a.s1
 have h4 : cntZ (zI c.im i) ≤ 1068 := by unfold cntZ; omega
 omega
theorem PtrOk.nf {c : SC} {w : World} {sn : Int → Bool} {n : Nat} (hn : n = c.M + 1) (hs : AllSec c.im) (h : PtrOk c.M c.im) (hS : IsS w c sn) (hI : InAt w c.ib n (fK c.im c.M)) : NF w c sn n (fK c.im c.M) :=
 ⟨hn, by have := hS.m2; have := hS.n2; omega, fun i h1 h2 => fK_at h1 h2, fun i h1 h2 hk => h.inoOk hS.il hs h1 h2 (by omega), fun i h1 h2 hk => slots_len hS.il hs h h1 h2 hk, hS, hI⟩
theorem wq_c0 {w0 w : World} {c : SC} {gS : Nat} {sn : Int → Bool} {f : Nat → List Int} (h : WQ w0 w c gS sn f) : w.cell? ⟨gS, 1, none⟩ = some (.int .i64 c.M) := (cell_of_row _ _ _ _ _ _ h.g).trans rfl

theorem row_range {w : World} {g : Nat} {z : List Int} {t : TypeId} (h : w.heap[g]? = some (.cells (NA z) t (0, 0))) : w.rangeAt g 0 (z.map (Value.int .i64)) := by
 intro j v hv
 rw [Nat.zero_add, cell_of_row _ _ _ _ _ _ h];unfold NA;rw [List.getElem?_toArray]
 exact hv

set_option maxHeartbeats 12000000 in
set_option maxRecDepth 100000 in
theorem well_any (ia : Option Addr) (ic : Nat) (im : Img) (w : World) (h : ImgAt w ia im) :
  Calls Tryz.prog 8 #[.slice ia im.length ic] w fun e w' => e = .returned (.bool (wellB im)) ∧ Chg w w' No := by
 obtain ⟨vb, hvb⟩ : ∃ b, b = wellB im := ⟨_, rfl⟩;have HVT : Hid (WellI im → vb = true) := hid (fun q => by rw [hvb]; exact wellB_true q);have HVF : Hid (¬ WellI im → vb = false) := hid (fun q => by rw [hvb]; exact wellB_false q);rw [← hvb];clear hvb
 have hzs : ∀ w', (zeroValue 32).run Tryz.prog w' = .ok (.agg #[.int .i64 0, .int .i64 0]) w' := fun w' => by kernel_rfl
 have HI := hid h
 by_cases hl : 8 ≤ im.length ∧ im.length ≤ 4096
 ·have HS : Hid (supOf im = if (rdSup (getV (secI im 0) 4 4) (getV (secI im 0) 8 4) (secI im 0)).2.2 = 0 ∧ (rdSup (getV (secI im 0) 4 4) (getV (secI im 0) 8 4) (secI im 0)).1 = im.length then rdSup (getV (secI im 0) 4 4) (getV (secI im 0) 8 4) (secI im 0) else (0, 0, 120)) := hid (by unfold supOf; rw [if_pos hl])
  have HOk := hid (supOf_ok (im := im))
  obtain ⟨b, o, hia, hb, hr⟩ : ∃ b o, ia = some ⟨b, o, none⟩ ∧ b < w.heap.size ∧ ∀ (j : Nat) s, im[j]? = some s → w.rangeAt b (o + j * 128) (s.map (Value.int .u8)) := by
   rcases h.2 with e | e
   ·rw [e] at hl; simp at hl
   ·exact e
  have HIa := hid hia;have hrk := hr 0 _ (getD_at (by omega));have hsec := h.secI 0;have HRK : Hid (w.rangeAt b (o + 0 * 128) ((secI im 0).map (Value.int .u8))) := hid hrk;have HSL := hid hsec.1;have hRI := rsup_c (secI im 0) hsec w;obtain ⟨n, hn⟩ : ∃ y, y = im.length := ⟨_, rfl⟩;have HN := hid hn;rw [← hn] at hl HS ⊢;obtain ⟨r, hre⟩ : ∃ y, y = rdSup (getV (secI im 0) 4 4) (getV (secI im 0) 8 4) (secI im 0) := ⟨_, rfl⟩;rw [← hre] at hRI HS
  have i1 : ¬ ((n : Int) < 8) := by omega
  have i2 : ¬ ((n : Int) > 4096) := by omega
  have i3 : (0 : Int) < (n : Int) := by omega
  have n9 : (n : Int) ≤ 4096 := by omega
  rw [hia];obtain ⟨sk, hsk⟩ : ∃ y, y = secI im 0 := ⟨_, rfl⟩;rw [← hsk] at HRK HSL hRI;obtain ⟨ra, rb, re⟩ := r
  simp only at *
  clear hr hrk hsec hn hre h hb hia hsk
  go_enter Tryz.func8, Tryz.ntmps8
  go_upto_region 4 with (first
   | (refine load_mid 36 _ rfl b (o + 0 * 128) rfl _ _ HRK.out Tryz.underlying36 rfl (by rw [sz26, List.length_map, HSL.out]) (by rfl) ?_)
   | (go_at_call 9; go_must (refine hRI.mono ?_; rintro e w1 ⟨rfl, hc1⟩))
   | (refine store_R rfl 32 _ _ rfl w1.heap.size (SUA ra rb) rfl rfl 32 _ (heap_alloc_new _ _) szSU rfl (SUA_one _ _) ?_; intro w2 hw2)
   | fail)
  have hg6 := hw2.here;have hA1 : Chg w w2 No := (hc1.trans (Chg.alloc w1 (.cells #[.int .i64 0, .int .i64 0] 32) No) (c := No) (fun _ _ e => e) (fun _ _ e => e)).trans (kt_new hw2) (fun _ _ e => e) (fun j hj e => by have := hc1.size; omega);have HC2 := hid hA1;have HG6 := hid hg6;obtain ⟨gS, hgS⟩ : ∃ x, x = w1.heap.size := ⟨_, rfl⟩;rw [← hgS] at HG6 hg6 ⊢;have hcr : w2.cell? ⟨gS, 0, none⟩ = some (.int .i64 ra) := (cell_of_row _ _ _ _ _ _ hg6).trans rfl;have hcr1 : w2.cell? ⟨gS, 1, none⟩ = some (.int .i64 rb) := (cell_of_row _ _ _ _ _ _ hg6).trans rfl;clear hg6 hw2 hc1 hA1 hRI HRK HSL hgS
  by_cases he : re = 0
  ·by_cases hn : ra = (n : Int)
   ·subst he hn
    have hsup : supOf im = ((n : Int), rb, 0) := by rw [HS.out, if_pos ⟨rfl, rfl⟩]
    obtain ⟨_, _, _, m1, m2⟩ := HOk.out (by rw [hsup]);rw [hsup, ← HN.out] at m2;rw [hsup] at m1
    simp only at m1 m2
    obtain ⟨M, rfl⟩ : ∃ M : Nat, rb = (M : Int) := ⟨rb.toNat, by omega⟩;have HWI : Hid (WellI im ↔ WellP M im) := hid (by unfold WellI; rw [hsup]; simp)
    have hM1 : 1 ≤ M := by omega
    have hM2 : M + 2 ≤ n := by omega
    clear HS HOk hsup m1 m2;have hmB := make_bools n (by omega);have hmI := make_inos (M + 1) (by omega)
    have hMn : ((M + 1 : Nat) : Int) = (M : Int) + 1 := by omega
    rw [hMn] at hmI
    have wM : IntKind.i64.wrap ((M : Int) + 1) = (M : Int) + 1 := by rw [IntKind.wrap_i64]; omega
    have HmB := hid hmB;have HmI := hid hmI;clear hmB hmI hMn
    go_upto_region 6 with fail
    go_cut [5] (fun x5 wc => WS w w2 im (some ⟨b, o, none⟩) n M gS x5 wc)
    case first =>
     refine wp_region_noPanic ?_;refine wp_region_held_drew (S := fun w' => Chg w2 w' No) (by kernel_rfl) (Chg.refl _ _).drew (fun hH => ?_);refine takeR 0 38 32 (.tmp 3) gS 32 (SUA n M) _ rfl (by kernel_rfl) (by kernel_rfl) (by kernel_rfl) rfl rfl rfl Tryz.underlying32 rfl szSU (by rfl) (fun _ _ _ h => h) hH (fun W' hw' => Chg.keep hw' HG6.out (fun e => e)) ?_;simp only [sS];refine tV 1 39 (.slice (some ⟨b, o, none⟩) n ic) rfl (by kernel_rfl) rfl (by rfl) hH (fun W' hw' => rfl) ?_;simp only [sS];refine tV 2 40 (.slice (some ⟨b, o, none⟩) n ic) rfl (by kernel_rfl) rfl (by rfl) hH (fun W' hw' => rfl) ?_;simp only [sS];refine tV 3 41 (.int .i64 (n : Int)) rfl (by kernel_rfl) rfl (by rfl) hH (fun W' hw' => by go_simp) ?_;simp only [sS];refine tV 5 43 (.pointer (some ⟨gS, 1, none⟩)) rfl (by kernel_rfl) rfl (by rfl) hH (fun W' hw' => by go_simp) ?_;simp only [sS];refine tV 6 44 (.int .i64 (M : Int)) rfl (by kernel_rfl) rfl (by rfl) hH (fun W' hw' => by have hc := cell_keep hcr1 hw' (slt HG6.out) (fun e => e); go_simp) ?_;simp only [sS]
     refine tV 7 45 (.int .i64 ((M : Int) + 1)) rfl (by kernel_rfl) rfl (by rfl) hH (fun W' hw' => by go_simp <;> exact wM) ?_
     simp only [sS];obtain ⟨W, hW⟩ : ∃ W, W = w2.drew := ⟨_, rfl⟩
     have hH0 : Chg w2 W No := by rw [hW]; exact hH
     rw [← hW];clear hH hW;refine step2 4 8 (by kernel_rfl) ?_ ?_
     ·as_aux_lemma =>
       refine stNew 4 42 (.slice (some ⟨W.heap.size, 0, none⟩) n n) (.cells (UA n) 4) rfl rfl (by rfl) (by have e := HmB.out W; go_simp) ?_;have fsb := bat_made W n;have hH1 : Chg w2 (W.alloc (.cells (UA n) 4)) No := hH0.trans (Chg.alloc _ _ No) (fun _ _ e => e) (fun _ _ e => e);refine ⟨hH1, ?_⟩;simp only [sS];obtain ⟨sb, hsb⟩ : ∃ x, x = W.heap.size := ⟨_, rfl⟩
       have lsb : w2.heap.size ≤ sb := by rw [hsb]; exact hH0.size
       have hzsb : (W.alloc (.cells (UA n) 4)).heap.size = sb + 1 := by rw [hsb]; simp
       rw [← hsb] at fsb ⊢
       generalize W.alloc (.cells (UA n) 4) = V1 at *
       clear hsb;refine step1 8 (by kernel_rfl) ?_;have gsb := fsb.keep (Chg.alloc V1 (.cells (IA18 (M + 1)) 39) No) (fun e => e);refine stNew 8 46 (.slice (some ⟨V1.heap.size, 0, none⟩) (M + 1) (M + 1)) (.cells (IA18 (M + 1)) 39) rfl rfl (by rfl) (by have e := HmI.out V1; go_simp) ?_;have fib := inat_made V1 (M + 1);have hH2 : Chg w2 (V1.alloc (.cells (IA18 (M + 1)) 39)) No := hH1.trans (Chg.alloc _ _ No) (fun _ _ e => e) (fun _ _ e => e);refine ⟨hH2, ?_⟩;simp only [sS];obtain ⟨ib, hib⟩ : ∃ x, x = V1.heap.size := ⟨_, rfl⟩
       have lib : w2.heap.size ≤ ib := by rw [hib]; exact hH1.size
       have hzib : (V1.alloc (.cells (IA18 (M + 1)) 39)).heap.size = ib + 1 := by rw [hib]; simp
       rw [← hib] at fib ⊢
       generalize V1.alloc (.cells (IA18 (M + 1)) 39) = V2 at *
       clear hib;clear fsb hzsb hzib HmB HmI;refine tV 9 47 (.agg #[.int .i64 (n : Int), .int .i64 (M : Int), .slice (some ⟨b, o, none⟩) n ic, .slice (some ⟨sb, 0, none⟩) n n, .slice (some ⟨ib, 0, none⟩) (M + 1) (M + 1)]) rfl (by kernel_rfl) rfl (by rfl) hH2 (fun W' hw' => by unfold SUA; go_simp) ?_;simp only [sS];refine step1 10 (by kernel_rfl) ?_;refine stNew 10 48 (.pointer (some ⟨V2.heap.size, 0, none⟩)) (.cells #[.int .i64 (n : Int), .int .i64 (M : Int), .slice (some ⟨b, o, none⟩) n ic, .slice (some ⟨sb, 0, none⟩) n n, .slice (some ⟨ib, 0, none⟩) (M + 1) (M + 1)] 68) rfl rfl (by rfl) (by go_simp) ?_;have hH3 : Chg w2 (V2.alloc (.cells #[.int .i64 (n : Int), .int .i64 (M : Int), .slice (some ⟨b, o, none⟩) n ic, .slice (some ⟨sb, 0, none⟩) n n, .slice (some ⟨ib, 0, none⟩) (M + 1) (M + 1)] 68)) No := hH2.trans (Chg.alloc _ _ No) (fun _ _ e => e) (fun _ _ e => e);refine ⟨hH3, ?_⟩;simp only [sS];refine tV 11 5 (.pointer (some ⟨V2.heap.size, 0, none⟩)) rfl (by kernel_rfl) rfl (by rfl) hH3 (fun W' hw' => rfl) ?_;simp only [sS];have HWS := hid (ws_made (ic := ic) (by have := HI.out; rw [HIa.out] at this; exact this) HN.out (by omega) (by omega) hM1 hM2 HC2.out hH2 gsb fib lsb lib HG6.out);clear hH3 hH2 hH1 hH0;refine wpAnyH_done (by kernel_rfl) ?_ _;refine NoPanic.normal ?_
       go_wp2_with fail
       go_meet
       case rel => exact HWS.out
     ·as_aux_lemma =>
       refine stNew 8 46 (.slice (some ⟨W.heap.size, 0, none⟩) (M + 1) (M + 1)) (.cells (IA18 (M + 1)) 39) rfl rfl (by rfl) (by have e := HmI.out W; go_simp) ?_;have fib := inat_made W (M + 1);have hH1 : Chg w2 (W.alloc (.cells (IA18 (M + 1)) 39)) No := hH0.trans (Chg.alloc _ _ No) (fun _ _ e => e) (fun _ _ e => e);refine ⟨hH1, ?_⟩;simp only [sS];obtain ⟨ib, hib⟩ : ∃ x, x = W.heap.size := ⟨_, rfl⟩
       have lib : w2.heap.size ≤ ib := by rw [hib]; exact hH0.size
       have hzib : (W.alloc (.cells (IA18 (M + 1)) 39)).heap.size = ib + 1 := by rw [hib]; simp
       rw [← hib] at fib ⊢
       generalize W.alloc (.cells (IA18 (M + 1)) 39) = V1 at *
       clear hib;refine step1 4 (by kernel_rfl) ?_;have gib := fib.keep (Chg.alloc V1 (.cells (UA n) 4) No) (fun e => e);refine stNew 4 42 (.slice (some ⟨V1.heap.size, 0, none⟩) n n) (.cells (UA n) 4) rfl rfl (by rfl) (by have e := HmB.out V1; go_simp) ?_;have fsb := bat_made V1 n;have hH2 : Chg w2 (V1.alloc (.cells (UA n) 4)) No := hH1.trans (Chg.alloc _ _ No) (fun _ _ e => e) (fun _ _ e => e);refine ⟨hH2, ?_⟩;simp only [sS];obtain ⟨sb, hsb⟩ : ∃ x, x = V1.heap.size := ⟨_, rfl⟩
       have lsb : w2.heap.size ≤ sb := by rw [hsb]; exact hH1.size
       have hzsb : (V1.alloc (.cells (UA n) 4)).heap.size = sb + 1 := by rw [hsb]; simp
       rw [← hsb] at fsb ⊢
       generalize V1.alloc (.cells (UA n) 4) = V2 at *
       clear hsb;clear fib hzib hzsb HmB HmI;refine tV 9 47 (.agg #[.int .i64 (n : Int), .int .i64 (M : Int), .slice (some ⟨b, o, none⟩) n ic, .slice (some ⟨sb, 0, none⟩) n n, .slice (some ⟨ib, 0, none⟩) (M + 1) (M + 1)]) rfl (by kernel_rfl) rfl (by rfl) hH2 (fun W' hw' => by unfold SUA; go_simp) ?_;simp only [sS];refine step1 10 (by kernel_rfl) ?_;refine stNew 10 48 (.pointer (some ⟨V2.heap.size, 0, none⟩)) (.cells #[.int .i64 (n : Int), .int .i64 (M : Int), .slice (some ⟨b, o, none⟩) n ic, .slice (some ⟨sb, 0, none⟩) n n, .slice (some ⟨ib, 0, none⟩) (M + 1) (M + 1)] 68) rfl rfl (by rfl) (by go_simp) ?_;have hH3 : Chg w2 (V2.alloc (.cells #[.int .i64 (n : Int), .int .i64 (M : Int), .slice (some ⟨b, o, none⟩) n ic, .slice (some ⟨sb, 0, none⟩) n n, .slice (some ⟨ib, 0, none⟩) (M + 1) (M + 1)] 68)) No := hH2.trans (Chg.alloc _ _ No) (fun _ _ e => e) (fun _ _ e => e);refine ⟨hH3, ?_⟩;simp only [sS];refine tV 11 5 (.pointer (some ⟨V2.heap.size, 0, none⟩)) rfl (by kernel_rfl) rfl (by rfl) hH3 (fun W' hw' => rfl) ?_;simp only [sS];have HWS := hid (ws_made (ic := ic) (by have := HI.out; rw [HIa.out] at this; exact this) HN.out (by omega) (by omega) hM1 hM2 HC2.out hH2 fsb gib lsb lib HG6.out);clear hH3 hH2 hH1 hH0;refine wpAnyH_done (by kernel_rfl) ?_ _;refine NoPanic.normal ?_
       go_wp2_with fail
       go_meet
       case rel => exact HWS.out
    case rest =>
     obtain ⟨c, rfl, rfl, rfl, rfl, hia, HQ, HC3⟩ := hcut;have hIm := HI.out;rw [HIa.out, ← hia] at hIm;have HSec : Hid (AllSec c.im) := hid (fun n => hIm.secI n)
     have HRm : Hid (∀ W, Chg w W No → ∀ m : Nat, m < c.N → W.rangeAt b (o + m * 128) ((secI c.im (m : Int)).map (Value.int .u8))) := hid (fun W hW m hm => by
      rcases (hIm.keep hW (fun _ _ e => e)).2 with e | ⟨b', o', e1, _, e3⟩
      ·have h1 := HQ.out.s.il; have h2 := HQ.out.s.n1; rw [e] at h1; simp at h1; omega
      ·rw [hia] at e1
       cases e1
       exact e3 m _ (getD_at (by rw [HQ.out.s.il]; exact hm)))
     have HWW : Hid (WellI c.im ↔ WellW c.M c.im) := hid (HWI.out.trans (well_iff HSec.out).symm);have HIl : Hid (c.im.length = c.N) := hid HQ.out.s.il;obtain ⟨w3, hw3⟩ : ∃ x : World, x = wc := ⟨_, rfl⟩;rw [← hw3] at HQ HC3 ⊢
     have m9 : (c.M : Int) ≤ 4096 := by omega
     have HM2 := hid hM2;clear hw3 wc hIm hia HWI HG6 hcr hcr1 HmB HmI wM HI HIa HN HC2 HC3 hM2
     go_wp2_with fail
     go_loopw [6] (fun x6 wr => ∃ k : Nat, k ≤ c.M ∧ x6 = .int .i64 ((k : Int) + 1) ∧ Hid (WQ w wr c gS (fun _ => false) (fK c.im k)) ∧ Hid (∀ i : Int, 1 ≤ i → i ≤ k → (rdI c.im i).2 = 0)) (fun x6 _ => c.M + 1 - (intOf x6).toNat)
     case atStart => exact ⟨0, by omega, rfl, HQ, hid (fun i h1 h2 => by simp at h2; omega)⟩
     case round =>
      clear HQ;obtain ⟨k, hk, rfl, HQ, HE⟩ := hrel;have c1 := wq_c0 HQ.out
      by_cases hlt : k < c.M
      ·have i0 : (0 : Int) ≤ (k : Int) + 1 := by omega
       have i4 : (k : Int) + 1 ≤ (c.M : Int) := by omega
       have i5 : (k : Int) + 1 < (c.N : Int) := by have := HM2.out; omega
       have i6 : (k : Int) + 1 < (c.M : Int) + 1 := by omega
       obtain ⟨sk, hsk⟩ : ∃ x, x = secI c.im ((k : Int) + 1) := ⟨_, rfl⟩;have HSk : Hid (IsSec sk) := hid (by rw [hsk]; exact HSec.out _)
       have HRg : Hid (∀ W, Chg wr W No → W.rangeAt b (o + (k + 1) * 128) (sk.map (Value.int .u8))) := hid (fun W hW => by
        have := HRm.out W (HQ.out.ch.trans hW (fun _ _ e => e) (fun _ _ e => e)) (k + 1) (by have := HM2.out; omega);rw [hsk]
        exact this)
       have hRI := fun W => rinode_c sk HSk.out W
       have HRd : Hid (rdIno (zTo sk 18) sk = rdI c.im ((k : Int) + 1)) := hid (by unfold rdI; rw [hsk]);rw [HRd.out] at hRI;obtain ⟨z, hz⟩ : ∃ x, x = zI c.im ((k : Int) + 1) := ⟨_, rfl⟩;have HZ := hid hz;have HZl : Hid (z.length = 18) := hid (by rw [hz]; exact zI_len _ _);obtain ⟨er, her⟩ : ∃ x, x = (rdI c.im ((k : Int) + 1)).2 := ⟨_, rfl⟩;have HEr := hid her
       have HRI : Hid (∀ W, Calls Tryz.prog 10 #[.agg (SA sk)] W fun e w' => e = .returned (.tuple #[.agg (NA z), .int .i64 er]) ∧ Chg W w' No) := hid (by
        rw [hz, her]
        exact hRI)
       clear hsk hz her hRI HRd
       have HP4 : Hid (∀ W, Chg wr W (· = c.ib) → W.cell? ⟨c.p, 4, none⟩ = some (.slice (some ⟨c.ib, 0, none⟩) (c.M + 1) c.jc)) := hid (fun W hW => by
        obtain ⟨A, hA, _⟩ := HQ.out.i;have n1 : c.p ≠ c.ib := obj_ne HQ.out.s.me hA (by intro e; cases e)
        exact (cell_of_row _ _ _ _ _ _ (hW.keep HQ.out.s.me n1)).trans rfl)
       go_upto_region 10 with fail
       refine wp_region_noPanic ?_;refine wp_region_held_drew (S := fun w' => Chg wr w' (· = c.ib)) (by kernel_rfl) (Chg.refl _ _).drew (fun hH => ?_)
       as_aux_lemma =>
        refine tV 0 56 (.pointer (some ⟨c.p, 0, none⟩)) rfl (by kernel_rfl) rfl (by rfl) hH (fun W' hw' => rfl) ?_;simp only [sS];refine tV 1 57 (.pointer (some ⟨c.p, 0, none⟩)) rfl (by kernel_rfl) rfl (by rfl) hH (fun W' hw' => by go_simp) ?_;simp only [sS];refine tV 2 58 (.pointer (some ⟨c.p, 4, none⟩)) rfl (by kernel_rfl) rfl (by rfl) hH (fun W' hw' => by go_simp) ?_;simp only [sS];refine tV 3 59 (.slice (some ⟨c.ib, 0, none⟩) (c.M + 1) c.jc) rfl (by kernel_rfl) rfl (by rfl) hH (fun W' hw' => by have hc := HP4.out W' hw'; go_simp) ?_;simp only [sS];refine tV 4 60 (.int .i64 ((k : Int) + 1)) rfl (by kernel_rfl) rfl (by rfl) hH (fun W' hw' => rfl) ?_;simp only [sS];refine tV 5 61 (.slice (some ⟨b, o, none⟩) c.N ic) rfl (by kernel_rfl) rfl (by rfl) hH (fun W' hw' => rfl) ?_;simp only [sS];refine tV 6 62 (.int .i64 ((k : Int) + 1)) rfl (by kernel_rfl) rfl (by rfl) hH (fun W' hw' => rfl) ?_;simp only [sS];refine tV 7 63 (.pointer (some ⟨b, o + (k + 1) * 128, none⟩)) rfl (by kernel_rfl) rfl (by rfl) hH (fun W' hw' => by go_simp) ?_;simp only [sS];refine step1 8 (by kernel_rfl) ?_;refine stSecV 8 64 (.tmp 63) b (o + (k + 1) * 128) sk HSk.out.1 rfl rfl rfl rfl (by rfl) hH (HRg.out _ (Chg.refl _ _).drew) ?_;simp only [sS];refine step1 9 (by kernel_rfl) ?_;refine stCall 9 65 10 #[.agg (SA sk)] _ rfl rfl (by rfl) (by go_simp) (HRI.out _) ?_
        rintro e w5 ⟨rfl, hb5⟩
        have hc5n : Chg wr w5 No := ((Chg.refl wr No).drew).trans hb5 (fun _ _ e => e) (fun _ _ e => e)
        have hc5 : Chg wr w5 (· = c.ib) := hc5n.mono fun _ _ e => e.elim
        have HQ5 := hid (HQ.out.step hc5n);clear hb5;refine ⟨_, rfl, hc5, ?_⟩;simp only [sS];refine tV 10 55 (.tuple #[.agg (NA z), .int .i64 er]) rfl (by kernel_rfl) rfl (by rfl) hc5 (fun W' hw' => rfl) ?_;simp only [sS];refine tV 11 66 (.agg (NA z)) rfl (by kernel_rfl) rfl (by rfl) hc5 (fun W' hw' => by go_simp) ?_;simp only [sS];refine tV 12 67 (.int .i64 er) rfl (by kernel_rfl) rfl (by rfl) hc5 (fun W' hw' => by go_simp) ?_;simp only [sS];refine tV 13 68 (.pointer (some ⟨c.ib, (k + 1) * 18, none⟩)) rfl (by kernel_rfl) rfl (by rfl) hc5 (fun W' hw' => by go_simp) ?_;simp only [sS];refine step1 14 (by kernel_rfl) ?_;refine stStoreN 14 (.tmp 68) (.tmp 66) c.ib (k + 1) (c.M + 1) z (fK c.im k) rfl rfl (by rfl) rfl rfl rfl HZl.out HQ5.out.i (by omega) ?_
        intro w6 hi6 hc6
        have hH6 : Chg wr w6 (· = c.ib) := hc5.trans hc6 (fun _ _ e => e) (fun _ _ e => e)
        have HQ6 : Hid (WQ w w6 c gS (fun _ => false) (fK c.im (k + 1))) := hid (by
         have e := fK_succ c.im k;rw [← HZ.out] at e;rw [e] at hi6
         exact HQ5.out.note hi6 hc6)
        clear hi6 hc6 HQ5 hc5 hc5n;refine ⟨hH6, ?_⟩;refine tV 15 4 (.int .i64 er) rfl (by kernel_rfl) rfl (by rfl) hH6 (fun W' hw' => rfl) ?_;simp only [sS];refine wpAnyH_done (by kernel_rfl) ?_ _;refine NoPanic.normal ?_;clear hH6 hH
        by_cases her : er = 0
        ·subst her
         go_wp2_with fail
         exact ⟨⟨k + 1, by omega, by go_num, HQ6, hid (fun i h1 h2 => by
          by_cases e : i = (k : Int) + 1
          ·rw [e]; exact HEr.out.symm
          ·exact HE.out i h1 (by omega))⟩, by simp [intOf]; omega⟩
        ·have herb : (er == 0) = false := beq_eq_false_iff_ne.2 her
         have HV : Hid (vb = false) := hid (HVF.out fun q => her (by
          rw [HEr.out]
          exact (HWW.out.1 q).ino ((k : Int) + 1) (by omega) (by omega)))
         go_wp2_with fail
         go_ret
         exact ⟨by rw [HV.out]; rfl, HQ6.out.ch⟩
      ·have i4 : ¬ (k : Int) + 1 ≤ (c.M : Int) := by omega
       obtain rfl : k = c.M := by omega
       have HE2 := hid HE.out;clear HE
       go_wp2_with fail
       obtain ⟨w4, hw4⟩ : ∃ x : World, x = wr := ⟨_, rfl⟩;rw [← hw4] at HQ ⊢;clear hw4 c1 wr
       go_loopw [7] (fun x7 wr => ∃ k : Nat, k ≤ c.M ∧ x7 = .int .i64 ((k : Int) + 1) ∧ Hid (WQ w wr c gS (clN c.M c.im k) (fK c.im c.M)) ∧ Hid (∀ j : Nat, j < k → kd c.im ((j : Int) + 1) ≠ 0 → Still c.im.length c.M c.im (zI c.im ((j : Int) + 1)) (clN c.M c.im j))) (fun x7 _ => c.M + 1 - (intOf x7).toNat)
       case atStart => exact ⟨0, by omega, rfl, HQ, hid (fun j h => by omega)⟩
       case round =>
        clear HQ;obtain ⟨k, hk, rfl, HQ, HS⟩ := hrel;have c1 := wq_c0 HQ.out;have c4 := HQ.out.s.c4
        by_cases hlt : k < c.M
        ·have i0 : (0 : Int) ≤ (k : Int) + 1 := by omega
         have i4 : (k : Int) + 1 ≤ (c.M : Int) := by omega
         have i6 : (k : Int) + 1 < (c.M : Int) + 1 := by omega
         have hcast : ((k + 1 : Nat) : Int) = (k : Int) + 1 := by omega
         have hfk : fK c.im c.M (k + 1) = zI c.im ((k : Int) + 1) := by rw [fK_at (by omega) (by omega), hcast]
         have q0 := HQ.out.i.cell0 (i := k + 1) (by omega);have HRg := hid (HQ.out.i.range (i := k + 1) (by omega) (by rw [hfk]; exact zI_len _ _));rw [hfk] at q0 HRg;obtain ⟨z, hz⟩ : ∃ x, x = zI c.im ((k : Int) + 1) := ⟨_, rfl⟩;have HZ := hid hz;have HZl : Hid (z.length = 18) := hid (by rw [hz]; exact zI_len _ _);rw [← hz] at q0 HRg;have HKd : Hid (kd c.im ((k : Int) + 1) = z.getD 0 0) := hid (by rw [hz]; rfl);have HIo := hid (HE2.out ((k : Int) + 1) (by omega) (by omega));have HCl := hid (clN_succ c.M c.im k);clear hz hfk hcast;obtain ⟨kv, hkv⟩ : ∃ x, x = z.getD 0 0 := ⟨_, rfl⟩;rw [← hkv] at q0 HKd;clear hkv
         by_cases hk0 : kv = 0
         ·have HQn : Hid (WQ w wr c gS (clN c.M c.im (k + 1)) (fK c.im c.M)) := hid (by rw [HCl.out, if_pos (by rw [HKd.out]; exact hk0)]; exact HQ.out)
          have HSn : Hid (∀ j : Nat, j < k + 1 → kd c.im ((j : Int) + 1) ≠ 0 → Still c.im.length c.M c.im (zI c.im ((j : Int) + 1)) (clN c.M c.im j)) := hid (fun j hj hkj => by
           by_cases e : j = k
           ·subst e; exact absurd (HKd.out.trans hk0) hkj
           ·exact HS.out j (by omega) hkj)
          subst hk0
          go_wp2_with fail
          exact ⟨⟨k + 1, by omega, by go_num, HQn, HSn⟩, by simp [intOf]; omega⟩
         ·have hkb : (kv == 0) = false := beq_eq_false_iff_ne.2 hk0
          have HKn : Hid (kd c.im ((k : Int) + 1) ≠ 0) := hid (by rw [HKd.out]; exact hk0);obtain ⟨_, _, s0, s1, _⟩ := kind_size HIo.out HKn.out;rw [← HZ.out] at s0 s1;have HZ0 := hid s0;have HZ1 := hid s1;have HIt := hid (fun s' => ptrsW_iff (im := c.im) (Int.natCast_nonneg c.M) (by rw [HIl.out]) HSec.out HZl.out (clN c.M c.im k) s' (N := (c.N : Int)));clear s0 s1
          cases hp : ptrsW c.N c.M c.im z (clN c.M c.im k) with
          | none =>
           have HPn := hid (ptrs_no z HZl.out HZ0.out HZ1.out wr HQ.out.s hp)
           have HV : Hid (vb = false) := hid (HVF.out fun q => by
            have st := (HWW.out.1 q).ptr k hlt HKn.out;rw [HIl.out, ← HZ.out] at st;have := (HIt.out _).2 ⟨st, rfl⟩;rw [hp] at this
            cases this)
           clear hp
           go_wp2_with (first
            | (refine load_mid 39 _ rfl c.ib ((k + 1) * 18) rfl _ _ HRg.out Tryz.underlying39 rfl (by rw [szI, List.length_map, HZl.out]) (by first | rfl | go_simp) ?_)
            | (go_at_call 22; go_must (refine HPn.out.mono ?_; rintro e w5 ⟨rfl, hc5⟩))
            | fail)
           go_ret
           exact ⟨by rw [HV.out]; rfl, HQ.out.ch.trans hc5 (fun _ _ e => e) (fun j hj e => by have := HQ.out.nsb; omega)⟩
          | some s' =>
           have HPy := hid (ptrs_yes z HZl.out HZ0.out HZ1.out wr HQ.out.s hp);obtain ⟨st, hcl⟩ := (HIt.out s').1 hp
           have HCl2 : Hid (clN c.M c.im (k + 1) = s') := hid (by
            rw [HCl.out, if_neg HKn.out, ← HZ.out, HIl.out]
            exact hcl)
           have HSn : Hid (∀ j : Nat, j < k + 1 → kd c.im ((j : Int) + 1) ≠ 0 → Still c.im.length c.M c.im (zI c.im ((j : Int) + 1)) (clN c.M c.im j)) := hid (fun j hj hkj => by
            by_cases e : j = k
            ·subst e
             rw [HIl.out, ← HZ.out]
             exact st
            ·exact HS.out j (by omega) hkj)
           clear hp st hcl
           go_wp2_with (first
            | (refine load_mid 39 _ rfl c.ib ((k + 1) * 18) rfl _ _ HRg.out Tryz.underlying39 rfl (by rw [szI, List.length_map, HZl.out]) (by first | rfl | go_simp) ?_)
            | (go_at_call 22; go_must (refine HPy.out.mono ?_; rintro e w5 ⟨rfl, hs5, hc5⟩))
            | fail)
           exact ⟨⟨k + 1, by omega, by go_num, hid (by rw [HCl2.out]; exact HQ.out.ptrs hs5 hc5), HSn⟩, by simp [intOf]; omega⟩
        ·have i4 : ¬ (k : Int) + 1 ≤ (c.M : Int) := by omega
         obtain rfl : k = c.M := by omega
         have hPO : PtrOk c.M c.im := ⟨HE2.out, HS.out⟩;have HPO := hid hPO;have hfk : fK c.im c.M 1 = zI c.im 1 := fK_at (by omega) (by omega);have q0 := HQ.out.i.cell0 (i := 1) (by omega);rw [hfk] at q0;have q1 : wr.cell? ⟨c.ib, 18, none⟩ = some (.int .i64 (kd c.im 1)) := q0
         have i7 : (1 : Int) < (c.M : Int) + 1 := by omega
         obtain ⟨kv, hkv⟩ : ∃ x, x = kd c.im 1 := ⟨_, rfl⟩;rw [← hkv] at q1;have HKv := hid hkv;have HNF := hid (hPO.nf rfl HSec.out HQ.out.s HQ.out.i);clear hkv q0 hfk hPO
         by_cases hroot : kv = 2
         ·have HRoot : Hid (kd c.im 1 = 2) := hid (by rw [← HKv.out]; exact hroot)
          subst hroot
          by_cases hD : ∀ i : Int, 1 ≤ i → i ≤ c.M → kd c.im i = 2 → DirOk c.M c.im i
          ·have HNm := hid (named_yes wr HNF.out hD)
           have HD := hid hD;clear hD
           go_wp2_with (first
            | (go_at_call 23; go_must (refine HNm.out.mono ?_; rintro e w5 ⟨tb, rb, tm, R, rfl, HTb, HRb, Htm, HRc, hc5⟩))
            | fail)
           have HQ5 := hid (HQ.out.step hc5);clear hc5 HQ HNm c1 c4 q1
           go_loopw [11] (fun x11 wr => ∃ i : Int, 1 ≤ i ∧ i ≤ (c.M : Int) + 1 ∧ x11 = .int .i64 i ∧ Hid (Chg w5 wr No) ∧ Hid (∀ d : Int, 1 ≤ d → d < i → kd c.im d ≠ 0 → InoFin c.M c.im d)) (fun x11 _ => c.M + 1 - (intOf x11).toNat)
           case atStart => exact ⟨1, by omega, by omega, rfl, hid (Chg.refl _ _), hid (fun d h1 h2 => by omega)⟩
           case round =>
            obtain ⟨i, hi1, hi2, rfl, HC, HF⟩ := hrel;have HQr := hid (HQ5.out.step HC.out);have c1 := wq_c0 HQr.out;have c4 := HQr.out.s.c4
            by_cases hlt : i ≤ (c.M : Int)
            ·have i0 : (0 : Int) ≤ i := by omega
             have i6 : i < (c.M : Int) + 1 := by omega
             have hcast : ((i.toNat : Nat) : Int) = i := by omega
             have hfk : fK c.im c.M i.toNat = zI c.im i := by rw [fK_at (by omega) (by omega), hcast]
             have HRg := hid (HQr.out.i.range (i := i.toNat) (by omega) (by rw [hfk]; exact zI_len _ _));rw [hfk] at HRg;obtain ⟨z, hz⟩ : ∃ x, x = zI c.im i := ⟨_, rfl⟩;have HZ := hid hz;have HZl : Hid (z.length = 18) := hid (by rw [hz]; exact zI_len _ _);rw [← hz] at HRg;have HKz : Hid (kd c.im i = z.getD 0 0) := hid (by rw [hz]; rfl);have HCa := hid hcast;clear hz hfk hcast;have hzi := zero_inode
             go_upto_region 27 with (first
              | (refine load_mid 39 _ rfl c.ib (i.toNat * 18) rfl _ _ HRg.out Tryz.underlying39 rfl (by rw [szI, List.length_map, HZl.out]) (by rfl) ?_)
              | (refine store_R rfl 39 _ _ rfl wr.heap.size (NA z) rfl rfl 39 _ (heap_alloc_new _ _) (by rw [szI, NA_size, HZl.out]) (by rw [NA_size, NA_size, HZl.out]; rfl) (NA_one _) ?_; intro w6 hw6)
              | fail)
             have HC6 : Hid (Chg wr w6 No) := hid ((Chg.alloc wr _ No).trans (kt_new hw6) (fun _ _ e => e) (fun j hj e => by omega));have hgz := hw6.here;obtain ⟨g, hg⟩ : ∃ x, x = wr.heap.size := ⟨_, rfl⟩;rw [← hg] at hgz ⊢;have HRow : Hid (w6.rangeAt g 0 (z.map (Value.int .i64))) := hid (row_range hgz);have y0 := row_cell hgz 0 (by rw [HZl.out]; omega);have y1 := row_cell hgz 1 (by rw [HZl.out]; omega);have HQ6 := hid (HQr.out.step HC6.out);obtain ⟨kv, hkv⟩ : ∃ x, x = z.getD 0 0 := ⟨_, rfl⟩;have HKd : Hid (kd c.im i = kv) := hid (by rw [hkv]; exact HKz.out);obtain ⟨lv, hlv⟩ : ∃ x, x = z.getD 1 0 := ⟨_, rfl⟩;have HLv := hid hlv;rw [← hkv] at y0;rw [← hlv] at y1;clear hg hgz hw6 hkv hlv hzi HKz c1 c4 HQr
             by_cases hk0 : kv = 0
             ·have HKn : Hid (kd c.im i = 0) := hid (by rw [HKd.out]; exact hk0)
              subst hk0
              go_wp2_with fail
              exact ⟨⟨i + 1, by omega, by omega, by go_num, hid (HC.out.trans HC6.out (fun _ _ e => e) (fun _ _ e => e)), hid (fun d h1 h2 h3 => by
               by_cases e : d = i
               ·subst e; exact absurd HKn.out h3
               ·exact HF.out d h1 (by omega) h3)⟩, by simp [intOf]; omega⟩
             ·have hkb : (kv == 0) = false := beq_eq_false_iff_ne.2 hk0
              have HKn : Hid (kd c.im i ≠ 0) := hid (by rw [HKd.out]; exact hk0);have hIO := (HPO.out.inoOk HIl.out HSec.out hi1 hlt HKn.out).1;rw [← HZ.out] at hIO;have HTl := hid (tail_any z hIO w6 HQ6.out.s);have hc56 : Chg w5 w6 No := HC.out.trans HC6.out (fun _ _ e => e) (fun _ _ e => e);obtain ⟨t1, _⟩ := (HTb.out.keep hc56 (fun e => e)).cell (k := i.toNat) (by omega);obtain ⟨u1, _⟩ := (HRb.out.keep hc56 (fun e => e)).cell (k := i.toNat) (by omega);rw [HCa.out] at t1 u1;have HTm := hid (Htm.out i hi1 hlt);clear hIO hc56
              by_cases h1 : i = 1
              ·have h1b : (i == 1) = true := by rw [h1]; rfl
               have HWv : Hid ((1 : Int) = wantL c.M c.im i) := hid (by unfold wantL; rw [if_pos h1]);clear h1
               go_upto_region 31 with fail
               as_aux_lemma =>
                cases hR : R i
                ·rw [hR] at u1
                 have HV : Hid (vb = false) := hid (HVF.out fun q => by have := (HRc.out i).2 ((HWW.out.1 q).fin i (by omega) (by omega) HKn.out).rch; rw [hR] at this; cases this);clear hR
                 go_wp2_with fail
                 go_ret
                 exact ⟨by rw [HV.out]; rfl, HQ6.out.ch⟩
                ·rw [hR] at u1
                 have HRi := hid hR;clear hR
                 by_cases hl : lv = 1
                 ·subst hl
                  by_cases hd : kv = 2
                  ·subst hd
                   by_cases htl : tailP c.im z
                   ·rw [tailB_true htl] at HTl
                    have HFi : Hid (InoFin c.M c.im i) := hid ⟨(HRc.out i).1 HRi.out, by rw [← HZ.out, ← HLv.out, ← HWv.out], by rw [← HWv.out]; omega, by rw [← HWv.out]; omega, fun q => by rw [← HWv.out], by rw [← HZ.out]; exact htl⟩;clear htl
                    go_wp2_with (first | (refine load_mid 39 _ rfl g 0 rfl _ _ HRow.out Tryz.underlying39 rfl (by rw [szI, List.length_map, HZl.out]) (by first | rfl | go_simp) ?_) | (go_at_call 24; go_must (refine HTl.out.mono ?_; rintro e w7 ⟨rfl, hc7⟩)) | fail)
                    exact ⟨⟨i + 1, by omega, by omega, by go_num, hid (HC.out.trans (HC6.out.trans hc7 (c := No) (fun _ _ e => e) (fun _ _ e => e)) (fun _ _ e => e) (fun _ _ e => e)), hid (fun d h1 h2 h3 => by
                     by_cases e : d = i
                     ·subst e; exact HFi.out
                     ·exact HF.out d h1 (by omega) h3)⟩, by simp [intOf]; omega⟩
                   ·rw [tailB_false htl] at HTl
                    have HV : Hid (vb = false) := hid (HVF.out fun q => htl (by rw [HZ.out]; exact ((HWW.out.1 q).fin i (by omega) (by omega) HKn.out).tl));clear htl
                    go_wp2_with (first | (refine load_mid 39 _ rfl g 0 rfl _ _ HRow.out Tryz.underlying39 rfl (by rw [szI, List.length_map, HZl.out]) (by first | rfl | go_simp) ?_) | (go_at_call 24; go_must (refine HTl.out.mono ?_; rintro e w7 ⟨rfl, hc7⟩)) | fail)
                    go_ret
                    exact ⟨by rw [HV.out]; rfl, HQ6.out.ch.trans hc7 (fun _ _ e => e) (fun _ _ e => e)⟩
                  ·have hdb : (kv == 2) = false := beq_eq_false_iff_ne.2 hd
                   clear hd
                   by_cases htl : tailP c.im z
                   ·rw [tailB_true htl] at HTl
                    have HFi : Hid (InoFin c.M c.im i) := hid ⟨(HRc.out i).1 HRi.out, by rw [← HZ.out, ← HLv.out, ← HWv.out], by rw [← HWv.out]; omega, by rw [← HWv.out]; omega, fun q => by rw [← HWv.out], by rw [← HZ.out]; exact htl⟩;clear htl
                    go_wp2_with (first | (refine load_mid 39 _ rfl g 0 rfl _ _ HRow.out Tryz.underlying39 rfl (by rw [szI, List.length_map, HZl.out]) (by first | rfl | go_simp) ?_) | (go_at_call 24; go_must (refine HTl.out.mono ?_; rintro e w7 ⟨rfl, hc7⟩)) | fail)
                    exact ⟨⟨i + 1, by omega, by omega, by go_num, hid (HC.out.trans (HC6.out.trans hc7 (c := No) (fun _ _ e => e) (fun _ _ e => e)) (fun _ _ e => e) (fun _ _ e => e)), hid (fun d h1 h2 h3 => by
                     by_cases e : d = i
                     ·subst e; exact HFi.out
                     ·exact HF.out d h1 (by omega) h3)⟩, by simp [intOf]; omega⟩
                   ·rw [tailB_false htl] at HTl
                    have HV : Hid (vb = false) := hid (HVF.out fun q => htl (by rw [HZ.out]; exact ((HWW.out.1 q).fin i (by omega) (by omega) HKn.out).tl));clear htl
                    go_wp2_with (first | (refine load_mid 39 _ rfl g 0 rfl _ _ HRow.out Tryz.underlying39 rfl (by rw [szI, List.length_map, HZl.out]) (by first | rfl | go_simp) ?_) | (go_at_call 24; go_must (refine HTl.out.mono ?_; rintro e w7 ⟨rfl, hc7⟩)) | fail)
                    go_ret
                    exact ⟨by rw [HV.out]; rfl, HQ6.out.ch.trans hc7 (fun _ _ e => e) (fun _ _ e => e)⟩
                 ·have hlb : (lv == 1) = false := beq_eq_false_iff_ne.2 hl
                  have hlc : decide (lv = 1) = false := decide_eq_false hl
                  have hld : (lv != 1) = true := by simpa using hl
                  have HV : Hid (vb = false) := hid (HVF.out fun q => hl (by rw [HWv.out, HLv.out, HZ.out]; exact ((HWW.out.1 q).fin i (by omega) (by omega) HKn.out).lnk));clear hl
                  go_wp2_with fail
                  go_ret
                  exact ⟨by rw [HV.out]; rfl, HQ6.out.ch⟩
              ·have h1b : (i == 1) = false := beq_eq_false_iff_ne.2 h1
               have HWv : Hid (tm i = wantL c.M c.im i) := hid (by unfold wantL; rw [if_neg h1]; exact HTm.out);clear h1;obtain ⟨wv, hwv⟩ : ∃ x, x = tm i := ⟨_, rfl⟩;rw [← hwv] at HWv t1;clear hwv
               go_upto_region 31 with fail
               as_aux_lemma =>
                cases hR : R i
                ·rw [hR] at u1
                 have HV : Hid (vb = false) := hid (HVF.out fun q => by have := (HRc.out i).2 ((HWW.out.1 q).fin i (by omega) (by omega) HKn.out).rch; rw [hR] at this; cases this);clear hR
                 go_wp2_with fail
                 go_ret
                 exact ⟨by rw [HV.out]; rfl, HQ6.out.ch⟩
                ·rw [hR] at u1
                 have HRi := hid hR;clear hR
                 by_cases hl : lv = wv
                 ·subst hl
                  by_cases hw1 : 1 ≤ lv
                  ·have hw1' : ¬ lv < 1 := by omega
                   by_cases hw2 : lv ≤ 100
                   ·have hw2' : ¬ lv > 100 := by omega
                    by_cases hd : kv = 2
                    ·subst hd
                     by_cases hd1 : lv = 1
                     ·subst hd1
                      by_cases htl : tailP c.im z
                      ·rw [tailB_true htl] at HTl
                       have HFi : Hid (InoFin c.M c.im i) := hid ⟨(HRc.out i).1 HRi.out, by rw [← HZ.out, ← HLv.out, ← HWv.out], by rw [← HWv.out]; omega, by rw [← HWv.out]; omega, fun q => by rw [← HWv.out], by rw [← HZ.out]; exact htl⟩;clear htl
                       go_wp2_with (first | (refine load_mid 39 _ rfl g 0 rfl _ _ HRow.out Tryz.underlying39 rfl (by rw [szI, List.length_map, HZl.out]) (by first | rfl | go_simp) ?_) | (go_at_call 24; go_must (refine HTl.out.mono ?_; rintro e w7 ⟨rfl, hc7⟩)) | fail)
                       exact ⟨⟨i + 1, by omega, by omega, by go_num, hid (HC.out.trans (HC6.out.trans hc7 (c := No) (fun _ _ e => e) (fun _ _ e => e)) (fun _ _ e => e) (fun _ _ e => e)), hid (fun d h1 h2 h3 => by
                        by_cases e : d = i
                        ·subst e; exact HFi.out
                        ·exact HF.out d h1 (by omega) h3)⟩, by simp [intOf]; omega⟩
                      ·rw [tailB_false htl] at HTl
                       have HV : Hid (vb = false) := hid (HVF.out fun q => htl (by rw [HZ.out]; exact ((HWW.out.1 q).fin i (by omega) (by omega) HKn.out).tl));clear htl
                       go_wp2_with (first | (refine load_mid 39 _ rfl g 0 rfl _ _ HRow.out Tryz.underlying39 rfl (by rw [szI, List.length_map, HZl.out]) (by first | rfl | go_simp) ?_) | (go_at_call 24; go_must (refine HTl.out.mono ?_; rintro e w7 ⟨rfl, hc7⟩)) | fail)
                       go_ret
                       exact ⟨by rw [HV.out]; rfl, HQ6.out.ch.trans hc7 (fun _ _ e => e) (fun _ _ e => e)⟩
                     ·have hd1b : (lv == 1) = false := beq_eq_false_iff_ne.2 hd1
                      have hd1c : decide (lv = 1) = false := decide_eq_false hd1
                      have hd1d : (lv != 1) = true := by simpa using hd1
                      have HV : Hid (vb = false) := hid (HVF.out fun q => hd1 (by rw [HWv.out]; exact ((HWW.out.1 q).fin i (by omega) (by omega) HKn.out).dir HKd.out));clear hd1
                      go_wp2_with fail
                      go_ret
                      exact ⟨by rw [HV.out]; rfl, HQ6.out.ch⟩
                    ·have hdb : (kv == 2) = false := beq_eq_false_iff_ne.2 hd
                     have HDn := hid hd;clear hd
                     by_cases htl : tailP c.im z
                     ·rw [tailB_true htl] at HTl
                      have HFi : Hid (InoFin c.M c.im i) := hid ⟨(HRc.out i).1 HRi.out, by rw [← HZ.out, ← HLv.out, ← HWv.out], by rw [← HWv.out]; omega, by rw [← HWv.out]; omega, fun q => by rw [← HWv.out]; exact absurd (HKd.out.symm.trans q) HDn.out, by rw [← HZ.out]; exact htl⟩;clear htl
                      go_wp2_with (first | (refine load_mid 39 _ rfl g 0 rfl _ _ HRow.out Tryz.underlying39 rfl (by rw [szI, List.length_map, HZl.out]) (by first | rfl | go_simp) ?_) | (go_at_call 24; go_must (refine HTl.out.mono ?_; rintro e w7 ⟨rfl, hc7⟩)) | fail)
                      exact ⟨⟨i + 1, by omega, by omega, by go_num, hid (HC.out.trans (HC6.out.trans hc7 (c := No) (fun _ _ e => e) (fun _ _ e => e)) (fun _ _ e => e) (fun _ _ e => e)), hid (fun d h1 h2 h3 => by
                       by_cases e : d = i
                       ·subst e; exact HFi.out
                       ·exact HF.out d h1 (by omega) h3)⟩, by simp [intOf]; omega⟩
                     ·rw [tailB_false htl] at HTl
                      have HV : Hid (vb = false) := hid (HVF.out fun q => htl (by rw [HZ.out]; exact ((HWW.out.1 q).fin i (by omega) (by omega) HKn.out).tl));clear htl
                      go_wp2_with (first | (refine load_mid 39 _ rfl g 0 rfl _ _ HRow.out Tryz.underlying39 rfl (by rw [szI, List.length_map, HZl.out]) (by first | rfl | go_simp) ?_) | (go_at_call 24; go_must (refine HTl.out.mono ?_; rintro e w7 ⟨rfl, hc7⟩)) | fail)
                      go_ret
                      exact ⟨by rw [HV.out]; rfl, HQ6.out.ch.trans hc7 (fun _ _ e => e) (fun _ _ e => e)⟩
                   ·have hw2' : lv > 100 := by omega
                    have HV : Hid (vb = false) := hid (HVF.out fun q => hw2 (by rw [HWv.out]; exact ((HWW.out.1 q).fin i (by omega) (by omega) HKn.out).w2));clear hw2
                    go_wp2_with fail
                    go_ret
                    exact ⟨by rw [HV.out]; rfl, HQ6.out.ch⟩
                  ·have hw1' : lv < 1 := by omega
                   have HV : Hid (vb = false) := hid (HVF.out fun q => hw1 (by rw [HWv.out]; exact ((HWW.out.1 q).fin i (by omega) (by omega) HKn.out).w1));clear hw1
                   go_wp2_with fail
                   go_ret
                   exact ⟨by rw [HV.out]; rfl, HQ6.out.ch⟩
                 ·have hlb : (lv == wv) = false := beq_eq_false_iff_ne.2 hl
                  have hlc : decide (lv = wv) = false := decide_eq_false hl
                  have hld : (lv != wv) = true := by simpa using hl
                  have HV : Hid (vb = false) := hid (HVF.out fun q => hl (by rw [HWv.out, HLv.out, HZ.out]; exact ((HWW.out.1 q).fin i (by omega) (by omega) HKn.out).lnk));clear hl
                  go_wp2_with fail
                  go_ret
                  exact ⟨by rw [HV.out]; rfl, HQ6.out.ch⟩
            ·have i4 : ¬ i ≤ (c.M : Int) := by omega
             have HV : Hid (vb = true) := hid (HVT.out (HWW.out.2 ⟨HE2.out, HPO.out.ptr, HRoot.out, HD.out, fun d h1 h2 h3 => HF.out d h1 (by omega) h3⟩))
             go_wp2_with fail
             go_ret
             exact ⟨by rw [HV.out]; rfl, HQr.out.ch⟩
          ·have HNm := hid (named_bad wr HNF.out hD)
           have HV : Hid (vb = false) := hid (HVF.out fun q => hD (HWW.out.1 q).dir);clear hD
           go_wp2_with (first
            | (go_at_call 23; go_must (refine HNm.out.mono ?_; rintro e w5 ⟨rfl, hc5⟩))
            | fail)
           go_ret
           exact ⟨by rw [HV.out]; rfl, HQ.out.ch.trans hc5 (fun _ _ e => e) (fun _ _ e => e)⟩
         ·have hrb : (kv == 2) = false := beq_eq_false_iff_ne.2 hroot
          have HV : Hid (vb = false) := hid (HVF.out fun q => hroot (by rw [HKv.out]; exact (HWW.out.1 q).root))
          go_wp2_with fail
          go_ret
          exact ⟨by rw [HV.out]; rfl, HQ.out.ch⟩
   ·subst he
    have HV : Hid (vb = false) := hid (HVF.out fun q => by
     have q := q.1;rw [HS.out, if_neg (fun k => hn k.2)] at q
     cases q)
    have hnb : (ra == (n : Int)) = false := beq_eq_false_iff_ne.2 hn
    go_wp2_with fail
    go_ret
    exact ⟨by rw [HV.out]; rfl, HC2.out⟩
  ·have hre : (re == 0) = false := by simpa using he
   have HV : Hid (vb = false) := hid (HVF.out fun q => by
    have q := q.1;rw [HS.out, if_neg (fun k => he k.1)] at q
    cases q)
   go_wp2_with fail
   go_ret
   exact ⟨by rw [HV.out]; rfl, HC2.out⟩
 ·have HV : Hid (vb = false) := hid (HVF.out fun q => hl ⟨(supOf_ok q.1).2.1, (supOf_ok q.1).2.2.1⟩)
  obtain ⟨n, hn⟩ : ∃ y, y = im.length := ⟨_, rfl⟩;rw [← hn] at hl ⊢;clear hn HI h
  by_cases h8 : (n : Int) < 8
  ·go_enter Tryz.func8, Tryz.ntmps8
   go_wp2_with fail
   go_ret
   exact ⟨by rw [HV.out]; rfl, Chg.refl _ _⟩
  ·have h9 : (n : Int) > 4096 := by omega
   go_enter Tryz.func8, Tryz.ntmps8
   go_wp2_with fail
   go_ret
   exact ⟨by rw [HV.out]; rfl, Chg.refl _ _⟩
end Go.Proofs.YtpmignilhoihnabGreat
