/-
 What sectors that were written say, for the looks side by side.
-/
import Derived.Test.YtpmignilhoihnaaGreatXB
namespace Go.Proofs.YtpmignilhoihnaaGreat
open Go.RowKit Go.Shelf

theorem Rep.keep {w0 w w' : World} {v1 v2 v3 : Value} {l1 l2 l3 : List Int} {k : Nat} (h : Rep w0 w v1 v2 v3 l1 l2 l3) (hc : Chg w w' (· = k)) (hk : k < w0.heap.size) : Rep w0 w' v1 v2 v3 l1 l2 l3 :=
 ⟨h.o1.keep hc (fun j e1 e2 => by have := (h.o1.blk e1).1; omega), h.o2.keep hc (fun j e1 e2 => by have := (h.o2.blk e1).1; omega), h.o3.keep hc (fun j e1 e2 => by have := (h.o3.blk e1).1; omega), h.a12, h.a13, h.a23⟩
theorem Rep.base {w0 w1 w : World} {v1 v2 v3 : Value} {l1 l2 l3 : List Int} (h : Rep w1 w v1 v2 v3 l1 l2 l3) (hb : w0.heap.size ≤ w1.heap.size) : Rep w0 w v1 v2 v3 l1 l2 l3 :=
 ⟨h.o1.base hb, h.o2.base hb, h.o3.base hb, h.a12, h.a13, h.a23⟩

theorem rep_one (a : Option Addr) (n c : Nat) {v1 v2 v3 : Value} (h1 : v1.oneCell' = true) (h2 : v2.oneCell' = true) (h3 : v3.oneCell' = true) : (#[Value.slice a n c, v1, v2, v3]).all (·.oneCell') = true := by
 have h0 : (Value.slice a n c).oneCell' = true := rfl
 simp [h0, h1, h2, h3]
def LookPost (M : Nat) (im : Img) (w : World) (e : Ending) (w' : World) : Prop :=
 ∃ r, e = .returned (.tuple #[.agg r, .int .i64 (if rootB M im = true then 0 else 121)]) ∧ Chg w w' No ∧ (rootB M im = false → r = nil4) ∧ (rootB M im = true → RepAt w w' r (lookL M im).wt (writeI M im (lookL M im)) (inodesI M (lookL M im)) (blocksI im (lookL M im)))

set_option maxRecDepth 100000 in
set_option maxHeartbeats 4000000 in
theorem look_good (ia : Option Addr) (ic : Nat) (im : Img) (M : Nat) (w : World) (h : ImgAt w ia im) (he : (supOf im).2.2 = 0) (hM : M = (supOf im).2.1.toNat) :
  Calls Tryz.prog 10 #[.slice ia im.length ic] w fun e w' => LookPost M im w e w' := by
 have hzr := zero_rep;have hbr := build_rep;have hzi := zero_inode
 have hzs : ∀ w', (zeroValue 42).run Tryz.prog w' = .ok (.agg #[.int .i64 0, .int .i64 0]) w' := fun w' => by kernel_rfl
 have hA := Chg.alloc w (.cells nil4 26) No;have HA := hid hA;have HN := hid (heap_alloc_new w (.cells nil4 26));have hI0 := h.keep hA (fun _ _ e => e);have hSO := superOf_any ia ic im (w.alloc (.cells nil4 26)) hI0;obtain ⟨s1, s2, s3, s4, s5⟩ := supOf_ok he;rw [he, s1, show (supOf im).2.1 = ((M : Nat) : Int) by omega] at hSO
 have m1 : 1 ≤ M := by omega
 have m2 : M + 2 ≤ im.length := by omega
 obtain ⟨b, o, hia⟩ : ∃ b o, ia = some ⟨b, o, none⟩ := by
  rcases h.2 with e | ⟨b, o, e, _⟩
  ·rw [e] at s2; simp at s2
  ·exact ⟨b, o, e⟩
 subst hia;have HI0 := hid hI0;have HS := hid (And.intro s2 (And.intro s3 (And.intro m1 m2)));obtain ⟨n, hn⟩ : ∃ y, y = im.length := ⟨_, rfl⟩;have HLn := hid hn;rw [← hn] at hSO HS ⊢;have HBG : Hid (∀ W, ImgAt W (some ⟨b, o, none⟩) im → Calls Tryz.prog 22 #[.agg (SUA n M), .slice (some ⟨b, o, none⟩) n ic] W fun e w' => ∃ c : LC, e = .returned (LP c) ∧ c.B = W.heap.size ∧ c.N = n ∧ c.M = M ∧ c.im = im ∧ IsL w' c (startL im) ∧ Chg W w' No ∧ W.heap.size ≤ c.b.p) := hid (fun W hW => begin_any2 hW HLn.out.symm HS.out.1 HS.out.2.1 HS.out.2.2.1 HS.out.2.2.2);clear h hA hI0 he hM s1 s2 s3 s4 s5 m1 m2 hn
 go_enter Tryz.func10, Tryz.ntmps10
 go_upto_region 2 with (first
  | (go_at_call 21; go_must (refine hSO.mono ?_; rintro e w1 ⟨rfl, hc1⟩))
  | (refine store_R rfl 42 _ _ rfl w1.heap.size (SUA n M) rfl rfl 42 _ (heap_alloc_new _ _) szSU rfl (SUA_one _ _) ?_; intro w2 hw2)
  | fail)
 have h12 : Chg (w.alloc (.cells nil4 26)) w2 No := (hc1.trans (Chg.alloc w1 (.cells #[.int .i64 0, .int .i64 0] 42) No) (c := No) (fun _ _ e => e) (fun _ _ e => e)).trans (kt_new hw2) (fun _ _ e => e) (fun j hj e => by have := hc1.size; omega);have HC2 : Hid (Chg w w2 No) := hid (HA.out.trans h12 (fun _ _ e => e) (fun _ _ e => e));have HN2 : Hid (w2.heap[w.heap.size]? = some (.cells nil4 26 (0, 0))) := hid (h12.keep HN.out (fun e => e));have HG2 := hid hw2.here;have HI2 := hid (HI0.out.keep h12 (fun _ _ e => e));have hBG := HBG.out w2 HI2.out;have HZ2 : Hid (w.heap.size < w2.heap.size) := hid (slt HN2.out);clear h12 hw2 hc1 hSO HI0 HN HA;obtain ⟨g4, hg4⟩ : ∃ y, y = w1.heap.size := ⟨_, rfl⟩;rw [← hg4] at HG2 ⊢;clear hg4
 go_upto_region 5 with (first
  | (refine load_R rfl 42 _ rfl g4 rfl 42 _ _ HG2.out Tryz.underlying42 rfl szSU ?_)
  | (go_at_call 22; go_must (refine hBG.mono ?_; rintro e w3 ⟨c, rfl, hB3, hN3, hM3, hi3, hL3, hc3, hp3⟩))
  | fail)
 have HB3 := hid hB3;have HNM := hid (And.intro hN3 (And.intro hM3 hi3));have HL3 := hid hL3;have HC3 := hid hc3;have hSD := sound_any 1 w3 hL3.v.p;rw [hM3, hi3] at hSD;have HRL := hid (soundZ_len M im 1);clear hBG hB3 hN3 hM3 hi3 hL3 hc3 hp3;have HRB := hid (rootB_parts (M := M) (im := im));obtain ⟨rz, hrz⟩ : ∃ y, y = soundZ M im 1 := ⟨_, rfl⟩;rw [← hrz] at hSD HRL HRB;have HRZ := hid hrz;obtain ⟨z, is⟩ := rz
 simp only at hSD HRL HRB
 clear hrz;unfold LP at hSD ⊢
 go_upto_region 6 with (first
  | (go_at_call 23; go_must (refine hSD.mono ?_; rintro e w4 ⟨rfl, hc4⟩))
  | (refine store_R rfl 51 _ _ rfl w4.heap.size (NA z) rfl rfl 51 _ (heap_alloc_new _ _) (by rw [szI, NA_size, HRL.out]) (by rw [NA_size, NA_size, Zi_len, HRL.out]) (NA_one _) ?_; intro w5 hw5)
  | fail)
 have h35 : Chg w3 w5 No := (hc4.trans (Chg.alloc w4 (.cells (NA Zi) 51) No) (c := No) (fun _ _ e => e) (fun _ _ e => e)).trans (kt_new hw5) (fun _ _ e => e) (fun j hj e => by have := hc4.size; omega);have HL5 := hid (HL3.out.call h35);have H25 : Hid (Chg w2 w5 No) := hid (HC3.out.trans h35 (fun _ _ e => e) (fun _ _ e => e));have HC5 : Hid (Chg w w5 No) := hid (HC2.out.trans H25.out (fun _ _ e => e) (fun _ _ e => e));have HN5 : Hid (w5.heap[w.heap.size]? = some (.cells nil4 26 (0, 0))) := hid (H25.out.keep HN2.out (fun e => e));have q0 := row_cell hw5.here 0 (by rw [HRL.out]; decide);obtain ⟨K, hKz⟩ : ∃ y, y = z.getD 0 0 := ⟨_, rfl⟩;rw [← hKz] at q0 HRB;obtain ⟨g7, hg7⟩ : ∃ y, y = w4.heap.size := ⟨_, rfl⟩;rw [← hg7] at q0 ⊢;clear hg7 hw5 hc4 h35 hSD HG2 hKz
 cases is with
 | false =>
  have HRf : Hid (rootB M im = false) := hid (by
   cases hq : rootB M im with
   | false => rfl
   | true => have := (HRB.out.1 hq).1; cases this)
  clear HRB
  go_wp2_with (first
   | (refine store_R rfl 26 _ _ rfl w.heap.size nil4 rfl rfl 26 _ HN5.out szRep rfl nil4_one ?_; intro w6 hw6)
   | fail)
  refine bodyPost_ret (v := .tuple #[.agg nil4, .int .i64 121]) (results_R Tryz.results10 _ _ w.heap.size _ 26 _ _ Tryz.underlying26 rfl szRep rfl rfl hw6.here) rfl ⟨nil4, by rw [HRf.out]; rfl, HC5.out.trans (kt_new hw6) (fun _ _ e => e) (fun j hj e => by omega), fun _ => rfl, fun e => by rw [HRf.out] at e; cases e⟩
 | true =>
  by_cases hK : K = 2
  ·have HRt : Hid (rootB M im = true) := hid (HRB.out.2 ⟨rfl, hK⟩)
   have HSt : Hid ((soundZ M im 1).2 = true) := hid (by rw [← HRZ.out])
   have hKb : (K == 2) = true := by simpa using hK
   clear HRB HRZ HRL;obtain ⟨s1, hs1⟩ : ∃ y, y = enterL im.length M im 1 (startL im) := ⟨_, rfl⟩
   have hMay : May c (startL im) 1 := by
    show (soundZ c.M c.im 1).2 = true
    rw [HNM.out.2.1, HNM.out.2.2]
    exact HSt.out
   have hEN := enter_any 1 w5 HL5.out (startL_ok c im).tk (by simp [startL]) hMay ⟨by decide, by decide⟩;have hOk := enterL_ok (startL_ok c im) hMay
   have eN : (c.N : Int) = (im.length : Nat) := by rw [HNM.out.1, HLn.out]
   rw [eN, HNM.out.2.1, HNM.out.2.2, ← hs1] at hEN hOk;have HOk := hid hOk
   have hld : loadE c.M s1 ≤ M := by have := hOk.fr; rw [HNM.out.2.1] at this ⊢; exact this
   have HF : Hid (goneL M im = allL c.N c.M c.im M s1) := hid (by unfold goneL; rw [eN, HNM.out.2.1, HNM.out.2.2, hs1]);have HLd := hid hld;have HFo : Hid (LOk c (goneL M im)) := hid (by rw [HF.out]; exact allL_ok M s1 hOk);clear hs1 hMay hOk hld eN;obtain ⟨F, hF⟩ : ∃ y, y = goneL M im := ⟨_, rfl⟩;rw [← hF] at HF HFo;have HFF := hid hF;have HB2 : Hid (w2.heap.size ≤ c.B) := hid (by rw [HB3.out]; exact Nat.le_refl _);clear hF;unfold LP at hEN
   go_wp2_with (first
    | (go_at_call 24; go_must (refine hEN.mono ?_; rintro e w6 ⟨rfl, hL6, hk6⟩; have d8 := hL6.v.p.c8; have hNX := next_any hL6 HOk.out HLd.out HF.out (kl_new H25.out hk6 HB2.out) HB2.out))
    | (go_at_call 74; go_must (refine hNX.mono ?_; rintro e w7 ⟨x7, b7, rfl, hI7⟩))
    | fail)
   have HI7 := hid hI7;clear hI7 hNX d8 hL6 hk6 hEN q0
   go_loopw [9, 10] (fun x9 x10 wr => ∃ (vv : Value) (bb : Bool), vv = x9 ∧ x10 = .bool bb ∧ Hid (∃ f, LkI w2 wr c F f vv bb)) (fun x9 x10 wr => leastN (fun f => ∃ bb, x10 = .bool bb ∧ LkI w2 wr c F f x9 bb))
   case atStart => exact ⟨_, _, rfl, rfl, hid ⟨_, HI7.out⟩⟩
   case round =>
    obtain ⟨vv, bb, rfl, rfl, HI⟩ := hrel
    cases bb with
    | true =>
     obtain ⟨g, hgl, l, s, a, cap, rfl, hLA, hLs, hOs, hd, hl, hle, hFe, hcw⟩ : ∃ g, leastN (fun f => ∃ bb, Value.bool true = .bool bb ∧ LkI w2 wr c F f vv bb) = g + 1 ∧ ∃ l s a cap, vv = .slice a l.length cap ∧ LAt wr a l ∧ IsL wr c s ∧ LOk c s ∧ (∀ y ∈ l, (c.M : Int) < y ∧ y < c.N) ∧ l.length ≤ 1068 ∧ loadE c.M (dirL c.N c.M c.im l s) ≤ g ∧ F = allL c.N c.M c.im g (dirL c.N c.M c.im l s) ∧ Chg w2 wr No := by
      obtain ⟨f, hf⟩ := HI.out;obtain ⟨bb, e, hI⟩ := leastN_spec (P := fun f => ∃ bb, Value.bool true = .bool bb ∧ LkI w2 wr c F f vv bb) ⟨f, true, rfl, hf⟩
      cases e
      obtain ⟨hcw, ⟨e, _⟩ | ⟨_, g, l, s, a, cap, h1, h2, h3, h4, h5, h6, h7, h8, h9⟩⟩ := hI
      ·cases e
      ·exact ⟨g, h1, l, s, a, cap, h2, h3, h4, h5, h6, h7, h8, h9, hcw⟩
     have hDR := directory_any l a cap wr hLs hOs hLA hd hl;have HGL := hid hgl;have HOd := hid (dirL_ok (l := l) hOs);have HLe := hid hle;have HFe := hid hFe;have HCw := hid hcw;unfold LP at hDR;clear hgl hLA hLs hOs hd hl hle hFe hcw HI
     go_wp2_with (first
      | (go_at_call 25; go_must (refine hDR.mono ?_; rintro e w8 ⟨rfl, hL8, hk8⟩; have d8 := hL8.v.p.c8; have hNX := next_any hL8 HOd.out HLe.out HFe.out (kl_new HCw.out hk8 HB2.out) HB2.out))
      | (go_at_call 74; go_must (refine hNX.mono ?_; rintro e w9 ⟨x9, b9, rfl, hI9⟩))
      | fail)
     exact ⟨⟨x9, b9, rfl, rfl, hid ⟨g, hI9⟩⟩, Nat.lt_of_le_of_lt (leastN_le (n := g) ⟨b9, rfl, hI9⟩) (by rw [HGL.out]; exact Nat.lt_succ_self g)⟩
    | false =>
     obtain ⟨hLs, hcw⟩ : IsL wr c F ∧ Chg w2 wr No := by
      obtain ⟨f, hcw, ⟨_, h1⟩ | ⟨e, _⟩⟩ := HI.out
      ·exact ⟨h1, hcw⟩
      ·cases e
     have hLI := layInodes_any wr hLs HFo.out.tk;have HCw := hid hcw;have HW : Hid (∀ W, IsL W c { F with wt := layK F.tk F.wt c.M } → Calls Tryz.prog 27 #[LP c] W fun e w' => ∃ v1 v2 v3, e = .returned (.agg #[.slice (some ⟨c.b.wb, 0, none⟩) c.N c.wc, v1, v2, v3]) ∧ Rep W w' v1 v2 v3 (writeL c { F with wt := layK F.tk F.wt c.M }) (inodesL c { F with wt := layK F.tk F.wt c.M }) (blocksL c { F with wt := layK F.tk F.wt c.M }) ∧ Chg W w' No) := hid (fun W hW => report_any W hW HFo.out.tk);have HLk : Hid (lookL M im = { F with wt := layK F.tk F.wt c.M }) := hid (by unfold lookL; rw [HFF.out, HNM.out.2.1]);obtain ⟨T, hT⟩ : ∃ y, y = ({ F with wt := layK F.tk F.wt c.M } : LS) := ⟨_, rfl⟩;rw [← hT] at hLI HW HLk;unfold LP at hLI HW;clear hT hLs hcw HI
     go_upto_region 14 with (first
      | (go_at_call 26; go_must (refine hLI.mono ?_; rintro e w8 ⟨rfl, hL8, hk8⟩))
      | fail)
     have hRP := HW.out w8 hL8;have HL8 := hid hL8;have HC8 : Hid (Chg w2 w8 No) := hid (kl_new HCw.out hk8 HB2.out);have HN8 : Hid (w8.heap[w.heap.size]? = some (.cells nil4 26 (0, 0))) := hid (HC8.out.keep HN2.out (fun e => e));clear hL8 hk8 hLI HW
     go_wp2_with (first
      | (go_at_call 27; go_must (refine hRP.mono ?_; rintro e w9 ⟨v1, v2, v3, rfl, hR9, hc9⟩; have hN9 := hc9.keep HN8.out (fun e => e)))
      | (refine store_R rfl 26 _ _ rfl w.heap.size #[.slice (some ⟨c.b.wb, 0, none⟩) c.N c.wc, v1, v2, v3] rfl rfl 26 _ hN9 szRep rfl (rep_one _ _ _ hR9.o1.one hR9.o2.one hR9.o3.one) ?_; intro w10 hw10)
      | fail)
     have hcA := kt_new hw10;have h29 : Chg w2 w9 No := HC8.out.trans hc9 (fun _ _ e => e) (fun _ _ e => e);have hz2 := HZ2.out;have hz8 := HC8.out.size;have hzB := HB2.out;have hb0 := HL8.out.v.p.b0
     have eN : c.N = im.length := by rw [HNM.out.1, HLn.out]
     refine bodyPost_ret (v := .tuple #[.agg #[.slice (some ⟨c.b.wb, 0, none⟩) c.N c.wc, v1, v2, v3], .int .i64 0]) (results_R Tryz.results10 _ _ w.heap.size _ 26 _ _ Tryz.underlying26 rfl szRep rfl rfl hw10.here) rfl ⟨_, by rw [HRt.out]; rfl, (HC2.out.trans h29 (c := No) (fun _ _ e => e) (fun _ _ e => e)).trans hcA (fun _ _ e => e) (fun j hj e => by omega), fun e => (by rw [HRt.out] at e; cases e), fun _ => ?_⟩;rw [HLk.out];have hwl := HL8.out.v.k.wl;have hrep := (hR9.keep hcA (by omega)).base (w0 := w) (by omega);refine ⟨c.b.wb, c.wc, v1, v2, v3, by rw [hwl], by omega, (HL8.out.v.k.wt.keep hc9 (fun e => e)).keep hcA (by omega), ?_⟩
     have e1 : writeL c T = writeI M im T := by unfold writeL writeI wrP; rw [eN, HNM.out.2.1, HNM.out.2.2]
     have e2 : inodesL c T = inodesI M T := by unfold inodesL inodesI; rw [HNM.out.2.1]
     have e3 : blocksL c T = blocksI im T := by unfold blocksL blocksI; rw [eN]
     rw [← e1, ← e2, ← e3]
     exact hrep
  ·have HRf : Hid (rootB M im = false) := hid (by
    cases hq : rootB M im with
    | false => rfl
    | true => exact absurd (HRB.out.1 hq).2 hK)
   have hKb : (K == 2) = false := by simpa using hK
   clear HRB
   go_wp2_with (first
    | (refine store_R rfl 26 _ _ rfl w.heap.size nil4 rfl rfl 26 _ HN5.out szRep rfl nil4_one ?_; intro w6 hw6)
    | fail)
   refine bodyPost_ret (v := .tuple #[.agg nil4, .int .i64 121]) (results_R Tryz.results10 _ _ w.heap.size _ 26 _ _ Tryz.underlying26 rfl szRep rfl rfl hw6.here) rfl ⟨nil4, by rw [HRf.out]; rfl, HC5.out.trans (kt_new hw6) (fun _ _ e => e) (fun j hj e => by omega), fun _ => rfl, fun e => by rw [HRf.out] at e; cases e⟩

end Go.Proofs.YtpmignilhoihnaaGreat

namespace Go.Proofs.YtpmignilhoihnaaGreat
open Go.RowKit

theorem numAt_congr {s t : List Int} {p : Nat} : ∀ m : Nat, (∀ j, j < m → s.getD (p + j) 0 = t.getD (p + j) 0) → numAt s p m = numAt t p m
 | 0, _ => rfl
 | m + 1, h => by
  rw [numAt, numAt, numAt_congr m (fun j hj => h j (by omega)), h m (by omega)]
theorem numAt_keep {s : List Int} {p k q m : Nat} {v : Int} (h : p + k ≤ s.length) (hd : q + m ≤ p ∨ p + k ≤ q) : numAt (putN s p v k) q m = numAt s q m :=
 numAt_congr m fun j hj => by rw [putN_get _ _ _ _ h, if_neg (by omega)]

def Apt (a b : Num) : Prop := a.1.toNat + a.2.1.toNat ≤ b.1.toNat ∨ b.1.toNat + b.2.1.toNat ≤ a.1.toNat
def layF (l : List Num) (s : List Int) : List Int := l.foldl (fun s n => putN s n.1.toNat n.2.2 n.2.1.toNat) s
theorem okN_bd {n : Num} (h : okN n) : n.1.toNat + n.2.1.toNat ≤ 128 ∧ 1 ≤ n.2.1.toNat ∧ n.2.1.toNat ≤ 8 ∧ 0 ≤ n.2.2 ∧ n.2.2 ≤ top ∧ n.2.2 < 256 ^ n.2.1.toNat ∧ (n.1.toNat : Int) = n.1 ∧ (n.2.1.toNat : Int) = n.2.1 := by
 have h1 := of_decide_eq_true h.1;have h2 := of_decide_eq_true h.2;refine ⟨by omega, by omega, by omega, h2.1, h2.2.1, ?_, by omega, by omega⟩
 exact h2.2.2
theorem layF_keep : ∀ (l : List Num) (s : List Int) (n : Num), s.length = 128 → (∀ m ∈ l, okN m) → (∀ m ∈ l, Apt n m) → numAt (layF l s) n.1.toNat n.2.1.toNat = numAt s n.1.toNat n.2.1.toNat := by
 intro l
 induction l with
 | nil => intro s n _ _ _; rfl
 | cons x r ih =>
  intro s n hs hok hap
  have hx := okN_bd (hok x (by simp))
  show numAt (layF r (putN s x.1.toNat x.2.2 x.2.1.toNat)) _ _ = _
  rw [ih _ n (by rw [putN_len, hs]) (fun m hm => hok m (by simp [hm])) (fun m hm => hap m (by simp [hm])), numAt_keep (by rw [hs]; exact hx.1) (by have := hap x (by simp); unfold Apt at this; omega)]
theorem layF_get : ∀ (l : List Num) (s : List Int), s.length = 128 → (∀ m ∈ l, okN m) → l.Pairwise Apt → ∀ n ∈ l, numAt (layF l s) n.1.toNat n.2.1.toNat = n.2.2 := by
 intro l
 induction l with
 | nil => intro s _ _ _ n hn; cases hn
 | cons x r ih =>
  intro s hs hok hap n hn
  rw [List.pairwise_cons] at hap;have hx := okN_bd (hok x (by simp))
  show numAt (layF r (putN s x.1.toNat x.2.2 x.2.1.toNat)) _ _ = _
  rcases List.mem_cons.1 hn with rfl | h
  ·rw [layF_keep r _ n (by rw [putN_len, hs]) (fun m hm => hok m (by simp [hm])) hap.1, numAt_put _ _ _ _ (by rw [hs]; exact hx.1) hx.2.2.2.1 hx.2.2.2.2.2.1]
  ·exact ih _ (by rw [putN_len, hs]) (fun m hm => hok m (by simp [hm])) hap.2 n h
theorem lay_get {l : List Num} (hok : ∀ m ∈ l, okN m) (hap : l.Pairwise Apt) {n : Num} (hn : n ∈ l) : numAt (layS l) n.1.toNat n.2.1.toNat = n.2.2 := layF_get l Zs Zs_len hok hap n hn
theorem apt_range (f : Nat → Num) (N : Nat) (h : ∀ i j, i < j → j < N → Apt (f i) (f j)) : ((List.range N).map f).Pairwise Apt := by
 rw [List.pairwise_map];refine List.Pairwise.imp_of_mem ?_ List.pairwise_lt_range
 intro i j hi hj hij
 exact h i j hij (List.mem_range.1 hj)

theorem ptr_back {x : List Int} (hx : x.length = 32) (h : ptrB x = true) : ptrsTo (ptrS x) 32 = x := by
 have hs : ptrS x = layS (numsPtr x 32) := by unfold ptrS; rw [if_pos h]
 have hall : ∀ i, i < 32 → okP x i := fun i hi => by
  have := List.all_eq_true.1 h i (List.mem_range.2 hi);unfold okP
  exact of_decide_eq_true this
 have hok := ptr_ok hall
 have hap : (numsPtr x 32).Pairwise Apt := by
  refine apt_range _ 32 fun i j hij hj => ?_
  unfold Apt numP
  left
  show (4 * (i : Int)).toNat + 4 ≤ (4 * (j : Int)).toNat
  omega
 apply ext_getD (by rw [ptrsTo_len, hx])
 intro k hk
 rw [ptrsTo_len] at hk
 have e1 : (ptrsTo (ptrS x) 32).getD k 0 = numAt (ptrS x) (4 * k) 4 := by simp [ptrsTo, hk]
 rw [e1, hs];have := lay_get hok hap (n := numP x k) (List.mem_map.2 ⟨k, List.mem_range.2 hk, rfl⟩)
 have e2 : (4 * (k : Int)).toNat = 4 * k := by omega
 unfold numP at this;rw [e2] at this
 exact this

end Go.Proofs.YtpmignilhoihnaaGreat

namespace Go.Proofs.YtpmignilhoihnaaGreat
open Go.RowKit Go.Shelf

def Kp (a b : Img) : Prop := b.length = a.length ∧ b[0]? = a[0]?
theorem Kp.refl (a : Img) : Kp a a := ⟨rfl, rfl⟩
theorem Kp.trans {a b c : Img} (h : Kp a b) (k : Kp b c) : Kp a c := ⟨k.1.trans h.1, k.2.trans h.2⟩
theorem kp_set (a : Img) {k : Nat} (hk : 0 < k) (x : List Int) : Kp a (a.set k x) := ⟨by simp, by rw [List.getElem?_set_ne (by omega)]⟩
def KpF (keep : KeepF) : Prop := ∀ s i n, Kp s.wt (keep s i n).2.wt
theorem claim_pos {N : Int} {M : Nat} {cl : Int → Bool} {n : Int} (h : claimB N M cl n = true) : 0 < n.toNat := by
 unfold claimB dataB at h
 simp only [Bool.and_eq_true, decide_eq_true_eq] at h
 omega
theorem block_kp (N M cnt : Int) : KpF (blockF N M cnt) := fun s i n => by
 unfold blockF
 split
 ·exact Kp.refl _
 ·exact Kp.refl _
theorem inner_kp {each f : Int} {keep : KeepF} (h : KpF keep) : KpF (innerF each f keep) := fun s _ p => h s _ p
theorem goK_kp {keep : KeepF} (h : KpF keep) (t0 : List Int) (s0 : TS) : ∀ k, Kp s0.wt (goK keep t0 s0 k).2.wt
 | 0 => Kp.refl _
 | k + 1 => (goK_kp h t0 s0 k).trans (h _ _ _)
theorem goF_kp {keep : KeepF} (h : KpF keep) (n : Int) (s : TS) (hn : 0 < n.toNat) : Kp s.wt (goF keep n s).2.wt := by
 have hk := goK_kp h (ptrsTo (secI s.wt n) 32) s 32;unfold goF
 generalize goK keep (ptrsTo (secI s.wt n) 32) s 32 = r at *
 by_cases hz : r.1 = Zp
 ·rw [if_pos hz]
  exact hk
 ·rw [if_neg hz]
  exact hk.trans (kp_set _ hn _)
theorem table_kp {N : Int} {M : Nat} {cnt each : Int} {keep : KeepF} (h : KpF keep) : KpF (tableF N M cnt each keep) := fun s f n => by
 unfold tableF
 split
 ·rename_i hc
  simp only [Bool.and_eq_true] at hc
  exact goF_kp (inner_kp h) n ⟨s.wt, putC s.cl n, s.sp⟩ (claim_pos hc.2)
 ·exact Kp.refl _
theorem dblT_kp (N : Int) (M : Nat) (z : List Int) (wt : Img) (cl : Int → Bool) : Kp wt (dblT N M z wt cl).2.wt :=
 ((goK_kp (block_kp N M (cntZ z)) ((z.drop 4).take 12) ⟨wt, cl, []⟩ 12).trans (table_kp (block_kp N M (cntZ z)) _ _ _)).trans (table_kp (table_kp (block_kp N M (cntZ z))) _ _ _)
theorem takeL_kp (N : Int) (M : Nat) (z : List Int) (s : LS) : Kp s.wt (takeL N M z s).wt := by
 have h := dblT_kp N M z s.wt s.cl;unfold takeL
 simp only
 split
 ·exact h
 ·refine h.trans ?_
  show Kp _ (wipeW _ _ _)
  unfold wipeW
  split
  ·rename_i l hl
   refine kp_set _ ?_ _
   have hm : l ∈ (dblT N M z s.wt s.cl).2.sp := by
    unfold lastB at hl
    split at hl
    ·rename_i l' hq
     split at hl
     ·cases hl
      exact List.mem_of_getLast? hq
     ·cases hl
    ·cases hl
   have := dblT_ok N M z s.wt s.cl l hm
   omega
  ·exact Kp.refl _
theorem enterL_kp (N : Int) (M : Nat) (im : Img) (i : Int) (s : LS) : Kp s.wt (enterL N M im i s).wt := by
 unfold enterL
 split
 ·exact Kp.refl _
 ·exact takeL_kp N M _ s
theorem slotL_kp (N : Int) (M : Nat) (im : Img) (n : Int) (r : List ByteArray × LS) (hn : 0 < n.toNat) : Kp r.2.wt (slotL N M im n r).2.wt := by
 unfold slotL
 simp only
 split
 ·exact Kp.refl _
 ·split
  ·exact enterL_kp N M im _ r.2
  ·exact kp_set _ hn _
theorem dirK_kp (N : Int) (M : Nat) (im : Img) : ∀ (l : List Int) (r : List ByteArray × LS), (∀ x ∈ l, 0 < x.toNat) → Kp r.2.wt (dirK N M im l r).2.wt
 | [], _, _ => Kp.refl _
 | n :: l, r, h => (slotL_kp N M im n r (h n List.mem_cons_self)).trans (dirK_kp N M im l _ fun x hx => h x (List.mem_cons_of_mem _ hx))
theorem allL_kp {c : LC} : ∀ (f : Nat) (s : LS), LOk c s → Kp s.wt (allL c.N c.M c.im f s).wt
 | 0, _, _ => Kp.refl _
 | f + 1, s, h => by
  cases hq : s.q with
  | nil => rw [allL_nil hq]; exact Kp.refl _
  | cons l q =>
   rw [allL_cons hq];refine Kp.trans ?_ (allL_kp f _ (dirL_ok (h.pop hq)))
   exact dirK_kp c.N c.M c.im l ([], { s with q := q }) fun x hx => by
    have := h.qd l (by rw [hq]; exact List.mem_cons_self) x hx
    omega
theorem layK_kp (tk : Int → Option (List Int)) (wt : Img) : ∀ k, Kp wt (layK tk wt k)
 | 0 => Kp.refl _
 | k + 1 => (layK_kp tk wt k).trans (kp_set _ (by omega) _)
theorem lookL_kp {M : Nat} {im : Img} (hr : rootB M im = true) : Kp im (lookL M im).wt := by
 obtain ⟨h1, _⟩ := rootB_parts.1 hr;obtain ⟨c, hN, hM, hi⟩ : ∃ c : LC, c.N = im.length ∧ c.M = M ∧ c.im = im := ⟨⟨0, ⟨0, 0, 0, 0, 0, 0⟩, im.length, M, none, 0, 0, im⟩, rfl, rfl, rfl⟩
 have hMay : May c (startL im) 1 := by
  show (soundZ c.M c.im 1).2 = true
  rw [hM, hi]
  exact h1
 have hOk := enterL_ok (startL_ok c im) hMay;have h2 := allL_kp (c := c) M _ hOk;rw [hN, hM, hi] at h2
 exact ((enterL_kp im.length M im 1 (startL im)).trans h2).trans (layK_kp _ _ M)

end Go.Proofs.YtpmignilhoihnaaGreat

namespace Go.Proofs.YtpmignilhoihnaaGreat
open Go.RowKit Go.Shelf

end Go.Proofs.YtpmignilhoihnaaGreat

namespace Go.Proofs.YtpmignilhoihnaaGreat
open Go.RowKit Go.Shelf

theorem ptrs_Zs : ptrsTo Zs 32 = Zp := by kernel_rfl
end Go.Proofs.YtpmignilhoihnaaGreat
