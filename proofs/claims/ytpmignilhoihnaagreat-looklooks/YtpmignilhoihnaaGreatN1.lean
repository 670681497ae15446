/-
 The document's table.
-/
import Derived.Test.YtpmignilhoihnaaGreatJB
namespace Go.Proofs.YtpmignilhoihnaaGreat
open Go.RowKit Go.Shelf

structure Src9 where
 im : List (List Int)
 bad : Int
 code : Int
def rdS (s : Src9) (n : Int) : List Int × Int :=
 if n = s.bad ∧ 0 ≤ n then (Zs, s.code) else if 0 ≤ n ∧ n < s.im.length then (s.im.getD n.toNat Zs, 0) else (Zs, 40)
def srcV (a : Option Addr) (c : Nat) (s : Src9) : Array Value := #[.slice a s.im.length c, .int .i64 s.bad, .int .i64 s.code]
theorem ImgAt.below {W W' : World} {a : Option Addr} {im : List (List Int)} (h : ImgAt W a im) (hb : Below W.heap.size W W') : ImgAt W' a im := by
 refine ⟨h.1, ?_⟩
 rcases h.2 with e | ⟨b, o, h1, h2, h3⟩
 ·exact .inl e
 ·refine .inr ⟨b, o, h1, Nat.lt_of_lt_of_le h2 hb.size, fun j s hj k v hv => ?_⟩
  rw [hb.cell (p := ⟨b, _, none⟩) h2]
  exact h3 j s hj k v hv
theorem rdS_sec {W : World} {a : Option Addr} {s : Src9} (h : ImgAt W a s.im) (n : Int) : IsSec (rdS s n).1 := by
 unfold rdS
 split
 ·exact Zs_sec
 ·split
  ·rename_i h1 h2
   have : n.toNat < s.im.length := by omega
   rw [List.getD_eq_getElem?_getD, List.getElem?_eq_getElem this]
   exact h.1 _ (List.getElem_mem this)
  ·exact Zs_sec
theorem szSrc : (Tryz.prog.info? 109).map (·.size) = some 3 := by kernel_rfl
set_option maxRecDepth 100000 in
set_option maxHeartbeats 2000000 in
theorem rRead_any (a : Option Addr) (c : Nat) (s : Src9) (n : Int) (w : World) (hi : ImgAt w a s.im) :
  Calls Tryz.prog 126 #[.agg (srcV a c s), .int .i64 n] w fun e w' => e = .returned (.tuple #[.agg (SA (rdS s n).1), .int .i64 (rdS s n).2]) ∧ Below w.heap.size w w' := by
 have hzs := zero_sec;have hbs := build_sec
 have hz1 : (w.alloc (.cells (srcV a c s) 109)).heap.size = w.heap.size + 1 := by simp
 obtain ⟨W, hW⟩ : ∃ y, y = (w.alloc (.cells (srcV a c s) 109)).alloc (.cells (SA Zs) 33) := ⟨_, rfl⟩
 have H0 : Hid (W.heap[w.heap.size]? = some (.cells (srcV a c s) 109 (0, 0))) := by rw [hW]; exact heap_alloc2_old w _ _
 have H1 : Hid (W.heap[w.heap.size + 1]? = some (.cells (SA Zs) 33 (0, 0))) := by rw [hW]; exact heap_alloc2_new w _ _
 have HB : Hid (Below w.heap.size w W) := by rw [hW]; exact ((Below.refl _ _).alloc (Nat.le_refl _) _).alloc (by simp) _
 have HI : Hid (ImgAt W a s.im) := hi.below HB.out
 have c0 : W.cell? ⟨w.heap.size, 0, none⟩ = some (.slice a s.im.length c) := by rw [cell_of_row _ _ _ _ _ _ H0.out]; rfl
 have c1 : W.cell? ⟨w.heap.size, 1, none⟩ = some (.int .i64 s.bad) := by rw [cell_of_row _ _ _ _ _ _ H0.out]; rfl
 have c2 : W.cell? ⟨w.heap.size, 2, none⟩ = some (.int .i64 s.code) := by rw [cell_of_row _ _ _ _ _ _ H0.out]; rfl
 go_enter Tryz.func126, Tryz.ntmps126
 go_upto_region 1 with fail
 rw [← hW];clear hW hz1
 by_cases hb : n = s.bad ∧ 0 ≤ n
 ·have HE : Hid (rdS s n = (Zs, s.code)) := if_pos hb
  obtain ⟨hb1, hb2⟩ := hb;rw [hb1] at hb2;rw [hb1]
  go_upto_region 2 with fail
  refine wp_region_noPanic ?_;refine wp_region_held_drew (S := fun w' => w'.heap[w.heap.size + 1]? = some (.cells (SA Zs) 33 (0, 0)) ∧ w'.cell? ⟨w.heap.size, 2, none⟩ = some (.int .i64 s.code) ∧ Below w.heap.size w w') (by kernel_rfl) ⟨H1.out, c2, below_drew HB.out⟩ (fun hH => ?_);refine tV 0 14 (.agg (SA Zs)) rfl (by kernel_rfl) rfl (by rfl) hH (fun W' _ => by have := hbs W'; go_simp) ?_;simp only [sS];refine tV 1 15 (.pointer (some ⟨w.heap.size, 2, none⟩)) rfl (by kernel_rfl) rfl (by rfl) hH (fun _ _ => by go_simp) ?_;simp only [sS];refine tV 2 16 (.int .i64 s.code) rfl (by kernel_rfl) rfl (by rfl) hH (fun W' hw' => by have hq : W'.cell? ⟨w.heap.size, 2, none⟩ = some (.int .i64 s.code) := hw'.2.1; go_simp) ?_;simp only [sS];refine step1 3 (by kernel_rfl) ?_;refine stStoreR 3 33 (.tmp 4) (.tmp 14) (w.heap.size + 1) (SA Zs) 33 (SA Zs) rfl rfl (by rfl) rfl rfl rfl hH.1 (by rw [sz26, SA_size, Zs_len]) rfl (SA_one Zs) ?_
  intro w5 p5
  have C5 : w5.cell? ⟨w.heap.size, 2, none⟩ = some (.int .i64 s.code) := by
   have := hH.2.1;unfold World.cell? at this ⊢;rw [p5.other _ (by simp)]
   exact this
  refine ⟨⟨p5.here, C5, p5.below hH.2.2 (by omega)⟩, ?_⟩;refine tV 4 5 (.int .i64 s.code) rfl (by kernel_rfl) rfl (by rfl) ⟨p5.here, C5, p5.below hH.2.2 (by omega)⟩ (fun _ _ => rfl) ?_;simp only [sS];refine wpAnyH_done (by kernel_rfl) ?_ _;refine NoPanic.normal ?_
  go_wp2_with fail
  exact bodyPost_ret (results_sec Tryz.results126 _ _ (w.heap.size + 1) Zs Zs_len _ rfl rfl p5.here) rfl ⟨by rw [HE.out]; rfl, p5.below hH.2.2 (by omega)⟩
 ·by_cases hr : 0 ≤ n ∧ n < s.im.length
  ·have HE : Hid (rdS s n = (s.im.getD n.toNat Zs, 0)) := by unfold rdS; rw [if_neg hb, if_pos hr]; exact hid rfl
   have hlt : n.toNat < s.im.length := by omega
   obtain ⟨N, hN⟩ : ∃ N : Nat, n = (N : Int) := ⟨n.toNat, by omega⟩;rw [hN] at hlt hr hb HE ⊢;rw [Int.toNat_natCast] at hlt;obtain ⟨t, ht⟩ : ∃ t, s.im[N]? = some t := ⟨_, List.getElem?_eq_getElem hlt⟩
   have HG : Hid (s.im.getD N Zs = t) := by rw [List.getD_eq_getElem?_getD, ht]; exact hid rfl
   have hts : IsSec t := HI.out.1 t (List.mem_of_getElem? ht)
   rcases HI.out.2 with e | ⟨b, o, ha, _, hrg⟩
   ·rw [e] at hlt; exact absurd hlt (by simp)
   have HRG := hid (hrg N t ht);subst ha;obtain ⟨hr1, hr2⟩ := hr
   have hb' : ¬ ((N : Int) = s.bad) := fun e => hb ⟨e, hr1⟩
   have h26 := sz26
   have hnot : ¬ ((N : Int) < 0) := by omega
   have hnot2 : ¬ ((s.im.length : Int) ≤ (N : Int)) := by omega
   have HB' := hid hb';clear hrg hb hi ht
   go_wp2_with (first
    | (refine wpList_load_mid rfl 33 (.tmp 30) rfl b (o + N * 128) rfl _ _ HRG.out Tryz.underlying33 rfl (by rw [h26, List.length_map, hts.1]) ?_)
    | (refine store_sec rfl (.tmp 4) (.tmp 31) rfl (w.heap.size + 1) rfl t rfl hts.1 Zs Zs_len H1.out ?_; intro w5 p5))
   exact bodyPost_ret (results_sec Tryz.results126 _ _ (w.heap.size + 1) t hts.1 _ rfl rfl p5.here) rfl ⟨by rw [HE.out, Int.toNat_natCast, HG.out]; rfl, p5.below HB.out (by omega)⟩
  ·have HE : Hid (rdS s n = (Zs, 40)) := by unfold rdS; rw [if_neg hb, if_neg hr]; exact hid rfl
   have hor : n < 0 ∨ (0 ≤ n ∧ (s.im.length : Int) ≤ n) := by omega
   rcases hor with h1 | ⟨h1, h2⟩
   ·have h3 : ¬ (0 ≤ n) := by omega
    clear hb hr
    by_cases hq : n = s.bad
    ·rw [← hq] at c1
     clear hq
     go_wp2_with (first | (refine store_sec rfl (.tmp 4) (.tmp 26) rfl (w.heap.size + 1) rfl Zs rfl Zs_len Zs Zs_len H1.out ?_; intro w5 p5))
     exact bodyPost_ret (results_sec Tryz.results126 _ _ (w.heap.size + 1) Zs Zs_len _ rfl rfl p5.here) rfl ⟨by rw [HE.out]; rfl, p5.below HB.out (by omega)⟩
    ·have hq' := hq
     go_wp2_with (first | (refine store_sec rfl (.tmp 4) (.tmp 26) rfl (w.heap.size + 1) rfl Zs rfl Zs_len Zs Zs_len H1.out ?_; intro w5 p5))
     exact bodyPost_ret (results_sec Tryz.results126 _ _ (w.heap.size + 1) Zs Zs_len _ rfl rfl p5.here) rfl ⟨by rw [HE.out]; rfl, p5.below HB.out (by omega)⟩
   ·have h3 : ¬ n = s.bad := fun e => hb ⟨e, h1⟩
    have h4 : ¬ n < 0 := by omega
    clear hb hr
    go_wp2_with (first | (refine store_sec rfl (.tmp 4) (.tmp 26) rfl (w.heap.size + 1) rfl Zs rfl Zs_len Zs Zs_len H1.out ?_; intro w5 p5))
    exact bodyPost_ret (results_sec Tryz.results126 _ _ (w.heap.size + 1) Zs Zs_len _ rfl rfl p5.here) rfl ⟨by rw [HE.out]; rfl, p5.below HB.out (by omega)⟩
def tab9 (s : Src9) (n : Int) : List Int × Int := if (rdS s n).2 = 0 then (ptrsTo (rdS s n).1 32, 0) else (Zp, (rdS s n).2)
theorem tab9_len (s : Src9) (n : Int) : (tab9 s n).1.length = 32 := by
 unfold tab9
 split
 ·exact ptrsTo_len _ _
 ·exact Zp_len
def wayR (k : Int) : Int × Int × Int × Int :=
 if k < 0 ∨ 1068 ≤ k then (0, 0, 0, 90) else if k < 12 then (0, k, 0, 0) else if k < 44 then (1, k - 12, 0, 0) else (2, (k - 44).tdiv 32, (k - 44) % 32, 0)
def wayV (x : Int × Int × Int × Int) : Value := .tuple #[.int .i64 x.1, .int .i64 x.2.1, .int .i64 x.2.2.1, .int .i64 x.2.2.2]
theorem results_4 {fn : Func} {a b c d : Tmp} (h : fn.results = #[.tmp a, .tmp b, .tmp c, .tmp d]) (tmps : Array Value) (w : World) : (results fn tmps).run Tryz.prog w = .ok (.tuple #[tmps.getD a undef, tmps.getD b undef, tmps.getD c undef, tmps.getD d undef]) w := by
 simp [results, h]
theorem tdiv_small {k : Int} (h : 0 ≤ k) (h2 : k < 1024) : 0 ≤ k.tdiv 32 ∧ k.tdiv 32 < 32 ∧ 0 ≤ k % 32 ∧ k % 32 < 32 := by
 rw [Int.tdiv_eq_ediv_of_nonneg h]
 omega
set_option maxRecDepth 100000 in
set_option maxHeartbeats 1000000 in
theorem rway_any (k : Int) (w : World) : Calls Tryz.prog 96 #[.int .i64 k] w fun e w' => e = .returned (wayV (wayR k)) ∧ w' = w := by
 by_cases h0 : k < 0 ∨ 1068 ≤ k
 ·have HE : Hid (wayR k = (0, 0, 0, 90)) := if_pos h0
  rcases h0 with h1 | h1
  ·go_enter Tryz.func96, Tryz.ntmps96
   go_wp2
   all_goals exact bodyPost_ret (results_4 Tryz.results96 _ _) rfl ⟨by rw [HE.out]; rfl, rfl⟩
  ·have h2 : ¬ k < 0 := by omega
   go_enter Tryz.func96, Tryz.ntmps96
   go_wp2
   all_goals exact bodyPost_ret (results_4 Tryz.results96 _ _) rfl ⟨by rw [HE.out]; rfl, rfl⟩
 ·have h2 : ¬ k < 0 := by omega
  have h3 : ¬ 1068 ≤ k := by omega
  by_cases h4 : k < 12
  ·have HE : Hid (wayR k = (0, k, 0, 0)) := by unfold wayR; rw [if_neg h0, if_pos h4]; exact hid rfl
   clear h0
   go_enter Tryz.func96, Tryz.ntmps96
   go_wp2
   all_goals exact bodyPost_ret (results_4 Tryz.results96 _ _) rfl ⟨by rw [HE.out]; rfl, rfl⟩
  ·by_cases h5 : k < 44
   ·have HE : Hid (wayR k = (1, k - 12, 0, 0)) := by unfold wayR; rw [if_neg h0, if_neg h4, if_pos h5]; exact hid rfl
    clear h0
    go_enter Tryz.func96, Tryz.ntmps96
    go_wp2
    all_goals exact bodyPost_ret (results_4 Tryz.results96 _ _) rfl ⟨by rw [HE.out]; rfl, rfl⟩
   ·have HE : Hid (wayR k = (2, (k - 44).tdiv 32, (k - 44) % 32, 0)) := by unfold wayR; rw [if_neg h0, if_neg h4, if_neg h5]; exact hid rfl
    have hb := tdiv_small (k := k - 44) (by omega) (by omega);clear h0
    go_enter Tryz.func96, Tryz.ntmps96
    go_wp2
    all_goals exact bodyPost_ret (results_4 Tryz.results96 _ _) rfl ⟨by rw [HE.out]; rfl, rfl⟩
theorem results_2t {fn : Func} {a b : Tmp} (h : fn.results = #[.tmp a, .tmp b]) (tmps : Array Value) (w : World) : (results fn tmps).run Tryz.prog w = .ok (.tuple #[tmps.getD a undef, tmps.getD b undef]) w := by
 simp [results, h]

end Go.Proofs.YtpmignilhoihnaaGreat

namespace Go.Proofs.YtpmignilhoihnaaGreat
open Go.RowKit Go.Shelf

def rtab9 (s : Src9) (n : Int) : List Int × Int := if n = 0 then (Zp, 0) else tab9 s n
theorem rtab9_len (s : Src9) (n : Int) : (rtab9 s n).1.length = 32 := by
 unfold rtab9
 split
 ·exact Zp_len
 ·exact tab9_len _ _
set_option maxRecDepth 100000 in
set_option maxHeartbeats 2000000 in
theorem rtable_any (a : Option Addr) (c : Nat) (s : Src9) (n : Int) (w : World) (hi : ImgAt w a s.im) :
  Calls Tryz.prog 97 #[.agg (srcV a c s), .int .i64 n] w fun e w' => e = .returned (.tuple #[.agg (NA (rtab9 s n).1), .int .i64 (rtab9 s n).2]) ∧ Below w.heap.size w w' := by
 have hzp := zero_ptr;have hzs := zero_sec;obtain ⟨SV, hSV⟩ : ∃ y, y = srcV a c s := ⟨_, rfl⟩;have HSV := hid hSV
 have hS3 : SV.size = 3 := by rw [hSV]; rfl
 have hsec := rdS_sec hi n;rw [← hSV];clear hSV;obtain ⟨W, hW⟩ : ∃ y, y = (w.alloc (.cells SV 109)).alloc (.cells (NA Zp) 103) := ⟨_, rfl⟩
 have H0 : Hid (W.heap[w.heap.size]? = some (.cells SV 109 (0, 0))) := by rw [hW]; exact heap_alloc2_old w _ _
 have H1 : Hid (W.heap[w.heap.size + 1]? = some (.cells (NA Zp) 103 (0, 0))) := by rw [hW]; exact heap_alloc2_new w _ _
 have HB : Hid (Below w.heap.size w W) := by rw [hW]; exact ((Below.refl _ _).alloc (Nat.le_refl _) _).alloc (by simp) _
 have hR := rRead_any a c s n W (hi.below HB.out);rw [← HSV.out] at hR
 go_enter Tryz.func97, Tryz.ntmps97
 go_upto_region 1 with fail
 rw [← hW];clear hW
 by_cases hn : n = 0
 ·have HE : Hid (rtab9 s n = (Zp, 0)) := if_pos hn
  have hbp : ∀ W, (Instr.build 103 #[]).run Tryz.prog W = .ok (.agg (NA Zp)) W := fun W => by kernel_rfl
  subst hn;clear hzp hR
  go_wp2_with (first
   | (refine store_R rfl 103 (.tmp 4) (.tmp 10) rfl (w.heap.size + 1) (NA Zp) rfl rfl 103 (NA Zp) H1.out (by rw [szP, NA_size, Zp_len]) rfl (NA_one _) ?_; intro w5 p5))
  exact bodyPost_ret (results_R Tryz.results97 _ _ (w.heap.size + 1) _ 103 _ _ Tryz.underlying103 rfl (by rw [szP, NA_size, Zp_len]) rfl rfl p5.here) rfl ⟨by rw [HE.out]; rfl, p5.below HB.out (by omega)⟩
 ·have HE : Hid (rtab9 s n = tab9 s n) := if_neg hn
  generalize hR0 : rdS s n = R at *
  have HT : Hid (rtab9 s n = if R.2 = 0 then (ptrsTo R.1 32, 0) else (Zp, R.2)) := by rw [HE.out]; unfold tab9; rw [hR0]; exact hid rfl
  clear hR0 HE
  go_upto_region 4 with (first
   | (refine load_R rfl 109 (.tmp 2) rfl w.heap.size rfl 109 SV _ H0.out Tryz.underlying109 rfl (by rw [szSrc, hS3]) ?_)
   | (go_at_call 126; go_must (refine hR.mono ?_; rintro e w2 ⟨rfl, hb2⟩; have HB2 := hid (btr HB.out hb2 HB.out.size); have H12 : Hid (w2.heap[w.heap.size + 1]? = some (.cells (NA Zp) 103 (0, 0))) := (by rw [hb2.block _ (slt H1.out)]; exact H1); clear hb2))
   | (refine store_sec rfl (.tmp 6) (.tmp 15) rfl w2.heap.size rfl R.1 rfl hsec.1 Zs Zs_len (heap_alloc_new _ _) ?_; go_must (intro w4 p4; have H14 : Hid (w4.heap[w.heap.size + 1]? = some (.cells (NA Zp) 103 (0, 0))) := (by have := slt H12.out; rw [p4.other _ (by omega), Below.heap_alloc _ _ _ this]; exact H12); have H24 := hid p4.here; have HB4 : Hid (Below w.heap.size w w4) := hid (p4.below (HB2.out.alloc HB2.out.size _) HB2.out.size))))
  clear hzp hzs hR
  by_cases hz : R.2 = 0
  ·have HT2 : Hid (rtab9 s n = (ptrsTo R.1 32, 0)) := by rw [HT.out, if_pos hz]; exact hid rfl
   have hP := rreadPointers_any R.1 hsec w4;have hpl := ptrsTo_len R.1 32
   generalize ptrsTo R.1 32 = PP at *
   go_wp2_with (first
    | (refine load_sec rfl (.tmp 6) rfl w2.heap.size rfl R.1 hsec.1 H24.out ?_)
    | (go_at_call 55; go_must (refine hP.mono ?_; rintro e y1 ⟨rfl, hb1⟩; have Y1 : Hid (y1.heap[w.heap.size + 1]? = some (.cells (NA Zp) 103 (0, 0))) := (by rw [hb1.block _ (slt H14.out)]; exact H14); have YB := hid (btr HB4.out hb1 HB4.out.size); clear hb1))
    | (refine store_R rfl 103 (.tmp 4) (.tmp 22) rfl (w.heap.size + 1) (NA PP) rfl rfl 103 (NA Zp) Y1.out (by rw [szP, NA_size, hpl]) (by rw [NA_size, NA_size, Zp_len, hpl]) (NA_one _) ?_; intro y2 p2))
   exact bodyPost_ret (results_R Tryz.results97 _ _ (w.heap.size + 1) _ 103 _ _ Tryz.underlying103 rfl (by rw [szP, NA_size, hpl]) rfl rfl p2.here) rfl ⟨by rw [HT2.out]; rfl, p2.below YB.out (by omega)⟩
  ·have HT2 : Hid (rtab9 s n = (Zp, R.2)) := by rw [HT.out, if_neg hz]; exact hid rfl
   have hbp : ∀ W, (Instr.build 103 #[]).run Tryz.prog W = .ok (.agg (NA Zp)) W := fun W => by kernel_rfl
   go_wp2_with (first
    | (refine store_R rfl 103 (.tmp 4) (.tmp 19) rfl (w.heap.size + 1) (NA Zp) rfl rfl 103 (NA Zp) H14.out (by rw [szP, NA_size, Zp_len]) rfl (NA_one _) ?_; intro y2 p2))
   exact bodyPost_ret (results_R Tryz.results97 _ _ (w.heap.size + 1) _ 103 _ _ Tryz.underlying103 rfl (by rw [szP, NA_size, Zp_len]) rfl rfl p2.here) rfl ⟨by rw [HT2.out]; rfl, p2.below HB4.out (by omega)⟩

end Go.Proofs.YtpmignilhoihnaaGreat
