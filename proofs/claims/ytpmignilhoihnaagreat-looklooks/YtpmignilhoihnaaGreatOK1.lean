/-
 A directory's slots, one by one: the document's look beside the pure one.
-/
import Derived.Test.YtpmignilhoihnaaGreatHG1
import Derived.Test.YtpmignilhoihnaaGreatOH
import Derived.Test.YtpmignilhoihnaaGreatOD
import Derived.Test.YtpmignilhoihnaaGreatN5
namespace Go.Proofs.YtpmignilhoihnaaGreat

structure QI (N M : Int) (im : Img) (s : LS) (rest : List Int) (ds : List Int) : Prop where
 q : s.q = ds.map fun i => (spI s.wt ((s.tk i).getD Zi)).map Prod.snd
 d : ∀ i ∈ ds, ∃ z, s.tk i = some z ∧ z.getD 0 0 = 2
 w : ∀ i z, s.tk i = some z → z.getD 0 0 = 2 → ∀ y ∈ spI s.wt z, s.wp y.2 = false
 r : ∀ n ∈ rest, ∃ i z, s.tk i = some z ∧ z.getD 0 0 = 2 ∧ ∃ y ∈ spI s.wt z, y.2 = n
 f : ∀ n, secI s.wt n ≠ secI im n → s.wp n = true ∨ ∃ i z, s.tk i = some z ∧ (n ∈ tabsZ s.wt z ∨ z.getD 0 0 = 2 ∧ ∃ y ∈ spI s.wt z, y.2 = n)
theorem QI.step {N M : Int} {im : Img} {s t : LS} {rest rest' ds ds' : List Int} (h : QI N M im s rest ds)
  (hl : ∀ i z, s.tk i = some z → ∃ L, t.tk i = some (z.set 1 L) ∧ tabsZ t.wt z = tabsZ s.wt z ∧ spI t.wt z = spI s.wt z)
  (hq : t.q = s.q ++ (ds'.map fun i => (spI t.wt ((t.tk i).getD Zi)).map Prod.snd)) (hd : ∀ i ∈ ds', ∃ z, t.tk i = some z ∧ z.getD 0 0 = 2)
  (hw : ∀ i z, s.tk i = some z → z.getD 0 0 = 2 → ∀ y ∈ spI s.wt z, t.wp y.2 = s.wp y.2)
  (hn : ∀ i z, t.tk i = some z → s.tk i = none → z.getD 0 0 = 2 → ∀ y ∈ spI t.wt z, t.wp y.2 = false)
  (hr : ∀ n ∈ rest', n ∈ rest)
  (hp : ∀ n, s.wp n = true → t.wp n = true)
  (hf : ∀ n, secI t.wt n ≠ secI s.wt n → t.wp n = true ∨ ∃ i z, t.tk i = some z ∧ (n ∈ tabsZ t.wt z ∨ z.getD 0 0 = 2 ∧ ∃ y ∈ spI t.wt z, y.2 = n)) : QI N M im t rest' (ds ++ ds') := by
 have old : ∀ i z, s.tk i = some z → ∃ z', t.tk i = some z' ∧ z'.getD 0 0 = z.getD 0 0 ∧ tabsZ t.wt z' = tabsZ s.wt z ∧ spI t.wt z' = spI s.wt z := fun i z hz => by
  obtain ⟨L, e1, e2, e3⟩ := hl i z hz;obtain ⟨k1, k2⟩ := tabs_links t.wt z L
  exact ⟨_, e1, getD_set_ne (by omega), k1.trans e2, k2.trans e3⟩
 refine ⟨?_, fun i hi => ?_, fun i z hz h2 y hy => ?_, fun n hn' => ?_, fun n hne => ?_⟩
 ·rw [hq, List.map_append, h.q]
  congr 1
  refine List.map_congr_left fun i hi => ?_
  obtain ⟨z, hz, _⟩ := h.d i hi;obtain ⟨z', e1, _, _, e3⟩ := old i z hz;rw [hz, e1]
  show List.map Prod.snd (spI s.wt z) = List.map Prod.snd (spI t.wt z')
  rw [e3]
 ·rcases List.mem_append.1 hi with hi | hi
  ·obtain ⟨z, hz, h2⟩ := h.d i hi
   obtain ⟨z', e1, e2, _⟩ := old i z hz
   exact ⟨z', e1, e2.trans h2⟩
  ·exact hd i hi
 ·cases hs : s.tk i with
  | none => exact hn i z hz hs h2 y hy
  | some z0 =>
   obtain ⟨z', e1, e2, _, e3⟩ := old i z0 hs;rw [hz] at e1;obtain rfl := Option.some.inj e1;rw [e3] at hy;rw [hw i z0 hs (e2.symm.trans h2) y hy]
   exact h.w i z0 hs (e2.symm.trans h2) y hy
 ·obtain ⟨i, z, hz, h2, y, hy, hyn⟩ := h.r n (hr n hn')
  obtain ⟨z', e1, e2, _, e3⟩ := old i z hz
  exact ⟨i, z', e1, e2.trans h2, y, by rw [e3]; exact hy, hyn⟩
 ·by_cases e : secI t.wt n = secI s.wt n
  ·rw [e] at hne
   rcases h.f n hne with h1 | ⟨i, z, hz, h2⟩
   ·exact .inl (hp n h1)
   ·obtain ⟨z', e1, e2, e3, e4⟩ := old i z hz
    refine .inr ⟨i, z', e1, ?_⟩
    rcases h2 with h2 | ⟨h2, y, hy, hyn⟩
    ·exact .inl (by rw [e3]; exact h2)
    ·exact .inr ⟨e2.trans h2, y, by rw [e4]; exact hy, hyn⟩
  ·exact hf n e
theorem wipeP_true {size : Int} {sp : List (Int × Int)} {wp : Int → Bool} {n : Int} (h : wp n = true) : wipeP size sp wp n = true := by
 unfold wipeP
 cases lastB size sp with
 | none => exact h
 | some l => exact putC_old h
def Cg (N : Int) (keep : KeepF) (g : Img → Int → List Int) : Prop := ∀ s i p, s.wt.length = N → AllSec s.wt → (∀ x ∈ s.sp, s.cl x.2 = true) → ∀ n, secI (keep s i p).2.wt n ≠ secI s.wt n → (keep s i p).1 = true ∧ n ∈ g (keep s i p).2.wt p
theorem block_cg (N M cnt : Int) : Cg N (blockF N M cnt) g0 := fun s i p _ _ _ n h => by
 unfold blockF at h
 split at h
 ·exact absurd rfl h
 ·exact absurd rfl h
theorem goK_cg {N M : Int} {keep : KeepF} {g : Img → Int → List Int} {G : Img → Int → Int → List (Int × Int)} (hM : 0 ≤ M) (hk : Kpr N M keep) (hb : Sb N keep) (hr : KR N M keep g G) (hg : Cg N keep g) (t : List Int) (s : TS) (hs : s.wt.length = N) (ha : AllSec s.wt) (hc : ∀ x ∈ s.sp, s.cl x.2 = true) : ∀ K, K ≤ t.length → ∀ n, secI (goK keep t s K).2.wt n ≠ secI s.wt n → ∃ j, j < K ∧ (goK keep t s K).1.getD j 0 = t.getD j 0 ∧ t.getD j 0 ≠ 0 ∧ n ∈ g (goK keep t s K).2.wt (t.getD j 0)
 | 0, _, n, h => absurd rfl h
 | K + 1, hK, n, h => by
  have m0 := goK_mo hk t s hs K
  have hl : (goK keep t s K).2.wt.length = N := by rw [m0.len]; exact hs
  have e2 : (goK keep t s (K + 1)).2 = (keep (goK keep t s K).2 K (t.getD K 0)).2 := rfl;have m1 := hk.mo (goK keep t s K).2 K (t.getD K 0) hl
  by_cases e : secI (goK keep t s (K + 1)).2.wt n = secI (goK keep t s K).2.wt n
  ·rw [e] at h
   obtain ⟨j, hj, h1, h0, h2⟩ := goK_cg hM hk hb hr hg t s hs ha hc K (by omega) n h;obtain ⟨_, k2, _⟩ := goK_kr hk hb hr t s hs ha hc K (by omega) j hj (by rw [h1]; exact h0);refine ⟨j, by omega, ?_, h0, ?_⟩
   ·rw [goK_get keep t s j K (by omega), if_pos hj] at h1
    rw [goK_get keep t s j (K + 1) hK, if_pos (by omega)]
    exact h1
   ·rw [e2, (hr.loc _ _ _ fun q hq => m1.wt q (k2 q hq).2.1).1]
    exact h2
  ·obtain ⟨h1, h2⟩ := hg (goK keep t s K).2 K (t.getD K 0) hl (goK_sb hk hb t s hs ha K).1 (m0.claimed hc) n e
   have hp := (hk.yes _ _ _ hl h1).2.2.1
   exact ⟨K, by omega, by rw [goK_get keep t s K (K + 1) hK, if_pos (by omega), if_pos h1], by omega, h2⟩
theorem table_cg {N M cnt each : Int} {keep : KeepF} {g : Img → Int → List Int} {G : Img → Int → Int → List (Int × Int)} (hM : 0 ≤ M) (hk : Kpr N M keep) (hb : Sb N keep) (hr : KR N M keep g G) (hg : Cg N keep g) : Cg N (tableF N M cnt each keep) (gTT g) := fun s f p hs ha hc n h => by
 rcases table_cases (cnt := cnt) (each := each) hM hk s hs f p with ⟨_, e⟩ | ⟨_, _, e⟩ | ⟨hcl, hz, e⟩
 ·rw [e] at h; exact absurd rfl h
 ·rw [e] at h; exact absurd rfl h
 ·rw [e] at h ⊢
  refine ⟨rfl, ?_⟩
  simp only [Bool.and_eq_true] at hcl
  obtain ⟨h1, h2, h3⟩ := claimB_of.1 hcl.2;have hm := gone_mo (each := each) (f := f) hk s hs p;have hback := gone_back each f keep s p (ha p)
  have hc' : ∀ x ∈ (⟨s.wt, putC s.cl p, s.sp⟩ : TS).sp, (⟨s.wt, putC s.cl p, s.sp⟩ : TS).cl x.2 = true := fun x hx => putC_old (hc x hx)
  have key : ∀ j, j < 32 → (gone each f keep s p).1.getD j 0 ≠ 0 → _ := fun j hj h0 => goK_kr (inner_kpr hk) (fun s _ p => hb s _ p) (inner_kr (each := each) (f := f) hr) (ptrsTo (secI s.wt p) 32) ⟨s.wt, putC s.cl p, s.sp⟩ hs ha hc' 32 (by rw [ptrsTo_len]; omega) j hj h0
  have kc : ∀ n, secI (gone each f keep s p).2.wt n ≠ secI s.wt n → ∃ j, j < 32 ∧ (gone each f keep s p).1.getD j 0 = (ptrsTo (secI s.wt p) 32).getD j 0 ∧ (ptrsTo (secI s.wt p) 32).getD j 0 ≠ 0 ∧ n ∈ g (gone each f keep s p).2.wt ((ptrsTo (secI s.wt p) 32).getD j 0) := fun n hn => goK_cg hM (inner_kpr hk) (fun s _ p => hb s _ p) (inner_kr (each := each) (f := f) hr) (fun s i p a b c d => hg s (f + each * i) p a b c d) (ptrsTo (secI s.wt p) 32) ⟨s.wt, putC s.cl p, s.sp⟩ hs ha hc' 32 (by rw [ptrsTo_len]; omega) n hn
  have hlen : (gone each f keep s p).2.wt.length = N := by rw [hm.len]; exact hs
  have kg : ∀ j, j < 32 → (gone each f keep s p).1.getD j 0 ≠ 0 → ∀ q ∈ g (gone each f keep s p).2.wt ((gone each f keep s p).1.getD j 0), q ≠ p := fun j hj h0 q hq => by
   have k1 : (gone each f keep s p).1.getD j 0 = (ptrsTo (secI s.wt p) 32).getD j 0 := (key j hj h0).1;rw [k1] at hq;have k2 : putC s.cl p q = false := ((key j hj h0).2.1 q hq).1
   exact (putC_off.1 k2).1
  clear key
  generalize gone each f keep s p = r at *
  have e1 : secI (r.2.wt.set p.toNat (ptrS r.1)) p = ptrS r.1 := secI_set (by omega) (by rw [hlen]; exact h3)
  show n ∈ p :: gRow (g (r.2.wt.set p.toNat (ptrS r.1))) (ptrsTo (secI (r.2.wt.set p.toNat (ptrS r.1)) p) 32) 32
  rw [e1, hback]
  by_cases hnp : n = p
  ·rw [hnp]; exact List.mem_cons_self
  ·have h : secI (r.2.wt.set p.toNat (ptrS r.1)) n ≠ secI s.wt n := h
   rw [secI_set_ne (by omega) hnp] at h;obtain ⟨j, hj, k1, k0, k2⟩ := kc n h;refine List.mem_cons_of_mem _ (mem_gRow.2 ⟨j, hj, by rw [k1]; exact k0, ?_⟩);rw [(hr.loc _ _ _ fun q hq => secI_set_ne (by omega) (kg j hj (by rw [k1]; exact k0) q hq)).1, k1]
   exact k2
theorem ino_cg {N M : Int} (hM : 0 ≤ M) {z : List Int} (hz : z.length = 18) (wt : Img) (cl : Int → Bool) (hw : wt.length = N) (ha : AllSec wt) {n : Int} (h : secI (dblT N M z wt cl).2.wt n ≠ secI wt n) : n ∈ tabsZ (dblT N M z wt cl).2.wt (inoT N M z wt cl) := by
 have kb := block_kpr N M (cntZ z);have bb := block_sb N M (cntZ z);have rb := block_kr N M (cntZ z);have gb := block_cg N M (cntZ z);have ks : Kpr N M (singleF N M (cntZ z)) := table_kpr hM kb;have bs : Sb N (singleF N M (cntZ z)) := table_sb hM kb bb;have rs := single_kr (N := N) hM (cntZ z);have gs : Cg N (singleF N M (cntZ z)) (gTT g0) := table_cg hM kb bb rb gb;have kd : Kpr N M (doubleF N M (cntZ z)) := table_kpr hM ks;have gd : Cg N (doubleF N M (cntZ z)) (gTT (gTT g0)) := table_cg hM ks bs rs gs;have md := dir_mo (N := N) (M := M) z wt cl hw;have ms := sin_mo (N := N) (M := M) hM z wt cl hw;have m2 := dbl_mo0 (N := N) (M := M) hM z wt cl hw
 have hc0 : ∀ x ∈ (⟨wt, cl, []⟩ : TS).sp, (⟨wt, cl, []⟩ : TS).cl x.2 = true := fun x hx => (by cases hx)
 have hl12 : ((z.drop 4).take 12).length = 12 := by rw [List.length_take, List.length_drop]; omega
 have hdir : (dirT N M z wt cl).1.length = 12 := by unfold dirT; rw [goK_len]; exact hl12
 have hd1 : AllSec (dirT N M z wt cl).2.wt := (goK_sb kb bb ((z.drop 4).take 12) ⟨wt, cl, []⟩ hw ha 12).1
 have hdl : (dirT N M z wt cl).2.wt.length = N := by rw [md.len]; exact hw
 have hsl : (sinT N M z wt cl).2.wt.length = N := by rw [ms.len]; exact hdl
 have hs1 : AllSec (sinT N M z wt cl).2.wt := (bs (dirT N M z wt cl).2 12 (z.getD 16 0) hdl hd1).1;have hcd := md.claimed hc0;have hcs := ms.claimed hcd
 have e16 : (inoT N M z wt cl).getD 16 0 = leftF (sinT N M z wt cl).1 (z.getD 16 0) := by
  unfold inoT;rw [List.getD_eq_getElem?_getD, List.getElem?_append_right (by simp [hdir])]
  simp [hdir]
 have e17 : (inoT N M z wt cl).getD 17 0 = leftF (dblT N M z wt cl).1 (z.getD 17 0) := by
  unfold inoT;rw [List.getD_eq_getElem?_getD, List.getElem?_append_right (by simp [hdir])]
  simp [hdir]
 unfold tabsZ;rw [e16, e17]
 by_cases h2 : secI (dblT N M z wt cl).2.wt n = secI (sinT N M z wt cl).2.wt n
 ·rw [h2] at h
  by_cases h1 : secI (sinT N M z wt cl).2.wt n = secI (dirT N M z wt cl).2.wt n
  ·rw [h1] at h
   obtain ⟨j, _, _, _, hj⟩ := goK_cg hM kb bb rb gb ((z.drop 4).take 12) ⟨wt, cl, []⟩ hw ha hc0 12 (by omega) n h
   cases hj
  ·obtain ⟨hb, hm⟩ := gs (dirT N M z wt cl).2 12 (z.getD 16 0) hdl hd1 hcd n h1
   have hb : (sinT N M z wt cl).1 = true := hb;have hm : n ∈ gTT g0 (sinT N M z wt cl).2.wt (z.getD 16 0) := hm;have hr := rs.run (dirT N M z wt cl).2 12 (z.getD 16 0) hdl hd1 hcd hb
   have hr1 : ∀ q ∈ gTT g0 (sinT N M z wt cl).2.wt (z.getD 16 0), (sinT N M z wt cl).2.cl q = true := fun q hq => (hr.1 q hq).2.1
   have hl := (rs.loc (sinT N M z wt cl).2.wt (dblT N M z wt cl).2.wt (z.getD 16 0) (fun q hq => m2.wt q (hr1 q hq))).1;have hy := (ks.yes (dirT N M z wt cl).2 12 (z.getD 16 0) hdl hb).2.2.1;refine List.mem_append_left _ (mem_gZ.2 ?_);rw [hb]
   exact ⟨by show z.getD 16 0 ≠ 0; omega, by show n ∈ gTT g0 (dblT N M z wt cl).2.wt (z.getD 16 0); rw [hl]; exact hm⟩
 ·obtain ⟨hb, hm⟩ := gd (sinT N M z wt cl).2 44 (z.getD 17 0) hsl hs1 hcs n h2
  have hb : (dblT N M z wt cl).1 = true := hb;have hm : n ∈ gTT (gTT g0) (dblT N M z wt cl).2.wt (z.getD 17 0) := hm;have hy := (kd.yes (sinT N M z wt cl).2 44 (z.getD 17 0) hsl hb).2.2.1;refine List.mem_append_right _ (mem_gZ.2 ?_);rw [hb]
  exact ⟨by show z.getD 17 0 ≠ 0; omega, hm⟩
end Go.Proofs.YtpmignilhoihnaaGreat

namespace Go.Proofs.YtpmignilhoihnaaGreat

def newD (M : Int) (im : Img) (i : Int) (s : LS) : List Int := if s.tk i = none ∧ (soundZ M im i).1.getD 0 0 = 2 then [i] else []
theorem enter_qi {N M : Int} {im : Img} (hM : 0 ≤ M) {i : Int} {s : LS} {rest ds : List Int} (h : LInv N M im s rest) (hi : MayE M im s i) (k : KI M im s rest) (q : QI N M im s rest ds) : QI N M im (enterL N M im i s) rest (ds ++ newD M im i s) := by
 unfold MayE at hi
 cases ht : s.tk i with
 | some z =>
  have hd : newD M im i s = [] := by unfold newD; rw [if_neg (fun e => by rw [ht] at e; cases e.1)]
  rw [hd, enter_some ht];refine q.step (ds' := []) (fun j y hy => ?_) (by simp) (fun j hj => by cases hj) (fun _ _ _ _ _ _ => rfl) (fun j y hy hn => ?_) (fun _ e => e) (fun _ e => e) (fun n hn => absurd rfl hn)
  ·show ∃ L, (if j = i then some (moreZ z) else s.tk j) = some (y.set 1 L) ∧ _
   by_cases e : j = i
   ·subst e
    rw [ht] at hy;obtain rfl := Option.some.inj hy;rw [if_pos rfl]
    exact ⟨_, rfl, rfl, rfl⟩
   ·rw [if_neg e]
    obtain ⟨L, eL⟩ := set_self y
    exact ⟨L, by rw [← eL]; exact hy, rfl, rfl⟩
  ·replace hy : (if j = i then some (moreZ z) else s.tk j) = some y := hy
   by_cases e : j = i
   ·subst e; rw [ht] at hn; cases hn
   ·rw [if_neg e, hn] at hy; cases hy
 | none =>
  rw [ht] at hi
  simp only at hi
  obtain ⟨_, _, a3, a4, a5, _⟩ := sound_parts hi;obtain ⟨m1, _, m3⟩ := take_mo hM (soundZ M im i).1 s h.len;have r1 := (ino_kr (N := N) hM a3 s.wt s.cl h.len h.sec).1;have hsp := ino_sp (N := N) hM a3 s.wt s.cl h.len h.sec
  have hcg := fun n => ino_cg (N := N) hM a3 s.wt s.cl h.len h.sec (n := n)
  have hm := dbl_mo (N := N) (M := M) hM (soundZ M im i).1 s.wt s.cl h.len;have hok := dblT_ok N M (soundZ M im i).1 s.wt s.cl;obtain ⟨new, e, p, d⟩ := hm.sp;have e : (dblT N M (soundZ M im i).1 s.wt s.cl).2.sp = new := e;rw [← e] at p d;obtain ⟨e0, _, _, _⟩ := inoT_0 N M (soundZ M im i).1 s.wt s.cl
  have hold : ∀ j y, s.tk j = some y → j ≠ i := fun j y hy e => by rw [e, ht] at hy; cases hy
  rw [enter_none ht];obtain ⟨z', hz'⟩ : ∃ y, y = inoT N M (soundZ M im i).1 s.wt s.cl := ⟨_, rfl⟩;rw [← hz'] at r1 hsp hcg e0 ⊢
  have lk := fun (W : Img) => tabs_links W z' (z'.getD 1 0 + 1)
  have hl : ∀ j y, s.tk j = some y → ∃ L, (if j = i then some (moreZ z') else (takeL N M (soundZ M im i).1 s).tk j) = some (y.set 1 L) ∧ tabsZ (takeL N M (soundZ M im i).1 s).wt y = tabsZ s.wt y ∧ spI (takeL N M (soundZ M im i).1 s).wt y = spI s.wt y := fun j y hy => by
   rw [if_neg (hold j y hy), takeL_tk];obtain ⟨L, eL⟩ := set_self y;obtain ⟨t1, t2⟩ := tabs_loc (im := s.wt) (im' := (takeL N M (soundZ M im i).1 s).wt) (z := y) (fun n hn => m1.wt n ((k j y hy).tab n hn).1 (fun e => e))
   exact ⟨L, by rw [← eL]; exact hy, t1, t2⟩
  have hnew : ∀ j y, (if j = i then some (moreZ z') else (takeL N M (soundZ M im i).1 s).tk j) = some y → s.tk j = none → y = moreZ z' := fun j y hy hn => by
   by_cases e : j = i
   ·rw [if_pos e] at hy; exact (Option.some.inj hy).symm
   ·rw [if_neg e, takeL_tk, hn] at hy; cases hy
  have hm0 : (moreZ z').getD 0 0 = (soundZ M im i).1.getD 0 0 := by unfold moreZ; rw [getD_set_ne (by omega)]; exact e0
  by_cases hk : (soundZ M im i).1.getD 0 0 = 2
  ·have hd : newD M im i s = [i] := by unfold newD; rw [if_pos ⟨ht, hk⟩]
   rw [hd];have et := takeL_dir (N := N) (M := M) (s := s) hk
   have ewt : (takeL N M (soundZ M im i).1 s).wt = (dblT N M (soundZ M im i).1 s.wt s.cl).2.wt := by rw [et]
   have ewp : (takeL N M (soundZ M im i).1 s).wp = s.wp := by rw [et]
   have eq : (takeL N M (soundZ M im i).1 s).q = s.q ++ [(dblT N M (soundZ M im i).1 s.wt s.cl).2.sp.map Prod.snd] := by rw [et]
   refine q.step (ds' := [i]) hl ?_ (fun j hj => ?_) (fun j y hy _ x hx => ?_) (fun j y hy hn _ x hx => ?_) (fun _ e => e) (fun n e => ?_) (fun n hn => ?_)
   ·show (takeL N M (soundZ M im i).1 s).q = _
    rw [eq, List.map_cons, List.map_nil]
    show _ = s.q ++ [(spI (takeL N M (soundZ M im i).1 s).wt ((if i = i then some (moreZ z') else _).getD Zi)).map Prod.snd]
    rw [if_pos rfl]
    show _ = s.q ++ [(spI (takeL N M (soundZ M im i).1 s).wt (moreZ z')).map Prod.snd]
    rw [ewt, (show spI (dblT N M (soundZ M im i).1 s.wt s.cl).2.wt (moreZ z') = _ from (lk _).2), ← hsp]
   ·obtain rfl := List.mem_singleton.1 hj
    exact ⟨moreZ z', putT_same _ _ _, hm0.trans hk⟩
   ·show (takeL N M (soundZ M im i).1 s).wp x.2 = _
    rw [ewp]
   ·obtain rfl := hnew j y hy hn
    show (takeL N M (soundZ M im i).1 s).wp x.2 = false
    rw [ewp];have hx : x ∈ spI (takeL N M (soundZ M im i).1 s).wt (moreZ z') := hx;rw [ewt, (show spI (dblT N M (soundZ M im i).1 s.wt s.cl).2.wt (moreZ z') = _ from (lk _).2), ← hsp] at hx
    exact (h.un x.2 (p x hx).1).2
   ·show (takeL N M (soundZ M im i).1 s).wp n = true
    rw [ewp]; exact e
   ·have hn : secI (takeL N M (soundZ M im i).1 s).wt n ≠ secI s.wt n := hn
    refine .inr ⟨i, moreZ z', putT_same _ _ _, .inl ?_⟩
    show n ∈ tabsZ (takeL N M (soundZ M im i).1 s).wt (moreZ z')
    rw [ewt] at hn ⊢;rw [show tabsZ (dblT N M (soundZ M im i).1 s.wt s.cl).2.wt (moreZ z') = _ from (lk _).1]
    exact hcg n hn
  ·have hd : newD M im i s = [] := by unfold newD; rw [if_neg (fun e => hk e.2)]
   rw [hd];have et := takeL_file (N := N) (M := M) (s := s) hk
   have hpos : ∀ x ∈ (dblT N M (soundZ M im i).1 s.wt s.cl).2.sp, 0 < x.2 := fun x hx => by have := (hok x hx).1; omega
   have ewt : (takeL N M (soundZ M im i).1 s).wt = wipeW ((soundZ M im i).1.getD 2 0) (dblT N M (soundZ M im i).1 s.wt s.cl).2.sp (dblT N M (soundZ M im i).1 s.wt s.cl).2.wt := by rw [et]
   have ewp : (takeL N M (soundZ M im i).1 s).wp = wipeP ((soundZ M im i).1.getD 2 0) (dblT N M (soundZ M im i).1 s.wt s.cl).2.sp s.wp := by rw [et]
   have eq : (takeL N M (soundZ M im i).1 s).q = s.q := by rw [et]
   refine q.step (ds' := []) hl ?_ (fun j hj => by cases hj) (fun j y hy _ x hx => ?_) (fun j y hy hn h2 x hx => ?_) (fun _ e => e) (fun n e => ?_) (fun n hn => ?_)
   ·show (takeL N M (soundZ M im i).1 s).q = _
    rw [eq]; simp
   ·exact m1.wp x.2 ((k j y hy).blk x hx).1
   ·obtain rfl := hnew j y hy hn
    exact absurd (hm0.symm.trans h2) hk
   ·show (takeL N M (soundZ M im i).1 s).wp n = true
    rw [ewp]; exact wipeP_true e
   ·have hn : secI (takeL N M (soundZ M im i).1 s).wt n ≠ secI s.wt n := hn
    show (takeL N M (soundZ M im i).1 s).wp n = true ∨ _
    cases hl2 : lastB ((soundZ M im i).1.getD 2 0) (dblT N M (soundZ M im i).1 s.wt s.cl).2.sp with
    | none =>
     have e1 : (takeL N M (soundZ M im i).1 s).wt = (dblT N M (soundZ M im i).1 s.wt s.cl).2.wt := by rw [ewt]; unfold wipeW; rw [hl2]
     refine .inr ⟨i, moreZ z', putT_same _ _ _, .inl ?_⟩
     show n ∈ tabsZ (takeL N M (soundZ M im i).1 s).wt (moreZ z')
     rw [e1] at hn ⊢;rw [show tabsZ (dblT N M (soundZ M im i).1 s.wt s.cl).2.wt (moreZ z') = _ from (lk _).1]
     exact hcg n hn
    | some l =>
     by_cases hnl : n = l.2
     ·refine .inl ?_
      rw [ewp];unfold wipeP;rw [hl2, hnl]
      exact putC_self _ _
     ·have hlm := lastB_mem hl2
      have e1 : secI (takeL N M (soundZ M im i).1 s).wt n = secI (dblT N M (soundZ M im i).1 s.wt s.cl).2.wt n := by
       rw [ewt]; unfold wipeW; rw [hl2]
       exact secI_set_ne (hpos l hlm) hnl
      rw [e1] at hn;refine .inr ⟨i, moreZ z', putT_same _ _ _, .inl ?_⟩
      show n ∈ tabsZ (takeL N M (soundZ M im i).1 s).wt (moreZ z')
      rw [show tabsZ (takeL N M (soundZ M im i).1 s).wt (moreZ z') = _ from (lk _).1, ewt, (tabs_loc (im := (dblT N M (soundZ M im i).1 s.wt s.cl).2.wt) (im' := wipeW ((soundZ M im i).1.getD 2 0) (dblT N M (soundZ M im i).1 s.wt s.cl).2.sp (dblT N M (soundZ M im i).1 s.wt s.cl).2.wt) (z := z') (fun q hq => wipe_ne hpos (r1 q hq).2.2.1)).1]
      exact hcg n hn
def slotD (M : Int) (im : Img) (n : Int) (r : List ByteArray × LS) : List Int :=
 if (slotOf (secI r.2.wt n)).2.2 = 0 ∧ (slotOf (secI r.2.wt n)).1 = 0 ∧ (slotOf (secI r.2.wt n)).2.1.size = 0 then []
 else if (slotOf (secI r.2.wt n)).2.2 = 0 ∧ isEntryB M im r.2 (slotOf (secI r.2.wt n)).1 (hasN r.1 (slotOf (secI r.2.wt n)).2.1) = true then newD M im (slotOf (secI r.2.wt n)).1 r.2 else []
theorem QI.next {N M : Int} {im : Img} {s : LS} {n : Int} {l ds : List Int} (h : QI N M im s (n :: l) ds) : QI N M im s l ds := ⟨h.q, h.d, h.w, fun m hm => h.r m (List.mem_cons_of_mem _ hm), h.f⟩
theorem slot_qi {N M : Int} {im : Img} (hM : 0 ≤ M) {n : Int} {l ds : List Int} {r : List ByteArray × LS} (h : LInv N M im r.2 (n :: l)) (k : KI M im r.2 (n :: l)) (q : QI N M im r.2 (n :: l) ds) : QI N M im (slotL N M im n r).2 l (ds ++ slotD M im n r) := by
 obtain ⟨c1, c2, c3, c4⟩ := h.raw n List.mem_cons_self
 by_cases h1 : (slotOf (secI r.2.wt n)).2.2 = 0 ∧ (slotOf (secI r.2.wt n)).1 = 0 ∧ (slotOf (secI r.2.wt n)).2.1.size = 0
 ·rw [slot_empty h1]
  unfold slotD;rw [if_pos h1, List.append_nil]
  exact q.next
 ·by_cases h2 : (slotOf (secI r.2.wt n)).2.2 = 0 ∧ isEntryB M im r.2 (slotOf (secI r.2.wt n)).1 (hasN r.1 (slotOf (secI r.2.wt n)).2.1) = true
  ·rw [slot_entry h1 h2]
   unfold slotD;rw [if_neg h1, if_pos h2]
   exact enter_qi hM h.next (mayE_of h2.2) k.next q.next
  ·rw [slot_none h1 h2]
   unfold slotD;rw [if_neg h1, if_neg h2]
   have hl : ∀ i z, r.2.tk i = some z → tabsZ (r.2.wt.set n.toNat Zs) z = tabsZ r.2.wt z ∧ spI (r.2.wt.set n.toNat Zs) z = spI r.2.wt z := fun i z hz =>
    tabs_loc (im := r.2.wt) (im' := r.2.wt.set n.toNat Zs) (z := z) (fun m hm => secI_set_ne (by omega) (fun e => ((k i z hz).tab m hm).2.2.1 (by rw [e]; exact List.mem_cons_self)))
   refine q.step (ds' := []) (fun i z hz => ?_) (by simp) (fun j hj => by cases hj) (fun _ _ _ _ _ _ => rfl) (fun j y hy hn => ?_) (fun m hm => List.mem_cons_of_mem _ hm) (fun _ e => e) (fun m hm => ?_)
   ·obtain ⟨L, eL⟩ := set_self z
    exact ⟨L, by rw [← eL]; exact hz, (hl i z hz).1, (hl i z hz).2⟩
   ·have hy : r.2.tk j = some y := hy
    rw [hn] at hy; cases hy
   ·have hmn : m = n := by
     refine Decidable.byContradiction fun e => hm ?_
     show secI (r.2.wt.set n.toNat Zs) m = _
     exact secI_set_ne (by omega) e
    obtain ⟨i, z, hz, h3, y, hy, hyn⟩ := q.r n List.mem_cons_self
    exact .inr ⟨i, z, hz, .inr ⟨h3, y, by show y ∈ spI (r.2.wt.set n.toNat Zs) z; rw [(hl i z hz).2]; exact hy, by rw [hyn, hmn]⟩⟩
theorem QI.pop {N M : Int} {im : Img} {s : LS} {d : Int} {ds l : List Int} {q : List (List Int)} (h : QI N M im s [] (d :: ds)) (e : s.q = l :: q) : (∃ z, s.tk d = some z ∧ z.getD 0 0 = 2 ∧ l = (spI s.wt z).map Prod.snd) ∧ QI N M im { s with q := q } l ds := by
 obtain ⟨z, hz, h2⟩ := h.d d List.mem_cons_self;have hq := h.q;rw [e, List.map_cons] at hq;have e1 := (List.cons.inj hq).1;have e2 := (List.cons.inj hq).2;rw [hz] at e1;have e1 : l = (spI s.wt z).map Prod.snd := e1;refine ⟨⟨z, hz, h2, e1⟩, e2, fun i hi => h.d i (List.mem_cons_of_mem _ hi), h.w, fun n hn => ?_, h.f⟩;rw [e1] at hn;obtain ⟨y, hy, hyn⟩ := List.mem_map.1 hn
 exact ⟨d, z, hz, h2, y, hy, hyn⟩
theorem QI.none {N M : Int} {im : Img} {s : LS} {ds : List Int} (h : QI N M im s [] ds) : s.q = [] ↔ ds = [] := by
 rw [h.q]
 exact List.map_eq_nil_iff
theorem start_qi (N M : Int) (im : Img) : QI N M im (startL im) [] [] := ⟨rfl, (fun i hi => by cases hi), (fun i z hz => by cases hz), (fun n hn => by cases hn), fun n hn => absurd rfl hn⟩
def FirstP (s : LS) (n : Int) : Prop := ∃ i z, s.tk i = some z ∧ (n ∈ tabsZ s.wt z ∨ z.getD 0 0 = 2 ∧ ∃ y ∈ spI s.wt z, y.2 = n)
theorem QI.first {N M : Int} {im : Img} {s : LS} {rest ds : List Int} (h : QI N M im s rest ds) (k : KI M im s rest) {n : Int} (hn : secI s.wt n ≠ secI im n) : s.wp n = true ↔ ¬ FirstP s n := by
 constructor
 ·rintro hw ⟨i, z, hz, h1 | ⟨h1, y, hy, hyn⟩⟩
  ·have := ((k i z hz).tab n h1).2.1
   rw [hw] at this
   cases this
  ·have := h.w i z hz h1 y hy
   rw [hyn, hw] at this
   cases this
 ·intro hf
  rcases h.f n hn with h1 | h1
  ·exact h1
  ·exact absurd h1 hf
end Go.Proofs.YtpmignilhoihnaaGreat

namespace Go.Proofs.YtpmignilhoihnaaGreat

theorem mem_ent {im : Img} {z : List Int} {K : Nat} {x : Int × Int} (h : x ∈ (List.range K).flatMap (entB im z)) : 0 ≤ x.1 ∧ x.1 < K := by
 obtain ⟨k, hk, hx⟩ := List.mem_flatMap.1 h;have hk := List.mem_range.1 hk;unfold entB at hx
 split at hx
 ·cases hx
 ·obtain rfl := List.mem_singleton.1 hx
  exact ⟨by simp, by simp; omega⟩
theorem sp_to {im : Img} {z : List Int} (hz : z.length = 18) {K : Nat} (hK : K ≤ 1068) (hix : ∀ x ∈ spI im z, x.1 < K) : spI im z = (List.range K).flatMap (entB im z) := by
 have h1 := sp_blocks im hz;rw [h1] at hix ⊢;rw [show (1068 : Nat) = K + (1068 - K) by omega, flatMap_add] at hix ⊢
 have h2 : (List.range (1068 - K)).flatMap (fun k => entB im z (K + k)) = [] := by
  rw [List.flatMap_eq_nil_iff]
  intro k hk
  cases he : entB im z (K + k) with
  | nil => rfl
  | cons x l =>
   have hm : x ∈ (List.range K).flatMap (entB im z) ++ (List.range (1068 - K)).flatMap (fun k => entB im z (K + k)) := List.mem_append_right _ (List.mem_flatMap.2 ⟨k, hk, by rw [he]; exact List.mem_cons_self⟩);have := hix x hm
   have hx : x ∈ entB im z (K + k) := by rw [he]; exact List.mem_cons_self
   unfold entB at hx
   split at hx
   ·cases hx
   ·obtain rfl := List.mem_singleton.1 hx
    simp at this
    omega
 rw [h2, List.append_nil]
theorem last_sp {im : Img} {z : List Int} (hz : z.length = 18) {K : Nat} {size : Int} (h0 : 0 ≤ size) (hK : (K : Int) = (size + 127) / 128) (hK2 : K ≤ 1068) (hm : size % 128 ≠ 0) (hix : ∀ x ∈ spI im z, x.1 < K) : lastB size (spI im z) = if blkP im z (K - 1) = 0 then none else some (((K - 1 : Nat) : Int), blkP im z (K - 1)) := by
 rw [sp_to hz hK2 hix];obtain ⟨k, rfl⟩ : ∃ k, K = k + 1 := ⟨K - 1, by omega⟩;rw [List.range_succ, List.flatMap_append, show k + 1 - 1 = k by omega]
 have hs : size / 128 = (k : Int) := by omega
 have e1 : ([k].flatMap (entB im z)) = entB im z k := by simp
 rw [e1]
 by_cases hb : blkP im z k = 0
 ·rw [if_pos hb]
  have e2 : entB im z k = [] := by unfold entB; rw [if_pos hb]
  rw [e2, List.append_nil];unfold lastB
  cases hl : ((List.range k).flatMap (entB im z)).getLast? with
  | none => rfl
  | some l =>
   have := mem_ent (List.mem_of_getLast? hl)
   show (if size % 128 ≠ 0 ∧ l.1 = size / 128 then some l else none) = none
   rw [if_neg (by omega)]
 ·rw [if_neg hb]
  have e2 : entB im z k = [((k : Int), blkP im z k)] := by unfold entB; rw [if_neg hb]
  rw [e2];unfold lastB;rw [List.getLast?_append, List.getLast?_singleton]
  show (if size % 128 ≠ 0 ∧ (k : Int) = size / 128 then some ((k : Int), blkP im z k) else none) = _
  rw [if_pos ⟨hm, hs.symm⟩]
end Go.Proofs.YtpmignilhoihnaaGreat

namespace Go.Proofs.YtpmignilhoihnaaGreat

def Ko (N : Int) (keep : KeepF) : Prop := ∀ s i p n, N ≤ n → s.cl n = false → (keep s i p).2.cl n = false
theorem delC_off {cl : Int → Bool} {p n : Int} (k : cl n = false) : delC cl p n = false := by
 unfold delC;rw [k, Bool.and_false]
theorem block_ko (N M cnt : Int) : Ko N (blockF N M cnt) := fun s i p n hn hc => by
 unfold blockF
 split
 ·rename_i h
  rw [Bool.and_eq_true] at h;have := (claimB_of.1 h.2)
  exact putC_off.2 ⟨by omega, hc⟩
 ·exact hc
theorem goK_ko {N : Int} {keep : KeepF} (h : Ko N keep) (t : List Int) (s : TS) {n : Int} (hn : N ≤ n) (hc : s.cl n = false) : ∀ k, (goK keep t s k).2.cl n = false
 | 0 => hc
 | k + 1 => h _ _ _ n hn (goK_ko h t s hn hc k)
theorem inner_ko {N each f : Int} {keep : KeepF} (h : Ko N keep) : Ko N (innerF each f keep) := fun s _ p n hn hc => h s _ p n hn hc
theorem goF_ko {N : Int} {keep : KeepF} (h : Ko N keep) (p : Int) (s : TS) {n : Int} (hn : N ≤ n) (hc : s.cl n = false) : (goF keep p s).2.cl n = false := by
 unfold goF;have hg := goK_ko h (ptrsTo (secI s.wt p) 32) s hn hc 32
 simp only
 split
 ·exact delC_off hg
 ·exact hg
theorem table_ko {N M cnt each : Int} {keep : KeepF} (h : Ko N keep) : Ko N (tableF N M cnt each keep) := fun s f p n hn hc => by
 unfold tableF
 split
 ·rename_i hb
  rw [Bool.and_eq_true] at hb;have := (claimB_of.1 hb.2)
  exact goF_ko (inner_ko h) p _ hn (putC_off.2 ⟨by omega, hc⟩)
 ·exact hc
theorem dbl_ko (N M : Int) (z : List Int) (wt : Img) (cl : Int → Bool) {n : Int} (hn : N ≤ n) (hc : cl n = false) : (dblT N M z wt cl).2.cl n = false := by
 have kb := block_ko N M (cntZ z);have ks : Ko N (singleF N M (cntZ z)) := table_ko kb;have kd : Ko N (doubleF N M (cntZ z)) := table_ko ks
 exact kd _ _ _ n hn (ks _ _ _ n hn (goK_ko kb _ _ hn hc 12))
theorem ino_tabs {N M : Int} (hM : 0 ≤ M) {z : List Int} (hz : z.length = 18) (wt : Img) (cl : Int → Bool) (hw : wt.length = N) (ha : AllSec wt) : ∀ q ∈ tabsZ (dblT N M z wt cl).2.wt (inoT N M z wt cl), M < q ∧ q < N := fun q hq => by
 obtain ⟨h1, h2, _, h4⟩ := (ino_kr hM hz wt cl hw ha).1 q hq;refine ⟨h4, ?_⟩
 refine Decidable.byContradiction fun hn => ?_
 rw [dbl_ko N M z wt cl (by omega) h1] at h2
 cases h2
theorem blk_links (im : Img) (z : List Int) (L : Int) (k : Nat) : blkP im (z.set 1 L) k = blkP im z k := by
 unfold blkP;rw [getD_set_ne (by omega), getD_set_ne (by omega), getD_set_ne (by omega)]
theorem tab_sin {im : Img} {z : List Int} (h : z.getD 16 0 ≠ 0) : z.getD 16 0 ∈ tabsZ im z := List.mem_append_left _ (mem_gZ.2 ⟨h, List.mem_cons_self⟩)
theorem tab_dbl {im : Img} {z : List Int} (h : z.getD 17 0 ≠ 0) : z.getD 17 0 ∈ tabsZ im z := List.mem_append_right _ (mem_gZ.2 ⟨h, List.mem_cons_self⟩)
theorem tab_in {im : Img} {z : List Int} (h : z.getD 17 0 ≠ 0) {j : Nat} (hj : j < 32) (h2 : (ptrsTo (secI im (z.getD 17 0)) 32).getD j 0 ≠ 0) : (ptrsTo (secI im (z.getD 17 0)) 32).getD j 0 ∈ tabsZ im z :=
 List.mem_append_right _ (mem_gZ.2 ⟨h, List.mem_cons_of_mem _ (mem_gRow.2 ⟨j, hj, h2, List.mem_cons_self⟩)⟩)
end Go.Proofs.YtpmignilhoihnaaGreat

namespace Go.Proofs.YtpmignilhoihnaaGreat
open Go.RowKit Go.Shelf

theorem rtab_in {im : Img} {p : Int} (h : p ≠ 0 → 0 ≤ p ∧ p < im.length) : rtab9 ⟨im, -1, 0⟩ p = (if p = 0 then Zp else ptrsTo (secI im p) 32, 0) := by
 unfold rtab9
 by_cases e : p = 0
 ·rw [if_pos e, if_pos e]
 ·rw [if_neg e, if_neg e]
  have hh := h e
  have hr : rdS ⟨im, -1, 0⟩ p = (secI im p, 0) := by
   unfold rdS;rw [if_neg (show ¬ (p = -1 ∧ 0 ≤ p) by omega), if_pos hh]
   rfl
  unfold tab9;rw [hr, if_pos rfl]
theorem find_blk {im : Img} {z : List Int} {k : Nat} (hk : k < 1068) (h : ∀ q ∈ tabsZ im z, 0 ≤ q ∧ q < im.length) : findQ ⟨im, -1, 0⟩ z (k : Int) = (blkP im z k, 0) := by
 have h16 := rtab_in (im := im) (p := z.getD 16 0) (fun e => h _ (tab_sin e));have h17 := rtab_in (im := im) (p := z.getD 17 0) (fun e => h _ (tab_dbl e));unfold findQ blkP;rw [if_neg (by omega)]
 by_cases a : k < 12
 ·rw [if_pos (by omega), if_pos a, Int.toNat_natCast]
 ·rw [if_neg (by omega), if_neg a]
  by_cases b : k < 44
  ·rw [if_pos (by omega), if_pos b, h16, show ((k : Int) - 12).toNat = k - 12 by omega]
   by_cases e : z.getD 16 0 = 0
   ·rw [if_pos e, if_pos e]
    show (Zp.getD (k - 12) 0, (0 : Int)) = (0, 0)
    rw [Zp_get]
   ·rw [if_neg e, if_neg e]
  ·rw [if_neg (by omega), if_neg b, h17]
   have ed : (((k : Int) - 44).tdiv 32).toNat = (k - 44) / 32 := by rw [Int.tdiv_eq_ediv_of_nonneg (by omega)]; omega
   have em : (((k : Int) - 44) % 32).toNat = (k - 44) % 32 := by omega
   rw [ed, em]
   by_cases e : z.getD 17 0 = 0
   ·rw [if_pos e, if_pos e]
    show (if (0 : Int) = 0 then ((rtab9 ⟨im, -1, 0⟩ (Zp.getD ((k - 44) / 32) 0)).1.getD ((k - 44) % 32) 0, (rtab9 ⟨im, -1, 0⟩ (Zp.getD ((k - 44) / 32) 0)).2) else (0, 0)) = (0, 0)
    rw [if_pos rfl, Zp_get, rtab_in (by intro hn; exact absurd rfl hn), if_pos rfl]
    show (Zp.getD ((k - 44) % 32) 0, (0 : Int)) = (0, 0)
    rw [Zp_get]
   ·rw [if_neg e, if_neg e]
    obtain ⟨y, hy⟩ : ∃ y, y = (ptrsTo (secI im (z.getD 17 0)) 32).getD ((k - 44) / 32) 0 := ⟨_, rfl⟩;have hr := rtab_in (im := im) (p := y) (fun e2 => h _ (by rw [hy] at e2 ⊢; exact tab_in e (by omega) e2))
    show (if (0 : Int) = 0 then ((rtab9 ⟨im, -1, 0⟩ ((ptrsTo (secI im (z.getD 17 0)) 32).getD ((k - 44) / 32) 0)).1.getD ((k - 44) % 32) 0, (rtab9 ⟨im, -1, 0⟩ ((ptrsTo (secI im (z.getD 17 0)) 32).getD ((k - 44) / 32) 0)).2) else (0, 0)) = _
    rw [if_pos rfl, ← hy, hr]
    by_cases e2 : y = 0
    ·rw [if_pos e2, if_pos e2]
     show (Zp.getD ((k - 44) % 32) 0, (0 : Int)) = (0, 0)
     rw [Zp_get]
    ·rw [if_neg e2, if_neg e2]
theorem last_find {N M : Nat} {z : List Int} (hz : z.length = 18) (wt : Img) (cl : Int → Bool) (hw : wt.length = N) (ha : AllSec wt) (h0 : 0 ≤ z.getD 2 0) (h1 : z.getD 2 0 ≤ 136704) (hm : z.getD 2 0 % 128 ≠ 0) :
  ∃ q e, findQ ⟨(dblT N M z wt cl).2.wt, -1, 0⟩ ((inoT N M z wt cl).set 1 (z.getD 1 0)) (cntZ z - 1) = (q, e) ∧ ((q = 0 ∧ lastB (z.getD 2 0) (dblT N M z wt cl).2.sp = none) ∨ ∃ m : Nat, q = (m : Int) ∧ m ≠ 0 ∧ m < N ∧ ∃ j, lastB (z.getD 2 0) (dblT N M z wt cl).2.sp = some (j, (m : Int))) := by
 have hM : (0 : Int) ≤ (M : Int) := Int.natCast_nonneg _
 have hwi : wt.length = (N : Int) := by rw [hw]
 obtain ⟨K, hK⟩ : ∃ K : Nat, (K : Int) = cntZ z := ⟨(cntZ z).toNat, by unfold cntZ; omega⟩
 have hK0 : 1 ≤ K ∧ K ≤ 1068 := by unfold cntZ at hK; omega
 have hlen := (dbl_mo hM z wt cl hwi).len;have hsp := ino_sp hM hz wt cl hwi ha;have htab := ino_tabs hM hz wt cl hwi ha;have hix := dbl_ix N M z wt cl;have hok := dblT_ok N M z wt cl;have hil : (inoT N M z wt cl).length = 18 := inoT_len' hz wt cl
 have hf := find_blk (im := (dblT N M z wt cl).2.wt) (z := (inoT N M z wt cl).set 1 (z.getD 1 0)) (k := K - 1) (by omega) (fun q hq => by
  rw [(tabs_links _ _ _).1] at hq;have h2 := htab q hq
  have h3 : (dblT N M z wt cl).2.wt.length = N := by rw [hlen]; exact hw
  rw [h3]
  omega)
 rw [blk_links, show ((K - 1 : Nat) : Int) = cntZ z - 1 by omega] at hf;have hl := last_sp hil (im := (dblT N M z wt cl).2.wt) h0 (K := K) (by rw [hK]; rfl) hK0.2 hm (by rw [← hsp]; intro x hx; rw [hK]; exact hix x hx);rw [← hsp] at hl;refine ⟨_, _, hf, ?_⟩
 by_cases e : blkP (dblT N M z wt cl).2.wt (inoT N M z wt cl) (K - 1) = 0
 ·rw [if_pos e] at hl
  exact .inl ⟨e, hl⟩
 ·rw [if_neg e] at hl
  have hmem : (((K - 1 : Nat) : Int), blkP (dblT N M z wt cl).2.wt (inoT N M z wt cl) (K - 1)) ∈ (dblT N M z wt cl).2.sp := by
   unfold lastB at hl
   cases hg : (dblT N M z wt cl).2.sp.getLast? with
   | none => rw [hg] at hl; cases hl
   | some l =>
    rw [hg] at hl;have hl2 : (if z.getD 2 0 % 128 ≠ 0 ∧ l.1 = z.getD 2 0 / 128 then some l else none) = some (((K - 1 : Nat) : Int), blkP (dblT N M z wt cl).2.wt (inoT N M z wt cl) (K - 1)) := hl
    split at hl2
    ·rw [← Option.some.inj hl2]
     exact List.mem_of_getLast? hg
    ·cases hl2
  have hr : (M : Int) < blkP (dblT N M z wt cl).2.wt (inoT N M z wt cl) (K - 1) ∧ blkP (dblT N M z wt cl).2.wt (inoT N M z wt cl) (K - 1) < (N : Int) := hok _ hmem
  generalize blkP (dblT N M z wt cl).2.wt (inoT N M z wt cl) (K - 1) = b at hl hr ⊢
  obtain ⟨m, rfl⟩ : ∃ m : Nat, b = (m : Int) := ⟨b.toNat, by omega⟩
  exact .inr ⟨m, rfl, by omega, by omega, _, hl⟩
end Go.Proofs.YtpmignilhoihnaaGreat

namespace Go.Proofs.YtpmignilhoihnaaGreat
open Go.RowKit Go.Shelf

structure KL (M : Nat) (k : KT) (s : LS) : Prop where
 wt : k.wt = s.wt
 cl : k.cl = s.cl
 tk : ∀ i : Nat, i ≤ M → k.tk (i : Int) = (s.tk (i : Int)).isSome
 ino : ∀ (i : Nat) z, s.tk (i : Int) = some z → z = (k.ino i).set 1 (k.en (i : Int))
 un : ∀ i : Nat, i ≤ M → s.tk (i : Int) = none → k.en (i : Int) = 0
 out : ∀ i : Int, s.tk i ≠ none → 1 ≤ i ∧ i ≤ M
theorem allSec_of {im : Img} (h : ∀ s ∈ im, IsSec s) : AllSec im := fun n => by
 unfold secI;rw [List.getD_eq_getElem?_getD]
 cases hq : im[n.toNat]? with
 | none => exact Zs_sec
 | some s => exact h s (List.mem_of_getElem? hq)
theorem soundZ_out {M : Nat} {im : Img} {n : Int} (h : n > M) : (soundZ M im n).2 = false := by
 unfold soundZ;rw [if_neg (by omega)]
section
variable {M : Nat} {k : KT} {s : LS}
theorem KL.entry (h : KL M k s) (h18 : ∀ i, (k.ino i).length = 18) (im : Img) {n : Int} (n0 : 0 ≤ n) (there : Bool) : eB M im k n there = isEntryB M im s n there := by
 unfold eB isEntryB
 by_cases h1 : n = 1
 ·rw [if_pos (.inr h1), if_pos (by rw [decide_eq_true h1, Bool.or_true])]
 ·by_cases hM : n > (M : Int)
  ·have hn : s.tk n = none := Decidable.byContradiction fun e => by have := h.out n e; omega
   rw [if_pos (.inl hM), hn]
   split
   ·rfl
   ·exact (soundZ_out hM).symm
  ·rw [if_neg (by omega), decide_eq_false h1, Bool.or_false]
   obtain ⟨m, rfl⟩ : ∃ m : Nat, n = (m : Int) := ⟨n.toNat, by omega⟩;have ht := h.tk m (by omega)
   cases there with
   | true => rfl
   | false =>
    rw [if_neg Bool.false_ne_true, if_neg Bool.false_ne_true]
    cases hs : s.tk (m : Int) with
    | none =>
     rw [hs] at ht;have ht : k.tk (m : Int) = false := ht;rw [ht, if_neg Bool.false_ne_true]
    | some z =>
     rw [hs] at ht;have ht : k.tk (m : Int) = true := ht;rw [ht, if_pos rfl, Int.toNat_natCast];have hz := h.ino m z hs
     have e0 : z.getD 0 0 = (k.ino m).getD 0 0 := by rw [hz, getD_set_ne (by omega)]
     have e1 : z.getD 1 0 = k.en (m : Int) := by rw [hz, getD_set_eq (by rw [h18]; omega)]
     show _ = (decide (z.getD 0 0 = 1) && decide (z.getD 1 0 < 100))
     rw [e0, e1]
theorem KL.more (h : KL M k s) (h18 : ∀ i, (k.ino i).length = 18) {N : Int} {im : Img} {n : Nat} {z : List Int} (hs : s.tk (n : Int) = some z) : KL M { k with en := putI k.en (n : Int) (k.en (n : Int) + 1) } (enterL N M im (n : Int) s) := by
 have he : enterL N M im (n : Int) s = { s with tk := putT s.tk (n : Int) (moreZ z) } := by
  unfold enterL;rw [hs]
 have hz := h.ino n z hs
 have e1 : z.getD 1 0 = k.en (n : Int) := by rw [hz, getD_set_eq (by rw [h18]; omega)]
 rw [he];refine ⟨h.wt, h.cl, fun i hi => ?_, fun i y hy => ?_, fun i hi hy => ?_, fun i hy => ?_⟩
 ·show k.tk (i : Int) = (putT s.tk (n : Int) (moreZ z) (i : Int)).isSome
  unfold putT
  split
  ·rename_i e
   rw [h.tk i hi, e, hs]
   rfl
  ·exact h.tk i hi
 ·have hy2 : putT s.tk (n : Int) (moreZ z) (i : Int) = some y := hy
  show y = (k.ino i).set 1 (putI k.en (n : Int) (k.en (n : Int) + 1) (i : Int))
  unfold putT at hy2;unfold putI
  by_cases e : (i : Int) = (n : Int)
  ·rw [if_pos e] at hy2 ⊢
   have hin : i = n := by omega
   rw [hin, ← Option.some.inj hy2];unfold moreZ;rw [e1, hz, List.set_set]
  ·rw [if_neg e] at hy2 ⊢
   exact h.ino i y hy2
 ·have hy : putT s.tk (n : Int) (moreZ z) (i : Int) = none := hy
  unfold putT at hy
  show putI k.en (n : Int) (k.en (n : Int) + 1) (i : Int) = 0
  unfold putI
  by_cases e : (i : Int) = (n : Int)
  ·rw [if_pos e] at hy; cases hy
  ·rw [if_neg e] at hy ⊢
   exact h.un i hi hy
 ·have hy : putT s.tk (n : Int) (moreZ z) i ≠ none := hy
  unfold putT at hy
  by_cases e : i = (n : Int)
  ·rw [e]
   exact h.out (n : Int) (by rw [hs]; intro e; cases e)
  ·rw [if_neg e] at hy
   exact h.out i hy
theorem KL.zero (h : KL M k s) (n : Nat) (x : List Int) : KL M { k with wt := k.wt.set n x } { s with wt := s.wt.set n x } :=
 ⟨by show k.wt.set n x = s.wt.set n x; rw [h.wt], h.cl, h.tk, h.ino, h.un, h.out⟩
end
end Go.Proofs.YtpmignilhoihnaaGreat

namespace Go.Proofs.YtpmignilhoihnaaGreat
open Go.RowKit Go.Shelf

theorem takes_k {c : KC} {s : KT} (i : Nat) (z : List Int) (w : World) (h : IsK w c s) (hz : z.length = 18) (i1 : 1 ≤ i) (i2 : i ≤ c.M) (h0 : 0 ≤ z.getD 2 0) (h1 : z.getD 2 0 ≤ 136704) (hr : s.row.length ≤ 5000) (hB : c.B ≤ w.heap.size) :
  Calls Tryz.prog 29 #[.pointer (some ⟨c.p, 0, none⟩), .int .i64 (i : Int), .agg (NA z)] w fun e w' => e = .returned (.tuple #[]) ∧ (∃ v', IsK w' c (takeKT c s i z v')) ∧ Chg w w' (KBl c s.v) :=
 takes_any i z w h hz i1 i2 h0 h1 hr hB fun _ hm => last_find hz s.wt s.cl h.wl (allSec_of h.wt.1) h0 h1 hm
theorem takeL_all (N M : Int) (z : List Int) (s : LS) : (takeL N M z s).tk = s.tk ∧ (takeL N M z s).cl = (dblT N M z s.wt s.cl).2.cl ∧ (takeL N M z s).wt = if z.getD 0 0 = 2 then (dblT N M z s.wt s.cl).2.wt else wipeW (z.getD 2 0) (dblT N M z s.wt s.cl).2.sp (dblT N M z s.wt s.cl).2.wt := by
 by_cases e : z.getD 0 0 = 2
 ·rw [takeL_dir e, if_pos e]
  exact ⟨rfl, rfl, rfl⟩
 ·rw [takeL_file e, if_neg e]
  exact ⟨rfl, rfl, rfl⟩
theorem KL.new {M : Nat} {k : KT} {s : LS} (h : KL M k s) {c : KC} (hM : c.M = M) {im : Img} {n : Nat} (n1 : 1 ≤ n) (n2 : n ≤ M) (hs : s.tk (n : Int) = none) (v' : Value) :
  KL M (takeKT c { k with en := putI k.en (n : Int) (k.en (n : Int) + 1) } n (soundZ M im (n : Int)).1 v') (enterL c.N M im (n : Int) s) := by
 subst hM;obtain ⟨z, hz⟩ : ∃ y, y = (soundZ c.M im (n : Int)).1 := ⟨_, rfl⟩
 have hzl : z.length = 18 := by rw [hz]; exact soundZ_len _ _ _
 obtain ⟨t1, t2, t3⟩ := takeL_all c.N c.M z s
 have he : enterL c.N c.M im (n : Int) s = { takeL c.N c.M z s with tk := putT s.tk (n : Int) (moreZ (inoT c.N c.M z s.wt s.cl)) } := by
  unfold enterL;rw [hs, ← hz]
  show ({ wt := (takeL c.N c.M z s).wt, cl := (takeL c.N c.M z s).cl, wp := (takeL c.N c.M z s).wp, tk := putT (takeL c.N c.M z s).tk (n : Int) (moreZ (inoT c.N c.M z s.wt s.cl)), q := (takeL c.N c.M z s).q } : LS) = _
  rw [t1]
 rw [he, ← hz];have hen : k.en (n : Int) = 0 := h.un n n2 hs;refine ⟨?_, ?_, fun i hi => ?_, fun i y hy => ?_, fun i hi hy => ?_, fun i hy => ?_⟩
 ·show (if z.getD 0 0 = 2 then (dblT c.N c.M z k.wt k.cl).2.wt else wipeW (z.getD 2 0) (dblT c.N c.M z k.wt k.cl).2.sp (dblT c.N c.M z k.wt k.cl).2.wt) = (takeL c.N c.M z s).wt
  rw [t3, h.wt, h.cl]
 ·show (dblT c.N c.M z k.wt k.cl).2.cl = (takeL c.N c.M z s).cl
  rw [t2, h.wt, h.cl]
 ·show (if (i : Int) = (n : Int) then true else k.tk (i : Int)) = (putT s.tk (n : Int) (moreZ (inoT c.N c.M z s.wt s.cl)) (i : Int)).isSome
  unfold putT
  by_cases e : (i : Int) = (n : Int)
  ·rw [if_pos e, if_pos e]; rfl
  ·rw [if_neg e, if_neg e]; exact h.tk i hi
 ·have hy2 : putT s.tk (n : Int) (moreZ (inoT c.N c.M z s.wt s.cl)) (i : Int) = some y := hy
  show y = (putF18 k.ino n ((inoT c.N c.M z k.wt k.cl).set 1 (z.getD 1 0)) i).set 1 (putI k.en (n : Int) (k.en (n : Int) + 1) (i : Int))
  unfold putT at hy2;unfold putI putF18
  by_cases e : (i : Int) = (n : Int)
  ·have hin : i = n := by omega
   rw [if_pos e] at hy2;rw [if_pos e, if_pos hin, ← Option.some.inj hy2, hen, h.wt, h.cl, List.set_set];unfold moreZ;rw [(inoT_0 c.N c.M z s.wt s.cl).2.1]
  ·have hin : ¬ i = n := by omega
   rw [if_neg e] at hy2;rw [if_neg e, if_neg hin]
   exact h.ino i y hy2
 ·have hy2 : putT s.tk (n : Int) (moreZ (inoT c.N c.M z s.wt s.cl)) (i : Int) = none := hy
  show putI k.en (n : Int) (k.en (n : Int) + 1) (i : Int) = 0
  unfold putT at hy2;unfold putI
  by_cases e : (i : Int) = (n : Int)
  ·rw [if_pos e] at hy2; cases hy2
  ·rw [if_neg e] at hy2 ⊢
   exact h.un i hi hy2
 ·have hy2 : putT s.tk (n : Int) (moreZ (inoT c.N c.M z s.wt s.cl)) i ≠ none := hy
  unfold putT at hy2
  by_cases e : i = (n : Int)
  ·omega
  ·rw [if_neg e] at hy2
   exact h.out i hy2
end Go.Proofs.YtpmignilhoihnaaGreat

namespace Go.Proofs.YtpmignilhoihnaaGreat
open Go.RowKit Go.Shelf

def spP (y : Sp9) : Int × Int := (y.idx, y.sec)
theorem thereL_row (f : Int) (t : List Int) : ∀ k, ((plc t k).map fun (i : Nat) => (f + (i : Int), t.getD i 0)) = rowG (fun i p => [(i, p)]) f 1 t k
 | 0 => rfl
 | k + 1 => by
  have ih := thereL_row f t k;rw [rowG_succ, ← ih];unfold plc;rw [List.range_succ, List.filter_append, List.map_append]
  congr 1
  by_cases e : t.getD k 0 = 0
  ·rw [if_pos e]
   have : nz t k = false := by unfold nz; rw [e]; rfl
   simp [List.filter, this]
  ·rw [if_neg e, Int.one_mul]
   have : nz t k = true := by unfold nz; simpa using e
   simp [List.filter, this]
theorem spot_row (f : Int) (t : List Int) (e : Int) : (spotRow ⟨f, t, e⟩).map spP = rowG (fun i p => [(i, p)]) f 1 t t.length := by
 rw [← thereL_row];unfold spotRow thereL spP
 simp [List.map_map, Function.comp_def]
theorem rowG_zero (G : Int → Int → List (Int × Int)) (f each : Int) (k : Nat) : rowG G f each Zp k = [] := by
 unfold rowG;rw [List.flatMap_eq_nil_iff]
 intro j _
 rw [if_pos (Zp_get j)]
theorem spot_tab {im : Img} {p f : Int} (h : p ≠ 0 → 0 ≤ p ∧ p < im.length) (e : Int) : (spotRow ⟨f, (rtab9 ⟨im, -1, 0⟩ p).1, e⟩).map spP = if p = 0 then [] else tabG im 1 (fun i p => [(i, p)]) f p := by
 rw [spot_row, rtab9_len, rtab_in h]
 by_cases e0 : p = 0
 ·rw [if_pos e0, if_pos e0]
  exact rowG_zero _ _ _ _
 ·rw [if_neg e0, if_neg e0]
  rfl
theorem far_row {im : Img} {T : List Int} (h : ∀ j, j < 32 → T.getD j 0 ≠ 0 → 0 ≤ T.getD j 0 ∧ T.getD j 0 < im.length) : ∀ k, k ≤ 32 → (farK ⟨im, -1, 0⟩ T k).map spP = rowG (tabG im 1 fun i p => [(i, p)]) 44 32 T k
 | 0, _ => rfl
 | k + 1, hk => by
  rw [farK_succ, rowG_succ, List.map_append, far_row h k (by omega), spot_tab (h k (by omega))]
theorem spots_in {im : Img} {z : List Int} (hz : z.length = 18) (h : ∀ q ∈ tabsZ im z, 0 ≤ q ∧ q < im.length) : ∃ L, rowsAns (rowsQ ⟨im, -1, 0⟩ z) = (L, 0) ∧ L.map spP = spI im z := by
 have t16 : z.getD 16 0 ≠ 0 → 0 ≤ z.getD 16 0 ∧ z.getD 16 0 < im.length := fun e => h _ (tab_sin e)
 have t17 : z.getD 17 0 ≠ 0 → 0 ≤ z.getD 17 0 ∧ z.getD 17 0 < im.length := fun e => h _ (tab_dbl e)
 have h16 := rtab_in t16;have h17 := rtab_in t17
 have hT : ∀ j, j < 32 → (rtab9 ⟨im, -1, 0⟩ (z.getD 17 0)).1.getD j 0 ≠ 0 → 0 ≤ (rtab9 ⟨im, -1, 0⟩ (z.getD 17 0)).1.getD j 0 ∧ (rtab9 ⟨im, -1, 0⟩ (z.getD 17 0)).1.getD j 0 < im.length := fun j hj hn => by
  rw [h17] at hn ⊢
  by_cases e : z.getD 17 0 = 0
  ·rw [if_pos e] at hn
   exact absurd (Zp_get j) hn
  ·rw [if_neg e] at hn ⊢
   exact h _ (tab_in e hj hn)
 have ha := ansQ_ok (s := ⟨im, -1, 0⟩) (z := z) (by rw [h16]) (by rw [h17]) (fun i hi => by rw [rtab_in (hT i hi)]);refine ⟨_, ha, ?_⟩;rw [List.map_append, List.map_append, spot_row, spot_tab t16, far_row hT 32 (Nat.le_refl _)]
 have hl : ((z.drop 4).take 12).length = 12 := by rw [List.length_take, List.length_drop]; omega
 rw [hl];unfold spI
 congr 1
 rw [h17]
 by_cases e : z.getD 17 0 = 0
 ·rw [if_pos e, if_pos e]
  exact rowG_zero _ _ _ _
 ·rw [if_neg e, if_neg e]
  rfl
end Go.Proofs.YtpmignilhoihnaaGreat

namespace Go.Proofs.YtpmignilhoihnaaGreat
open Go.RowKit Go.Shelf

theorem nodup_m : ∀ (M : Nat) (l : List Int), l.Nodup → (∀ x ∈ l, 1 ≤ x ∧ x ≤ M) → l.length ≤ M
 | 0, l, _, h => by
  cases l with
  | nil => exact Nat.le_refl _
  | cons x l => have := h x List.mem_cons_self; omega
 | M + 1, l, hn, h => by
  have h2 := nodup_m M (l.erase ((M + 1 : Nat) : Int)) (hn.erase _) (fun x hx => by
   have hx2 := (List.Nodup.mem_erase_iff hn).1 hx;have := h x hx2.2;have := hx2.1
   omega)
  have h3 := List.length_erase (a := ((M + 1 : Nat) : Int)) (l := l)
  split at h3
  ·omega
  ·omega
structure DS (N M : Nat) (im : Img) (pre l : List Int) (j : Nat) (k : KT) (nms : List ByteArray) (r : List ByteArray × LS) (ds : List Int) : Prop where
 kl : KL M k r.2
 i18 : ∀ i, (k.ino i).length = 18
 nm : ∀ x, hasN nms x = hasN r.1 x
 nl : nms.length ≤ j
 iv : LInv N M im r.2 (l.drop j)
 ki : KI M im r.2 (l.drop j)
 qi : QI N M im r.2 (l.drop j) ds
 cn : ∀ n, (N : Int) ≤ n → r.2.cl n = false
 row : k.row = pre ++ ds
 rn : k.row.Nodup
 rt : ∀ x ∈ k.row, r.2.tk x ≠ none
section
variable {N M : Nat} {im : Img} {pre l ds : List Int} {j : Nat} {k : KT} {nms : List ByteArray} {r : List ByteArray × LS}
theorem DS.rlen (h : DS N M im pre l j k nms r ds) : k.row.length ≤ M := nodup_m M k.row h.rn fun x hx => h.kl.out x (h.rt x hx)
theorem drop_at {l : List Int} {j : Nat} (hj : j < l.length) : l.drop j = l.getD j 0 :: l.drop (j + 1) := by
 rw [List.drop_eq_getElem_cons hj, List.getD_eq_getElem?_getD, List.getElem?_eq_getElem hj]
 rfl
theorem DS.at_ (h : DS N M im pre l j k nms r ds) (hj : j < l.length) : (M : Int) < l.getD j 0 ∧ l.getD j 0 < N := by
 have hi := h.iv;rw [drop_at hj] at hi
 exact (hi.raw _ List.mem_cons_self).2.2
theorem DS.free (h : DS N M im pre l j k nms r ds) (hj : j < l.length) (h1 : (slotOf (secI r.2.wt (l.getD j 0))).2.2 = 0) (h2 : (slotOf (secI r.2.wt (l.getD j 0))).1 = 0) : DS N M im pre l (j + 1) k nms (slotL N M im (l.getD j 0) r) ds := by
 have hi := h.iv;have hk := h.ki;have hq := h.qi;rw [drop_at hj] at hi hk hq;have hM : (0 : Int) ≤ (M : Int) := Int.natCast_nonneg _;have hf := slot_free h1 h2
 have e : slotL N M im (l.getD j 0) r = r := by unfold slotL; simp only; rw [if_pos ⟨h1, h2, hf⟩]
 have s1 := (slot_inv hM hi).1;have s2 := slot_ki hM hi hk;have s3 := slot_qi hM hi hk hq
 have ed : slotD M im (l.getD j 0) r = [] := by unfold slotD; rw [if_pos ⟨h1, h2, hf⟩]
 rw [ed, List.append_nil] at s3;rw [e] at s1 s2 s3 ⊢
 exact ⟨h.kl, h.i18, h.nm, by have := h.nl; omega, s1, s2, s3, h.cn, h.row, h.rn, h.rt⟩
theorem DS.wipe (h : DS N M im pre l j k nms r ds) (hj : j < l.length) (h1 : ¬ ((slotOf (secI r.2.wt (l.getD j 0))).2.2 = 0 ∧ (slotOf (secI r.2.wt (l.getD j 0))).1 = 0)) (h2 : ¬ ((slotOf (secI r.2.wt (l.getD j 0))).2.2 = 0 ∧ isEntryB M im r.2 (slotOf (secI r.2.wt (l.getD j 0))).1 (hasN r.1 (slotOf (secI r.2.wt (l.getD j 0))).2.1) = true)) :
  DS N M im pre l (j + 1) { k with wt := k.wt.set (l.getD j 0).toNat Zs } nms (slotL N M im (l.getD j 0) r) ds := by
 have hi := h.iv;have hk := h.ki;have hq := h.qi;rw [drop_at hj] at hi hk hq;have hM : (0 : Int) ≤ (M : Int) := Int.natCast_nonneg _
 have h1' : ¬ ((slotOf (secI r.2.wt (l.getD j 0))).2.2 = 0 ∧ (slotOf (secI r.2.wt (l.getD j 0))).1 = 0 ∧ (slotOf (secI r.2.wt (l.getD j 0))).2.1.size = 0) := fun e => h1 ⟨e.1, e.2.1⟩
 have e : slotL N M im (l.getD j 0) r = (r.1, { r.2 with wt := r.2.wt.set (l.getD j 0).toNat Zs }) := by unfold slotL; simp only; rw [if_neg h1', if_neg h2]
 have s1 := (slot_inv hM hi).1;have s2 := slot_ki hM hi hk;have s3 := slot_qi hM hi hk hq
 have ed : slotD M im (l.getD j 0) r = [] := by unfold slotD; rw [if_neg h1', if_neg h2]
 rw [ed, List.append_nil] at s3;rw [e] at s1 s2 s3 ⊢
 exact ⟨h.kl.zero _ _, h.i18, h.nm, by have := h.nl; omega, s1, s2, s3, h.cn, h.row, h.rn, h.rt⟩
theorem hasN_add (nms : List ByteArray) (y x : ByteArray) : hasN (nms ++ [y]) x = (hasN [y] x || hasN nms x) := by
 unfold hasN;rw [List.any_append, Bool.or_comm]
theorem hasN_cons (nms : List ByteArray) (y x : ByteArray) : hasN (y :: nms) x = (hasN [y] x || hasN nms x) := by
 unfold hasN
 simp
theorem DS.old (h : DS N M im pre l j k nms r ds) (hj : j < l.length) {n : Nat} (hn : (slotOf (secI r.2.wt (l.getD j 0))).1 = (n : Int)) (h1 : (slotOf (secI r.2.wt (l.getD j 0))).2.2 = 0) (h0 : n ≠ 0) (h2 : isEntryB M im r.2 (n : Int) (hasN r.1 (slotOf (secI r.2.wt (l.getD j 0))).2.1) = true) (ht : r.2.tk (n : Int) ≠ none) :
  DS N M im pre l (j + 1) { k with en := putI k.en (n : Int) (k.en (n : Int) + 1) } (nms ++ [(slotOf (secI r.2.wt (l.getD j 0))).2.1]) (slotL N M im (l.getD j 0) r) ds := by
 have hi := h.iv;have hk := h.ki;have hq := h.qi;rw [drop_at hj] at hi hk hq;have hM : (0 : Int) ≤ (M : Int) := Int.natCast_nonneg _
 have h1' : ¬ ((slotOf (secI r.2.wt (l.getD j 0))).2.2 = 0 ∧ (slotOf (secI r.2.wt (l.getD j 0))).1 = 0 ∧ (slotOf (secI r.2.wt (l.getD j 0))).2.1.size = 0) := fun e => by have := e.2.1; omega
 have h2' : (slotOf (secI r.2.wt (l.getD j 0))).2.2 = 0 ∧ isEntryB M im r.2 (slotOf (secI r.2.wt (l.getD j 0))).1 (hasN r.1 (slotOf (secI r.2.wt (l.getD j 0))).2.1) = true := by rw [hn]; exact ⟨h1, h2⟩
 have e : slotL N M im (l.getD j 0) r = ((slotOf (secI r.2.wt (l.getD j 0))).2.1 :: r.1, enterL N M im (n : Int) r.2) := by unfold slotL; simp only; rw [if_neg h1', if_pos h2', hn]
 have s1 := (slot_inv hM hi).1;have s2 := slot_ki hM hi hk;have s3 := slot_qi hM hi hk hq
 have ed : slotD M im (l.getD j 0) r = [] := by
  unfold slotD newD;rw [if_neg h1', if_pos h2', hn, if_neg (fun e => ht e.1)]
 rw [ed, List.append_nil] at s3;rw [e] at s1 s2 s3 ⊢
 obtain ⟨z, hz⟩ : ∃ z, r.2.tk (n : Int) = some z := by
  cases hq : r.2.tk (n : Int) with
  | none => exact absurd hq ht
  | some z => exact ⟨z, rfl⟩
 have he : enterL N M im (n : Int) r.2 = { r.2 with tk := putT r.2.tk (n : Int) (moreZ z) } := by
  unfold enterL;rw [hz]
 refine ⟨h.kl.more h.i18 hz, h.i18, fun x => ?_, ?_, s1, s2, s3, ?_, h.row, h.rn, fun x hx => ?_⟩
 ·show hasN (nms ++ [_]) x = hasN (_ :: r.1) x
  rw [hasN_add, h.nm]
  exact (hasN_cons r.1 _ x).symm
 ·rw [List.length_append]
  have := h.nl
  simp
  omega
 ·rw [he]
  exact h.cn
 ·have hx2 := h.rt x hx
  show (enterL N M im (n : Int) r.2).tk x ≠ none
  rw [he]
  show putT r.2.tk (n : Int) (moreZ z) x ≠ none
  unfold putT
  split
  ·intro e; cases e
  ·exact hx2
theorem DS.fresh (h : DS N M im pre l j k nms r ds) (hj : j < l.length) {c : KC} (hcN : c.N = N) (hcM : c.M = M) {n : Nat} (hn : (slotOf (secI r.2.wt (l.getD j 0))).1 = (n : Int)) (h1 : (slotOf (secI r.2.wt (l.getD j 0))).2.2 = 0) (n1 : 1 ≤ n) (n2 : n ≤ M) (h2 : isEntryB M im r.2 (n : Int) (hasN r.1 (slotOf (secI r.2.wt (l.getD j 0))).2.1) = true) (ht : r.2.tk (n : Int) = none) (v' : Value) :
  DS N M im pre l (j + 1) (takeKT c { k with en := putI k.en (n : Int) (k.en (n : Int) + 1) } n (soundZ M im (n : Int)).1 v') (nms ++ [(slotOf (secI r.2.wt (l.getD j 0))).2.1]) (slotL N M im (l.getD j 0) r) (ds ++ newD M im (n : Int) r.2) := by
 have hi := h.iv;have hk := h.ki;have hq := h.qi;rw [drop_at hj] at hi hk hq;have hM : (0 : Int) ≤ (M : Int) := Int.natCast_nonneg _
 have h1' : ¬ ((slotOf (secI r.2.wt (l.getD j 0))).2.2 = 0 ∧ (slotOf (secI r.2.wt (l.getD j 0))).1 = 0 ∧ (slotOf (secI r.2.wt (l.getD j 0))).2.1.size = 0) := fun e => by have := e.2.1; omega
 have h2' : (slotOf (secI r.2.wt (l.getD j 0))).2.2 = 0 ∧ isEntryB M im r.2 (slotOf (secI r.2.wt (l.getD j 0))).1 (hasN r.1 (slotOf (secI r.2.wt (l.getD j 0))).2.1) = true := by rw [hn]; exact ⟨h1, h2⟩
 have e : slotL N M im (l.getD j 0) r = ((slotOf (secI r.2.wt (l.getD j 0))).2.1 :: r.1, enterL N M im (n : Int) r.2) := by unfold slotL; simp only; rw [if_neg h1', if_pos h2', hn]
 have s1 := (slot_inv hM hi).1;have s2 := slot_ki hM hi hk;have s3 := slot_qi hM hi hk hq
 have ed : slotD M im (l.getD j 0) r = newD M im (n : Int) r.2 := by
  unfold slotD;rw [if_neg h1', if_pos h2', hn]
 rw [ed] at s3;rw [e] at s1 s2 s3 ⊢;obtain ⟨z, hz⟩ : ∃ y, y = (soundZ M im (n : Int)).1 := ⟨_, rfl⟩;have hkl := h.kl.new (c := c) hcM (im := im) n1 n2 ht v';rw [hcN] at hkl;obtain ⟨t1, t2, t3⟩ := takeL_all N M z r.2
 have etk : (enterL N M im (n : Int) r.2).tk = putT r.2.tk (n : Int) (moreZ (inoT N M z r.2.wt r.2.cl)) := by
  unfold enterL;rw [ht, ← hz]
  show putT (takeL N M z r.2).tk (n : Int) _ = _
  rw [t1]
 have ecl : (enterL N M im (n : Int) r.2).cl = (dblT N M z r.2.wt r.2.cl).2.cl := by
  unfold enterL;rw [ht, ← hz]
  exact t2
 have hnr : (n : Int) ∉ k.row := fun hx => h.rt _ hx ht
 refine ⟨hkl, fun i => ?_, fun x => ?_, ?_, s1, s2, s3, fun m hm => ?_, ?_, ?_, fun x hx => ?_⟩
 ·show (putF18 k.ino n _ i).length = 18
  unfold putF18
  split
  ·rw [List.length_set]
   exact inoT_len' (soundZ_len _ _ _) _ _
  ·exact h.i18 i
 ·show hasN (nms ++ [_]) x = hasN (_ :: r.1) x
  rw [hasN_add, h.nm]
  exact (hasN_cons r.1 _ x).symm
 ·rw [List.length_append]
  have := h.nl
  simp
  omega
 ·show (enterL N M im (n : Int) r.2).cl m = false
  rw [ecl]
  exact dbl_ko N M z r.2.wt r.2.cl hm (h.cn m hm)
 ·show (if (soundZ M im (n : Int)).1.getD 0 0 = 2 then k.row ++ [(n : Int)] else k.row) = pre ++ (ds ++ newD M im (n : Int) r.2)
  unfold newD;rw [h.row]
  split
  ·rename_i e2
   rw [if_pos ⟨ht, e2⟩, List.append_assoc]
  ·rename_i e2
   rw [if_neg (fun e3 => e2 e3.2), List.append_nil]
 ·show (if (soundZ M im (n : Int)).1.getD 0 0 = 2 then k.row ++ [(n : Int)] else k.row).Nodup
  split
  ·rw [List.nodup_append]
   refine ⟨h.rn, by simp, fun x hx y hy => ?_⟩
   have hyn : y = (n : Int) := by simpa using hy
   rw [hyn]
   intro e3
   rw [e3] at hx
   exact hnr hx
  ·exact h.rn
 ·show (enterL N M im (n : Int) r.2).tk x ≠ none
  rw [etk];unfold putT
  split
  ·intro e3; cases e3
  ·rename_i e3
   have hx : x ∈ (if (soundZ M im (n : Int)).1.getD 0 0 = 2 then k.row ++ [(n : Int)] else k.row) := hx
   split at hx
   ·rcases List.mem_append.1 hx with h4 | h4
    ·exact h.rt x h4
    ·exact absurd (by simpa using h4) e3
   ·exact h.rt x hx
end
end Go.Proofs.YtpmignilhoihnaaGreat
