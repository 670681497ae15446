/-
 The statement's stood, walked; what stands there.
-/
import Derived.Test.YtpmignilhoihnabGreatHE8
import Derived.Test.YtpmignilhoihnabGreatV5
import Derived.Test.YtpmignilhoihnabGreatJB
namespace Go.Proofs.YtpmignilhoihnabGreat

structure KR (N M : Int) (keep : KeepF) (g : Img → Int → List Int) (G : Img → Int → Int → List (Int × Int)) : Prop where
 run : ∀ s i p, s.wt.length = N → AllSec s.wt → (∀ x ∈ s.sp, s.cl x.2 = true) → (keep s i p).1 = true →
  (∀ q ∈ g (keep s i p).2.wt p, s.cl q = false ∧ (keep s i p).2.cl q = true ∧ (∀ x ∈ (keep s i p).2.sp, x.2 ≠ q) ∧ M < q) ∧ ∀ y ∈ G (keep s i p).2.wt i p, y ∈ (keep s i p).2.sp
 loc : ∀ im im' p, (∀ q ∈ g im p, secI im' q = secI im q) → g im' p = g im p ∧ ∀ i, G im' i p = G im i p
def g0 (_ : Img) (_ : Int) : List Int := []
def G0 (_ : Img) (i p : Int) : List (Int × Int) := [(i, p)]
theorem block_kr (N M cnt : Int) : KR N M (blockF N M cnt) g0 G0 where
 run := fun s i p _ _ _ h => by
  refine ⟨fun q hq => (by cases hq), fun y hy => ?_⟩;unfold blockF at h ⊢
  split
  ·unfold G0 at hy
   exact List.mem_append_right _ hy
  ·rename_i hc
   rw [if_neg hc] at h
   cases h
 loc := fun _ _ _ _ => ⟨rfl, fun _ => rfl⟩
theorem Mo.claimed {s t : TS} (h : Mo s t) (k : ∀ x ∈ s.sp, s.cl x.2 = true) : ∀ x ∈ t.sp, t.cl x.2 = true := fun x hx => by
 obtain ⟨new, e, p, _⟩ := h.sp;rw [e] at hx
 rcases List.mem_append.1 hx with a | a
 ·exact h.cl _ (k x a)
 ·exact (p x a).2.1
theorem Mo.apart {s t : TS} (h : Mo s t) {q : Int} (hq : s.cl q = true) (k : ∀ x ∈ s.sp, x.2 ≠ q) : ∀ x ∈ t.sp, x.2 ≠ q := fun x hx e1 => by
 obtain ⟨new, e, p, _⟩ := h.sp;rw [e] at hx
 rcases List.mem_append.1 hx with a | a
 ·exact k x a e1
 ·have := (p x a).1
  rw [e1, hq] at this
  cases this
theorem Mo.sub {s t : TS} (h : Mo s t) : ∀ x ∈ s.sp, x ∈ t.sp := fun x hx => by
 obtain ⟨new, e, _⟩ := h.sp;rw [e]
 exact List.mem_append_left _ hx
theorem goK_kr {N M : Int} {keep : KeepF} {g : Img → Int → List Int} {G : Img → Int → Int → List (Int × Int)} (hk : Kpr N M keep) (hb : Sb N keep) (hr : KR N M keep g G) (t : List Int) (s : TS) (hs : s.wt.length = N) (ha : AllSec s.wt) (hc : ∀ x ∈ s.sp, s.cl x.2 = true) (K : Nat) (hK : K ≤ t.length) (j : Nat) (hj : j < K) (h : (goK keep t s K).1.getD j 0 ≠ 0) :
  (goK keep t s K).1.getD j 0 = t.getD j 0 ∧ (∀ q ∈ g (goK keep t s K).2.wt (t.getD j 0), s.cl q = false ∧ (goK keep t s K).2.cl q = true ∧ (∀ x ∈ (goK keep t s K).2.sp, x.2 ≠ q) ∧ M < q) ∧ ∀ y ∈ G (goK keep t s K).2.wt j (t.getD j 0), y ∈ (goK keep t s K).2.sp := by
 have hg := goK_get keep t s j K hK;rw [if_pos hj] at hg
 by_cases hb1 : (keep (goK keep t s j).2 j (t.getD j 0)).1 = true
 ·rw [if_pos hb1] at hg
  have m0 := goK_mo hk t s hs j;have m1 : Mo (goK keep t s (j + 1)).2 (goK keep t s K).2 := goK_later hk t s hs (j + 1) K (by omega);have hj1 : (goK keep t s (j + 1)).2 = (keep (goK keep t s j).2 j (t.getD j 0)).2 := rfl;rw [hj1] at m1;obtain ⟨r1, r2⟩ := hr.run (goK keep t s j).2 j (t.getD j 0) (by rw [m0.len]; exact hs) (goK_sb hk hb t s hs ha j).1 (m0.claimed hc) hb1
  generalize (keep (goK keep t s j).2 j (t.getD j 0)).2 = u at *
  obtain ⟨l1, l2⟩ := hr.loc u.wt (goK keep t s K).2.wt (t.getD j 0) (fun q hq => m1.wt q (r1 q hq).2.1);refine ⟨hg, fun q hq => ?_, fun y hy => ?_⟩
  ·rw [l1] at hq
   obtain ⟨a1, a2, a3, a4⟩ := r1 q hq
   exact ⟨m0.off a1, m1.cl q a2, m1.apart a2 a3, a4⟩
  ·rw [l2] at hy
   exact m1.sub y (r2 y hy)
 ·rw [if_neg hb1] at hg
  exact absurd hg h
def gTT (g : Img → Int → List Int) (im : Img) (p : Int) : List Int := gT im (g im) p
def GTT (each : Int) (G : Img → Int → Int → List (Int × Int)) (im : Img) (f p : Int) : List (Int × Int) := tabG im each (G im) f p
theorem mem_gRow {g : Int → List Int} {t : List Int} {K : Nat} {q : Int} : q ∈ gRow g t K ↔ ∃ j, j < K ∧ t.getD j 0 ≠ 0 ∧ q ∈ g (t.getD j 0) := by
 unfold gRow;rw [List.mem_flatMap]
 constructor
 ·rintro ⟨j, hj, h⟩
  split at h
  ·cases h
  ·rename_i h0
   exact ⟨j, List.mem_range.1 hj, h0, h⟩
 ·rintro ⟨j, hj, h0, h⟩
  refine ⟨j, List.mem_range.2 hj, ?_⟩;rw [if_neg h0]
  exact h
theorem mem_rowG {G : Int → Int → List (Int × Int)} {f each : Int} {t : List Int} {K : Nat} {y : Int × Int} : y ∈ rowG G f each t K ↔ ∃ j : Nat, j < K ∧ t.getD j 0 ≠ 0 ∧ y ∈ G (f + each * j) (t.getD j 0) := by
 unfold rowG;rw [List.mem_flatMap]
 constructor
 ·rintro ⟨j, hj, h⟩
  split at h
  ·cases h
  ·rename_i h0
   exact ⟨j, List.mem_range.1 hj, h0, h⟩
 ·rintro ⟨j, hj, h0, h⟩
  refine ⟨j, List.mem_range.2 hj, ?_⟩;rw [if_neg h0]
  exact h
theorem inner_kr {N M each f : Int} {keep : KeepF} {g : Img → Int → List Int} {G : Img → Int → Int → List (Int × Int)} (h : KR N M keep g G) : KR N M (innerF each f keep) g (fun im k p => G im (f + each * k) p) where
 run := fun s i p a b c d => h.run s (f + each * i) p a b c d
 loc := fun im im' p q => ⟨(h.loc im im' p q).1, fun _ => (h.loc im im' p q).2 _⟩
theorem table_kr {N M cnt each : Int} {keep : KeepF} {g : Img → Int → List Int} {G : Img → Int → Int → List (Int × Int)} (hM : 0 ≤ M) (hk : Kpr N M keep) (hb : Sb N keep) (hr : KR N M keep g G) : KR N M (tableF N M cnt each keep) (gTT g) (GTT each G) where
 run := fun s f p hs ha hc h => by
  rcases table_cases (cnt := cnt) (each := each) hM hk s hs f p with ⟨_, e⟩ | ⟨_, _, e⟩ | ⟨hcl, hz, e⟩
  ·rw [e] at h; cases h
  ·rw [e] at h; cases h
  ·rw [e]
   simp only [Bool.and_eq_true] at hcl
   obtain ⟨h1, h2, h3⟩ := claimB_of.1 hcl.2;have hm := gone_mo (each := each) (f := f) hk s hs p;have hback := gone_back each f keep s p (ha p)
   have hc' : ∀ x ∈ (⟨s.wt, putC s.cl p, s.sp⟩ : TS).sp, (⟨s.wt, putC s.cl p, s.sp⟩ : TS).cl x.2 = true := fun x hx => putC_old (hc x hx)
   have key : ∀ j, j < 32 → (gone each f keep s p).1.getD j 0 ≠ 0 → _ := fun j hj h0 => goK_kr (inner_kpr hk) (fun s _ p => hb s _ p) (inner_kr (each := each) (f := f) hr) (ptrsTo (secI s.wt p) 32) ⟨s.wt, putC s.cl p, s.sp⟩ hs ha hc' 32 (by rw [ptrsTo_len]; omega) j hj h0
   have hlen : (gone each f keep s p).2.wt.length = N := by rw [hm.len]; exact hs
   have hge : ∀ j, j < 32 → (gone each f keep s p).1.getD j 0 ≠ 0 → (gone each f keep s p).1.getD j 0 = (ptrsTo (secI s.wt p) 32).getD j 0 := fun j hj h0 => (key j hj h0).1
   have kg : ∀ j, j < 32 → (gone each f keep s p).1.getD j 0 ≠ 0 → ∀ q ∈ g (gone each f keep s p).2.wt ((gone each f keep s p).1.getD j 0), putC s.cl p q = false ∧ (gone each f keep s p).2.cl q = true ∧ (∀ x ∈ (gone each f keep s p).2.sp, x.2 ≠ q) ∧ M < q := fun j hj h0 q hq => by
    rw [hge j hj h0] at hq
    exact (key j hj h0).2.1 q hq
   have kG : ∀ j : Nat, j < 32 → (gone each f keep s p).1.getD j 0 ≠ 0 → ∀ y ∈ G (gone each f keep s p).2.wt (f + each * j) ((gone each f keep s p).1.getD j 0), y ∈ (gone each f keep s p).2.sp := fun j hj h0 y hy => by
    rw [hge j hj h0] at hy
    exact (key j hj h0).2.2 y hy
   clear key hge
   generalize gone each f keep s p = r at *
   have e1 : secI (r.2.wt.set p.toNat (ptrS r.1)) p = ptrS r.1 := secI_set (by omega) (by rw [hlen]; exact h3);have hpt : ∀ x ∈ r.2.sp, x.2 ≠ p := hm.apart (putC_self _ _) (fun x hx e => by have := hc x hx; rw [e, h1] at this; cases this)
   have hl : ∀ j, j < 32 → r.1.getD j 0 ≠ 0 → g (r.2.wt.set p.toNat (ptrS r.1)) (r.1.getD j 0) = g r.2.wt (r.1.getD j 0) ∧ ∀ i, G (r.2.wt.set p.toNat (ptrS r.1)) i (r.1.getD j 0) = G r.2.wt i (r.1.getD j 0) := fun j hj h0 => hr.loc _ _ _ fun q hq => secI_set_ne (by omega) (putC_off.1 (kg j hj h0 q hq).1).1
   refine ⟨fun q hq => ?_, fun y hy => ?_⟩
   ·unfold gTT gT at hq
    simp only [e1, hback] at hq
    rcases List.mem_cons.1 hq with e | hq
    ·rw [e]
     exact ⟨h1, hm.cl p (putC_self _ _), hpt, h2⟩
    ·obtain ⟨j, hj, h0, hq⟩ := mem_gRow.1 hq
     rw [(hl j hj h0).1] at hq;obtain ⟨a1, a2, a3, a4⟩ := kg j hj h0 q hq
     exact ⟨(putC_off.1 a1).2, a2, a3, a4⟩
   ·unfold GTT tabG at hy
    simp only [e1, hback] at hy
    obtain ⟨j, hj, h0, hy⟩ := mem_rowG.1 hy;rw [(hl j hj h0).2] at hy
    exact kG j hj h0 y hy
 loc := fun im im' p h => by
  have hp : secI im' p = secI im p := h p List.mem_cons_self
  have hq : ∀ j, j < 32 → (ptrsTo (secI im p) 32).getD j 0 ≠ 0 → g im' ((ptrsTo (secI im p) 32).getD j 0) = g im ((ptrsTo (secI im p) 32).getD j 0) ∧ ∀ i, G im' i ((ptrsTo (secI im p) 32).getD j 0) = G im i ((ptrsTo (secI im p) 32).getD j 0) := fun j hj h0 =>
   hr.loc _ _ _ fun q hq => h q (List.mem_cons_of_mem _ (mem_gRow.2 ⟨j, hj, h0, hq⟩))
  refine ⟨?_, fun f => ?_⟩
  ·unfold gTT gT
   rw [hp]
   congr 1
   unfold gRow
   refine flatMap_ext fun j hj => ?_
   split
   ·rfl
   ·rename_i h0; rw [(hq j hj h0).1]
  ·unfold GTT tabG
   rw [hp];unfold rowG
   refine flatMap_ext fun j hj => ?_
   split
   ·rfl
   ·rename_i h0; rw [(hq j hj h0).2]
end Go.Proofs.YtpmignilhoihnabGreat

namespace Go.Proofs.YtpmignilhoihnabGreat

def tabsZ (im : Img) (z : List Int) : List Int := gZ (gTT g0 im) (z.getD 16 0) ++ gZ (gTT (gTT g0) im) (z.getD 17 0)
theorem mem_gZ {g : Int → List Int} {p q : Int} : q ∈ gZ g p ↔ p ≠ 0 ∧ q ∈ g p := by
 unfold gZ
 by_cases h : p = 0
 ·rw [if_pos h]
  exact ⟨fun e => (by cases e), fun e => absurd h e.1⟩
 ·rw [if_neg h]
  exact ⟨fun e => ⟨h, e⟩, fun e => e.2⟩
theorem single_kr {N M : Int} (hM : 0 ≤ M) (cnt : Int) : KR N M (singleF N M cnt) (gTT g0) (GTT 1 G0) := table_kr hM (block_kpr N M cnt) (block_sb N M cnt) (block_kr N M cnt)
theorem double_kr {N M : Int} (hM : 0 ≤ M) (cnt : Int) : KR N M (doubleF N M cnt) (gTT (gTT g0)) (GTT 32 (GTT 1 G0)) := table_kr hM (table_kpr hM (block_kpr N M cnt)) (table_sb hM (block_kpr N M cnt) (block_sb N M cnt)) (single_kr hM cnt)
theorem tabs_loc {im im' : Img} {z : List Int} (h : ∀ q ∈ tabsZ im z, secI im' q = secI im q) : tabsZ im' z = tabsZ im z ∧ spI im' z = spI im z := by
 have k1 := single_kr (N := 0) (M := 0) (by omega) 0;have k2 := double_kr (N := 0) (M := 0) (by omega) 0
 have a1 : z.getD 16 0 ≠ 0 → gTT g0 im' (z.getD 16 0) = gTT g0 im (z.getD 16 0) ∧ ∀ i, GTT 1 G0 im' i (z.getD 16 0) = GTT 1 G0 im i (z.getD 16 0) := fun h0 => k1.loc _ _ _ fun q hq => h q (List.mem_append_left _ (mem_gZ.2 ⟨h0, hq⟩))
 have a2 : z.getD 17 0 ≠ 0 → gTT (gTT g0) im' (z.getD 17 0) = gTT (gTT g0) im (z.getD 17 0) ∧ ∀ i, GTT 32 (GTT 1 G0) im' i (z.getD 17 0) = GTT 32 (GTT 1 G0) im i (z.getD 17 0) := fun h0 => k2.loc _ _ _ fun q hq => h q (List.mem_append_right _ (mem_gZ.2 ⟨h0, hq⟩))
 constructor
 ·unfold tabsZ gZ
  by_cases h1 : z.getD 16 0 = 0
  ·rw [if_pos h1, if_pos h1]
   by_cases h2 : z.getD 17 0 = 0
   ·rw [if_pos h2, if_pos h2]
   ·rw [if_neg h2, if_neg h2, (a2 h2).1]
  ·rw [if_neg h1, if_neg h1, (a1 h1).1]
   by_cases h2 : z.getD 17 0 = 0
   ·rw [if_pos h2, if_pos h2]
   ·rw [if_neg h2, if_neg h2, (a2 h2).1]
 ·have b1 : z.getD 16 0 ≠ 0 → tabG im' 1 (fun i p => [(i, p)]) 12 (z.getD 16 0) = tabG im 1 (fun i p => [(i, p)]) 12 (z.getD 16 0) := fun h0 => (a1 h0).2 12
  have b2 : z.getD 17 0 ≠ 0 → tabG im' 32 (tabG im' 1 fun i p => [(i, p)]) 44 (z.getD 17 0) = tabG im 32 (tabG im 1 fun i p => [(i, p)]) 44 (z.getD 17 0) := fun h0 => (a2 h0).2 44
  unfold spI
  by_cases h1 : z.getD 16 0 = 0
  ·rw [if_pos h1, if_pos h1]
   by_cases h2 : z.getD 17 0 = 0
   ·rw [if_pos h2, if_pos h2]
   ·rw [if_neg h2, if_neg h2, b2 h2]
  ·rw [if_neg h1, if_neg h1, b1 h1]
   by_cases h2 : z.getD 17 0 = 0
   ·rw [if_pos h2, if_pos h2]
   ·rw [if_neg h2, if_neg h2, b2 h2]
theorem set_drop (z : List Int) (L : Int) : (z.set 1 L).drop 4 = z.drop 4 := by
 rw [List.drop_set_of_lt (by omega)]
theorem tabs_links (im : Img) (z : List Int) (L : Int) : tabsZ im (z.set 1 L) = tabsZ im z ∧ spI im (z.set 1 L) = spI im z := by
 unfold tabsZ spI;rw [getD_set_ne (by omega), getD_set_ne (by omega), set_drop]
 exact ⟨rfl, rfl⟩
theorem leftF_ne {b : Bool} {n : Int} (h : leftF b n ≠ 0) : b = true ∧ leftF b n = n := by
 unfold leftF at *
 cases b with
 | true => exact ⟨rfl, rfl⟩
 | false => exact absurd rfl h
theorem ino_kr {N M : Int} (hM : 0 ≤ M) {z : List Int} (hz : z.length = 18) (wt : Img) (cl : Int → Bool) (hw : wt.length = N) (ha : AllSec wt) :
  (∀ q ∈ tabsZ (dblT N M z wt cl).2.wt (inoT N M z wt cl), cl q = false ∧ (dblT N M z wt cl).2.cl q = true ∧ (∀ x ∈ (dblT N M z wt cl).2.sp, x.2 ≠ q) ∧ M < q) ∧ ∀ y ∈ spI (dblT N M z wt cl).2.wt (inoT N M z wt cl), y ∈ (dblT N M z wt cl).2.sp := by
 have kb := block_kpr N M (cntZ z);have bb := block_sb N M (cntZ z);have ks : Kpr N M (singleF N M (cntZ z)) := table_kpr hM kb;have bs : Sb N (singleF N M (cntZ z)) := table_sb hM kb bb;have md := dir_mo (N := N) (M := M) z wt cl hw;have ms := sin_mo (N := N) (M := M) hM z wt cl hw;have m2 := dbl_mo0 (N := N) (M := M) hM z wt cl hw
 have hc0 : ∀ x ∈ (⟨wt, cl, []⟩ : TS).sp, (⟨wt, cl, []⟩ : TS).cl x.2 = true := fun x hx => (by cases hx)
 have hl12 : ((z.drop 4).take 12).length = 12 := by rw [List.length_take, List.length_drop]; omega
 have hdir : (dirT N M z wt cl).1.length = 12 := by unfold dirT; rw [goK_len]; exact hl12
 have a0 : ∀ j, j < 12 → (dirT N M z wt cl).1.getD j 0 ≠ 0 → _ := fun j hj h0 => goK_kr kb bb (block_kr N M (cntZ z)) ((z.drop 4).take 12) ⟨wt, cl, []⟩ hw ha hc0 12 (by omega) j hj h0
 have hd1 : AllSec (dirT N M z wt cl).2.wt := (goK_sb kb bb ((z.drop 4).take 12) ⟨wt, cl, []⟩ hw ha 12).1;have hs1 : AllSec (sinT N M z wt cl).2.wt := (bs (dirT N M z wt cl).2 12 (z.getD 16 0) (by rw [md.len]; exact hw) hd1).1
 have a1 : (sinT N M z wt cl).1 = true → _ := fun h => (single_kr hM (cntZ z)).run (dirT N M z wt cl).2 12 (z.getD 16 0) (by rw [md.len]; exact hw) hd1 (md.claimed hc0) h
 have a2 : (dblT N M z wt cl).1 = true → _ := fun h => (double_kr hM (cntZ z)).run (sinT N M z wt cl).2 44 (z.getD 17 0) (by rw [ms.len, md.len]; exact hw) hs1 (ms.claimed (md.claimed hc0)) h
 have e16 : (inoT N M z wt cl).getD 16 0 = leftF (sinT N M z wt cl).1 (z.getD 16 0) := by
  unfold inoT;rw [List.getD_eq_getElem?_getD, List.getElem?_append_right (by simp [hdir])]
  simp [hdir]
 have e17 : (inoT N M z wt cl).getD 17 0 = leftF (dblT N M z wt cl).1 (z.getD 17 0) := by
  unfold inoT;rw [List.getD_eq_getElem?_getD, List.getElem?_append_right (by simp [hdir])]
  simp [hdir]
 have eD : ((inoT N M z wt cl).drop 4).take 12 = (dirT N M z wt cl).1 := by
  unfold inoT;rw [List.append_assoc, List.drop_append_of_le_length (by simp)]
  simp [hdir]
 have hS : (sinT N M z wt cl).1 = true → (∀ q ∈ gTT g0 (dblT N M z wt cl).2.wt (z.getD 16 0), cl q = false ∧ (dblT N M z wt cl).2.cl q = true ∧ (∀ x ∈ (dblT N M z wt cl).2.sp, x.2 ≠ q) ∧ M < q) ∧ ∀ y ∈ GTT 1 G0 (dblT N M z wt cl).2.wt 12 (z.getD 16 0), y ∈ (dblT N M z wt cl).2.sp := fun hb => by
  obtain ⟨r1, r2⟩ := a1 hb;have r1 : ∀ q ∈ gTT g0 (sinT N M z wt cl).2.wt (z.getD 16 0), (dirT N M z wt cl).2.cl q = false ∧ (sinT N M z wt cl).2.cl q = true ∧ (∀ x ∈ (sinT N M z wt cl).2.sp, x.2 ≠ q) ∧ M < q := r1;have r2 : ∀ y ∈ GTT 1 G0 (sinT N M z wt cl).2.wt 12 (z.getD 16 0), y ∈ (sinT N M z wt cl).2.sp := r2;obtain ⟨l1, l2⟩ := (single_kr (N := N) hM (cntZ z)).loc (sinT N M z wt cl).2.wt (dblT N M z wt cl).2.wt (z.getD 16 0) (fun q hq => m2.wt q (r1 q hq).2.1);refine ⟨fun q hq => ?_, fun y hy => ?_⟩
  ·rw [l1] at hq
   obtain ⟨b1, b2, b3, b4⟩ := r1 q hq
   exact ⟨md.off b1, m2.cl q b2, m2.apart b2 b3, b4⟩
  ·rw [l2] at hy
   exact m2.sub y (r2 y hy)
 have hD : (dblT N M z wt cl).1 = true → (∀ q ∈ gTT (gTT g0) (dblT N M z wt cl).2.wt (z.getD 17 0), cl q = false ∧ (dblT N M z wt cl).2.cl q = true ∧ (∀ x ∈ (dblT N M z wt cl).2.sp, x.2 ≠ q) ∧ M < q) ∧ ∀ y ∈ GTT 32 (GTT 1 G0) (dblT N M z wt cl).2.wt 44 (z.getD 17 0), y ∈ (dblT N M z wt cl).2.sp := fun hb => by
  obtain ⟨r1, r2⟩ := a2 hb
  exact ⟨fun q hq => ⟨md.off (ms.off (r1 q hq).1), (r1 q hq).2⟩, r2⟩
 refine ⟨fun q hq => ?_, fun y hy => ?_⟩
 ·unfold tabsZ at hq
  rw [e16, e17] at hq
  rcases List.mem_append.1 hq with hq | hq
  ·obtain ⟨h0, hq⟩ := mem_gZ.1 hq
   obtain ⟨hb, he⟩ := leftF_ne h0;rw [he] at hq
   exact (hS hb).1 q hq
  ·obtain ⟨h0, hq⟩ := mem_gZ.1 hq
   obtain ⟨hb, he⟩ := leftF_ne h0;rw [he] at hq
   exact (hD hb).1 q hq
 ·unfold spI at hy
  rw [e16, e17, eD] at hy
  rcases List.mem_append.1 hy with hy | hy
  ·rcases List.mem_append.1 hy with hy | hy
   ·obtain ⟨j, hj, h0, hy⟩ := mem_rowG.1 hy
    obtain ⟨e1, _, r2⟩ := a0 j hj h0;have e1 : (dirT N M z wt cl).1.getD j 0 = ((z.drop 4).take 12).getD j 0 := e1;rw [e1] at hy;have hy : y ∈ (dirT N M z wt cl).2.sp := r2 y (by unfold G0; simpa using hy)
    exact m2.sub y (ms.sub y hy)
   ·split at hy
    ·cases hy
    ·rename_i h0
     obtain ⟨hb, he⟩ := leftF_ne h0;rw [he] at hy
     exact (hS hb).2 y hy
  ·split at hy
   ·cases hy
   ·rename_i h0
    obtain ⟨hb, he⟩ := leftF_ne h0;rw [he] at hy
    exact (hD hb).2 y hy
end Go.Proofs.YtpmignilhoihnabGreat

namespace Go.Proofs.YtpmignilhoihnabGreat

structure KZ (M : Int) (im : Img) (s : LS) (rest : List Int) (i : Int) (z : List Int) : Prop where
 ptr : ∀ m, 4 ≤ m → m < 18 → z.getD m 0 = (soundZ M im i).1.getD m 0 ∨ z.getD m 0 = 0
 tab : ∀ q ∈ tabsZ s.wt z, s.cl q = true ∧ s.wp q = false ∧ q ∉ rest ++ s.q.flatten ∧ M < q
 blk : ∀ y ∈ spI s.wt z, s.cl y.2 = true ∧ M < y.2 ∧ (z.getD 0 0 = 2 → secI s.wt y.2 = Zs ∨ secI s.wt y.2 = secI im y.2) ∧
  (z.getD 0 0 ≠ 2 → y.2 ∉ rest ++ s.q.flatten ∧ ∀ b : Nat, b < 128 → 128 * y.1 + b < z.getD 2 0 → (secI s.wt y.2).getD b 0 = (secI im y.2).getD b 0)
def KI (M : Int) (im : Img) (s : LS) (rest : List Int) : Prop := ∀ i z, s.tk i = some z → KZ M im s rest i z
theorem KZ.links {M : Int} {im : Img} {s : LS} {rest : List Int} {i : Int} {z : List Int} (h : KZ M im s rest i z) (L : Int) : KZ M im s rest i (z.set 1 L) := by
 obtain ⟨e1, e2⟩ := tabs_links s.wt z L;refine ⟨fun m h4 h18 => ?_, fun q hq => h.tab q (by rw [e1] at hq; exact hq), fun y hy => ?_⟩
 ·rw [getD_set_ne (by omega)]
  exact h.ptr m h4 h18
 ·rw [e2] at hy
  rw [getD_set_ne (by omega), getD_set_ne (by omega)]
  exact h.blk y hy
theorem KZ.step {M : Int} {im : Img} {s t : LS} {rest rest' : List Int} {i : Int} {z : List Int} (h : KZ M im s rest i z)
  (hcl : ∀ n, s.cl n = true → t.cl n = true) (hwt : ∀ n, s.cl n = true → secI t.wt n = secI s.wt n) (hwp : ∀ n, s.cl n = true → t.wp n = s.wp n)
  (hq : ∀ n, s.cl n = true → n ∈ rest' ++ t.q.flatten → n ∈ rest ++ s.q.flatten) : KZ M im t rest' i z := by
 obtain ⟨e1, e2⟩ := tabs_loc (im := s.wt) (im' := t.wt) (z := z) (fun q hq => hwt q (h.tab q hq).1);refine ⟨h.ptr, fun q hq' => ?_, fun y hy => ?_⟩
 ·rw [e1] at hq'
  obtain ⟨a, b, c, d⟩ := h.tab q hq'
  exact ⟨hcl q a, by rw [hwp q a]; exact b, fun k => c (hq q a k), d⟩
 ·rw [e2] at hy
  obtain ⟨a, b, c, d⟩ := h.blk y hy;rw [hwt y.2 a]
  exact ⟨hcl _ a, b, c, fun k => ⟨fun k2 => (d k).1 (hq _ a k2), (d k).2⟩⟩
theorem nodup_snd {l : List (Int × Int)} (h : (l.map Prod.snd).Nodup) {x y : Int × Int} (hx : x ∈ l) (hy : y ∈ l) (e : x.2 = y.2) : x = y := by
 induction l with
 | nil => cases hx
 | cons a l ih =>
  rw [List.map_cons, List.nodup_cons] at h
  rcases List.mem_cons.1 hx with e1 | h1
  ·rcases List.mem_cons.1 hy with e2 | h2
   ·rw [e1, e2]
   ·exact absurd (List.mem_map.2 ⟨y, h2, by rw [← e, e1]⟩) h.1
  ·rcases List.mem_cons.1 hy with e2 | h2
   ·exact absurd (List.mem_map.2 ⟨x, h1, by rw [e, e2]⟩) h.1
   ·exact ih h.2 h1 h2
theorem lastB_at {size : Int} {sp : List (Int × Int)} {l : Int × Int} (h : lastB size sp = some l) : l.1 = size / 128 := by
 unfold lastB at h
 split at h
 ·split at h
  ·rename_i hc
   cases h
   exact hc.2
  ·cases h
 ·cases h
theorem take_kz {N M : Int} {im : Img} (hM : 0 ≤ M) {i : Int} {s : LS} {rest : List Int} (h : LInv N M im s rest) (hi : (soundZ M im i).2 = true) :
  KZ M im (takeL N M (soundZ M im i).1 s) rest i (inoT N M (soundZ M im i).1 s.wt s.cl) := by
 obtain ⟨_, _, a3, a4, a5, _⟩ := sound_parts hi;obtain ⟨z, hz⟩ : ∃ z, z = (soundZ M im i).1 := ⟨_, rfl⟩;rw [← hz] at a3 a4 a5 ⊢;obtain ⟨r1, r2⟩ := ino_kr (N := N) hM a3 s.wt s.cl h.len h.sec;have hm := dbl_mo (N := N) (M := M) hM z s.wt s.cl h.len;have hok := dblT_ok N M z s.wt s.cl;obtain ⟨new, e, p, d⟩ := hm.sp;have e : (dblT N M z s.wt s.cl).2.sp = new := e;rw [← e] at p d;obtain ⟨e0, e1, e2, e3⟩ := inoT_0 N M z s.wt s.cl
 have hptr : ∀ m, 4 ≤ m → m < 18 → (inoT N M z s.wt s.cl).getD m 0 = z.getD m 0 ∨ (inoT N M z s.wt s.cl).getD m 0 = 0 := fun m h4 h18 => inoT_get a3 _ _ h4 h18
 generalize inoT N M z s.wt s.cl = z' at *
 have hlen : ((dblT N M z s.wt s.cl).2.wt.length : Int) = N := by rw [hm.len]; exact h.len
 generalize hT : (dblT N M z s.wt s.cl).2 = T at *
 have hraw : ∀ n, s.cl n = false → n ∉ rest ++ s.q.flatten := fun n hn k => by
  have := (h.raw n k).1;rw [hn] at this
  cases this
 have hwp : ∀ n, s.cl n = false → s.wp n = false := fun n hn => (h.un n hn).2
 have hblk : ∀ y ∈ T.sp, secI T.wt y.2 = secI im y.2 := fun y hy => by
  obtain ⟨b1, b2, b3⟩ := p y hy
  exact b3.trans (h.un y.2 b1).1
 by_cases hk : z.getD 0 0 = 2
 ·rw [takeL_dir hk, hT]
  refine ⟨fun m h4 h18 => by rw [← hz]; exact hptr m h4 h18, fun q hq => ?_, fun y hy => ?_⟩
  ·obtain ⟨b1, b2, b3, b4⟩ := r1 q hq
   refine ⟨b2, hwp q b1, fun k => ?_, b4⟩;have k : q ∈ rest ++ (s.q ++ [T.sp.map Prod.snd]).flatten := k;rw [List.flatten_append, ← List.append_assoc] at k
   rcases List.mem_append.1 k with k | k
   ·exact hraw q b1 k
   ·simp only [List.flatten_cons, List.flatten_nil, List.append_nil] at k
    obtain ⟨x, hx, hx2⟩ := List.mem_map.1 k
    exact b3 x hx hx2
  ·have hy := r2 y hy
   exact ⟨(p y hy).2.1, (hok y hy).1, fun _ => .inr (hblk y hy), fun k => absurd (e0.trans hk) k⟩
 ·rw [takeL_file hk, hT]
  have hpos : ∀ x ∈ T.sp, 0 < x.2 := fun x hx => by have := (hok x hx).1; omega
  have hwq : ∀ q ∈ tabsZ T.wt z', secI (wipeW (z.getD 2 0) T.sp T.wt) q = secI T.wt q := fun q hq => wipe_ne hpos (r1 q hq).2.2.1
  obtain ⟨l1, l2⟩ := tabs_loc (im := T.wt) (im' := wipeW (z.getD 2 0) T.sp T.wt) (z := z') hwq;refine ⟨fun m h4 h18 => by rw [← hz]; exact hptr m h4 h18, fun q hq => ?_, fun y hy => ?_⟩
  ·have hq : q ∈ tabsZ (wipeW (z.getD 2 0) T.sp T.wt) z' := hq
   rw [l1] at hq;obtain ⟨b1, b2, b3, b4⟩ := r1 q hq
   exact ⟨b2, (wipeP_ne b3).trans (hwp q b1), hraw q b1, b4⟩
  ·have hy : y ∈ spI (wipeW (z.getD 2 0) T.sp T.wt) z' := hy
   rw [l2] at hy;have hy := r2 y hy;refine ⟨(p y hy).2.1, (hok y hy).1, fun k => absurd (e0.symm.trans k) hk, fun _ => ⟨hraw _ (p y hy).1, fun b hb hlt => ?_⟩⟩;rw [e2] at hlt
   show (secI (wipeW (z.getD 2 0) T.sp T.wt) y.2).getD b 0 = _
   unfold wipeW
   split
   ·rename_i l hl
    have hlm := lastB_mem hl
    by_cases hyl : y.2 = l.2
    ·have e5 := nodup_snd d hy hlm hyl
     subst e5;have h1 := lastB_at hl;rw [secI_set (by have := hpos y hy; omega) (by rw [hlen]; exact (hok y hy).2), wip_get _ _ ((by rw [hblk y hy, ← (h.un y.2 (p y hy).1).1]; exact (h.sec y.2).1)), if_neg (by rw [h1] at hlt; omega), hblk y hy]
    ·rw [secI_set_ne (hpos l hlm) hyl, hblk y hy]
   ·rw [hblk y hy]
theorem enter_ki {N M : Int} {im : Img} (hM : 0 ≤ M) {i : Int} {s : LS} {rest : List Int} (h : LInv N M im s rest) (hi : MayE M im s i) (k : KI M im s rest) : KI M im (enterL N M im i s) rest := by
 unfold MayE at hi
 cases ht : s.tk i with
 | some z =>
  rw [enter_some ht]
  intro j y hy
  replace hy : (if j = i then some (moreZ z) else s.tk j) = some y := hy
  have base : ∀ j y, s.tk j = some y → KZ M im { s with tk := putT s.tk i (moreZ z) } rest j y := fun j y hy => (k j y hy).step (fun _ e => e) (fun _ _ => rfl) (fun _ _ => rfl) (fun _ _ e => e)
  by_cases e : j = i
  ·rw [if_pos e] at hy
   subst e;obtain rfl := Option.some.inj hy
   exact (base j z ht).links _
  ·rw [if_neg e] at hy
   exact base j y hy
 | none =>
  rw [ht] at hi
  simp only at hi
  rw [enter_none ht];obtain ⟨m1, ⟨e, q1, q2, q3⟩, _⟩ := take_mo hM (soundZ M im i).1 s h.len;have hz := take_kz (N := N) hM h hi
  intro j y hy
  replace hy : (if j = i then some (moreZ (inoT N M (soundZ M im i).1 s.wt s.cl)) else (takeL N M (soundZ M im i).1 s).tk j) = some y := hy
  by_cases e1 : j = i
  ·rw [if_pos e1] at hy
   subst e1;obtain rfl := Option.some.inj hy;have := hz.links ((inoT N M (soundZ M im j).1 s.wt s.cl).getD 1 0 + 1)
   exact this.step (fun _ e => e) (fun _ _ => rfl) (fun _ _ => rfl) (fun _ _ e => e)
  ·rw [if_neg e1, takeL_tk] at hy
   refine (k j y hy).step (fun n hn => m1.cl n hn) (fun n hn => m1.wt n hn (fun e => e)) (fun n hn => m1.wp n hn) (fun n hn hm => ?_);have hm : n ∈ rest ++ (takeL N M (soundZ M im i).1 s).q.flatten := hm;rw [q1, List.flatten_append, ← List.append_assoc] at hm
   rcases List.mem_append.1 hm with hm | hm
   ·exact hm
   ·have := (q2 n hm).1
    rw [hn] at this
    cases this
theorem KI.next {M : Int} {im : Img} {s : LS} {n : Int} {l : List Int} (h : KI M im s (n :: l)) : KI M im s l := fun i z hz => (h i z hz).step (fun _ e => e) (fun _ _ => rfl) (fun _ _ => rfl) (fun _ _ e => List.mem_cons_of_mem _ e)
theorem slot_ki {N M : Int} {im : Img} (hM : 0 ≤ M) {n : Int} {l : List Int} {r : List ByteArray × LS} (h : LInv N M im r.2 (n :: l)) (k : KI M im r.2 (n :: l)) : KI M im (slotL N M im n r).2 l := by
 obtain ⟨c1, c2, c3, c4⟩ := h.raw n List.mem_cons_self
 by_cases h1 : (slotOf (secI r.2.wt n)).2.2 = 0 ∧ (slotOf (secI r.2.wt n)).1 = 0 ∧ (slotOf (secI r.2.wt n)).2.1.size = 0
 ·rw [slot_empty h1]
  exact k.next
 ·by_cases h2 : (slotOf (secI r.2.wt n)).2.2 = 0 ∧ isEntryB M im r.2 (slotOf (secI r.2.wt n)).1 (hasN r.1 (slotOf (secI r.2.wt n)).2.1) = true
  ·rw [slot_entry h1 h2]
   exact enter_ki hM h.next (mayE_of h2.2) k.next
  ·rw [slot_none h1 h2]
   intro i z hz
   have hz := k i z hz
   have ht : ∀ q ∈ tabsZ r.2.wt z, secI (r.2.wt.set n.toNat Zs) q = secI r.2.wt q := fun q hq => secI_set_ne (by omega) (fun e => (hz.tab q hq).2.2.1 (by rw [e]; exact List.mem_cons_self))
   obtain ⟨l1, l2⟩ := tabs_loc (im := r.2.wt) (im' := r.2.wt.set n.toNat Zs) (z := z) ht;refine ⟨hz.ptr, fun q hq => ?_, fun y hy => ?_⟩
   ·have hq : q ∈ tabsZ (r.2.wt.set n.toNat Zs) z := hq
    rw [l1] at hq;obtain ⟨a, b, c, d⟩ := hz.tab q hq
    exact ⟨a, b, fun e => c (List.mem_cons_of_mem _ e), d⟩
   ·have hy : y ∈ spI (r.2.wt.set n.toNat Zs) z := hy
    rw [l2] at hy;obtain ⟨a, b, c, d⟩ := hz.blk y hy;refine ⟨a, b, fun e0 => ?_, fun e0 => ?_⟩
    ·show secI (r.2.wt.set n.toNat Zs) y.2 = _ ∨ secI (r.2.wt.set n.toNat Zs) y.2 = _
     by_cases e : y.2 = n
     ·rw [e]
      exact .inl (secI_set (by omega) (by have := h.len; omega))
     ·rw [secI_set_ne (by omega) e]
      exact c e0
    ·obtain ⟨d1, d2⟩ := d e0
     refine ⟨fun e => d1 (List.mem_cons_of_mem _ e), ?_⟩
     show ∀ b : Nat, _ → _ → (secI (r.2.wt.set n.toNat Zs) y.2).getD b 0 = _
     rw [secI_set_ne (by omega) (fun e => d1 (by rw [e]; exact List.mem_cons_self))]
     exact d2
theorem dirK_ki {N M : Int} {im : Img} (hM : 0 ≤ M) : ∀ (l : List Int) (r : List ByteArray × LS), LInv N M im r.2 l → KI M im r.2 l → KI M im (dirK N M im l r).2 []
 | [], _, _, k => k
 | n :: l, r, h, k => dirK_ki hM l (slotL N M im n r) (slot_inv hM h).1 (slot_ki hM h k)
theorem allL_ki {N M : Int} {im : Img} (hM : 0 ≤ M) : ∀ (f : Nat) (s : LS), LInv N M im s [] → KI M im s [] → KI M im (allL N M im f s) []
 | 0, _, _, k => k
 | f + 1, s, h, k => by
  cases hq : s.q with
  | nil => rw [allL_nil hq]; exact k
  | cons l q =>
   rw [allL_cons hq]
   have k1 : KI M im { s with q := q } l := fun i z hz => (k i z hz).step (fun _ e => e) (fun _ _ => rfl) (fun _ _ => rfl) (fun n _ e => by rw [hq]; exact e)
   exact allL_ki hM f _ (dirK_inv hM l ([], { s with q := q }) (h.pop hq)).1 (dirK_ki hM l ([], { s with q := q }) (h.pop hq) k1)
end Go.Proofs.YtpmignilhoihnabGreat

namespace Go.Proofs.YtpmignilhoihnabGreat

structure Kept1 (M : Int) (im T : Img) (i : Int) (z : List Int) : Prop where
 zi : zI T i = z
 rd : (rdI im i).2 = 0
 k0 : (zI im i).getD 0 0 = z.getD 0 0
 k2 : (zI im i).getD 2 0 = z.getD 2 0
 k3 : (zI im i).getD 3 0 = z.getD 3 0
 ptr : ∀ m, 4 ≤ m → m < 18 → z.getD m 0 ≠ 0 → (zI im i).getD m 0 = z.getD m 0
 tab : ∀ q ∈ tabsZ T z, M < q ∧ ∀ k, (ptrsTo (secI T q) 32).getD k 0 ≠ 0 → (ptrsTo (secI im q) 32).getD k 0 = (ptrsTo (secI T q) 32).getD k 0
 blk : ∀ y ∈ spI T z, M < y.2 ∧ (z.getD 0 0 = 2 → secI T y.2 = Zs ∨ secI T y.2 = secI im y.2) ∧ (z.getD 0 0 ≠ 2 → ∀ b : Nat, b < 128 → 128 * y.1 + b < z.getD 2 0 → (secI T y.2).getD b 0 = (secI im y.2).getD b 0)
theorem gone_ki {M : Nat} {im : Img} (hs : AllSec im) (hr : rootB M im = true) : KI M im (goneL M im) [] :=
 allL_ki (N := im.length) (Int.natCast_nonneg M) M _ (enter_inv (Int.natCast_nonneg M) (start_inv rfl hs) (root_may hr)) (enter_ki (Int.natCast_nonneg M) (start_inv rfl hs) (root_may hr) (fun i z hz => by cases hz))
theorem Zi_back : (rdIno (zTo (inoS Zi) 18) (inoS Zi)).1 = Zi := by
 have h1 : Zi.length = 18 := by simp [Zi]
 have h2 : inoB Zi = true := by
  have h0 : Zi.getD 0 0 = 0 := rfl;unfold inoB;rw [if_pos h0]
  exact decide_eq_true rfl
 rw [ino_back h1 h2]
theorem keeps {M : Nat} {im : Img} (hMl : M < im.length) (hs : AllSec im) (hr : rootB M im = true) {i : Int} (h1 : 1 ≤ i) (h2 : i ≤ M) (hk : kd (lookL M im).wt i ≠ 0) : Kept1 M im (lookL M im).wt i (zI (lookL M im).wt i) := by
 obtain ⟨gi, _⟩ := gone_inv hs hr;have ki := gone_ki hs hr
 have hwl : (goneL M im).wt.length = im.length := by have := gi.len; omega
 have wI : secI (lookL M im).wt i = inodeW (goneL M im).tk i := by
  show secI (layK _ _ _) i = _
  rw [layK_at _ _ _ _ (by omega), if_pos ⟨h1, h2⟩]
 have wD : ∀ n : Int, M < n → secI (lookL M im).wt n = secI (goneL M im).wt n := fun n hn => by
  show secI (layK _ _ _) n = _
  rw [layK_at _ _ _ _ (by omega), if_neg (by omega)]
 generalize (lookL M im).wt = T at *
 generalize goneL M im = s at *
 cases ht : s.tk i with
 | none =>
  refine absurd ?_ hk
  have : zI T i = Zi := by
   unfold zI rdI;rw [wI];unfold inodeW;rw [ht]
   exact Zi_back
  unfold kd;rw [this]
  rfl
 | some z =>
  obtain ⟨a1, a2, a3, a4, a5, a6⟩ := gi.tk i z ht;have kz := ki i z ht
  have hz : zI T i = z := by
   unfold zI rdI;rw [wI];unfold inodeW;rw [ht]
   show (rdIno (zTo (inoS z) 18) (inoS z)).1 = z
   rw [ino_back a2 a3]
  have hso := sound_zI (im := im) h1 h2;rw [hso] at a1 a4 a5 a6;have kp := kz.ptr;rw [hso] at kp;rw [Bool.and_eq_true, decide_eq_true_eq] at a1;obtain ⟨l1, l2⟩ := tabs_loc (im := s.wt) (im' := T) (z := z) (fun q hq => wD q (kz.tab q hq).2.2.2);rw [hz];refine ⟨hz, a1.1, a4.symm, a5.symm, a6.symm, fun m h4 h18 h0 => ?_, fun q hq => ?_, fun y hy => ?_⟩
  ·rcases kp m h4 h18 with e | e
   ·exact e.symm
   ·exact absurd e h0
  ·rw [l1] at hq
   obtain ⟨b1, b2, b3, b4⟩ := kz.tab q hq;refine ⟨b4, fun k h0 => ?_⟩;rw [wD q b4] at h0 ⊢
   rcases gi.sub q b2 k with e | e
   ·exact e.symm
   ·exact absurd e h0
  ·rw [l2] at hy
   obtain ⟨b1, b2, b3, b4⟩ := kz.blk y hy;rw [wD y.2 b2]
   exact ⟨b2, b3, fun e => (b4 e).2⟩
theorem Kept1.block {M : Int} {im T : Img} {i : Int} {z : List Int} (h : Kept1 M im T i z) (hz : z.length = 18) {k : Nat} (hk : k < 1068) (h0 : blkP T z k ≠ 0) : M < blkP T z k ∧ (z.getD 0 0 = 2 → secI T (blkP T z k) = Zs ∨ secI T (blkP T z k) = secI im (blkP T z k)) ∧ (z.getD 0 0 ≠ 2 → ∀ b : Nat, b < 128 → 128 * (k : Int) + b < z.getD 2 0 → (secI T (blkP T z k)).getD b 0 = (secI im (blkP T z k)).getD b 0) := by
 have hm : ((k : Int), blkP T z k) ∈ spI T z := by
  rw [sp_blocks T hz, List.mem_flatMap];refine ⟨k, List.mem_range.2 hk, ?_⟩;unfold entB;rw [if_neg h0]
  exact List.mem_singleton.2 rfl
 exact h.blk _ hm
end Go.Proofs.YtpmignilhoihnabGreat

namespace Go.Proofs.YtpmignilhoihnabGreat
open Go.RowKit Go.Shelf

def stoodP (M : Int) (im : Img) (p : Pt) : Int :=
 if M < p.1 then (ptrsTo (secI im p.1) 32).getD p.2.1.toNat 0
 else if p.2.1 = 12 then (zI im p.1).getD 16 0
 else if p.2.1 = 13 then (zI im p.1).getD 17 0
 else (zI im p.1).getD (4 + p.2.1.toNat) 0
def plZ (p : Int) : Nat := if p = 12 then 16 else if p = 13 then 17 else 4 + p.toNat
theorem mem_rowP' {q : Int} {t : List Int} {K : Nat} {p : Pt} (h : p ∈ rowP q t K) : p.1 = q ∧ 0 ≤ p.2.1 ∧ p.2.1 < K ∧ p.2.2 = t.getD p.2.1.toNat 0 := by
 unfold rowP at h;obtain ⟨j, hj, rfl⟩ := List.mem_map.1 h;have := List.mem_range.1 hj
 exact ⟨rfl, by simp, by simp; omega, by simp⟩
def PtIn (T : Img) (i : Int) (z : List Int) (p : Pt) : Prop :=
 (p.1 = i ∧ 0 ≤ p.2.1 ∧ p.2.1 < 14 ∧ p.2.2 = z.getD (plZ p.2.1) 0) ∨ (p.1 ∈ tabsZ T z ∧ 0 ≤ p.1 ∧ p.1 < T.length ∧ 0 ≤ p.2.1 ∧ p.2.1 < 32 ∧ p.2.2 = (ptrsTo (secI T p.1) 32).getD p.2.1.toNat 0)
theorem mem_dblP' {T : Img} {q : Int} {t : List Int} {p : Pt} : ∀ K, p ∈ dblP T q t K → (∃ k : Nat, k < K ∧ p = (q, (k : Int), t.getD k 0)) ∨ ∃ k : Nat, k < K ∧ t.getD k 0 ≠ 0 ∧ p ∈ rowP (t.getD k 0) (ptrsTo (secI T (t.getD k 0)) 32) 32
 | 0, h => by cases h
 | K + 1, h => by
  unfold dblP at h
  rcases List.mem_append.1 h with h | h
  ·rcases List.mem_append.1 h with h | h
   ·rcases mem_dblP' K h with ⟨k, h1, h2⟩ | ⟨k, h1, h2⟩
    ·exact .inl ⟨k, by omega, h2⟩
    ·exact .inr ⟨k, by omega, h2⟩
   ·exact .inl ⟨K, by omega, List.mem_singleton.1 h⟩
  ·unfold sinP at h
   split at h
   ·cases h
   ·rename_i h0
    exact .inr ⟨K, by omega, h0, h⟩
theorem fol_at {T : Img} {i : Int} {z : List Int} (hk : FolOk T z) : ∀ p ∈ folL T i z, PtIn T i z p := by
 intro p hp
 unfold folL at hp
 rcases List.mem_append.1 hp with hp | hp
 ·rcases List.mem_append.1 hp with hp | hp
  ·refine .inl ?_
   rcases List.mem_append.1 hp with hp | hp
   ·unfold dirP12 at hp
    obtain ⟨j, hj, rfl⟩ := List.mem_map.1 hp;have hj := List.mem_range.1 hj;refine ⟨rfl, by simp, by simp; omega, ?_⟩
    show z.getD (4 + j) 0 = z.getD (plZ (j : Int)) 0
    unfold plZ;rw [if_neg (by omega), if_neg (by omega), Int.toNat_natCast]
   ·rcases List.mem_cons.1 hp with rfl | hp
    ·exact ⟨rfl, by simp, by simp, rfl⟩
    ·obtain rfl := List.mem_singleton.1 hp
     exact ⟨rfl, by simp, by simp, rfl⟩
  ·unfold sinP at hp
   split at hp
   ·cases hp
   ·rename_i h0
    obtain ⟨e1, e2, e3, e4⟩ := mem_rowP' hp;refine .inr ⟨?_, ?_⟩
    ·rw [e1]
     exact List.mem_append_left _ (mem_gZ.2 ⟨h0, List.mem_cons_self⟩)
    ·rw [e1]
     exact ⟨(hk.o16 h0).1, (hk.o16 h0).2, e2, e3, e4⟩
 ·split at hp
  ·cases hp
  ·rename_i h0
   have hm : z.getD 17 0 ∈ tabsZ T z := List.mem_append_right _ (mem_gZ.2 ⟨h0, List.mem_cons_self⟩)
   rcases mem_dblP' 32 hp with ⟨k, h1, rfl⟩ | ⟨k, h1, h2, h3⟩
   ·exact .inr ⟨hm, (hk.o17 h0).1, (hk.o17 h0).2, by simp, by simp; omega, by simp⟩
   ·obtain ⟨e1, e2, e3, e4⟩ := mem_rowP' h3
    refine .inr ⟨?_, ?_⟩
    ·rw [e1]
     exact List.mem_append_right _ (mem_gZ.2 ⟨h0, List.mem_cons_of_mem _ (mem_gRow.2 ⟨k, h1, h2, List.mem_cons_self⟩)⟩)
    ·rw [e1]
     exact ⟨(hk.o18 h0 k h1 h2).1, (hk.o18 h0 k h1 h2).2, e2, e3, e4⟩
theorem fol_stood {M i : Int} {im T : Img} {z : List Int} (h : Kept1 M im T i z) (hi : i ≤ M) {p : Pt} (hp : PtIn T i z p) (h0 : p.2.2 ≠ 0) : stoodP M im p = p.2.2 := by
 unfold stoodP
 rcases hp with ⟨e1, e2, e3, e4⟩ | ⟨e1, _, _, e2, e3, e4⟩
 ·rw [if_neg (by omega), e1]
  have key := h.ptr (plZ p.2.1) (by unfold plZ; split; omega; split <;> omega) (by unfold plZ; split; omega; split <;> omega) (by rw [← e4]; exact h0)
  rw [e4, ← key];unfold plZ
  split
  ·rfl
  ·split
   ·rfl
   ·rfl
 ·obtain ⟨t1, t2⟩ := h.tab p.1 e1
  rw [if_pos t1, e4]
  exact t2 _ (by rw [← e4]; exact h0)

set_option maxHeartbeats 2000000 in
set_option maxRecDepth 100000 in
theorem stood_any (ia : Option Addr) (ic : Nat) (im : Img) (M : Int) (a k : Nat) (c : Int) (w : World) (h : ImgAt w ia im) (ha : a < im.length) (hk : if M < (a : Int) then k < 32 else k < 14) :
  Calls Tryz.prog 12 #[.slice ia im.length ic, .int .i64 M, .agg #[.int .i64 a, .int .i64 k, .int .i64 c]] w fun e w' => e = .returned (.int .i64 (stoodP M im ((a : Int), (k : Int), c))) ∧ Chg w w' No := by
 have hzi := zero_inode
 obtain ⟨b, o, hia, hb', hrg⟩ : ∃ b o, ia = some ⟨b, o, none⟩ ∧ b < w.heap.size ∧ ∀ (j : Nat) s, im[j]? = some s → w.rangeAt b (o + j * 128) (s.map (Value.int .u8)) := by
  rcases h.2 with e | e
  ·rw [e] at ha; simp at ha
  ·exact e
 have HR : Hid (∀ W, Chg w W No → W.rangeAt b (o + a * 128) ((secI im (a : Int)).map (Value.int .u8))) := hid (fun W hW j x hx => cell_keep (hrg a _ (getD_at ha) j x hx) hW hb' (fun e => e));have hs := h.secI (a : Int);have HS := hid hs.1;have HRP := hid (fun W => rptrs_c (secI im (a : Int)) hs W);have HRI := hid (fun W => rinode_c (secI im (a : Int)) hs W);subst hia;obtain ⟨z, hz⟩ : ∃ y, y = zI im (a : Int) := ⟨_, rfl⟩
 have hze : (rdIno (zTo (secI im (a : Int)) 18) (secI im (a : Int))).1 = z := by rw [hz]; rfl
 rw [hze] at HRI;have HL : Hid (z.length = 18) := hid (by rw [hz]; exact zI_len _ _);obtain ⟨t, ht⟩ : ∃ y, y = ptrsTo (secI im (a : Int)) 32 := ⟨_, rfl⟩;have HTl : Hid (t.length = 32) := hid (by rw [ht]; exact ptrsTo_len _ _);rw [← ht] at HRP
 have HV : Hid (stoodP M im ((a : Int), (k : Int), c) = if M < (a : Int) then t.getD k 0 else if k = 12 then z.getD 16 0 else if k = 13 then z.getD 17 0 else z.getD (4 + k) 0) := hid (by
  unfold stoodP
  simp only [Int.toNat_natCast, ← hz, ← ht]
  by_cases e : M < (a : Int)
  ·rw [if_pos e, if_pos e]
  ·rw [if_neg e, if_neg e]
   by_cases e1 : k = 12
   ·rw [if_pos (by omega), if_pos e1]
   ·rw [if_neg (by omega), if_neg e1]
    by_cases e2 : k = 13
    ·rw [if_pos (by omega), if_pos e2]
    ·rw [if_neg (by omega), if_neg e2])
 obtain ⟨n, hn⟩ : ∃ y, y = im.length := ⟨_, rfl⟩;rw [← hn] at ha ⊢;obtain ⟨er, her⟩ : ∃ y, y = (rdIno (zTo (secI im (a : Int)) 18) (secI im (a : Int))).2 := ⟨_, rfl⟩;rw [← her] at HRI;obtain ⟨sk, hsk⟩ : ∃ y, y = secI im (a : Int) := ⟨_, rfl⟩;rw [← hsk] at HR HS HRP HRI;obtain ⟨vs, hvs⟩ : ∃ y, y = stoodP M im ((a : Int), (k : Int), c) := ⟨_, rfl⟩;rw [← hvs] at HV ⊢
 have i0 : (0 : Int) ≤ (a : Int) := by omega
 have i1 : (a : Int) < (n : Int) := by omega
 have k0 : (0 : Int) ≤ (k : Int) := by omega
 have hA := Chg.alloc w (.cells #[.int .i64 (a : Int), .int .i64 (k : Int), .int .i64 c] 46) No;have hB := heap_alloc_new w (.cells #[.int .i64 (a : Int), .int .i64 (k : Int), .int .i64 c] 46);clear h hrg hz hze ht hn her hsk hvs hb' hs
 go_enter Tryz.func12, Tryz.ntmps12
 go_upto_region 1 with fail
 obtain ⟨w1, hw1⟩ : ∃ y, y = w.alloc (.cells #[.int .i64 (a : Int), .int .i64 (k : Int), .int .i64 c] 46) := ⟨_, rfl⟩;rw [← hw1] at hA hB ⊢;obtain ⟨g, hg⟩ : ∃ y, y = w.heap.size := ⟨_, rfl⟩;rw [← hg] at hB ⊢;have HA := hid hA
 have HQ : Hid (∀ W', Chg w1 W' No → W'.cell? ⟨g, 0, none⟩ = some (.int .i64 (a : Int)) ∧ W'.cell? ⟨g, 1, none⟩ = some (.int .i64 (k : Int))) := hid (fun W' hW => by
  have h0 := hW.keep hB (fun e => e)
  exact ⟨(cell_of_row _ _ _ _ _ _ h0).trans rfl, (cell_of_row _ _ _ _ _ _ h0).trans rfl⟩)
 obtain ⟨c0, c1⟩ := HQ.out w1 (Chg.refl _ _);clear hw1 hg hB hA
 by_cases hM : M < (a : Int)
 ·rw [if_pos hM] at hk
  have HVe : Hid (vs = t.getD k 0) := hid (by rw [HV.out, if_pos hM]);have hgt : decide ((a : Int) > M) = true := decide_eq_true hM
  have k1 : (k : Int) < 32 := by omega
  have HG : Hid (∀ W, (Instr.index 78 (.agg (NA t)) (.int .i64 (k : Int))).run Tryz.prog W = .ok (.int .i64 vs) W) := hid (fun W => by rw [HVe.out]; exact index_ptr t k HTl.out hk W);clear HV hk
  go_upto_region 2 with fail
  refine wp_region_noPanic ?_;refine wp_region_held_drew (S := fun w' => Chg w1 w' No) (by kernel_rfl) (Chg.refl _ _).drew (fun hH => ?_);obtain ⟨w2, hw2⟩ : ∃ y, y = w1.drew := ⟨_, rfl⟩;rw [← hw2] at hH ⊢;clear hw2 c0 c1;refine tV 0 13 (.slice (some ⟨b, o, none⟩) n ic) rfl (by kernel_rfl) rfl (by rfl) hH (fun W' hw' => rfl) ?_;simp only [sS];refine tV 1 14 (.pointer (some ⟨g, 0, none⟩)) rfl (by kernel_rfl) rfl (by rfl) hH (fun W' hw' => by go_simp) ?_;simp only [sS];refine tV 2 15 (.int .i64 (a : Int)) rfl (by kernel_rfl) rfl (by rfl) hH (fun W' hw' => by have hc := (HQ.out W' hw').1; go_simp) ?_;simp only [sS];refine tV 3 16 (.pointer (some ⟨b, o + a * 128, none⟩)) rfl (by kernel_rfl) rfl (by rfl) hH (fun W' hw' => by go_simp) ?_;simp only [sS];refine takeMid 4 17 (.tmp 16) b (o + a * 128) sk HS.out rfl (by kernel_rfl) (by kernel_rfl) (by kernel_rfl) rfl rfl rfl (by rfl) (fun _ _ _ h => h) hH (fun W' hw' => HR.out W' (HA.out.tr hw')) ?_;simp only [sS];refine tV 6 19 (.pointer (some ⟨g, 1, none⟩)) rfl (by kernel_rfl) rfl (by rfl) hH (fun W' hw' => by go_simp) ?_;simp only [sS];refine tV 7 20 (.int .i64 (k : Int)) rfl (by kernel_rfl) rfl (by rfl) hH (fun W' hw' => by have hc := (HQ.out W' hw').2; go_simp) ?_;simp only [sS];refine step1 5 (by kernel_rfl) ?_;refine stCall 5 18 29 #[.agg (SA sk)] _ rfl rfl (by rfl) (by go_simp) (HRP.out _) ?_
  rintro e w3 ⟨rfl, hc3⟩
  have hH3 : Chg w1 w3 No := hH.tr hc3;refine ⟨_, rfl, hH3, ?_⟩;simp only [sS];refine tV 8 21 (.int .i64 vs) rfl (by kernel_rfl) rfl (by rfl) hH3 (fun W' hw' => by have e := HG.out W'; go_simp) ?_;simp only [sS];refine tV 9 6 (.int .i64 vs) rfl (by kernel_rfl) rfl (by rfl) hH3 (fun W' hw' => rfl) ?_;simp only [sS];refine wpAnyH_done (by kernel_rfl) ?_ _;refine NoPanic.normal ?_
  go_wp2_with fail
  go_ret
  exact ⟨rfl, HA.out.tr hH3⟩
 ·rw [if_neg hM] at hk
  have hgt : decide ((a : Int) > M) = false := decide_eq_false (by omega);have HVe : Hid (vs = if k = 12 then z.getD 16 0 else if k = 13 then z.getD 17 0 else z.getD (4 + k) 0) := hid (by rw [HV.out, if_neg hM]);have HR1 := hid (HR.out w1 HA.out);have hRI := HRI.out w1;clear HV
  go_upto_region 4 with (first
   | (refine load_mid 36 _ rfl b (o + a * 128) rfl _ _ HR1.out Tryz.underlying36 rfl (by rw [sz26, List.length_map, HS.out]) (by rfl) ?_)
   | (go_at_call 10; go_must (refine hRI.mono ?_; rintro e w2 ⟨rfl, hc2⟩))
   | (refine store_R rfl 39 _ _ rfl w2.heap.size (NA z) rfl rfl 39 _ (heap_alloc_new _ _) (by rw [szI, NA_size, HL.out]) (by rw [NA_size, NA_size, HL.out]; rfl) (NA_one _) ?_; intro w3 hw3)
   | fail)
  have h13 : Chg w1 w3 No := (hc2.trans (Chg.alloc w2 _ No) (c := No) (fun _ _ e => e) (fun _ _ e => e)).trans (putR_chg hw3) (fun _ _ e => e) (fun j hj e => by have := hc2.size; omega);have HC3 : Hid (Chg w w3 No) := hid (HA.out.tr h13);obtain ⟨d0, d1⟩ := HQ.out w3 h13;have HG3 := hid hw3.here;obtain ⟨gi, hgi⟩ : ∃ y, y = w2.heap.size := ⟨_, rfl⟩;rw [← hgi] at HG3 ⊢;clear hgi hw3 hc2 h13 hRI HR1 c0 c1 HR HRP HRI hzi
  by_cases e12 : k = 12
  ·subst e12
   have q : w3.cell? ⟨gi, 16, none⟩ = some (.int .i64 vs) := by rw [row_cell HG3.out 16 (by rw [HL.out]; omega), HVe.out, if_pos rfl]
   go_wp2_with fail
   go_ret
   exact ⟨rfl, HC3.out⟩
  ·by_cases e13 : k = 13
   ·subst e13
    have q : w3.cell? ⟨gi, 17, none⟩ = some (.int .i64 vs) := by rw [row_cell HG3.out 17 (by rw [HL.out]; omega), HVe.out, if_neg e12, if_pos rfl]
    go_wp2_with fail
    go_ret
    exact ⟨rfl, HC3.out⟩
   ·have q : w3.cell? ⟨gi, 4 + k, none⟩ = some (.int .i64 vs) := by rw [row_cell HG3.out (4 + k) (by rw [HL.out]; omega), HVe.out, if_neg e12, if_neg e13]
    have f1 : ((k : Int) == 12) = false := by simp; omega
    have f2 : ((k : Int) == 13) = false := by simp; omega
    have f3 : (k : Int) < 12 := by omega
    go_wp2_with fail
    go_ret
    exact ⟨rfl, HC3.out⟩
end Go.Proofs.YtpmignilhoihnabGreat
