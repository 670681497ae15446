/-
 The blocks that are noted are those of the inode that is left.
-/
import Derived.Test.YtpmignilhoihnaaGreatHE6
namespace Go.Proofs.YtpmignilhoihnaaGreat

def gRow (g : Int → List Int) (t : List Int) (k : Nat) : List Int := (List.range k).flatMap fun j => if t.getD j 0 = 0 then [] else g (t.getD j 0)
def gT (im : Img) (g : Int → List Int) (p : Int) : List Int := p :: gRow g (ptrsTo (secI im p) 32) 32
def gZ (g : Int → List Int) (p : Int) : List Int := if p = 0 then [] else g p
end Go.Proofs.YtpmignilhoihnaaGreat

namespace Go.Proofs.YtpmignilhoihnaaGreat

end Go.Proofs.YtpmignilhoihnaaGreat

namespace Go.Proofs.YtpmignilhoihnaaGreat

structure KR (N M : Int) (keep : KeepF) (g : Img → Int → List Int) (G : Img → Int → Int → List (Int × Int)) : Prop where
 run : ∀ s i p, s.wt.length = N → AllSec s.wt → (∀ x ∈ s.sp, s.cl x.2 = true) → (keep s i p).1 = true →
  (∀ q ∈ g (keep s i p).2.wt p, s.cl q = false ∧ (keep s i p).2.cl q = true ∧ (∀ x ∈ (keep s i p).2.sp, x.2 ≠ q) ∧ M < q) ∧ ∀ y ∈ G (keep s i p).2.wt i p, y ∈ (keep s i p).2.sp
 loc : ∀ im im' p, (∀ q ∈ g im p, secI im' q = secI im q) → g im' p = g im p ∧ ∀ i, G im' i p = G im i p
def g0 (_ : Img) (_ : Int) : List Int := []
def G0 (_ : Img) (i p : Int) : List (Int × Int) := [(i, p)]
theorem block_kr (N M cnt : Int) : KR N M (blockF N M cnt) g0 G0 where
 run := fun s i p _ _ _ h => by
  refine ⟨fun q hq => (by cases hq), fun y hy => ?_⟩;unfold blockF at h ⊢
  split
  ·unfold G0 at hy
   exact List.mem_append_right _ hy
  ·rename_i hc
   rw [if_neg hc] at h
   cases h
 loc := fun _ _ _ _ => ⟨rfl, fun _ => rfl⟩
theorem Mo.claimed {s t : TS} (h : Mo s t) (k : ∀ x ∈ s.sp, s.cl x.2 = true) : ∀ x ∈ t.sp, t.cl x.2 = true := fun x hx => by
 obtain ⟨new, e, p, _⟩ := h.sp;rw [e] at hx
 rcases List.mem_append.1 hx with a | a
 ·exact h.cl _ (k x a)
 ·exact (p x a).2.1
theorem Mo.apart {s t : TS} (h : Mo s t) {q : Int} (hq : s.cl q = true) (k : ∀ x ∈ s.sp, x.2 ≠ q) : ∀ x ∈ t.sp, x.2 ≠ q := fun x hx e1 => by
 obtain ⟨new, e, p, _⟩ := h.sp;rw [e] at hx
 rcases List.mem_append.1 hx with a | a
 ·exact k x a e1
 ·have := (p x a).1
  rw [e1, hq] at this
  cases this
theorem Mo.sub {s t : TS} (h : Mo s t) : ∀ x ∈ s.sp, x ∈ t.sp := fun x hx => by
 obtain ⟨new, e, _⟩ := h.sp;rw [e]
 exact List.mem_append_left _ hx
theorem goK_kr {N M : Int} {keep : KeepF} {g : Img → Int → List Int} {G : Img → Int → Int → List (Int × Int)} (hk : Kpr N M keep) (hb : Sb N keep) (hr : KR N M keep g G) (t : List Int) (s : TS) (hs : s.wt.length = N) (ha : AllSec s.wt) (hc : ∀ x ∈ s.sp, s.cl x.2 = true) (K : Nat) (hK : K ≤ t.length) (j : Nat) (hj : j < K) (h : (goK keep t s K).1.getD j 0 ≠ 0) :
  (goK keep t s K).1.getD j 0 = t.getD j 0 ∧ (∀ q ∈ g (goK keep t s K).2.wt (t.getD j 0), s.cl q = false ∧ (goK keep t s K).2.cl q = true ∧ (∀ x ∈ (goK keep t s K).2.sp, x.2 ≠ q) ∧ M < q) ∧ ∀ y ∈ G (goK keep t s K).2.wt j (t.getD j 0), y ∈ (goK keep t s K).2.sp := by
 have hg := goK_get keep t s j K hK;rw [if_pos hj] at hg
 by_cases hb1 : (keep (goK keep t s j).2 j (t.getD j 0)).1 = true
 ·rw [if_pos hb1] at hg
  have m0 := goK_mo hk t s hs j;have m1 : Mo (goK keep t s (j + 1)).2 (goK keep t s K).2 := goK_later hk t s hs (j + 1) K (by omega);have hj1 : (goK keep t s (j + 1)).2 = (keep (goK keep t s j).2 j (t.getD j 0)).2 := rfl;rw [hj1] at m1;obtain ⟨r1, r2⟩ := hr.run (goK keep t s j).2 j (t.getD j 0) (by rw [m0.len]; exact hs) (goK_sb hk hb t s hs ha j).1 (m0.claimed hc) hb1
  generalize (keep (goK keep t s j).2 j (t.getD j 0)).2 = u at *
  obtain ⟨l1, l2⟩ := hr.loc u.wt (goK keep t s K).2.wt (t.getD j 0) (fun q hq => m1.wt q (r1 q hq).2.1);refine ⟨hg, fun q hq => ?_, fun y hy => ?_⟩
  ·rw [l1] at hq
   obtain ⟨a1, a2, a3, a4⟩ := r1 q hq
   exact ⟨m0.off a1, m1.cl q a2, m1.apart a2 a3, a4⟩
  ·rw [l2] at hy
   exact m1.sub y (r2 y hy)
 ·rw [if_neg hb1] at hg
  exact absurd hg h
def gTT (g : Img → Int → List Int) (im : Img) (p : Int) : List Int := gT im (g im) p
def GTT (each : Int) (G : Img → Int → Int → List (Int × Int)) (im : Img) (f p : Int) : List (Int × Int) := tabG im each (G im) f p
theorem mem_gRow {g : Int → List Int} {t : List Int} {K : Nat} {q : Int} : q ∈ gRow g t K ↔ ∃ j, j < K ∧ t.getD j 0 ≠ 0 ∧ q ∈ g (t.getD j 0) := by
 unfold gRow;rw [List.mem_flatMap]
 constructor
 ·rintro ⟨j, hj, h⟩
  split at h
  ·cases h
  ·rename_i h0
   exact ⟨j, List.mem_range.1 hj, h0, h⟩
 ·rintro ⟨j, hj, h0, h⟩
  refine ⟨j, List.mem_range.2 hj, ?_⟩;rw [if_neg h0]
  exact h
theorem mem_rowG {G : Int → Int → List (Int × Int)} {f each : Int} {t : List Int} {K : Nat} {y : Int × Int} : y ∈ rowG G f each t K ↔ ∃ j : Nat, j < K ∧ t.getD j 0 ≠ 0 ∧ y ∈ G (f + each * j) (t.getD j 0) := by
 unfold rowG;rw [List.mem_flatMap]
 constructor
 ·rintro ⟨j, hj, h⟩
  split at h
  ·cases h
  ·rename_i h0
   exact ⟨j, List.mem_range.1 hj, h0, h⟩
 ·rintro ⟨j, hj, h0, h⟩
  refine ⟨j, List.mem_range.2 hj, ?_⟩;rw [if_neg h0]
  exact h
theorem inner_kr {N M each f : Int} {keep : KeepF} {g : Img → Int → List Int} {G : Img → Int → Int → List (Int × Int)} (h : KR N M keep g G) : KR N M (innerF each f keep) g (fun im k p => G im (f + each * k) p) where
 run := fun s i p a b c d => h.run s (f + each * i) p a b c d
 loc := fun im im' p q => ⟨(h.loc im im' p q).1, fun _ => (h.loc im im' p q).2 _⟩
theorem table_kr {N M cnt each : Int} {keep : KeepF} {g : Img → Int → List Int} {G : Img → Int → Int → List (Int × Int)} (hM : 0 ≤ M) (hk : Kpr N M keep) (hb : Sb N keep) (hr : KR N M keep g G) : KR N M (tableF N M cnt each keep) (gTT g) (GTT each G) where
 run := fun s f p hs ha hc h => by
  rcases table_cases (cnt := cnt) (each := each) hM hk s hs f p with ⟨_, e⟩ | ⟨_, _, e⟩ | ⟨hcl, hz, e⟩
  ·rw [e] at h; cases h
  ·rw [e] at h; cases h
  ·rw [e]
   simp only [Bool.and_eq_true] at hcl
   obtain ⟨h1, h2, h3⟩ := claimB_of.1 hcl.2;have hm := gone_mo (each := each) (f := f) hk s hs p;have hback := gone_back each f keep s p (ha p)
   have hc' : ∀ x ∈ (⟨s.wt, putC s.cl p, s.sp⟩ : TS).sp, (⟨s.wt, putC s.cl p, s.sp⟩ : TS).cl x.2 = true := fun x hx => putC_old (hc x hx)
   have key : ∀ j, j < 32 → (gone each f keep s p).1.getD j 0 ≠ 0 → _ := fun j hj h0 => goK_kr (inner_kpr hk) (fun s _ p => hb s _ p) (inner_kr (each := each) (f := f) hr) (ptrsTo (secI s.wt p) 32) ⟨s.wt, putC s.cl p, s.sp⟩ hs ha hc' 32 (by rw [ptrsTo_len]; omega) j hj h0
   have hlen : (gone each f keep s p).2.wt.length = N := by rw [hm.len]; exact hs
   have hge : ∀ j, j < 32 → (gone each f keep s p).1.getD j 0 ≠ 0 → (gone each f keep s p).1.getD j 0 = (ptrsTo (secI s.wt p) 32).getD j 0 := fun j hj h0 => (key j hj h0).1
   have kg : ∀ j, j < 32 → (gone each f keep s p).1.getD j 0 ≠ 0 → ∀ q ∈ g (gone each f keep s p).2.wt ((gone each f keep s p).1.getD j 0), putC s.cl p q = false ∧ (gone each f keep s p).2.cl q = true ∧ (∀ x ∈ (gone each f keep s p).2.sp, x.2 ≠ q) ∧ M < q := fun j hj h0 q hq => by
    rw [hge j hj h0] at hq
    exact (key j hj h0).2.1 q hq
   have kG : ∀ j : Nat, j < 32 → (gone each f keep s p).1.getD j 0 ≠ 0 → ∀ y ∈ G (gone each f keep s p).2.wt (f + each * j) ((gone each f keep s p).1.getD j 0), y ∈ (gone each f keep s p).2.sp := fun j hj h0 y hy => by
    rw [hge j hj h0] at hy
    exact (key j hj h0).2.2 y hy
   clear key hge
   generalize gone each f keep s p = r at *
   have e1 : secI (r.2.wt.set p.toNat (ptrS r.1)) p = ptrS r.1 := secI_set (by omega) (by rw [hlen]; exact h3);have hpt : ∀ x ∈ r.2.sp, x.2 ≠ p := hm.apart (putC_self _ _) (fun x hx e => by have := hc x hx; rw [e, h1] at this; cases this)
   have hl : ∀ j, j < 32 → r.1.getD j 0 ≠ 0 → g (r.2.wt.set p.toNat (ptrS r.1)) (r.1.getD j 0) = g r.2.wt (r.1.getD j 0) ∧ ∀ i, G (r.2.wt.set p.toNat (ptrS r.1)) i (r.1.getD j 0) = G r.2.wt i (r.1.getD j 0) := fun j hj h0 => hr.loc _ _ _ fun q hq => secI_set_ne (by omega) (putC_off.1 (kg j hj h0 q hq).1).1
   refine ⟨fun q hq => ?_, fun y hy => ?_⟩
   ·unfold gTT gT at hq
    simp only [e1, hback] at hq
    rcases List.mem_cons.1 hq with e | hq
    ·rw [e]
     exact ⟨h1, hm.cl p (putC_self _ _), hpt, h2⟩
    ·obtain ⟨j, hj, h0, hq⟩ := mem_gRow.1 hq
     rw [(hl j hj h0).1] at hq;obtain ⟨a1, a2, a3, a4⟩ := kg j hj h0 q hq
     exact ⟨(putC_off.1 a1).2, a2, a3, a4⟩
   ·unfold GTT tabG at hy
    simp only [e1, hback] at hy
    obtain ⟨j, hj, h0, hy⟩ := mem_rowG.1 hy;rw [(hl j hj h0).2] at hy
    exact kG j hj h0 y hy
 loc := fun im im' p h => by
  have hp : secI im' p = secI im p := h p List.mem_cons_self
  have hq : ∀ j, j < 32 → (ptrsTo (secI im p) 32).getD j 0 ≠ 0 → g im' ((ptrsTo (secI im p) 32).getD j 0) = g im ((ptrsTo (secI im p) 32).getD j 0) ∧ ∀ i, G im' i ((ptrsTo (secI im p) 32).getD j 0) = G im i ((ptrsTo (secI im p) 32).getD j 0) := fun j hj h0 =>
   hr.loc _ _ _ fun q hq => h q (List.mem_cons_of_mem _ (mem_gRow.2 ⟨j, hj, h0, hq⟩))
  refine ⟨?_, fun f => ?_⟩
  ·unfold gTT gT
   rw [hp]
   congr 1
   unfold gRow
   refine flatMap_ext fun j hj => ?_
   split
   ·rfl
   ·rename_i h0; rw [(hq j hj h0).1]
  ·unfold GTT tabG
   rw [hp];unfold rowG
   refine flatMap_ext fun j hj => ?_
   split
   ·rfl
   ·rename_i h0; rw [(hq j hj h0).2]
end Go.Proofs.YtpmignilhoihnaaGreat

namespace Go.Proofs.YtpmignilhoihnaaGreat

def tabsZ (im : Img) (z : List Int) : List Int := gZ (gTT g0 im) (z.getD 16 0) ++ gZ (gTT (gTT g0) im) (z.getD 17 0)
theorem mem_gZ {g : Int → List Int} {p q : Int} : q ∈ gZ g p ↔ p ≠ 0 ∧ q ∈ g p := by
 unfold gZ
 by_cases h : p = 0
 ·rw [if_pos h]
  exact ⟨fun e => (by cases e), fun e => absurd h e.1⟩
 ·rw [if_neg h]
  exact ⟨fun e => ⟨h, e⟩, fun e => e.2⟩
theorem single_kr {N M : Int} (hM : 0 ≤ M) (cnt : Int) : KR N M (singleF N M cnt) (gTT g0) (GTT 1 G0) := table_kr hM (block_kpr N M cnt) (block_sb N M cnt) (block_kr N M cnt)
theorem double_kr {N M : Int} (hM : 0 ≤ M) (cnt : Int) : KR N M (doubleF N M cnt) (gTT (gTT g0)) (GTT 32 (GTT 1 G0)) := table_kr hM (table_kpr hM (block_kpr N M cnt)) (table_sb hM (block_kpr N M cnt) (block_sb N M cnt)) (single_kr hM cnt)
theorem tabs_loc {im im' : Img} {z : List Int} (h : ∀ q ∈ tabsZ im z, secI im' q = secI im q) : tabsZ im' z = tabsZ im z ∧ spI im' z = spI im z := by
 have k1 := single_kr (N := 0) (M := 0) (by omega) 0;have k2 := double_kr (N := 0) (M := 0) (by omega) 0
 have a1 : z.getD 16 0 ≠ 0 → gTT g0 im' (z.getD 16 0) = gTT g0 im (z.getD 16 0) ∧ ∀ i, GTT 1 G0 im' i (z.getD 16 0) = GTT 1 G0 im i (z.getD 16 0) := fun h0 => k1.loc _ _ _ fun q hq => h q (List.mem_append_left _ (mem_gZ.2 ⟨h0, hq⟩))
 have a2 : z.getD 17 0 ≠ 0 → gTT (gTT g0) im' (z.getD 17 0) = gTT (gTT g0) im (z.getD 17 0) ∧ ∀ i, GTT 32 (GTT 1 G0) im' i (z.getD 17 0) = GTT 32 (GTT 1 G0) im i (z.getD 17 0) := fun h0 => k2.loc _ _ _ fun q hq => h q (List.mem_append_right _ (mem_gZ.2 ⟨h0, hq⟩))
 constructor
 ·unfold tabsZ gZ
  by_cases h1 : z.getD 16 0 = 0
  ·rw [if_pos h1, if_pos h1]
   by_cases h2 : z.getD 17 0 = 0
   ·rw [if_pos h2, if_pos h2]
   ·rw [if_neg h2, if_neg h2, (a2 h2).1]
  ·rw [if_neg h1, if_neg h1, (a1 h1).1]
   by_cases h2 : z.getD 17 0 = 0
   ·rw [if_pos h2, if_pos h2]
   ·rw [if_neg h2, if_neg h2, (a2 h2).1]
 ·have b1 : z.getD 16 0 ≠ 0 → tabG im' 1 (fun i p => [(i, p)]) 12 (z.getD 16 0) = tabG im 1 (fun i p => [(i, p)]) 12 (z.getD 16 0) := fun h0 => (a1 h0).2 12
  have b2 : z.getD 17 0 ≠ 0 → tabG im' 32 (tabG im' 1 fun i p => [(i, p)]) 44 (z.getD 17 0) = tabG im 32 (tabG im 1 fun i p => [(i, p)]) 44 (z.getD 17 0) := fun h0 => (a2 h0).2 44
  unfold spI
  by_cases h1 : z.getD 16 0 = 0
  ·rw [if_pos h1, if_pos h1]
   by_cases h2 : z.getD 17 0 = 0
   ·rw [if_pos h2, if_pos h2]
   ·rw [if_neg h2, if_neg h2, b2 h2]
  ·rw [if_neg h1, if_neg h1, b1 h1]
   by_cases h2 : z.getD 17 0 = 0
   ·rw [if_pos h2, if_pos h2]
   ·rw [if_neg h2, if_neg h2, b2 h2]
theorem set_drop (z : List Int) (L : Int) : (z.set 1 L).drop 4 = z.drop 4 := by
 rw [List.drop_set_of_lt (by omega)]
theorem tabs_links (im : Img) (z : List Int) (L : Int) : tabsZ im (z.set 1 L) = tabsZ im z ∧ spI im (z.set 1 L) = spI im z := by
 unfold tabsZ spI;rw [getD_set_ne (by omega), getD_set_ne (by omega), set_drop]
 exact ⟨rfl, rfl⟩
theorem leftF_ne {b : Bool} {n : Int} (h : leftF b n ≠ 0) : b = true ∧ leftF b n = n := by
 unfold leftF at *
 cases b with
 | true => exact ⟨rfl, rfl⟩
 | false => exact absurd rfl h
theorem ino_kr {N M : Int} (hM : 0 ≤ M) {z : List Int} (hz : z.length = 18) (wt : Img) (cl : Int → Bool) (hw : wt.length = N) (ha : AllSec wt) :
  (∀ q ∈ tabsZ (dblT N M z wt cl).2.wt (inoT N M z wt cl), cl q = false ∧ (dblT N M z wt cl).2.cl q = true ∧ (∀ x ∈ (dblT N M z wt cl).2.sp, x.2 ≠ q) ∧ M < q) ∧ ∀ y ∈ spI (dblT N M z wt cl).2.wt (inoT N M z wt cl), y ∈ (dblT N M z wt cl).2.sp := by
 have kb := block_kpr N M (cntZ z);have bb := block_sb N M (cntZ z);have ks : Kpr N M (singleF N M (cntZ z)) := table_kpr hM kb;have bs : Sb N (singleF N M (cntZ z)) := table_sb hM kb bb;have md := dir_mo (N := N) (M := M) z wt cl hw;have ms := sin_mo (N := N) (M := M) hM z wt cl hw;have m2 := dbl_mo0 (N := N) (M := M) hM z wt cl hw
 have hc0 : ∀ x ∈ (⟨wt, cl, []⟩ : TS).sp, (⟨wt, cl, []⟩ : TS).cl x.2 = true := fun x hx => (by cases hx)
 have hl12 : ((z.drop 4).take 12).length = 12 := by rw [List.length_take, List.length_drop]; omega
 have hdir : (dirT N M z wt cl).1.length = 12 := by unfold dirT; rw [goK_len]; exact hl12
 have a0 : ∀ j, j < 12 → (dirT N M z wt cl).1.getD j 0 ≠ 0 → _ := fun j hj h0 => goK_kr kb bb (block_kr N M (cntZ z)) ((z.drop 4).take 12) ⟨wt, cl, []⟩ hw ha hc0 12 (by omega) j hj h0
 have hd1 : AllSec (dirT N M z wt cl).2.wt := (goK_sb kb bb ((z.drop 4).take 12) ⟨wt, cl, []⟩ hw ha 12).1;have hs1 : AllSec (sinT N M z wt cl).2.wt := (bs (dirT N M z wt cl).2 12 (z.getD 16 0) (by rw [md.len]; exact hw) hd1).1
 have a1 : (sinT N M z wt cl).1 = true → _ := fun h => (single_kr hM (cntZ z)).run (dirT N M z wt cl).2 12 (z.getD 16 0) (by rw [md.len]; exact hw) hd1 (md.claimed hc0) h
 have a2 : (dblT N M z wt cl).1 = true → _ := fun h => (double_kr hM (cntZ z)).run (sinT N M z wt cl).2 44 (z.getD 17 0) (by rw [ms.len, md.len]; exact hw) hs1 (ms.claimed (md.claimed hc0)) h
 have e16 : (inoT N M z wt cl).getD 16 0 = leftF (sinT N M z wt cl).1 (z.getD 16 0) := by
  unfold inoT;rw [List.getD_eq_getElem?_getD, List.getElem?_append_right (by simp [hdir])]
  simp [hdir]
 have e17 : (inoT N M z wt cl).getD 17 0 = leftF (dblT N M z wt cl).1 (z.getD 17 0) := by
  unfold inoT;rw [List.getD_eq_getElem?_getD, List.getElem?_append_right (by simp [hdir])]
  simp [hdir]
 have eD : ((inoT N M z wt cl).drop 4).take 12 = (dirT N M z wt cl).1 := by
  unfold inoT;rw [List.append_assoc, List.drop_append_of_le_length (by simp)]
  simp [hdir]
 have hS : (sinT N M z wt cl).1 = true → (∀ q ∈ gTT g0 (dblT N M z wt cl).2.wt (z.getD 16 0), cl q = false ∧ (dblT N M z wt cl).2.cl q = true ∧ (∀ x ∈ (dblT N M z wt cl).2.sp, x.2 ≠ q) ∧ M < q) ∧ ∀ y ∈ GTT 1 G0 (dblT N M z wt cl).2.wt 12 (z.getD 16 0), y ∈ (dblT N M z wt cl).2.sp := fun hb => by
  obtain ⟨r1, r2⟩ := a1 hb;have r1 : ∀ q ∈ gTT g0 (sinT N M z wt cl).2.wt (z.getD 16 0), (dirT N M z wt cl).2.cl q = false ∧ (sinT N M z wt cl).2.cl q = true ∧ (∀ x ∈ (sinT N M z wt cl).2.sp, x.2 ≠ q) ∧ M < q := r1;have r2 : ∀ y ∈ GTT 1 G0 (sinT N M z wt cl).2.wt 12 (z.getD 16 0), y ∈ (sinT N M z wt cl).2.sp := r2;obtain ⟨l1, l2⟩ := (single_kr (N := N) hM (cntZ z)).loc (sinT N M z wt cl).2.wt (dblT N M z wt cl).2.wt (z.getD 16 0) (fun q hq => m2.wt q (r1 q hq).2.1);refine ⟨fun q hq => ?_, fun y hy => ?_⟩
  ·rw [l1] at hq
   obtain ⟨b1, b2, b3, b4⟩ := r1 q hq
   exact ⟨md.off b1, m2.cl q b2, m2.apart b2 b3, b4⟩
  ·rw [l2] at hy
   exact m2.sub y (r2 y hy)
 have hD : (dblT N M z wt cl).1 = true → (∀ q ∈ gTT (gTT g0) (dblT N M z wt cl).2.wt (z.getD 17 0), cl q = false ∧ (dblT N M z wt cl).2.cl q = true ∧ (∀ x ∈ (dblT N M z wt cl).2.sp, x.2 ≠ q) ∧ M < q) ∧ ∀ y ∈ GTT 32 (GTT 1 G0) (dblT N M z wt cl).2.wt 44 (z.getD 17 0), y ∈ (dblT N M z wt cl).2.sp := fun hb => by
  obtain ⟨r1, r2⟩ := a2 hb
  exact ⟨fun q hq => ⟨md.off (ms.off (r1 q hq).1), (r1 q hq).2⟩, r2⟩
 refine ⟨fun q hq => ?_, fun y hy => ?_⟩
 ·unfold tabsZ at hq
  rw [e16, e17] at hq
  rcases List.mem_append.1 hq with hq | hq
  ·obtain ⟨h0, hq⟩ := mem_gZ.1 hq
   obtain ⟨hb, he⟩ := leftF_ne h0;rw [he] at hq
   exact (hS hb).1 q hq
  ·obtain ⟨h0, hq⟩ := mem_gZ.1 hq
   obtain ⟨hb, he⟩ := leftF_ne h0;rw [he] at hq
   exact (hD hb).1 q hq
 ·unfold spI at hy
  rw [e16, e17, eD] at hy
  rcases List.mem_append.1 hy with hy | hy
  ·rcases List.mem_append.1 hy with hy | hy
   ·obtain ⟨j, hj, h0, hy⟩ := mem_rowG.1 hy
    obtain ⟨e1, _, r2⟩ := a0 j hj h0;have e1 : (dirT N M z wt cl).1.getD j 0 = ((z.drop 4).take 12).getD j 0 := e1;rw [e1] at hy;have hy : y ∈ (dirT N M z wt cl).2.sp := r2 y (by unfold G0; simpa using hy)
    exact m2.sub y (ms.sub y hy)
   ·split at hy
    ·cases hy
    ·rename_i h0
     obtain ⟨hb, he⟩ := leftF_ne h0;rw [he] at hy
     exact (hS hb).2 y hy
  ·split at hy
   ·cases hy
   ·rename_i h0
    obtain ⟨hb, he⟩ := leftF_ne h0;rw [he] at hy
    exact (hD hb).2 y hy
end Go.Proofs.YtpmignilhoihnaaGreat

namespace Go.Proofs.YtpmignilhoihnaaGreat

structure KZ (M : Int) (im : Img) (s : LS) (rest : List Int) (i : Int) (z : List Int) : Prop where
 ptr : ∀ m, 4 ≤ m → m < 18 → z.getD m 0 = (soundZ M im i).1.getD m 0 ∨ z.getD m 0 = 0
 tab : ∀ q ∈ tabsZ s.wt z, s.cl q = true ∧ s.wp q = false ∧ q ∉ rest ++ s.q.flatten ∧ M < q
 blk : ∀ y ∈ spI s.wt z, s.cl y.2 = true ∧ M < y.2 ∧ (z.getD 0 0 = 2 → secI s.wt y.2 = Zs ∨ secI s.wt y.2 = secI im y.2) ∧
  (z.getD 0 0 ≠ 2 → y.2 ∉ rest ++ s.q.flatten ∧ ∀ b : Nat, b < 128 → 128 * y.1 + b < z.getD 2 0 → (secI s.wt y.2).getD b 0 = (secI im y.2).getD b 0)
def KI (M : Int) (im : Img) (s : LS) (rest : List Int) : Prop := ∀ i z, s.tk i = some z → KZ M im s rest i z
theorem KZ.links {M : Int} {im : Img} {s : LS} {rest : List Int} {i : Int} {z : List Int} (h : KZ M im s rest i z) (L : Int) : KZ M im s rest i (z.set 1 L) := by
 obtain ⟨e1, e2⟩ := tabs_links s.wt z L;refine ⟨fun m h4 h18 => ?_, fun q hq => h.tab q (by rw [e1] at hq; exact hq), fun y hy => ?_⟩
 ·rw [getD_set_ne (by omega)]
  exact h.ptr m h4 h18
 ·rw [e2] at hy
  rw [getD_set_ne (by omega), getD_set_ne (by omega)]
  exact h.blk y hy
theorem KZ.step {M : Int} {im : Img} {s t : LS} {rest rest' : List Int} {i : Int} {z : List Int} (h : KZ M im s rest i z)
  (hcl : ∀ n, s.cl n = true → t.cl n = true) (hwt : ∀ n, s.cl n = true → secI t.wt n = secI s.wt n) (hwp : ∀ n, s.cl n = true → t.wp n = s.wp n)
  (hq : ∀ n, s.cl n = true → n ∈ rest' ++ t.q.flatten → n ∈ rest ++ s.q.flatten) : KZ M im t rest' i z := by
 obtain ⟨e1, e2⟩ := tabs_loc (im := s.wt) (im' := t.wt) (z := z) (fun q hq => hwt q (h.tab q hq).1);refine ⟨h.ptr, fun q hq' => ?_, fun y hy => ?_⟩
 ·rw [e1] at hq'
  obtain ⟨a, b, c, d⟩ := h.tab q hq'
  exact ⟨hcl q a, by rw [hwp q a]; exact b, fun k => c (hq q a k), d⟩
 ·rw [e2] at hy
  obtain ⟨a, b, c, d⟩ := h.blk y hy;rw [hwt y.2 a]
  exact ⟨hcl _ a, b, c, fun k => ⟨fun k2 => (d k).1 (hq _ a k2), (d k).2⟩⟩
theorem nodup_snd {l : List (Int × Int)} (h : (l.map Prod.snd).Nodup) {x y : Int × Int} (hx : x ∈ l) (hy : y ∈ l) (e : x.2 = y.2) : x = y := by
 induction l with
 | nil => cases hx
 | cons a l ih =>
  rw [List.map_cons, List.nodup_cons] at h
  rcases List.mem_cons.1 hx with e1 | h1
  ·rcases List.mem_cons.1 hy with e2 | h2
   ·rw [e1, e2]
   ·exact absurd (List.mem_map.2 ⟨y, h2, by rw [← e, e1]⟩) h.1
  ·rcases List.mem_cons.1 hy with e2 | h2
   ·exact absurd (List.mem_map.2 ⟨x, h1, by rw [e, e2]⟩) h.1
   ·exact ih h.2 h1 h2
theorem lastB_at {size : Int} {sp : List (Int × Int)} {l : Int × Int} (h : lastB size sp = some l) : l.1 = size / 128 := by
 unfold lastB at h
 split at h
 ·split at h
  ·rename_i hc
   cases h
   exact hc.2
  ·cases h
 ·cases h
theorem take_kz {N M : Int} {im : Img} (hM : 0 ≤ M) {i : Int} {s : LS} {rest : List Int} (h : LInv N M im s rest) (hi : (soundZ M im i).2 = true) :
  KZ M im (takeL N M (soundZ M im i).1 s) rest i (inoT N M (soundZ M im i).1 s.wt s.cl) := by
 obtain ⟨_, _, a3, a4, a5, _⟩ := sound_parts hi;obtain ⟨z, hz⟩ : ∃ z, z = (soundZ M im i).1 := ⟨_, rfl⟩;rw [← hz] at a3 a4 a5 ⊢;obtain ⟨r1, r2⟩ := ino_kr (N := N) hM a3 s.wt s.cl h.len h.sec;have hm := dbl_mo (N := N) (M := M) hM z s.wt s.cl h.len;have hok := dblT_ok N M z s.wt s.cl;obtain ⟨new, e, p, d⟩ := hm.sp;have e : (dblT N M z s.wt s.cl).2.sp = new := e;rw [← e] at p d;obtain ⟨e0, e1, e2, e3⟩ := inoT_0 N M z s.wt s.cl
 have hptr : ∀ m, 4 ≤ m → m < 18 → (inoT N M z s.wt s.cl).getD m 0 = z.getD m 0 ∨ (inoT N M z s.wt s.cl).getD m 0 = 0 := fun m h4 h18 => inoT_get a3 _ _ h4 h18
 generalize inoT N M z s.wt s.cl = z' at *
 have hlen : ((dblT N M z s.wt s.cl).2.wt.length : Int) = N := by rw [hm.len]; exact h.len
 generalize hT : (dblT N M z s.wt s.cl).2 = T at *
 have hraw : ∀ n, s.cl n = false → n ∉ rest ++ s.q.flatten := fun n hn k => by
  have := (h.raw n k).1;rw [hn] at this
  cases this
 have hwp : ∀ n, s.cl n = false → s.wp n = false := fun n hn => (h.un n hn).2
 have hblk : ∀ y ∈ T.sp, secI T.wt y.2 = secI im y.2 := fun y hy => by
  obtain ⟨b1, b2, b3⟩ := p y hy
  exact b3.trans (h.un y.2 b1).1
 by_cases hk : z.getD 0 0 = 2
 ·rw [takeL_dir hk, hT]
  refine ⟨fun m h4 h18 => by rw [← hz]; exact hptr m h4 h18, fun q hq => ?_, fun y hy => ?_⟩
  ·obtain ⟨b1, b2, b3, b4⟩ := r1 q hq
   refine ⟨b2, hwp q b1, fun k => ?_, b4⟩;have k : q ∈ rest ++ (s.q ++ [T.sp.map Prod.snd]).flatten := k;rw [List.flatten_append, ← List.append_assoc] at k
   rcases List.mem_append.1 k with k | k
   ·exact hraw q b1 k
   ·simp only [List.flatten_cons, List.flatten_nil, List.append_nil] at k
    obtain ⟨x, hx, hx2⟩ := List.mem_map.1 k
    exact b3 x hx hx2
  ·have hy := r2 y hy
   exact ⟨(p y hy).2.1, (hok y hy).1, fun _ => .inr (hblk y hy), fun k => absurd (e0.trans hk) k⟩
 ·rw [takeL_file hk, hT]
  have hpos : ∀ x ∈ T.sp, 0 < x.2 := fun x hx => by have := (hok x hx).1; omega
  have hwq : ∀ q ∈ tabsZ T.wt z', secI (wipeW (z.getD 2 0) T.sp T.wt) q = secI T.wt q := fun q hq => wipe_ne hpos (r1 q hq).2.2.1
  obtain ⟨l1, l2⟩ := tabs_loc (im := T.wt) (im' := wipeW (z.getD 2 0) T.sp T.wt) (z := z') hwq;refine ⟨fun m h4 h18 => by rw [← hz]; exact hptr m h4 h18, fun q hq => ?_, fun y hy => ?_⟩
  ·have hq : q ∈ tabsZ (wipeW (z.getD 2 0) T.sp T.wt) z' := hq
   rw [l1] at hq;obtain ⟨b1, b2, b3, b4⟩ := r1 q hq
   exact ⟨b2, (wipeP_ne b3).trans (hwp q b1), hraw q b1, b4⟩
  ·have hy : y ∈ spI (wipeW (z.getD 2 0) T.sp T.wt) z' := hy
   rw [l2] at hy;have hy := r2 y hy;refine ⟨(p y hy).2.1, (hok y hy).1, fun k => absurd (e0.symm.trans k) hk, fun _ => ⟨hraw _ (p y hy).1, fun b hb hlt => ?_⟩⟩;rw [e2] at hlt
   show (secI (wipeW (z.getD 2 0) T.sp T.wt) y.2).getD b 0 = _
   unfold wipeW
   split
   ·rename_i l hl
    have hlm := lastB_mem hl
    by_cases hyl : y.2 = l.2
    ·have e5 := nodup_snd d hy hlm hyl
     subst e5;have h1 := lastB_at hl;rw [secI_set (by have := hpos y hy; omega) (by rw [hlen]; exact (hok y hy).2), wip_get _ _ ((by rw [hblk y hy, ← (h.un y.2 (p y hy).1).1]; exact (h.sec y.2).1)), if_neg (by rw [h1] at hlt; omega), hblk y hy]
    ·rw [secI_set_ne (hpos l hlm) hyl, hblk y hy]
   ·rw [hblk y hy]
theorem enter_ki {N M : Int} {im : Img} (hM : 0 ≤ M) {i : Int} {s : LS} {rest : List Int} (h : LInv N M im s rest) (hi : MayE M im s i) (k : KI M im s rest) : KI M im (enterL N M im i s) rest := by
 unfold MayE at hi
 cases ht : s.tk i with
 | some z =>
  rw [enter_some ht]
  intro j y hy
  replace hy : (if j = i then some (moreZ z) else s.tk j) = some y := hy
  have base : ∀ j y, s.tk j = some y → KZ M im { s with tk := putT s.tk i (moreZ z) } rest j y := fun j y hy => (k j y hy).step (fun _ e => e) (fun _ _ => rfl) (fun _ _ => rfl) (fun _ _ e => e)
  by_cases e : j = i
  ·rw [if_pos e] at hy
   subst e;obtain rfl := Option.some.inj hy
   exact (base j z ht).links _
  ·rw [if_neg e] at hy
   exact base j y hy
 | none =>
  rw [ht] at hi
  simp only at hi
  rw [enter_none ht];obtain ⟨m1, ⟨e, q1, q2, q3⟩, _⟩ := take_mo hM (soundZ M im i).1 s h.len;have hz := take_kz (N := N) hM h hi
  intro j y hy
  replace hy : (if j = i then some (moreZ (inoT N M (soundZ M im i).1 s.wt s.cl)) else (takeL N M (soundZ M im i).1 s).tk j) = some y := hy
  by_cases e1 : j = i
  ·rw [if_pos e1] at hy
   subst e1;obtain rfl := Option.some.inj hy;have := hz.links ((inoT N M (soundZ M im j).1 s.wt s.cl).getD 1 0 + 1)
   exact this.step (fun _ e => e) (fun _ _ => rfl) (fun _ _ => rfl) (fun _ _ e => e)
  ·rw [if_neg e1, takeL_tk] at hy
   refine (k j y hy).step (fun n hn => m1.cl n hn) (fun n hn => m1.wt n hn (fun e => e)) (fun n hn => m1.wp n hn) (fun n hn hm => ?_);have hm : n ∈ rest ++ (takeL N M (soundZ M im i).1 s).q.flatten := hm;rw [q1, List.flatten_append, ← List.append_assoc] at hm
   rcases List.mem_append.1 hm with hm | hm
   ·exact hm
   ·have := (q2 n hm).1
    rw [hn] at this
    cases this
theorem KI.next {M : Int} {im : Img} {s : LS} {n : Int} {l : List Int} (h : KI M im s (n :: l)) : KI M im s l := fun i z hz => (h i z hz).step (fun _ e => e) (fun _ _ => rfl) (fun _ _ => rfl) (fun _ _ e => List.mem_cons_of_mem _ e)
theorem slot_ki {N M : Int} {im : Img} (hM : 0 ≤ M) {n : Int} {l : List Int} {r : List ByteArray × LS} (h : LInv N M im r.2 (n :: l)) (k : KI M im r.2 (n :: l)) : KI M im (slotL N M im n r).2 l := by
 obtain ⟨c1, c2, c3, c4⟩ := h.raw n List.mem_cons_self
 by_cases h1 : (slotOf (secI r.2.wt n)).2.2 = 0 ∧ (slotOf (secI r.2.wt n)).1 = 0 ∧ (slotOf (secI r.2.wt n)).2.1.size = 0
 ·rw [slot_empty h1]
  exact k.next
 ·by_cases h2 : (slotOf (secI r.2.wt n)).2.2 = 0 ∧ isEntryB M im r.2 (slotOf (secI r.2.wt n)).1 (hasN r.1 (slotOf (secI r.2.wt n)).2.1) = true
  ·rw [slot_entry h1 h2]
   exact enter_ki hM h.next (mayE_of h2.2) k.next
  ·rw [slot_none h1 h2]
   intro i z hz
   have hz := k i z hz
   have ht : ∀ q ∈ tabsZ r.2.wt z, secI (r.2.wt.set n.toNat Zs) q = secI r.2.wt q := fun q hq => secI_set_ne (by omega) (fun e => (hz.tab q hq).2.2.1 (by rw [e]; exact List.mem_cons_self))
   obtain ⟨l1, l2⟩ := tabs_loc (im := r.2.wt) (im' := r.2.wt.set n.toNat Zs) (z := z) ht;refine ⟨hz.ptr, fun q hq => ?_, fun y hy => ?_⟩
   ·have hq : q ∈ tabsZ (r.2.wt.set n.toNat Zs) z := hq
    rw [l1] at hq;obtain ⟨a, b, c, d⟩ := hz.tab q hq
    exact ⟨a, b, fun e => c (List.mem_cons_of_mem _ e), d⟩
   ·have hy : y ∈ spI (r.2.wt.set n.toNat Zs) z := hy
    rw [l2] at hy;obtain ⟨a, b, c, d⟩ := hz.blk y hy;refine ⟨a, b, fun e0 => ?_, fun e0 => ?_⟩
    ·show secI (r.2.wt.set n.toNat Zs) y.2 = _ ∨ secI (r.2.wt.set n.toNat Zs) y.2 = _
     by_cases e : y.2 = n
     ·rw [e]
      exact .inl (secI_set (by omega) (by have := h.len; omega))
     ·rw [secI_set_ne (by omega) e]
      exact c e0
    ·obtain ⟨d1, d2⟩ := d e0
     refine ⟨fun e => d1 (List.mem_cons_of_mem _ e), ?_⟩
     show ∀ b : Nat, _ → _ → (secI (r.2.wt.set n.toNat Zs) y.2).getD b 0 = _
     rw [secI_set_ne (by omega) (fun e => d1 (by rw [e]; exact List.mem_cons_self))]
     exact d2
end Go.Proofs.YtpmignilhoihnaaGreat

namespace Go.Proofs.YtpmignilhoihnaaGreat

end Go.Proofs.YtpmignilhoihnaaGreat

namespace Go.Proofs.YtpmignilhoihnaaGreat

def KX (N : Int) (keep : KeepF) (G : Img → Int → Int → List (Int × Int)) : Prop := ∀ s i p, s.wt.length = N → AllSec s.wt → (∀ x ∈ s.sp, s.cl x.2 = true) → (keep s i p).1 = true → (keep s i p).2.sp = s.sp ++ G (keep s i p).2.wt i p
theorem block_kx (N M cnt : Int) : KX N (blockF N M cnt) G0 := fun s i p _ _ _ h => by
 unfold blockF at h ⊢
 split
 ·rfl
 ·rename_i hc
  rw [if_neg hc] at h
  cases h
def rowN (G : Int → Int → List (Int × Int)) (t : List Int) (K : Nat) : List (Int × Int) := (List.range K).flatMap fun (k : Nat) => if t.getD k 0 = 0 then [] else G k (t.getD k 0)
theorem goK_kx {N M : Int} {keep : KeepF} {g : Img → Int → List Int} {G : Img → Int → Int → List (Int × Int)} (hM : 0 ≤ M) (hk : Kpr N M keep) (hb : Sb N keep) (hr : KR N M keep g G) (hx : KX N keep G) (t : List Int) (s : TS) (hs : s.wt.length = N) (ha : AllSec s.wt) (hc : ∀ x ∈ s.sp, s.cl x.2 = true) : ∀ K, K ≤ t.length → (goK keep t s K).2.sp = s.sp ++ rowN (G (goK keep t s K).2.wt) (goK keep t s K).1 K
 | 0, _ => by simp [goK, rowN]
 | K + 1, hK => by
  have ih := goK_kx hM hk hb hr hx t s hs ha hc K (by omega);have m0 := goK_mo hk t s hs K
  have hl : (goK keep t s K).2.wt.length = N := by rw [m0.len]; exact hs
  have e2 : (goK keep t s (K + 1)).2 = (keep (goK keep t s K).2 K (t.getD K 0)).2 := rfl
  have hget : ∀ j, j < K → (goK keep t s (K + 1)).1.getD j 0 = (goK keep t s K).1.getD j 0 := fun j hj => by
   rw [goK_get keep t s j (K + 1) hK, goK_get keep t s j K (by omega), if_pos (by omega), if_pos hj]
  have hgK : (goK keep t s (K + 1)).1.getD K 0 = if (keep (goK keep t s K).2 K (t.getD K 0)).1 = true then t.getD K 0 else 0 := by
   rw [goK_get keep t s K (K + 1) hK, if_pos (by omega)]
  have m1 := hk.mo (goK keep t s K).2 K (t.getD K 0) hl
  have hrow : rowN (G (goK keep t s (K + 1)).2.wt) (goK keep t s (K + 1)).1 K = rowN (G (goK keep t s K).2.wt) (goK keep t s K).1 K := by
   unfold rowN
   refine flatMap_ext fun j hj => ?_
   rw [hget j hj]
   split
   ·rfl
   ·rename_i h0
    obtain ⟨k1, k2, _⟩ := goK_kr hk hb hr t s hs ha hc K (by omega) j hj h0;rw [k1];rw [e2]
    exact (hr.loc _ _ _ fun q hq => m1.wt q (k2 q hq).2.1).2 _
  have hsplit : rowN (G (goK keep t s (K + 1)).2.wt) (goK keep t s (K + 1)).1 (K + 1) = rowN (G (goK keep t s (K + 1)).2.wt) (goK keep t s (K + 1)).1 K ++ (if (goK keep t s (K + 1)).1.getD K 0 = 0 then [] else G (goK keep t s (K + 1)).2.wt K ((goK keep t s (K + 1)).1.getD K 0)) := by
   unfold rowN;rw [List.range_succ, List.flatMap_append]
   simp
  rw [hsplit, hrow, hgK, ← List.append_assoc, ← ih, e2]
  by_cases hkp : (keep (goK keep t s K).2 K (t.getD K 0)).1 = true
  ·have hp := (hk.yes _ _ _ hl hkp).2.2.1
   rw [if_pos hkp, if_neg (by omega)]
   exact hx _ _ _ hl (goK_sb hk hb t s hs ha K).1 (m0.claimed hc) hkp
  ·rw [if_neg hkp, if_pos rfl, List.append_nil, hk.no _ _ _ hl (by simpa using hkp)]
theorem table_kx {N M cnt each : Int} {keep : KeepF} {g : Img → Int → List Int} {G : Img → Int → Int → List (Int × Int)} (hM : 0 ≤ M) (hk : Kpr N M keep) (hb : Sb N keep) (hr : KR N M keep g G) (hx : KX N keep G) : KX N (tableF N M cnt each keep) (GTT each G) := fun s f p hs ha hc h => by
 rcases table_cases (cnt := cnt) (each := each) hM hk s hs f p with ⟨_, e⟩ | ⟨_, _, e⟩ | ⟨hcl, hz, e⟩
 ·rw [e] at h; cases h
 ·rw [e] at h; cases h
 ·rw [e]
  simp only [Bool.and_eq_true] at hcl
  obtain ⟨h1, h2, h3⟩ := claimB_of.1 hcl.2;have hm := gone_mo (each := each) (f := f) hk s hs p;have hback := gone_back each f keep s p (ha p)
  have hc' : ∀ x ∈ (⟨s.wt, putC s.cl p, s.sp⟩ : TS).sp, (⟨s.wt, putC s.cl p, s.sp⟩ : TS).cl x.2 = true := fun x hx => putC_old (hc x hx)
  have key : ∀ j, j < 32 → (gone each f keep s p).1.getD j 0 ≠ 0 → _ := fun j hj h0 => goK_kr (inner_kpr hk) (fun s _ p => hb s _ p) (inner_kr (each := each) (f := f) hr) (ptrsTo (secI s.wt p) 32) ⟨s.wt, putC s.cl p, s.sp⟩ hs ha hc' 32 (by rw [ptrsTo_len]; omega) j hj h0
  have hsp : (gone each f keep s p).2.sp = s.sp ++ rowG (G (gone each f keep s p).2.wt) f each (gone each f keep s p).1 32 := by
   have := goK_kx hM (inner_kpr hk) (fun s _ p => hb s _ p) (inner_kr (each := each) (f := f) hr) (fun s i p a b c d => hx s (f + each * i) p a b c d) (ptrsTo (secI s.wt p) 32) ⟨s.wt, putC s.cl p, s.sp⟩ hs ha hc' 32 (by rw [ptrsTo_len]; omega)
   exact this
  have hlen : (gone each f keep s p).2.wt.length = N := by rw [hm.len]; exact hs
  have kg : ∀ j, j < 32 → (gone each f keep s p).1.getD j 0 ≠ 0 → ∀ q ∈ g (gone each f keep s p).2.wt ((gone each f keep s p).1.getD j 0), q ≠ p := fun j hj h0 q hq => by
   have k1 : (gone each f keep s p).1.getD j 0 = (ptrsTo (secI s.wt p) 32).getD j 0 := (key j hj h0).1;rw [k1] at hq;have k2 : putC s.cl p q = false := ((key j hj h0).2.1 q hq).1
   exact (putC_off.1 k2).1
  clear key
  generalize gone each f keep s p = r at *
  have e1 : secI (r.2.wt.set p.toNat (ptrS r.1)) p = ptrS r.1 := secI_set (by omega) (by rw [hlen]; exact h3)
  show r.2.sp = s.sp ++ tabG (r.2.wt.set p.toNat (ptrS r.1)) each (G (r.2.wt.set p.toNat (ptrS r.1))) f p
  rw [hsp]
  congr 1
  unfold tabG;rw [e1, hback];unfold rowG
  refine flatMap_ext fun j hj => ?_
  split
  ·rfl
  ·rename_i h0
   exact ((hr.loc _ _ _ fun q hq => secI_set_ne (by omega) (kg j hj h0 q hq)).2 _).symm
theorem ino_sp {N M : Int} (hM : 0 ≤ M) {z : List Int} (hz : z.length = 18) (wt : Img) (cl : Int → Bool) (hw : wt.length = N) (ha : AllSec wt) : (dblT N M z wt cl).2.sp = spI (dblT N M z wt cl).2.wt (inoT N M z wt cl) := by
 have kb := block_kpr N M (cntZ z);have bb := block_sb N M (cntZ z);have rb := block_kr N M (cntZ z);have xb := block_kx N M (cntZ z);have ks : Kpr N M (singleF N M (cntZ z)) := table_kpr hM kb;have bs : Sb N (singleF N M (cntZ z)) := table_sb hM kb bb;have rs := single_kr (N := N) hM (cntZ z);have xs : KX N (singleF N M (cntZ z)) (GTT 1 G0) := table_kx hM kb bb rb xb;have kd : Kpr N M (doubleF N M (cntZ z)) := table_kpr hM ks;have xd : KX N (doubleF N M (cntZ z)) (GTT 32 (GTT 1 G0)) := table_kx hM ks bs rs xs;have md := dir_mo (N := N) (M := M) z wt cl hw;have ms := sin_mo (N := N) (M := M) hM z wt cl hw;have m2 := dbl_mo0 (N := N) (M := M) hM z wt cl hw
 have hc0 : ∀ x ∈ (⟨wt, cl, []⟩ : TS).sp, (⟨wt, cl, []⟩ : TS).cl x.2 = true := fun x hx => (by cases hx)
 have hl12 : ((z.drop 4).take 12).length = 12 := by rw [List.length_take, List.length_drop]; omega
 have hdir : (dirT N M z wt cl).1.length = 12 := by unfold dirT; rw [goK_len]; exact hl12
 have hd1 : AllSec (dirT N M z wt cl).2.wt := (goK_sb kb bb ((z.drop 4).take 12) ⟨wt, cl, []⟩ hw ha 12).1
 have hdl : (dirT N M z wt cl).2.wt.length = N := by rw [md.len]; exact hw
 have hsl : (sinT N M z wt cl).2.wt.length = N := by rw [ms.len]; exact hdl
 have hs1 : AllSec (sinT N M z wt cl).2.wt := (bs (dirT N M z wt cl).2 12 (z.getD 16 0) hdl hd1).1;have e0 : (dirT N M z wt cl).2.sp = [] ++ rowN (G0 (dirT N M z wt cl).2.wt) (dirT N M z wt cl).1 12 := goK_kx hM kb bb rb xb ((z.drop 4).take 12) ⟨wt, cl, []⟩ hw ha hc0 12 (by omega)
 have e0' : (dirT N M z wt cl).2.sp = rowG (fun i p => [(i, p)]) 0 1 (dirT N M z wt cl).1 12 := by
  rw [e0, List.nil_append];unfold rowN rowG G0
  refine flatMap_ext fun j _ => ?_
  split
  ·rfl
  ·simp
 have hcd := md.claimed hc0;have hcs := ms.claimed hcd
 have e16 : (inoT N M z wt cl).getD 16 0 = leftF (sinT N M z wt cl).1 (z.getD 16 0) := by
  unfold inoT;rw [List.getD_eq_getElem?_getD, List.getElem?_append_right (by simp [hdir])]
  simp [hdir]
 have e17 : (inoT N M z wt cl).getD 17 0 = leftF (dblT N M z wt cl).1 (z.getD 17 0) := by
  unfold inoT;rw [List.getD_eq_getElem?_getD, List.getElem?_append_right (by simp [hdir])]
  simp [hdir]
 have eD : ((inoT N M z wt cl).drop 4).take 12 = (dirT N M z wt cl).1 := by
  unfold inoT;rw [List.append_assoc, List.drop_append_of_le_length (by simp)]
  simp [hdir]
 have hsin : (sinT N M z wt cl).2.sp = (dirT N M z wt cl).2.sp ++ (if leftF (sinT N M z wt cl).1 (z.getD 16 0) = 0 then [] else tabG (dblT N M z wt cl).2.wt 1 (fun i p => [(i, p)]) 12 (leftF (sinT N M z wt cl).1 (z.getD 16 0))) := by
  cases hb : (sinT N M z wt cl).1 with
  | false =>
   have hno : (sinT N M z wt cl).2 = (dirT N M z wt cl).2 := ks.no (dirT N M z wt cl).2 12 (z.getD 16 0) hdl hb;rw [if_pos (show leftF false _ = 0 from rfl), List.append_nil, hno]
  | true =>
   have hy := ks.yes (dirT N M z wt cl).2 12 (z.getD 16 0) hdl hb;have hx : (sinT N M z wt cl).2.sp = (dirT N M z wt cl).2.sp ++ GTT 1 G0 (sinT N M z wt cl).2.wt 12 (z.getD 16 0) := xs (dirT N M z wt cl).2 12 (z.getD 16 0) hdl hd1 hcd hb;have hr := rs.run (dirT N M z wt cl).2 12 (z.getD 16 0) hdl hd1 hcd hb
   have hr1 : ∀ q ∈ gTT g0 (sinT N M z wt cl).2.wt (z.getD 16 0), (sinT N M z wt cl).2.cl q = true := fun q hq => (hr.1 q hq).2.1
   have hl := (rs.loc (sinT N M z wt cl).2.wt (dblT N M z wt cl).2.wt (z.getD 16 0) (fun q hq => m2.wt q (hr1 q hq))).2 12;have h0 : leftF true (z.getD 16 0) = z.getD 16 0 := rfl;rw [h0, if_neg (by omega), hx, ← hl]
   rfl
 have hdbl : (dblT N M z wt cl).2.sp = (sinT N M z wt cl).2.sp ++ (if leftF (dblT N M z wt cl).1 (z.getD 17 0) = 0 then [] else tabG (dblT N M z wt cl).2.wt 32 (tabG (dblT N M z wt cl).2.wt 1 fun i p => [(i, p)]) 44 (leftF (dblT N M z wt cl).1 (z.getD 17 0))) := by
  cases hb : (dblT N M z wt cl).1 with
  | false =>
   have hno : (dblT N M z wt cl).2 = (sinT N M z wt cl).2 := kd.no (sinT N M z wt cl).2 44 (z.getD 17 0) hsl hb;rw [if_pos (show leftF false _ = 0 from rfl), List.append_nil, hno]
  | true =>
   have hy := kd.yes (sinT N M z wt cl).2 44 (z.getD 17 0) hsl hb;have hx : (dblT N M z wt cl).2.sp = (sinT N M z wt cl).2.sp ++ GTT 32 (GTT 1 G0) (dblT N M z wt cl).2.wt 44 (z.getD 17 0) := xd (sinT N M z wt cl).2 44 (z.getD 17 0) hsl hs1 hcs hb;have h0 : leftF true (z.getD 17 0) = z.getD 17 0 := rfl;rw [h0, if_neg (by omega), hx]
   rfl
 unfold spI;rw [e16, e17, eD, hdbl, hsin, e0']
end Go.Proofs.YtpmignilhoihnaaGreat
