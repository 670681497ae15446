/-
 A look over an image that is partly as it should be: it comes to the same.
-/
import Derived.Test.YtpmignilhoihnabGreatH2
namespace Go.Proofs.YtpmignilhoihnabGreat

theorem part_get {z : List Int} (_ : z.length = 18) {j : Nat} (hj : j < 12) : ((z.drop 4).take 12).getD j 0 = z.getD (4 + j) 0 := by
 rw [List.getD_eq_getElem?_getD, List.getD_eq_getElem?_getD, List.getElem?_take_of_lt hj, List.getElem?_drop]
theorem part_len {z : List Int} (hz : z.length = 18) : ((z.drop 4).take 12).length = 12 := by simp [hz]
theorem dir_mo {N M : Int} (z : List Int) (wt : Img) (cl : Int → Bool) (hw : wt.length = N) : Mo ⟨wt, cl, []⟩ (dirT N M z wt cl).2 :=
 goK_mo (block_kpr N M (cntZ z)) ((z.drop 4).take 12) ⟨wt, cl, []⟩ hw 12
theorem sin_mo {N M : Int} (hM : 0 ≤ M) (z : List Int) (wt : Img) (cl : Int → Bool) (hw : wt.length = N) : Mo (dirT N M z wt cl).2 (sinT N M z wt cl).2 :=
 (table_kpr hM (block_kpr N M (cntZ z))).mo (dirT N M z wt cl).2 12 (z.getD 16 0) (by rw [(dir_mo z wt cl hw).len]; exact hw)
theorem dbl_mo0 {N M : Int} (hM : 0 ≤ M) (z : List Int) (wt : Img) (cl : Int → Bool) (hw : wt.length = N) : Mo (sinT N M z wt cl).2 (dblT N M z wt cl).2 :=
 (table_kpr hM (table_kpr hM (block_kpr N M (cntZ z)))).mo (sinT N M z wt cl).2 44 (z.getD 17 0) (by rw [(sin_mo hM z wt cl hw).len, (dir_mo z wt cl hw).len]; exact hw)
theorem dbl_mo {N M : Int} (hM : 0 ≤ M) (z : List Int) (wt : Img) (cl : Int → Bool) (hw : wt.length = N) : Mo ⟨wt, cl, []⟩ (dblT N M z wt cl).2 :=
 ((dir_mo z wt cl hw).trans (sin_mo hM z wt cl hw)).trans (dbl_mo0 hM z wt cl hw)
theorem dirT_len {N M : Int} {z : List Int} (hz : z.length = 18) (wt : Img) (cl : Int → Bool) : (dirT N M z wt cl).1.length = 12 := by
 unfold dirT;rw [goK_len, part_len hz]
theorem inoT_dir {N M : Int} {z : List Int} (hz : z.length = 18) (wt : Img) (cl : Int → Bool) {j : Nat} (hj : j < 12) : (inoT N M z wt cl).getD (4 + j) 0 = (dirT N M z wt cl).1.getD j 0 := by
 have hl := dirT_len (N := N) (M := M) hz wt cl;unfold inoT
 generalize (dirT N M z wt cl).1 = D at *
 rw [List.getD_eq_getElem?_getD, List.getD_eq_getElem?_getD, List.getElem?_append_left (by simp; omega), List.getElem?_append_right (by simp)]
 simp
theorem inoT_sin {N M : Int} {z : List Int} (hz : z.length = 18) (wt : Img) (cl : Int → Bool) : (inoT N M z wt cl).getD 16 0 = leftF (sinT N M z wt cl).1 (z.getD 16 0) := by
 have hl := dirT_len (N := N) (M := M) hz wt cl;unfold inoT
 generalize (dirT N M z wt cl).1 = D at *
 rw [List.getD_eq_getElem?_getD, List.getElem?_append_right (by simp; omega)]
 simp [hl]
theorem inoT_dbl {N M : Int} {z : List Int} (hz : z.length = 18) (wt : Img) (cl : Int → Bool) : (inoT N M z wt cl).getD 17 0 = leftF (dblT N M z wt cl).1 (z.getD 17 0) := by
 have hl := dirT_len (N := N) (M := M) hz wt cl;unfold inoT
 generalize (dirT N M z wt cl).1 = D at *
 rw [List.getD_eq_getElem?_getD, List.getElem?_append_right (by simp; omega)]
 simp [hl]
theorem ino_lk {full : Prop} {N M : Int} {im J : Img} (hM : 0 ≤ M) (hsec : ∀ n, M < n → n < N → IsSec (secI im n)) (hsub : ¬ full → ∀ n, M < n → n < N → SubI im J n) {z y : List Int} (hz : z.length = 18) (hy : y.length = 18) (h0 : y.getD 0 0 = z.getD 0 0) (h2 : y.getD 2 0 = z.getD 2 0) (h3 : y.getD 3 0 = z.getD 3 0)
  {wt wt' : Img} {cl cl' : Int → Bool} (hw : wt.length = N) (h : TR im J ⟨wt, cl, []⟩ ⟨wt', cl', []⟩)
  (hp : ∀ m, 4 ≤ m → m < 18 → y.getD m 0 = (inoT N M z wt cl).getD m 0 ∨ (¬ full ∧ y.getD m 0 = z.getD m 0)) (hf : FinT full N M im J ⟨wt, cl, []⟩ (dblT N M z wt cl).2) :
  inoT N M y wt' cl' = inoT N M z wt cl ∧ TR im J (dblT N M z wt cl).2 (dblT N M y wt' cl').2 := by
 have hc : cntZ y = cntZ z := by unfold cntZ; rw [h2]
 have hb : Lk full N M im J (blockF N M (cntZ z)) := block_lk hM;have kb := block_kpr N M (cntZ z);have hs : Lk full N M im J (singleF N M (cntZ z)) := table_lk hM kb hb hsec hsub;have ks : Kpr N M (singleF N M (cntZ z)) := table_kpr hM kb;have hd : Lk full N M im J (doubleF N M (cntZ z)) := table_lk hM ks hs hsec hsub;have md := dir_mo (N := N) (M := M) z wt cl hw;have ms := sin_mo (N := N) (M := M) hM z wt cl hw;have mq := dbl_mo0 (N := N) (M := M) hM z wt cl hw;have f1 : FinT full N M im J ⟨wt, cl, []⟩ (dirT N M z wt cl).2 := hf.sub (Mo.refl _) (ms.trans mq);have f2 : FinT full N M im J (dirT N M z wt cl).2 (sinT N M z wt cl).2 := hf.sub md mq;have f3 : FinT full N M im J (sinT N M z wt cl).2 (dblT N M z wt cl).2 := hf.sub (md.trans ms) (Mo.refl _)
 have s1 := goK_same (full := full) kb hb ((z.drop 4).take 12) ((y.drop 4).take 12) 12 (part_len hz) (part_len hy) ⟨wt, cl, []⟩ ⟨wt', cl', []⟩ hw h (fun j hj => by
  rw [part_get hy hj, part_get hz hj];have := hp (4 + j) (by omega) (by omega);rw [inoT_dir hz wt cl hj] at this
  exact this) f1
 have e1 : (dirT N M y wt' cl').1 = (dirT N M z wt cl).1 ∧ TR im J (dirT N M z wt cl).2 (dirT N M y wt' cl').2 := by
  have : dirT N M y wt' cl' = goK (blockF N M (cntZ z)) ((y.drop 4).take 12) ⟨wt', cl', []⟩ 12 := by unfold dirT; rw [hc]
  rw [this]
  exact s1
 have e2 : (sinT N M y wt' cl').1 = (sinT N M z wt cl).1 ∧ TR im J (sinT N M z wt cl).2 (sinT N M y wt' cl').2 := by
  have : sinT N M y wt' cl' = singleF N M (cntZ z) (dirT N M y wt' cl').2 12 (y.getD 16 0) := by unfold sinT; rw [hc]
  rw [this];refine hs _ _ 12 (z.getD 16 0) (y.getD 16 0) (by rw [md.len]; exact hw) e1.2 ?_ f2;have := hp 16 (by omega) (by omega);rw [inoT_sin hz] at this
  exact this
 have e3 : (dblT N M y wt' cl').1 = (dblT N M z wt cl).1 ∧ TR im J (dblT N M z wt cl).2 (dblT N M y wt' cl').2 := by
  have : dblT N M y wt' cl' = doubleF N M (cntZ z) (sinT N M y wt' cl').2 44 (y.getD 17 0) := by unfold dblT; rw [hc]
  rw [this];refine hd _ _ 44 (z.getD 17 0) (y.getD 17 0) (by rw [ms.len, md.len]; exact hw) e2.2 ?_ f3;have := hp 17 (by omega) (by omega);rw [inoT_dbl hz] at this
  exact this
 refine ⟨?_, e3.2⟩
 have lf : ∀ (b : Bool) (p q r : Int), (p = leftF b q ∨ (¬ full ∧ p = q)) → leftF b p = leftF b q := by
  intro b p q r hpq
  cases b with
  | false => rfl
  | true =>
   rcases hpq with e | e
   ·exact e
   ·exact e.2
 have l16 := hp 16 (by omega) (by omega);rw [inoT_sin hz] at l16;have l17 := hp 17 (by omega) (by omega);rw [inoT_dbl hz] at l17;have q16 := lf _ _ _ 0 l16;have q17 := lf _ _ _ 0 l17;unfold inoT;rw [e1.1, e2.1, e3.1, h0, h2, h3, q16, q17]
end Go.Proofs.YtpmignilhoihnabGreat

namespace Go.Proofs.YtpmignilhoihnabGreat

def SubP (a b : List Int) : Prop := ∀ k, (ptrsTo b 32).getD k 0 = (ptrsTo a 32).getD k 0 ∨ (ptrsTo b 32).getD k 0 = 0
theorem SubP.refl (a : List Int) : SubP a a := fun _ => .inl rfl
theorem SubP.trans {a b c : List Int} (h : SubP a b) (k : SubP b c) : SubP a c := fun j => by
 rcases k j with e | e
 ·rcases h j with e1 | e1
  ·exact .inl (e.trans e1)
  ·exact .inr (e.trans e1)
 ·exact .inr e
def AllSec (wt : Img) : Prop := ∀ n, IsSec (secI wt n)
theorem secI_set_cases (wt : Img) (p n : Int) (x : List Int) : (n.toNat = p.toNat ∧ secI (wt.set p.toNat x) n = x) ∨ secI (wt.set p.toNat x) n = secI wt n := by
 unfold secI;rw [List.getD_eq_getElem?_getD, List.getD_eq_getElem?_getD, List.getElem?_set]
 by_cases e : p.toNat = n.toNat
 ·rw [if_pos e]
  by_cases e2 : p.toNat < wt.length
  ·rw [if_pos e2]; exact .inl ⟨e.symm, rfl⟩
  ·rw [if_neg e2, List.getElem?_eq_none (by omega)]; exact .inr rfl
 ·rw [if_neg e]; exact .inr rfl
theorem AllSec.set {wt : Img} (h : AllSec wt) (p : Int) {x : List Int} (hx : IsSec x) : AllSec (wt.set p.toNat x) := fun n => by
 rcases secI_set_cases wt p n x with e | e
 ·rw [e.2]; exact hx
 ·rw [e]; exact h n
def Sb (N : Int) (keep : KeepF) : Prop := ∀ s i p, s.wt.length = N → AllSec s.wt → AllSec (keep s i p).2.wt ∧ ∀ n, SubP (secI s.wt n) (secI (keep s i p).2.wt n)
theorem block_sb (N M cnt : Int) : Sb N (blockF N M cnt) := fun s i p _ h => by
 unfold blockF
 split
 ·exact ⟨h, fun n => SubP.refl _⟩
 ·exact ⟨h, fun n => SubP.refl _⟩
theorem goK_sb {N M : Int} {keep : KeepF} (hk : Kpr N M keep) (hb : Sb N keep) (t : List Int) (s : TS) (hs : s.wt.length = N) (h : AllSec s.wt) : ∀ k, AllSec (goK keep t s k).2.wt ∧ ∀ n, SubP (secI s.wt n) (secI (goK keep t s k).2.wt n)
 | 0 => ⟨h, fun n => SubP.refl _⟩
 | k + 1 => by
  obtain ⟨h1, h2⟩ := goK_sb hk hb t s hs h k;obtain ⟨h3, h4⟩ := hb (goK keep t s k).2 k (t.getD k 0) (by rw [(goK_mo hk t s hs k).len]; exact hs) h1
  exact ⟨h3, fun n => (h2 n).trans (h4 n)⟩
theorem secI_nat {wt : Img} {n p : Int} (h : n.toNat = p.toNat) : secI wt n = secI wt p := by unfold secI; rw [h]
theorem table_sb {N M cnt each : Int} {keep : KeepF} (hM : 0 ≤ M) (hk : Kpr N M keep) (hb : Sb N keep) : Sb N (tableF N M cnt each keep) := fun s f p hs h => by
 rcases table_cases (cnt := cnt) (each := each) hM hk s hs f p with ⟨_, e⟩ | ⟨_, _, e⟩ | ⟨_, _, e⟩
 ·rw [e]; exact ⟨h, fun n => SubP.refl _⟩
 ·rw [e]; exact ⟨h, fun n => SubP.refl _⟩
 ·rw [e]
  have hg : AllSec (gone each f keep s p).2.wt ∧ ∀ n, SubP (secI s.wt n) (secI (gone each f keep s p).2.wt n) := goK_sb (inner_kpr hk) (fun s _ p => hb s _ p) (ptrsTo (secI s.wt p) 32) ⟨s.wt, putC s.cl p, s.sp⟩ hs h 32;refine ⟨hg.1.set p (ptrS_sec _), fun n => ?_⟩
  rcases secI_set_cases (gone each f keep s p).2.wt p n (ptrS (gone each f keep s p).1) with k | k
  ·show SubP _ (secI ((gone each f keep s p).2.wt.set p.toNat (ptrS (gone each f keep s p).1)) n)
   rw [k.2, secI_nat k.1]
   intro j
   rw [gone_back each f keep s p (h p)]
   by_cases hj : j < 32
   ·exact gone_get each f keep s p j hj
   ·right
    rw [List.getD_eq_getElem?_getD, List.getElem?_eq_none (by rw [gone_len]; omega)]
    rfl
  ·show SubP _ (secI ((gone each f keep s p).2.wt.set p.toNat (ptrS (gone each f keep s p).1)) n)
   rw [k]
   exact hg.2 n
theorem dbl_sb {N M : Int} (hM : 0 ≤ M) (z : List Int) (wt : Img) (cl : Int → Bool) (hw : wt.length = N) (h : AllSec wt) : AllSec (dblT N M z wt cl).2.wt ∧ ∀ n, SubP (secI wt n) (secI (dblT N M z wt cl).2.wt n) := by
 have kb := block_kpr N M (cntZ z);have bb := block_sb N M (cntZ z);have ks : Kpr N M (singleF N M (cntZ z)) := table_kpr hM kb;have bs : Sb N (singleF N M (cntZ z)) := table_sb hM kb bb;have bd : Sb N (doubleF N M (cntZ z)) := table_sb hM ks bs;have md := dir_mo (N := N) (M := M) z wt cl hw;have ms := sin_mo (N := N) (M := M) hM z wt cl hw;obtain ⟨a1, a2⟩ : AllSec (dirT N M z wt cl).2.wt ∧ ∀ n, SubP (secI wt n) (secI (dirT N M z wt cl).2.wt n) := goK_sb kb bb ((z.drop 4).take 12) ⟨wt, cl, []⟩ hw h 12;obtain ⟨b1, b2⟩ : AllSec (sinT N M z wt cl).2.wt ∧ ∀ n, SubP (secI (dirT N M z wt cl).2.wt n) (secI (sinT N M z wt cl).2.wt n) := bs (dirT N M z wt cl).2 12 (z.getD 16 0) (by rw [md.len]; exact hw) a1;obtain ⟨c1, c2⟩ : AllSec (dblT N M z wt cl).2.wt ∧ ∀ n, SubP (secI (sinT N M z wt cl).2.wt n) (secI (dblT N M z wt cl).2.wt n) := bd (sinT N M z wt cl).2 44 (z.getD 17 0) (by rw [ms.len, md.len]; exact hw) b1
 exact ⟨c1, fun n => ((a2 n).trans (b2 n)).trans (c2 n)⟩

structure MoL (D : Int → Prop) (s t : LS) : Prop where
 len : t.wt.length = s.wt.length
 cl : ∀ n, s.cl n = true → t.cl n = true
 wt : ∀ n, s.cl n = true → ¬ D n → secI t.wt n = secI s.wt n
 wp : ∀ n, s.cl n = true → t.wp n = s.wp n
 tk : ∀ i z, s.tk i = some z → ∃ L, t.tk i = some (z.set 1 L)
theorem set_self (z : List Int) : ∃ L, z = z.set 1 L := ⟨z.getD 1 0, by
 refine List.ext_getElem? fun k => ?_
 rw [List.getElem?_set]
 split
 ·rename_i e
  subst e
  split
  ·rename_i h
   rw [List.getD_eq_getElem?_getD, List.getElem?_eq_getElem h]
   rfl
  ·rename_i h
   exact List.getElem?_eq_none (by omega)
 ·rfl⟩
theorem MoL.refl (s : LS) (D : Int → Prop) : MoL D s s := ⟨rfl, fun _ h => h, fun _ _ _ => rfl, fun _ _ => rfl, fun i z h => by
 obtain ⟨L, e⟩ := set_self z
 exact ⟨L, by rw [← e]; exact h⟩⟩
theorem MoL.trans {D E F : Int → Prop} {a b c : LS} (h : MoL D a b) (k : MoL E b c) (hD : ∀ n, D n → F n) (hE : ∀ n, a.cl n = true → E n → F n) : MoL F a c := by
 refine ⟨k.len.trans h.len, fun n hn => k.cl n (h.cl n hn), fun n hn hf => ?_, fun n hn => (k.wp n (h.cl n hn)).trans (h.wp n hn), fun i z hz => ?_⟩
 ·rw [k.wt n (h.cl n hn) (fun e => hf (hE n hn e))]
  exact h.wt n hn (fun e => hf (hD n e))
 ·obtain ⟨L, e⟩ := h.tk i z hz
  obtain ⟨L', e'⟩ := k.tk i _ e;rw [List.set_set] at e'
  exact ⟨L', e'⟩
def MoQ (N M : Int) (s t : LS) : Prop := ∃ e : List (List Int), t.q = s.q ++ e ∧ (∀ n ∈ e.flatten, s.cl n = false ∧ t.cl n = true ∧ secI t.wt n = secI s.wt n ∧ M < n ∧ n < N) ∧ e.flatten.Nodup
theorem lastB_mem {size : Int} {sp : List (Int × Int)} {l : Int × Int} (h : lastB size sp = some l) : l ∈ sp := by
 unfold lastB at h
 split at h
 ·rename_i l' hq
  split at h
  ·cases h
   exact List.mem_of_getLast? hq
  ·cases h
 ·cases h
theorem wipe_ne {size : Int} {sp : List (Int × Int)} {wt : Img} {n : Int} (hpos : ∀ x ∈ sp, 0 < x.2) (h : ∀ x ∈ sp, x.2 ≠ n) : secI (wipeW size sp wt) n = secI wt n := by
 unfold wipeW
 split
 ·rename_i l hl
  have hm := lastB_mem hl
  exact secI_set_ne (hpos l hm) (fun e => h l hm e.symm)
 ·rfl
theorem wipeP_ne {size : Int} {sp : List (Int × Int)} {wp : Int → Bool} {n : Int} (h : ∀ x ∈ sp, x.2 ≠ n) : wipeP size sp wp n = wp n := by
 unfold wipeP
 cases hl : lastB size sp with
 | none => rfl
 | some l =>
  have hm := lastB_mem hl
  have : n ≠ l.2 := fun e => h l hm e.symm
  simp [putC, this]
theorem wipe_len (size : Int) (sp : List (Int × Int)) (wt : Img) : (wipeW size sp wt).length = wt.length := by
 unfold wipeW
 split
 ·simp
 ·rfl
theorem takeL_dir {N M : Int} {z : List Int} {s : LS} (h : z.getD 0 0 = 2) : takeL N M z s = ⟨(dblT N M z s.wt s.cl).2.wt, (dblT N M z s.wt s.cl).2.cl, s.wp, s.tk, s.q ++ [(dblT N M z s.wt s.cl).2.sp.map Prod.snd]⟩ := by
 unfold takeL
 simp only
 rw [if_pos h]
theorem takeL_file {N M : Int} {z : List Int} {s : LS} (h : z.getD 0 0 ≠ 2) : takeL N M z s = ⟨wipeW (z.getD 2 0) (dblT N M z s.wt s.cl).2.sp (dblT N M z s.wt s.cl).2.wt, (dblT N M z s.wt s.cl).2.cl, wipeP (z.getD 2 0) (dblT N M z s.wt s.cl).2.sp s.wp, s.tk, s.q⟩ := by
 unfold takeL
 simp only
 rw [if_neg h]
theorem take_mo {N M : Int} (hM : 0 ≤ M) (z : List Int) (s : LS) (hw : s.wt.length = N) : MoL (fun _ => False) s (takeL N M z s) ∧ MoQ N M s (takeL N M z s) ∧
  (∀ n, (takeL N M z s).cl n = false → s.cl n = false ∧ secI (takeL N M z s).wt n = secI s.wt n ∧ (takeL N M z s).wp n = s.wp n) := by
 have hm := dbl_mo (N := N) (M := M) hM z s.wt s.cl hw;have hok := dblT_ok N M z s.wt s.cl;obtain ⟨new, e, p, d⟩ := hm.sp;have e : (dblT N M z s.wt s.cl).2.sp = new := e;rw [← e] at p d
 generalize hT : (dblT N M z s.wt s.cl).2 = T at *
 have hpos : ∀ x ∈ T.sp, 0 < x.2 := fun x hx => by have := (hok x hx).1; omega
 have hne : ∀ n, s.cl n = true → ∀ x ∈ T.sp, x.2 ≠ n := fun n hn x hx e1 => by
  have := (p x hx).1;rw [e1] at this;have hn' : s.cl n = false := this;rw [hn] at hn'
  cases hn'
 have hne2 : ∀ n, T.cl n = false → ∀ x ∈ T.sp, x.2 ≠ n := fun n hn x hx e1 => by
  have := (p x hx).2.1;rw [e1, hn] at this
  cases this
 by_cases hk : z.getD 0 0 = 2
 ·rw [takeL_dir hk, hT]
  refine ⟨⟨hm.len, hm.cl, fun n hn _ => hm.wt n hn, fun _ _ => rfl, fun i z h => ?_⟩, ⟨[T.sp.map Prod.snd], rfl, fun n hn => ?_, by simpa using d⟩, fun n hn => ⟨hm.off hn, hm.un n hn, rfl⟩⟩
  ·obtain ⟨L, e⟩ := set_self z
   exact ⟨L, by rw [← e]; exact h⟩
  ·simp only [List.flatten_cons, List.flatten_nil, List.append_nil] at hn
   obtain ⟨x, hx, rfl⟩ := List.mem_map.1 hn
   exact ⟨(p x hx).1, (p x hx).2.1, (p x hx).2.2, (hok x hx).1, (hok x hx).2⟩
 ·rw [takeL_file hk, hT]
  refine ⟨⟨by rw [wipe_len]; exact hm.len, hm.cl, fun n hn _ => ?_, fun n hn => ?_, fun i z h => ?_⟩, ⟨[], by simp, by simp, by simp⟩, fun n hn => ⟨hm.off hn, ?_, ?_⟩⟩
  ·show secI (wipeW _ _ _) n = _
   rw [wipe_ne hpos (hne n hn)]
   exact hm.wt n hn
  ·exact wipeP_ne (hne n hn)
  ·obtain ⟨L, e⟩ := set_self z
   exact ⟨L, by rw [← e]; exact h⟩
  ·show secI (wipeW _ _ _) n = _
   rw [wipe_ne hpos (hne2 n hn)]
   exact hm.un n hn
  ·exact wipeP_ne (hne2 n hn)
end Go.Proofs.YtpmignilhoihnabGreat

namespace Go.Proofs.YtpmignilhoihnabGreat

structure LInv (N M : Int) (im : Img) (s : LS) (rest : List Int) : Prop where
 len : s.wt.length = N
 un : ∀ n, s.cl n = false → secI s.wt n = secI im n ∧ s.wp n = false
 raw : ∀ n ∈ rest ++ s.q.flatten, s.cl n = true ∧ secI s.wt n = secI im n ∧ M < n ∧ n < N
 nod : (rest ++ s.q.flatten).Nodup
 sec : AllSec s.wt
 sub : ∀ n, s.wp n = false → SubP (secI im n) (secI s.wt n)
 tk : ∀ i z, s.tk i = some z → (soundZ M im i).2 = true ∧ z.length = 18 ∧ inoB z = true ∧ z.getD 0 0 = (soundZ M im i).1.getD 0 0 ∧ z.getD 2 0 = (soundZ M im i).1.getD 2 0 ∧ z.getD 3 0 = (soundZ M im i).1.getD 3 0
theorem getD_set_ne {z : List Int} {m k : Nat} {x : Int} (h : k ≠ m) : (z.set k x).getD m 0 = z.getD m 0 := by
 rw [List.getD_eq_getElem?_getD, List.getElem?_set_ne h, ← List.getD_eq_getElem?_getD]
theorem getD_set_eq {z : List Int} {m : Nat} {x : Int} (h : m < z.length) : (z.set m x).getD m 0 = x := by
 rw [List.getD_eq_getElem?_getD, List.getElem?_set_self h]
 rfl
theorem inoB_of {z : List Int} (h0 : z.getD 0 0 ≠ 0) (h : ∀ m, m < 18 → 0 ≤ z.getD m 0 ∧ z.getD m 0 ≤ most.getD m 0) (h2 : z.getD 0 0 = 2 → z.getD 2 0 % 128 = 0) : inoB z = true := by
 unfold inoB;rw [if_neg h0, allB_true h, Bool.true_and]
 by_cases e : z.getD 0 0 = 2
 ·rw [h2 e, Bool.or_eq_true]; exact .inr rfl
 ·rw [Bool.or_eq_true]; exact .inl (bne_iff_ne.2 e)
theorem inoB_parts {z : List Int} (h0 : z.getD 0 0 ≠ 0) (h : inoB z = true) : (∀ m, m < 18 → 0 ≤ z.getD m 0 ∧ z.getD m 0 ≤ most.getD m 0) ∧ (z.getD 0 0 = 2 → z.getD 2 0 % 128 = 0) := by
 unfold inoB at h;rw [if_neg h0, Bool.and_eq_true] at h;refine ⟨fun m hm => allB_of h.1 m hm, fun e => ?_⟩;have := h.2;rw [e] at this
 simpa using this
theorem sound_parts {M : Int} {im : Img} {i : Int} (h : (soundZ M im i).2 = true) : 1 ≤ i ∧ i ≤ M ∧ (soundZ M im i).1.length = 18 ∧ (soundZ M im i).1.getD 0 0 ≠ 0 ∧ inoB (soundZ M im i).1 = true ∧ inoS (soundZ M im i).1 = secI im i := by
 unfold soundZ at *
 by_cases hi : 1 ≤ i ∧ i ≤ M
 ·rw [if_pos hi] at h ⊢
  simp only [Bool.and_eq_true, decide_eq_true_eq] at h
  refine ⟨hi.1, hi.2, ?_⟩;unfold rdIno at h ⊢
  by_cases hc : inoB (zTo (secI im i) 18) = true ∧ inoS (zTo (secI im i) 18) = secI im i
  ·rw [if_pos hc] at h ⊢
   exact ⟨zTo_len _ _, h.2, hc.1, hc.2⟩
  ·rw [if_neg hc] at h
   have := h.1
   simp at this
 ·rw [if_neg hi] at h
  cases h
theorem inoT_get {N M : Int} {z : List Int} (hz : z.length = 18) (wt : Img) (cl : Int → Bool) {m : Nat} (h4 : 4 ≤ m) (h18 : m < 18) : (inoT N M z wt cl).getD m 0 = z.getD m 0 ∨ (inoT N M z wt cl).getD m 0 = 0 := by
 by_cases h : m < 16
 ·obtain ⟨j, rfl⟩ : ∃ j, m = 4 + j := ⟨m - 4, by omega⟩
  have hj : j < 12 := by omega
  rw [inoT_dir hz wt cl hj, ← part_get hz hj];have := goK_get (blockF N M (cntZ z)) ((z.drop 4).take 12) ⟨wt, cl, []⟩ j 12 (by rw [part_len hz]; exact Nat.le_refl _);rw [if_pos hj] at this;unfold dirT;rw [this]
  split
  ·exact .inl rfl
  ·exact .inr rfl
 ·by_cases e : m = 16
  ·subst e
   rw [inoT_sin hz];unfold leftF
   split
   ·exact .inl rfl
   ·exact .inr rfl
  ·obtain rfl : m = 17 := by omega
   rw [inoT_dbl hz];unfold leftF
   split
   ·exact .inl rfl
   ·exact .inr rfl
theorem inoT_len' {N M : Int} {z : List Int} (hz : z.length = 18) (wt : Img) (cl : Int → Bool) : (inoT N M z wt cl).length = 18 := by
 have := dirT_len (N := N) (M := M) hz wt cl;unfold inoT
 simp [this]
theorem inoT_0 (N M : Int) (z : List Int) (wt : Img) (cl : Int → Bool) : (inoT N M z wt cl).getD 0 0 = z.getD 0 0 ∧ (inoT N M z wt cl).getD 1 0 = 0 ∧ (inoT N M z wt cl).getD 2 0 = z.getD 2 0 ∧ (inoT N M z wt cl).getD 3 0 = z.getD 3 0 := ⟨rfl, rfl, rfl, rfl⟩
theorem inoB_links {z : List Int} (hz : z.length = 18) (h0 : z.getD 0 0 ≠ 0) (h : inoB z = true) {L : Int} (hL : 0 ≤ L ∧ L ≤ 100) : inoB (z.set 1 L) = true := by
 obtain ⟨a, b⟩ := inoB_parts h0 h;refine inoB_of (by rw [getD_set_ne (by omega)]; exact h0) (fun m hm => ?_) (by rw [getD_set_ne (by omega), getD_set_ne (by omega)]; exact b)
 by_cases e : m = 1
 ·subst e
  rw [getD_set_eq (by omega)]
  exact hL
 ·rw [getD_set_ne (fun e' => e e'.symm)]
  exact a m hm
theorem inoB_left {N M : Int} {z : List Int} (hz : z.length = 18) (h0 : z.getD 0 0 ≠ 0) (h : inoB z = true) (wt : Img) (cl : Int → Bool) : inoB (inoT N M z wt cl) = true := by
 obtain ⟨a, b⟩ := inoB_parts h0 h;obtain ⟨e0, e1, e2, e3⟩ := inoT_0 N M z wt cl;refine inoB_of (by rw [e0]; exact h0) (fun m hm => ?_) (by rw [e0, e2]; exact b)
 by_cases h4 : 4 ≤ m
 ·rcases inoT_get (N := N) (M := M) hz wt cl h4 hm with e | e
  ·rw [e]; exact a m hm
  ·rw [e]
   have := a m hm
   omega
 ·have hm4 : m = 0 ∨ m = 1 ∨ m = 2 ∨ m = 3 := by omega
  rcases hm4 with rfl | rfl | rfl | rfl
  ·rw [e0]; exact a 0 (by omega)
  ·rw [e1]; exact ⟨by omega, by decide⟩
  ·rw [e2]; exact a 2 (by omega)
  ·rw [e3]; exact a 3 (by omega)
theorem wipe_sec {size : Int} {sp : List (Int × Int)} {wt : Img} (h : AllSec wt) : AllSec (wipeW size sp wt) := by
 unfold wipeW
 split
 ·exact h.set _ (wip_sec (h _) _)
 ·exact h
theorem wipe_sub {size : Int} {sp : List (Int × Int)} {wt : Img} {wp : Int → Bool} {n : Int} (hpos : ∀ x ∈ sp, 0 < x.2) (h : wipeP size sp wp n = false) : secI (wipeW size sp wt) n = secI wt n ∧ wp n = false := by
 unfold wipeP at h;unfold wipeW
 cases hl : lastB size sp with
 | none => rw [hl] at h; exact ⟨rfl, h⟩
 | some l =>
  rw [hl] at h;have h := putC_off.1 h
  exact ⟨secI_set_ne (hpos l (lastB_mem hl)) h.1, h.2⟩
theorem take_inv {N M : Int} {im : Img} (hM : 0 ≤ M) {z : List Int} {s : LS} {rest : List Int} (h : LInv N M im s rest) : LInv N M im (takeL N M z s) rest := by
 obtain ⟨m1, ⟨e, q1, q2, q3⟩, m3⟩ := take_mo hM z s h.len;have hsb := dbl_sb (N := N) (M := M) hM z s.wt s.cl h.len h.sec
 have hpos : ∀ x ∈ (dblT N M z s.wt s.cl).2.sp, 0 < x.2 := fun x hx => by have := (dblT_ok N M z s.wt s.cl x hx).1; omega
 refine ⟨by rw [m1.len]; exact h.len, fun n hn => ?_, fun n hn => ?_, ?_, ?_, ?_, fun i z' hz => h.tk i z' (by rw [takeL_tk] at hz; exact hz)⟩
 ·obtain ⟨a, b, c⟩ := m3 n hn
  rw [b, c]
  exact h.un n a
 ·rw [q1, List.flatten_append, ← List.append_assoc] at hn
  rcases List.mem_append.1 hn with k | k
  ·obtain ⟨a, b, c, d⟩ := h.raw n k
   exact ⟨m1.cl n a, by rw [m1.wt n a (fun e => e)]; exact b, c, d⟩
  ·obtain ⟨a, b, c, d, d'⟩ := q2 n k
   exact ⟨b, by rw [c]; exact (h.un n a).1, d, d'⟩
 ·rw [q1, List.flatten_append, ← List.append_assoc]
  refine List.nodup_append.2 ⟨h.nod, q3, fun x hx y hy e1 => ?_⟩;have a1 := (h.raw x hx).1;have a2 := (q2 y hy).1;rw [e1, a2] at a1
  cases a1
 ·by_cases hk : z.getD 0 0 = 2
  ·rw [takeL_dir hk]; exact hsb.1
  ·rw [takeL_file hk]; exact wipe_sec hsb.1
 ·intro n hn
  by_cases hk : z.getD 0 0 = 2
  ·rw [takeL_dir hk] at hn ⊢
   exact (h.sub n hn).trans (hsb.2 n)
  ·rw [takeL_file hk] at hn ⊢
   obtain ⟨a, b⟩ := wipe_sub (wt := (dblT N M z s.wt s.cl).2.wt) hpos hn
   show SubP _ (secI (wipeW _ _ _) n)
   rw [a]
   exact (h.sub n b).trans (hsb.2 n)
def MayE (M : Int) (im : Img) (s : LS) (i : Int) : Prop := match s.tk i with | some z => z.getD 1 0 < 100 | none => (soundZ M im i).2 = true
theorem mayE_of {M : Int} {im : Img} {s : LS} {i : Int} {b : Bool} (h : isEntryB M im s i b = true) : MayE M im s i := by
 unfold isEntryB at h;unfold MayE
 split at h
 ·cases h
 ·cases ht : s.tk i with
  | some z =>
   rw [ht] at h
   simp at h ⊢
   exact h.2
  | none => rw [ht] at h; exact h
theorem enter_some {N M : Int} {im : Img} {i : Int} {s : LS} {z : List Int} (h : s.tk i = some z) : enterL N M im i s = { s with tk := putT s.tk i (moreZ z) } := by
 unfold enterL;rw [h]
theorem enter_none {N M : Int} {im : Img} {i : Int} {s : LS} (h : s.tk i = none) : enterL N M im i s = { takeL N M (soundZ M im i).1 s with tk := putT (takeL N M (soundZ M im i).1 s).tk i (moreZ (inoT N M (soundZ M im i).1 s.wt s.cl)) } := by
 unfold enterL;rw [h]
theorem MoQ.refl (N M : Int) (s : LS) (tk : Int → Option (List Int)) : MoQ N M s { s with tk := tk } := ⟨[], by simp, by simp, by simp⟩
theorem enter_mo {N M : Int} {im : Img} (hM : 0 ≤ M) {i : Int} {s : LS} (hw : s.wt.length = N) : MoL (fun _ => False) s (enterL N M im i s) ∧ MoQ N M s (enterL N M im i s) := by
 cases ht : s.tk i with
 | some z =>
  rw [enter_some ht];refine ⟨⟨rfl, fun _ h => h, fun _ _ _ => rfl, fun _ _ => rfl, fun j y hy => ?_⟩, MoQ.refl N M s _⟩
  show ∃ L, putT s.tk i (moreZ z) j = some (y.set 1 L)
  unfold putT
  split
  ·rename_i e
   subst e;rw [ht] at hy
   cases hy
   exact ⟨_, rfl⟩
  ·obtain ⟨L, e⟩ := set_self y
   exact ⟨L, by rw [← e]; exact hy⟩
 | none =>
  rw [enter_none ht];obtain ⟨m1, ⟨e, q1, q2, q3⟩, _⟩ := take_mo hM (soundZ M im i).1 s hw;refine ⟨⟨m1.len, m1.cl, m1.wt, m1.wp, fun j y hy => ?_⟩, e, q1, q2, q3⟩
  show ∃ L, putT _ i _ j = some (y.set 1 L)
  unfold putT
  split
  ·rename_i e
   subst e;rw [ht] at hy
   cases hy
  ·exact m1.tk j y hy
theorem enter_inv {N M : Int} {im : Img} (hM : 0 ≤ M) {i : Int} {s : LS} {rest : List Int} (h : LInv N M im s rest) (hi : MayE M im s i) : LInv N M im (enterL N M im i s) rest := by
 unfold MayE at hi
 cases ht : s.tk i with
 | some z =>
  rw [ht] at hi
  simp only at hi
  rw [enter_some ht];refine ⟨h.len, h.un, h.raw, h.nod, h.sec, h.sub, fun j y hy => ?_⟩;replace hy : (if j = i then some (moreZ z) else s.tk j) = some y := hy
  by_cases e : j = i
  ·rw [if_pos e] at hy
   subst e;obtain rfl := Option.some.inj hy;obtain ⟨a, b, c, d, d2, d3⟩ := h.tk j z ht
   have h0 : z.getD 0 0 ≠ 0 := by rw [d]; exact (sound_parts a).2.2.2.1
   have hl := (inoB_parts h0 c).1 1 (by omega);refine ⟨a, by rw [moreZ_len]; exact b, inoB_links b h0 c (by omega), ?_, ?_, ?_⟩
   ·unfold moreZ; rw [getD_set_ne (by omega)]; exact d
   ·unfold moreZ; rw [getD_set_ne (by omega)]; exact d2
   ·unfold moreZ; rw [getD_set_ne (by omega)]; exact d3
  ·rw [if_neg e] at hy
   exact h.tk j y hy
 | none =>
  rw [ht] at hi
  simp only at hi
  rw [enter_none ht];have hk := take_inv (z := (soundZ M im i).1) hM h;refine ⟨hk.len, hk.un, hk.raw, hk.nod, hk.sec, hk.sub, fun j y hy => ?_⟩;replace hy : (if j = i then some (moreZ (inoT N M (soundZ M im i).1 s.wt s.cl)) else (takeL N M (soundZ M im i).1 s).tk j) = some y := hy
  by_cases e : j = i
  ·rw [if_pos e] at hy
   subst e;obtain rfl := Option.some.inj hy;obtain ⟨_, _, a3, a4, a5, _⟩ := sound_parts hi;obtain ⟨e0, e1, e2, e3⟩ := inoT_0 N M (soundZ M im j).1 s.wt s.cl;refine ⟨hi, by rw [moreZ_len, inoT_len' a3], ?_, ?_, ?_, ?_⟩
   ·exact inoB_links (inoT_len' a3 _ _) (by rw [e0]; exact a4) (inoB_left a3 a4 a5 _ _) (by rw [e1]; omega)
   ·unfold moreZ; rw [getD_set_ne (by omega)]; exact e0
   ·unfold moreZ; rw [getD_set_ne (by omega)]; exact e2
   ·unfold moreZ; rw [getD_set_ne (by omega)]; exact e3
  ·rw [if_neg e] at hy
   exact hk.tk j y hy
end Go.Proofs.YtpmignilhoihnabGreat

namespace Go.Proofs.YtpmignilhoihnabGreat

theorem slot_empty {N M : Int} {im : Img} {n : Int} {r : List ByteArray × LS} (h : (slotOf (secI r.2.wt n)).2.2 = 0 ∧ (slotOf (secI r.2.wt n)).1 = 0 ∧ (slotOf (secI r.2.wt n)).2.1.size = 0) : slotL N M im n r = r := by
 unfold slotL
 simp only
 rw [if_pos h]
theorem slot_entry {N M : Int} {im : Img} {n : Int} {r : List ByteArray × LS} (h : ¬ ((slotOf (secI r.2.wt n)).2.2 = 0 ∧ (slotOf (secI r.2.wt n)).1 = 0 ∧ (slotOf (secI r.2.wt n)).2.1.size = 0))
  (h2 : (slotOf (secI r.2.wt n)).2.2 = 0 ∧ isEntryB M im r.2 (slotOf (secI r.2.wt n)).1 (hasN r.1 (slotOf (secI r.2.wt n)).2.1) = true) :
  slotL N M im n r = ((slotOf (secI r.2.wt n)).2.1 :: r.1, enterL N M im (slotOf (secI r.2.wt n)).1 r.2) := by
 unfold slotL
 simp only
 rw [if_neg h, if_pos h2]
theorem slot_none {N M : Int} {im : Img} {n : Int} {r : List ByteArray × LS} (h : ¬ ((slotOf (secI r.2.wt n)).2.2 = 0 ∧ (slotOf (secI r.2.wt n)).1 = 0 ∧ (slotOf (secI r.2.wt n)).2.1.size = 0))
  (h2 : ¬ ((slotOf (secI r.2.wt n)).2.2 = 0 ∧ isEntryB M im r.2 (slotOf (secI r.2.wt n)).1 (hasN r.1 (slotOf (secI r.2.wt n)).2.1) = true)) :
  slotL N M im n r = (r.1, { r.2 with wt := r.2.wt.set n.toNat Zs }) := by
 unfold slotL
 simp only
 rw [if_neg h, if_neg h2]
theorem Zs_sec' : IsSec Zs := ⟨by simp [Zs], fun x hx => by have := List.eq_of_mem_replicate hx; omega⟩
theorem sub_Zs (a : List Int) : SubP a Zs := fun k => .inr (by rw [ptrs_Zs, Zp_get])
theorem LInv.next {N M : Int} {im : Img} {s : LS} {n : Int} {l : List Int} (h : LInv N M im s (n :: l)) : LInv N M im s l :=
 ⟨h.len, h.un, fun m hm => h.raw m (List.mem_cons_of_mem _ hm), (List.nodup_cons.1 h.nod).2, h.sec, h.sub, h.tk⟩
theorem slot_inv {N M : Int} {im : Img} (hM : 0 ≤ M) {n : Int} {l : List Int} {r : List ByteArray × LS} (h : LInv N M im r.2 (n :: l)) :
  LInv N M im (slotL N M im n r).2 l ∧ MoL (fun m => m = n) r.2 (slotL N M im n r).2 ∧ MoQ N M r.2 (slotL N M im n r).2 := by
 obtain ⟨c1, c2, c3, c4⟩ := h.raw n List.mem_cons_self
 by_cases h1 : (slotOf (secI r.2.wt n)).2.2 = 0 ∧ (slotOf (secI r.2.wt n)).1 = 0 ∧ (slotOf (secI r.2.wt n)).2.1.size = 0
 ·rw [slot_empty h1]
  exact ⟨h.next, MoL.refl _ _, [], by simp, by simp, by simp⟩
 ·by_cases h2 : (slotOf (secI r.2.wt n)).2.2 = 0 ∧ isEntryB M im r.2 (slotOf (secI r.2.wt n)).1 (hasN r.1 (slotOf (secI r.2.wt n)).2.1) = true
  ·rw [slot_entry h1 h2]
   obtain ⟨a, b⟩ := enter_mo (im := im) (i := (slotOf (secI r.2.wt n)).1) hM h.len
   exact ⟨enter_inv hM h.next (mayE_of h2.2), ⟨a.len, a.cl, fun m hm _ => a.wt m hm (fun e => e), a.wp, a.tk⟩, b⟩
  ·rw [slot_none h1 h2]
   have hn : n ∉ l ++ r.2.q.flatten := (List.nodup_cons.1 h.nod).1;refine ⟨⟨by rw [List.length_set]; exact h.len, fun m hm => ?_, fun m hm => ?_, h.next.nod, h.sec.set n Zs_sec', fun m hm => ?_, h.tk⟩, ⟨by simp, fun _ k => k, fun m hm e => ?_, fun _ _ => rfl, (MoL.refl r.2 (fun _ => False)).tk⟩, ⟨[], by simp, by simp, by simp⟩⟩
   ·have hm : r.2.cl m = false := hm
    show secI (r.2.wt.set n.toNat Zs) m = _ ∧ _
    rw [secI_set_ne (by omega) (fun e => by rw [e, c1] at hm; cases hm)]
    exact h.un m hm
   ·obtain ⟨a, b, c, d⟩ := h.next.raw m hm
    refine ⟨a, ?_, c, d⟩
    show secI (r.2.wt.set n.toNat Zs) m = _
    rw [secI_set_ne (p := n) (n := m) (by omega) (fun e => hn (by rw [← e]; exact hm))]
    exact b
   ·show SubP _ (secI (r.2.wt.set n.toNat Zs) m)
    rcases secI_set_cases r.2.wt n m Zs with k | k
    ·rw [k.2]; exact sub_Zs _
    ·rw [k]; exact h.sub m hm
   ·show secI (r.2.wt.set n.toNat Zs) m = _
    exact secI_set_ne (by omega) e
theorem MoQ.trans {N M : Int} {D : Int → Prop} {a b c : LS} (h : MoQ N M a b) (k : MoQ N M b c) (m : MoL (fun _ => True) a b) (m2 : MoL D b c) (hD : ∀ n, D n → a.cl n = true) (hu : ∀ n, b.cl n = false → secI b.wt n = secI a.wt n) : MoQ N M a c := by
 obtain ⟨e, p1, p2, p3⟩ := h;obtain ⟨f, q1, q2, q3⟩ := k
 have off : ∀ n, b.cl n = false → a.cl n = false := fun n hn => by
  cases e : a.cl n with
  | false => rfl
  | true => rw [m.cl n e] at hn; cases hn
 refine ⟨e ++ f, by rw [q1, p1, List.append_assoc], fun n hn => ?_, ?_⟩
 ·rw [List.flatten_append] at hn
  rcases List.mem_append.1 hn with k | k
  ·obtain ⟨a1, a2, a3, a4, a5⟩ := p2 n k
   exact ⟨a1, m2.cl n a2, (m2.wt n a2 (fun e => by have := hD n e; rw [a1] at this; cases this)).trans a3, a4, a5⟩
  ·obtain ⟨a1, a2, a3, a4, a5⟩ := q2 n k
   exact ⟨off n a1, a2, a3.trans (hu n a1), a4, a5⟩
 ·rw [List.flatten_append]
  refine List.nodup_append.2 ⟨p3, q3, fun x hx y hy e1 => ?_⟩;have a1 := (p2 x hx).2.1;have a2 := (q2 y hy).1;rw [e1, a2] at a1
  cases a1
theorem dirK_inv {N M : Int} {im : Img} (hM : 0 ≤ M) : ∀ (l : List Int) (r : List ByteArray × LS), LInv N M im r.2 l → LInv N M im (dirK N M im l r).2 [] ∧ MoL (fun m => m ∈ l) r.2 (dirK N M im l r).2 ∧ MoQ N M r.2 (dirK N M im l r).2
 | [], r, h => ⟨h, MoL.refl _ _, [], by simp [dirK], by simp, by simp⟩
 | n :: l, r, h => by
  obtain ⟨a1, a2, a3⟩ := slot_inv hM h;obtain ⟨b1, b2, b3⟩ := dirK_inv hM l (slotL N M im n r) a1;refine ⟨b1, a2.trans b2 (fun m e => by subst e; exact List.mem_cons_self) (fun m _ e => List.mem_cons_of_mem _ e), ?_⟩;refine a3.trans b3 ⟨a2.len, a2.cl, fun m _ e => absurd trivial e, a2.wp, a2.tk⟩ b2 (fun m hm => (h.raw m (List.mem_append_left _ (List.mem_cons_of_mem _ hm))).1) (fun m hm => ?_);have h1 := (a1.un m hm).1
  have h2 : r.2.cl m = false := by
   cases e : r.2.cl m with
   | false => rfl
   | true => rw [a2.cl m e] at hm; cases hm
  exact h1.trans (h.un m h2).1.symm
theorem LInv.pop {N M : Int} {im : Img} {s : LS} {l : List Int} {q : List (List Int)} (h : LInv N M im s []) (e : s.q = l :: q) : LInv N M im { s with q := q } l :=
 ⟨h.len, h.un, fun m hm => h.raw m (by rw [e]; exact hm), by have := h.nod; rw [e] at this; exact this, h.sec, h.sub, h.tk⟩
theorem allL_inv {N M : Int} {im : Img} (hM : 0 ≤ M) : ∀ (f : Nat) (s : LS), LInv N M im s [] → LInv N M im (allL N M im f s) [] ∧ MoL (fun m => m ∈ s.q.flatten) s (allL N M im f s)
 | 0, s, h => ⟨h, MoL.refl _ _⟩
 | f + 1, s, h => by
  cases hq : s.q with
  | nil => rw [allL_nil hq]; exact ⟨h, MoL.refl _ _⟩
  | cons l q =>
   rw [allL_cons hq];obtain ⟨a1, a2, ⟨e, p1, p2, p3⟩⟩ := dirK_inv hM l ([], { s with q := q }) (h.pop hq);obtain ⟨b1, b2⟩ := allL_inv hM f (dirL N M im l { s with q := q }) a1;refine ⟨b1, ?_⟩;have a2' : MoL (fun m => m ∈ l) s (dirL N M im l { s with q := q }) := ⟨a2.len, a2.cl, a2.wt, a2.wp, a2.tk⟩;refine a2'.trans b2 (fun m hm => by rw [List.flatten_cons]; exact List.mem_append_left _ hm) (fun m hm hm2 => ?_);have p1 : (dirL N M im l { s with q := q }).q = q ++ e := p1;rw [p1, List.flatten_append] at hm2
   rcases List.mem_append.1 hm2 with k | k
   ·rw [List.flatten_cons]; exact List.mem_append_right _ k
   ·have := (p2 m k).1
    have hm' : s.cl m = false := this;rw [hm] at hm'
    cases hm'
end Go.Proofs.YtpmignilhoihnabGreat

namespace Go.Proofs.YtpmignilhoihnabGreat

structure LRel (im J : Img) (s t : LS) (rest : List Int) : Prop where
 cl : t.cl = s.cl
 wp : t.wp = s.wp
 tk : t.tk = s.tk
 q : t.q = s.q
 len : t.wt.length = s.wt.length
 wt : ∀ n, secI t.wt n = secI s.wt n ∨ (secI t.wt n = secI J n ∧ secI s.wt n = secI im n)
 un : ∀ n, s.cl n = false → secI t.wt n = secI J n
 raw : ∀ n ∈ rest ++ s.q.flatten, secI t.wt n = secI J n
def GG (full : Prop) (N M : Int) (im J : Img) (u : LS) (D : List Int) : Prop := ∀ n, M < n → n < N → u.cl n = true → n ∉ D → (secI J n = secI im n ∨ secI J n = secI u.wt n) ∧ (full → u.wp n = false → secI J n = secI u.wt n)
theorem GG.back {full : Prop} {N M : Int} {im J : Img} {u v : LS} {D D' : List Int} {E : Int → Prop} (h : GG full N M im J v D') (m : MoL E u v) (hE : ∀ n, E n → n ∈ D) (hD : ∀ n, n ∈ D' → n ∈ D ∨ u.cl n = false) : GG full N M im J u D := fun n h1 h2 h3 h4 => by
 have := h n h1 h2 (m.cl n h3) (fun e => by
  rcases hD n e with k | k
  ·exact h4 k
  ·rw [h3] at k; cases k)
 rw [m.wt n h3 (fun e => h4 (hE n e)), m.wp n h3] at this
 exact this
def GTk (tkf : Int → Option (List Int)) (u : LS) : Prop := ∀ i z, u.tk i = some z → ∃ L, tkf i = some (z.set 1 L)
theorem GTk.back {tkf : Int → Option (List Int)} {u v : LS} {E : Int → Prop} (h : GTk tkf v) (m : MoL E u v) : GTk tkf u := fun i z hz => by
 obtain ⟨L, e⟩ := m.tk i z hz;obtain ⟨L', e'⟩ := h i _ e;rw [List.set_set] at e'
 exact ⟨L', e'⟩
structure Oth (full : Prop) (N M : Int) (im J : Img) (tkf : Int → Option (List Int)) : Prop where
 M0 : 0 ≤ M
 sec : ∀ n, IsSec (secI im n)
 sub : ¬ full → ∀ n, M < n → n < N → SubI im J n
 ino : ∀ i, 1 ≤ i → i ≤ M → (¬ full ∧ secI J i = secI im i) ∨ secI J i = inodeW tkf i
 tk : ∀ i z, tkf i = some z → (soundZ M im i).2 = true ∧ z.length = 18 ∧ inoB z = true ∧ z.getD 0 0 = (soundZ M im i).1.getD 0 0
theorem Zi_ino : inoB Zi = true := rfl
theorem sound_J {full : Prop} {N M : Int} {im J : Img} {tkf : Int → Option (List Int)} (h : Oth full N M im J tkf) {i : Int} (hi : (soundZ M im i).2 = false) : (soundZ M J i).2 = false := by
 by_cases hr : 1 ≤ i ∧ i ≤ M
 ·have ht : tkf i = none := by
   cases e : tkf i with
   | none => rfl
   | some z => rw [(h.tk i z e).1] at hi; cases hi
  rcases h.ino i hr.1 hr.2 with k | k
  ·unfold soundZ at *
   rw [if_pos hr] at hi ⊢;rw [k.2]
   exact hi
  ·unfold inodeW at k
   rw [ht] at k;replace k : secI J i = inoS Zi := k;unfold soundZ;rw [if_pos hr, k, ino_back (by simp [Zi]) Zi_ino]
   rfl
 ·unfold soundZ
  rw [if_neg hr]
theorem sound_J2 {full : Prop} {N M : Int} {im J : Img} {tkf : Int → Option (List Int)} (h : Oth full N M im J tkf) {i : Int} (hi : (soundZ M im i).2 = true) {z : List Int} (hz : tkf i = some z) : (soundZ M J i).2 = true ∧ ((¬ full ∧ (soundZ M J i).1 = (soundZ M im i).1) ∨ (soundZ M J i).1 = z) := by
 obtain ⟨h1, h2, _⟩ := sound_parts hi;obtain ⟨t1, t2, t3, t4⟩ := h.tk i z hz
 rcases h.ino i h1 h2 with k | k
 ·have : soundZ M J i = soundZ M im i := by
   unfold soundZ;rw [if_pos ⟨h1, h2⟩, if_pos ⟨h1, h2⟩, k.2]
  rw [this]
  exact ⟨hi, .inl ⟨k.1, rfl⟩⟩
 ·unfold inodeW at k
  rw [hz] at k;replace k : secI J i = inoS z := k
  have : soundZ M J i = (z, decide (z.getD 0 0 ≠ 0)) := by
   unfold soundZ;rw [if_pos ⟨h1, h2⟩, k, ino_back t2 t3]
   simp
  rw [this];refine ⟨decide_eq_true ?_, .inr rfl⟩;rw [t4]
  exact (sound_parts hi).2.2.2.1
theorem take_lk {full : Prop} {N M : Int} {im J : Img} {tkf : Int → Option (List Int)} (ho : Oth full N M im J tkf) {z y : List Int} (hz : z.length = 18) (hy : y.length = 18) (h0 : y.getD 0 0 = z.getD 0 0) (h2 : y.getD 2 0 = z.getD 2 0) (h3 : y.getD 3 0 = z.getD 3 0)
  {s t : LS} {rest : List Int} (hi : LInv N M im s rest) (h : LRel im J s t rest)
  (hp : ∀ m, 4 ≤ m → m < 18 → y.getD m 0 = (inoT N M z s.wt s.cl).getD m 0 ∨ (¬ full ∧ y.getD m 0 = z.getD m 0)) (hg : GG full N M im J (takeL N M z s) (rest ++ (takeL N M z s).q.flatten)) :
  inoT N M y t.wt t.cl = inoT N M z s.wt s.cl ∧ LRel im J (takeL N M z s) (takeL N M y t) rest := by
 have hM := ho.M0;have hw := hi.len
 have hw' : t.wt.length = N := by rw [h.len]; exact hw
 have hm := dbl_mo (N := N) (M := M) hM z s.wt s.cl hw;have hm' := dbl_mo (N := N) (M := M) hM y t.wt t.cl hw';have hok := dblT_ok N M z s.wt s.cl;obtain ⟨new, e, p, d⟩ := hm.sp;replace e : (dblT N M z s.wt s.cl).2.sp = new := e;rw [← e] at p d;obtain ⟨new', e', p', d'⟩ := hm'.sp;replace e' : (dblT N M y t.wt t.cl).2.sp = new' := e';rw [← e'] at p' d';have htr : TR im J ⟨s.wt, s.cl, []⟩ ⟨t.wt, t.cl, []⟩ := ⟨h.cl, rfl, h.len, h.wt, fun n hn => ⟨(hi.un n hn).1, h.un n hn⟩, fun x hx => by cases hx⟩
 have hne : ∀ n, s.cl n = true → ∀ x ∈ (dblT N M z s.wt s.cl).2.sp, x.2 ≠ n := fun n hn x hx e1 => by
  have := (p x hx).1;rw [e1] at this;replace this : s.cl n = false := this;rw [hn] at this
  cases this
 have hpos : ∀ x ∈ (dblT N M z s.wt s.cl).2.sp, 0 < x.2 := fun x hx => by have := (hok x hx).1; omega
 have hfin : FinT full N M im J ⟨s.wt, s.cl, []⟩ (dblT N M z s.wt s.cl).2 := by
  intro n n1 n2 c1 c2 c3
  replace c1 : s.cl n = false := c1;have hwp := (hi.un n c1).2
  have hold : n ∉ rest ++ s.q.flatten := fun e => by
   have := (hi.raw n e).1;rw [c1] at this
   cases this
  by_cases hk : z.getD 0 0 = 2
  ·rw [takeL_dir hk] at hg
   have := hg n n1 n2 c2 (fun e => by
    simp only [List.flatten_append, List.flatten_cons, List.flatten_nil, List.append_nil] at e
    rw [← List.append_assoc] at e
    rcases List.mem_append.1 e with k | k
    ·exact hold k
    ·obtain ⟨x, hx, e1⟩ := List.mem_map.1 k
     exact c3 x hx e1)
   by_cases hfl : full
   ·exact .inr (this.2 hfl hwp)
   ·rcases this.1 with k | k
    ·exact .inl ⟨hfl, k⟩
    ·exact .inr k
  ·rw [takeL_file hk] at hg
   have := hg n n1 n2 c2 hold;have q1 : secI (wipeW (z.getD 2 0) (dblT N M z s.wt s.cl).2.sp (dblT N M z s.wt s.cl).2.wt) n = secI (dblT N M z s.wt s.cl).2.wt n := wipe_ne hpos c3;have q2 : wipeP (z.getD 2 0) (dblT N M z s.wt s.cl).2.sp s.wp n = s.wp n := wipeP_ne c3
   simp only at this
   rw [q1, q2] at this
   by_cases hfl : full
   ·exact .inr (this.2 hfl hwp)
   ·rcases this.1 with k | k
    ·exact .inl ⟨hfl, k⟩
    ·exact .inr k
 obtain ⟨r1, r2⟩ := ino_lk hM (fun n _ _ => ho.sec n) ho.sub hz hy h0 h2 h3 hw htr hp hfin;refine ⟨r1, ?_⟩
 have spw : ∀ x ∈ (dblT N M z s.wt s.cl).2.sp, secI (dblT N M y t.wt t.cl).2.wt x.2 = secI J x.2 ∧ secI (dblT N M z s.wt s.cl).2.wt x.2 = secI im x.2 := fun x hx => by
  have a := (p' x (by rw [r2.sp]; exact hx)).2.2;have b := p x hx
  exact ⟨a.trans (h.un x.2 b.1), b.2.2.trans (hi.un x.2 b.1).1⟩
 by_cases hk : z.getD 0 0 = 2
 ·rw [takeL_dir hk, takeL_dir (h0.trans hk)]
  refine ⟨r2.cl, h.wp, h.tk, by rw [h.q, r2.sp], r2.len, r2.wt, fun n hn => (r2.un n hn).2, fun n hn => ?_⟩
  simp only [List.flatten_append, List.flatten_cons, List.flatten_nil, List.append_nil] at hn
  rw [← List.append_assoc] at hn
  rcases List.mem_append.1 hn with k | k
  ·have c := (hi.raw n k).1
   exact (hm'.wt n (by rw [show (⟨t.wt, t.cl, []⟩ : TS).cl = s.cl from h.cl]; exact c)).trans (h.raw n k)
  ·obtain ⟨x, hx, rfl⟩ := List.mem_map.1 k
   exact (spw x hx).1
 ·have hk' : y.getD 0 0 ≠ 2 := by rw [h0]; exact hk
  rw [takeL_file hk] at hg;rw [takeL_file hk, takeL_file hk', h2, r2.sp];have hlen' : (dblT N M y t.wt t.cl).2.wt.length = (dblT N M z s.wt s.cl).2.wt.length := r2.len;refine ⟨r2.cl, by simp only [h.wp], h.tk, h.q, by simp only [wipe_len]; exact hlen', fun n => ?_, fun n hn => ?_, fun n hn => ?_⟩
  ·show secI (wipeW _ _ (dblT N M y t.wt t.cl).2.wt) n = secI (wipeW _ _ (dblT N M z s.wt s.cl).2.wt) n ∨ (secI (wipeW _ _ (dblT N M y t.wt t.cl).2.wt) n = _ ∧ secI (wipeW _ _ (dblT N M z s.wt s.cl).2.wt) n = _)
   by_cases hl : ∃ l, lastB (z.getD 2 0) (dblT N M z s.wt s.cl).2.sp = some l ∧ l.2 = n
   ·obtain ⟨l, hl, rfl⟩ := hl
    left
    have hmem := lastB_mem hl
    have g := (hg l.2 (hok l hmem).1 (hok l hmem).2 (p l hmem).2.1 (fun e => by
     have := (hi.raw l.2 e).1;have k := (p l hmem).1;replace k : s.cl l.2 = false := k;rw [k] at this
     cases this)).1
    simp only at g
    unfold wipeW at g ⊢;rw [hl] at g ⊢
    simp only at g ⊢
    have hin : l.2 < (dblT N M z s.wt s.cl).2.wt.length := by
     have := (hok l hmem).2;rw [hm.len]
     show l.2 < (s.wt.length : Int)
     rw [hw]; exact this
    have h0' : 0 ≤ l.2 := by have := hpos l hmem; omega
    rw [secI_set h0' hin] at g ⊢;rw [secI_set h0' (by rw [hlen']; exact hin), (spw l hmem).1, (spw l hmem).2];rw [(spw l hmem).2] at g
    rcases g with e1 | e1
    ·rw [e1]
    ·rw [e1, wip_wip (ho.sec l.2).1]
   ·have q : ∀ wt : Img, secI (wipeW (z.getD 2 0) (dblT N M z s.wt s.cl).2.sp wt) n = secI wt n := fun wt => by
     unfold wipeW
     cases e1 : lastB (z.getD 2 0) (dblT N M z s.wt s.cl).2.sp with
     | none => rfl
     | some l => exact secI_set_ne (hpos l (lastB_mem e1)) (fun e2 => hl ⟨l, e1, e2.symm⟩)
    rw [q, q]
    exact r2.wt n
  ·have hn' : ∀ x ∈ (dblT N M z s.wt s.cl).2.sp, x.2 ≠ n := fun x hx e1 => by
    have := (p x hx).2.1;rw [e1] at this;replace hn : (dblT N M z s.wt s.cl).2.cl n = false := hn;rw [hn] at this
    cases this
   show secI (wipeW _ _ (dblT N M y t.wt t.cl).2.wt) n = _
   rw [wipe_ne hpos hn']
   exact (r2.un n hn).2
  ·have c := (hi.raw n hn).1
   show secI (wipeW _ _ (dblT N M y t.wt t.cl).2.wt) n = _
   rw [wipe_ne hpos (hne n c)]
   exact (hm'.wt n (by rw [show (⟨t.wt, t.cl, []⟩ : TS).cl = s.cl from h.cl]; exact c)).trans (h.raw n hn)
end Go.Proofs.YtpmignilhoihnabGreat

namespace Go.Proofs.YtpmignilhoihnabGreat

theorem enter_lk {full : Prop} {N M : Int} {im J : Img} {tkf : Int → Option (List Int)} (ho : Oth full N M im J tkf) {i : Int} {s t : LS} {rest : List Int} (hi : LInv N M im s rest) (h : LRel im J s t rest) (hm : MayE M im s i)
  (hg : GG full N M im J (enterL N M im i s) (rest ++ (enterL N M im i s).q.flatten)) (ht : GTk tkf (enterL N M im i s)) : LRel im J (enterL N M im i s) (enterL N M J i t) rest := by
 cases hk : s.tk i with
 | some z =>
  rw [enter_some hk, enter_some (s := t) (z := z) (by rw [h.tk]; exact hk)]
  exact ⟨h.cl, h.wp, by simp only [h.tk], h.q, h.len, h.wt, h.un, h.raw⟩
 | none =>
  have hk' : t.tk i = none := by rw [h.tk]; exact hk
  unfold MayE at hm;rw [hk] at hm
  simp only at hm
  rw [enter_none hk] at hg ht ⊢;rw [enter_none hk'];obtain ⟨L, hL⟩ := ht i (moreZ (inoT N M (soundZ M im i).1 s.wt s.cl)) (by show putT _ i _ i = _; unfold putT; rw [if_pos rfl]);obtain ⟨_, _, a3, a4, a5, _⟩ := sound_parts hm;obtain ⟨e0, e1, e2, e3⟩ := inoT_0 N M (soundZ M im i).1 s.wt s.cl;obtain ⟨sJ, sE⟩ := sound_J2 ho hm hL
  have hget : ∀ m, m ≠ 1 → ((moreZ (inoT N M (soundZ M im i).1 s.wt s.cl)).set 1 L).getD m 0 = (inoT N M (soundZ M im i).1 s.wt s.cl).getD m 0 := fun m hm1 => by
   unfold moreZ;rw [getD_set_ne (fun e => hm1 e.symm), getD_set_ne (fun e => hm1 e.symm)]
  have hfld : ∀ m, m ≠ 1 → (inoT N M (soundZ M im i).1 s.wt s.cl).getD m 0 = (soundZ M im i).1.getD m 0 → (soundZ M J i).1.getD m 0 = (soundZ M im i).1.getD m 0 := fun m hm1 he => by
   rcases sE with e | e
   ·rw [e.2]
   ·rw [e, hget m hm1, he]
  obtain ⟨r1, r2⟩ := take_lk (rest := rest) ho a3 (sound_parts sJ).2.2.1 (hfld 0 (by omega) e0) (hfld 2 (by omega) e2) (hfld 3 (by omega) e3) hi h (fun m h4 h18 => by
   rcases sE with e | e
   ·right; rw [e.2]; exact ⟨e.1, rfl⟩
   ·left; rw [e]; exact hget m (by omega)) hg
  exact ⟨r2.cl, r2.wp, by simp only [r1, r2.tk], r2.q, r2.len, r2.wt, r2.un, r2.raw⟩
theorem isEntry_lk {full : Prop} {N M : Int} {im J : Img} {tkf : Int → Option (List Int)} (ho : Oth full N M im J tkf) {s t : LS} (hT : t.tk = s.tk) (i : Int) (b : Bool) (hs : s.tk i = none → (soundZ M im i).2 = true → ¬ (b || decide (i = 1)) = true → ∃ z, tkf i = some z) : isEntryB M J t i b = isEntryB M im s i b := by
 unfold isEntryB
 by_cases hb : (b || decide (i = 1)) = true
 ·rw [if_pos hb, if_pos hb]
 ·rw [if_neg hb, if_neg hb, hT]
  cases hk : s.tk i with
  | some z => rfl
  | none =>
   simp only
   cases hx : (soundZ M im i).2 with
   | false => exact sound_J ho hx
   | true =>
    obtain ⟨z, hz⟩ := hs hk hx hb
    exact (sound_J2 ho hx hz).1
theorem LRel.next {im J : Img} {s t : LS} {n : Int} {l : List Int} (h : LRel im J s t (n :: l)) : LRel im J s t l := ⟨h.cl, h.wp, h.tk, h.q, h.len, h.wt, h.un, fun m hm => h.raw m (List.mem_cons_of_mem _ hm)⟩
theorem slotOf_Zs : slotOf Zs = (0, ⟨#[]⟩, 0) := Zs_rdSlot
theorem slot_lk {full : Prop} {N M : Int} {im J : Img} {tkf : Int → Option (List Int)} (ho : Oth full N M im J tkf) {n : Int} {l : List Int} {r r' : List ByteArray × LS} (hi : LInv N M im r.2 (n :: l)) (h : LRel im J r.2 r'.2 (n :: l)) (hn : r'.1 = r.1)
  (hg : GG full N M im J (slotL N M im n r).2 (l ++ (slotL N M im n r).2.q.flatten)) (ht : GTk tkf (slotL N M im n r).2) :
  (slotL N M J n r').1 = (slotL N M im n r).1 ∧ LRel im J (slotL N M im n r).2 (slotL N M J n r').2 l := by
 obtain ⟨c1, c2, c3, c4⟩ := hi.raw n List.mem_cons_self;have hJ := h.raw n List.mem_cons_self;obtain ⟨i1, i2, e, q1, q2, q3⟩ := slot_inv ho.M0 hi;have hnd := (List.nodup_cons.1 hi.nod).1
 have hgn := (hg n c3 c4 (i2.cl n c1) (fun k => by
  rcases List.mem_append.1 k with k | k
  ·exact hnd (List.mem_append_left _ k)
  ·rw [q1, List.flatten_append] at k
   rcases List.mem_append.1 k with k | k
   ·exact hnd (List.mem_append_right _ k)
   ·have := (q2 n k).1
    rw [c1] at this
    cases this)).1
 by_cases h1 : (slotOf (secI r.2.wt n)).2.2 = 0 ∧ (slotOf (secI r.2.wt n)).1 = 0 ∧ (slotOf (secI r.2.wt n)).2.1.size = 0
 ·rw [slot_empty h1] at hgn ⊢
  have hs : secI r'.2.wt n = secI r.2.wt n := by
   rw [hJ, c2]
   rcases hgn with k | k
   ·exact k
   ·rw [k, c2]
  rw [slot_empty (by rw [hs]; exact h1)]
  exact ⟨hn, h.next⟩
 ·by_cases h2 : (slotOf (secI r.2.wt n)).2.2 = 0 ∧ isEntryB M im r.2 (slotOf (secI r.2.wt n)).1 (hasN r.1 (slotOf (secI r.2.wt n)).2.1) = true
  ·rw [slot_entry h1 h2] at hgn hg ht ⊢
   have hmo := (enter_mo (im := im) (i := (slotOf (secI r.2.wt n)).1) ho.M0 hi.len).1
   have hs : secI r'.2.wt n = secI r.2.wt n := by
    rw [hJ, c2]
    rcases hgn with k | k
    ·exact k
    ·rw [k, hmo.wt n c1 (fun e => e), c2]
   have hmay := mayE_of h2.2
   have hent : isEntryB M J r'.2 (slotOf (secI r.2.wt n)).1 (hasN r'.1 (slotOf (secI r.2.wt n)).2.1) = true := by
    rw [hn, isEntry_lk ho h.tk]
    ·exact h2.2
    ·intro k1 _ _
     obtain ⟨L, hL⟩ := ht (slotOf (secI r.2.wt n)).1 (moreZ (inoT N M (soundZ M im (slotOf (secI r.2.wt n)).1).1 r.2.wt r.2.cl)) (by
      rw [enter_none k1]
      show putT _ _ _ _ = _
      unfold putT
      rw [if_pos rfl])
     exact ⟨_, hL⟩
   rw [slot_entry (r := r') (by rw [hs]; exact h1) (by rw [hs]; exact ⟨h2.1, hent⟩), hs]
   exact ⟨by simp only [hn], enter_lk ho hi.next h.next hmay hg ht⟩
  ·rw [slot_none h1 h2] at hgn ht ⊢
   have hin : n < (r.2.wt.length : Int) := by rw [hi.len]; exact c4
   have hM := ho.M0
   have hin' : n < (r'.2.wt.length : Int) := by rw [h.len]; exact hin
   replace hgn : secI J n = secI im n ∨ secI J n = secI (r.2.wt.set n.toNat Zs) n := hgn;rw [secI_set (by omega) hin] at hgn
   -- what comes of it
   have fin : ∀ T : Img, T.length = r'.2.wt.length → secI T n = Zs → (∀ m, m ≠ n → secI T m = secI r'.2.wt m) → LRel im J { r.2 with wt := r.2.wt.set n.toNat Zs } { r'.2 with wt := T } l := fun T t1 t2 t3 => by
    refine ⟨h.cl, h.wp, h.tk, h.q, by simp only [List.length_set, t1, h.len], fun m => ?_, fun m hm => ?_, fun m hm => ?_⟩
    ·by_cases e : m = n
     ·subst e
      left
      show secI T m = secI (r.2.wt.set m.toNat Zs) m
      rw [t2, secI_set (by omega) hin]
     ·show secI T m = secI (r.2.wt.set n.toNat Zs) m ∨ (secI T m = _ ∧ secI (r.2.wt.set n.toNat Zs) m = _)
      rw [t3 m e, secI_set_ne (by omega) e]
      exact h.wt m
    ·replace hm : r.2.cl m = false := hm
     show secI T m = _
     rw [t3 m (fun e => by rw [e, c1] at hm; cases hm)]
     exact h.un m hm
    ·show secI T m = _
     rw [t3 m (fun e => hnd (by rw [← e]; exact hm))]
     exact h.next.raw m hm
   by_cases hz : secI J n = secI im n
   ·have hs : secI r'.2.wt n = secI r.2.wt n := by rw [hJ, c2]; exact hz
    have hent : ¬ ((slotOf (secI r.2.wt n)).2.2 = 0 ∧ isEntryB M J r'.2 (slotOf (secI r.2.wt n)).1 (hasN r'.1 (slotOf (secI r.2.wt n)).2.1) = true) := by
     intro k
     refine h2 ⟨k.1, ?_⟩;rw [hn, isEntry_lk ho h.tk] at k
     ·exact k.2
     ·intro k1 k2 k3
      refine absurd ⟨k.1, ?_⟩ h2;unfold isEntryB;rw [if_neg k3, k1]
      exact k2
    rw [slot_none (r := r') (by rw [hs]; exact h1) (by rw [hs]; exact hent)]
    exact ⟨hn, fin _ (by simp) (secI_set (by omega) hin') (fun m e => secI_set_ne (by omega) e)⟩
   ·have hs : secI r'.2.wt n = Zs := by rw [hJ]; exact hgn.resolve_left hz
    rw [slot_empty (r := r') (by rw [hs, slotOf_Zs]; exact ⟨rfl, rfl, rfl⟩)]
    exact ⟨hn, fin r'.2.wt rfl hs (fun _ _ => rfl)⟩
theorem dirK_lk {full : Prop} {N M : Int} {im J : Img} {tkf : Int → Option (List Int)} (ho : Oth full N M im J tkf) : ∀ (l : List Int) (r r' : List ByteArray × LS), LInv N M im r.2 l → LRel im J r.2 r'.2 l → r'.1 = r.1 →
  GG full N M im J (dirK N M im l r).2 (dirK N M im l r).2.q.flatten → GTk tkf (dirK N M im l r).2 → LRel im J (dirK N M im l r).2 (dirK N M J l r').2 []
 | [], r, r', _, h, _, _, _ => h
 | n :: l, r, r', hi, h, hn, hg, ht => by
  obtain ⟨a1, a2, a3⟩ := slot_inv ho.M0 hi;obtain ⟨b1, b2, ⟨e, q1, q2, q3⟩⟩ := dirK_inv ho.M0 l (slotL N M im n r) a1
  have hg' : GG full N M im J (slotL N M im n r).2 (l ++ (slotL N M im n r).2.q.flatten) := GG.back hg b2 (fun m hm => List.mem_append_left _ hm) (fun m hm => by
   replace hm : m ∈ (dirK N M im l (slotL N M im n r)).2.q.flatten := hm;rw [q1, List.flatten_append] at hm
   rcases List.mem_append.1 hm with k | k
   ·exact .inl (List.mem_append_right _ k)
   ·exact .inr (q2 m k).1)
  have ht' : GTk tkf (slotL N M im n r).2 := GTk.back ht b2;obtain ⟨c1, c2⟩ := slot_lk ho hi h hn hg' ht'
  exact dirK_lk ho l (slotL N M im n r) (slotL N M J n r') a1 c2 c1 hg ht
theorem LRel.pop {im J : Img} {s t : LS} {l : List Int} {q : List (List Int)} (h : LRel im J s t []) (e : s.q = l :: q) : LRel im J { s with q := q } { t with q := q } l := ⟨h.cl, h.wp, h.tk, rfl, h.len, h.wt, h.un, fun m hm => h.raw m (by rw [e]; exact hm)⟩
theorem allL_lk {full : Prop} {N M : Int} {im J : Img} {tkf : Int → Option (List Int)} (ho : Oth full N M im J tkf) : ∀ (f : Nat) (s t : LS), LInv N M im s [] → LRel im J s t [] →
  GG full N M im J (allL N M im f s) [] → GTk tkf (allL N M im f s) → LRel im J (allL N M im f s) (allL N M J f t) []
 | 0, s, t, _, h, _, _ => h
 | f + 1, s, t, hi, h, hg, ht => by
  cases hq : s.q with
  | nil => rw [allL_nil hq, allL_nil (by rw [h.q]; exact hq)]; exact h
  | cons l q =>
   rw [allL_cons hq] at hg ht ⊢;rw [allL_cons (s := t) (l := l) (q := q) (by rw [h.q]; exact hq)];obtain ⟨a1, a2, _⟩ := dirK_inv ho.M0 l ([], { s with q := q }) (hi.pop hq);obtain ⟨b1, b2⟩ := allL_inv ho.M0 f (dirL N M im l { s with q := q }) a1;refine allL_lk ho f _ _ a1 ?_ hg ht
   exact dirK_lk ho l ([], { s with q := q }) ([], { t with q := q }) (hi.pop hq) (h.pop hq) rfl (GG.back hg b2 (fun m hm => hm) (fun m hm => by cases hm)) (GTk.back ht b2)
end Go.Proofs.YtpmignilhoihnabGreat

namespace Go.Proofs.YtpmignilhoihnabGreat

theorem secI_nat_set (wt : Img) (k : Nat) (n : Int) (x : List Int) (hn : n.toNat ≠ k) : secI (wt.set k x) n = secI wt n := by
 unfold secI;rw [List.getD_eq_getElem?_getD, List.getElem?_set_ne (fun e => hn e.symm), ← List.getD_eq_getElem?_getD]
theorem layK_size (tk : Int → Option (List Int)) (wt : Img) : ∀ k, (layK tk wt k).length = wt.length
 | 0 => rfl
 | k + 1 => by simp only [layK, List.length_set]; exact layK_size tk wt k
theorem layK_at (tk : Int → Option (List Int)) (wt : Img) (n : Int) : ∀ k : Nat, k < wt.length → secI (layK tk wt k) n = if 1 ≤ n ∧ n ≤ k then inodeW tk n else secI wt n
 | 0, _ => by rw [if_neg (by omega)]; rfl
 | k + 1, hk => by
  have ih := layK_at tk wt n k (by omega)
  simp only [layK]
  by_cases e : n = (k : Int) + 1
  ·subst e
   rw [if_pos (by omega)]
   have : (k + 1 : Nat) = ((k : Int) + 1).toNat := by omega
   rw [show (layK tk wt k).set (k + 1) (inodeW tk (↑k + 1)) = (layK tk wt k).set ((k : Int) + 1).toNat (inodeW tk (↑k + 1)) by rw [← this], secI_set (by omega) (by rw [layK_size]; omega)]
  ·by_cases h1 : 1 ≤ n ∧ n ≤ (k : Int)
   ·rw [secI_nat_set _ _ _ _ (by omega), ih, if_pos h1, if_pos (by omega)]
   ·by_cases h2 : n.toNat = k + 1
    ·omega
    ·rw [secI_nat_set _ _ _ _ h2, ih, if_neg h1, if_neg (by omega)]
theorem img_ext {a b : Img} (hl : a.length = b.length) (h : ∀ n : Int, secI a n = secI b n) : a = b := by
 refine List.ext_getElem hl fun k h1 h2 => ?_
 have := h (k : Int);unfold secI at this;rw [List.getD_eq_getElem?_getD, List.getD_eq_getElem?_getD] at this
 simp only [Int.toNat_natCast] at this
 rw [List.getElem?_eq_getElem h1, List.getElem?_eq_getElem h2] at this
 exact this
theorem putT_same (tk : Int → Option (List Int)) (i : Int) (z : List Int) : putT tk i z i = some z := by
 unfold putT;rw [if_pos rfl]
theorem enter_tk {N M : Int} {im : Img} {i : Int} {s : LS} (h : s.tk i = none) : (enterL N M im i s).tk i = some (moreZ (inoT N M (soundZ M im i).1 s.wt s.cl)) := by
 rw [enter_none h]
 exact putT_same _ _ _
theorem start_inv {N M : Int} {im : Img} (hl : im.length = N) (hs : AllSec im) : LInv N M im (startL im) [] :=
 ⟨hl, fun _ _ => ⟨rfl, rfl⟩, (fun n hn => by cases hn), List.nodup_nil, hs, fun n _ => SubP.refl _, (fun i z hz => by cases hz)⟩
theorem start_lk {im J : Img} (hl : J.length = im.length) : LRel im J (startL im) (startL J) [] :=
 ⟨rfl, rfl, rfl, rfl, hl, fun n => .inr ⟨rfl, rfl⟩, fun _ _ => rfl, fun n hn => by cases hn⟩
theorem root_may {M : Nat} {im : Img} (hr : rootB M im = true) : MayE M im (startL im) 1 := by
 unfold rootB at hr;rw [Bool.and_eq_true] at hr
 exact hr.1
theorem gone_inv {M : Nat} {im : Img} (hs : AllSec im) (hr : rootB M im = true) : LInv im.length M im (goneL M im) [] ∧ MoL (fun m => m ∈ (enterL im.length M im 1 (startL im)).q.flatten) (enterL im.length M im 1 (startL im)) (goneL M im) :=
 allL_inv (Int.natCast_nonneg M) M _ (enter_inv (Int.natCast_nonneg M) (start_inv rfl hs) (root_may hr))
theorem look_lk {full : Prop} {M : Nat} {im J : Img} (hl : J.length = im.length) (hMl : M < im.length) (hs : AllSec im) (hr : rootB M im = true)
  (h0 : secI J 0 = secI im 0)
  (hI : ∀ i : Int, 1 ≤ i → i ≤ M → (¬ full ∧ secI J i = secI im i) ∨ secI J i = secI (lookL M im).wt i)
  (hD : ∀ n : Int, M < n → n < im.length → secI J n = secI im n ∨ secI J n = secI (lookL M im).wt n)
  (hT : full → ∀ n : Int, M < n → n < im.length → (lookL M im).wp n = false → secI J n = secI (lookL M im).wt n)
  (hS : ¬ full → ∀ n : Int, M < n → n < im.length → (lookL M im).wp n = true → secI J n = secI im n) :
  rootB M J = true ∧ lookL M J = lookL M im := by
 obtain ⟨gi, gm⟩ := gone_inv hs hr
 have hwl : (goneL M im).wt.length = im.length := by have := gi.len; omega
 have wI : ∀ i : Int, 1 ≤ i → i ≤ M → secI (lookL M im).wt i = inodeW (goneL M im).tk i := fun i h1 h2 => by
  show secI (layK _ _ M) i = _
  rw [layK_at _ _ _ M (by omega), if_pos ⟨h1, h2⟩]
 have wD : ∀ n : Int, M < n → secI (lookL M im).wt n = secI (goneL M im).wt n := fun n h1 => by
  show secI (layK _ _ M) n = _
  rw [layK_at _ _ _ M (by omega), if_neg (by omega)]
 have ho : Oth full im.length M im J (goneL M im).tk := by
  refine ⟨Int.natCast_nonneg M, hs, fun hf n h1 h2 => ?_, fun i h1 h2 => ?_, fun i z hz => ?_⟩
  ·cases hw : (goneL M im).wp n with
   | true =>
    intro k
    rw [hS hf n h1 h2 hw]
    exact .inl rfl
   | false =>
    rcases hD n h1 h2 with e | e
    ·intro k; rw [e]; exact .inl rfl
    ·intro k; rw [e, wD n h1]
     exact gi.sub n hw k
  ·rw [← wI i h1 h2]; exact hI i h1 h2
  ·obtain ⟨a, b, c, d, _⟩ := gi.tk i z hz
   exact ⟨a, b, c, d⟩
 have hg : GG full im.length M im J (goneL M im) [] := fun n h1 h2 h3 _ => by
  refine ⟨?_, fun hf hw => ?_⟩
  ·rw [← wD n h1]; exact hD n h1 h2
  ·rw [← wD n h1]; exact hT hf n h1 h2 hw
 have ht : GTk (goneL M im).tk (goneL M im) := fun i z hz => by
  obtain ⟨L, e⟩ := set_self z
  exact ⟨L, by rw [← e]; exact hz⟩
 have e1 : LRel im J (enterL im.length M im 1 (startL im)) (enterL im.length M J 1 (startL J)) [] :=
  enter_lk ho (start_inv rfl hs) (start_lk hl) (root_may hr) (GG.back hg gm (fun m hm => hm) (fun m hm => by cases hm)) (GTk.back ht gm)
 have e2 : LRel im J (goneL M im) (goneL M J) [] := by
  have := allL_lk ho M _ _ (enter_inv (Int.natCast_nonneg M) (start_inv rfl hs) (root_may hr)) e1 hg ht
  have hj : goneL M J = allL im.length M J M (enterL im.length M J 1 (startL J)) := by
   unfold goneL;rw [hl]
  rw [hj]
  exact this
 have hwl' : (goneL M J).wt.length = im.length := by rw [e2.len]; exact hwl
 refine ⟨?_, ?_⟩
 ·have hrp : (soundZ M im 1).2 = true ∧ (soundZ M im 1).1.getD 0 0 = 2 := by
   unfold rootB at hr;rw [Bool.and_eq_true, decide_eq_true_eq] at hr
   exact hr
  have hk : (startL im).tk 1 = none := rfl;obtain ⟨L, hL⟩ := gm.tk 1 (moreZ (inoT im.length M (soundZ M im 1).1 (startL im).wt (startL im).cl)) (enter_tk hk);obtain ⟨s1, s2⟩ := sound_J2 ho hrp.1 hL;unfold rootB;rw [s1, Bool.true_and];refine decide_eq_true ?_
  rcases s2 with e | e
  ·rw [e.2]; exact hrp.2
  ·rw [e, (ho.tk 1 _ hL).2.2.2]
   exact hrp.2
 ·have hw : layK (goneL M J).tk (goneL M J).wt M = layK (goneL M im).tk (goneL M im).wt M := by
   refine img_ext (by rw [layK_size, layK_size, hwl, hwl']) fun n => ?_
   rw [layK_at _ _ _ M (by omega), layK_at _ _ _ M (by omega), e2.tk]
   by_cases hn : 1 ≤ n ∧ n ≤ (M : Int)
   ·rw [if_pos hn, if_pos hn]
   ·rw [if_neg hn, if_neg hn]
    rcases e2.wt n with k | k
    ·exact k
    ·rw [k.1, k.2]
     by_cases hp : (M : Int) < n ∧ n < im.length
     ·rcases hD n hp.1 hp.2 with e | e
      ·exact e
      ·rw [e, wD n hp.1, k.2]
     ·by_cases hp0 : n ≤ 0
      ·have : n.toNat = (0 : Int).toNat := by omega
       rw [secI_nat this, secI_nat this]
       exact h0
      ·unfold secI
       rw [List.getD_eq_getElem?_getD, List.getD_eq_getElem?_getD, List.getElem?_eq_none (by omega), List.getElem?_eq_none (by omega)]
  show LS.mk (layK (goneL M J).tk (goneL M J).wt M) (goneL M J).cl (goneL M J).wp (goneL M J).tk (goneL M J).q = LS.mk (layK (goneL M im).tk (goneL M im).wt M) (goneL M im).cl (goneL M im).wp (goneL M im).tk (goneL M im).q
  rw [hw, e2.cl, e2.wp, e2.tk, e2.q]
end Go.Proofs.YtpmignilhoihnabGreat
