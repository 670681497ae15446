/-
 What holds of a look over an image, between its steps.
-/
import Derived.Test.YtpmignilhoihnaaGreatH2
namespace Go.Proofs.YtpmignilhoihnaaGreat

theorem part_get {z : List Int} (_ : z.length = 18) {j : Nat} (hj : j < 12) : ((z.drop 4).take 12).getD j 0 = z.getD (4 + j) 0 := by
 rw [List.getD_eq_getElem?_getD, List.getD_eq_getElem?_getD, List.getElem?_take_of_lt hj, List.getElem?_drop]
theorem part_len {z : List Int} (hz : z.length = 18) : ((z.drop 4).take 12).length = 12 := by simp [hz]
theorem dir_mo {N M : Int} (z : List Int) (wt : Img) (cl : Int → Bool) (hw : wt.length = N) : Mo ⟨wt, cl, []⟩ (dirT N M z wt cl).2 :=
 goK_mo (block_kpr N M (cntZ z)) ((z.drop 4).take 12) ⟨wt, cl, []⟩ hw 12
theorem sin_mo {N M : Int} (hM : 0 ≤ M) (z : List Int) (wt : Img) (cl : Int → Bool) (hw : wt.length = N) : Mo (dirT N M z wt cl).2 (sinT N M z wt cl).2 :=
 (table_kpr hM (block_kpr N M (cntZ z))).mo (dirT N M z wt cl).2 12 (z.getD 16 0) (by rw [(dir_mo z wt cl hw).len]; exact hw)
theorem dbl_mo0 {N M : Int} (hM : 0 ≤ M) (z : List Int) (wt : Img) (cl : Int → Bool) (hw : wt.length = N) : Mo (sinT N M z wt cl).2 (dblT N M z wt cl).2 :=
 (table_kpr hM (table_kpr hM (block_kpr N M (cntZ z)))).mo (sinT N M z wt cl).2 44 (z.getD 17 0) (by rw [(sin_mo hM z wt cl hw).len, (dir_mo z wt cl hw).len]; exact hw)
theorem dbl_mo {N M : Int} (hM : 0 ≤ M) (z : List Int) (wt : Img) (cl : Int → Bool) (hw : wt.length = N) : Mo ⟨wt, cl, []⟩ (dblT N M z wt cl).2 :=
 ((dir_mo z wt cl hw).trans (sin_mo hM z wt cl hw)).trans (dbl_mo0 hM z wt cl hw)
theorem dirT_len {N M : Int} {z : List Int} (hz : z.length = 18) (wt : Img) (cl : Int → Bool) : (dirT N M z wt cl).1.length = 12 := by
 unfold dirT;rw [goK_len, part_len hz]
theorem inoT_dir {N M : Int} {z : List Int} (hz : z.length = 18) (wt : Img) (cl : Int → Bool) {j : Nat} (hj : j < 12) : (inoT N M z wt cl).getD (4 + j) 0 = (dirT N M z wt cl).1.getD j 0 := by
 have hl := dirT_len (N := N) (M := M) hz wt cl;unfold inoT
 generalize (dirT N M z wt cl).1 = D at *
 rw [List.getD_eq_getElem?_getD, List.getD_eq_getElem?_getD, List.getElem?_append_left (by simp; omega), List.getElem?_append_right (by simp)]
 simp
theorem inoT_sin {N M : Int} {z : List Int} (hz : z.length = 18) (wt : Img) (cl : Int → Bool) : (inoT N M z wt cl).getD 16 0 = leftF (sinT N M z wt cl).1 (z.getD 16 0) := by
 have hl := dirT_len (N := N) (M := M) hz wt cl;unfold inoT
 generalize (dirT N M z wt cl).1 = D at *
 rw [List.getD_eq_getElem?_getD, List.getElem?_append_right (by simp; omega)]
 simp [hl]
theorem inoT_dbl {N M : Int} {z : List Int} (hz : z.length = 18) (wt : Img) (cl : Int → Bool) : (inoT N M z wt cl).getD 17 0 = leftF (dblT N M z wt cl).1 (z.getD 17 0) := by
 have hl := dirT_len (N := N) (M := M) hz wt cl;unfold inoT
 generalize (dirT N M z wt cl).1 = D at *
 rw [List.getD_eq_getElem?_getD, List.getElem?_append_right (by simp; omega)]
 simp [hl]
end Go.Proofs.YtpmignilhoihnaaGreat

namespace Go.Proofs.YtpmignilhoihnaaGreat

def SubP (a b : List Int) : Prop := ∀ k, (ptrsTo b 32).getD k 0 = (ptrsTo a 32).getD k 0 ∨ (ptrsTo b 32).getD k 0 = 0
theorem SubP.refl (a : List Int) : SubP a a := fun _ => .inl rfl
theorem SubP.trans {a b c : List Int} (h : SubP a b) (k : SubP b c) : SubP a c := fun j => by
 rcases k j with e | e
 ·rcases h j with e1 | e1
  ·exact .inl (e.trans e1)
  ·exact .inr (e.trans e1)
 ·exact .inr e
def AllSec (wt : Img) : Prop := ∀ n, IsSec (secI wt n)
theorem secI_set_cases (wt : Img) (p n : Int) (x : List Int) : (n.toNat = p.toNat ∧ secI (wt.set p.toNat x) n = x) ∨ secI (wt.set p.toNat x) n = secI wt n := by
 unfold secI;rw [List.getD_eq_getElem?_getD, List.getD_eq_getElem?_getD, List.getElem?_set]
 by_cases e : p.toNat = n.toNat
 ·rw [if_pos e]
  by_cases e2 : p.toNat < wt.length
  ·rw [if_pos e2]; exact .inl ⟨e.symm, rfl⟩
  ·rw [if_neg e2, List.getElem?_eq_none (by omega)]; exact .inr rfl
 ·rw [if_neg e]; exact .inr rfl
theorem AllSec.set {wt : Img} (h : AllSec wt) (p : Int) {x : List Int} (hx : IsSec x) : AllSec (wt.set p.toNat x) := fun n => by
 rcases secI_set_cases wt p n x with e | e
 ·rw [e.2]; exact hx
 ·rw [e]; exact h n
def Sb (N : Int) (keep : KeepF) : Prop := ∀ s i p, s.wt.length = N → AllSec s.wt → AllSec (keep s i p).2.wt ∧ ∀ n, SubP (secI s.wt n) (secI (keep s i p).2.wt n)
theorem block_sb (N M cnt : Int) : Sb N (blockF N M cnt) := fun s i p _ h => by
 unfold blockF
 split
 ·exact ⟨h, fun n => SubP.refl _⟩
 ·exact ⟨h, fun n => SubP.refl _⟩
theorem goK_sb {N M : Int} {keep : KeepF} (hk : Kpr N M keep) (hb : Sb N keep) (t : List Int) (s : TS) (hs : s.wt.length = N) (h : AllSec s.wt) : ∀ k, AllSec (goK keep t s k).2.wt ∧ ∀ n, SubP (secI s.wt n) (secI (goK keep t s k).2.wt n)
 | 0 => ⟨h, fun n => SubP.refl _⟩
 | k + 1 => by
  obtain ⟨h1, h2⟩ := goK_sb hk hb t s hs h k;obtain ⟨h3, h4⟩ := hb (goK keep t s k).2 k (t.getD k 0) (by rw [(goK_mo hk t s hs k).len]; exact hs) h1
  exact ⟨h3, fun n => (h2 n).trans (h4 n)⟩
theorem secI_nat {wt : Img} {n p : Int} (h : n.toNat = p.toNat) : secI wt n = secI wt p := by unfold secI; rw [h]
theorem table_sb {N M cnt each : Int} {keep : KeepF} (hM : 0 ≤ M) (hk : Kpr N M keep) (hb : Sb N keep) : Sb N (tableF N M cnt each keep) := fun s f p hs h => by
 rcases table_cases (cnt := cnt) (each := each) hM hk s hs f p with ⟨_, e⟩ | ⟨_, _, e⟩ | ⟨_, _, e⟩
 ·rw [e]; exact ⟨h, fun n => SubP.refl _⟩
 ·rw [e]; exact ⟨h, fun n => SubP.refl _⟩
 ·rw [e]
  have hg : AllSec (gone each f keep s p).2.wt ∧ ∀ n, SubP (secI s.wt n) (secI (gone each f keep s p).2.wt n) := goK_sb (inner_kpr hk) (fun s _ p => hb s _ p) (ptrsTo (secI s.wt p) 32) ⟨s.wt, putC s.cl p, s.sp⟩ hs h 32;refine ⟨hg.1.set p (ptrS_sec _), fun n => ?_⟩
  rcases secI_set_cases (gone each f keep s p).2.wt p n (ptrS (gone each f keep s p).1) with k | k
  ·show SubP _ (secI ((gone each f keep s p).2.wt.set p.toNat (ptrS (gone each f keep s p).1)) n)
   rw [k.2, secI_nat k.1]
   intro j
   rw [gone_back each f keep s p (h p)]
   by_cases hj : j < 32
   ·exact gone_get each f keep s p j hj
   ·right
    rw [List.getD_eq_getElem?_getD, List.getElem?_eq_none (by rw [gone_len]; omega)]
    rfl
  ·show SubP _ (secI ((gone each f keep s p).2.wt.set p.toNat (ptrS (gone each f keep s p).1)) n)
   rw [k]
   exact hg.2 n
theorem dbl_sb {N M : Int} (hM : 0 ≤ M) (z : List Int) (wt : Img) (cl : Int → Bool) (hw : wt.length = N) (h : AllSec wt) : AllSec (dblT N M z wt cl).2.wt ∧ ∀ n, SubP (secI wt n) (secI (dblT N M z wt cl).2.wt n) := by
 have kb := block_kpr N M (cntZ z);have bb := block_sb N M (cntZ z);have ks : Kpr N M (singleF N M (cntZ z)) := table_kpr hM kb;have bs : Sb N (singleF N M (cntZ z)) := table_sb hM kb bb;have bd : Sb N (doubleF N M (cntZ z)) := table_sb hM ks bs;have md := dir_mo (N := N) (M := M) z wt cl hw;have ms := sin_mo (N := N) (M := M) hM z wt cl hw;obtain ⟨a1, a2⟩ : AllSec (dirT N M z wt cl).2.wt ∧ ∀ n, SubP (secI wt n) (secI (dirT N M z wt cl).2.wt n) := goK_sb kb bb ((z.drop 4).take 12) ⟨wt, cl, []⟩ hw h 12;obtain ⟨b1, b2⟩ : AllSec (sinT N M z wt cl).2.wt ∧ ∀ n, SubP (secI (dirT N M z wt cl).2.wt n) (secI (sinT N M z wt cl).2.wt n) := bs (dirT N M z wt cl).2 12 (z.getD 16 0) (by rw [md.len]; exact hw) a1;obtain ⟨c1, c2⟩ : AllSec (dblT N M z wt cl).2.wt ∧ ∀ n, SubP (secI (sinT N M z wt cl).2.wt n) (secI (dblT N M z wt cl).2.wt n) := bd (sinT N M z wt cl).2 44 (z.getD 17 0) (by rw [ms.len, md.len]; exact hw) b1
 exact ⟨c1, fun n => ((a2 n).trans (b2 n)).trans (c2 n)⟩

structure MoL (D : Int → Prop) (s t : LS) : Prop where
 len : t.wt.length = s.wt.length
 cl : ∀ n, s.cl n = true → t.cl n = true
 wt : ∀ n, s.cl n = true → ¬ D n → secI t.wt n = secI s.wt n
 wp : ∀ n, s.cl n = true → t.wp n = s.wp n
 tk : ∀ i z, s.tk i = some z → ∃ L, t.tk i = some (z.set 1 L)
theorem set_self (z : List Int) : ∃ L, z = z.set 1 L := ⟨z.getD 1 0, by
 refine List.ext_getElem? fun k => ?_
 rw [List.getElem?_set]
 split
 ·rename_i e
  subst e
  split
  ·rename_i h
   rw [List.getD_eq_getElem?_getD, List.getElem?_eq_getElem h]
   rfl
  ·rename_i h
   exact List.getElem?_eq_none (by omega)
 ·rfl⟩
theorem MoL.refl (s : LS) (D : Int → Prop) : MoL D s s := ⟨rfl, fun _ h => h, fun _ _ _ => rfl, fun _ _ => rfl, fun i z h => by
 obtain ⟨L, e⟩ := set_self z
 exact ⟨L, by rw [← e]; exact h⟩⟩
def MoQ (N M : Int) (s t : LS) : Prop := ∃ e : List (List Int), t.q = s.q ++ e ∧ (∀ n ∈ e.flatten, s.cl n = false ∧ t.cl n = true ∧ secI t.wt n = secI s.wt n ∧ M < n ∧ n < N) ∧ e.flatten.Nodup
theorem lastB_mem {size : Int} {sp : List (Int × Int)} {l : Int × Int} (h : lastB size sp = some l) : l ∈ sp := by
 unfold lastB at h
 split at h
 ·rename_i l' hq
  split at h
  ·cases h
   exact List.mem_of_getLast? hq
  ·cases h
 ·cases h
theorem wipe_ne {size : Int} {sp : List (Int × Int)} {wt : Img} {n : Int} (hpos : ∀ x ∈ sp, 0 < x.2) (h : ∀ x ∈ sp, x.2 ≠ n) : secI (wipeW size sp wt) n = secI wt n := by
 unfold wipeW
 split
 ·rename_i l hl
  have hm := lastB_mem hl
  exact secI_set_ne (hpos l hm) (fun e => h l hm e.symm)
 ·rfl
theorem wipeP_ne {size : Int} {sp : List (Int × Int)} {wp : Int → Bool} {n : Int} (h : ∀ x ∈ sp, x.2 ≠ n) : wipeP size sp wp n = wp n := by
 unfold wipeP
 cases hl : lastB size sp with
 | none => rfl
 | some l =>
  have hm := lastB_mem hl
  have : n ≠ l.2 := fun e => h l hm e.symm
  simp [putC, this]
theorem wipe_len (size : Int) (sp : List (Int × Int)) (wt : Img) : (wipeW size sp wt).length = wt.length := by
 unfold wipeW
 split
 ·simp
 ·rfl
theorem takeL_dir {N M : Int} {z : List Int} {s : LS} (h : z.getD 0 0 = 2) : takeL N M z s = ⟨(dblT N M z s.wt s.cl).2.wt, (dblT N M z s.wt s.cl).2.cl, s.wp, s.tk, s.q ++ [(dblT N M z s.wt s.cl).2.sp.map Prod.snd]⟩ := by
 unfold takeL
 simp only
 rw [if_pos h]
theorem takeL_file {N M : Int} {z : List Int} {s : LS} (h : z.getD 0 0 ≠ 2) : takeL N M z s = ⟨wipeW (z.getD 2 0) (dblT N M z s.wt s.cl).2.sp (dblT N M z s.wt s.cl).2.wt, (dblT N M z s.wt s.cl).2.cl, wipeP (z.getD 2 0) (dblT N M z s.wt s.cl).2.sp s.wp, s.tk, s.q⟩ := by
 unfold takeL
 simp only
 rw [if_neg h]
theorem take_mo {N M : Int} (hM : 0 ≤ M) (z : List Int) (s : LS) (hw : s.wt.length = N) : MoL (fun _ => False) s (takeL N M z s) ∧ MoQ N M s (takeL N M z s) ∧
  (∀ n, (takeL N M z s).cl n = false → s.cl n = false ∧ secI (takeL N M z s).wt n = secI s.wt n ∧ (takeL N M z s).wp n = s.wp n) := by
 have hm := dbl_mo (N := N) (M := M) hM z s.wt s.cl hw;have hok := dblT_ok N M z s.wt s.cl;obtain ⟨new, e, p, d⟩ := hm.sp;have e : (dblT N M z s.wt s.cl).2.sp = new := e;rw [← e] at p d
 generalize hT : (dblT N M z s.wt s.cl).2 = T at *
 have hpos : ∀ x ∈ T.sp, 0 < x.2 := fun x hx => by have := (hok x hx).1; omega
 have hne : ∀ n, s.cl n = true → ∀ x ∈ T.sp, x.2 ≠ n := fun n hn x hx e1 => by
  have := (p x hx).1;rw [e1] at this;have hn' : s.cl n = false := this;rw [hn] at hn'
  cases hn'
 have hne2 : ∀ n, T.cl n = false → ∀ x ∈ T.sp, x.2 ≠ n := fun n hn x hx e1 => by
  have := (p x hx).2.1;rw [e1, hn] at this
  cases this
 by_cases hk : z.getD 0 0 = 2
 ·rw [takeL_dir hk, hT]
  refine ⟨⟨hm.len, hm.cl, fun n hn _ => hm.wt n hn, fun _ _ => rfl, fun i z h => ?_⟩, ⟨[T.sp.map Prod.snd], rfl, fun n hn => ?_, by simpa using d⟩, fun n hn => ⟨hm.off hn, hm.un n hn, rfl⟩⟩
  ·obtain ⟨L, e⟩ := set_self z
   exact ⟨L, by rw [← e]; exact h⟩
  ·simp only [List.flatten_cons, List.flatten_nil, List.append_nil] at hn
   obtain ⟨x, hx, rfl⟩ := List.mem_map.1 hn
   exact ⟨(p x hx).1, (p x hx).2.1, (p x hx).2.2, (hok x hx).1, (hok x hx).2⟩
 ·rw [takeL_file hk, hT]
  refine ⟨⟨by rw [wipe_len]; exact hm.len, hm.cl, fun n hn _ => ?_, fun n hn => ?_, fun i z h => ?_⟩, ⟨[], by simp, by simp, by simp⟩, fun n hn => ⟨hm.off hn, ?_, ?_⟩⟩
  ·show secI (wipeW _ _ _) n = _
   rw [wipe_ne hpos (hne n hn)]
   exact hm.wt n hn
  ·exact wipeP_ne (hne n hn)
  ·obtain ⟨L, e⟩ := set_self z
   exact ⟨L, by rw [← e]; exact h⟩
  ·show secI (wipeW _ _ _) n = _
   rw [wipe_ne hpos (hne2 n hn)]
   exact hm.un n hn
  ·exact wipeP_ne (hne2 n hn)
end Go.Proofs.YtpmignilhoihnaaGreat

namespace Go.Proofs.YtpmignilhoihnaaGreat

structure LInv (N M : Int) (im : Img) (s : LS) (rest : List Int) : Prop where
 len : s.wt.length = N
 un : ∀ n, s.cl n = false → secI s.wt n = secI im n ∧ s.wp n = false
 raw : ∀ n ∈ rest ++ s.q.flatten, s.cl n = true ∧ secI s.wt n = secI im n ∧ M < n ∧ n < N
 nod : (rest ++ s.q.flatten).Nodup
 sec : AllSec s.wt
 sub : ∀ n, s.wp n = false → SubP (secI im n) (secI s.wt n)
 tk : ∀ i z, s.tk i = some z → (soundZ M im i).2 = true ∧ z.length = 18 ∧ inoB z = true ∧ z.getD 0 0 = (soundZ M im i).1.getD 0 0 ∧ z.getD 2 0 = (soundZ M im i).1.getD 2 0 ∧ z.getD 3 0 = (soundZ M im i).1.getD 3 0
theorem getD_set_ne {z : List Int} {m k : Nat} {x : Int} (h : k ≠ m) : (z.set k x).getD m 0 = z.getD m 0 := by
 rw [List.getD_eq_getElem?_getD, List.getElem?_set_ne h, ← List.getD_eq_getElem?_getD]
theorem getD_set_eq {z : List Int} {m : Nat} {x : Int} (h : m < z.length) : (z.set m x).getD m 0 = x := by
 rw [List.getD_eq_getElem?_getD, List.getElem?_set_self h]
 rfl
theorem inoB_of {z : List Int} (h0 : z.getD 0 0 ≠ 0) (h : ∀ m, m < 18 → 0 ≤ z.getD m 0 ∧ z.getD m 0 ≤ most.getD m 0) (h2 : z.getD 0 0 = 2 → z.getD 2 0 % 128 = 0) : inoB z = true := by
 unfold inoB;rw [if_neg h0, allB_true h, Bool.true_and]
 by_cases e : z.getD 0 0 = 2
 ·rw [h2 e, Bool.or_eq_true]; exact .inr rfl
 ·rw [Bool.or_eq_true]; exact .inl (bne_iff_ne.2 e)
theorem inoB_parts {z : List Int} (h0 : z.getD 0 0 ≠ 0) (h : inoB z = true) : (∀ m, m < 18 → 0 ≤ z.getD m 0 ∧ z.getD m 0 ≤ most.getD m 0) ∧ (z.getD 0 0 = 2 → z.getD 2 0 % 128 = 0) := by
 unfold inoB at h;rw [if_neg h0, Bool.and_eq_true] at h;refine ⟨fun m hm => allB_of h.1 m hm, fun e => ?_⟩;have := h.2;rw [e] at this
 simpa using this
theorem sound_parts {M : Int} {im : Img} {i : Int} (h : (soundZ M im i).2 = true) : 1 ≤ i ∧ i ≤ M ∧ (soundZ M im i).1.length = 18 ∧ (soundZ M im i).1.getD 0 0 ≠ 0 ∧ inoB (soundZ M im i).1 = true ∧ inoS (soundZ M im i).1 = secI im i := by
 unfold soundZ at *
 by_cases hi : 1 ≤ i ∧ i ≤ M
 ·rw [if_pos hi] at h ⊢
  simp only [Bool.and_eq_true, decide_eq_true_eq] at h
  refine ⟨hi.1, hi.2, ?_⟩;unfold rdIno at h ⊢
  by_cases hc : inoB (zTo (secI im i) 18) = true ∧ inoS (zTo (secI im i) 18) = secI im i
  ·rw [if_pos hc] at h ⊢
   exact ⟨zTo_len _ _, h.2, hc.1, hc.2⟩
  ·rw [if_neg hc] at h
   have := h.1
   simp at this
 ·rw [if_neg hi] at h
  cases h
theorem inoT_get {N M : Int} {z : List Int} (hz : z.length = 18) (wt : Img) (cl : Int → Bool) {m : Nat} (h4 : 4 ≤ m) (h18 : m < 18) : (inoT N M z wt cl).getD m 0 = z.getD m 0 ∨ (inoT N M z wt cl).getD m 0 = 0 := by
 by_cases h : m < 16
 ·obtain ⟨j, rfl⟩ : ∃ j, m = 4 + j := ⟨m - 4, by omega⟩
  have hj : j < 12 := by omega
  rw [inoT_dir hz wt cl hj, ← part_get hz hj];have := goK_get (blockF N M (cntZ z)) ((z.drop 4).take 12) ⟨wt, cl, []⟩ j 12 (by rw [part_len hz]; exact Nat.le_refl _);rw [if_pos hj] at this;unfold dirT;rw [this]
  split
  ·exact .inl rfl
  ·exact .inr rfl
 ·by_cases e : m = 16
  ·subst e
   rw [inoT_sin hz];unfold leftF
   split
   ·exact .inl rfl
   ·exact .inr rfl
  ·obtain rfl : m = 17 := by omega
   rw [inoT_dbl hz];unfold leftF
   split
   ·exact .inl rfl
   ·exact .inr rfl
theorem inoT_len' {N M : Int} {z : List Int} (hz : z.length = 18) (wt : Img) (cl : Int → Bool) : (inoT N M z wt cl).length = 18 := by
 have := dirT_len (N := N) (M := M) hz wt cl;unfold inoT
 simp [this]
theorem inoT_0 (N M : Int) (z : List Int) (wt : Img) (cl : Int → Bool) : (inoT N M z wt cl).getD 0 0 = z.getD 0 0 ∧ (inoT N M z wt cl).getD 1 0 = 0 ∧ (inoT N M z wt cl).getD 2 0 = z.getD 2 0 ∧ (inoT N M z wt cl).getD 3 0 = z.getD 3 0 := ⟨rfl, rfl, rfl, rfl⟩
theorem inoB_links {z : List Int} (hz : z.length = 18) (h0 : z.getD 0 0 ≠ 0) (h : inoB z = true) {L : Int} (hL : 0 ≤ L ∧ L ≤ 100) : inoB (z.set 1 L) = true := by
 obtain ⟨a, b⟩ := inoB_parts h0 h;refine inoB_of (by rw [getD_set_ne (by omega)]; exact h0) (fun m hm => ?_) (by rw [getD_set_ne (by omega), getD_set_ne (by omega)]; exact b)
 by_cases e : m = 1
 ·subst e
  rw [getD_set_eq (by omega)]
  exact hL
 ·rw [getD_set_ne (fun e' => e e'.symm)]
  exact a m hm
theorem inoB_left {N M : Int} {z : List Int} (hz : z.length = 18) (h0 : z.getD 0 0 ≠ 0) (h : inoB z = true) (wt : Img) (cl : Int → Bool) : inoB (inoT N M z wt cl) = true := by
 obtain ⟨a, b⟩ := inoB_parts h0 h;obtain ⟨e0, e1, e2, e3⟩ := inoT_0 N M z wt cl;refine inoB_of (by rw [e0]; exact h0) (fun m hm => ?_) (by rw [e0, e2]; exact b)
 by_cases h4 : 4 ≤ m
 ·rcases inoT_get (N := N) (M := M) hz wt cl h4 hm with e | e
  ·rw [e]; exact a m hm
  ·rw [e]
   have := a m hm
   omega
 ·have hm4 : m = 0 ∨ m = 1 ∨ m = 2 ∨ m = 3 := by omega
  rcases hm4 with rfl | rfl | rfl | rfl
  ·rw [e0]; exact a 0 (by omega)
  ·rw [e1]; exact ⟨by omega, by decide⟩
  ·rw [e2]; exact a 2 (by omega)
  ·rw [e3]; exact a 3 (by omega)
theorem wipe_sec {size : Int} {sp : List (Int × Int)} {wt : Img} (h : AllSec wt) : AllSec (wipeW size sp wt) := by
 unfold wipeW
 split
 ·exact h.set _ (wip_sec (h _) _)
 ·exact h
theorem wipe_sub {size : Int} {sp : List (Int × Int)} {wt : Img} {wp : Int → Bool} {n : Int} (hpos : ∀ x ∈ sp, 0 < x.2) (h : wipeP size sp wp n = false) : secI (wipeW size sp wt) n = secI wt n ∧ wp n = false := by
 unfold wipeP at h;unfold wipeW
 cases hl : lastB size sp with
 | none => rw [hl] at h; exact ⟨rfl, h⟩
 | some l =>
  rw [hl] at h;have h := putC_off.1 h
  exact ⟨secI_set_ne (hpos l (lastB_mem hl)) h.1, h.2⟩
theorem take_inv {N M : Int} {im : Img} (hM : 0 ≤ M) {z : List Int} {s : LS} {rest : List Int} (h : LInv N M im s rest) : LInv N M im (takeL N M z s) rest := by
 obtain ⟨m1, ⟨e, q1, q2, q3⟩, m3⟩ := take_mo hM z s h.len;have hsb := dbl_sb (N := N) (M := M) hM z s.wt s.cl h.len h.sec
 have hpos : ∀ x ∈ (dblT N M z s.wt s.cl).2.sp, 0 < x.2 := fun x hx => by have := (dblT_ok N M z s.wt s.cl x hx).1; omega
 refine ⟨by rw [m1.len]; exact h.len, fun n hn => ?_, fun n hn => ?_, ?_, ?_, ?_, fun i z' hz => h.tk i z' (by rw [takeL_tk] at hz; exact hz)⟩
 ·obtain ⟨a, b, c⟩ := m3 n hn
  rw [b, c]
  exact h.un n a
 ·rw [q1, List.flatten_append, ← List.append_assoc] at hn
  rcases List.mem_append.1 hn with k | k
  ·obtain ⟨a, b, c, d⟩ := h.raw n k
   exact ⟨m1.cl n a, by rw [m1.wt n a (fun e => e)]; exact b, c, d⟩
  ·obtain ⟨a, b, c, d, d'⟩ := q2 n k
   exact ⟨b, by rw [c]; exact (h.un n a).1, d, d'⟩
 ·rw [q1, List.flatten_append, ← List.append_assoc]
  refine List.nodup_append.2 ⟨h.nod, q3, fun x hx y hy e1 => ?_⟩;have a1 := (h.raw x hx).1;have a2 := (q2 y hy).1;rw [e1, a2] at a1
  cases a1
 ·by_cases hk : z.getD 0 0 = 2
  ·rw [takeL_dir hk]; exact hsb.1
  ·rw [takeL_file hk]; exact wipe_sec hsb.1
 ·intro n hn
  by_cases hk : z.getD 0 0 = 2
  ·rw [takeL_dir hk] at hn ⊢
   exact (h.sub n hn).trans (hsb.2 n)
  ·rw [takeL_file hk] at hn ⊢
   obtain ⟨a, b⟩ := wipe_sub (wt := (dblT N M z s.wt s.cl).2.wt) hpos hn
   show SubP _ (secI (wipeW _ _ _) n)
   rw [a]
   exact (h.sub n b).trans (hsb.2 n)
def MayE (M : Int) (im : Img) (s : LS) (i : Int) : Prop := match s.tk i with | some z => z.getD 1 0 < 100 | none => (soundZ M im i).2 = true
theorem mayE_of {M : Int} {im : Img} {s : LS} {i : Int} {b : Bool} (h : isEntryB M im s i b = true) : MayE M im s i := by
 unfold isEntryB at h;unfold MayE
 split at h
 ·cases h
 ·cases ht : s.tk i with
  | some z =>
   rw [ht] at h
   simp at h ⊢
   exact h.2
  | none => rw [ht] at h; exact h
theorem enter_some {N M : Int} {im : Img} {i : Int} {s : LS} {z : List Int} (h : s.tk i = some z) : enterL N M im i s = { s with tk := putT s.tk i (moreZ z) } := by
 unfold enterL;rw [h]
theorem enter_none {N M : Int} {im : Img} {i : Int} {s : LS} (h : s.tk i = none) : enterL N M im i s = { takeL N M (soundZ M im i).1 s with tk := putT (takeL N M (soundZ M im i).1 s).tk i (moreZ (inoT N M (soundZ M im i).1 s.wt s.cl)) } := by
 unfold enterL;rw [h]
theorem MoQ.refl (N M : Int) (s : LS) (tk : Int → Option (List Int)) : MoQ N M s { s with tk := tk } := ⟨[], by simp, by simp, by simp⟩
theorem enter_mo {N M : Int} {im : Img} (hM : 0 ≤ M) {i : Int} {s : LS} (hw : s.wt.length = N) : MoL (fun _ => False) s (enterL N M im i s) ∧ MoQ N M s (enterL N M im i s) := by
 cases ht : s.tk i with
 | some z =>
  rw [enter_some ht];refine ⟨⟨rfl, fun _ h => h, fun _ _ _ => rfl, fun _ _ => rfl, fun j y hy => ?_⟩, MoQ.refl N M s _⟩
  show ∃ L, putT s.tk i (moreZ z) j = some (y.set 1 L)
  unfold putT
  split
  ·rename_i e
   subst e;rw [ht] at hy
   cases hy
   exact ⟨_, rfl⟩
  ·obtain ⟨L, e⟩ := set_self y
   exact ⟨L, by rw [← e]; exact hy⟩
 | none =>
  rw [enter_none ht];obtain ⟨m1, ⟨e, q1, q2, q3⟩, _⟩ := take_mo hM (soundZ M im i).1 s hw;refine ⟨⟨m1.len, m1.cl, m1.wt, m1.wp, fun j y hy => ?_⟩, e, q1, q2, q3⟩
  show ∃ L, putT _ i _ j = some (y.set 1 L)
  unfold putT
  split
  ·rename_i e
   subst e;rw [ht] at hy
   cases hy
  ·exact m1.tk j y hy
theorem enter_inv {N M : Int} {im : Img} (hM : 0 ≤ M) {i : Int} {s : LS} {rest : List Int} (h : LInv N M im s rest) (hi : MayE M im s i) : LInv N M im (enterL N M im i s) rest := by
 unfold MayE at hi
 cases ht : s.tk i with
 | some z =>
  rw [ht] at hi
  simp only at hi
  rw [enter_some ht];refine ⟨h.len, h.un, h.raw, h.nod, h.sec, h.sub, fun j y hy => ?_⟩;replace hy : (if j = i then some (moreZ z) else s.tk j) = some y := hy
  by_cases e : j = i
  ·rw [if_pos e] at hy
   subst e;obtain rfl := Option.some.inj hy;obtain ⟨a, b, c, d, d2, d3⟩ := h.tk j z ht
   have h0 : z.getD 0 0 ≠ 0 := by rw [d]; exact (sound_parts a).2.2.2.1
   have hl := (inoB_parts h0 c).1 1 (by omega);refine ⟨a, by rw [moreZ_len]; exact b, inoB_links b h0 c (by omega), ?_, ?_, ?_⟩
   ·unfold moreZ; rw [getD_set_ne (by omega)]; exact d
   ·unfold moreZ; rw [getD_set_ne (by omega)]; exact d2
   ·unfold moreZ; rw [getD_set_ne (by omega)]; exact d3
  ·rw [if_neg e] at hy
   exact h.tk j y hy
 | none =>
  rw [ht] at hi
  simp only at hi
  rw [enter_none ht];have hk := take_inv (z := (soundZ M im i).1) hM h;refine ⟨hk.len, hk.un, hk.raw, hk.nod, hk.sec, hk.sub, fun j y hy => ?_⟩;replace hy : (if j = i then some (moreZ (inoT N M (soundZ M im i).1 s.wt s.cl)) else (takeL N M (soundZ M im i).1 s).tk j) = some y := hy
  by_cases e : j = i
  ·rw [if_pos e] at hy
   subst e;obtain rfl := Option.some.inj hy;obtain ⟨_, _, a3, a4, a5, _⟩ := sound_parts hi;obtain ⟨e0, e1, e2, e3⟩ := inoT_0 N M (soundZ M im j).1 s.wt s.cl;refine ⟨hi, by rw [moreZ_len, inoT_len' a3], ?_, ?_, ?_, ?_⟩
   ·exact inoB_links (inoT_len' a3 _ _) (by rw [e0]; exact a4) (inoB_left a3 a4 a5 _ _) (by rw [e1]; omega)
   ·unfold moreZ; rw [getD_set_ne (by omega)]; exact e0
   ·unfold moreZ; rw [getD_set_ne (by omega)]; exact e2
   ·unfold moreZ; rw [getD_set_ne (by omega)]; exact e3
  ·rw [if_neg e] at hy
   exact hk.tk j y hy
end Go.Proofs.YtpmignilhoihnaaGreat
