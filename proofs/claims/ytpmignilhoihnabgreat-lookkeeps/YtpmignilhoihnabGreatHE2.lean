/-
 The pointers of an inode may be just where all of them stay.
-/
import Derived.Test.YtpmignilhoihnabGreatHC9
namespace Go.Proofs.YtpmignilhoihnabGreat

def nmOf (im : Img) (x : Int) : ByteArray := (slotOf (secI im x)).2.1
def ApartN (im : Img) (l : List Int) : Prop := l.Pairwise fun x y => inoAt im x ≠ 0 → inoAt im y ≠ 0 → (nmOf im x).data ≠ (nmOf im y).data
theorem slot_fi {M : Nat} {im : Img} (hs : AllSec im) {c : Nat → Int → Bool} {x : Int} {rest V ds P : List Int} {nd : Nat} {r : List ByteArray × LS} {d : Int} (hI : FI M im c r.2 V (x :: rest) ds nd) (hv : LInv im.length M im r.2 (x :: rest)) (hd1 : 1 ≤ d) (hd2 : d ≤ M) (hd3 : kd im d = 2) (hdr : Rch M im d)
  (hP : slotsI im d = P ++ x :: rest) (hn : ∀ u ∈ P, inoAt im u ≠ 0 → ∃ y ∈ r.1, y = nmOf im u) (ha : ApartN im P) (hOk : Okk im (slotL im.length M im x r).2) :
  (∃ c' ds', FI M im c' (slotL im.length M im x r).2 (V ++ [x]) rest ds' nd ∧ ds <+: ds') ∧ (∀ u ∈ P ++ [x], inoAt im u ≠ 0 → ∃ y ∈ (slotL im.length M im x r).1, y = nmOf im u) ∧ ApartN im (P ++ [x]) := by
 have hx : x ∈ slotsI im d := by rw [hP]; simp
 have hw := hI.si.wt;obtain ⟨_, _, x1, x2⟩ := hv.raw x (by simp)
 have hc : ∀ i, (V ++ [x]).countP (nmB im i) = V.countP (nmB im i) + if inoAt im x = i then 1 else 0 := fun i => by
  rw [List.countP_append, List.countP_singleton];unfold nmB
  simp
 have hl : V ++ [x] ++ rest = V ++ (x :: rest) := by simp
 have hadd : (inoAt im x ≠ 0 → ∀ u ∈ P, inoAt im u ≠ 0 → (nmOf im u).data ≠ (nmOf im x).data) → ApartN im (P ++ [x]) := fun h => by
  unfold ApartN;rw [List.pairwise_append];refine ⟨ha, by simp, fun u hu y hy => ?_⟩;obtain rfl := List.mem_singleton.1 hy
  exact fun h1 h2 => h h2 u hu h1
 by_cases h1 : (slotOf (secI r.2.wt x)).2.2 = 0 ∧ (slotOf (secI r.2.wt x)).1 = 0 ∧ (slotOf (secI r.2.wt x)).2.1.size = 0
 ·rw [slot_empty h1]
  rw [hw] at h1;have hz : inoAt im x = 0 := h1.2.1
  have hc' : ∀ i, i ≠ 0 → (V ++ [x]).countP (nmB im i) = V.countP (nmB im i) := fun i hi => by rw [hc, if_neg (by omega)]; rfl
  have hcv : ∀ i, i ≠ 0 → cntV im (V ++ [x]) i = cntV im V i := fun i hi => by unfold cntV; rw [hc' i hi]
  have hne : ∀ i, (r.2.tk i).isSome = true → i ≠ 0 := fun i hi => by
   obtain ⟨z, hz2⟩ := Option.isSome_iff_exists.1 hi;have := (hI.si.tk i z hz2).1
   omega
  refine ⟨⟨c, ds, ⟨⟨hw, fun i z hiz => ?_, fun i hi ht => by rw [hc' i hi]; exact hI.si.no i hi ht, fun i hi ht => by rw [hc' i (hne i ht)]; exact hI.si.one i hi ht, hI.si.cl, hI.si.nod, hI.si.dsm, by rw [hl]; exact hI.si.lst, hI.si.qn⟩, fun i hi => by rw [hcv i (hne i hi)]; exact hI.rd i hi, hI.st, hI.ap, fun y hy => ?_⟩, List.prefix_rfl⟩, fun u hu h0 => ?_, hadd (fun e => absurd hz e)⟩
  ·obtain ⟨a1, a2, a3, a4⟩ := hI.si.tk i z hiz
   exact ⟨a1, a2, a3, by rw [a4, hcv i (by omega)]⟩
  ·rcases List.mem_append.1 hy with e | e
   ·exact hI.sl y e
   ·obtain rfl := List.mem_singleton.1 e
    exact ⟨h1.1, fun e => absurd hz e⟩
  ·rcases List.mem_append.1 hu with e | e
   ·exact hn u e h0
   ·obtain rfl := List.mem_singleton.1 e
    exact absurd hz h0
 ·by_cases h2 : (slotOf (secI r.2.wt x)).2.2 = 0 ∧ isEntryB M im r.2 (slotOf (secI r.2.wt x)).1 (hasN r.1 (slotOf (secI r.2.wt x)).2.1) = true
  ·rw [slot_entry h1 h2] at hOk ⊢
   rw [hw] at h1 h2 hOk ⊢;obtain ⟨e1, e2⟩ := h2;have e2 : isEntryB M im r.2 (inoAt im x) (hasN r.1 (nmOf im x)) = true := e2;have hOk : Okk im (enterL im.length M im (inoAt im x) r.2) := hOk;unfold isEntryB at e2
   split at e2
   ·cases e2
   ·rename_i hnb
    have hnb' : hasN r.1 (nmOf im x) = false ∧ inoAt im x ≠ 1 := by
     rw [Bool.or_eq_true, not_or] at hnb
     exact ⟨by simpa using hnb.1, by simpa using hnb.2⟩
    -- what it names
    have hj : 1 ≤ inoAt im x ∧ (r.2.tk (inoAt im x) = none → (soundZ M im (inoAt im x)).2 = true) ∧ (r.2.tk (inoAt im x) ≠ none → kd im (inoAt im x) ≠ 2) := by
     cases ht : r.2.tk (inoAt im x) with
     | none =>
      rw [ht] at e2
      exact ⟨(sound_parts e2).1, fun _ => e2, fun e => absurd rfl e⟩
     | some z =>
      rw [ht] at e2;obtain ⟨a1, a2, a3, a4⟩ := hI.si.tk _ z ht;refine ⟨a1, fun e => (by cases e), fun _ => ?_⟩
      have e2 := (Bool.and_eq_true _ _ ▸ e2 : _ ∧ _).1
      rw [a4, decide_eq_true_eq, getD_set_ne (by decide)] at e2
      intro e
      unfold kd at e
      omega
    obtain ⟨j1, j2, j3⟩ := hj
    have hz : inoAt im x ≠ 0 := by omega
    have hj2 : 2 ≤ inoAt im x := by have := hnb'.2; omega
    refine ⟨?_, fun u hu h0 => ?_, hadd fun _ u hu h0 e => ?_⟩
    ·show ∃ c' ds', FI M im c' (enterL im.length M im (inoAt im x) r.2) (V ++ [x]) rest ds' nd ∧ ds <+: ds'
     refine enter_fi (j := inoAt im x) hs hI hOk j2 j3 (.more hdr hd1 hd2 hd3 hx rfl hz) (fun ht => ?_) (fun _ => ?_) (fun i hi _ => ?_) (fun _ => ?_) hl (fun y hy => ?_)
     ·unfold cntV
      rw [if_neg hnb'.2, hc, if_pos rfl, hI.si.no _ hz ht]
      rfl
     ·unfold cntV
      rw [if_neg hnb'.2, hc, if_pos rfl]
      omega
     ·rw [hc, if_neg (fun e => hi e.symm)]; rfl
     ·rw [hc, if_pos rfl]; omega
     ·rcases List.mem_append.1 hy with e | e
      ·exact .inl e
      ·obtain rfl := List.mem_singleton.1 e
       exact .inr ⟨e1, rfl, hj2⟩
    ·rcases List.mem_append.1 hu with e | e
     ·obtain ⟨y, hy, hy2⟩ := hn u e h0
      exact ⟨y, List.mem_cons_of_mem _ hy, hy2⟩
     ·obtain rfl := List.mem_singleton.1 e
      exact ⟨_, List.mem_cons_self, rfl⟩
    ·obtain ⟨y, hy, rfl⟩ := hn u hu h0
     have : hasN r.1 (nmOf im x) = true := by
      unfold hasN
      exact List.any_eq_true.2 ⟨_, hy, decide_eq_true e⟩
     rw [hnb'.1] at this
     cases this
  ·rw [slot_none h1 h2] at hOk
   have ho : r.2.wt.set x.toNat Zs = im := hOk.1
   have hzs : secI im x = Zs := by
    rw [← ho, hw]
    exact secI_set (by omega) x2
   rw [hw, hzs, slotOf_Zs] at h1
   exact absurd ⟨rfl, rfl, rfl⟩ h1
theorem dirK_fi {M : Nat} {im : Img} (hs : AllSec im) {d : Int} (hd1 : 1 ≤ d) (hd2 : d ≤ M) (hd3 : kd im d = 2) (hdr : Rch M im d) {nd : Nat} : ∀ (l P V ds : List Int) (c : Nat → Int → Bool) (r : List ByteArray × LS), FI M im c r.2 V l ds nd → LInv im.length M im r.2 l → slotsI im d = P ++ l →
  (∀ u ∈ P, inoAt im u ≠ 0 → ∃ y ∈ r.1, y = nmOf im u) → ApartN im P → Okk im (dirK im.length M im l r).2 → (∃ c' ds', FI M im c' (dirK im.length M im l r).2 (V ++ l) [] ds' nd ∧ ds <+: ds') ∧ ApartN im (P ++ l)
 | [], P, V, ds, c, r, hI, _, _, _, ha, _ => ⟨⟨c, ds, by rw [List.append_nil]; exact hI, List.prefix_rfl⟩, by rw [List.append_nil]; exact ha⟩
 | x :: l, P, V, ds, c, r, hI, hv, hP, hn, ha, hOk => by
  have hM := Int.natCast_nonneg M;obtain ⟨v1, _, _⟩ := slot_inv hM hv;obtain ⟨_, m2, _⟩ := dirK_inv hM l (slotL im.length M im x r) v1;have hOk1 : Okk im (slotL im.length M im x r).2 := okk_back rfl v1 m2 (fun n hn => List.mem_append_left _ hn) hOk;obtain ⟨⟨c1, ds1, h1, h1p⟩, h2, h3⟩ := slot_fi hs hI hv hd1 hd2 hd3 hdr hP hn ha hOk1;obtain ⟨⟨c2, ds2, h4, h4p⟩, h5⟩ := dirK_fi hs hd1 hd2 hd3 hdr l (P ++ [x]) (V ++ [x]) ds1 c1 (slotL im.length M im x r) h1 v1 (by rw [hP]; simp) h2 h3 hOk;rw [show V ++ [x] ++ l = V ++ x :: l by simp] at h4;rw [show P ++ [x] ++ l = P ++ x :: l by simp] at h5
  exact ⟨⟨c2, ds2, h4, h1p.trans h4p⟩, h5⟩
theorem allL_fi {M : Nat} {im : Img} (hs : AllSec im) : ∀ (f : Nat) (s : LS) (V ds : List Int) (nd : Nat) (c : Nat → Int → Bool), FI M im c s V [] ds nd → LInv im.length M im s [] → (∀ d ∈ ds.take nd, ApartN im (slotsI im d)) → Okk im (allL im.length M im f s) → M ≤ f + nd →
  ∃ c' V' ds', FI M im c' (allL im.length M im f s) V' [] ds' ds'.length ∧ (allL im.length M im f s).q = [] ∧ ∀ d ∈ ds', ApartN im (slotsI im d)
 | 0, s, V, ds, nd, c, hI, _, ha, _, hf => by
  have hnd : nd = ds.length := by have := hI.si.few; have := hI.si.qn.2; omega
  subst hnd;refine ⟨c, V, ds, hI, ?_, by rw [List.take_length] at ha; exact ha⟩
  show s.q = []
  rw [hI.si.qn.1, List.drop_eq_nil_of_le (Nat.le_refl _)]
  rfl
 | f + 1, s, V, ds, nd, c, hI, hv, ha, hOk, hf => by
  cases hq : s.q with
  | nil =>
   rw [allL_nil hq]
   have hnd : nd = ds.length := by
    have h1 := hI.si.qn.1;rw [hq] at h1;have h2 := congrArg List.length h1;rw [List.length_map, List.length_drop, List.length_nil] at h2;have := hI.si.qn.2
    omega
   subst hnd
   exact ⟨c, V, ds, hI, hq, by rw [List.take_length] at ha; exact ha⟩
  | cons l q =>
   rw [allL_cons hq] at hOk ⊢;obtain ⟨hq1, hq2⟩ := hI.si.qn;rw [hq] at hq1
   have hlt : nd < ds.length := by
    rcases Nat.lt_or_ge nd ds.length with e | e
    ·exact e
    ·rw [List.drop_eq_nil_of_le e] at hq1
     cases hq1
   rw [List.drop_eq_getElem_cons hlt, List.map_cons] at hq1;obtain ⟨hl, hq3⟩ := List.cons.inj hq1;have hmem := List.getElem_mem hlt;have hm := dirs_mem.1 (hI.si.dirs hmem);have hr := (hI.rd _ ((hI.si.dsm _).1 hmem).1).2.1
   have hp : FI M im c { s with q := q } V l ds (nd + 1) := ⟨⟨hI.si.wt, hI.si.tk, hI.si.no, hI.si.one, hI.si.cl, hI.si.nod, hI.si.dsm, by
    have := hI.si.lst;rw [hq] at this
    simpa using this, hq3, hlt⟩, hI.rd, hI.st, hI.ap, hI.sl⟩
   have hM := Int.natCast_nonneg M;have hv1 := hv.pop hq;obtain ⟨v1, _, _⟩ := dirK_inv hM l ([], { s with q := q }) hv1;obtain ⟨_, m2⟩ := allL_inv hM f (dirL im.length M im l { s with q := q }) v1;have hOk1 : Okk im (dirL im.length M im l { s with q := q }) := okk_back rfl v1 m2 (fun n hn => hn) hOk;obtain ⟨⟨c1, ds1, h1, hpre⟩, h2⟩ := dirK_fi hs hm.1 hm.2.1 hm.2.2 hr l [] V ds c ([], { s with q := q }) hp hv1 (by rw [hl]; rfl) (by simp) List.Pairwise.nil hOk1;refine allL_fi hs f _ (V ++ l) ds1 (nd + 1) c1 h1 v1 (fun e he => ?_) hOk (by omega)
   have ht : ds1.take (nd + 1) = ds.take (nd + 1) := by
    obtain ⟨t, rfl⟩ := hpre
    exact List.take_append_of_le_length hlt
   rw [ht, List.take_succ_eq_append_getElem hlt] at he
   rcases List.mem_append.1 he with e1 | e1
   ·exact ha e e1
   ·rw [List.mem_singleton.1 e1, ← hl]
    exact h2
end Go.Proofs.YtpmignilhoihnabGreat

namespace Go.Proofs.YtpmignilhoihnabGreat

def RgS (N M : Int) (s : LS) : Prop := ∀ n, s.cl n = true → M < n ∧ n < N
theorem take_rg {N M : Int} (hM : 0 ≤ M) {z : List Int} {s : LS} (hw : s.wt.length = N) (h : RgS N M s) : RgS N M (takeL N M z s) := fun n hn => by
 have : (takeL N M z s).cl = (dblT N M z s.wt s.cl).2.cl := by
  unfold takeL
  simp only
  split <;> rfl
 rw [this] at hn
 rcases dbl_rg hM z s.wt s.cl hw hn with e | e
 ·exact h n e
 ·exact e
theorem enter_rg {N M : Int} {im : Img} (hM : 0 ≤ M) {i : Int} {s : LS} (hw : s.wt.length = N) (h : RgS N M s) : RgS N M (enterL N M im i s) := by
 cases e : s.tk i with
 | some z => rw [enter_some e]; exact h
 | none => rw [enter_none e]; exact fun n hn => take_rg hM hw h n hn
theorem dirK_rg {N M : Int} {im : Img} (hM : 0 ≤ M) : ∀ (l : List Int) (r : List ByteArray × LS), LInv N M im r.2 l → RgS N M r.2 → RgS N M (dirK N M im l r).2
 | [], _, _, h => h
 | n :: l, r, hv, h => by
  refine dirK_rg hM l (slotL N M im n r) (slot_inv hM hv).1 ?_;unfold slotL
  simp only
  split
  ·exact h
  ·split
   ·exact enter_rg hM hv.len h
   ·exact h
theorem allL_rg {N M : Int} {im : Img} (hM : 0 ≤ M) : ∀ (f : Nat) (s : LS), LInv N M im s [] → RgS N M s → RgS N M (allL N M im f s)
 | 0, _, _, h => h
 | f + 1, s, hv, h => by
  cases hq : s.q with
  | nil => rw [allL_nil hq]; exact h
  | cons l q =>
   rw [allL_cons hq]
   exact allL_rg hM f _ (dirK_inv hM l ([], { s with q := q }) (hv.pop hq)).1 (dirK_rg hM l ([], { s with q := q }) (hv.pop hq) h)
theorem gone_rg {M : Nat} {im : Img} (hs : AllSec im) (hr : rootB M im = true) : RgS im.length M (goneL M im) :=
 allL_rg (Int.natCast_nonneg M) M _ (enter_inv (Int.natCast_nonneg M) (start_inv rfl hs) (root_may hr)) (enter_rg (Int.natCast_nonneg M) (start_inv (M := (M : Int)) rfl hs).len (fun n hn => by cases hn))
theorem fix_rd {M : Nat} {im : Img} (hMl : M < im.length) (hs : AllSec im) (hr : rootB M im = true) (hfix : (lookL M im).wt = im) : (goneL M im).wt = im ∧ ∀ i : Int, 1 ≤ i → i ≤ M → rdI im i = (((goneL M im).tk i).getD Zi, 0) := by
 obtain ⟨hv, _⟩ := gone_inv hs hr;have hrg := gone_rg hs hr;have hfix : layK (goneL M im).tk (goneL M im).wt M = im := hfix
 have hlen : (goneL M im).wt.length = im.length := by have := hv.len; omega
 have hat := fun n : Int => layK_at (goneL M im).tk (goneL M im).wt n M (by omega)
 rw [hfix] at hat;refine ⟨img_ext hlen fun n => ?_, fun i h1 h2 => ?_⟩
 ·by_cases e : 1 ≤ n ∧ n ≤ M
  ·refine (hv.un n ?_).1
   cases e2 : (goneL M im).cl n with
   | false => rfl
   | true => have := (hrg n e2).1; omega
  ·rw [hat n, if_neg e]
 ·have := hat i
  rw [if_pos ⟨h1, h2⟩] at this;unfold rdI;rw [this];unfold inodeW
  cases e : (goneL M im).tk i with
  | none => exact ino_back (by simp [Zi]) Zi_ino
  | some z =>
   obtain ⟨_, z1, z2, _⟩ := hv.tk i z e
   exact ino_back z1 z2
theorem fix_well {M : Nat} {im : Img} (hM : 1 ≤ M) (hMl : M < im.length) (hs : AllSec im) (hr : rootB M im = true) (hfix : (lookL M im).wt = im) : WellP M im := by
 have hM0 := Int.natCast_nonneg M;obtain ⟨hv, hm⟩ := gone_inv hs hr;obtain ⟨hgw, hrd⟩ := fix_rd hMl hs hr hfix
 have hz : ∀ i : Int, 1 ≤ i → i ≤ M → zI im i = ((goneL M im).tk i).getD Zi := fun i h1 h2 => by unfold zI; rw [hrd i h1 h2]
 have hOk : Okk im (goneL M im) := ⟨hgw, fun i z e => by
  obtain ⟨s1, s2, _⟩ := sound_parts (hv.tk i z e).1;rw [hz i s1 s2, e]
  exact set_self z⟩
 have hv0 := enter_inv hM0 (start_inv (M := (M : Int)) (rfl : (im.length : Int) = im.length) hs) (root_may hr);have hOk0 : Okk im (enterL im.length M im 1 (startL im)) := okk_back rfl hv0 hm (fun n hn => hn) hOk;have hf0 : FI M im (fun _ _ => false) (startL im) [] [] [] 0 := ⟨⟨rfl, fun i z hz => (by cases hz), fun _ _ _ => rfl, fun i _ ht => (by cases ht), fun n => ⟨fun e => (by cases e), fun ⟨k, _, e, _⟩ => (by cases e)⟩, List.nodup_nil, fun d => ⟨fun e => (by cases e), fun e => (by cases e.1)⟩, rfl, rfl, Nat.le_refl _⟩, fun i hi => (by cases hi), fun k hk => (by cases hk), fun k l n _ hk => (by cases hk), fun x hx => (by cases hx)⟩
 have hrs : (soundZ M im 1).2 = true ∧ (soundZ M im 1).1.getD 0 0 = 2 := by
  unfold rootB at hr;rw [Bool.and_eq_true, decide_eq_true_eq] at hr
  exact hr
 obtain ⟨c1, ds1, hf1, _⟩ := enter_fi hs hf0 (j := 1) (V' := []) (rest' := []) hOk0 (fun _ => hrs.1) (fun e => absurd rfl e) Rch.root (fun _ => rfl) (fun e => absurd rfl e) (fun _ _ _ => rfl) (fun e => absurd rfl e) rfl (fun x hx => by cases hx);obtain ⟨c, V, ds, hF, hq, hap⟩ := allL_fi hs M _ _ _ _ _ hf1 hv0 (fun d hd => by cases hd) hOk (by omega)
 change FI M im c (goneL M im) V [] ds ds.length at hF
 change (goneL M im).q = [] at hq
 have hV : V = ds.flatMap (slotsI im) := by
  have := hF.si.lst;rw [hq] at this
  simpa using this
 have huse : ∀ i : Int, 1 ≤ i → i ≤ M → kd im i ≠ 0 → ((goneL M im).tk i).isSome = true := fun i h1 h2 h3 => by
  cases e : (goneL M im).tk i with
  | some _ => rfl
  | none =>
   have := hz i h1 h2;rw [e] at this;unfold kd at h3;rw [this] at h3
   exact absurd rfl h3
 have hused : ∀ i : Int, ((goneL M im).tk i).isSome = true → 1 ≤ i ∧ i ≤ M ∧ kd im i ≠ 0 := fun i h => by
  obtain ⟨z, e⟩ := Option.isSome_iff_exists.1 h;obtain ⟨a1, a2, a3, _⟩ := hF.si.tk i z e
  exact ⟨a1, a2, a3⟩
 have hdm : ∀ d, d ∈ dirsL M im → d ∈ ds := fun d hd => by
  obtain ⟨a1, a2, a3⟩ := dirs_mem.1 hd
  exact (hF.si.dsm d).2 ⟨huse d a1 a2 (by rw [a3]; decide), a3⟩
 have hcnt : ∀ i : Int, 1 ≤ i → cntV im V i = wantL M im i := fun i hi => by
  have e1 := hF.si.le i;have e2 := countP_sub (f := slotsI im) (p := nmB im i) (dirs_nodup M im) hdm;rw [← hV] at e2;rw [List.append_nil] at e1;unfold cntV wantL
  by_cases e : i = 1
  ·subst e
   rw [if_pos rfl, if_pos rfl]
   have : V.countP (nmB im 1) = 0 := by
    rw [List.countP_eq_zero]
    intro x hx
    have := (hF.sl x hx).2;unfold nmB
    simp only [decide_eq_true_eq]
    omega
   rw [this]; rfl
  ·rw [if_neg e, if_neg e]
   unfold timesI at *
   omega
 have hcl : ∀ K : Nat, K ≤ M → (∀ k : Nat, k < K → kd im ((k : Int) + 1) ≠ 0 → Still im.length M im (zI im ((k : Int) + 1)) (clN M im k)) ∧ ∀ n, clN M im K n = true ↔ ∃ k : Nat, k < K ∧ kd im ((k : Int) + 1) ≠ 0 ∧ CC M im c k n = true := fun K => by
  induction K with
  | zero => exact fun _ => ⟨fun k hk => by omega, fun n => ⟨fun e => (by cases e), fun ⟨k, hk, _⟩ => (by omega)⟩⟩
  | succ K ih =>
   intro hK
   obtain ⟨ih1, ih2⟩ := ih (by omega)
   by_cases h0 : kd im ((K : Int) + 1) = 0
   ·refine ⟨fun k hk hk0 => ih1 k ?_ hk0, fun n => ?_⟩
    ·by_cases e : k = K
     ·subst e; exact absurd h0 hk0
     ·omega
    ·rw [clN_succ]
     rw [if_pos h0, ih2]
     constructor
     ·rintro ⟨k, k1, k2⟩; exact ⟨k, by omega, k2⟩
     ·rintro ⟨k, k1, k2, k3⟩
      by_cases e : k = K
      ·subst e; exact absurd h0 k2
      ·exact ⟨k, by omega, k2, k3⟩
   ·have hKs := huse ((K : Int) + 1) (by omega) (by omega) h0
    obtain ⟨s1, s2⟩ := still_ki hM0 rfl hs (zI_len im _) (hF.st K hKs) (c1 := clN M im K) (fun n hn hc0 => by
     have hCK : CC M im c K n = true := by unfold CC; rw [hn, hc0]; rfl
     cases e : clN M im K n with
     | false => rfl
     | true =>
      obtain ⟨k, k1, k2, k3⟩ := (ih2 n).1 e;have := hF.ap k K n (by omega) (huse _ (by omega) (by omega) k2) hKs k3;rw [hCK] at this
      cases this)
    refine ⟨fun k hk hk0 => ?_, fun n => ?_⟩
    ·by_cases e : k = K
     ·subst e; exact s1
     ·exact ih1 k (by omega) hk0
    ·rw [clN_succ]
     rw [if_neg h0, s2.cl, Bool.or_eq_true, ih2]
     constructor
     ·rintro (⟨k, k1, k2⟩ | e)
      ·exact ⟨k, by omega, k2⟩
      ·exact ⟨K, by omega, h0, e⟩
     ·rintro ⟨k, k1, k2, k3⟩
      by_cases e : k = K
      ·subst e; exact .inr k3
      ·exact .inl ⟨k, by omega, k2, k3⟩
 have hdir : ∀ i : Int, 1 ≤ i → i ≤ M → kd im i = 2 → i ∈ ds := fun i h1 h2 h3 => hdm i (dirs_mem.2 ⟨h1, h2, h3⟩)
 refine ⟨fun i h1 h2 => by rw [hrd i h1 h2], ?_, fun k hk h0 => (hcl M (Nat.le_refl _)).1 k hk h0, fun i h1 h2 h3 x hx => ?_, fun i h1 h2 h3 => hap i (hdir i h1 h2 h3), fun i h1 h2 h3 => (hF.rd i (huse i h1 h2 h3)).2.1, fun i h1 h2 h3 => ?_, fun i h1 h2 h3 => (hF.rd i (huse i h1 h2 h3)).2.2.2.2⟩
 ·have := hrs.2
  rw [sound_zI (by omega) (by omega)] at this
  exact this
 ·have hxV : x ∈ V := by rw [hV]; exact List.mem_flatMap.2 ⟨i, hdir i h1 h2 h3, hx⟩
  obtain ⟨e1, e2⟩ := hF.sl x hxV;refine ⟨e1, fun h0 => ?_⟩;obtain ⟨e3, e4⟩ := e2 h0
  exact ⟨e3, (hused _ e4).2⟩
 ·obtain ⟨z, e⟩ := Option.isSome_iff_exists.1 (huse i h1 h2 h3)
  obtain ⟨_, _, _, a4⟩ := hF.si.tk i z e;obtain ⟨_, _, b3, b4, _⟩ := hF.rd i (huse i h1 h2 h3)
  have hzz : zI im i = z := by rw [hz i h1 h2, e]; rfl
  have hget : (zI im i).getD 1 0 = cntV im V i := by
   conv => lhs; rw [hzz, a4]
   exact getD_set_eq (by rw [zI_len]; omega)
  have hb := (inoB_parts h3 (rd_parts (by rw [hrd i h1 h2])).1).1 1 (by omega);rw [hget] at hb;have hb2 : cntV im V i ≤ 100 := hb.2;rw [← hcnt i h1]
  exact ⟨hget, b4, hb2, b3⟩
theorem fix_iff {M : Nat} {im : Img} (hM : 1 ≤ M) (hMl : M < im.length) (hs : AllSec im) : WellP M im ↔ rootB M im = true ∧ (lookL M im).wt = im :=
 ⟨fun h => ⟨well_root h hM, look_well hMl hs h hM⟩, fun h => fix_well hM hMl hs h.1 h.2⟩
end Go.Proofs.YtpmignilhoihnabGreat

namespace Go.Proofs.YtpmignilhoihnabGreat

theorem numAt_inj {s t : List Int} (hs : IsSec s) (ht : IsSec t) (p : Nat) : ∀ m : Nat, numAt s p m = numAt t p m → ∀ j, j < m → s.getD (p + j) 0 = t.getD (p + j) 0
 | 0, _, j, hj => by omega
 | k + 1, e, j, hj => by
  have a := numAt_bd hs p k;have b := numAt_bd ht p k
  have hq : (0 : Int) < 256 ^ k := by omega
  have hx : ∀ A x : Int, 0 ≤ A → A < 256 ^ k → (A + x * 256 ^ k) / 256 ^ k = x := fun A x h0 h1 => by
   rw [Int.add_mul_ediv_right _ _ (by omega), Int.ediv_eq_zero_of_lt h0 h1, Int.zero_add]
  have e : numAt s p k + s.getD (p + k) 0 * 256 ^ k = numAt t p k + t.getD (p + k) 0 * 256 ^ k := e
  have e1 : s.getD (p + k) 0 = t.getD (p + k) 0 := by
   have h1 := hx _ (s.getD (p + k) 0) a.1 a.2;have h2 := hx _ (t.getD (p + k) 0) b.1 b.2;rw [e] at h1
   exact h1.symm.trans h2
  by_cases ej : j = k
  ·subst ej; exact e1
  ·rw [e1] at e
   exact numAt_inj hs ht p k (by omega) j (by omega)
theorem ptr_fwd {s : List Int} (hs : IsSec s) : ptrS (ptrsTo s 32) = s := by
 have hb : ptrB (ptrsTo s 32) = true := ptrB_true fun i hi => ptrs_bd hs i
 have h1 := ptr_back (ptrsTo_len s 32) hb;have h2 := ptrS_sec (ptrsTo s 32)
 generalize ptrS (ptrsTo s 32) = t at *
 refine ext_getZ (by rw [h2.1, hs.1]) fun n hn => ?_
 rw [h2.1] at hn
 have e : ∀ (u : List Int) (k : Nat), k < 32 → (ptrsTo u 32).getD k 0 = numAt u (4 * k) 4 := fun u k hk => by simp [ptrsTo, hk]
 have h3 := e t (n / 4) (by omega);rw [h1, e s (n / 4) (by omega)] at h3;have h4 := numAt_inj hs h2 (4 * (n / 4)) 4 h3 (n % 4) (by omega);rw [show 4 * (n / 4) + n % 4 = n by omega] at h4
 exact h4.symm

abbrev StepF := Int → Int → (Int → Bool) → Option (Int → Bool)
def anyP (t : List Int) (k : Nat) : Bool := (t.take k).any (· != 0)
def rowS (st : StepF) (t : List Int) (f each : Int) (sn : Int → Bool) : Nat → Option (Int → Bool)
 | 0 => some sn
 | k + 1 => (rowS st t f each sn k).bind fun s => if t.getD k 0 = 0 then some s else st (f + each * k) (t.getD k 0) s
def blockS (N M cnt : Int) : StepF := fun i p s => if (decide (i < cnt) && claimB N M s p) = true then some (putC s p) else none
def tableS (N M cnt each : Int) (im : Img) (st : StepF) : StepF := fun f p s =>
 if (decide (f < cnt) && claimB N M s p) = true then (if anyP (ptrsTo (secI im p) 32) 32 = true then rowS st (ptrsTo (secI im p) 32) f each (putC s p) 32 else none) else none
def stepZ (st : StepF) (i p : Int) (s : Int → Bool) : Option (Int → Bool) := if p = 0 then some s else st i p s
def ptrsW (N M : Int) (im : Img) (z : List Int) (sn : Int → Bool) : Option (Int → Bool) :=
 (rowS (blockS N M (cntZ z)) ((z.drop 4).take 12) 0 1 sn 12).bind fun s1 =>
 (stepZ (tableS N M (cntZ z) 1 im (blockS N M (cntZ z))) 12 (z.getD 16 0) s1).bind fun s2 =>
 stepZ (tableS N M (cntZ z) 32 im (tableS N M (cntZ z) 1 im (blockS N M (cntZ z)))) 44 (z.getD 17 0) s2
structure KS (im : Img) (keep : KeepF) (st : StepF) : Prop where
 yes : ∀ s i p c', s.wt = im → st i p s.cl = some c' → (keep s i p).1 = true ∧ (keep s i p).2.cl = c' ∧ (keep s i p).2.wt = im
 no : ∀ s i p, s.wt = im → st i p s.cl = none → (keep s i p).1 = true → (keep s i p).2.wt = im → False
theorem keep_zero {N M : Int} {keep : KeepF} (hM : 0 ≤ M) (hk : Kpr N M keep) (s : TS) (hs : s.wt.length = N) (i : Int) : (keep s i 0).1 = false ∧ (keep s i 0).2 = s := by
 have h1 : (keep s i 0).1 = false := by
  cases e : (keep s i 0).1 with
  | false => rfl
  | true => have := (hk.yes s i 0 hs e).2.2.1; omega
 exact ⟨h1, hk.no s i 0 hs h1⟩
theorem row_yes {N M : Int} {im : Img} {keep : KeepF} {st : StepF} (hM : 0 ≤ M) (hN : im.length = N) (hk : Kpr N M keep) (h : KS im keep st) (t : List Int) (f each : Int) (s : TS) (hs : s.wt = im) : ∀ (k : Nat) (c' : Int → Bool), rowS st t f each s.cl k = some c' →
  (∀ j, j < k → t.getD j 0 = 0 ∨ (innerF each f keep (goK (innerF each f keep) t s j).2 j (t.getD j 0)).1 = true) ∧ (goK (innerF each f keep) t s k).2.cl = c' ∧ (goK (innerF each f keep) t s k).2.wt = im
 | 0, c', e => ⟨fun j hj => by omega, by cases e; rfl, hs⟩
 | k + 1, c', e => by
  rw [rowS] at e;obtain ⟨s1, e1, e2⟩ := Option.bind_eq_some_iff.1 e;obtain ⟨i1, i2, i3⟩ := row_yes hM hN hk h t f each s hs k s1 e1
  have hl : (goK (innerF each f keep) t s k).2.wt.length = N := by rw [i3]; exact hN
  have hst : (goK (innerF each f keep) t s (k + 1)).2 = (keep (goK (innerF each f keep) t s k).2 (f + each * k) (t.getD k 0)).2 := rfl
  split at e2
  ·rename_i h0
   cases e2
   obtain ⟨z1, z2⟩ := keep_zero hM hk _ hl (f + each * k);refine ⟨fun j hj => ?_, by rw [hst, h0, z2]; exact i2, by rw [hst, h0, z2]; exact i3⟩
   by_cases ej : j = k
   ·subst ej; exact .inl h0
   ·exact i1 j (by omega)
  ·rw [← i2] at e2
   obtain ⟨y1, y2, y3⟩ := h.yes _ _ _ _ i3 e2;refine ⟨fun j hj => ?_, by rw [hst]; exact y2, by rw [hst]; exact y3⟩
   by_cases ej : j = k
   ·subst ej; exact .inr y1
   ·exact i1 j (by omega)
theorem row_back {N M : Int} {im : Img} {keep : KeepF} {st : StepF} (hM : 0 ≤ M) (hN : im.length = N) (hk : Kpr N M keep) (h : KS im keep st) (t : List Int) (f each : Int) (s : TS) : ∀ (k : Nat), (∀ j, j ≤ k → (goK (innerF each f keep) t s j).2.wt = im) →
  (∀ j, j < k → t.getD j 0 = 0 ∨ (innerF each f keep (goK (innerF each f keep) t s j).2 j (t.getD j 0)).1 = true) → rowS st t f each s.cl k = some (goK (innerF each f keep) t s k).2.cl
 | 0, _, _ => rfl
 | k + 1, hw, hy => by
  have ih := row_back hM hN hk h t f each s k (fun j hj => hw j (by omega)) (fun j hj => hy j (by omega));have hwk := hw k (by omega)
  have hl : (goK (innerF each f keep) t s k).2.wt.length = N := by rw [hwk]; exact hN
  have hst : (goK (innerF each f keep) t s (k + 1)).2 = (keep (goK (innerF each f keep) t s k).2 (f + each * k) (t.getD k 0)).2 := rfl;rw [rowS, ih, Option.bind_some, hst]
  by_cases h0 : t.getD k 0 = 0
  ·rw [if_pos h0, h0, (keep_zero hM hk _ hl (f + each * k)).2]
  ·rw [if_neg h0]
   have hy := (hy k (by omega)).resolve_left h0;have hw1 := hw (k + 1) (Nat.le_refl _);rw [hst] at hw1
   cases e : st (f + each * k) (t.getD k 0) (goK (innerF each f keep) t s k).2.cl with
   | none => exact (h.no _ _ _ hwk e hy hw1).elim
   | some c' => rw [(h.yes _ _ _ _ hwk e).2.1]
theorem block_ks (N M cnt : Int) (im : Img) : KS im (blockF N M cnt) (blockS N M cnt) where
 yes := fun s i p c' hw e => by
  unfold blockS at e
  split at e
  ·rename_i h
   cases e
   unfold blockF;rw [if_pos h]
   exact ⟨rfl, rfl, hw⟩
  ·cases e
 no := fun s i p _ e hb _ => by
  unfold blockS at e
  split at e
  ·cases e
  ·rename_i h
   unfold blockF at hb;rw [if_neg h] at hb
   cases hb
theorem any_Zp {t : List Int} (ht : t.length = 32) : anyP t 32 = true ↔ t ≠ Zp := by
 unfold anyP;rw [← ht, List.take_length, List.any_eq_true]
 constructor
 ·rintro ⟨x, hx, h0⟩ rfl
  have := List.eq_of_mem_replicate hx;subst this
  cases h0
 ·intro h
  by_cases e : ∃ x ∈ t, (x != 0) = true
  ·exact e
  ·refine absurd (List.eq_replicate_iff.2 ⟨ht, fun x hx => ?_⟩) h
   by_cases ex : x = 0
   ·exact ex
   ·exact absurd ⟨x, hx, by simpa using ex⟩ e
theorem row_stays (keep : KeepF) (t : List Int) (s : TS) (K : Nat) (ht : t.length = K) : (goK keep t s K).1 = t ↔ ∀ j, j < K → t.getD j 0 = 0 ∨ (keep (goK keep t s j).2 j (t.getD j 0)).1 = true := by
 constructor
 ·intro e j hj
  have hg := goK_get keep t s j K (by omega);rw [if_pos hj, e] at hg
  by_cases h : (keep (goK keep t s j).2 j (t.getD j 0)).1 = true
  ·exact .inr h
  ·rw [if_neg h] at hg; exact .inl hg
 ·intro h
  refine ext_getZ (goK_len _ _ _ _) fun j hj => ?_
  rw [goK_len, ht] at hj;rw [goK_get keep t s j K (by omega), if_pos hj]
  rcases h j hj with e | e
  ·rw [e]; split <;> rfl
  ·rw [if_pos e]
theorem table_ks {N M cnt each : Int} {im : Img} {keep : KeepF} {st : StepF} (hM : 0 ≤ M) (hN : im.length = N) (hs : AllSec im) (hk : Kpr N M keep) (h : KS im keep st) : KS im (tableF N M cnt each keep) (tableS N M cnt each im st) where
 yes := fun s f p c' hw e => by
  have hsl : s.wt.length = N := by rw [hw]; exact hN
  unfold tableS at e
  split at e
  ·rename_i hc
   split at e
   ·rename_i ha
    have hcp := (Bool.and_eq_true _ _ ▸ hc : _ ∧ _)
    obtain ⟨b1, b2, b3⟩ := claimB_of.1 hcp.2;obtain ⟨r1, r2, r3⟩ := row_yes hM hN hk h (ptrsTo (secI im p) 32) f each ⟨s.wt, putC s.cl p, s.sp⟩ hw 32 c' e
    have hg1 : (gone each f keep s p).1 = ptrsTo (secI im p) 32 := by
     unfold gone;rw [hw] at *
     exact (row_stays _ _ _ 32 (ptrsTo_len _ _)).2 r1
    have hg2 : (gone each f keep s p).2.cl = c' ∧ (gone each f keep s p).2.wt = im := by
     unfold gone;rw [hw] at *
     exact ⟨r2, r3⟩
    have hz := (any_Zp (ptrsTo_len _ _)).1 ha
    rcases table_cases (cnt := cnt) (each := each) hM hk s hsl f p with ⟨hc', _⟩ | ⟨_, hz', _⟩ | ⟨_, _, e2⟩
    ·exact absurd hc hc'
    ·rw [hg1] at hz'; exact absurd hz' hz
    ·rw [e2]
     refine ⟨rfl, hg2.1, ?_⟩
     show (gone each f keep s p).2.wt.set p.toNat (ptrS (gone each f keep s p).1) = im
     rw [hg2.2, hg1, ptr_fwd (hs p)]
     refine img_ext (by simp) fun n => ?_
     by_cases en : n = p
     ·subst en
      exact secI_set (by omega) (by omega)
     ·exact secI_set_ne (by omega) en
   ·cases e
  ·cases e
 no := fun s f p hw e hb hwe => by
  have hsl : s.wt.length = N := by rw [hw]; exact hN
  rcases table_cases (cnt := cnt) (each := each) hM hk s hsl f p with ⟨_, e2⟩ | ⟨_, _, e2⟩ | ⟨hc, hz, e2⟩
  ·rw [e2] at hb; cases hb
  ·rw [e2] at hb; cases hb
  ·rw [e2] at hwe
   have hcp := (Bool.and_eq_true _ _ ▸ hc : _ ∧ _)
   obtain ⟨b1, b2, b3⟩ := claimB_of.1 hcp.2;have hm := gone_mo (each := each) (f := f) hk s hsl p
   have hgl : (gone each f keep s p).2.wt.length = N := by rw [hm.len]; exact hsl
   have hw' : (gone each f keep s p).2.wt.set p.toNat (ptrS (gone each f keep s p).1) = im := hwe
   have hp1 : secI im p = ptrS (gone each f keep s p).1 := by
    rw [← hw']
    exact secI_set (by omega) (by rw [hgl]; exact b3)
   have hst : (gone each f keep s p).1 = ptrsTo (secI im p) 32 := by
    have := gone_back each f keep s p (by rw [hw]; exact hs p);rw [← hp1] at this
    exact this.symm
   have hg2 : (gone each f keep s p).2.wt = im := by
    refine img_ext (by omega) fun n => ?_
    by_cases e2 : n = p
    ·subst e2
     rw [hm.wt n (putC_self _ _)]
     show secI s.wt n = _
     rw [hw]
    ·rw [← hw']
     exact (secI_set_ne (by omega) e2).symm
   have hgone : gone each f keep s p = goK (innerF each f keep) (ptrsTo (secI im p) 32) ⟨s.wt, putC s.cl p, s.sp⟩ 32 := by
    unfold gone;rw [hw]
   have hall := (row_stays (innerF each f keep) (ptrsTo (secI im p) 32) ⟨s.wt, putC s.cl p, s.sp⟩ 32 (ptrsTo_len _ _)).1 (by rw [← hgone]; exact hst)
   have hws : ∀ j, j ≤ 32 → (goK (innerF each f keep) (ptrsTo (secI im p) 32) ⟨s.wt, putC s.cl p, s.sp⟩ j).2.wt = im := fun j hj =>
    wt_mid (goK_mo (inner_kpr (each := each) (f := f) hk) (ptrsTo (secI im p) 32) ⟨s.wt, putC s.cl p, s.sp⟩ hsl j) (goK_later (inner_kpr (each := each) (f := f) hk) (ptrsTo (secI im p) 32) ⟨s.wt, putC s.cl p, s.sp⟩ hsl j 32 hj) hw (by rw [← hgone]; exact hg2)
   have hrow := row_back hM hN hk h (ptrsTo (secI im p) 32) f each ⟨s.wt, putC s.cl p, s.sp⟩ 32 hws hall;rw [hst] at hz;unfold tableS at e;rw [if_pos hc, if_pos ((any_Zp (ptrsTo_len _ _)).2 hz)] at e;have hrow : rowS st (ptrsTo (secI im p) 32) f each (putC s.cl p) 32 = some _ := hrow;rw [hrow] at e
   cases e
end Go.Proofs.YtpmignilhoihnabGreat

namespace Go.Proofs.YtpmignilhoihnabGreat

theorem inner_one (keep : KeepF) : innerF 1 0 keep = keep := by
 funext s k p
 unfold innerF;rw [show (0 : Int) + 1 * k = k by omega]
theorem slot_ks {N M : Int} {im : Img} {keep : KeepF} {st : StepF} (hM : 0 ≤ M) (hN : im.length = N) (hk : Kpr N M keep) (h : KS im keep st) (s : TS) (hs : s.wt = im) (i p : Int) (c' : Int → Bool) :
  stepZ st i p s.cl = some c' ↔ leftF (keep s i p).1 p = p ∧ (keep s i p).2.wt = im ∧ (keep s i p).2.cl = c' := by
 have hl : s.wt.length = N := by rw [hs]; exact hN
 unfold stepZ
 by_cases h0 : p = 0
 ·subst h0
  obtain ⟨z1, z2⟩ := keep_zero hM hk s hl i;rw [if_pos rfl, z1, z2];unfold leftF
  simp only [Option.some.injEq]
  constructor
  ·rintro rfl; exact ⟨rfl, hs, rfl⟩
  ·rintro ⟨_, _, e⟩; exact e
 ·rw [if_neg h0]
  constructor
  ·intro e
   obtain ⟨y1, y2, y3⟩ := h.yes s i p c' hs e;rw [y1]
   exact ⟨rfl, y3, y2⟩
  ·rintro ⟨e1, e2, e3⟩
   have hb : (keep s i p).1 = true := by
    cases e : (keep s i p).1 with
    | true => rfl
    | false => rw [e] at e1; exact absurd e1.symm h0
   cases e : st i p s.cl with
   | none => exact (h.no s i p hs e hb e2).elim
   | some c2 => rw [← e3, (h.yes s i p c2 hs e).2.1]
theorem inoT_same {N M : Int} {z : List Int} (hz : z.length = 18) (wt : Img) (cl : Int → Bool) : inoT N M z wt cl = z.set 1 0 ↔ (dirT N M z wt cl).1 = (z.drop 4).take 12 ∧ leftF (sinT N M z wt cl).1 (z.getD 16 0) = z.getD 16 0 ∧ leftF (dblT N M z wt cl).1 (z.getD 17 0) = z.getD 17 0 := by
 constructor
 ·intro h
  have hg : ∀ m, 4 ≤ m → (inoT N M z wt cl).getD m 0 = z.getD m 0 := fun m hm => by rw [h, getD_set_ne (by omega)]
  refine ⟨ext_getZ (by rw [dirT_len hz, part_len hz]) fun j hj => ?_, ?_, ?_⟩
  ·rw [dirT_len hz] at hj
   rw [part_get hz hj, ← inoT_dir hz wt cl hj]
   exact hg _ (by omega)
  ·rw [← inoT_sin hz wt cl]; exact hg 16 (by omega)
  ·rw [← inoT_dbl hz wt cl]; exact hg 17 (by omega)
 ·rintro ⟨h1, h2, h3⟩
  refine ext_getZ (by rw [inoT_len' hz]; simp [hz]) fun j hj => ?_
  rw [inoT_len' hz] at hj;obtain ⟨a0, a1, a2, a3⟩ := inoT_0 N M z wt cl
  by_cases e1 : j = 1
  ·subst e1
   rw [a1, getD_set_eq (by omega)]
  ·rw [getD_set_ne (Ne.symm e1)]
   by_cases e0 : j = 0
   ·subst e0; exact a0
   ·by_cases e2 : j = 2
    ·subst e2; exact a2
    ·by_cases e3 : j = 3
     ·subst e3; exact a3
     ·by_cases e4 : j < 16
      ·obtain ⟨k, rfl⟩ : ∃ k, j = 4 + k := ⟨j - 4, by omega⟩
       rw [inoT_dir hz wt cl (by omega), h1, part_get hz (by omega)]
      ·by_cases e5 : j = 16
       ·subst e5; rw [inoT_sin hz]; exact h2
       ·obtain rfl : j = 17 := by omega
        rw [inoT_dbl hz]; exact h3
theorem ptrsW_iff {N M : Int} {im : Img} (hM : 0 ≤ M) (hN : im.length = N) (hs : AllSec im) {z : List Int} (hz : z.length = 18) (sn c' : Int → Bool) : ptrsW N M im z sn = some c' ↔ Still N M im z sn ∧ (dblT N M z im sn).2.cl = c' := by
 have kb := block_kpr N M (cntZ z);have sb := block_ks N M (cntZ z) im;have ks : Kpr N M (tableF N M (cntZ z) 1 (blockF N M (cntZ z))) := table_kpr hM kb;have ss : KS im (tableF N M (cntZ z) 1 (blockF N M (cntZ z))) (tableS N M (cntZ z) 1 im (blockS N M (cntZ z))) := table_ks hM hN hs kb sb;have kd' : Kpr N M (tableF N M (cntZ z) 32 (tableF N M (cntZ z) 1 (blockF N M (cntZ z)))) := table_kpr hM ks;have sd : KS im (tableF N M (cntZ z) 32 (tableF N M (cntZ z) 1 (blockF N M (cntZ z)))) (tableS N M (cntZ z) 32 im (tableS N M (cntZ z) 1 im (blockS N M (cntZ z)))) := table_ks hM hN hs ks ss;have md := dir_mo (N := N) (M := M) z im sn hN;have ms := sin_mo (N := N) (M := M) hM z im sn hN;have mq := dbl_mo0 (N := N) (M := M) hM z im sn hN
 have hdir : dirT N M z im sn = goK (innerF 1 0 (blockF N M (cntZ z))) ((z.drop 4).take 12) ⟨im, sn, []⟩ 12 := by rw [inner_one]; rfl
 have hrow : ∀ s1, rowS (blockS N M (cntZ z)) ((z.drop 4).take 12) 0 1 sn 12 = some s1 ↔ (dirT N M z im sn).1 = (z.drop 4).take 12 ∧ (dirT N M z im sn).2.wt = im ∧ (dirT N M z im sn).2.cl = s1 := fun s1 => by
  rw [hdir]
  constructor
  ·intro e
   obtain ⟨r1, r2, r3⟩ := row_yes hM hN kb sb ((z.drop 4).take 12) 0 1 ⟨im, sn, []⟩ rfl 12 s1 e
   exact ⟨(row_stays _ _ _ 12 (part_len hz)).2 r1, r3, r2⟩
  ·rintro ⟨r1, r2, r3⟩
   rw [← r3];have k' := inner_kpr (each := 1) (f := 0) kb
   exact row_back hM hN kb sb ((z.drop 4).take 12) 0 1 ⟨im, sn, []⟩ 12 (fun j hj => wt_mid (goK_mo k' _ ⟨im, sn, []⟩ hN j) (goK_later k' _ ⟨im, sn, []⟩ hN j 12 hj) rfl r2) ((row_stays _ _ _ 12 (part_len hz)).1 r1)
 unfold ptrsW Still;rw [inoT_same hz]
 constructor
 ·intro e
  obtain ⟨s1, e1, e⟩ := Option.bind_eq_some_iff.1 e;obtain ⟨s2, e2, e⟩ := Option.bind_eq_some_iff.1 e;obtain ⟨a1, a2, a3⟩ := (hrow s1).1 e1;subst a3;obtain ⟨b1, b2, b3⟩ := (slot_ks hM hN ks ss (dirT N M z im sn).2 a2 12 (z.getD 16 0) s2).1 e2;subst b3;obtain ⟨d1, d2, d3⟩ := (slot_ks hM hN kd' sd (sinT N M z im sn).2 b2 44 (z.getD 17 0) c').1 e
  exact ⟨⟨⟨a1, b1, d1⟩, d2⟩, d3⟩
 ·rintro ⟨⟨⟨a1, b1, d1⟩, d2⟩, d3⟩
  have w2 : (sinT N M z im sn).2.wt = im := wt_mid (md.trans ms) mq rfl d2;have w1 : (dirT N M z im sn).2.wt = im := wt_mid md ms rfl w2;rw [(hrow _).2 ⟨a1, w1, rfl⟩, Option.bind_some];rw [(slot_ks hM hN ks ss (dirT N M z im sn).2 w1 12 (z.getD 16 0) (sinT N M z im sn).2.cl).2 ⟨b1, w2, rfl⟩, Option.bind_some]
  exact (slot_ks hM hN kd' sd (sinT N M z im sn).2 w2 44 (z.getD 17 0) c').2 ⟨d1, d2, d3⟩
end Go.Proofs.YtpmignilhoihnabGreat
