/-
 A look that ends with the image as it is: an inode is entered.
-/
import Derived.Test.YtpmignilhoihnabGreatH9
namespace Go.Proofs.YtpmignilhoihnabGreat

structure TQ (im : Img) (c0 c1 : Int → Bool) (s t : TS) : Prop where
 ws : s.wt = im
 wt : t.wt = im
 sp : t.sp = s.sp
 mo : ∀ n, c0 n = true → s.cl n = true
 cl : ∀ n, t.cl n = (c1 n || (s.cl n && !c0 n))
def AptT (c0 c1 : Int → Bool) (u : TS) : Prop := ∀ n, u.cl n = true → c0 n = false → c1 n = false
theorem AptT.sub {c0 c1 : Int → Bool} {u v : TS} (h : AptT c0 c1 v) (m : Mo u v) : AptT c0 c1 u := fun n hn h0 => h n (m.cl n hn) h0
def Ki (im : Img) (c0 c1 : Int → Bool) (keep : KeepF) : Prop := ∀ s t i p, TQ im c0 c1 s t → (p = 0 ∨ (keep s i p).1 = true) → (keep s i p).2.wt = im → AptT c0 c1 (keep s i p).2 →
 (keep t i p).1 = (keep s i p).1 ∧ TQ im c0 c1 (keep s i p).2 (keep t i p).2
theorem TQ.off {im : Img} {c0 c1 : Int → Bool} {s t : TS} (h : TQ im c0 c1 s t) {p : Int} (hs : s.cl p = false) (h1 : c1 p = false) : t.cl p = false := by
 rw [h.cl, hs, h1]; rfl
theorem TQ.put {im : Img} {c0 c1 : Int → Bool} {s t : TS} (h : TQ im c0 c1 s t) {p : Int} (hs : s.cl p = false) (sp : List (Int × Int)) : TQ im c0 c1 ⟨s.wt, putC s.cl p, sp⟩ ⟨t.wt, putC t.cl p, sp⟩ := by
 have h0 : c0 p = false := by
  cases e : c0 p with
  | false => rfl
  | true => rw [h.mo p e] at hs; cases hs
 refine ⟨h.ws, h.wt, rfl, fun n hn => putC_old (h.mo n hn), fun n => ?_⟩
 show putC t.cl p n = (c1 n || (putC s.cl p n && !c0 n))
 unfold putC
 by_cases e : n = p
 ·subst e; simp [h0]
 ·rw [beq_false_of_ne e, Bool.false_or, Bool.false_or]; exact h.cl n
theorem block_ki {N M cnt : Int} (hM : 0 ≤ M) (im : Img) (c0 c1 : Int → Bool) : Ki im c0 c1 (blockF N M cnt) := fun s t i p h hp _ ha => by
 by_cases hk : (decide (i < cnt) && claimB N M s.cl p) = true
 ·have hk' := (Bool.and_eq_true _ _ ▸ hk : _ ∧ _)
  obtain ⟨a1, a2, a3⟩ := claimB_of.1 hk'.2
  have e1 : blockF N M cnt s i p = (true, ⟨s.wt, putC s.cl p, s.sp ++ [(i, p)]⟩) := by unfold blockF; rw [if_pos hk]
  rw [e1] at ha ⊢
  have h0 : c0 p = false := by
   cases e : c0 p with
   | false => rfl
   | true => rw [h.mo p e] at a1; cases a1
  have h1 := ha p (putC_self _ _) h0
  have e2 : blockF N M cnt t i p = (true, ⟨t.wt, putC t.cl p, t.sp ++ [(i, p)]⟩) := by
   unfold blockF;rw [if_pos];rw [Bool.and_eq_true]
   exact ⟨hk'.1, claimB_of.2 ⟨h.off a1 h1, a2, a3⟩⟩
  rw [e2];refine ⟨rfl, ?_⟩;rw [h.sp]
  exact h.put a1 _
 ·have e1 : blockF N M cnt s i p = (false, s) := by unfold blockF; rw [if_neg hk]
  rw [e1] at hp ⊢
  obtain rfl : p = 0 := by
   rcases hp with e | e
   ·exact e
   ·cases e
  have e2 : blockF N M cnt t i 0 = (false, t) := by unfold blockF; rw [claim_zero hM, Bool.and_false, if_neg (by simp)]
  rw [e2]
  exact ⟨rfl, h⟩
theorem inner_ki {each f : Int} {im : Img} {c0 c1 : Int → Bool} {keep : KeepF} (h : Ki im c0 c1 keep) : Ki im c0 c1 (innerF each f keep) := fun s t _ p k hp hw ha => h s t _ p k hp hw ha
theorem goK_ki {N M : Int} {im : Img} {c0 c1 : Int → Bool} {keep : KeepF} (hN : im.length = N) (hk : Kpr N M keep) (hi : Ki im c0 c1 keep) (a : List Int) (K : Nat) (ha : a.length = K) (s t : TS) (h : TQ im c0 c1 s t)
  (hst : (goK keep a s K).1 = a) (hw : ∀ k, k ≤ K → (goK keep a s k).2.wt = im) (hap : AptT c0 c1 (goK keep a s K).2) :
  ∀ k, k ≤ K → TQ im c0 c1 (goK keep a s k).2 (goK keep a t k).2 ∧ ∀ j, j < k → (keep (goK keep a t j).2 j (a.getD j 0)).1 = (keep (goK keep a s j).2 j (a.getD j 0)).1
 | 0, _ => ⟨h, fun j hj => by omega⟩
 | k + 1, hkK => by
  obtain ⟨ih, ip⟩ := goK_ki hN hk hi a K ha s t h hst hw hap k (by omega)
  have hs : s.wt.length = N := by rw [h.ws]; exact hN
  have hga := goK_get keep a s k K (by omega);rw [if_pos (show k < K by omega), hst] at hga
  have hp : a.getD k 0 = 0 ∨ (keep (goK keep a s k).2 k (a.getD k 0)).1 = true := by
   by_cases e : (keep (goK keep a s k).2 k (a.getD k 0)).1 = true
   ·exact .inr e
   ·rw [if_neg e] at hga; exact .inl hga
  have hstep := hi (goK keep a s k).2 (goK keep a t k).2 k (a.getD k 0) ih hp (hw (k + 1) hkK) (hap.sub (goK_later hk a s hs (k + 1) K hkK));refine ⟨hstep.2, fun j hj => ?_⟩
  by_cases e : j = k
  ·subst e; exact hstep.1
  ·exact ip j (by omega)
theorem goK_ki_end {N M : Int} {im : Img} {c0 c1 : Int → Bool} {keep : KeepF} (hN : im.length = N) (hk : Kpr N M keep) (hi : Ki im c0 c1 keep) (a : List Int) (K : Nat) (ha : a.length = K) (s t : TS) (h : TQ im c0 c1 s t)
  (hst : (goK keep a s K).1 = a) (hw : ∀ k, k ≤ K → (goK keep a s k).2.wt = im) (hap : AptT c0 c1 (goK keep a s K).2) :
  (goK keep a t K).1 = a ∧ TQ im c0 c1 (goK keep a s K).2 (goK keep a t K).2 := by
 obtain ⟨h1, h2⟩ := goK_ki hN hk hi a K ha s t h hst hw hap K (Nat.le_refl _);refine ⟨?_, h1⟩
 refine ext_getZ (by rw [goK_len]) fun j hj => ?_
 rw [goK_len, ha] at hj;have hg := goK_get keep a s j K (by omega);rw [if_pos hj, hst] at hg;rw [goK_get keep a t j K (by omega), if_pos hj, h2 j hj]
 exact hg.symm
theorem wt_mid {im : Img} {a b c : TS} (h1 : Mo a b) (h2 : Mo b c) (ha : a.wt = im) (hc : c.wt = im) : b.wt = im := by
 refine img_ext (by rw [h1.len, ha]) fun n => ?_
 cases e : b.cl n with
 | true => rw [← h2.wt n e, hc]
 | false => rw [h1.un n e, ha]
theorem table_ki {N M cnt each : Int} {im : Img} {c0 c1 : Int → Bool} {keep : KeepF} (hM : 0 ≤ M) (hN : im.length = N) (hs : AllSec im) (hk : Kpr N M keep) (hi : Ki im c0 c1 keep) : Ki im c0 c1 (tableF N M cnt each keep) := fun s t f p h hp hw ha => by
 have hsl : s.wt.length = N := by rw [h.ws]; exact hN
 have htl : t.wt.length = N := by rw [h.wt]; exact hN
 have hzero : tableF N M cnt each keep t f 0 = (false, t) := by
  unfold tableF;rw [claim_zero hM, Bool.and_false, if_neg (by simp)]
 rcases table_cases (cnt := cnt) (each := each) hM hk s hsl f p with ⟨hc, e⟩ | ⟨hc, hz, e⟩ | ⟨hc, hz, e⟩
 ·rw [e] at hp ⊢
  obtain rfl : p = 0 := by
   rcases hp with e | e
   ·exact e
   ·cases e
  rw [hzero]; exact ⟨rfl, h⟩
 ·rw [e] at hp ⊢
  obtain rfl : p = 0 := by
   rcases hp with e | e
   ·exact e
   ·cases e
  rw [hzero]; exact ⟨rfl, h⟩
 ·rw [e] at hw ha ⊢
  have hcp := (Bool.and_eq_true _ _ ▸ hc : _ ∧ _)
  obtain ⟨b1, b2, b3⟩ := claimB_of.1 hcp.2;have hm := gone_mo (each := each) (f := f) hk s hsl p;have hon : (gone each f keep s p).2.cl p = true := hm.cl p (putC_self _ _)
  have hgl : (gone each f keep s p).2.wt.length = N := by rw [hm.len]; exact hsl
  -- the table is as it was
  have hw' : (gone each f keep s p).2.wt.set p.toNat (ptrS (gone each f keep s p).1) = im := hw
  have hp1 : secI im p = ptrS (gone each f keep s p).1 := by
   rw [← hw']
   exact secI_set (by omega) (by rw [hgl]; exact b3)
  have hst : (gone each f keep s p).1 = ptrsTo (secI s.wt p) 32 := by
   have := gone_back each f keep s p (by rw [h.ws]; exact hs p);rw [← hp1] at this;rw [h.ws]
   exact this.symm
  have hg2 : (gone each f keep s p).2.wt = im := by
   refine img_ext (by omega) fun n => ?_
   by_cases e2 : n = p
   ·subst e2
    rw [hm.wt n (putC_self _ _)]
    show secI s.wt n = _
    rw [h.ws]
   ·rw [← hw']
    exact (secI_set_ne (by omega) e2).symm
  have h0 : c0 p = false := by
   cases e : c0 p with
   | false => rfl
   | true => rw [h.mo p e] at b1; cases b1
  have h1 : c1 p = false := ha p hon h0;have htp : t.cl p = false := h.off b1 h1;have hsame := goK_ki_end hN (inner_kpr (each := each) (f := f) hk) (inner_ki hi) (ptrsTo (secI s.wt p) 32) 32 (ptrsTo_len _ _) ⟨s.wt, putC s.cl p, s.sp⟩ ⟨t.wt, putC t.cl p, s.sp⟩ (h.put b1 _) hst (fun k hkk => wt_mid (goK_mo (inner_kpr (each := each) (f := f) hk) (ptrsTo (secI s.wt p) 32) ⟨s.wt, putC s.cl p, s.sp⟩ hsl k) (goK_later (inner_kpr (each := each) (f := f) hk) (ptrsTo (secI s.wt p) 32) ⟨s.wt, putC s.cl p, s.sp⟩ hsl k 32 hkk) h.ws hg2) ha
  have hgt : gone each f keep t p = goK (innerF each f keep) (ptrsTo (secI s.wt p) 32) ⟨t.wt, putC t.cl p, s.sp⟩ 32 := by
   unfold gone;rw [h.wt, h.ws, h.sp]
  have k1 : (gone each f keep t p).1 = (gone each f keep s p).1 := by rw [hgt, hsame.1, hst]
  have k2 : TQ im c0 c1 (gone each f keep s p).2 (gone each f keep t p).2 := by rw [hgt]; exact hsame.2
  rcases table_cases (cnt := cnt) (each := each) hM hk t htl f p with ⟨k, _⟩ | ⟨_, k, _⟩ | ⟨_, _, e3⟩
  ·exact absurd (by rw [Bool.and_eq_true]; exact ⟨hcp.1, claimB_of.2 ⟨htp, b2, b3⟩⟩) k
  ·exact absurd (k1.symm.trans k) hz
  ·rw [e3, k1]
   refine ⟨rfl, hw, ?_, k2.sp, k2.mo, k2.cl⟩
   show (gone each f keep t p).2.wt.set p.toNat (ptrS (gone each f keep s p).1) = im
   rw [k2.wt, ← hg2]
   exact hw.trans hg2.symm
end Go.Proofs.YtpmignilhoihnabGreat

namespace Go.Proofs.YtpmignilhoihnabGreat

def Still (N M : Int) (im : Img) (z : List Int) (cl : Int → Bool) : Prop := inoT N M z im cl = z.set 1 0 ∧ (dblT N M z im cl).2.wt = im
theorem still_ki {N M : Int} {im : Img} (hM : 0 ≤ M) (hN : im.length = N) (hs : AllSec im) {z : List Int} (hz : z.length = 18) {c0 c1 : Int → Bool} (h : Still N M im z c0) (ha : ∀ n, (dblT N M z im c0).2.cl n = true → c0 n = false → c1 n = false) :
  Still N M im z c1 ∧ TQ im c0 c1 (dblT N M z im c0).2 (dblT N M z im c1).2 := by
 have kb := block_kpr N M (cntZ z);have ib := block_ki (N := N) (cnt := cntZ z) hM im c0 c1;have ks : Kpr N M (singleF N M (cntZ z)) := table_kpr hM kb;have is : Ki im c0 c1 (singleF N M (cntZ z)) := table_ki hM hN hs kb ib;have id : Ki im c0 c1 (doubleF N M (cntZ z)) := table_ki hM hN hs ks is;have md := dir_mo (N := N) (M := M) z im c0 hN;have ms := sin_mo (N := N) (M := M) hM z im c0 hN;have mq := dbl_mo0 (N := N) (M := M) hM z im c0 hN;obtain ⟨h1, h2⟩ := h;have w2 : (sinT N M z im c0).2.wt = im := wt_mid (md.trans ms) mq rfl h2;have w1 : (dirT N M z im c0).2.wt = im := wt_mid md ms rfl w2
 have hget : ∀ m, 4 ≤ m → m < 18 → (inoT N M z im c0).getD m 0 = z.getD m 0 := fun m a b => by rw [h1, getD_set_ne (by omega)]
 have hdir : (dirT N M z im c0).1 = (z.drop 4).take 12 := by
  refine ext_getZ (by rw [dirT_len hz, part_len hz]) fun j hj => ?_
  rw [dirT_len hz] at hj;rw [part_get hz hj, ← inoT_dir hz im c0 hj]
  exact hget (4 + j) (by omega) (by omega)
 have start : TQ im c0 c1 ⟨im, c0, []⟩ ⟨im, c1, []⟩ := ⟨rfl, rfl, rfl, fun _ e => e, fun n => by
  show c1 n = (c1 n || (c0 n && !c0 n))
  cases c0 n <;> cases c1 n <;> rfl⟩
 have apd : AptT c0 c1 (dblT N M z im c0).2 := ha;have aps : AptT c0 c1 (sinT N M z im c0).2 := apd.sub mq;have s1 := goK_ki_end hN kb ib ((z.drop 4).take 12) 12 (part_len hz) ⟨im, c0, []⟩ ⟨im, c1, []⟩ start hdir (fun k hk => wt_mid (goK_mo kb ((z.drop 4).take 12) ⟨im, c0, []⟩ hN k) (goK_later kb ((z.drop 4).take 12) ⟨im, c0, []⟩ hN k 12 hk) rfl w1) (aps.sub ms);have e1 : (dirT N M z im c1).1 = (z.drop 4).take 12 ∧ TQ im c0 c1 (dirT N M z im c0).2 (dirT N M z im c1).2 := s1
 have p16 : z.getD 16 0 = 0 ∨ (sinT N M z im c0).1 = true := by
  have := hget 16 (by omega) (by omega);rw [inoT_sin hz] at this
  cases hb : (sinT N M z im c0).1 with
  | true => exact .inr rfl
  | false => rw [hb] at this; exact .inl this.symm
 have p17 : z.getD 17 0 = 0 ∨ (dblT N M z im c0).1 = true := by
  have := hget 17 (by omega) (by omega);rw [inoT_dbl hz] at this
  cases hb : (dblT N M z im c0).1 with
  | true => exact .inr rfl
  | false => rw [hb] at this; exact .inl this.symm
 have e2 : (sinT N M z im c1).1 = (sinT N M z im c0).1 ∧ TQ im c0 c1 (sinT N M z im c0).2 (sinT N M z im c1).2 := is (dirT N M z im c0).2 (dirT N M z im c1).2 12 (z.getD 16 0) e1.2 p16 w2 aps;have e3 : (dblT N M z im c1).1 = (dblT N M z im c0).1 ∧ TQ im c0 c1 (dblT N M z im c0).2 (dblT N M z im c1).2 := id (sinT N M z im c0).2 (sinT N M z im c1).2 44 (z.getD 17 0) e2.2 p17 h2 apd;refine ⟨⟨?_, e3.2.wt⟩, e3.2⟩;rw [← h1];unfold inoT;rw [e1.1, e2.1, e3.1, hdir]
end Go.Proofs.YtpmignilhoihnabGreat

namespace Go.Proofs.YtpmignilhoihnabGreat

def Gs (N : Int) (im : Img) (keep : KeepF) (G : Int → Int → List (Int × Int)) : Prop := ∀ s i p, s.wt = im → im.length = N → (keep s i p).2.wt = im → (keep s i p).1 = true → (keep s i p).2.sp = s.sp ++ G i p
def rowG (G : Int → Int → List (Int × Int)) (f each : Int) (t : List Int) (K : Nat) : List (Int × Int) := (List.range K).flatMap fun k => if t.getD k 0 = 0 then [] else G (f + each * k) (t.getD k 0)
theorem rowG_succ (G : Int → Int → List (Int × Int)) (f each : Int) (t : List Int) (K : Nat) : rowG G f each t (K + 1) = rowG G f each t K ++ (if t.getD K 0 = 0 then [] else G (f + each * K) (t.getD K 0)) := by
 unfold rowG;rw [List.range_succ, List.flatMap_append]
 simp
theorem goK_sp {N M : Int} {im : Img} {keep : KeepF} {G : Int → Int → List (Int × Int)} (f each : Int) (hM : 0 ≤ M) (hN : im.length = N) (hk : Kpr N M keep) (hG : ∀ s (k : Nat) p, s.wt = im → (keep s k p).2.wt = im → (keep s k p).1 = true → (keep s k p).2.sp = s.sp ++ G (f + each * k) p)
  (a : List Int) (K : Nat) (ha : a.length = K) (s : TS) (hs : s.wt = im) (hst : (goK keep a s K).1 = a) (hw : ∀ k, k ≤ K → (goK keep a s k).2.wt = im) : ∀ k, k ≤ K → (goK keep a s k).2.sp = s.sp ++ rowG G f each a k
 | 0, _ => by unfold rowG; simp [goK]
 | k + 1, hkK => by
  have ih := goK_sp f each hM hN hk hG a K ha s hs hst hw k (by omega);have hga := goK_get keep a s k K (by omega);rw [if_pos (show k < K by omega), hst] at hga;rw [rowG_succ];have hwk := hw k (by omega);have hw1 := hw (k + 1) hkK
  show (keep (goK keep a s k).2 k (a.getD k 0)).2.sp = _
  cases hb : (keep (goK keep a s k).2 k (a.getD k 0)).1 with
  | true =>
   have hy := (hk.yes _ _ _ (by rw [hwk]; exact hN) hb).2.2.1;rw [if_neg (by omega), hG _ k _ hwk hw1 hb, ih, List.append_assoc]
  | false =>
   rw [hb, if_neg (by simp)] at hga;rw [if_pos hga, List.append_nil, hk.no _ _ _ (by rw [hwk]; exact hN) hb]
   exact ih
theorem block_gs (N M cnt : Int) (im : Img) : Gs N im (blockF N M cnt) (fun i p => [(i, p)]) := fun s i p _ _ _ hb => by
 unfold blockF at hb ⊢
 split
 ·rfl
 ·rename_i h
  rw [if_neg h] at hb
  cases hb
def tabG (im : Img) (each : Int) (G : Int → Int → List (Int × Int)) (f p : Int) : List (Int × Int) := rowG G f each (ptrsTo (secI im p) 32) 32
theorem table_gs {N M cnt each : Int} {im : Img} {keep : KeepF} {G : Int → Int → List (Int × Int)} (hM : 0 ≤ M) (hs : AllSec im) (hk : Kpr N M keep) (hG : Gs N im keep G) : Gs N im (tableF N M cnt each keep) (tabG im each G) := fun s f p hw hN hwe hb => by
 have hsl : s.wt.length = N := by rw [hw]; exact hN
 rcases table_cases (cnt := cnt) (each := each) hM hk s hsl f p with ⟨_, e⟩ | ⟨_, _, e⟩ | ⟨hc, _, e⟩
 ·rw [e] at hb; cases hb
 ·rw [e] at hb; cases hb
 ·rw [e] at hwe ⊢
  have hcp := (Bool.and_eq_true _ _ ▸ hc : _ ∧ _)
  obtain ⟨b1, b2, b3⟩ := claimB_of.1 hcp.2;have hm := gone_mo (each := each) (f := f) hk s hsl p
  have hgl : (gone each f keep s p).2.wt.length = N := by rw [hm.len]; exact hsl
  have hw' : (gone each f keep s p).2.wt.set p.toNat (ptrS (gone each f keep s p).1) = im := hwe
  have hp1 : secI im p = ptrS (gone each f keep s p).1 := by
   rw [← hw']
   exact secI_set (by omega) (by rw [hgl]; exact b3)
  have hst : (gone each f keep s p).1 = ptrsTo (secI s.wt p) 32 := by
   have := gone_back each f keep s p (by rw [hw]; exact hs p);rw [← hp1] at this;rw [hw]
   exact this.symm
  have hg2 : (gone each f keep s p).2.wt = im := by
   refine img_ext (by omega) fun n => ?_
   by_cases e2 : n = p
   ·subst e2
    rw [hm.wt n (putC_self _ _)]
    show secI s.wt n = _
    rw [hw]
   ·rw [← hw']
    exact (secI_set_ne (by omega) e2).symm
  have := goK_sp (im := im) f each hM hN (inner_kpr (each := each) (f := f) hk) (fun s k p a b c => hG s _ p a hN b c) (ptrsTo (secI s.wt p) 32) 32 (ptrsTo_len _ _) ⟨s.wt, putC s.cl p, s.sp⟩ hw hst (fun k hkk => wt_mid (goK_mo (inner_kpr (each := each) (f := f) hk) (ptrsTo (secI s.wt p) 32) ⟨s.wt, putC s.cl p, s.sp⟩ hsl k) (goK_later (inner_kpr (each := each) (f := f) hk) (ptrsTo (secI s.wt p) 32) ⟨s.wt, putC s.cl p, s.sp⟩ hsl k 32 hkk) hw hg2) 32 (Nat.le_refl _)
  show (gone each f keep s p).2.sp = _
  unfold tabG;rw [← hw]
  exact this
def spI (im : Img) (z : List Int) : List (Int × Int) :=
 rowG (fun i p => [(i, p)]) 0 1 ((z.drop 4).take 12) 12 ++ (if z.getD 16 0 = 0 then [] else tabG im 1 (fun i p => [(i, p)]) 12 (z.getD 16 0)) ++ (if z.getD 17 0 = 0 then [] else tabG im 32 (tabG im 1 fun i p => [(i, p)]) 44 (z.getD 17 0))
theorem still_sp {N M : Int} {im : Img} (hM : 0 ≤ M) (hN : im.length = N) (hs : AllSec im) {z : List Int} (hz : z.length = 18) {c0 : Int → Bool} (h : Still N M im z c0) : (dblT N M z im c0).2.sp = spI im z := by
 have kb := block_kpr N M (cntZ z);have gb := block_gs N M (cntZ z) im;have ks : Kpr N M (singleF N M (cntZ z)) := table_kpr hM kb;have kd : Kpr N M (doubleF N M (cntZ z)) := table_kpr hM ks;have gS : Gs N im (singleF N M (cntZ z)) (tabG im 1 fun i p => [(i, p)]) := table_gs hM hs kb gb;have gD : Gs N im (doubleF N M (cntZ z)) (tabG im 32 (tabG im 1 fun i p => [(i, p)])) := table_gs hM hs ks gS;have md := dir_mo (N := N) (M := M) z im c0 hN;have ms := sin_mo (N := N) (M := M) hM z im c0 hN;have mq := dbl_mo0 (N := N) (M := M) hM z im c0 hN;obtain ⟨h1, h2⟩ := h;have w2 : (sinT N M z im c0).2.wt = im := wt_mid (md.trans ms) mq rfl h2;have w1 : (dirT N M z im c0).2.wt = im := wt_mid md ms rfl w2
 have hget : ∀ m, 4 ≤ m → m < 18 → (inoT N M z im c0).getD m 0 = z.getD m 0 := fun m a b => by rw [h1, getD_set_ne (by omega)]
 have hdir : (dirT N M z im c0).1 = (z.drop 4).take 12 := by
  refine ext_getZ (by rw [dirT_len hz, part_len hz]) fun j hj => ?_
  rw [dirT_len hz] at hj;rw [part_get hz hj, ← inoT_dir hz im c0 hj]
  exact hget (4 + j) (by omega) (by omega)
 have e1 : (dirT N M z im c0).2.sp = rowG (fun i p => [(i, p)]) 0 1 ((z.drop 4).take 12) 12 := by
  have := goK_sp (im := im) (G := fun i p => [(i, p)]) 0 1 hM hN kb (fun s k p a b c => by
   have := gb s k p a hN b c;rw [show (0 : Int) + 1 * (k : Int) = (k : Int) by omega]
   exact this) ((z.drop 4).take 12) 12 (part_len hz) ⟨im, c0, []⟩ rfl hdir (fun k hk => wt_mid (goK_mo kb ((z.drop 4).take 12) ⟨im, c0, []⟩ hN k) (goK_later kb ((z.drop 4).take 12) ⟨im, c0, []⟩ hN k 12 hk) rfl w1) 12 (Nat.le_refl _)
  rw [List.nil_append] at this
  exact this
 have e2 : (sinT N M z im c0).2.sp = (dirT N M z im c0).2.sp ++ (if z.getD 16 0 = 0 then [] else tabG im 1 (fun i p => [(i, p)]) 12 (z.getD 16 0)) := by
  have h16 := hget 16 (by omega) (by omega);rw [inoT_sin hz] at h16
  cases hb : (sinT N M z im c0).1 with
  | true =>
   have hy := (ks.yes (dirT N M z im c0).2 12 (z.getD 16 0) (by rw [w1]; exact hN) hb).2.2.1;rw [if_neg (by omega)]
   exact gS (dirT N M z im c0).2 12 (z.getD 16 0) w1 hN w2 hb
  | false =>
   rw [hb] at h16;have h16 : z.getD 16 0 = 0 := h16.symm;rw [if_pos h16, List.append_nil];have := ks.no (dirT N M z im c0).2 12 (z.getD 16 0) (by rw [w1]; exact hN) hb
   show (singleF N M (cntZ z) (dirT N M z im c0).2 12 (z.getD 16 0)).2.sp = _
   rw [this]
 have e3 : (dblT N M z im c0).2.sp = (sinT N M z im c0).2.sp ++ (if z.getD 17 0 = 0 then [] else tabG im 32 (tabG im 1 fun i p => [(i, p)]) 44 (z.getD 17 0)) := by
  have h17 := hget 17 (by omega) (by omega);rw [inoT_dbl hz] at h17
  cases hb : (dblT N M z im c0).1 with
  | true =>
   have hy := (kd.yes (sinT N M z im c0).2 44 (z.getD 17 0) (by rw [w2]; exact hN) hb).2.2.1;rw [if_neg (by omega)]
   exact gD (sinT N M z im c0).2 44 (z.getD 17 0) w2 hN h2 hb
  | false =>
   rw [hb] at h17;have h17 : z.getD 17 0 = 0 := h17.symm;rw [if_pos h17, List.append_nil];have := kd.no (sinT N M z im c0).2 44 (z.getD 17 0) (by rw [w2]; exact hN) hb
   show (doubleF N M (cntZ z) (sinT N M z im c0).2 44 (z.getD 17 0)).2.sp = _
   rw [this]
 rw [e3, e2, e1]
 rfl
end Go.Proofs.YtpmignilhoihnabGreat

namespace Go.Proofs.YtpmignilhoihnabGreat

def rdI (im : Img) (i : Int) : List Int × Int := rdIno (zTo (secI im i) 18) (secI im i)
def zI (im : Img) (i : Int) : List Int := (rdI im i).1
def kd (im : Img) (i : Int) : Int := (zI im i).getD 0 0
def clStep (M : Nat) (im : Img) (k : Nat) (c : Int → Bool) : Int → Bool := if kd im ((k : Int) + 1) = 0 then c else (dblT im.length M (zI im ((k : Int) + 1)) im c).2.cl
def clN (M : Nat) (im : Img) : Nat → Int → Bool
 | 0 => fun _ => false
 | k + 1 => clStep M im k (clN M im k)
theorem clN_step (M : Nat) (im : Img) (k : Nat) : clN M im (k + 1) = clStep M im k (clN M im k) := rfl
theorem clN_succ (M : Nat) (im : Img) (k : Nat) : clN M im (k + 1) = if kd im ((k : Int) + 1) = 0 then clN M im k else (dblT im.length M (zI im ((k : Int) + 1)) im (clN M im k)).2.cl := by
 rw [clN_step];unfold clStep
 rfl
def Ck (M : Nat) (im : Img) (k : Nat) (n : Int) : Bool := clN M im (k + 1) n && !clN M im k n
def slotsI (im : Img) (i : Int) : List Int := (spI im (zI im i)).map Prod.snd
def inoAt (im : Img) (x : Int) : Int := (slotOf (secI im x)).1
def nmB (im : Img) (i : Int) (x : Int) : Bool := decide (inoAt im x = i)
def dirsL (M : Nat) (im : Img) : List Int := ((List.range M).map fun (k : Nat) => (k : Int) + 1).filter fun i => decide (kd im i = 2)
def timesI (M : Nat) (im : Img) (i : Int) : Nat := ((dirsL M im).flatMap (slotsI im)).countP (nmB im i)
def wantL (M : Nat) (im : Img) (i : Int) : Int := if i = 1 then 1 else timesI M im i
inductive Rch (M : Nat) (im : Img) : Int → Prop
 | root : Rch M im 1
 | more {i j x : Int} : Rch M im i → 1 ≤ i → i ≤ M → kd im i = 2 → x ∈ slotsI im i → inoAt im x = j → j ≠ 0 → Rch M im j
structure WellP (M : Nat) (im : Img) : Prop where
 ino : ∀ i : Int, 1 ≤ i → i ≤ M → (rdI im i).2 = 0
 root : kd im 1 = 2
 ptr : ∀ k : Nat, k < M → kd im ((k : Int) + 1) ≠ 0 → Still im.length M im (zI im ((k : Int) + 1)) (clN M im k)
 slot : ∀ i : Int, 1 ≤ i → i ≤ M → kd im i = 2 → ∀ x ∈ slotsI im i, (slotOf (secI im x)).2.2 = 0 ∧ (inoAt im x ≠ 0 → 2 ≤ inoAt im x ∧ inoAt im x ≤ M ∧ kd im (inoAt im x) ≠ 0)
 names : ∀ i : Int, 1 ≤ i → i ≤ M → kd im i = 2 → (slotsI im i).Pairwise fun x y => inoAt im x ≠ 0 → inoAt im y ≠ 0 → (slotOf (secI im x)).2.1.data ≠ (slotOf (secI im y)).2.1.data
 reach : ∀ i : Int, 1 ≤ i → i ≤ M → kd im i ≠ 0 → Rch M im i
 links : ∀ i : Int, 1 ≤ i → i ≤ M → kd im i ≠ 0 → (zI im i).getD 1 0 = wantL M im i ∧ 1 ≤ wantL M im i ∧ wantL M im i ≤ 100 ∧ (kd im i = 2 → wantL M im i = 1)
 tail : ∀ i : Int, 1 ≤ i → i ≤ M → kd im i ≠ 0 → kd im i ≠ 2 → ∀ l, lastB ((zI im i).getD 2 0) (spI im (zI im i)) = some l → wip (secI im l.2) ((zI im i).getD 2 0 % 128) = secI im l.2
theorem zI_len (im : Img) (i : Int) : (zI im i).length = 18 := by
 unfold zI rdI rdIno
 split
 ·exact zTo_len _ _
 ·simp [Zi]
theorem sound_zI {M : Nat} {im : Img} {i : Int} (h1 : 1 ≤ i) (h2 : i ≤ M) : soundZ M im i = (zI im i, decide ((rdI im i).2 = 0) && decide (kd im i ≠ 0)) := by
 unfold soundZ;rw [if_pos ⟨h1, h2⟩]
 rfl
theorem clN_mono (M : Nat) (im : Img) {k : Nat} : ∀ {l : Nat}, k ≤ l → ∀ n, clN M im k n = true → clN M im l n = true
 | 0, h, n, hn => by
  obtain rfl : k = 0 := by omega
  exact hn
 | l + 1, h, n, hn => by
  rcases Nat.lt_or_ge l k with e | e
  ·obtain rfl : k = l + 1 := by omega
   exact hn
  ·have ih := clN_mono M im e n hn
   rw [clN_succ]
   split
   ·exact ih
   ·exact (dbl_mo (N := im.length) (M := M) (Int.natCast_nonneg M) _ im (clN M im l) rfl).cl n ih
theorem Ck_apart {M : Nat} {im : Img} {k l : Nat} (hkl : k ≠ l) {n : Int} (h : Ck M im k n = true) : Ck M im l n = false := by
 unfold Ck at *;rw [Bool.and_eq_true, Bool.not_eq_true'] at h
 rcases Nat.lt_or_gt_of_ne hkl with e | e
 ·have := clN_mono M im (show k + 1 ≤ l by omega) n h.1
  rw [this]; simp
 ·cases hq : clN M im (l + 1) n with
  | false => rfl
  | true =>
   have := clN_mono M im (show l + 1 ≤ k by omega) n hq;rw [h.2] at this
   cases this
def cntV (im : Img) (V : List Int) (i : Int) : Int := (if i = 1 then 1 else 0) + (V.countP (nmB im i) : Nat)
structure SI (M : Nat) (im : Img) (C : Nat → Int → Bool) (s : LS) (V rest ds : List Int) (n : Nat) : Prop where
 wt : s.wt = im
 tk : ∀ i z, s.tk i = some z → 1 ≤ i ∧ i ≤ M ∧ kd im i ≠ 0 ∧ z = (zI im i).set 1 (cntV im V i)
 no : ∀ i, i ≠ 0 → s.tk i = none → V.countP (nmB im i) = 0
 one : ∀ i, i ≠ 1 → (s.tk i).isSome = true → 1 ≤ V.countP (nmB im i)
 cl : ∀ n, s.cl n = true ↔ ∃ k : Nat, k < M ∧ (s.tk ((k : Int) + 1)).isSome = true ∧ C k n = true
 nod : ds.Nodup
 dsm : ∀ d, d ∈ ds ↔ (s.tk d).isSome = true ∧ kd im d = 2
 lst : V ++ rest ++ s.q.flatten = ds.flatMap (slotsI im)
 qn : s.q = (ds.drop n).map (slotsI im) ∧ n ≤ ds.length
theorem wipe_same {size : Int} {sp : List (Int × Int)} {im : Img} (h : ∀ l, lastB size sp = some l → wip (secI im l.2) (size % 128) = secI im l.2) : wipeW size sp im = im := by
 unfold wipeW
 cases hl : lastB size sp with
 | none => rfl
 | some l =>
  show im.set l.2.toNat _ = im
  rw [h l hl]
  refine List.ext_getElem? fun k => ?_
  rw [List.getElem?_set]
  split
  ·rename_i e
   subst e;unfold secI
   split
   ·rename_i hk
    rw [List.getD_eq_getElem?_getD, List.getElem?_eq_getElem hk]
    rfl
   ·rename_i hk
    exact (List.getElem?_eq_none (by omega)).symm
  ·rfl
theorem take_si {M : Nat} {im : Img} (hs : AllSec im) (h : WellP M im) {s : LS} {V rest ds : List Int} {nd : Nat} (hI : SI M im (Ck M im) s V rest ds nd) {j : Int} (h1 : 1 ≤ j) (h2 : j ≤ M) (hk : kd im j ≠ 0) (ht : s.tk j = none) :
  (takeL im.length M (zI im j) s).wt = im ∧ inoT im.length M (zI im j) s.wt s.cl = (zI im j).set 1 0 ∧ (∀ n, (takeL im.length M (zI im j) s).cl n = (s.cl n || Ck M im (j - 1).toNat n)) ∧
  (takeL im.length M (zI im j) s).q = (if kd im j = 2 then s.q ++ [slotsI im j] else s.q) := by
 obtain ⟨k, rfl⟩ : ∃ k : Nat, j = (k : Int) + 1 := ⟨(j - 1).toNat, by omega⟩
 have hj : ((k : Int) + 1 - 1).toNat = k := by omega
 rw [hj]
 have hkM : k < M := by omega
 have hst := h.ptr k hkM hk
 have hC : ∀ n, Ck M im k n = ((dblT im.length M (zI im ((k : Int) + 1)) im (clN M im k)).2.cl n && !clN M im k n) := fun n => by
  unfold Ck;rw [clN_succ];rw [if_neg hk]
 obtain ⟨st1, tq⟩ := still_ki (Int.natCast_nonneg M) rfl hs (zI_len im _) hst (c1 := s.cl) (fun n hn h0 => by
  have hck : Ck M im k n = true := by rw [hC, hn, h0]; rfl
  cases e : s.cl n with
  | false => rfl
  | true =>
   obtain ⟨l, hl, htl, hcl⟩ := (hI.cl n).1 e
   by_cases ekl : l = k
   ·subst ekl
    rw [ht] at htl
    cases htl
   ·rw [Ck_apart ekl hcl] at hck
    cases hck)
 have hsp := still_sp (Int.natCast_nonneg M) rfl hs (zI_len im _) st1
 have hcl : ∀ n, (dblT im.length M (zI im ((k : Int) + 1)) im s.cl).2.cl n = (s.cl n || Ck M im k n) := fun n => by rw [tq.cl, hC]
 rw [hI.wt]
 by_cases h2' : kd im ((k : Int) + 1) = 2
 ·rw [takeL_dir h2', hI.wt, if_pos h2']
  refine ⟨st1.2, st1.1, hcl, ?_⟩
  show s.q ++ [_] = _
  rw [hsp]
  rfl
 ·rw [takeL_file h2', hI.wt, if_neg h2']
  refine ⟨?_, st1.1, hcl, rfl⟩
  show wipeW _ _ _ = im
  rw [st1.2, hsp]
  exact wipe_same (h.tail _ h1 h2 hk h2')
end Go.Proofs.YtpmignilhoihnabGreat

namespace Go.Proofs.YtpmignilhoihnabGreat

theorem more_set {z : List Int} (hz : z.length = 18) (a : Int) : moreZ (z.set 1 a) = z.set 1 (a + 1) := by
 unfold moreZ;rw [getD_set_eq (by omega), List.set_set]
theorem put_some (tk : Int → Option (List Int)) (j : Int) (z : List Int) (i : Int) : (putT tk j z i).isSome = true ↔ i = j ∨ (tk i).isSome = true := by
 unfold putT
 split <;> rename_i e
 ·simp [e]
 ·simp [e]
theorem put_si {M : Nat} {im : Img} {C : Nat → Int → Bool} {s s' : LS} {V rest ds V' rest' : List Int} {nd : Nat} (hI : SI M im C s V rest ds nd) {j : Int} (h1 : 1 ≤ j) (h2 : j ≤ M) (hk : kd im j ≠ 0)
  (hoth : ∀ i, i ≠ j → i ≠ 0 → V'.countP (nmB im i) = V.countP (nmB im i)) (hone : j ≠ 1 → 1 ≤ V'.countP (nmB im j)) (hl : V' ++ rest' = V ++ rest)
  (hw : s'.wt = im) (ht : s'.tk = putT s.tk j ((zI im j).set 1 (cntV im V' j))) (hc : ∀ n, s'.cl n = true ↔ s.cl n = true ∨ C (j - 1).toNat n = true)
  (hq : (s'.q = s.q ∧ (kd im j ≠ 2 ∨ (s.tk j).isSome = true)) ∨ (s'.q = s.q ++ [slotsI im j] ∧ kd im j = 2 ∧ s.tk j = none)) : ∃ ds', SI M im C s' V' rest' ds' nd := by
 have hcn : ∀ i, i ≠ j → i ≠ 0 → cntV im V' i = cntV im V i := fun i hi h0 => by unfold cntV; rw [hoth i hi h0]
 have hsome : ∀ i, (s'.tk i).isSome = true ↔ i = j ∨ (s.tk i).isSome = true := fun i => by rw [ht]; exact put_some _ _ _ _
 have htk : ∀ i z, s'.tk i = some z → 1 ≤ i ∧ i ≤ M ∧ kd im i ≠ 0 ∧ z = (zI im i).set 1 (cntV im V' i) := fun i z hz => by
  rw [ht] at hz;unfold putT at hz
  split at hz
  ·rename_i e
   subst e
   cases hz
   exact ⟨h1, h2, hk, rfl⟩
  ·rename_i e
   obtain ⟨b1, b2, b3, b4⟩ := hI.tk i z hz
   exact ⟨b1, b2, b3, by rw [b4, hcn i e (by omega)]⟩
 have hno : ∀ i, i ≠ 0 → s'.tk i = none → V'.countP (nmB im i) = 0 := fun i h0 hi => by
  have hi' : i ≠ j ∧ s.tk i = none := by
   have := not_congr (hsome i);rw [hi] at this;have h3 := this.1 (by simp);refine ⟨fun e => h3 (.inl e), ?_⟩
   cases e : s.tk i with
   | none => rfl
   | some z => exact absurd (.inr (by rw [e]; rfl)) h3
  rw [hoth i hi'.1 h0]
  exact hI.no i h0 hi'.2
 have hon : ∀ i, i ≠ 1 → (s'.tk i).isSome = true → 1 ≤ V'.countP (nmB im i) := fun i hi1 hi => by
  by_cases e : i = j
  ·subst e; exact hone hi1
  ·have hi' := ((hsome i).1 hi).resolve_left e
   obtain ⟨z, hz⟩ := Option.isSome_iff_exists.1 hi';obtain ⟨b1, _⟩ := hI.tk i z hz;rw [hoth i e (by omega)]
   exact hI.one i hi1 hi'
 have hcl : ∀ n, s'.cl n = true ↔ ∃ k : Nat, k < M ∧ (s'.tk ((k : Int) + 1)).isSome = true ∧ C k n = true := fun n => by
  rw [hc]
  constructor
  ·rintro (e | e)
   ·obtain ⟨k, k1, k2, k3⟩ := (hI.cl n).1 e
    exact ⟨k, k1, (hsome _).2 (.inr k2), k3⟩
   ·exact ⟨(j - 1).toNat, by omega, (hsome _).2 (.inl (by omega)), e⟩
  ·rintro ⟨k, k1, k2, k3⟩
   rcases (hsome _).1 k2 with e | e
   ·right
    rw [← e, show ((k : Int) + 1 - 1).toNat = k by omega]
    exact k3
   ·exact .inl ((hI.cl n).2 ⟨k, k1, e, k3⟩)
 rcases hq with ⟨q1, q2⟩ | ⟨q1, q2, q3⟩
 ·refine ⟨ds, hw, htk, hno, hon, hcl, hI.nod, fun d => ?_, by rw [q1, hl]; exact hI.lst, by rw [q1]; exact hI.qn⟩
  rw [hI.dsm, hsome]
  constructor
  ·rintro ⟨a, b⟩; exact ⟨.inr a, b⟩
  ·rintro ⟨rfl | a, b⟩
   ·exact ⟨q2.resolve_left (by simp [b]), b⟩
   ·exact ⟨a, b⟩
 ·have hnj : j ∉ ds := fun e => by
   have := ((hI.dsm j).1 e).1;rw [q3] at this
   cases this
  refine ⟨ds ++ [j], hw, htk, hno, hon, hcl, ?_, fun d => ?_, ?_, ?_⟩
  ·rw [List.nodup_append]
   exact ⟨hI.nod, by simp, fun a ha b hb => by
    obtain rfl := List.mem_singleton.1 hb
    rintro rfl
    exact hnj ha⟩
  ·rw [List.mem_append, List.mem_singleton, hI.dsm, hsome]
   constructor
   ·rintro (⟨a, b⟩ | rfl)
    ·exact ⟨.inr a, b⟩
    ·exact ⟨.inl rfl, q2⟩
   ·rintro ⟨rfl | a, b⟩
    ·exact .inr rfl
    ·exact .inl ⟨a, b⟩
  ·rw [q1, hl, List.flatten_append, List.flatMap_append, ← List.append_assoc, hI.lst]
   simp
  ·rw [q1, List.drop_append_of_le_length hI.qn.2, List.map_append, ← hI.qn.1, List.length_append]
   exact ⟨rfl, by have := hI.qn.2; omega⟩
theorem enter_si {M : Nat} {im : Img} (hs : AllSec im) (h : WellP M im) {s : LS} {V rest ds V' rest' : List Int} {nd : Nat} (hI : SI M im (Ck M im) s V rest ds nd) {j : Int} (h1 : 1 ≤ j) (h2 : j ≤ M) (hk : kd im j ≠ 0)
  (hnew : s.tk j = none → cntV im V' j = 1) (hold : s.tk j ≠ none → cntV im V' j = cntV im V j + 1) (hoth : ∀ i, i ≠ j → i ≠ 0 → V'.countP (nmB im i) = V.countP (nmB im i)) (hone : j ≠ 1 → 1 ≤ V'.countP (nmB im j)) (hl : V' ++ rest' = V ++ rest) :
  ∃ ds', SI M im (Ck M im) (enterL im.length M im j s) V' rest' ds' nd := by
 cases ht : s.tk j with
 | some z =>
  obtain ⟨a1, a2, a3, a4⟩ := hI.tk j z ht;rw [enter_some ht];refine put_si hI h1 h2 hk hoth hone hl hI.wt ?_ (fun n => ?_) (.inl ⟨rfl, .inr (by rw [ht]; rfl)⟩)
  ·show putT _ _ _ = _
   rw [a4, more_set (zI_len im _), hold (by rw [ht]; simp)]
  ·show s.cl n = true ↔ _
   constructor
   ·exact .inl
   ·rintro (e | e)
    ·exact e
    ·exact (hI.cl n).2 ⟨(j - 1).toNat, by omega, by rw [show (((j - 1).toNat : Nat) : Int) + 1 = j by omega, ht]; rfl, e⟩
 | none =>
  obtain ⟨t1, t2, t3, t4⟩ := take_si hs h hI h1 h2 hk ht;rw [enter_none ht, show (soundZ M im j).1 = zI im j by rw [sound_zI h1 h2]];refine put_si hI h1 h2 hk hoth hone hl t1 ?_ (fun n => ?_) ?_
  ·show putT _ _ _ = _
   rw [takeL_tk, t2, more_set (zI_len im _), hnew ht]
   rfl
  ·show (takeL _ _ _ _).cl n = true ↔ _
   rw [t3, Bool.or_eq_true]
  ·show ((takeL _ _ _ _).q = _ ∧ _) ∨ ((takeL _ _ _ _).q = _ ∧ _)
   rw [t4]
   by_cases e : kd im j = 2
   ·rw [if_pos e]; exact .inr ⟨rfl, e, ht⟩
   ·rw [if_neg e]; exact .inl ⟨rfl, .inl e⟩
end Go.Proofs.YtpmignilhoihnabGreat

namespace Go.Proofs.YtpmignilhoihnabGreat

theorem slot_free {s : List Int} (h : (slotOf s).2.2 = 0) (h0 : (slotOf s).1 = 0) : (slotOf s).2.1.size = 0 := by
 unfold slotOf rdSlot at *
 split at h
 ·rename_i e
  rw [if_pos e] at h0 ⊢;have hb := e.2.1;unfold slotB at hb;rw [if_pos h0, ByteArray.toList_eq] at hb;have h2 := List.isEmpty_iff.1 hb;have h3 := congrArg List.length h2
  exact h3
 ·cases h

theorem countP_sub {f : Int → List Int} {p : Int → Bool} : ∀ {ds L : List Int}, ds.Nodup → (∀ d ∈ ds, d ∈ L) → (ds.flatMap f).countP p ≤ (L.flatMap f).countP p
 | [], L, _, _ => by simp
 | d :: ds, L, hn, h => by
  have hp : L.Perm (d :: L.erase d) := List.perm_cons_erase (h d (by simp));rw [(hp.flatMap_right f).countP_eq, List.flatMap_cons, List.flatMap_cons, List.countP_append, List.countP_append];refine Nat.add_le_add_left (countP_sub (List.nodup_cons.1 hn).2 fun e he => ?_) _
  have hne : e ≠ d := fun x => (List.nodup_cons.1 hn).1 (x ▸ he)
  exact (List.mem_erase_of_ne hne).2 (h e (List.mem_cons_of_mem _ he))
theorem dirs_mem {M : Nat} {im : Img} {d : Int} : d ∈ dirsL M im ↔ 1 ≤ d ∧ d ≤ M ∧ kd im d = 2 := by
 unfold dirsL;rw [List.mem_filter, List.mem_map]
 constructor
 ·rintro ⟨⟨k, hk, rfl⟩, h⟩
  have := List.mem_range.1 hk
  exact ⟨by omega, by omega, of_decide_eq_true h⟩
 ·rintro ⟨h1, h2, h3⟩
  exact ⟨⟨(d - 1).toNat, List.mem_range.2 (by omega), by omega⟩, decide_eq_true h3⟩
theorem dirs_nodup (M : Nat) (im : Img) : (dirsL M im).Nodup := by
 unfold dirsL;refine List.Pairwise.filter _ ?_;rw [List.pairwise_map]
 exact List.nodup_range.imp fun h e => h (by omega)
theorem SI.dirs {M : Nat} {im : Img} {C : Nat → Int → Bool} {s : LS} {V rest ds : List Int} {nd : Nat} (hI : SI M im C s V rest ds nd) {d : Int} (h : d ∈ ds) : d ∈ dirsL M im := by
 obtain ⟨h1, h2⟩ := (hI.dsm d).1 h;obtain ⟨z, hz⟩ := Option.isSome_iff_exists.1 h1;obtain ⟨a1, a2, _⟩ := hI.tk d z hz
 exact dirs_mem.2 ⟨a1, a2, h2⟩
theorem SI.le {M : Nat} {im : Img} {C : Nat → Int → Bool} {s : LS} {V rest ds : List Int} {nd : Nat} (hI : SI M im C s V rest ds nd) (j : Int) : (V ++ rest).countP (nmB im j) ≤ timesI M im j := by
 have h1 := countP_sub (f := slotsI im) (p := nmB im j) hI.nod (fun d hd => hI.dirs hd);rw [← hI.lst, List.countP_append] at h1;unfold timesI
 omega
theorem kind_two {M : Nat} {im : Img} (h : WellP M im) {i : Int} (h1 : 1 ≤ i) (h2 : i ≤ M) (hk : kd im i ≠ 0) : kd im i = 1 ∨ kd im i = 2 := by
 have hi := h.ino i h1 h2;unfold kd at *;unfold zI at *
 generalize hr : rdI im i = r at *
 unfold rdI rdIno at hr
 split at hr
 ·rename_i e
  subst hr;obtain ⟨hp, _⟩ := inoB_parts hk e.1;have := hp 0 (by omega)
  simp [most] at this
  simp at hk ⊢
  omega
 ·subst hr
  cases hi
theorem slot_si {M : Nat} {im : Img} (hs : AllSec im) (h : WellP M im) {x : Int} {rest V ds P : List Int} {r : List ByteArray × LS} {d : Int} {nd : Nat} (hI : SI M im (Ck M im) r.2 V (x :: rest) ds nd) (hd1 : 1 ≤ d) (hd2 : d ≤ M) (hd3 : kd im d = 2)
  (hP : slotsI im d = P ++ x :: rest) (hn : ∀ y ∈ r.1, ∃ u ∈ P, inoAt im u ≠ 0 ∧ y = (slotOf (secI im u)).2.1) :
  (∃ ds', SI M im (Ck M im) (slotL im.length M im x r).2 (V ++ [x]) rest ds' nd) ∧ ∀ y ∈ (slotL im.length M im x r).1, ∃ u ∈ P ++ [x], inoAt im u ≠ 0 ∧ y = (slotOf (secI im u)).2.1 := by
 have hx : x ∈ slotsI im d := by rw [hP]; simp
 obtain ⟨e1, e2⟩ := h.slot d hd1 hd2 hd3 x hx
 have hc : ∀ i, (V ++ [x]).countP (nmB im i) = V.countP (nmB im i) + if inoAt im x = i then 1 else 0 := fun i => by
  rw [List.countP_append, List.countP_singleton];unfold nmB
  simp
 have hl : V ++ [x] ++ rest = V ++ (x :: rest) := by simp
 by_cases hz : inoAt im x = 0
 ·have hse := slot_empty (N := im.length) (M := M) (im := im) (n := x) (r := r) (by rw [hI.wt]; exact ⟨e1, hz, slot_free e1 hz⟩)
  rw [hse]
  have hc' : ∀ i, i ≠ 0 → (V ++ [x]).countP (nmB im i) = V.countP (nmB im i) := fun i hi => by rw [hc, if_neg (by omega)]; rfl
  refine ⟨⟨ds, hI.wt, fun i z hiz => ?_, fun i hi ht => by rw [hc' i hi]; exact hI.no i hi ht, fun i hi ht => ?_, hI.cl, hI.nod, hI.dsm, by rw [hl]; exact hI.lst, hI.qn⟩, fun y hy => ?_⟩
  ·obtain ⟨a1, a2, a3, a4⟩ := hI.tk i z hiz
   refine ⟨a1, a2, a3, ?_⟩;rw [a4];unfold cntV;rw [hc' i (by omega)]
  ·obtain ⟨z, hz2⟩ := Option.isSome_iff_exists.1 ht
   rw [hc' i (by have := (hI.tk i z hz2).1; omega)]
   exact hI.one i hi ht
  ·obtain ⟨u, hu, hy2⟩ := hn y hy
   exact ⟨u, List.mem_append_left _ hu, hy2⟩
 ·obtain ⟨j1, j2, j3⟩ := e2 hz
  -- no name of this directory comes twice
  have hno : hasN r.1 (slotOf (secI im x)).2.1 = false := by
   cases e : hasN r.1 (slotOf (secI im x)).2.1 with
   | false => rfl
   | true =>
    unfold hasN at e;obtain ⟨y, hy, hyx⟩ := List.any_eq_true.1 e;obtain ⟨u, hu, hu0, rfl⟩ := hn y hy;have hpw := h.names d hd1 hd2 hd3;rw [hP, List.pairwise_append] at hpw
    exact absurd (of_decide_eq_true hyx) (hpw.2.2 u hu x (by simp) hu0 hz)
  have hle := hI.le (inoAt im x);have hlk := h.links (inoAt im x) (by omega) j2 j3
  have hw : wantL M im (inoAt im x) = timesI M im (inoAt im x) := by unfold wantL; rw [if_neg (by omega)]
  rw [hw] at hlk
  have hcx : (V ++ x :: rest).countP (nmB im (inoAt im x)) = V.countP (nmB im (inoAt im x)) + 1 + rest.countP (nmB im (inoAt im x)) := by
   rw [← hl, List.countP_append, hc, if_pos rfl]
  have hent : isEntryB M im r.2 (inoAt im x) (hasN r.1 (slotOf (secI im x)).2.1) = true := by
   unfold isEntryB;rw [hno, Bool.false_or, if_neg (by simp; omega)]
   cases ht : r.2.tk (inoAt im x) with
   | none =>
    show (soundZ M im (inoAt im x)).2 = true
    rw [sound_zI (by omega) j2]
    simp only [Bool.and_eq_true, decide_eq_true_eq]
    exact ⟨h.ino _ (by omega) j2, j3⟩
   | some z =>
    show (decide (z.getD 0 0 = 1) && decide (z.getD 1 0 < 100)) = true
    obtain ⟨_, _, _, rfl⟩ := hI.tk _ z ht;have ho := hI.one (inoAt im x) (by omega) (by rw [ht]; rfl);rw [getD_set_ne (by decide), getD_set_eq (by rw [zI_len]; omega)]
    have hcv : cntV im V (inoAt im x) = (V.countP (nmB im (inoAt im x)) : Nat) := by unfold cntV; rw [if_neg (by omega)]; omega
    rw [hcv, Bool.and_eq_true, decide_eq_true_eq, decide_eq_true_eq];refine ⟨?_, by omega⟩
    rcases kind_two h (by omega) j2 j3 with e | e
    ·exact e
    ·have := hlk.2.2.2 e
     omega
  have hse := slot_entry (N := im.length) (M := M) (im := im) (n := x) (r := r) (by rw [hI.wt]; exact fun e => hz e.2.1) (by rw [hI.wt]; exact ⟨e1, hent⟩);rw [hI.wt] at hse;rw [hse];refine ⟨?_, fun y hy => ?_⟩
  ·refine enter_si hs h hI (j := inoAt im x) (by omega) j2 j3 (fun ht => ?_) (fun _ => ?_) (fun i hi _ => ?_) (fun _ => ?_) hl
   ·unfold cntV
    rw [if_neg (by omega), hc, if_pos rfl, hI.no _ hz ht]
    rfl
   ·unfold cntV
    rw [if_neg (by omega), hc, if_pos rfl]
    omega
   ·rw [hc, if_neg (fun e => hi e.symm)]; rfl
   ·rw [hc, if_pos rfl]; omega
  ·rcases List.mem_cons.1 hy with rfl | hy
   ·exact ⟨x, by simp, hz, rfl⟩
   ·obtain ⟨u, hu, hy2⟩ := hn y hy
    exact ⟨u, List.mem_append_left _ hu, hy2⟩
end Go.Proofs.YtpmignilhoihnabGreat

namespace Go.Proofs.YtpmignilhoihnabGreat

theorem dirK_si {M : Nat} {im : Img} (hs : AllSec im) (h : WellP M im) {d : Int} (hd1 : 1 ≤ d) (hd2 : d ≤ M) (hd3 : kd im d = 2) {nd : Nat} : ∀ (l P V ds : List Int) (r : List ByteArray × LS), SI M im (Ck M im) r.2 V l ds nd → slotsI im d = P ++ l →
  (∀ y ∈ r.1, ∃ u ∈ P, inoAt im u ≠ 0 ∧ y = (slotOf (secI im u)).2.1) → ∃ ds', SI M im (Ck M im) (dirK im.length M im l r).2 (V ++ l) [] ds' nd
 | [], P, V, ds, r, hI, _, _ => ⟨ds, by rw [List.append_nil]; exact hI⟩
 | x :: l, P, V, ds, r, hI, hP, hn => by
  obtain ⟨⟨ds', h1⟩, h2⟩ := slot_si hs h hI hd1 hd2 hd3 hP hn;have := dirK_si hs h hd1 hd2 hd3 l (P ++ [x]) (V ++ [x]) ds' (slotL im.length M im x r) h1 (by rw [hP]; simp) h2;rw [show V ++ [x] ++ l = V ++ x :: l by simp] at this
  exact this
theorem SI.few {M : Nat} {im : Img} {C : Nat → Int → Bool} {s : LS} {V rest ds : List Int} {nd : Nat} (hI : SI M im C s V rest ds nd) : ds.length ≤ M := by
 have h1 := countP_sub (f := fun d => [d]) (p := fun _ => true) hI.nod (fun d hd => hI.dirs hd)
 simp only [List.flatMap_singleton', List.countP_true] at h1
 have h2 : (dirsL M im).length ≤ M := by
  unfold dirsL;refine Nat.le_trans (List.length_filter_le _ _) ?_
  simp
 omega
theorem allL_si {M : Nat} {im : Img} (hs : AllSec im) (h : WellP M im) : ∀ (f : Nat) (s : LS) (V ds : List Int) (nd : Nat), SI M im (Ck M im) s V [] ds nd → M ≤ f + nd → ∃ V' ds' nd', SI M im (Ck M im) (allL im.length M im f s) V' [] ds' nd' ∧ (allL im.length M im f s).q = []
 | 0, s, V, ds, nd, hI, hf => by
  refine ⟨V, ds, nd, hI, ?_⟩
  show s.q = []
  rw [hI.qn.1, List.drop_eq_nil_of_le (by have := hI.few; omega)]
  rfl
 | f + 1, s, V, ds, nd, hI, hf => by
  cases hq : s.q with
  | nil => rw [allL_nil hq]; exact ⟨V, ds, nd, hI, hq⟩
  | cons l q =>
   rw [allL_cons hq];obtain ⟨hq1, hq2⟩ := hI.qn;rw [hq] at hq1
   have hlt : nd < ds.length := by
    rcases Nat.lt_or_ge nd ds.length with e | e
    ·exact e
    ·rw [List.drop_eq_nil_of_le e] at hq1
     cases hq1
   rw [List.drop_eq_getElem_cons hlt, List.map_cons] at hq1;obtain ⟨hl, hq3⟩ := List.cons.inj hq1;have hm := dirs_mem.1 (hI.dirs (List.getElem_mem hlt))
   have hp : SI M im (Ck M im) { s with q := q } V l ds (nd + 1) := ⟨hI.wt, hI.tk, hI.no, hI.one, hI.cl, hI.nod, hI.dsm, by
    have := hI.lst;rw [hq] at this
    simpa using this, hq3, hlt⟩
   obtain ⟨ds', h1⟩ := dirK_si hs h hm.1 hm.2.1 hm.2.2 l [] V ds ([], { s with q := q }) hp (by rw [hl]; rfl) (by simp)
   exact allL_si hs h f _ (V ++ l) ds' (nd + 1) h1 (by omega)
theorem rd_parts {im : Img} {i : Int} (h : (rdI im i).2 = 0) : inoB (zI im i) = true ∧ inoS (zI im i) = secI im i := by
 unfold zI
 generalize hr : rdI im i = r at *
 unfold rdI rdIno at hr
 split at hr
 ·rename_i e
  subst hr
  exact e
 ·subst hr
  cases h
theorem well_root {M : Nat} {im : Img} (h : WellP M im) (hM : 1 ≤ M) : rootB M im = true := by
 unfold rootB;rw [sound_zI (by omega) (by omega)]
 simp only [Bool.and_eq_true, decide_eq_true_eq]
 exact ⟨⟨h.ino 1 (by omega) (by omega), by rw [h.root]; decide⟩, h.root⟩
theorem start_si {M : Nat} {im : Img} (h : WellP M im) (hs : AllSec im) (hM : 1 ≤ M) : ∃ ds, SI M im (Ck M im) (enterL im.length M im 1 (startL im)) [] [] ds 0 := by
 have h0 : SI M im (Ck M im) (startL im) [] [] [] 0 := ⟨rfl, fun i z hz => (by cases hz), fun _ _ _ => rfl, fun i _ ht => (by cases ht), fun n => ⟨fun e => (by cases e), fun ⟨k, _, e, _⟩ => (by cases e)⟩, List.nodup_nil, fun d => ⟨fun e => (by cases e), fun e => (by cases e.1)⟩, rfl, rfl, Nat.le_refl _⟩
 exact enter_si hs h h0 (j := 1) (by omega) (by omega) (by rw [h.root]; decide) (fun _ => rfl) (fun e => absurd rfl e) (fun _ _ _ => rfl) (fun e => absurd rfl e) rfl
theorem mem_countP {V : List Int} {p : Int → Bool} {x : Int} (h : x ∈ V) (hp : p x = true) : V.countP p ≠ 0 := by
 have := List.countP_pos_iff.2 ⟨x, h, hp⟩
 omega
theorem gone_well {M : Nat} {im : Img} (hs : AllSec im) (h : WellP M im) (hM : 1 ≤ M) : (goneL M im).wt = im ∧ (∀ i, (goneL M im).tk i = if 1 ≤ i ∧ i ≤ M ∧ kd im i ≠ 0 then some (zI im i) else none) ∧ ∀ n, (goneL M im).cl n = clN M im M n := by
 obtain ⟨ds0, h0⟩ := start_si h hs hM;obtain ⟨V, ds, nd, hI, hq⟩ := allL_si hs h M _ _ _ _ h0 (by omega)
 have hroot : ((goneL M im).tk 1).isSome = true := by
  obtain ⟨_, m⟩ := gone_inv hs (well_root h hM);have e := enter_tk (N := im.length) (M := M) (im := im) (i := 1) (s := startL im) rfl;obtain ⟨L, hL⟩ := m.tk 1 _ e;rw [hL]; rfl
 change SI M im (Ck M im) (goneL M im) V [] ds nd at hI
 change (goneL M im).q = [] at hq
 have hV : V = ds.flatMap (slotsI im) := by
  have := hI.lst;rw [hq] at this
  simpa using this
 have hr : ∀ i, Rch M im i → ((goneL M im).tk i).isSome = true := fun i hi => by
  induction hi with
  | root => exact hroot
  | @more i j x _ i1 i2 i3 hx hj h0 ih =>
   cases e : (goneL M im).tk j with
   | some _ => rfl
   | none =>
    have hx2 : x ∈ V := by
     rw [hV]
     exact List.mem_flatMap.2 ⟨i, (hI.dsm i).2 ⟨ih, i3⟩, hx⟩
    exact absurd (hI.no j h0 e) (mem_countP hx2 (decide_eq_true hj))
 have hdm : ∀ d, d ∈ dirsL M im → d ∈ ds := fun d hd => by
  obtain ⟨a1, a2, a3⟩ := dirs_mem.1 hd
  exact (hI.dsm d).2 ⟨hr d (h.reach d a1 a2 (by rw [a3]; decide)), a3⟩
 have hcnt : ∀ i, 1 ≤ i → cntV im V i = wantL M im i := fun i hi => by
  have e1 := hI.le i;have e2 := countP_sub (f := slotsI im) (p := nmB im i) (dirs_nodup M im) hdm;rw [← hV] at e2;rw [List.append_nil] at e1;unfold cntV wantL
  by_cases e : i = 1
  ·subst e
   rw [if_pos rfl, if_pos rfl]
   have : V.countP (nmB im 1) = 0 := by
    rw [List.countP_eq_zero]
    intro x hx
    rw [hV] at hx;obtain ⟨d, hd, hx⟩ := List.mem_flatMap.1 hx;obtain ⟨a1, a2, a3⟩ := dirs_mem.1 (hI.dirs hd);have := (h.slot d a1 a2 a3 x hx).2;unfold nmB
    simp only [decide_eq_true_eq]
    omega
   rw [this]; rfl
  ·rw [if_neg e, if_neg e]
   unfold timesI at *
   omega
 have hset : ∀ i : Int, 1 ≤ i → i ≤ M → kd im i ≠ 0 → (zI im i).set 1 (wantL M im i) = zI im i := fun i i1 i2 i3 => by
  rw [← (h.links i i1 i2 i3).1]
  refine ext_getZ (by simp) fun j hj => ?_
  by_cases e : j = 1
  ·subst e
   rw [getD_set_eq (by simpa using hj)]
  ·rw [getD_set_ne (Ne.symm e)]
 have htk : ∀ i, (goneL M im).tk i = if 1 ≤ i ∧ i ≤ M ∧ kd im i ≠ 0 then some (zI im i) else none := fun i => by
  split
  ·rename_i e
   obtain ⟨z, hz⟩ := Option.isSome_iff_exists.1 (hr i (h.reach i e.1 e.2.1 e.2.2));obtain ⟨_, _, _, b4⟩ := hI.tk i z hz;rw [hz, b4, hcnt i e.1, hset i e.1 e.2.1 e.2.2]
  ·rename_i e
   cases hz : (goneL M im).tk i with
   | none => rfl
   | some z =>
    obtain ⟨b1, b2, b3, _⟩ := hI.tk i z hz
    exact absurd ⟨b1, b2, b3⟩ e
 refine ⟨hI.wt, htk, fun n => ?_⟩
 have hcl : ∀ K : Nat, K ≤ M → (clN M im K n = true ↔ ∃ k : Nat, k < K ∧ kd im ((k : Int) + 1) ≠ 0 ∧ Ck M im k n = true) := fun K => by
  induction K with
  | zero => exact fun _ => ⟨fun e => (by cases e), fun ⟨k, hk, _⟩ => (by omega)⟩
  | succ K ih =>
   intro hK
   have ih := ih (by omega)
   constructor
   ·intro e
    cases e2 : clN M im K n with
    | true =>
     obtain ⟨k, k1, k2⟩ := ih.1 e2
     exact ⟨k, by omega, k2⟩
    | false =>
     refine ⟨K, by omega, fun e3 => ?_, by unfold Ck; rw [e, e2]; rfl⟩;rw [clN_succ] at e;rw [if_pos e3, e2] at e
     cases e
   ·rintro ⟨k, k1, k2, k3⟩
    by_cases e : k = K
    ·subst e
     unfold Ck at k3
     exact (Bool.and_eq_true _ _ ▸ k3 : _ ∧ _).1
    ·exact clN_mono M im (Nat.le_succ K) n (ih.2 ⟨k, by omega, k2, k3⟩)
 rw [Bool.eq_iff_iff, hI.cl, hcl M (Nat.le_refl _)]
 refine exists_congr fun k => and_congr_right fun hk => and_congr_left fun _ => ?_
 rw [htk]
 split
 ·rename_i e; simp [e.2.2]
 ·rename_i e
  have : kd im ((k : Int) + 1) = 0 := by
   by_cases e3 : kd im ((k : Int) + 1) = 0
   ·exact e3
   ·exact absurd ⟨by omega, by omega, e3⟩ e
  simp [this]
theorem look_well {M : Nat} {im : Img} (hMl : M < im.length) (hs : AllSec im) (h : WellP M im) (hM : 1 ≤ M) : (lookL M im).wt = im := by
 obtain ⟨h1, h2, _⟩ := gone_well hs h hM
 show layK _ _ _ = im
 rw [h1]
 refine img_ext (layK_size _ _ _) fun n => ?_
 rw [layK_at _ _ _ _ hMl]
 split
 ·rename_i e
  unfold inodeW;rw [h2];obtain ⟨r1, r2⟩ := rd_parts (h.ino n e.1 e.2)
  split
  ·exact r2
  ·rename_i e2
   have hk : kd im n = 0 := by
    by_cases e3 : kd im n = 0
    ·exact e3
    ·exact absurd ⟨e.1, e.2, e3⟩ e2
   unfold inoB at r1;rw [if_pos (show (zI im n).getD 0 0 = 0 from hk)] at r1;rw [of_decide_eq_true r1] at r2
   exact r2
 ·rfl
end Go.Proofs.YtpmignilhoihnabGreat

namespace Go.Proofs.YtpmignilhoihnabGreat

def Rg (N M : Int) (keep : KeepF) : Prop := ∀ s i p n, s.wt.length = N → (keep s i p).2.cl n = true → s.cl n = true ∨ (M < n ∧ n < N)
theorem block_rg (N M cnt : Int) : Rg N M (blockF N M cnt) := fun s i p n _ h => by
 unfold blockF at h
 split at h
 ·rename_i e
  rw [Bool.and_eq_true] at e;obtain ⟨_, e2, e3⟩ := claimB_of.1 e.2
  by_cases hn : n = p
  ·subst hn; exact .inr ⟨e2, e3⟩
  ·have h : putC s.cl p n = true := h
   unfold putC at h;rw [beq_false_of_ne hn, Bool.false_or] at h
   exact .inl h
 ·exact .inl h
theorem goK_rg {N M : Int} {keep : KeepF} (hk : Kpr N M keep) (h : Rg N M keep) (a : List Int) (s : TS) (hs : s.wt.length = N) (n : Int) : ∀ k, (goK keep a s k).2.cl n = true → s.cl n = true ∨ (M < n ∧ n < N)
 | 0, e => .inl e
 | k + 1, e => by
  have hl : (goK keep a s k).2.wt.length = N := by rw [(goK_mo hk a s hs k).len]; exact hs
  rcases h (goK keep a s k).2 k (a.getD k 0) n hl e with e | e
  ·exact goK_rg hk h a s hs n k e
  ·exact .inr e
theorem table_rg {N M cnt each : Int} {keep : KeepF} (hM : 0 ≤ M) (hk : Kpr N M keep) (h : Rg N M keep) : Rg N M (tableF N M cnt each keep) := fun s f p n hs hn => by
 rcases table_cases (cnt := cnt) (each := each) hM hk s hs f p with ⟨_, e⟩ | ⟨_, _, e⟩ | ⟨hc, _, e⟩
 ·rw [e] at hn; exact .inl hn
 ·rw [e] at hn; exact .inl hn
 ·rw [e] at hn
  rw [Bool.and_eq_true] at hc;obtain ⟨_, e2, e3⟩ := claimB_of.1 hc.2;have hn : (gone each f keep s p).2.cl n = true := hn
  have hr : Rg N M (innerF each f keep) := fun s k p n hs hn => h s (f + each * k) p n hs hn
  rcases goK_rg (inner_kpr (each := each) (f := f) hk) hr (ptrsTo (secI s.wt p) 32) ⟨s.wt, putC s.cl p, s.sp⟩ hs n 32 hn with k | k
  ·have k : putC s.cl p n = true := k
   unfold putC at k
   by_cases hnp : n = p
   ·subst hnp; exact .inr ⟨e2, e3⟩
   ·rw [beq_false_of_ne hnp, Bool.false_or] at k
    exact .inl k
  ·exact .inr k
theorem dbl_rg {N M : Int} (hM : 0 ≤ M) (z : List Int) (wt : Img) (cl : Int → Bool) (hw : wt.length = N) {n : Int} (h : (dblT N M z wt cl).2.cl n = true) : cl n = true ∨ (M < n ∧ n < N) := by
 have kb := block_kpr N M (cntZ z);have rb := block_rg N M (cntZ z);have ks : Kpr N M (singleF N M (cntZ z)) := table_kpr hM kb;have rs : Rg N M (singleF N M (cntZ z)) := table_rg hM kb rb;have rd : Rg N M (doubleF N M (cntZ z)) := table_rg hM ks rs
 have l1 : (dirT N M z wt cl).2.wt.length = N := by rw [(dir_mo (N := N) (M := M) z wt cl hw).len]; exact hw
 have l2 : (sinT N M z wt cl).2.wt.length = N := by rw [(sin_mo (N := N) (M := M) hM z wt cl hw).len]; exact l1
 rcases rd _ _ _ n l2 h with e | e
 ·rcases rs _ _ _ n l1 e with e | e
  ·exact goK_rg kb rb _ _ hw n 12 e
  ·exact .inr e
 ·exact .inr e

def Okk (im : Img) (t : LS) : Prop := t.wt = im ∧ ∀ i z, t.tk i = some z → ∃ L, zI im i = z.set 1 L
theorem okk_back {N M : Int} {im : Img} {s t : LS} {rest : List Int} {D : Int → Prop} (hN : im.length = N) (hI : LInv N M im s rest) (hm : MoL D s t) (hD : ∀ n, D n → n ∈ rest ++ s.q.flatten) (h : Okk im t) : Okk im s := by
 refine ⟨img_ext (by have := hI.len; omega) fun n => ?_, fun i z hz => ?_⟩
 ·cases e : s.cl n with
  | false => exact (hI.un n e).1
  | true =>
   by_cases hd : D n
   ·exact (hI.raw n (hD n hd)).2.1
   ·rw [← hm.wt n e hd, h.1]
 ·obtain ⟨L, hL⟩ := hm.tk i z hz
  obtain ⟨L2, hL2⟩ := h.2 i _ hL
  exact ⟨L2, by rw [hL2, List.set_set]⟩
theorem take_fix {M : Nat} {im : Img} (hs : AllSec im) {s : LS} (hw : s.wt = im) {j : Int} {L : Int} (hz : zI im j = (inoT im.length M (zI im j) im s.cl).set 1 L) (ht : (takeL im.length M (zI im j) s).wt = im) :
  Still im.length M im (zI im j) s.cl ∧ (takeL im.length M (zI im j) s).cl = (dblT im.length M (zI im j) im s.cl).2.cl ∧ (takeL im.length M (zI im j) s).q = (if kd im j = 2 then s.q ++ [slotsI im j] else s.q) ∧
  (kd im j ≠ 2 → ∀ l, lastB ((zI im j).getD 2 0) (spI im (zI im j)) = some l → wip (secI im l.2) ((zI im j).getD 2 0 % 128) = secI im l.2) := by
 have hino : inoT im.length M (zI im j) im s.cl = (zI im j).set 1 0 := by
  have h1 : (inoT im.length M (zI im j) im s.cl).set 1 0 = inoT im.length M (zI im j) im s.cl := rfl
  conv => rhs; rw [hz, List.set_set, h1]
 have hm := dbl_mo (N := im.length) (M := M) (Int.natCast_nonneg M) (zI im j) im s.cl rfl
 by_cases h2 : kd im j = 2
 ·rw [takeL_dir h2, hw] at ht ⊢
  have hst : Still im.length M im (zI im j) s.cl := ⟨hino, ht⟩;refine ⟨hst, rfl, ?_, fun e => absurd h2 e⟩;rw [if_pos h2, still_sp (Int.natCast_nonneg M) rfl hs (zI_len im _) hst]
  rfl
 ·rw [takeL_file h2, hw] at ht ⊢
  have ht : wipeW ((zI im j).getD 2 0) (dblT im.length M (zI im j) im s.cl).2.sp (dblT im.length M (zI im j) im s.cl).2.wt = im := ht;have hok := dblT_ok im.length M (zI im j) im s.cl;obtain ⟨new, e, p, _⟩ := hm.sp;have e : (dblT im.length M (zI im j) im s.cl).2.sp = new := e;rw [← e] at p
  have hdw : (dblT im.length M (zI im j) im s.cl).2.wt = im := by
   refine img_ext hm.len fun n => ?_
   by_cases hn : ∃ x ∈ (dblT im.length M (zI im j) im s.cl).2.sp, x.2 = n
   ·obtain ⟨x, hx, rfl⟩ := hn
    exact (p x hx).2.2
   ·have := wipe_ne (size := (zI im j).getD 2 0) (wt := (dblT im.length M (zI im j) im s.cl).2.wt) (n := n) (fun x hx => by have := (hok x hx).1; omega) (fun x hx e => hn ⟨x, hx, e⟩)
    rw [← this, ht]
  have hst : Still im.length M im (zI im j) s.cl := ⟨hino, hdw⟩;have hsp := still_sp (Int.natCast_nonneg M) rfl hs (zI_len im _) hst;refine ⟨hst, rfl, by rw [if_neg h2], fun _ l hl => ?_⟩;have hml := lastB_mem hl;rw [← hsp] at hml;have hb := hok l hml;rw [hdw, hsp] at ht;unfold wipeW at ht;rw [hl] at ht;have ht : im.set l.2.toNat (wip (secI im l.2) ((zI im j).getD 2 0 % 128)) = im := ht
  conv => rhs; rw [← ht]
  exact (secI_set (by omega) hb.2).symm
end Go.Proofs.YtpmignilhoihnabGreat

namespace Go.Proofs.YtpmignilhoihnabGreat

def CC (M : Nat) (im : Img) (c : Nat → Int → Bool) (k : Nat) (n : Int) : Bool := (dblT im.length M (zI im ((k : Int) + 1)) im (c k)).2.cl n && !c k n
def putK (c : Nat → Int → Bool) (j : Nat) (x : Int → Bool) : Nat → Int → Bool := fun k => if k = j then x else c k
theorem CC_put (M : Nat) (im : Img) (c : Nat → Int → Bool) (j : Nat) (x : Int → Bool) : CC M im (putK c j x) j = fun n => (dblT im.length M (zI im ((j : Int) + 1)) im x).2.cl n && !x n := by
 funext n
 unfold CC putK;rw [if_pos rfl]
theorem CC_ne {M : Nat} {im : Img} {c : Nat → Int → Bool} {j k : Nat} {x : Int → Bool} (h : k ≠ j) : CC M im (putK c j x) k = CC M im c k := by
 funext n
 unfold CC putK;rw [if_neg h]
def TailOk (im : Img) (i : Int) : Prop := kd im i ≠ 2 → ∀ l, lastB ((zI im i).getD 2 0) (spI im (zI im i)) = some l → wip (secI im l.2) ((zI im i).getD 2 0 % 128) = secI im l.2
structure FI (M : Nat) (im : Img) (c : Nat → Int → Bool) (s : LS) (V rest ds : List Int) (nd : Nat) : Prop where
 si : SI M im (CC M im c) s V rest ds nd
 rd : ∀ i, (s.tk i).isSome = true → (rdI im i).2 = 0 ∧ Rch M im i ∧ (kd im i = 2 → cntV im V i = 1) ∧ 1 ≤ cntV im V i ∧ TailOk im i
 st : ∀ k : Nat, (s.tk ((k : Int) + 1)).isSome = true → Still im.length M im (zI im ((k : Int) + 1)) (c k)
 ap : ∀ (k l : Nat) n, k ≠ l → (s.tk ((k : Int) + 1)).isSome = true → (s.tk ((l : Int) + 1)).isSome = true → CC M im c k n = true → CC M im c l n = false
 sl : ∀ x ∈ V, (slotOf (secI im x)).2.2 = 0 ∧ (inoAt im x ≠ 0 → 2 ≤ inoAt im x ∧ (s.tk (inoAt im x)).isSome = true)
theorem SI.other {M : Nat} {im : Img} {C D : Nat → Int → Bool} {s : LS} {V rest ds : List Int} {nd : Nat} (h : SI M im C s V rest ds nd) (hD : ∀ k : Nat, (s.tk ((k : Int) + 1)).isSome = true → D k = C k) : SI M im D s V rest ds nd := by
 refine ⟨h.wt, h.tk, h.no, h.one, fun n => ?_, h.nod, h.dsm, h.lst, h.qn⟩;rw [h.cl]
 constructor
 ·rintro ⟨k, k1, k2, k3⟩; exact ⟨k, k1, k2, by rw [hD k k2]; exact k3⟩
 ·rintro ⟨k, k1, k2, k3⟩; exact ⟨k, k1, k2, by rw [← hD k k2]; exact k3⟩
theorem enter_fi {M : Nat} {im : Img} (hs : AllSec im) {c : Nat → Int → Bool} {s : LS} {V rest ds V' rest' : List Int} {nd : Nat} (hI : FI M im c s V rest ds nd) {j : Int} (hOk : Okk im (enterL im.length M im j s))
  (hso : s.tk j = none → (soundZ M im j).2 = true) (hkt : s.tk j ≠ none → kd im j ≠ 2) (hr : Rch M im j)
  (hnew : s.tk j = none → cntV im V' j = 1) (hold : s.tk j ≠ none → cntV im V' j = cntV im V j + 1) (hoth : ∀ i, i ≠ j → i ≠ 0 → V'.countP (nmB im i) = V.countP (nmB im i)) (hone : j ≠ 1 → 1 ≤ V'.countP (nmB im j)) (hl : V' ++ rest' = V ++ rest)
  (hsl : ∀ x ∈ V', x ∈ V ∨ ((slotOf (secI im x)).2.2 = 0 ∧ inoAt im x = j ∧ 2 ≤ j)) :
  ∃ c' ds', FI M im c' (enterL im.length M im j s) V' rest' ds' nd ∧ ds <+: ds' := by
 have hcn : ∀ i, i ≠ j → i ≠ 0 → cntV im V' i = cntV im V i := fun i hi h0 => by unfold cntV; rw [hoth i hi h0]
 cases ht : s.tk j with
 | some z =>
  obtain ⟨a1, a2, a3, a4⟩ := hI.si.tk j z ht
  have hjs : (s.tk j).isSome = true := by rw [ht]; rfl
  rw [enter_some ht]
  have hsome : ∀ i, (putT s.tk j (moreZ z) i).isSome = true ↔ (s.tk i).isSome = true := fun i => by
   rw [put_some]
   constructor
   ·rintro (rfl | e)
    ·exact hjs
    ·exact e
   ·exact .inr
  have hds : ∃ ds', SI M im (CC M im c) { s with tk := putT s.tk j (moreZ z) } V' rest' ds' nd ∧ ds <+: ds' := by
   obtain ⟨ds', h'⟩ := put_si (s' := { s with tk := putT s.tk j (moreZ z) }) hI.si a1 a2 a3 hoth hone hl hI.si.wt (by
     show putT _ _ _ = _
     rw [a4, more_set (zI_len im _), hold (by rw [ht]; simp)]) (fun n => by
     show s.cl n = true ↔ _
     constructor
     ·exact .inl
     ·rintro (e | e)
      ·exact e
      ·exact (hI.si.cl n).2 ⟨(j - 1).toNat, by omega, by rw [show (((j - 1).toNat : Nat) : Int) + 1 = j by omega]; exact hjs, e⟩) (.inl ⟨rfl, .inr hjs⟩)
   refine ⟨ds, ⟨h'.wt, h'.tk, h'.no, h'.one, h'.cl, hI.si.nod, fun d => ?_, by rw [hl]; exact hI.si.lst, hI.si.qn⟩, List.prefix_rfl⟩;rw [hI.si.dsm]
   show _ ↔ (putT s.tk j (moreZ z) d).isSome = true ∧ _
   rw [hsome]
  obtain ⟨ds', h1, h2⟩ := hds;refine ⟨c, ds', ⟨h1, fun i hi => ?_, fun k hk => hI.st k ((hsome _).1 hk), fun k l n hkl hk hl => hI.ap k l n hkl ((hsome _).1 hk) ((hsome _).1 hl), fun x hx => ?_⟩, h2⟩
  ·obtain ⟨b1, b2, b3, b4, b5⟩ := hI.rd i ((hsome i).1 hi)
   by_cases e : i = j
   ·subst e
    have := hold (by rw [ht]; simp)
    exact ⟨b1, b2, fun e2 => absurd e2 (hkt (by rw [ht]; simp)), by omega, b5⟩
   ·obtain ⟨y, hy⟩ := Option.isSome_iff_exists.1 ((hsome i).1 hi)
    rw [hcn i e (by have := (hI.si.tk i y hy).1; omega)]
    exact ⟨b1, b2, b3, b4, b5⟩
  ·rcases hsl x hx with e | ⟨e1, e2, e3⟩
   ·obtain ⟨d1, d2⟩ := hI.sl x e
    exact ⟨d1, fun e0 => ⟨(d2 e0).1, (hsome _).2 (d2 e0).2⟩⟩
   ·exact ⟨e1, fun _ => ⟨by omega, (hsome _).2 (by rw [e2]; exact hjs)⟩⟩
 | none =>
  obtain ⟨p1, p2, p3, p4, p5, p6⟩ := sound_parts (hso ht)
  have hz : (soundZ M im j).1 = zI im j := by rw [sound_zI p1 p2]
  have hrd : (rdI im j).2 = 0 ∧ kd im j ≠ 0 := by
   have := hso ht;rw [sound_zI p1 p2] at this
   simpa using this
  rw [enter_none ht, hz] at hOk ⊢;obtain ⟨w1, w2⟩ := hOk;have w1 : (takeL im.length M (zI im j) s).wt = im := w1;obtain ⟨L, hL⟩ := w2 j _ (putT_same _ _ _);rw [hI.si.wt] at hL;unfold moreZ at hL;rw [List.set_set] at hL;obtain ⟨f1, f2, f3, f4⟩ := take_fix hs hI.si.wt hL w1;obtain ⟨k, rfl⟩ : ∃ k : Nat, j = (k : Int) + 1 := ⟨(j - 1).toNat, by omega⟩
  have hkt' : ∀ l : Nat, (s.tk ((l : Int) + 1)).isSome = true → l ≠ k := fun l hl e => by
   subst e;rw [ht] at hl
   cases hl
  have hmo := dbl_mo (N := im.length) (M := M) (Int.natCast_nonneg M) (zI im ((k : Int) + 1)) im s.cl rfl;have hS := hI.si.other (D := CC M im (putK c k s.cl)) (fun l hl => CC_ne (hkt' l hl))
  have hCk : ∀ n, CC M im (putK c k s.cl) k n = ((dblT im.length M (zI im ((k : Int) + 1)) im s.cl).2.cl n && !s.cl n) := fun n => by rw [CC_put]
  have hj0 : ((k : Int) + 1 - 1).toNat = k := by omega
  have hst : ∀ l : Nat, l ≠ k → putK c k s.cl l = c l := fun l hl => by unfold putK; rw [if_neg hl]
  generalize ht' : ({ takeL im.length M (zI im ((k : Int) + 1)) s with tk := putT (takeL im.length M (zI im ((k : Int) + 1)) s).tk ((k : Int) + 1) (moreZ (inoT im.length M (zI im ((k : Int) + 1)) s.wt s.cl)) } : LS) = t
  have g1 : t.wt = im := by rw [← ht']; exact w1
  have g2 : t.tk = putT s.tk ((k : Int) + 1) ((zI im ((k : Int) + 1)).set 1 (cntV im V' ((k : Int) + 1))) := by
   rw [← ht']
   show putT _ _ _ = _
   rw [takeL_tk, hI.si.wt, f1.1, more_set (zI_len im _), hnew ht]
   rfl
  have g3 : ∀ n, t.cl n = (dblT im.length M (zI im ((k : Int) + 1)) im s.cl).2.cl n := fun n => by rw [← ht', ← f2]
  have g4 : t.q = if kd im ((k : Int) + 1) = 2 then s.q ++ [slotsI im ((k : Int) + 1)] else s.q := by rw [← ht', ← f3]
  have hsome : ∀ i, (t.tk i).isSome = true ↔ i = (k : Int) + 1 ∨ (s.tk i).isSome = true := fun i => by rw [g2]; exact put_some _ _ _ _
  have hcl : ∀ n, t.cl n = true ↔ s.cl n = true ∨ CC M im (putK c k s.cl) k n = true := fun n => by
   rw [g3, hCk]
   constructor
   ·intro e
    cases e2 : s.cl n with
    | true => exact .inl rfl
    | false => exact .inr (by rw [e]; rfl)
   ·rintro (e | e)
    ·exact hmo.cl n e
    ·exact (Bool.and_eq_true _ _ ▸ e : _ ∧ _).1
  have hds : ∃ ds', SI M im (CC M im (putK c k s.cl)) t V' rest' ds' nd ∧ ds <+: ds' := by
   obtain ⟨ds', h'⟩ := put_si (s' := t) hS p1 p2 hrd.2 hoth hone hl g1 g2 (by rw [hj0]; exact hcl) (by
    rw [g4]
    by_cases e : kd im ((k : Int) + 1) = 2
    ·rw [if_pos e]; exact .inr ⟨rfl, e, ht⟩
    ·rw [if_neg e]; exact .inl ⟨rfl, .inl e⟩)
   have hnj : (k : Int) + 1 ∉ ds := fun e => by
    have := ((hI.si.dsm _).1 e).1;rw [ht] at this
    cases this
   by_cases e : kd im ((k : Int) + 1) = 2
   ·rw [if_pos e] at g4
    refine ⟨ds ++ [(k : Int) + 1], ⟨h'.wt, h'.tk, h'.no, h'.one, h'.cl, ?_, fun d => ?_, ?_, ?_⟩, List.prefix_append _ _⟩
    ·rw [List.nodup_append]
     exact ⟨hI.si.nod, by simp, fun a ha b hb => by
      obtain rfl := List.mem_singleton.1 hb
      rintro rfl
      exact hnj ha⟩
    ·rw [List.mem_append, List.mem_singleton, hI.si.dsm, hsome]
     constructor
     ·rintro (⟨a, b⟩ | rfl)
      ·exact ⟨.inr a, b⟩
      ·exact ⟨.inl rfl, e⟩
     ·rintro ⟨rfl | a, b⟩
      ·exact .inr rfl
      ·exact .inl ⟨a, b⟩
    ·rw [g4, hl, List.flatten_append, List.flatMap_append, ← List.append_assoc, hI.si.lst]
     simp
    ·rw [g4, List.drop_append_of_le_length hI.si.qn.2, List.map_append, ← hI.si.qn.1, List.length_append]
     exact ⟨rfl, by have := hI.si.qn.2; omega⟩
   ·rw [if_neg e] at g4
    refine ⟨ds, ⟨h'.wt, h'.tk, h'.no, h'.one, h'.cl, hI.si.nod, fun d => ?_, by rw [hl, g4]; exact hI.si.lst, by rw [g4]; exact hI.si.qn⟩, List.prefix_rfl⟩;rw [hI.si.dsm, hsome]
    constructor
    ·rintro ⟨a, b⟩; exact ⟨.inr a, b⟩
    ·rintro ⟨rfl | a, b⟩
     ·exact absurd b e
     ·exact ⟨a, b⟩
  obtain ⟨ds', h1, h2⟩ := hds;refine ⟨putK c k s.cl, ds', ⟨h1, fun i hi => ?_, fun l hl => ?_, fun a b n hab ha hb hn => ?_, fun x hx => ?_⟩, h2⟩
  ·by_cases e : i = (k : Int) + 1
   ·subst e
    exact ⟨hrd.1, hr, fun _ => hnew ht, by rw [hnew ht]; omega, f4⟩
   ·have hi := ((hsome i).1 hi).resolve_left e
    obtain ⟨y, hy⟩ := Option.isSome_iff_exists.1 hi;rw [hcn i e (by have := (hI.si.tk i y hy).1; omega)]
    exact hI.rd i hi
  ·by_cases e : l = k
   ·subst e
    unfold putK;rw [if_pos rfl]
    exact f1
   ·rw [hst l e]
    exact hI.st l (((hsome _).1 hl).resolve_left (by omega))
  ·by_cases ea : a = k
   ·subst ea
    rw [hCk] at hn
    have hn := (Bool.and_eq_true _ _ ▸ hn : _ ∧ _)
    have hb' := ((hsome _).1 hb).resolve_left (by omega)
    cases e : CC M im (putK c a s.cl) b n with
    | false => rfl
    | true =>
     obtain ⟨y, hy⟩ := Option.isSome_iff_exists.1 hb';have := (hS.cl n).2 ⟨b, by have := (hI.si.tk _ y hy).2.1; omega, hb', e⟩;rw [this] at hn
     cases hn.2
   ·have ha' := ((hsome _).1 ha).resolve_left (by omega)
    by_cases eb : b = k
    ·subst eb
     obtain ⟨y, hy⟩ := Option.isSome_iff_exists.1 ha';have := (hS.cl n).2 ⟨a, by have := (hI.si.tk _ y hy).2.1; omega, ha', hn⟩;rw [hCk, this]
     simp
    ·rw [CC_ne ea] at hn
     rw [CC_ne eb]
     exact hI.ap a b n hab ha' (((hsome _).1 hb).resolve_left (by omega)) hn
  ·rcases hsl x hx with e | ⟨e1, e2, e3⟩
   ·obtain ⟨d1, d2⟩ := hI.sl x e
    exact ⟨d1, fun e0 => ⟨(d2 e0).1, (hsome _).2 (.inr (d2 e0).2)⟩⟩
   ·exact ⟨e1, fun _ => ⟨by omega, (hsome _).2 (.inl e2)⟩⟩
end Go.Proofs.YtpmignilhoihnabGreat
