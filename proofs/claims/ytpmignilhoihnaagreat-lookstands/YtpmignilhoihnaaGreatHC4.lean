/-
 An image that is well-formed; what holds of a look over it.
-/
import Derived.Test.YtpmignilhoihnaaGreatH9
namespace Go.Proofs.YtpmignilhoihnaaGreat

/-- The same run over the same image, where others are claimed besides, and none of those that it claims. -/
structure TQ (im : Img) (c0 c1 : Int → Bool) (s t : TS) : Prop where
 ws : s.wt = im
 wt : t.wt = im
 sp : t.sp = s.sp
 mo : ∀ n, c0 n = true → s.cl n = true
 cl : ∀ n, t.cl n = (c1 n || (s.cl n && !c0 n))
def AptT (c0 c1 : Int → Bool) (u : TS) : Prop := ∀ n, u.cl n = true → c0 n = false → c1 n = false
theorem AptT.sub {c0 c1 : Int → Bool} {u v : TS} (h : AptT c0 c1 v) (m : Mo u v) : AptT c0 c1 u := fun n hn h0 => h n (m.cl n hn) h0
/-- A keeper that comes to the same beside others. -/
def Ki (im : Img) (c0 c1 : Int → Bool) (keep : KeepF) : Prop := ∀ s t i p, TQ im c0 c1 s t → (p = 0 ∨ (keep s i p).1 = true) → (keep s i p).2.wt = im → AptT c0 c1 (keep s i p).2 →
 (keep t i p).1 = (keep s i p).1 ∧ TQ im c0 c1 (keep s i p).2 (keep t i p).2
theorem TQ.off {im : Img} {c0 c1 : Int → Bool} {s t : TS} (h : TQ im c0 c1 s t) {p : Int} (hs : s.cl p = false) (h1 : c1 p = false) : t.cl p = false := by
 rw [h.cl, hs, h1]; rfl
theorem TQ.put {im : Img} {c0 c1 : Int → Bool} {s t : TS} (h : TQ im c0 c1 s t) {p : Int} (hs : s.cl p = false) (sp : List (Int × Int)) : TQ im c0 c1 ⟨s.wt, putC s.cl p, sp⟩ ⟨t.wt, putC t.cl p, sp⟩ := by
 have h0 : c0 p = false := by
  cases e : c0 p with
  | false => rfl
  | true => rw [h.mo p e] at hs; cases hs
 refine ⟨h.ws, h.wt, rfl, fun n hn => putC_old (h.mo n hn), fun n => ?_⟩
 show putC t.cl p n = (c1 n || (putC s.cl p n && !c0 n))
 unfold putC
 by_cases e : n = p
 ·subst e; simp [h0]
 ·rw [beq_false_of_ne e, Bool.false_or, Bool.false_or]; exact h.cl n
theorem block_ki {N M cnt : Int} (hM : 0 ≤ M) (im : Img) (c0 c1 : Int → Bool) : Ki im c0 c1 (blockF N M cnt) := fun s t i p h hp _ ha => by
 by_cases hk : (decide (i < cnt) && claimB N M s.cl p) = true
 ·have hk' := (Bool.and_eq_true _ _ ▸ hk : _ ∧ _)
  obtain ⟨a1, a2, a3⟩ := claimB_of.1 hk'.2
  have e1 : blockF N M cnt s i p = (true, ⟨s.wt, putC s.cl p, s.sp ++ [(i, p)]⟩) := by unfold blockF; rw [if_pos hk]
  rw [e1] at ha ⊢
  have h0 : c0 p = false := by
   cases e : c0 p with
   | false => rfl
   | true => rw [h.mo p e] at a1; cases a1
  have h1 := ha p (putC_self _ _) h0
  have e2 : blockF N M cnt t i p = (true, ⟨t.wt, putC t.cl p, t.sp ++ [(i, p)]⟩) := by
   unfold blockF
   rw [if_pos]
   rw [Bool.and_eq_true]
   exact ⟨hk'.1, claimB_of.2 ⟨h.off a1 h1, a2, a3⟩⟩
  rw [e2]
  refine ⟨rfl, ?_⟩
  rw [h.sp]
  exact h.put a1 _
 ·have e1 : blockF N M cnt s i p = (false, s) := by unfold blockF; rw [if_neg hk]
  rw [e1] at hp ⊢
  obtain rfl : p = 0 := by
   rcases hp with e | e
   ·exact e
   ·cases e
  have e2 : blockF N M cnt t i 0 = (false, t) := by unfold blockF; rw [claim_zero hM, Bool.and_false, if_neg (by simp)]
  rw [e2]
  exact ⟨rfl, h⟩
theorem inner_ki {each f : Int} {im : Img} {c0 c1 : Int → Bool} {keep : KeepF} (h : Ki im c0 c1 keep) : Ki im c0 c1 (innerF each f keep) := fun s t _ p k hp hw ha => h s t _ p k hp hw ha
/-- A row of pointers all of which stay. -/
theorem goK_ki {N M : Int} {im : Img} {c0 c1 : Int → Bool} {keep : KeepF} (hN : im.length = N) (hk : Kpr N M keep) (hi : Ki im c0 c1 keep) (a : List Int) (K : Nat) (ha : a.length = K) (s t : TS) (h : TQ im c0 c1 s t)
  (hst : (goK keep a s K).1 = a) (hw : ∀ k, k ≤ K → (goK keep a s k).2.wt = im) (hap : AptT c0 c1 (goK keep a s K).2) :
  ∀ k, k ≤ K → TQ im c0 c1 (goK keep a s k).2 (goK keep a t k).2 ∧ ∀ j, j < k → (keep (goK keep a t j).2 j (a.getD j 0)).1 = (keep (goK keep a s j).2 j (a.getD j 0)).1
 | 0, _ => ⟨h, fun j hj => by omega⟩
 | k + 1, hkK => by
  obtain ⟨ih, ip⟩ := goK_ki hN hk hi a K ha s t h hst hw hap k (by omega)
  have hs : s.wt.length = N := by rw [h.ws]; exact hN
  have hga := goK_get keep a s k K (by omega)
  rw [if_pos (show k < K by omega), hst] at hga
  have hp : a.getD k 0 = 0 ∨ (keep (goK keep a s k).2 k (a.getD k 0)).1 = true := by
   by_cases e : (keep (goK keep a s k).2 k (a.getD k 0)).1 = true
   ·exact .inr e
   ·rw [if_neg e] at hga; exact .inl hga
  have hstep := hi (goK keep a s k).2 (goK keep a t k).2 k (a.getD k 0) ih hp (hw (k + 1) hkK) (hap.sub (goK_later hk a s hs (k + 1) K hkK))
  refine ⟨hstep.2, fun j hj => ?_⟩
  by_cases e : j = k
  ·subst e; exact hstep.1
  ·exact ip j (by omega)
theorem goK_ki_end {N M : Int} {im : Img} {c0 c1 : Int → Bool} {keep : KeepF} (hN : im.length = N) (hk : Kpr N M keep) (hi : Ki im c0 c1 keep) (a : List Int) (K : Nat) (ha : a.length = K) (s t : TS) (h : TQ im c0 c1 s t)
  (hst : (goK keep a s K).1 = a) (hw : ∀ k, k ≤ K → (goK keep a s k).2.wt = im) (hap : AptT c0 c1 (goK keep a s K).2) :
  (goK keep a t K).1 = a ∧ TQ im c0 c1 (goK keep a s K).2 (goK keep a t K).2 := by
 obtain ⟨h1, h2⟩ := goK_ki hN hk hi a K ha s t h hst hw hap K (Nat.le_refl _)
 refine ⟨?_, h1⟩
 refine ext_getZ (by rw [goK_len]) fun j hj => ?_
 rw [goK_len, ha] at hj
 have hg := goK_get keep a s j K (by omega)
 rw [if_pos hj, hst] at hg
 rw [goK_get keep a t j K (by omega), if_pos hj, h2 j hj]
 exact hg.symm
/-- All that was changed by a step shows at the end. -/
theorem wt_mid {im : Img} {a b c : TS} (h1 : Mo a b) (h2 : Mo b c) (ha : a.wt = im) (hc : c.wt = im) : b.wt = im := by
 refine img_ext (by rw [h1.len, ha]) fun n => ?_
 cases e : b.cl n with
 | true => rw [← h2.wt n e, hc]
 | false => rw [h1.un n e, ha]
theorem table_ki {N M cnt each : Int} {im : Img} {c0 c1 : Int → Bool} {keep : KeepF} (hM : 0 ≤ M) (hN : im.length = N) (hs : AllSec im) (hk : Kpr N M keep) (hi : Ki im c0 c1 keep) : Ki im c0 c1 (tableF N M cnt each keep) := fun s t f p h hp hw ha => by
 have hsl : s.wt.length = N := by rw [h.ws]; exact hN
 have htl : t.wt.length = N := by rw [h.wt]; exact hN
 have hzero : tableF N M cnt each keep t f 0 = (false, t) := by
  unfold tableF
  rw [claim_zero hM, Bool.and_false, if_neg (by simp)]
 rcases table_cases (cnt := cnt) (each := each) hM hk s hsl f p with ⟨hc, e⟩ | ⟨hc, hz, e⟩ | ⟨hc, hz, e⟩
 ·rw [e] at hp ⊢
  obtain rfl : p = 0 := by
   rcases hp with e | e
   ·exact e
   ·cases e
  rw [hzero]; exact ⟨rfl, h⟩
 ·rw [e] at hp ⊢
  obtain rfl : p = 0 := by
   rcases hp with e | e
   ·exact e
   ·cases e
  rw [hzero]; exact ⟨rfl, h⟩
 ·rw [e] at hw ha ⊢
  have hcp := (Bool.and_eq_true _ _ ▸ hc : _ ∧ _)
  obtain ⟨b1, b2, b3⟩ := claimB_of.1 hcp.2
  have hm := gone_mo (each := each) (f := f) hk s hsl p
  have hon : (gone each f keep s p).2.cl p = true := hm.cl p (putC_self _ _)
  have hgl : (gone each f keep s p).2.wt.length = N := by rw [hm.len]; exact hsl
  -- the table is as it was
  have hw' : (gone each f keep s p).2.wt.set p.toNat (ptrS (gone each f keep s p).1) = im := hw
  have hp1 : secI im p = ptrS (gone each f keep s p).1 := by
   rw [← hw']
   exact secI_set (by omega) (by rw [hgl]; exact b3)
  have hst : (gone each f keep s p).1 = ptrsTo (secI s.wt p) 32 := by
   have := gone_back each f keep s p (by rw [h.ws]; exact hs p)
   rw [← hp1] at this
   rw [h.ws]
   exact this.symm
  have hg2 : (gone each f keep s p).2.wt = im := by
   refine img_ext (by omega) fun n => ?_
   by_cases e2 : n = p
   ·subst e2
    rw [hm.wt n (putC_self _ _)]
    show secI s.wt n = _
    rw [h.ws]
   ·rw [← hw']
    exact (secI_set_ne (by omega) e2).symm
  have h0 : c0 p = false := by
   cases e : c0 p with
   | false => rfl
   | true => rw [h.mo p e] at b1; cases b1
  have h1 : c1 p = false := ha p hon h0
  have htp : t.cl p = false := h.off b1 h1
  have hsame := goK_ki_end hN (inner_kpr (each := each) (f := f) hk) (inner_ki hi) (ptrsTo (secI s.wt p) 32) 32 (ptrsTo_len _ _) ⟨s.wt, putC s.cl p, s.sp⟩ ⟨t.wt, putC t.cl p, s.sp⟩ (h.put b1 _) hst (fun k hkk => wt_mid (goK_mo (inner_kpr (each := each) (f := f) hk) (ptrsTo (secI s.wt p) 32) ⟨s.wt, putC s.cl p, s.sp⟩ hsl k) (goK_later (inner_kpr (each := each) (f := f) hk) (ptrsTo (secI s.wt p) 32) ⟨s.wt, putC s.cl p, s.sp⟩ hsl k 32 hkk) h.ws hg2) ha
  have hgt : gone each f keep t p = goK (innerF each f keep) (ptrsTo (secI s.wt p) 32) ⟨t.wt, putC t.cl p, s.sp⟩ 32 := by
   unfold gone
   rw [h.wt, h.ws, h.sp]
  have k1 : (gone each f keep t p).1 = (gone each f keep s p).1 := by rw [hgt, hsame.1, hst]
  have k2 : TQ im c0 c1 (gone each f keep s p).2 (gone each f keep t p).2 := by rw [hgt]; exact hsame.2
  rcases table_cases (cnt := cnt) (each := each) hM hk t htl f p with ⟨k, _⟩ | ⟨_, k, _⟩ | ⟨_, _, e3⟩
  ·exact absurd (by rw [Bool.and_eq_true]; exact ⟨hcp.1, claimB_of.2 ⟨htp, b2, b3⟩⟩) k
  ·exact absurd (k1.symm.trans k) hz
  ·rw [e3, k1]
   refine ⟨rfl, hw, ?_, k2.sp, k2.mo, k2.cl⟩
   show (gone each f keep t p).2.wt.set p.toNat (ptrS (gone each f keep s p).1) = im
   rw [k2.wt, ← hg2]
   exact hw.trans hg2.symm
end Go.Proofs.YtpmignilhoihnaaGreat

namespace Go.Proofs.YtpmignilhoihnaaGreat

/-- An inode whose pointers all stay. -/
def Still (N M : Int) (im : Img) (z : List Int) (cl : Int → Bool) : Prop := inoT N M z im cl = z.set 1 0 ∧ (dblT N M z im cl).2.wt = im
/-- What it claims does not hang on what was claimed by others. -/
theorem still_ki {N M : Int} {im : Img} (hM : 0 ≤ M) (hN : im.length = N) (hs : AllSec im) {z : List Int} (hz : z.length = 18) {c0 c1 : Int → Bool} (h : Still N M im z c0) (ha : ∀ n, (dblT N M z im c0).2.cl n = true → c0 n = false → c1 n = false) :
  Still N M im z c1 ∧ TQ im c0 c1 (dblT N M z im c0).2 (dblT N M z im c1).2 := by
 have kb := block_kpr N M (cntZ z)
 have ib := block_ki (N := N) (cnt := cntZ z) hM im c0 c1
 have ks : Kpr N M (singleF N M (cntZ z)) := table_kpr hM kb
 have is : Ki im c0 c1 (singleF N M (cntZ z)) := table_ki hM hN hs kb ib
 have id : Ki im c0 c1 (doubleF N M (cntZ z)) := table_ki hM hN hs ks is
 have md := dir_mo (N := N) (M := M) z im c0 hN
 have ms := sin_mo (N := N) (M := M) hM z im c0 hN
 have mq := dbl_mo0 (N := N) (M := M) hM z im c0 hN
 obtain ⟨h1, h2⟩ := h
 have w2 : (sinT N M z im c0).2.wt = im := wt_mid (md.trans ms) mq rfl h2
 have w1 : (dirT N M z im c0).2.wt = im := wt_mid md ms rfl w2
 have hget : ∀ m, 4 ≤ m → m < 18 → (inoT N M z im c0).getD m 0 = z.getD m 0 := fun m a b => by rw [h1, getD_set_ne (by omega)]
 have hdir : (dirT N M z im c0).1 = (z.drop 4).take 12 := by
  refine ext_getZ (by rw [dirT_len hz, part_len hz]) fun j hj => ?_
  rw [dirT_len hz] at hj
  rw [part_get hz hj, ← inoT_dir hz im c0 hj]
  exact hget (4 + j) (by omega) (by omega)
 have start : TQ im c0 c1 ⟨im, c0, []⟩ ⟨im, c1, []⟩ := ⟨rfl, rfl, rfl, fun _ e => e, fun n => by
  show c1 n = (c1 n || (c0 n && !c0 n))
  cases c0 n <;> cases c1 n <;> rfl⟩
 have apd : AptT c0 c1 (dblT N M z im c0).2 := ha
 have aps : AptT c0 c1 (sinT N M z im c0).2 := apd.sub mq
 have s1 := goK_ki_end hN kb ib ((z.drop 4).take 12) 12 (part_len hz) ⟨im, c0, []⟩ ⟨im, c1, []⟩ start hdir (fun k hk => wt_mid (goK_mo kb ((z.drop 4).take 12) ⟨im, c0, []⟩ hN k) (goK_later kb ((z.drop 4).take 12) ⟨im, c0, []⟩ hN k 12 hk) rfl w1) (aps.sub ms)
 have e1 : (dirT N M z im c1).1 = (z.drop 4).take 12 ∧ TQ im c0 c1 (dirT N M z im c0).2 (dirT N M z im c1).2 := s1
 have p16 : z.getD 16 0 = 0 ∨ (sinT N M z im c0).1 = true := by
  have := hget 16 (by omega) (by omega)
  rw [inoT_sin hz] at this
  cases hb : (sinT N M z im c0).1 with
  | true => exact .inr rfl
  | false => rw [hb] at this; exact .inl this.symm
 have p17 : z.getD 17 0 = 0 ∨ (dblT N M z im c0).1 = true := by
  have := hget 17 (by omega) (by omega)
  rw [inoT_dbl hz] at this
  cases hb : (dblT N M z im c0).1 with
  | true => exact .inr rfl
  | false => rw [hb] at this; exact .inl this.symm
 have e2 : (sinT N M z im c1).1 = (sinT N M z im c0).1 ∧ TQ im c0 c1 (sinT N M z im c0).2 (sinT N M z im c1).2 := is (dirT N M z im c0).2 (dirT N M z im c1).2 12 (z.getD 16 0) e1.2 p16 w2 aps
 have e3 : (dblT N M z im c1).1 = (dblT N M z im c0).1 ∧ TQ im c0 c1 (dblT N M z im c0).2 (dblT N M z im c1).2 := id (sinT N M z im c0).2 (sinT N M z im c1).2 44 (z.getD 17 0) e2.2 p17 h2 apd
 refine ⟨⟨?_, e3.2.wt⟩, e3.2⟩
 rw [← h1]
 unfold inoT
 rw [e1.1, e2.1, e3.1, hdir]
end Go.Proofs.YtpmignilhoihnaaGreat

namespace Go.Proofs.YtpmignilhoihnaaGreat

/-- The blocks that a kept pointer leads to. -/
def Gs (N : Int) (im : Img) (keep : KeepF) (G : Int → Int → List (Int × Int)) : Prop := ∀ s i p, s.wt = im → im.length = N → (keep s i p).2.wt = im → (keep s i p).1 = true → (keep s i p).2.sp = s.sp ++ G i p
def rowG (G : Int → Int → List (Int × Int)) (f each : Int) (t : List Int) (K : Nat) : List (Int × Int) := (List.range K).flatMap fun k => if t.getD k 0 = 0 then [] else G (f + each * k) (t.getD k 0)
theorem rowG_succ (G : Int → Int → List (Int × Int)) (f each : Int) (t : List Int) (K : Nat) : rowG G f each t (K + 1) = rowG G f each t K ++ (if t.getD K 0 = 0 then [] else G (f + each * K) (t.getD K 0)) := by
 unfold rowG
 rw [List.range_succ, List.flatMap_append]
 simp
theorem goK_sp {N M : Int} {im : Img} {keep : KeepF} {G : Int → Int → List (Int × Int)} (f each : Int) (hM : 0 ≤ M) (hN : im.length = N) (hk : Kpr N M keep) (hG : ∀ s (k : Nat) p, s.wt = im → (keep s k p).2.wt = im → (keep s k p).1 = true → (keep s k p).2.sp = s.sp ++ G (f + each * k) p)
  (a : List Int) (K : Nat) (ha : a.length = K) (s : TS) (hs : s.wt = im) (hst : (goK keep a s K).1 = a) (hw : ∀ k, k ≤ K → (goK keep a s k).2.wt = im) : ∀ k, k ≤ K → (goK keep a s k).2.sp = s.sp ++ rowG G f each a k
 | 0, _ => by unfold rowG; simp [goK]
 | k + 1, hkK => by
  have ih := goK_sp f each hM hN hk hG a K ha s hs hst hw k (by omega)
  have hga := goK_get keep a s k K (by omega)
  rw [if_pos (show k < K by omega), hst] at hga
  rw [rowG_succ]
  have hwk := hw k (by omega)
  have hw1 := hw (k + 1) hkK
  show (keep (goK keep a s k).2 k (a.getD k 0)).2.sp = _
  cases hb : (keep (goK keep a s k).2 k (a.getD k 0)).1 with
  | true =>
   have hy := (hk.yes _ _ _ (by rw [hwk]; exact hN) hb).2.2.1
   rw [if_neg (by omega), hG _ k _ hwk hw1 hb, ih, List.append_assoc]
  | false =>
   rw [hb, if_neg (by simp)] at hga
   rw [if_pos hga, List.append_nil, hk.no _ _ _ (by rw [hwk]; exact hN) hb]
   exact ih
theorem block_gs (N M cnt : Int) (im : Img) : Gs N im (blockF N M cnt) (fun i p => [(i, p)]) := fun s i p _ _ _ hb => by
 unfold blockF at hb ⊢
 split
 ·rfl
 ·rename_i h
  rw [if_neg h] at hb
  cases hb
def tabG (im : Img) (each : Int) (G : Int → Int → List (Int × Int)) (f p : Int) : List (Int × Int) := rowG G f each (ptrsTo (secI im p) 32) 32
theorem table_gs {N M cnt each : Int} {im : Img} {keep : KeepF} {G : Int → Int → List (Int × Int)} (hM : 0 ≤ M) (hs : AllSec im) (hk : Kpr N M keep) (hG : Gs N im keep G) : Gs N im (tableF N M cnt each keep) (tabG im each G) := fun s f p hw hN hwe hb => by
 have hsl : s.wt.length = N := by rw [hw]; exact hN
 rcases table_cases (cnt := cnt) (each := each) hM hk s hsl f p with ⟨_, e⟩ | ⟨_, _, e⟩ | ⟨hc, _, e⟩
 ·rw [e] at hb; cases hb
 ·rw [e] at hb; cases hb
 ·rw [e] at hwe ⊢
  have hcp := (Bool.and_eq_true _ _ ▸ hc : _ ∧ _)
  obtain ⟨b1, b2, b3⟩ := claimB_of.1 hcp.2
  have hm := gone_mo (each := each) (f := f) hk s hsl p
  have hgl : (gone each f keep s p).2.wt.length = N := by rw [hm.len]; exact hsl
  have hw' : (gone each f keep s p).2.wt.set p.toNat (ptrS (gone each f keep s p).1) = im := hwe
  have hp1 : secI im p = ptrS (gone each f keep s p).1 := by
   rw [← hw']
   exact secI_set (by omega) (by rw [hgl]; exact b3)
  have hst : (gone each f keep s p).1 = ptrsTo (secI s.wt p) 32 := by
   have := gone_back each f keep s p (by rw [hw]; exact hs p)
   rw [← hp1] at this
   rw [hw]
   exact this.symm
  have hg2 : (gone each f keep s p).2.wt = im := by
   refine img_ext (by omega) fun n => ?_
   by_cases e2 : n = p
   ·subst e2
    rw [hm.wt n (putC_self _ _)]
    show secI s.wt n = _
    rw [hw]
   ·rw [← hw']
    exact (secI_set_ne (by omega) e2).symm
  have := goK_sp (im := im) f each hM hN (inner_kpr (each := each) (f := f) hk) (fun s k p a b c => hG s _ p a hN b c) (ptrsTo (secI s.wt p) 32) 32 (ptrsTo_len _ _) ⟨s.wt, putC s.cl p, s.sp⟩ hw hst (fun k hkk => wt_mid (goK_mo (inner_kpr (each := each) (f := f) hk) (ptrsTo (secI s.wt p) 32) ⟨s.wt, putC s.cl p, s.sp⟩ hsl k) (goK_later (inner_kpr (each := each) (f := f) hk) (ptrsTo (secI s.wt p) 32) ⟨s.wt, putC s.cl p, s.sp⟩ hsl k 32 hkk) hw hg2) 32 (Nat.le_refl _)
  show (gone each f keep s p).2.sp = _
  unfold tabG
  rw [← hw]
  exact this
/-- The blocks of an inode whose pointers all stay, by rising index. -/
def spI (im : Img) (z : List Int) : List (Int × Int) :=
 rowG (fun i p => [(i, p)]) 0 1 ((z.drop 4).take 12) 12 ++ (if z.getD 16 0 = 0 then [] else tabG im 1 (fun i p => [(i, p)]) 12 (z.getD 16 0)) ++ (if z.getD 17 0 = 0 then [] else tabG im 32 (tabG im 1 fun i p => [(i, p)]) 44 (z.getD 17 0))
theorem still_sp {N M : Int} {im : Img} (hM : 0 ≤ M) (hN : im.length = N) (hs : AllSec im) {z : List Int} (hz : z.length = 18) {c0 : Int → Bool} (h : Still N M im z c0) : (dblT N M z im c0).2.sp = spI im z := by
 have kb := block_kpr N M (cntZ z)
 have gb := block_gs N M (cntZ z) im
 have ks : Kpr N M (singleF N M (cntZ z)) := table_kpr hM kb
 have kd : Kpr N M (doubleF N M (cntZ z)) := table_kpr hM ks
 have gS : Gs N im (singleF N M (cntZ z)) (tabG im 1 fun i p => [(i, p)]) := table_gs hM hs kb gb
 have gD : Gs N im (doubleF N M (cntZ z)) (tabG im 32 (tabG im 1 fun i p => [(i, p)])) := table_gs hM hs ks gS
 have md := dir_mo (N := N) (M := M) z im c0 hN
 have ms := sin_mo (N := N) (M := M) hM z im c0 hN
 have mq := dbl_mo0 (N := N) (M := M) hM z im c0 hN
 obtain ⟨h1, h2⟩ := h
 have w2 : (sinT N M z im c0).2.wt = im := wt_mid (md.trans ms) mq rfl h2
 have w1 : (dirT N M z im c0).2.wt = im := wt_mid md ms rfl w2
 have hget : ∀ m, 4 ≤ m → m < 18 → (inoT N M z im c0).getD m 0 = z.getD m 0 := fun m a b => by rw [h1, getD_set_ne (by omega)]
 have hdir : (dirT N M z im c0).1 = (z.drop 4).take 12 := by
  refine ext_getZ (by rw [dirT_len hz, part_len hz]) fun j hj => ?_
  rw [dirT_len hz] at hj
  rw [part_get hz hj, ← inoT_dir hz im c0 hj]
  exact hget (4 + j) (by omega) (by omega)
 have e1 : (dirT N M z im c0).2.sp = rowG (fun i p => [(i, p)]) 0 1 ((z.drop 4).take 12) 12 := by
  have := goK_sp (im := im) (G := fun i p => [(i, p)]) 0 1 hM hN kb (fun s k p a b c => by
   have := gb s k p a hN b c
   rw [show (0 : Int) + 1 * (k : Int) = (k : Int) by omega]
   exact this) ((z.drop 4).take 12) 12 (part_len hz) ⟨im, c0, []⟩ rfl hdir (fun k hk => wt_mid (goK_mo kb ((z.drop 4).take 12) ⟨im, c0, []⟩ hN k) (goK_later kb ((z.drop 4).take 12) ⟨im, c0, []⟩ hN k 12 hk) rfl w1) 12 (Nat.le_refl _)
  rw [List.nil_append] at this
  exact this
 have e2 : (sinT N M z im c0).2.sp = (dirT N M z im c0).2.sp ++ (if z.getD 16 0 = 0 then [] else tabG im 1 (fun i p => [(i, p)]) 12 (z.getD 16 0)) := by
  have h16 := hget 16 (by omega) (by omega)
  rw [inoT_sin hz] at h16
  cases hb : (sinT N M z im c0).1 with
  | true =>
   have hy := (ks.yes (dirT N M z im c0).2 12 (z.getD 16 0) (by rw [w1]; exact hN) hb).2.2.1
   rw [if_neg (by omega)]
   exact gS (dirT N M z im c0).2 12 (z.getD 16 0) w1 hN w2 hb
  | false =>
   rw [hb] at h16
   have h16 : z.getD 16 0 = 0 := h16.symm
   rw [if_pos h16, List.append_nil]
   have := ks.no (dirT N M z im c0).2 12 (z.getD 16 0) (by rw [w1]; exact hN) hb
   show (singleF N M (cntZ z) (dirT N M z im c0).2 12 (z.getD 16 0)).2.sp = _
   rw [this]
 have e3 : (dblT N M z im c0).2.sp = (sinT N M z im c0).2.sp ++ (if z.getD 17 0 = 0 then [] else tabG im 32 (tabG im 1 fun i p => [(i, p)]) 44 (z.getD 17 0)) := by
  have h17 := hget 17 (by omega) (by omega)
  rw [inoT_dbl hz] at h17
  cases hb : (dblT N M z im c0).1 with
  | true =>
   have hy := (kd.yes (sinT N M z im c0).2 44 (z.getD 17 0) (by rw [w2]; exact hN) hb).2.2.1
   rw [if_neg (by omega)]
   exact gD (sinT N M z im c0).2 44 (z.getD 17 0) w2 hN h2 hb
  | false =>
   rw [hb] at h17
   have h17 : z.getD 17 0 = 0 := h17.symm
   rw [if_pos h17, List.append_nil]
   have := kd.no (sinT N M z im c0).2 44 (z.getD 17 0) (by rw [w2]; exact hN) hb
   show (doubleF N M (cntZ z) (sinT N M z im c0).2 44 (z.getD 17 0)).2.sp = _
   rw [this]
 rw [e3, e2, e1]
 rfl
end Go.Proofs.YtpmignilhoihnaaGreat

namespace Go.Proofs.YtpmignilhoihnaaGreat

def rdI (im : Img) (i : Int) : List Int × Int := rdIno (zTo (secI im i) 18) (secI im i)
def zI (im : Img) (i : Int) : List Int := (rdI im i).1
def kd (im : Img) (i : Int) : Int := (zI im i).getD 0 0
def clStep (M : Nat) (im : Img) (k : Nat) (c : Int → Bool) : Int → Bool := if kd im ((k : Int) + 1) = 0 then c else (dblT im.length M (zI im ((k : Int) + 1)) im c).2.cl
/-- What the inodes from the first one on claim, one behind the other. -/
def clN (M : Nat) (im : Img) : Nat → Int → Bool
 | 0 => fun _ => false
 | k + 1 => clStep M im k (clN M im k)
theorem clN_step (M : Nat) (im : Img) (k : Nat) : clN M im (k + 1) = clStep M im k (clN M im k) := rfl
theorem clN_succ (M : Nat) (im : Img) (k : Nat) : clN M im (k + 1) = if kd im ((k : Int) + 1) = 0 then clN M im k else (dblT im.length M (zI im ((k : Int) + 1)) im (clN M im k)).2.cl := by
 rw [clN_step]
 unfold clStep
 rfl
def Ck (M : Nat) (im : Img) (k : Nat) (n : Int) : Bool := clN M im (k + 1) n && !clN M im k n
def slotsI (im : Img) (i : Int) : List Int := (spI im (zI im i)).map Prod.snd
def inoAt (im : Img) (x : Int) : Int := (slotOf (secI im x)).1
def nmB (im : Img) (i : Int) (x : Int) : Bool := decide (inoAt im x = i)
def dirsL (M : Nat) (im : Img) : List Int := ((List.range M).map fun (k : Nat) => (k : Int) + 1).filter fun i => decide (kd im i = 2)
def timesI (M : Nat) (im : Img) (i : Int) : Nat := ((dirsL M im).flatMap (slotsI im)).countP (nmB im i)
def wantL (M : Nat) (im : Img) (i : Int) : Int := if i = 1 then 1 else timesI M im i
/-- What is reached from the root by slots. -/
inductive Rch (M : Nat) (im : Img) : Int → Prop
 | root : Rch M im 1
 | more {i j x : Int} : Rch M im i → 1 ≤ i → i ≤ M → kd im i = 2 → x ∈ slotsI im i → inoAt im x = j → j ≠ 0 → Rch M im j
/-- An image that is well-formed. -/
structure WellP (M : Nat) (im : Img) : Prop where
 ino : ∀ i : Int, 1 ≤ i → i ≤ M → (rdI im i).2 = 0
 root : kd im 1 = 2
 ptr : ∀ k : Nat, k < M → kd im ((k : Int) + 1) ≠ 0 → Still im.length M im (zI im ((k : Int) + 1)) (clN M im k)
 slot : ∀ i : Int, 1 ≤ i → i ≤ M → kd im i = 2 → ∀ x ∈ slotsI im i, (slotOf (secI im x)).2.2 = 0 ∧ (inoAt im x ≠ 0 → 2 ≤ inoAt im x ∧ inoAt im x ≤ M ∧ kd im (inoAt im x) ≠ 0)
 names : ∀ i : Int, 1 ≤ i → i ≤ M → kd im i = 2 → (slotsI im i).Pairwise fun x y => inoAt im x ≠ 0 → inoAt im y ≠ 0 → (slotOf (secI im x)).2.1.data ≠ (slotOf (secI im y)).2.1.data
 reach : ∀ i : Int, 1 ≤ i → i ≤ M → kd im i ≠ 0 → Rch M im i
 links : ∀ i : Int, 1 ≤ i → i ≤ M → kd im i ≠ 0 → (zI im i).getD 1 0 = wantL M im i ∧ 1 ≤ wantL M im i ∧ wantL M im i ≤ 100 ∧ (kd im i = 2 → wantL M im i = 1)
 tail : ∀ i : Int, 1 ≤ i → i ≤ M → kd im i ≠ 0 → kd im i ≠ 2 → ∀ l, lastB ((zI im i).getD 2 0) (spI im (zI im i)) = some l → wip (secI im l.2) ((zI im i).getD 2 0 % 128) = secI im l.2
theorem zI_len (im : Img) (i : Int) : (zI im i).length = 18 := by
 unfold zI rdI rdIno
 split
 ·exact zTo_len _ _
 ·simp [Zi]
theorem sound_zI {M : Nat} {im : Img} {i : Int} (h1 : 1 ≤ i) (h2 : i ≤ M) : soundZ M im i = (zI im i, decide ((rdI im i).2 = 0) && decide (kd im i ≠ 0)) := by
 unfold soundZ
 rw [if_pos ⟨h1, h2⟩]
 rfl
theorem clN_mono (M : Nat) (im : Img) {k : Nat} : ∀ {l : Nat}, k ≤ l → ∀ n, clN M im k n = true → clN M im l n = true
 | 0, h, n, hn => by
  obtain rfl : k = 0 := by omega
  exact hn
 | l + 1, h, n, hn => by
  rcases Nat.lt_or_ge l k with e | e
  ·obtain rfl : k = l + 1 := by omega
   exact hn
  ·have ih := clN_mono M im e n hn
   rw [clN_succ]
   split
   ·exact ih
   ·exact (dbl_mo (N := im.length) (M := M) (Int.natCast_nonneg M) _ im (clN M im l) rfl).cl n ih
theorem Ck_apart {M : Nat} {im : Img} {k l : Nat} (hkl : k ≠ l) {n : Int} (h : Ck M im k n = true) : Ck M im l n = false := by
 unfold Ck at *
 rw [Bool.and_eq_true, Bool.not_eq_true'] at h
 rcases Nat.lt_or_gt_of_ne hkl with e | e
 ·have := clN_mono M im (show k + 1 ≤ l by omega) n h.1
  rw [this]; simp
 ·cases hq : clN M im (l + 1) n with
  | false => rfl
  | true =>
   have := clN_mono M im (show l + 1 ≤ k by omega) n hq
   rw [h.2] at this
   cases this
def cntV (im : Img) (V : List Int) (i : Int) : Int := (if i = 1 then 1 else 0) + (V.countP (nmB im i) : Nat)
/-- What holds of a look over a well-formed image. V: the slots that were gone through, rest: those of the directory that is gone through that were not, ds: the directories that were taken up, n: how many of them were gone through, or begun. -/
structure SI (M : Nat) (im : Img) (C : Nat → Int → Bool) (s : LS) (V rest ds : List Int) (n : Nat) : Prop where
 wt : s.wt = im
 tk : ∀ i z, s.tk i = some z → 1 ≤ i ∧ i ≤ M ∧ kd im i ≠ 0 ∧ z = (zI im i).set 1 (cntV im V i)
 no : ∀ i, i ≠ 0 → s.tk i = none → V.countP (nmB im i) = 0
 one : ∀ i, i ≠ 1 → (s.tk i).isSome = true → 1 ≤ V.countP (nmB im i)
 cl : ∀ n, s.cl n = true ↔ ∃ k : Nat, k < M ∧ (s.tk ((k : Int) + 1)).isSome = true ∧ C k n = true
 nod : ds.Nodup
 dsm : ∀ d, d ∈ ds ↔ (s.tk d).isSome = true ∧ kd im d = 2
 lst : V ++ rest ++ s.q.flatten = ds.flatMap (slotsI im)
 qn : s.q = (ds.drop n).map (slotsI im) ∧ n ≤ ds.length
theorem wipe_same {size : Int} {sp : List (Int × Int)} {im : Img} (h : ∀ l, lastB size sp = some l → wip (secI im l.2) (size % 128) = secI im l.2) : wipeW size sp im = im := by
 unfold wipeW
 cases hl : lastB size sp with
 | none => rfl
 | some l =>
  show im.set l.2.toNat _ = im
  rw [h l hl]
  refine List.ext_getElem? fun k => ?_
  rw [List.getElem?_set]
  split
  ·rename_i e
   subst e
   unfold secI
   split
   ·rename_i hk
    rw [List.getD_eq_getElem?_getD, List.getElem?_eq_getElem hk]
    rfl
   ·rename_i hk
    exact (List.getElem?_eq_none (by omega)).symm
  ·rfl
/-- An inode that was not taken up is taken up: nothing changes. -/
theorem take_si {M : Nat} {im : Img} (hs : AllSec im) (h : WellP M im) {s : LS} {V rest ds : List Int} {nd : Nat} (hI : SI M im (Ck M im) s V rest ds nd) {j : Int} (h1 : 1 ≤ j) (h2 : j ≤ M) (hk : kd im j ≠ 0) (ht : s.tk j = none) :
  (takeL im.length M (zI im j) s).wt = im ∧ inoT im.length M (zI im j) s.wt s.cl = (zI im j).set 1 0 ∧ (∀ n, (takeL im.length M (zI im j) s).cl n = (s.cl n || Ck M im (j - 1).toNat n)) ∧
  (takeL im.length M (zI im j) s).q = (if kd im j = 2 then s.q ++ [slotsI im j] else s.q) := by
 obtain ⟨k, rfl⟩ : ∃ k : Nat, j = (k : Int) + 1 := ⟨(j - 1).toNat, by omega⟩
 have hj : ((k : Int) + 1 - 1).toNat = k := by omega
 rw [hj]
 have hkM : k < M := by omega
 have hst := h.ptr k hkM hk
 have hC : ∀ n, Ck M im k n = ((dblT im.length M (zI im ((k : Int) + 1)) im (clN M im k)).2.cl n && !clN M im k n) := fun n => by
  unfold Ck
  rw [clN_succ]
  rw [if_neg hk]
 obtain ⟨st1, tq⟩ := still_ki (Int.natCast_nonneg M) rfl hs (zI_len im _) hst (c1 := s.cl) (fun n hn h0 => by
  have hck : Ck M im k n = true := by rw [hC, hn, h0]; rfl
  cases e : s.cl n with
  | false => rfl
  | true =>
   obtain ⟨l, hl, htl, hcl⟩ := (hI.cl n).1 e
   by_cases ekl : l = k
   ·subst ekl
    rw [ht] at htl
    cases htl
   ·rw [Ck_apart ekl hcl] at hck
    cases hck)
 have hsp := still_sp (Int.natCast_nonneg M) rfl hs (zI_len im _) st1
 have hcl : ∀ n, (dblT im.length M (zI im ((k : Int) + 1)) im s.cl).2.cl n = (s.cl n || Ck M im k n) := fun n => by rw [tq.cl, hC]
 rw [hI.wt]
 by_cases h2' : kd im ((k : Int) + 1) = 2
 ·rw [takeL_dir h2', hI.wt, if_pos h2']
  refine ⟨st1.2, st1.1, hcl, ?_⟩
  show s.q ++ [_] = _
  rw [hsp]
  rfl
 ·rw [takeL_file h2', hI.wt, if_neg h2']
  refine ⟨?_, st1.1, hcl, rfl⟩
  show wipeW _ _ _ = im
  rw [st1.2, hsp]
  exact wipe_same (h.tail _ h1 h2 hk h2')
end Go.Proofs.YtpmignilhoihnaaGreat
