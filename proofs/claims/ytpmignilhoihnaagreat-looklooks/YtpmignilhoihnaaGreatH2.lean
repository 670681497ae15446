/-
 Two runs side by side: rows of pointers, tables.
-/
import Derived.Test.YtpmignilhoihnaaGreatXC
namespace Go.Proofs.YtpmignilhoihnaaGreat
open Go.RowKit

theorem numAt_congr {s t : List Int} {p : Nat} : ∀ m : Nat, (∀ j, j < m → s.getD (p + j) 0 = t.getD (p + j) 0) → numAt s p m = numAt t p m
 | 0, _ => rfl
 | m + 1, h => by
  rw [numAt, numAt, numAt_congr m (fun j hj => h j (by omega)), h m (by omega)]
theorem numAt_keep {s : List Int} {p k q m : Nat} {v : Int} (h : p + k ≤ s.length) (hd : q + m ≤ p ∨ p + k ≤ q) : numAt (putN s p v k) q m = numAt s q m :=
 numAt_congr m fun j hj => by rw [putN_get _ _ _ _ h, if_neg (by omega)]

def Apt (a b : Num) : Prop := a.1.toNat + a.2.1.toNat ≤ b.1.toNat ∨ b.1.toNat + b.2.1.toNat ≤ a.1.toNat
def layF (l : List Num) (s : List Int) : List Int := l.foldl (fun s n => putN s n.1.toNat n.2.2 n.2.1.toNat) s
theorem okN_bd {n : Num} (h : okN n) : n.1.toNat + n.2.1.toNat ≤ 128 ∧ 1 ≤ n.2.1.toNat ∧ n.2.1.toNat ≤ 8 ∧ 0 ≤ n.2.2 ∧ n.2.2 ≤ top ∧ n.2.2 < 256 ^ n.2.1.toNat ∧ (n.1.toNat : Int) = n.1 ∧ (n.2.1.toNat : Int) = n.2.1 := by
 have h1 := of_decide_eq_true h.1;have h2 := of_decide_eq_true h.2;refine ⟨by omega, by omega, by omega, h2.1, h2.2.1, ?_, by omega, by omega⟩
 exact h2.2.2
theorem layF_keep : ∀ (l : List Num) (s : List Int) (n : Num), s.length = 128 → (∀ m ∈ l, okN m) → (∀ m ∈ l, Apt n m) → numAt (layF l s) n.1.toNat n.2.1.toNat = numAt s n.1.toNat n.2.1.toNat := by
 intro l
 induction l with
 | nil => intro s n _ _ _; rfl
 | cons x r ih =>
  intro s n hs hok hap
  have hx := okN_bd (hok x (by simp))
  show numAt (layF r (putN s x.1.toNat x.2.2 x.2.1.toNat)) _ _ = _
  rw [ih _ n (by rw [putN_len, hs]) (fun m hm => hok m (by simp [hm])) (fun m hm => hap m (by simp [hm])), numAt_keep (by rw [hs]; exact hx.1) (by have := hap x (by simp); unfold Apt at this; omega)]
theorem layF_get : ∀ (l : List Num) (s : List Int), s.length = 128 → (∀ m ∈ l, okN m) → l.Pairwise Apt → ∀ n ∈ l, numAt (layF l s) n.1.toNat n.2.1.toNat = n.2.2 := by
 intro l
 induction l with
 | nil => intro s _ _ _ n hn; cases hn
 | cons x r ih =>
  intro s hs hok hap n hn
  rw [List.pairwise_cons] at hap;have hx := okN_bd (hok x (by simp))
  show numAt (layF r (putN s x.1.toNat x.2.2 x.2.1.toNat)) _ _ = _
  rcases List.mem_cons.1 hn with rfl | h
  ·rw [layF_keep r _ n (by rw [putN_len, hs]) (fun m hm => hok m (by simp [hm])) hap.1, numAt_put _ _ _ _ (by rw [hs]; exact hx.1) hx.2.2.2.1 hx.2.2.2.2.2.1]
  ·exact ih _ (by rw [putN_len, hs]) (fun m hm => hok m (by simp [hm])) hap.2 n h
theorem lay_get {l : List Num} (hok : ∀ m ∈ l, okN m) (hap : l.Pairwise Apt) {n : Num} (hn : n ∈ l) : numAt (layS l) n.1.toNat n.2.1.toNat = n.2.2 := layF_get l Zs Zs_len hok hap n hn
theorem apt_range (f : Nat → Num) (N : Nat) (h : ∀ i j, i < j → j < N → Apt (f i) (f j)) : ((List.range N).map f).Pairwise Apt := by
 rw [List.pairwise_map];refine List.Pairwise.imp_of_mem ?_ List.pairwise_lt_range
 intro i j hi hj hij
 exact h i j hij (List.mem_range.1 hj)

theorem ptr_back {x : List Int} (hx : x.length = 32) (h : ptrB x = true) : ptrsTo (ptrS x) 32 = x := by
 have hs : ptrS x = layS (numsPtr x 32) := by unfold ptrS; rw [if_pos h]
 have hall : ∀ i, i < 32 → okP x i := fun i hi => by
  have := List.all_eq_true.1 h i (List.mem_range.2 hi);unfold okP
  exact of_decide_eq_true this
 have hok := ptr_ok hall
 have hap : (numsPtr x 32).Pairwise Apt := by
  refine apt_range _ 32 fun i j hij hj => ?_
  unfold Apt numP
  left
  show (4 * (i : Int)).toNat + 4 ≤ (4 * (j : Int)).toNat
  omega
 apply ext_getD (by rw [ptrsTo_len, hx])
 intro k hk
 rw [ptrsTo_len] at hk
 have e1 : (ptrsTo (ptrS x) 32).getD k 0 = numAt (ptrS x) (4 * k) 4 := by simp [ptrsTo, hk]
 rw [e1, hs];have := lay_get hok hap (n := numP x k) (List.mem_map.2 ⟨k, List.mem_range.2 hk, rfl⟩)
 have e2 : (4 * (k : Int)).toNat = 4 * k := by omega
 unfold numP at this;rw [e2] at this
 exact this

end Go.Proofs.YtpmignilhoihnaaGreat

namespace Go.Proofs.YtpmignilhoihnaaGreat
open Go.RowKit Go.Shelf

def Kp (a b : Img) : Prop := b.length = a.length ∧ b[0]? = a[0]?
theorem Kp.refl (a : Img) : Kp a a := ⟨rfl, rfl⟩
theorem Kp.trans {a b c : Img} (h : Kp a b) (k : Kp b c) : Kp a c := ⟨k.1.trans h.1, k.2.trans h.2⟩
theorem kp_set (a : Img) {k : Nat} (hk : 0 < k) (x : List Int) : Kp a (a.set k x) := ⟨by simp, by rw [List.getElem?_set_ne (by omega)]⟩
def KpF (keep : KeepF) : Prop := ∀ s i n, Kp s.wt (keep s i n).2.wt
theorem claim_pos {N : Int} {M : Nat} {cl : Int → Bool} {n : Int} (h : claimB N M cl n = true) : 0 < n.toNat := by
 unfold claimB dataB at h
 simp only [Bool.and_eq_true, decide_eq_true_eq] at h
 omega
theorem block_kp (N M cnt : Int) : KpF (blockF N M cnt) := fun s i n => by
 unfold blockF
 split
 ·exact Kp.refl _
 ·exact Kp.refl _
theorem inner_kp {each f : Int} {keep : KeepF} (h : KpF keep) : KpF (innerF each f keep) := fun s _ p => h s _ p
theorem goK_kp {keep : KeepF} (h : KpF keep) (t0 : List Int) (s0 : TS) : ∀ k, Kp s0.wt (goK keep t0 s0 k).2.wt
 | 0 => Kp.refl _
 | k + 1 => (goK_kp h t0 s0 k).trans (h _ _ _)
theorem goF_kp {keep : KeepF} (h : KpF keep) (n : Int) (s : TS) (hn : 0 < n.toNat) : Kp s.wt (goF keep n s).2.wt := by
 have hk := goK_kp h (ptrsTo (secI s.wt n) 32) s 32;unfold goF
 generalize goK keep (ptrsTo (secI s.wt n) 32) s 32 = r at *
 by_cases hz : r.1 = Zp
 ·rw [if_pos hz]
  exact hk
 ·rw [if_neg hz]
  exact hk.trans (kp_set _ hn _)
theorem table_kp {N : Int} {M : Nat} {cnt each : Int} {keep : KeepF} (h : KpF keep) : KpF (tableF N M cnt each keep) := fun s f n => by
 unfold tableF
 split
 ·rename_i hc
  simp only [Bool.and_eq_true] at hc
  exact goF_kp (inner_kp h) n ⟨s.wt, putC s.cl n, s.sp⟩ (claim_pos hc.2)
 ·exact Kp.refl _
theorem dblT_kp (N : Int) (M : Nat) (z : List Int) (wt : Img) (cl : Int → Bool) : Kp wt (dblT N M z wt cl).2.wt :=
 ((goK_kp (block_kp N M (cntZ z)) ((z.drop 4).take 12) ⟨wt, cl, []⟩ 12).trans (table_kp (block_kp N M (cntZ z)) _ _ _)).trans (table_kp (table_kp (block_kp N M (cntZ z))) _ _ _)
theorem takeL_kp (N : Int) (M : Nat) (z : List Int) (s : LS) : Kp s.wt (takeL N M z s).wt := by
 have h := dblT_kp N M z s.wt s.cl;unfold takeL
 simp only
 split
 ·exact h
 ·refine h.trans ?_
  show Kp _ (wipeW _ _ _)
  unfold wipeW
  split
  ·rename_i l hl
   refine kp_set _ ?_ _
   have hm : l ∈ (dblT N M z s.wt s.cl).2.sp := by
    unfold lastB at hl
    split at hl
    ·rename_i l' hq
     split at hl
     ·cases hl
      exact List.mem_of_getLast? hq
     ·cases hl
    ·cases hl
   have := dblT_ok N M z s.wt s.cl l hm
   omega
  ·exact Kp.refl _
theorem enterL_kp (N : Int) (M : Nat) (im : Img) (i : Int) (s : LS) : Kp s.wt (enterL N M im i s).wt := by
 unfold enterL
 split
 ·exact Kp.refl _
 ·exact takeL_kp N M _ s
theorem slotL_kp (N : Int) (M : Nat) (im : Img) (n : Int) (r : List ByteArray × LS) (hn : 0 < n.toNat) : Kp r.2.wt (slotL N M im n r).2.wt := by
 unfold slotL
 simp only
 split
 ·exact Kp.refl _
 ·split
  ·exact enterL_kp N M im _ r.2
  ·exact kp_set _ hn _
theorem dirK_kp (N : Int) (M : Nat) (im : Img) : ∀ (l : List Int) (r : List ByteArray × LS), (∀ x ∈ l, 0 < x.toNat) → Kp r.2.wt (dirK N M im l r).2.wt
 | [], _, _ => Kp.refl _
 | n :: l, r, h => (slotL_kp N M im n r (h n List.mem_cons_self)).trans (dirK_kp N M im l _ fun x hx => h x (List.mem_cons_of_mem _ hx))
theorem allL_kp {c : LC} : ∀ (f : Nat) (s : LS), LOk c s → Kp s.wt (allL c.N c.M c.im f s).wt
 | 0, _, _ => Kp.refl _
 | f + 1, s, h => by
  cases hq : s.q with
  | nil => rw [allL_nil hq]; exact Kp.refl _
  | cons l q =>
   rw [allL_cons hq];refine Kp.trans ?_ (allL_kp f _ (dirL_ok (h.pop hq)))
   exact dirK_kp c.N c.M c.im l ([], { s with q := q }) fun x hx => by
    have := h.qd l (by rw [hq]; exact List.mem_cons_self) x hx
    omega
theorem layK_kp (tk : Int → Option (List Int)) (wt : Img) : ∀ k, Kp wt (layK tk wt k)
 | 0 => Kp.refl _
 | k + 1 => (layK_kp tk wt k).trans (kp_set _ (by omega) _)
theorem lookL_kp {M : Nat} {im : Img} (hr : rootB M im = true) : Kp im (lookL M im).wt := by
 obtain ⟨h1, _⟩ := rootB_parts.1 hr;obtain ⟨c, hN, hM, hi⟩ : ∃ c : LC, c.N = im.length ∧ c.M = M ∧ c.im = im := ⟨⟨0, ⟨0, 0, 0, 0, 0, 0⟩, im.length, M, none, 0, 0, im⟩, rfl, rfl, rfl⟩
 have hMay : May c (startL im) 1 := by
  show (soundZ c.M c.im 1).2 = true
  rw [hM, hi]
  exact h1
 have hOk := enterL_ok (startL_ok c im) hMay;have h2 := allL_kp (c := c) M _ hOk;rw [hN, hM, hi] at h2
 exact ((enterL_kp im.length M im 1 (startL im)).trans h2).trans (layK_kp _ _ M)

end Go.Proofs.YtpmignilhoihnaaGreat

namespace Go.Proofs.YtpmignilhoihnaaGreat
open Go.RowKit Go.Shelf

end Go.Proofs.YtpmignilhoihnaaGreat

namespace Go.Proofs.YtpmignilhoihnaaGreat
open Go.RowKit Go.Shelf

theorem ptrs_Zs : ptrsTo Zs 32 = Zp := by kernel_rfl
end Go.Proofs.YtpmignilhoihnaaGreat

namespace Go.Proofs.YtpmignilhoihnaaGreat

structure Mo (s t : TS) : Prop where
 len : t.wt.length = s.wt.length
 cl : ∀ n, s.cl n = true → t.cl n = true
 wt : ∀ n, s.cl n = true → secI t.wt n = secI s.wt n
 un : ∀ n, t.cl n = false → secI t.wt n = secI s.wt n
 sp : ∃ new : List (Int × Int), t.sp = s.sp ++ new ∧ (∀ x ∈ new, s.cl x.2 = false ∧ t.cl x.2 = true ∧ secI t.wt x.2 = secI s.wt x.2) ∧ (new.map Prod.snd).Nodup
theorem Mo.refl (s : TS) : Mo s s := ⟨rfl, fun _ h => h, fun _ _ => rfl, fun _ _ => rfl, [], by simp, by simp, by simp⟩
theorem Mo.off {s t : TS} (h : Mo s t) {n : Int} (k : t.cl n = false) : s.cl n = false := by
 cases e : s.cl n with
 | false => rfl
 | true => rw [h.cl n e] at k; cases k
theorem Mo.trans {a b c : TS} (h : Mo a b) (k : Mo b c) : Mo a c := by
 obtain ⟨n1, e1, p1, d1⟩ := h.sp;obtain ⟨n2, e2, p2, d2⟩ := k.sp;refine ⟨k.len.trans h.len, fun n hn => k.cl n (h.cl n hn), fun n hn => (k.wt n (h.cl n hn)).trans (h.wt n hn), fun n hn => (k.un n hn).trans (h.un n (k.off hn)), n1 ++ n2, ?_, ?_, ?_⟩
 ·rw [e2, e1, List.append_assoc]
 ·intro x hx
  rcases List.mem_append.1 hx with e | e
  ·exact ⟨(p1 x e).1, k.cl _ (p1 x e).2.1, (k.wt _ (p1 x e).2.1).trans (p1 x e).2.2⟩
  ·exact ⟨h.off (p2 x e).1, (p2 x e).2.1, (p2 x e).2.2.trans (h.un _ (p2 x e).1)⟩
 ·rw [List.map_append]
  refine List.nodup_append.2 ⟨d1, d2, fun x hx y hy e => ?_⟩;obtain ⟨u, hu, rfl⟩ := List.mem_map.1 hx;obtain ⟨v, hv, rfl⟩ := List.mem_map.1 hy;have a1 := (p1 u hu).2.1;have a2 := (p2 v hv).1;rw [e] at a1;rw [a1] at a2
  cases a2

structure Kpr (N M : Int) (keep : KeepF) : Prop where
 mo : ∀ s i p, s.wt.length = N → Mo s (keep s i p).2
 no : ∀ s i p, s.wt.length = N → (keep s i p).1 = false → (keep s i p).2 = s
 yes : ∀ s i p, s.wt.length = N → (keep s i p).1 = true → s.cl p = false ∧ (keep s i p).2.cl p = true ∧ M < p ∧ p < N
theorem claimB_of {N M : Int} {cl : Int → Bool} {n : Int} : claimB N M cl n = true ↔ cl n = false ∧ M < n ∧ n < N := by
 unfold claimB dataB
 simp only [Bool.and_eq_true, Bool.not_eq_true', decide_eq_true_eq]
theorem putC_self (cl : Int → Bool) (n : Int) : putC cl n n = true := by simp [putC]
theorem putC_old {cl : Int → Bool} {n m : Int} (h : cl m = true) : putC cl n m = true := by simp [putC, h]
theorem putC_off {cl : Int → Bool} {n m : Int} : putC cl n m = false ↔ m ≠ n ∧ cl m = false := by simp [putC]
theorem del_put {cl : Int → Bool} {n : Int} (h : cl n = false) : delC (putC cl n) n = cl := by
 funext m
 unfold delC putC
 by_cases e : m = n
 ·subst e; simp [h]
 ·simp only [beq_false_of_ne e, bne, Bool.not_false, Bool.true_and, Bool.false_or]
theorem block_kpr (N M cnt : Int) : Kpr N M (blockF N M cnt) where
 mo := fun s i p _ => by
  unfold blockF
  split
  ·rename_i h
   simp only [Bool.and_eq_true] at h
   obtain ⟨h1, h2, h3⟩ := claimB_of.1 h.2;refine ⟨rfl, fun n hn => putC_old hn, fun _ _ => rfl, fun _ _ => rfl, [(i, p)], rfl, ?_, by simp⟩
   intro x hx
   obtain rfl := List.mem_singleton.1 hx
   exact ⟨h1, putC_self _ _, rfl⟩
  ·exact Mo.refl s
 no := fun s i p _ h => by
  unfold blockF at h ⊢
  split
  ·rename_i hc; rw [if_pos hc] at h; cases h
  ·rfl
 yes := fun s i p _ h => by
  unfold blockF at h ⊢
  split
  ·rename_i hc
   simp only [Bool.and_eq_true] at hc
   obtain ⟨h1, h2, h3⟩ := claimB_of.1 hc.2
   exact ⟨h1, putC_self _ _, h2, h3⟩
  ·rename_i hc; rw [if_neg hc] at h; cases h
theorem inner_kpr {N M each f : Int} {keep : KeepF} (h : Kpr N M keep) : Kpr N M (innerF each f keep) where
 mo := fun s _ p hs => h.mo s _ p hs
 no := fun s _ p hs hp => h.no s _ p hs hp
 yes := fun s _ p hs hp => h.yes s _ p hs hp
theorem goK_mo {N M : Int} {keep : KeepF} (h : Kpr N M keep) (t : List Int) (s : TS) (hs : s.wt.length = N) : ∀ k, Mo s (goK keep t s k).2
 | 0 => Mo.refl s
 | k + 1 => by
  have h1 := goK_mo h t s hs k
  exact h1.trans (h.mo _ _ _ (by rw [h1.len]; exact hs))
theorem goK_later {N M : Int} {keep : KeepF} (h : Kpr N M keep) (t : List Int) (s : TS) (hs : s.wt.length = N) (j : Nat) : ∀ k, j ≤ k → Mo (goK keep t s j).2 (goK keep t s k).2
 | 0, hj => by
  obtain rfl : j = 0 := by omega
  exact Mo.refl _
 | k + 1, hj => by
  rcases Nat.lt_or_ge k j with e | e
  ·obtain rfl : j = k + 1 := by omega
   exact Mo.refl _
  ·exact (goK_later h t s hs j k e).trans (h.mo _ _ _ (by rw [(goK_mo h t s hs k).len]; exact hs))
theorem goK_get (F : KeepF) (t : List Int) (s : TS) (j : Nat) : ∀ k, k ≤ t.length → (goK F t s k).1.getD j 0 = if j < k then (if (F (goK F t s j).2 j (t.getD j 0)).1 = true then t.getD j 0 else 0) else t.getD j 0
 | 0, _ => by rw [if_neg (by omega)]; rfl
 | k + 1, hk => by
  have ih := goK_get F t s j k (by omega)
  simp only [goK]
  by_cases e : j = k
  ·subst e
   rw [if_pos (show j < j + 1 by omega), List.getD_eq_getElem?_getD, List.getElem?_set_self (by rw [goK_len]; omega)]
   rfl
  ·rw [List.getD_eq_getElem?_getD, List.getElem?_set_ne (by omega), ← List.getD_eq_getElem?_getD, ih]
   by_cases e2 : j < k
   ·rw [if_pos e2, if_pos (show j < k + 1 by omega)]
   ·rw [if_neg e2, if_neg (show ¬ j < k + 1 by omega)]
theorem Zp_get (k : Nat) : Zp.getD k 0 = 0 := by
 unfold Zp;rw [List.getD_eq_getElem?_getD, List.getElem?_replicate]
 split <;> rfl
theorem goK_none {N M : Int} {keep : KeepF} (hM : 0 ≤ M) (h : Kpr N M keep) (t : List Int) (ht : t.length = 32) (s : TS) (hs : s.wt.length = N) (hz : (goK keep t s 32).1 = Zp) : ∀ k, k ≤ 32 → (goK keep t s k).2 = s
 | 0, _ => rfl
 | k + 1, hk => by
  have ih := goK_none hM h t ht s hs hz k (by omega);have hg := goK_get keep t s k 32 (by omega);rw [hz, Zp_get, if_pos (show k < 32 by omega)] at hg
  simp only [goK]
  cases hb : (keep (goK keep t s k).2 k (t.getD k 0)).1 with
  | true =>
   rw [hb, if_pos rfl] at hg;have := (h.yes _ _ _ (by rw [ih]; exact hs) hb).2.2.1
   omega
  | false => rw [h.no _ _ _ (by rw [ih]; exact hs) hb]; exact ih
theorem secI_set {wt : Img} {p : Int} {x : List Int} (h0 : 0 ≤ p) (h1 : p < wt.length) : secI (wt.set p.toNat x) p = x := by
 unfold secI;rw [List.getD_eq_getElem?_getD, List.getElem?_set_self (by omega)]
 rfl
theorem secI_set_ne {wt : Img} {p n : Int} {x : List Int} (h0 : 0 < p) (h : n ≠ p) : secI (wt.set p.toNat x) n = secI wt n := by
 unfold secI;rw [List.getD_eq_getElem?_getD, List.getElem?_set_ne (by omega), ← List.getD_eq_getElem?_getD]
def gone (each f : Int) (keep : KeepF) (s : TS) (p : Int) : List Int × TS := goK (innerF each f keep) (ptrsTo (secI s.wt p) 32) ⟨s.wt, putC s.cl p, s.sp⟩ 32
theorem goF_is (each f : Int) (keep : KeepF) (s : TS) (p : Int) : goF (innerF each f keep) p ⟨s.wt, putC s.cl p, s.sp⟩ = if (gone each f keep s p).1 = Zp then (false, ⟨(gone each f keep s p).2.wt, delC (gone each f keep s p).2.cl p, (gone each f keep s p).2.sp⟩) else (true, ⟨(gone each f keep s p).2.wt.set p.toNat (ptrS (gone each f keep s p).1), (gone each f keep s p).2.cl, (gone each f keep s p).2.sp⟩) := rfl
theorem gone_none {N M each f : Int} {keep : KeepF} (hM : 0 ≤ M) (h : Kpr N M keep) (s : TS) (hs : s.wt.length = N) (p : Int) (hz : (gone each f keep s p).1 = Zp) : (gone each f keep s p).2 = ⟨s.wt, putC s.cl p, s.sp⟩ :=
 goK_none hM (inner_kpr h) (ptrsTo (secI s.wt p) 32) (ptrsTo_len _ _) ⟨s.wt, putC s.cl p, s.sp⟩ hs hz 32 (Nat.le_refl _)
theorem gone_mo {N M each f : Int} {keep : KeepF} (h : Kpr N M keep) (s : TS) (hs : s.wt.length = N) (p : Int) : Mo ⟨s.wt, putC s.cl p, s.sp⟩ (gone each f keep s p).2 :=
 goK_mo (inner_kpr h) (ptrsTo (secI s.wt p) 32) ⟨s.wt, putC s.cl p, s.sp⟩ hs 32
theorem table_cases {N M cnt each : Int} {keep : KeepF} (hM : 0 ≤ M) (h : Kpr N M keep) (s : TS) (hs : s.wt.length = N) (f p : Int) :
  (¬ (decide (f < cnt) && claimB N M s.cl p) = true ∧ tableF N M cnt each keep s f p = (false, s)) ∨
  ((decide (f < cnt) && claimB N M s.cl p) = true ∧ (gone each f keep s p).1 = Zp ∧ tableF N M cnt each keep s f p = (false, s)) ∨
  ((decide (f < cnt) && claimB N M s.cl p) = true ∧ (gone each f keep s p).1 ≠ Zp ∧
   tableF N M cnt each keep s f p = (true, ⟨(gone each f keep s p).2.wt.set p.toNat (ptrS (gone each f keep s p).1), (gone each f keep s p).2.cl, (gone each f keep s p).2.sp⟩)) := by
 unfold tableF
 by_cases hc : (decide (f < cnt) && claimB N M s.cl p) = true
 ·refine .inr ?_
  rw [if_pos hc, goF_is];have hn := gone_none (each := each) (f := f) hM h s hs p
  generalize gone each f keep s p = r at *
  by_cases hz : r.1 = Zp
  ·refine .inl ⟨hc, hz, ?_⟩
   rw [if_pos hz, hn hz]
   simp only [Bool.and_eq_true] at hc
   simp only [del_put (claimB_of.1 hc.2).1]
  ·exact .inr ⟨hc, hz, by rw [if_neg hz]⟩
 ·exact .inl ⟨hc, by rw [if_neg hc]⟩
theorem Mo.table {s t : TS} {p : Int} {x : List Int} (k : Mo ⟨s.wt, putC s.cl p, s.sp⟩ t) (h0 : 0 < p) (hs : s.cl p = false) : Mo s ⟨t.wt.set p.toNat x, t.cl, t.sp⟩ := by
 obtain ⟨new, e, q, d⟩ := k.sp;have ht : t.cl p = true := k.cl p (putC_self _ _);refine ⟨by rw [List.length_set]; exact k.len, fun n hn => k.cl n (putC_old hn), fun n hn => ?_, fun n hn => ?_, new, e, fun y hy => ?_, d⟩
 ·rw [secI_set_ne h0 (fun e => by rw [e, hs] at hn; cases hn)]
  exact k.wt n (putC_old hn)
 ·have hn : t.cl n = false := hn
  rw [secI_set_ne h0 (fun e => by rw [e, ht] at hn; cases hn)]
  exact k.un n hn
 ·obtain ⟨a1, a2, a3⟩ := q y hy
  obtain ⟨b1, b2⟩ := putC_off.1 a1
  exact ⟨b2, a2, by rw [secI_set_ne h0 b1]; exact a3⟩
theorem table_kpr {N M cnt each : Int} {keep : KeepF} (hM : 0 ≤ M) (h : Kpr N M keep) : Kpr N M (tableF N M cnt each keep) where
 mo := fun s f p hs => by
  rcases table_cases (cnt := cnt) (each := each) hM h s hs f p with ⟨_, e⟩ | ⟨_, _, e⟩ | ⟨hc, _, e⟩
  ·rw [e]; exact Mo.refl s
  ·rw [e]; exact Mo.refl s
  ·rw [e]
   simp only [Bool.and_eq_true] at hc
   obtain ⟨h1, h2, h3⟩ := claimB_of.1 hc.2;have hm := gone_mo (each := each) (f := f) h s hs p
   exact hm.table (by omega) h1
 no := fun s f p hs hp => by
  rcases table_cases (cnt := cnt) (each := each) hM h s hs f p with ⟨_, e⟩ | ⟨_, _, e⟩ | ⟨_, _, e⟩
  ·rw [e]
  ·rw [e]
  ·rw [e] at hp; cases hp
 yes := fun s f p hs hp => by
  rcases table_cases (cnt := cnt) (each := each) hM h s hs f p with ⟨_, e⟩ | ⟨_, _, e⟩ | ⟨hc, _, e⟩
  ·rw [e] at hp; cases hp
  ·rw [e] at hp; cases hp
  ·rw [e]
   simp only [Bool.and_eq_true] at hc
   obtain ⟨h1, h2, h3⟩ := claimB_of.1 hc.2;have hm := gone_mo (each := each) (f := f) h s hs p
   exact ⟨h1, hm.cl p (putC_self _ _), h2, h3⟩
end Go.Proofs.YtpmignilhoihnaaGreat

namespace Go.Proofs.YtpmignilhoihnaaGreat

structure TR (im J : Img) (s t : TS) : Prop where
 cl : t.cl = s.cl
 sp : t.sp = s.sp
 len : t.wt.length = s.wt.length
 wt : ∀ n, secI t.wt n = secI s.wt n ∨ (secI t.wt n = secI J n ∧ secI s.wt n = secI im n)
 un : ∀ n, s.cl n = false → secI s.wt n = secI im n ∧ secI t.wt n = secI J n
 spc : ∀ x ∈ s.sp, s.cl x.2 = true
def FinT (full : Prop) (N M : Int) (im J : Img) (s t : TS) : Prop := ∀ n, M < n → n < N → s.cl n = false → t.cl n = true → (∀ x ∈ t.sp, x.2 ≠ n) → (¬ full ∧ secI J n = secI im n) ∨ secI J n = secI t.wt n
def leftP (b : Bool) (p : Int) : Int := if b = true then p else 0
def Lk (full : Prop) (N M : Int) (im J : Img) (keep : KeepF) : Prop := ∀ s t i p p', s.wt.length = N → TR im J s t → (p' = leftP (keep s i p).1 p ∨ (¬ full ∧ p' = p)) → FinT full N M im J s (keep s i p).2 →
 (keep t i p').1 = (keep s i p).1 ∧ TR im J (keep s i p).2 (keep t i p').2
theorem ext_getZ {a b : List Int} (h : a.length = b.length) (k : ∀ j, j < a.length → a.getD j 0 = b.getD j 0) : a = b := by
 refine List.ext_getElem h fun j h1 h2 => ?_
 have := k j h1;rw [List.getD_eq_getElem?_getD, List.getD_eq_getElem?_getD, List.getElem?_eq_getElem h1, List.getElem?_eq_getElem h2] at this
 exact this
theorem gone_get (each f : Int) (keep : KeepF) (s : TS) (p : Int) (j : Nat) (hj : j < 32) : (gone each f keep s p).1.getD j 0 = (ptrsTo (secI s.wt p) 32).getD j 0 ∨ (gone each f keep s p).1.getD j 0 = 0 := by
 have := goK_get (innerF each f keep) (ptrsTo (secI s.wt p) 32) ⟨s.wt, putC s.cl p, s.sp⟩ j 32 (by rw [ptrsTo_len]; exact Nat.le_refl _);rw [if_pos hj] at this
 show (goK _ _ _ 32).1.getD j 0 = _ ∨ _
 unfold gone;rw [this]
 split
 ·exact .inl rfl
 ·exact .inr rfl
theorem gone_len (each f : Int) (keep : KeepF) (s : TS) (p : Int) : (gone each f keep s p).1.length = 32 := by
 unfold gone;rw [goK_len, ptrsTo_len]
theorem gone_back (each f : Int) (keep : KeepF) (s : TS) (p : Int) (hs : IsSec (secI s.wt p)) : ptrsTo (ptrS (gone each f keep s p).1) 32 = (gone each f keep s p).1 := by
 refine ptr_back (gone_len each f keep s p) ?_;unfold ptrB
 refine List.all_eq_true.2 fun j hj => decide_eq_true ?_
 have hj := List.mem_range.1 hj;have hb := ptrs_bd hs j
 rcases gone_get each f keep s p j hj with e | e
 ·rw [e]; exact hb
 ·rw [e]; omega
end Go.Proofs.YtpmignilhoihnaaGreat
