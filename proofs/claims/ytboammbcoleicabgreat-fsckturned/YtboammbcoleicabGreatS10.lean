/-
 The document's sight: the slots of a directory, walked.
-/
import Derived.Test.YtboammbcoleicabGreatHE2
import Derived.Test.YtboammbcoleicabGreatS4
import Derived.Test.YtboammbcoleicabGreatRI3
import Derived.Test.YtboammbcoleicabGreatLN2
import Derived.Test.YtboammbcoleicabGreatR1
import Derived.Test.YtboammbcoleicabGreatLS3
namespace Go.Proofs.YtboammbcoleicabGreat

def blkP (im : Img) (z : List Int) (k : Nat) : Int :=
 if k < 12 then z.getD (4 + k) 0
 else if k < 44 then (if z.getD 16 0 = 0 then 0 else (ptrsTo (secI im (z.getD 16 0)) 32).getD (k - 12) 0)
 else if z.getD 17 0 = 0 then 0
 else if (ptrsTo (secI im (z.getD 17 0)) 32).getD ((k - 44) / 32) 0 = 0 then 0
 else (ptrsTo (secI im ((ptrsTo (secI im (z.getD 17 0)) 32).getD ((k - 44) / 32) 0)) 32).getD ((k - 44) % 32) 0
def entB (im : Img) (z : List Int) (k : Nat) : List (Int × Int) := if blkP im z k = 0 then [] else [((k : Int), blkP im z k)]
theorem flatMap_add {α : Type} (f : Nat → List α) (a b : Nat) : (List.range (a + b)).flatMap f = (List.range a).flatMap f ++ (List.range b).flatMap fun k => f (a + k) := by
 rw [List.range_add, List.flatMap_append, List.flatMap_map]
theorem flatMap_mul {α : Type} (f : Nat → List α) (b : Nat) : ∀ a : Nat, (List.range (b * a)).flatMap f = (List.range a).flatMap fun i => (List.range b).flatMap fun j => f (b * i + j)
 | 0 => by simp
 | a + 1 => by
  rw [Nat.mul_succ, flatMap_add, flatMap_mul f b a, List.range_succ, List.flatMap_append]
  simp
theorem flatMap_ext {α : Type} {f g : Nat → List α} {n : Nat} (h : ∀ k, k < n → f k = g k) : (List.range n).flatMap f = (List.range n).flatMap g := by
 induction n with
 | zero => rfl
 | succ n ih =>
  rw [List.range_succ, List.flatMap_append, List.flatMap_append, ih fun k hk => h k (by omega)]
  simp [h n (by omega)]
theorem sp_blocks (im : Img) {z : List Int} (hz : z.length = 18) : spI im z = (List.range 1068).flatMap (entB im z) := by
 rw [show (1068 : Nat) = 12 + 32 + 32 * 32 from rfl, flatMap_add, flatMap_add, flatMap_mul];unfold spI;refine congr (congrArg _ (congr (congrArg _ ?_) ?_)) ?_
 ·unfold rowG
  refine flatMap_ext fun k hk => ?_
  rw [part_get hz hk];unfold entB blkP;rw [if_pos hk]
  split
  ·rfl
  ·simp
 ·split
  ·rename_i h0
   symm
   rw [List.flatMap_eq_nil_iff]
   intro k hk
   have hk := List.mem_range.1 hk;unfold entB blkP;rw [if_neg (show ¬ 12 + k < 12 by omega), if_pos (show 12 + k < 44 by omega), if_pos h0, if_pos rfl]
  ·rename_i h0
   unfold tabG rowG
   refine flatMap_ext fun k hk => ?_
   unfold entB blkP;rw [if_neg (show ¬ 12 + k < 12 by omega), if_pos (show 12 + k < 44 by omega), if_neg h0, show 12 + k - 12 = k by omega]
   split
   ·rfl
   ·simp
 ·split
  ·rename_i h0
   symm
   rw [List.flatMap_eq_nil_iff]
   intro a _
   rw [List.flatMap_eq_nil_iff]
   intro k _
   unfold entB blkP;rw [if_neg (show ¬ 12 + 32 + (32 * a + k) < 12 by omega), if_neg (show ¬ 12 + 32 + (32 * a + k) < 44 by omega), if_pos h0, if_pos rfl]
  ·rename_i h0
   unfold tabG rowG
   refine flatMap_ext fun a ha => ?_
   have hb : ∀ k, k < 32 → blkP im z (12 + 32 + (32 * a + k)) = if (ptrsTo (secI im (z.getD 17 0)) 32).getD a 0 = 0 then 0 else (ptrsTo (secI im ((ptrsTo (secI im (z.getD 17 0)) 32).getD a 0)) 32).getD k 0 := fun k hk => by
    unfold blkP;rw [if_neg (show ¬ 12 + 32 + (32 * a + k) < 12 by omega), if_neg (show ¬ 12 + 32 + (32 * a + k) < 44 by omega), if_neg h0, show (12 + 32 + (32 * a + k) - 44) / 32 = a by omega, show (12 + 32 + (32 * a + k) - 44) % 32 = k by omega]
   split
   ·rename_i h1
    symm
    rw [List.flatMap_eq_nil_iff]
    intro k hk
    unfold entB;rw [hb k (List.mem_range.1 hk), if_pos h1, if_pos rfl]
   ·rename_i h1
    refine flatMap_ext fun k hk => ?_
    unfold entB;rw [hb k hk, if_neg h1]
    split
    ·rfl
    ·refine congrArg (fun x => [x]) (Prod.ext ?_ rfl)
     show (44 : Int) + 32 * a + 1 * k = ((12 + 32 + (32 * a + k) : Nat) : Int)
     omega
end Go.Proofs.YtboammbcoleicabGreat

namespace Go.Proofs.YtboammbcoleicabGreat

def Ix (cnt : Int) (keep : KeepF) : Prop := ∀ s i p, (∀ x ∈ s.sp, x.1 < cnt) → ∀ x ∈ (keep s i p).2.sp, x.1 < cnt
theorem block_ix (N M cnt : Int) : Ix cnt (blockF N M cnt) := fun s i p h x hx => by
 unfold blockF at hx
 split at hx
 ·rename_i e
  rw [Bool.and_eq_true, decide_eq_true_eq] at e
  rcases List.mem_append.1 hx with k | k
  ·exact h x k
  ·rw [List.mem_singleton.1 k]; exact e.1
 ·exact h x hx
theorem goK_ix {cnt : Int} {keep : KeepF} (hk : Ix cnt keep) (t : List Int) (s : TS) (h : ∀ x ∈ s.sp, x.1 < cnt) : ∀ k, ∀ x ∈ (goK keep t s k).2.sp, x.1 < cnt
 | 0 => h
 | k + 1 => hk _ _ _ (goK_ix hk t s h k)
theorem table_ix {N M cnt each : Int} {keep : KeepF} (hk : Ix cnt keep) : Ix cnt (tableF N M cnt each keep) := fun s f p h x hx => by
 unfold tableF at hx
 split at hx
 ·rw [goF_is] at hx
  have hr : Ix cnt (innerF each f keep) := fun s k p h x hx => hk s (f + each * k) p h x hx
  have hg : ∀ x ∈ (gone each f keep s p).2.sp, x.1 < cnt := goK_ix hr (ptrsTo (secI s.wt p) 32) ⟨s.wt, putC s.cl p, s.sp⟩ h 32
  split at hx
  ·exact hg x hx
  ·exact hg x hx
 ·exact h x hx
theorem dbl_ix (N M : Int) (z : List Int) (wt : Img) (cl : Int → Bool) : ∀ x ∈ (dblT N M z wt cl).2.sp, x.1 < cntZ z := by
 have kb := block_ix N M (cntZ z);have ks : Ix (cntZ z) (singleF N M (cntZ z)) := table_ix kb;have kd : Ix (cntZ z) (doubleF N M (cntZ z)) := table_ix ks
 exact kd _ _ _ (ks _ _ _ (goK_ix kb _ _ (by simp) 12))
theorem still_blocks {N M : Int} {im : Img} (hM : 0 ≤ M) (hN : im.length = N) (hs : AllSec im) {z : List Int} (hz : z.length = 18) {c0 : Int → Bool} (h : Still N M im z c0) {K : Nat} (hK : (K : Int) = cntZ z) (hK2 : K ≤ 1068) : spI im z = (List.range K).flatMap (entB im z) := by
 have hix := dbl_ix N M z im c0;rw [still_sp hM hN hs hz h, sp_blocks im hz] at hix;rw [sp_blocks im hz, show (1068 : Nat) = K + (1068 - K) by omega, flatMap_add]
 have : (List.range (1068 - K)).flatMap (fun k => entB im z (K + k)) = [] := by
  rw [List.flatMap_eq_nil_iff]
  intro k hk
  have hk := List.mem_range.1 hk
  cases e : entB im z (K + k) with
  | nil => rfl
  | cons x l =>
   have hx : x ∈ entB im z (K + k) := by rw [e]; simp
   have h1 := hix x (List.mem_flatMap.2 ⟨K + k, List.mem_range.2 (by omega), hx⟩);unfold entB at hx
   split at hx
   ·cases hx
   ·have hx := List.mem_singleton.1 hx
    rw [hx] at h1;have h1 : ((K + k : Nat) : Int) < cntZ z := h1
    omega
 rw [this, List.append_nil]
end Go.Proofs.YtboammbcoleicabGreat

namespace Go.Proofs.YtboammbcoleicabGreat

theorem wip_iff {s : List Int} (hs : IsSec s) (f : Int) : wip s f = s ↔ ∀ k : Nat, f ≤ (k : Int) → k < 128 → s.getD k 0 = 0 := by
 constructor
 ·intro h k hk _
  have := wip_get s f hs.1 k;rw [h, if_pos hk] at this
  exact this
 ·intro h
  refine ext_getZ (by rw [wip_len s f hs.1, hs.1]) fun n hn => ?_
  rw [wip_len s f hs.1] at hn;rw [wip_get s f hs.1 n]
  split
  ·rename_i c
   exact (h n c hn).symm
  ·rfl

theorem rowS_step {st : StepF} {t : List Int} {f each : Int} {sn : Int → Bool} : ∀ {k : Nat} {s : Int → Bool}, rowS st t f each sn k = some s → ∀ j, j < k → t.getD j 0 ≠ 0 → ∃ s1 s2, st (f + each * j) (t.getD j 0) s1 = some s2
 | 0, _, _, j, hj, _ => by omega
 | k + 1, s, e, j, hj, h0 => by
  rw [rowS] at e;obtain ⟨s1, e1, e2⟩ := Option.bind_eq_some_iff.1 e
  by_cases ej : j = k
  ·subst ej
   rw [if_neg h0] at e2
   exact ⟨s1, s, e2⟩
  ·exact rowS_step e1 j (by omega) h0
theorem tableS_data {N M cnt each f p : Int} {im : Img} {st : StepF} {s s' : Int → Bool} (h : tableS N M cnt each im st f p s = some s') : (M < p ∧ p < N) ∧ rowS st (ptrsTo (secI im p) 32) f each (putC s p) 32 = some s' := by
 unfold tableS at h
 split at h
 ·rename_i hc
  rw [Bool.and_eq_true] at hc;refine ⟨(claimB_of.1 hc.2).2, ?_⟩
  split at h
  ·exact h
  ·cases h
 ·cases h
theorem still_tabs {N M : Int} {im : Img} (hM : 0 ≤ M) (hN : im.length = N) (hs : AllSec im) {z : List Int} (hz : z.length = 18) {c0 : Int → Bool} (h : Still N M im z c0) :
  (z.getD 16 0 ≠ 0 → M < z.getD 16 0 ∧ z.getD 16 0 < N) ∧ (z.getD 17 0 ≠ 0 → M < z.getD 17 0 ∧ z.getD 17 0 < N) ∧
  (z.getD 17 0 ≠ 0 → ∀ a, a < 32 → (ptrsTo (secI im (z.getD 17 0)) 32).getD a 0 ≠ 0 → M < (ptrsTo (secI im (z.getD 17 0)) 32).getD a 0 ∧ (ptrsTo (secI im (z.getD 17 0)) 32).getD a 0 < N) := by
 have hp := (ptrsW_iff hM hN hs hz c0 _).2 ⟨h, rfl⟩;unfold ptrsW at hp;obtain ⟨s1, _, e2⟩ := Option.bind_eq_some_iff.1 hp;obtain ⟨s2, e3, e4⟩ := Option.bind_eq_some_iff.1 e2;unfold stepZ at e3 e4;refine ⟨fun h0 => ?_, fun h0 => ?_, fun h0 a ha hn => ?_⟩
 ·rw [if_neg h0] at e3
  exact (tableS_data e3).1
 ·rw [if_neg h0] at e4
  exact (tableS_data e4).1
 ·rw [if_neg h0] at e4
  obtain ⟨t1, t2, e5⟩ := rowS_step (tableS_data e4).2 a ha hn
  exact (tableS_data e5).1
theorem still_data {N M : Int} {im : Img} (hM : 0 ≤ M) (hN : im.length = N) (hs : AllSec im) {z : List Int} (hz : z.length = 18) {c0 : Int → Bool} (h : Still N M im z c0) (k : Nat) (hk : k < 1068) (h0 : blkP im z k ≠ 0) : M < blkP im z k ∧ blkP im z k < N := by
 have hok := dblT_ok N M z im c0;unfold SpOk at hok;rw [still_sp hM hN hs hz h, sp_blocks im hz] at hok
 exact hok (((k : Nat) : Int), blkP im z k) (List.mem_flatMap.2 ⟨k, List.mem_range.2 hk, by unfold entB; rw [if_neg h0]; exact List.mem_singleton.2 rfl⟩)
theorem kind_size {im : Img} {i : Int} (h : (rdI im i).2 = 0) (hk : kd im i ≠ 0) : 0 ≤ kd im i ∧ kd im i ≤ 2 ∧ 0 ≤ (zI im i).getD 2 0 ∧ (zI im i).getD 2 0 ≤ 136704 ∧ (kd im i = 2 → (zI im i).getD 2 0 % 128 = 0) ∧ 0 ≤ (zI im i).getD 1 0 ∧ (zI im i).getD 1 0 ≤ 100 := by
 unfold kd zI rdI at *;unfold rdIno at *
 split at h
 ·rename_i hb
  rw [if_pos hb] at hk ⊢;have hb := hb.1;unfold inoB at hb;rw [if_neg hk, Bool.and_eq_true] at hb;have a0 := allB_of hb.1 0 (by omega);have a1 := allB_of hb.1 1 (by omega);have a2 := allB_of hb.1 2 (by omega);refine ⟨a0.1, a0.2, a2.1, a2.2, fun e => ?_, a1.1, a1.2⟩;have hb2 := hb.2;rw [e] at hb2
  simpa using hb2
 ·cases h
def slB (im : Img) (z : List Int) (k : Nat) : List Int := ((List.range k).flatMap (entB im z)).map Prod.snd
theorem slB_zero (im : Img) (z : List Int) : slB im z 0 = [] := rfl
theorem slB_succ (im : Img) (z : List Int) (k : Nat) : slB im z (k + 1) = slB im z k ++ (if blkP im z k = 0 then [] else [blkP im z k]) := by
 unfold slB;rw [List.range_succ, List.flatMap_append, List.map_append]
 congr 1
 simp only [List.flatMap_cons, List.flatMap_nil, List.append_nil]
 unfold entB
 split <;> rfl
theorem slB_len (im : Img) (z : List Int) : ∀ k, (slB im z k).length ≤ k
 | 0 => by rw [slB_zero]; exact Nat.le_refl _
 | k + 1 => by
  have := slB_len im z k;rw [slB_succ, List.length_append]
  split <;> simp <;> omega
theorem slB_mem (im : Img) (z : List Int) {k K : Nat} (hk : k < K) (h0 : blkP im z k ≠ 0) : blkP im z k ∈ slB im z K := by
 unfold slB;refine List.mem_map.2 ⟨((k : Int), blkP im z k), List.mem_flatMap.2 ⟨k, List.mem_range.2 hk, ?_⟩, rfl⟩;unfold entB;rw [if_neg h0]
 exact List.mem_singleton.2 rfl
def nameAt (im : Img) (x : Int) : ByteArray := (slotOf (secI im x)).2.1
def errAt (im : Img) (x : Int) : Int := (slotOf (secI im x)).2.2
def liveB (im : Img) (x : Int) : Bool := decide (inoAt im x ≠ 0)
def liveL (im : Img) (l : List Int) : List (Int × ByteArray) := (l.filter (liveB im)).map fun x => (inoAt im x, nameAt im x)
theorem liveL_app (im : Img) (a b : List Int) : liveL im (a ++ b) = liveL im a ++ liveL im b := by simp [liveL]
theorem liveL_one (im : Img) (x : Int) : liveL im [x] = if inoAt im x = 0 then [] else [(inoAt im x, nameAt im x)] := by
 unfold liveL
 by_cases e : inoAt im x = 0 <;> simp [liveB, e]
theorem liveL_len (im : Img) (l : List Int) : (liveL im l).length ≤ l.length := by
 unfold liveL;rw [List.length_map]
 exact List.length_filter_le _ _
theorem still_slots {N M : Int} {im : Img} (hM : 0 ≤ M) (hN : im.length = N) (hs : AllSec im) {i : Int} {c0 : Int → Bool} (h : Still N M im (zI im i) c0) {K : Nat} (hK : (K : Int) = cntZ (zI im i)) (hK2 : K ≤ 1068) : slotsI im i = slB im (zI im i) K := by
 unfold slotsI slB;rw [still_blocks hM hN hs (zI_len im i) h hK hK2]
theorem liveL_mem {im : Img} {l : List Int} {y : Int × ByteArray} (h : y ∈ liveL im l) : ∃ x ∈ l, inoAt im x = y.1 ∧ y.1 ≠ 0 := by
 unfold liveL at h;obtain ⟨x, hx, rfl⟩ := List.mem_map.1 h;obtain ⟨h1, h2⟩ := List.mem_filter.1 hx
 exact ⟨x, h1, rfl, by simpa [liveB] using h2⟩
structure DirOk (M : Nat) (im : Img) (i : Int) : Prop where
 err : ∀ x ∈ slotsI im i, errAt im x = 0
 ino : ∀ y ∈ liveL im (slotsI im i), 2 ≤ y.1 ∧ y.1 ≤ M ∧ kd im y.1 ≠ 0
 nam : (liveL im (slotsI im i)).Pairwise fun a b => a.2.data ≠ b.2.data
theorem dirOk_iff {M : Nat} {im : Img} {i : Int} : DirOk M im i ↔ (∀ x ∈ slotsI im i, (slotOf (secI im x)).2.2 = 0 ∧ (inoAt im x ≠ 0 → 2 ≤ inoAt im x ∧ inoAt im x ≤ M ∧ kd im (inoAt im x) ≠ 0)) ∧
  (slotsI im i).Pairwise fun x y => inoAt im x ≠ 0 → inoAt im y ≠ 0 → (slotOf (secI im x)).2.1.data ≠ (slotOf (secI im y)).2.1.data := by
 have hp : (liveL im (slotsI im i)).Pairwise (fun a b => a.2.data ≠ b.2.data) ↔ (slotsI im i).Pairwise fun x y => inoAt im x ≠ 0 → inoAt im y ≠ 0 → (slotOf (secI im x)).2.1.data ≠ (slotOf (secI im y)).2.1.data := by
  unfold liveL;rw [List.pairwise_map, List.pairwise_filter]
  simp only [liveB, decide_eq_true_eq]
  rfl
 constructor
 ·intro h
  refine ⟨fun x hx => ⟨h.err x hx, fun h0 => ?_⟩, hp.1 h.nam⟩
  exact h.ino (inoAt im x, nameAt im x) (List.mem_map.2 ⟨x, List.mem_filter.2 ⟨hx, by simpa [liveB] using h0⟩, rfl⟩)
 ·rintro ⟨h1, h2⟩
  refine ⟨fun x hx => (h1 x hx).1, fun y hy => ?_, hp.2 h2⟩;obtain ⟨x, hx, e, h0⟩ := liveL_mem hy;rw [← e]
  exact (h1 x hx).2 (by rw [e]; exact h0)
def pairsI (i : Int) (l : List (Int × ByteArray)) : List (Int × Int) := l.map fun y => (i, y.1)
def dirP (im : Img) (i : Int) : List (Int × Int) := if kd im i = 2 then pairsI i (liveL im (slotsI im i)) else []
def pairsN (im : Img) : Nat → List (Int × Int)
 | 0 => []
 | k + 1 => pairsN im k ++ dirP im ((k : Int) + 1)
def cntP (P : List (Int × Int)) (j : Int) : Nat := P.countP fun p => decide (p.2 = j)
theorem cntP_app (P Q : List (Int × Int)) (j : Int) : cntP (P ++ Q) j = cntP P j + cntP Q j := List.countP_append
theorem cntP_one (P : List (Int × Int)) (i k j : Int) : cntP (P ++ [(i, k)]) j = cntP P j + if k = j then 1 else 0 := by
 rw [cntP_app]
 congr 1
 unfold cntP
 by_cases e : k = j <;> simp [e]
theorem cntP_live (im : Img) (i j : Int) (hj : j ≠ 0) (l : List Int) : cntP (pairsI i (liveL im l)) j = l.countP (nmB im j) := by
 unfold cntP pairsI liveL;rw [List.countP_map, List.countP_map, List.countP_filter]
 refine List.countP_congr fun x _ => ?_
 simp only [Function.comp, liveB, nmB, Bool.and_eq_true, decide_eq_true_eq]
 constructor
 ·exact fun h => h.1
 ·exact fun h => ⟨h, by rw [h]; exact hj⟩
theorem cntP_pairs (im : Img) (j : Int) (hj : j ≠ 0) : ∀ M : Nat, cntP (pairsN im M) j = timesI M im j
 | 0 => rfl
 | M + 1 => by
  have ih := cntP_pairs im j hj M;rw [pairsN, cntP_app, ih];unfold timesI dirsL;rw [List.range_succ, List.map_append, List.filter_append, List.flatMap_append, List.countP_append]
  congr 1
  unfold dirP
  by_cases e : kd im ((M : Int) + 1) = 2
  ·rw [if_pos e, cntP_live im _ j hj]
   simp [e]
  ·rw [if_neg e]
   simp [e, cntP]
structure PairOk (M : Nat) (im : Img) (p : Int × Int) : Prop where
 h1 : 1 ≤ p.1
 h2 : p.1 ≤ M
 h3 : kd im p.1 = 2
 h4 : ∃ x ∈ slotsI im p.1, inoAt im x = p.2
 h5 : 2 ≤ p.2
 h6 : p.2 ≤ M
structure NI (M : Nat) (im : Img) (R0 : Int → Bool) (P : List (Int × Int)) (tm : Int → Int) (R : Int → Bool) (more : Bool) : Prop where
 tm : ∀ j : Int, 1 ≤ j → j ≤ M → tm j = (cntP P j : Nat)
 ok : ∀ p ∈ P, PairOk M im p
 one : R 1 = true
 rch : ∀ j : Int, R j = true → Rch M im j
 no : more = false → R = R0 ∧ ∀ p ∈ P, R p.1 = true → R p.2 = true
 yes : more = true → (∀ j : Int, R0 j = true → R j = true) ∧ ∃ j : Int, 1 ≤ j ∧ j ≤ M ∧ R0 j = false ∧ R j = true
theorem NI.begin {M : Nat} {im : Img} {R : Int → Bool} (h1 : R 1 = true) (h2 : ∀ j : Int, R j = true → Rch M im j) : NI M im R [] (fun _ => 0) R false :=
 ⟨fun _ _ _ => rfl, fun _ h => (by cases h), h1, h2, fun _ => ⟨rfl, fun _ h => (by cases h)⟩, fun h => (by cases h)⟩
def putI (tm : Int → Int) (k v : Int) : Int → Int := fun x => if x = k then v else tm x
theorem NI.step {M : Nat} {im : Img} {R0 : Int → Bool} {P : List (Int × Int)} {tm : Int → Int} {R : Int → Bool} {more : Bool} (h : NI M im R0 P tm R more) {i k : Int} (hp : PairOk M im (i, k)) (hr : R i = true → R k = true) :
  NI M im R0 (P ++ [(i, k)]) (putI tm k (tm k + 1)) R more := by
 have hm : ∀ p ∈ P ++ [(i, k)], p ∈ P ∨ p = (i, k) := fun p hp => by simpa using hp
 refine ⟨fun j j1 j2 => ?_, fun p hq => ?_, h.one, h.rch, fun e => ⟨(h.no e).1, fun p hq => ?_⟩, h.yes⟩
 ·rw [cntP_one]
  unfold putI
  by_cases e : j = k
  ·subst e
   rw [if_pos rfl, if_pos rfl, h.tm j j1 j2]
   rfl
  ·rw [if_neg e, if_neg (fun q => e q.symm), h.tm j j1 j2]
   rfl
 ·rcases hm p hq with q | rfl
  ·exact h.ok p q
  ·exact hp
 ·rcases hm p hq with q | rfl
  ·exact (h.no e).2 p q
  ·exact hr
theorem NI.reach {M : Nat} {im : Img} {R0 : Int → Bool} {P : List (Int × Int)} {tm : Int → Int} {R : Int → Bool} {more : Bool} (h : NI M im R0 P tm R more) {i k : Int} (hp : PairOk M im (i, k)) (hi : R i = true) (hk : R k = false) :
  NI M im R0 (P ++ [(i, k)]) (putI tm k (tm k + 1)) (putC R k) true := by
 have hm : ∀ p ∈ P ++ [(i, k)], p ∈ P ∨ p = (i, k) := fun p hp => by simpa using hp
 obtain ⟨x, hx, hx2⟩ := hp.h4;have h5 := hp.h5;have h6 := hp.h6
 have hsub : ∀ j : Int, R j = true → putC R k j = true := fun j hj => by simp [putC, hj]
 refine ⟨fun j j1 j2 => ?_, fun p hq => ?_, hsub _ h.one, fun j hj => ?_, fun e => (by cases e), fun _ => ⟨fun j hj => ?_, ?_⟩⟩
 ·rw [cntP_one]
  unfold putI
  by_cases e : j = k
  ·subst e
   rw [if_pos rfl, if_pos rfl, h.tm j j1 j2]
   rfl
  ·rw [if_neg e, if_neg (fun q => e q.symm), h.tm j j1 j2]
   rfl
 ·rcases hm p hq with q | rfl
  ·exact h.ok p q
  ·exact hp
 ·unfold putC at hj
  rw [Bool.or_eq_true] at hj
  rcases hj with e | e
  ·have e : j = k := by simpa using e
   subst e
   exact .more (h.rch i hi) hp.h1 hp.h2 hp.h3 hx hx2 (by simp at h5; omega)
  ·exact h.rch j e
 ·cases hmo : more with
  | false => rw [← (h.no hmo).1] at hj; exact hsub j hj
  | true => exact hsub j ((h.yes hmo).1 j hj)
 ·cases hmo : more with
  | false =>
   refine ⟨k, by simp at h5; omega, h6, ?_, by simp [putC]⟩;rw [← (h.no hmo).1]
   exact hk
  | true =>
   obtain ⟨j, j1, j2, j3, j4⟩ := (h.yes hmo).2
   exact ⟨j, j1, j2, j3, hsub j j4⟩
def notR (R : Int → Bool) : Nat → Nat
 | 0 => 0
 | k + 1 => notR R k + if R ((k : Int) + 1) = true then 0 else 1
theorem notR_le {R0 R : Int → Bool} (h : ∀ j : Int, R0 j = true → R j = true) : ∀ k, notR R k ≤ notR R0 k
 | 0 => Nat.le_refl _
 | k + 1 => by
  have := notR_le h k;unfold notR
  by_cases e : R0 ((k : Int) + 1) = true
  ·rw [if_pos e, if_pos (h _ e)]; omega
  ·rw [if_neg e]; split <;> omega
theorem notR_lt {R0 R : Int → Bool} (h : ∀ j : Int, R0 j = true → R j = true) {j : Int} (j1 : 1 ≤ j) (j3 : R0 j = false) (j4 : R j = true) : ∀ k : Nat, j ≤ k → notR R k < notR R0 k
 | 0, hk => by simp at hk; omega
 | k + 1, hk => by
  unfold notR
  by_cases e : j = (k : Int) + 1
  ·subst e
   have := notR_le h k;rw [if_pos j4, if_neg (by rw [j3]; decide)]
   omega
  ·have := notR_lt h j1 j3 j4 k (by omega)
   by_cases e : R0 ((k : Int) + 1) = true
   ·rw [if_pos e, if_pos (h _ e)]; omega
   ·rw [if_neg e]; split <;> omega
theorem pairs_mem {im : Img} {i j x : Int} (h1 : 1 ≤ i) (h3 : kd im i = 2) (hx : x ∈ slotsI im i) (e : inoAt im x = j) (h0 : j ≠ 0) : ∀ M : Nat, i ≤ M → (i, j) ∈ pairsN im M
 | 0, h2 => by simp at h2; omega
 | M + 1, h2 => by
  unfold pairsN
  by_cases ei : i = (M : Int) + 1
  ·subst ei
   refine List.mem_append.2 (.inr ?_);unfold dirP;rw [if_pos h3];refine List.mem_map.2 ⟨(inoAt im x, nameAt im x), ?_, by rw [e]⟩
   exact List.mem_map.2 ⟨x, List.mem_filter.2 ⟨hx, by unfold liveB; rw [e]; simpa using h0⟩, rfl⟩
  ·exact List.mem_append.2 (.inl (pairs_mem h1 h3 hx e h0 M (by omega)))
theorem NI.done {M : Nat} {im : Img} {R0 : Int → Bool} {tm : Int → Int} {R : Int → Bool} (h : NI M im R0 (pairsN im M) tm R false) : (∀ j : Int, 1 ≤ j → j ≤ M → tm j = (timesI M im j : Nat)) ∧ ∀ j : Int, R j = true ↔ Rch M im j := by
 refine ⟨fun j j1 j2 => by rw [h.tm j j1 j2, cntP_pairs im j (by omega)], fun j => ⟨h.rch j, fun hj => ?_⟩⟩
 induction hj with
 | root => exact h.one
 | more _ h1 h2 h3 hx e h0 ih => exact (h.no rfl).2 _ (pairs_mem h1 h3 hx e h0 M h2) ih
def tailP (im : Img) (z : List Int) : Prop := z.getD 2 0 % 128 ≠ 0 → blkP im z (cntZ z - 1).toNat ≠ 0 → ∀ k : Nat, z.getD 2 0 % 128 ≤ (k : Int) → k < 128 → (secI im (blkP im z (cntZ z - 1).toNat)).getD k 0 = 0
theorem tail_iff {N M : Int} {im : Img} (hM : 0 ≤ M) (hN : im.length = N) (hs : AllSec im) {z : List Int} (hz : z.length = 18) {c0 : Int → Bool} (h : Still N M im z c0) (h0 : 0 ≤ z.getD 2 0) (h1 : z.getD 2 0 ≤ 136704) :
  (∀ l, lastB (z.getD 2 0) (spI im z) = some l → wip (secI im l.2) (z.getD 2 0 % 128) = secI im l.2) ↔ tailP im z := by
 unfold tailP
 by_cases e : z.getD 2 0 % 128 = 0
 ·refine ⟨fun _ h => absurd e h, fun _ l hl => ?_⟩
  unfold lastB at hl
  split at hl
  ·rw [if_neg (fun q => q.1 e)] at hl; cases hl
  ·cases hl
 ·obtain ⟨K, hK⟩ : ∃ K : Nat, (K : Int) = z.getD 2 0 / 128 := ⟨(z.getD 2 0 / 128).toNat, by omega⟩
  have hc : ((K + 1 : Nat) : Int) = cntZ z := by unfold cntZ; omega
  have hKm : (cntZ z - 1).toNat = K := by omega
  have hsp := still_blocks hM hN hs hz h hc (by omega);rw [List.range_succ, List.flatMap_append, List.flatMap_cons, List.flatMap_nil, List.append_nil] at hsp;rw [hKm]
  by_cases e0 : blkP im z K = 0
  ·refine ⟨fun _ _ q => absurd e0 q, fun _ l hl => ?_⟩
   have hsp : spI im z = (List.range K).flatMap (entB im z) := by rw [hsp]; unfold entB; rw [if_pos e0, List.append_nil]
   unfold lastB at hl
   split at hl
   ·rename_i l' hl'
    split at hl
    ·rename_i q
     cases hl
     have hm := List.mem_of_getLast? hl';rw [hsp] at hm;obtain ⟨k, hk, hm⟩ := List.mem_flatMap.1 hm;have hk := List.mem_range.1 hk;unfold entB at hm
     split at hm
     ·cases hm
     ·have hm := List.mem_singleton.1 hm
      have q2 := q.2;rw [hm] at q2;have q2 : (k : Int) = z.getD 2 0 / 128 := q2
      omega
    ·cases hl
   ·cases hl
  ·have hl : lastB (z.getD 2 0) (spI im z) = some ((K : Int), blkP im z K) := by
    unfold lastB;rw [hsp];unfold entB;rw [if_neg e0, List.getLast?_append]
    simp only [List.getLast?_singleton, Option.some_or]
    rw [if_pos ⟨e, hK⟩]
   rw [hl];have hsec : IsSec (secI im (blkP im z K)) := hs _
   constructor
   ·intro q _ _ k hk hk2
    have q1 := q ((K : Int), blkP im z K) rfl
    generalize secI im (blkP im z K) = sk at *
    exact (wip_iff hsec (z.getD 2 0 % 128)).1 q1 k hk hk2
   ·intro q l hl
    have hl := Option.some.inj hl;subst hl
    show wip (secI im (blkP im z K)) (z.getD 2 0 % 128) = secI im (blkP im z K)
    generalize secI im (blkP im z K) = sk at *
    exact (wip_iff hsec (z.getD 2 0 % 128)).2 fun k hk hk2 => q e e0 k hk hk2
end Go.Proofs.YtboammbcoleicabGreat

namespace Go.Proofs.YtboammbcoleicabGreat
open Go.RowKit Go.Shelf

structure BlkOk (c : SC) (z : List Int) : Prop where
 o16 : z.getD 16 0 ≠ 0 → 0 ≤ z.getD 16 0 ∧ z.getD 16 0 < c.N
 o17 : z.getD 17 0 ≠ 0 → 0 ≤ z.getD 17 0 ∧ z.getD 17 0 < c.N
 o18 : z.getD 17 0 ≠ 0 → ∀ a, a < 32 → (ptrsTo (secI c.im (z.getD 17 0)) 32).getD a 0 ≠ 0 → 0 ≤ (ptrsTo (secI c.im (z.getD 17 0)) 32).getD a 0 ∧ (ptrsTo (secI c.im (z.getD 17 0)) 32).getD a 0 < c.N
theorem img_sec {c : SC} {sn : Int → Bool} {w : World} (h : IsS w c sn) {m : Nat} (hm : m < c.N) : ∃ b o, (∀ W', Chg w W' No → W'.cell? ⟨c.p, 2, none⟩ = some (.slice (some ⟨b, o, none⟩) c.N c.ic)) ∧ ∀ W', Chg w W' No → W'.rangeAt b (o + m * 128) ((secI c.im (m : Int)).map (Value.int .u8)) := by
 obtain ⟨b, o, hia, _, _⟩ : ∃ b o, c.ia = some ⟨b, o, none⟩ ∧ b < w.heap.size ∧ ∀ (j : Nat) s, c.im[j]? = some s → w.rangeAt b (o + j * 128) (s.map (Value.int .u8)) := by
  rcases h.ci.2 with e | e
  ·have h1 := h.il; have h2 := h.n1; rw [e] at h1; simp at h1; omega
  ·exact e
 refine ⟨b, o, fun W' hW => by rw [← hia]; exact (h.call hW).c2, fun W' hW => ?_⟩
 rcases (h.call hW).ci.2 with e | ⟨b', o', e1, _, e3⟩
 ·have h1 := h.il; have h2 := h.n1; rw [e] at h1; simp at h1; omega
 ·rw [hia] at e1
  cases e1
  exact e3 m _ (getD_at (by rw [h.il]; exact hm))
theorem rptrs_c (s : List Int) (hs : IsSec s) (w : World) : Calls Tryz.prog 41 #[.agg (SA s)] w fun e w' => e = .returned (.agg (NA (ptrsTo s 32))) ∧ Chg w w' No := by
 refine (rreadPointers_any s hs w).mono ?_
 rintro e w' ⟨rfl, hb⟩
 exact ⟨rfl, Chg.of_below hb No⟩
theorem blk_a (im : Img) (z : List Int) {k : Nat} (h : k < 12) : blkP im z k = z.getD (4 + k) 0 := by unfold blkP; rw [if_pos h]
theorem blk_b (im : Img) (z : List Int) {k : Nat} (h : ¬ k < 12) (h2 : k < 44) : blkP im z k = if z.getD 16 0 = 0 then 0 else (ptrsTo (secI im (z.getD 16 0)) 32).getD (k - 12) 0 := by unfold blkP; rw [if_neg h, if_pos h2]
end Go.Proofs.YtboammbcoleicabGreat

namespace Go.Proofs.YtboammbcoleicabGreat
open Go.RowKit Go.Shelf

set_option maxHeartbeats 1000000 in
set_option maxRecDepth 100000 in
theorem block_low {c : SC} {sn : Int → Bool} (z : List Int) (hz : z.length = 18) (hB : BlkOk c z) (k : Nat) (hk : k < 44) (w : World) (h : IsS w c sn) :
  Calls Tryz.prog 43 #[.pointer (some ⟨c.p, 0, none⟩), .agg (NA z), .int .i64 k] w fun e w' => e = .returned (.int .i64 (blkP c.im z k)) ∧ Chg w w' No := by
 have hA := Chg.alloc w (.cells (NA z) 66) No;have hg := heap_alloc_new w (.cells (NA z) 66)
 have k0 : (0 : Int) ≤ (k : Int) := by omega
 have k44 : ¬ (44 : Int) ≤ (k : Int) := by omega
 have k44' : (k : Int) < 44 := by omega
 by_cases e1 : k < 12
 ·have hq := row_cell hg (4 + k) (by omega)
  have k1 : (k : Int) < 12 := by omega
  rw [blk_a c.im z e1];have HA := hid hA
  generalize z.getD (4 + k) 0 = y at *
  clear hA hg hB h
  go_enter Tryz.func43, Tryz.ntmps43
  go_wp2_with fail
  go_ret
  exact ⟨rfl, HA.out⟩
 ·have k1 : ¬ (k : Int) < 12 := by omega
  have hq := row_cell hg 16 (by omega);rw [blk_b c.im z e1 hk];have HS := hid (h.call hA);have o16 := hB.o16;have HA := hid hA
  generalize z.getD 16 0 = y at *
  clear hA hg hB h
  by_cases ey : y = 0
  ·subst ey
   rw [if_pos rfl]
   go_enter Tryz.func43, Tryz.ntmps43
   go_wp2_with fail
   go_ret
   exact ⟨rfl, HA.out⟩
  ·have hyb : (y == 0) = false := by simpa using ey
   rw [if_neg ey];obtain ⟨m, rfl, hm⟩ : ∃ m : Nat, y = (m : Int) ∧ m < c.N := ⟨y.toNat, by have := o16 ey; omega, by have := o16 ey; omega⟩;obtain ⟨b, o, hc2, hr⟩ := img_sec HS.out hm;have c2 := hc2 _ (Chg.refl _ _);have HR := hr _ (Chg.refl _ _);obtain ⟨sk, hsk⟩ : ∃ x, x = secI c.im (m : Int) := ⟨_, rfl⟩;have HSk : Hid (IsSec sk) := hid (by rw [hsk]; exact HS.out.ci.secI _);rw [← hsk] at HR ⊢;have hRP := rptrs_c sk HSk.out (w.alloc (.cells (NA z) 66))
   have m0 : (0 : Int) ≤ (m : Int) := by omega
   have m1 : (m : Int) < (c.N : Int) := by omega
   have hIx := fun W' => index_ptr (ptrsTo sk 32) (k - 12) (ptrsTo_len _ _) (by omega) W'
   have hki : ((k - 12 : Nat) : Int) = (k : Int) - 12 := by omega
   rw [hki] at hIx;clear hsk hc2 hr o16 HS
   go_enter Tryz.func43, Tryz.ntmps43
   go_wp2_with (first
    | (refine load_mid 46 _ rfl b (o + m * 128) rfl _ _ HR Tryz.underlying46 rfl (by rw [sz26, List.length_map, HSk.out.1]) (by rfl) ?_)
    | (go_at_call 41; go_must (refine hRP.mono ?_; rintro e w2 ⟨rfl, hc2⟩))
    | fail)
   go_ret
   exact ⟨rfl, HA.out.trans hc2 (fun _ _ e => e) (fun _ _ e => e)⟩
end Go.Proofs.YtboammbcoleicabGreat

namespace Go.Proofs.YtboammbcoleicabGreat
open Go.RowKit Go.Shelf

theorem blk_c (im : Img) (z : List Int) {k : Nat} (h : 44 ≤ k) : blkP im z k = if z.getD 17 0 = 0 then 0 else if (ptrsTo (secI im (z.getD 17 0)) 32).getD ((k - 44) / 32) 0 = 0 then 0 else (ptrsTo (secI im ((ptrsTo (secI im (z.getD 17 0)) 32).getD ((k - 44) / 32) 0)) 32).getD ((k - 44) % 32) 0 := by
 unfold blkP;rw [if_neg (by omega), if_neg (by omega)]
set_option maxHeartbeats 1000000 in
set_option maxRecDepth 100000 in
theorem block_high {c : SC} {sn : Int → Bool} (z : List Int) (hz : z.length = 18) (hB : BlkOk c z) (k : Nat) (hk : 44 ≤ k) (hk2 : k < 1068) (w : World) (h : IsS w c sn) :
  Calls Tryz.prog 43 #[.pointer (some ⟨c.p, 0, none⟩), .agg (NA z), .int .i64 k] w fun e w' => e = .returned (.int .i64 (blkP c.im z k)) ∧ Chg w w' No := by
 have hA := Chg.alloc w (.cells (NA z) 66) No;have hg := heap_alloc_new w (.cells (NA z) 66)
 have k0 : (0 : Int) ≤ (k : Int) := by omega
 have k44 : (44 : Int) ≤ (k : Int) := by omega
 have k44' : ¬ (k : Int) < 44 := by omega
 have k1 : ¬ (k : Int) < 12 := by omega
 have k9 : (k : Int) < 1068 := by omega
 rw [blk_c c.im z hk];obtain ⟨a, ha⟩ : ∃ x, x = (k - 44) / 32 := ⟨_, rfl⟩;obtain ⟨j, hj⟩ : ∃ x, x = (k - 44) % 32 := ⟨_, rfl⟩
 have a1 : a < 32 := by omega
 have j1 : j < 32 := by omega
 have hdv : ((k : Int) - 44).tdiv 32 = (a : Int) := by rw [Int.tdiv_eq_ediv_of_nonneg (by omega)]; omega
 have hmd : ((k : Int) - 44).tmod 32 = (j : Int) := by rw [Int.tmod_eq_emod_of_nonneg (by omega)]; omega
 rw [← ha, ← hj];have hq16 := row_cell hg 16 (by omega);have hq := row_cell hg 17 (by omega);have HS := hid (h.call hA);have o17 := hB.o17;have o18 := hB.o18;have HGk : Hid (∀ W', Chg (w.alloc (.cells (NA z) 66)) W' No → W'.cell? ⟨w.heap.size, 17, none⟩ = some (.int .i64 (z.getD 17 0))) := hid (fun W' hW => row_cell (hW.keep hg (fun e => e)) 17 (by omega));have HA := hid hA
 generalize z.getD 16 0 = y16 at *
 generalize z.getD 17 0 = y at *
 clear hA hg hB h ha hj
 by_cases ey : y = 0
 ·subst ey
  rw [if_pos rfl]
  go_enter Tryz.func43, Tryz.ntmps43
  go_wp2_with fail
  go_ret
  exact ⟨rfl, HA.out⟩
 ·have hyb : (y == 0) = false := by simpa using ey
  rw [if_neg ey];obtain ⟨m, rfl, hm⟩ : ∃ m : Nat, y = (m : Int) ∧ m < c.N := ⟨y.toNat, by have := o17 ey; omega, by have := o17 ey; omega⟩;obtain ⟨b, o, hc2, hr⟩ := img_sec HS.out hm;obtain ⟨sk, hsk⟩ : ∃ x, x = secI c.im (m : Int) := ⟨_, rfl⟩;have HSk : Hid (IsSec sk) := hid (by rw [hsk]; exact HS.out.ci.secI _);have o18 := o18 ey a a1;rw [← hsk] at hr o18 ⊢
  have m0 : (0 : Int) ≤ (m : Int) := by omega
  have m1 : (m : Int) < (c.N : Int) := by omega
  have hIx := fun W' => index_ptr (ptrsTo sk 32) a (ptrsTo_len _ _) a1 W'
  obtain ⟨x, hx⟩ : ∃ y, y = (ptrsTo sk 32).getD a 0 := ⟨_, rfl⟩;rw [← hx] at o18 hIx ⊢;clear hx;obtain ⟨R, hR⟩ : ∃ r, r = (if x = 0 then 0 else (ptrsTo (secI c.im x) 32).getD j 0) := ⟨_, rfl⟩;rw [← hR];have HRes := hid hR;clear hR
  have wk : IntKind.i64.wrap ((k : Int) - 44) = (k : Int) - 44 := by rw [IntKind.wrap_i64]; omega
  have wa : IntKind.i64.wrap (a : Int) = (a : Int) := by rw [IntKind.wrap_i64]; omega
  go_enter Tryz.func43, Tryz.ntmps43
  go_upto_region 9 with fail
  obtain ⟨w1, hw1⟩ : ∃ x, x = w.alloc (.cells (NA z) 66) := ⟨_, rfl⟩;obtain ⟨g, hgg⟩ : ∃ x, x = w.heap.size := ⟨_, rfl⟩;rw [← hw1] at hc2 hr HGk HS HA ⊢;rw [← hgg] at HGk ⊢;have HC2 := hid hc2;have HRg := hid hr;have HC7 := HGk;clear hc2 hr hsk hq hq16 hw1 hgg o17 HGk;have hcut : True := trivial;refine wp_region_noPanic ?_;refine wp_region_held_drew (S := fun w' => Chg w1 w' No) (by kernel_rfl) (Chg.refl _ _).drew (fun hH => ?_);refine tV 0 27 (.pointer (some ⟨c.p, 0, none⟩)) rfl (by kernel_rfl) rfl (by rfl) hH (fun _ hw' => rfl) ?_;simp only [sS];refine tV 1 28 (.pointer (some ⟨c.p, 0, none⟩)) rfl (by kernel_rfl) rfl (by rfl) hH (fun _ hw' => by go_simp) ?_;simp only [sS];refine tV 2 29 (.pointer (some ⟨c.p, 2, none⟩)) rfl (by kernel_rfl) rfl (by rfl) hH (fun _ hw' => by go_simp) ?_;simp only [sS];refine tV 3 30 (.slice (some ⟨b, o, none⟩) c.N c.ic) rfl (by kernel_rfl) rfl (by rfl) hH (fun _ hw' => by have hc := HC2.out _ hw'; go_simp) ?_;simp only [sS];refine tV 4 31 (.pointer (some ⟨g, 17, none⟩)) rfl (by kernel_rfl) rfl (by rfl) hH (fun _ hw' => by go_simp) ?_;simp only [sS];refine tV 5 32 (.int .i64 (m : Int)) rfl (by kernel_rfl) rfl (by rfl) hH (fun _ hw' => by have hc := HC7.out _ hw'; go_simp) ?_;simp only [sS];refine tV 6 33 (.pointer (some ⟨b, o + m * 128, none⟩)) rfl (by kernel_rfl) rfl (by rfl) hH (fun _ hw' => by go_simp) ?_;simp only [sS];refine takeMid 7 34 (.tmp 33) b (o + m * 128) sk HSk.out.1 rfl (by kernel_rfl) (by kernel_rfl) (by kernel_rfl) rfl rfl rfl (by rfl) (fun _ _ _ h => h) hH (fun _ hw' => HRg.out _ hw') ?_;simp only [sS];refine tV 9 36 (.int .i64 (k : Int)) rfl (by kernel_rfl) rfl (by rfl) hH (fun _ hw' => rfl) ?_;simp only [sS]
  refine tV 10 37 (.int .i64 ((k : Int) - 44)) rfl (by kernel_rfl) rfl (by rfl) hH (fun _ hw' => by go_simp <;> first | exact wk | exact wa) ?_
  simp only [sS]
  refine tV 11 38 (.int .i64 (a : Int)) rfl (by kernel_rfl) rfl (by rfl) hH (fun _ hw' => by go_simp <;> first | exact wk | exact wa) ?_
  simp only [sS];refine step1 8 (by kernel_rfl) ?_;refine stCall 8 35 41 #[.agg (SA sk)] _ rfl rfl (by rfl) (by go_simp) (rptrs_c sk HSk.out _) ?_
  rintro e w2 ⟨rfl, hc2⟩
  have hH2 : Chg w1 w2 No := hH.trans hc2 (fun _ _ e => e) (fun _ _ e => e);refine ⟨_, rfl, hH2, ?_⟩;simp only [sS];refine tV 12 39 (.int .i64 x) rfl (by kernel_rfl) rfl (by rfl) hH2 (fun _ hw' => by go_simp) ?_;simp only [sS];refine tV 13 7 (.int .i64 x) rfl (by kernel_rfl) rfl (by rfl) hH2 (fun _ hw' => rfl) ?_;simp only [sS];refine wpAnyH_done (by kernel_rfl) ?_ _;refine NoPanic.normal ?_;have HH2 := hid hH2;clear hH hH2 hc2 hcut hIx
  by_cases ex : x = 0
  ·have e0 : R = 0 := by rw [HRes.out, if_pos ex]
   clear HRes;subst ex;subst e0
   go_wp2_with fail
   go_ret
   exact ⟨rfl, HA.out.trans HH2.out (fun _ _ e => e) (fun _ _ e => e)⟩
  ·have hxb : (x == 0) = false := by simpa using ex
   obtain ⟨m2, rfl, hm2⟩ : ∃ m : Nat, x = (m : Int) ∧ m < c.N := ⟨x.toNat, by have := o18 ex; omega, by have := o18 ex; omega⟩;obtain ⟨b, o, hd2, hr2⟩ := img_sec (HS.out.call HH2.out) hm2;have d2 := hd2 _ (Chg.refl _ _);have HR2 := hr2 _ (Chg.refl _ _);obtain ⟨sl, hsl⟩ : ∃ x, x = secI c.im (m2 : Int) := ⟨_, rfl⟩;have HSl : Hid (IsSec sl) := hid (by rw [hsl]; exact HS.out.ci.secI _);rw [← hsl] at HR2
   have e0 : R = (ptrsTo sl 32).getD j 0 := by rw [HRes.out, if_neg ex, hsl]
   clear HRes;subst e0;have hRP := rptrs_c sl HSl.out w2
   have n0 : (0 : Int) ≤ (m2 : Int) := by omega
   have n1 : (m2 : Int) < (c.N : Int) := by omega
   have hIy := fun W' => index_ptr (ptrsTo sl 32) j (ptrsTo_len _ _) j1 W'
   clear hsl hd2 hr2 o18
   go_wp2_with (first
     | (refine load_mid 46 _ rfl b (o + m2 * 128) rfl _ _ HR2 Tryz.underlying46 rfl (by rw [sz26, List.length_map, HSl.out.1]) (by rfl) ?_)
     | (go_at_call 41; go_must (refine hRP.mono ?_; rintro e w3 ⟨rfl, hc3⟩))
     | fail)
   go_ret
   exact ⟨rfl, (HA.out.trans HH2.out (c := No) (fun _ _ e => e) (fun _ _ e => e)).trans hc3 (fun _ _ e => e) (fun _ _ e => e)⟩
end Go.Proofs.YtboammbcoleicabGreat

namespace Go.Proofs.YtboammbcoleicabGreat
open Go.RowKit

theorem say_small {s : List Int} {P L : Nat} (h7 : L ≤ 7) : sayV s P L = numAt s P L := by
 unfold sayV;rw [if_neg (fun k => by have := k.1; omega)]
 simp
theorem pls_small : ∀ m, m < 18 → m ≠ 3 → ∃ P L : Nat, pls.getD m (0, 0) = ((P : Int), (L : Int)) ∧ P + L ≤ 128 ∧ 1 ≤ L ∧ L ≤ 7 := by
 intro m hm h3
 refine ⟨(pls.getD m (0, 0)).1.toNat, (pls.getD m (0, 0)).2.toNat, ?_⟩
 revert m
 decide
theorem same_at {s : List Int} (hs : IsSec s) {m : Nat} (hm : m < 18) (h3 : m ≠ 3) : gv s m = pv s m := by
 obtain ⟨P, L, e, h1, h2, h4⟩ := pls_small m hm h3;unfold gv pv;rw [e]
 show getV s (P : Int) (L : Int) = sayV s (P : Int) (L : Int)
 rw [getV_small hs h1 h2 h4, say_small h4]
theorem same_3 {s : List Int} (hs : IsSec s) : gv s 3 = pv s 3 ∨ (¬ (0 ≤ gv s 3 ∧ gv s 3 ≤ 1099511627776) ∧ ¬ (0 ≤ pv s 3 ∧ pv s 3 ≤ 1099511627776)) := by
 have eg : gv s 3 = if numAt s 8 8 ≤ top then numAt s 8 8 else -1 := by
  show getV s 8 8 = _
  unfold getV getE getN;rw [if_pos (show inB 8 8 = true by decide)]
  by_cases h : numAt s 8 8 ≤ top
  ·have h' : numAt s (8 : Int).toNat (8 : Int).toNat ≤ top := h
   rw [if_pos h', if_pos rfl, if_pos ⟨by decide, h'⟩, if_pos h]
   rfl
  ·have h' : ¬ numAt s (8 : Int).toNat (8 : Int).toNat ≤ top := h
   rw [if_neg h', if_neg (by decide), if_neg h]
 have ep : pv s 3 = if s.getD 15 0 ≠ 0 then -1 else numAt s 8 8 := by
  show sayV s 8 8 = _
  unfold sayV
  by_cases h : s.getD 15 0 ≠ 0
  ·rw [if_pos h, if_pos ⟨rfl, h⟩]
  ·rw [if_neg h, if_neg (fun k => h k.2)]
   rfl
 have hb7 := numAt_bd hs 8 7;have e8 : numAt s 8 8 = numAt s 8 7 + s.getD 15 0 * 256 ^ 7 := rfl
 have e7 : (256 : Int) ^ 7 = 72057594037927936 := by decide
 have h15 := hs.at 15;rw [e7] at e8 hb7
 by_cases h : s.getD 15 0 = 0
 ·left
  have ht : numAt s 8 8 ≤ top := by rw [top_eq, e8, h]; omega
  rw [eg, ep, if_pos ht, if_neg (show ¬ s.getD 15 0 ≠ 0 from fun k => k h)]
 ·right
  refine ⟨?_, ?_⟩
  ·rw [eg]
   split
   ·omega
   ·omega
  ·rw [ep, if_pos h]
   omega
theorem get_map18 (f : Nat → Int) {m : Nat} (hm : m < 18) : ((List.range 18).map f).getD m 0 = f m := by
 rw [List.getD_eq_getElem?_getD, List.getElem?_map, List.getElem?_range hm]
 rfl
theorem zTo_at (s : List Int) {m : Nat} (hm : m < 18) : (zTo s 18).getD m 0 = gv s m := by
 unfold zTo;rw [get_map18 _ hm, if_pos hm]
theorem yA_at (s : List Int) {m : Nat} (hm : m < 18) : (yA s).getD m 0 = pv s m := by
 unfold yA yTo;rw [get_map18 _ hm, if_pos (by omega)]
theorem yA_len (s : List Int) : (yA s).length = 18 := yTo_len s 12
theorem inoB_far {z : List Int} (h : ¬ (0 ≤ z.getD 3 0 ∧ z.getD 3 0 ≤ 1099511627776)) : inoB z = false := by
 unfold inoB
 split
 ·apply decide_eq_false
  intro e
  rw [e] at h
  exact h (by decide)
 ·rw [allB_false (m := 3) (by decide) h]
  rfl
theorem rd_same {s : List Int} (hs : IsSec s) : rdIno (yA s) s = rdIno (zTo s 18) s := by
 rcases same_3 hs with h | ⟨h1, h2⟩
 ·have e : yA s = zTo s 18 := by
   apply List.ext_getElem (by rw [yA_len, zTo_len])
   intro i k1 k2
   rw [yA_len] at k1;have a1 := yA_at s k1;have a2 := zTo_at s k1;rw [List.getD_eq_getElem?_getD, List.getElem?_eq_getElem (by rw [yA_len]; exact k1)] at a1;rw [List.getD_eq_getElem?_getD, List.getElem?_eq_getElem k2] at a2
   have a3 : gv s i = pv s i := by
    by_cases c : i = 3
    ·rw [c]; exact h
    ·exact same_at hs k1 c
   simp only [Option.getD_some] at a1 a2
   rw [a1, a2, a3]
  rw [e]
 ·have f1 : inoB (zTo s 18) = false := inoB_far (by rw [zTo_at s (by decide)]; exact h1)
  have f2 : inoB (yA s) = false := inoB_far (by rw [yA_at s (by decide)]; exact h2);unfold rdIno;rw [f1, f2]
  simp

end Go.Proofs.YtboammbcoleicabGreat

namespace Go.Proofs.YtboammbcoleicabGreat

structure InoFin (M : Nat) (im : Img) (i : Int) : Prop where
 rch : Rch M im i
 lnk : (zI im i).getD 1 0 = wantL M im i
 w1 : 1 ≤ wantL M im i
 w2 : wantL M im i ≤ 100
 dir : kd im i = 2 → wantL M im i = 1
 tl : tailP im (zI im i)
structure WellW (M : Nat) (im : Img) : Prop where
 ino : ∀ i : Int, 1 ≤ i → i ≤ M → (rdI im i).2 = 0
 ptr : ∀ k : Nat, k < M → kd im ((k : Int) + 1) ≠ 0 → Still im.length M im (zI im ((k : Int) + 1)) (clN M im k)
 root : kd im 1 = 2
 dir : ∀ i : Int, 1 ≤ i → i ≤ M → kd im i = 2 → DirOk M im i
 fin : ∀ i : Int, 1 ≤ i → i ≤ M → kd im i ≠ 0 → InoFin M im i
theorem well_iff {M : Nat} {im : Img} (hs : AllSec im) : WellW M im ↔ WellP M im := by
 have hst : ∀ (hp : ∀ k : Nat, k < M → kd im ((k : Int) + 1) ≠ 0 → Still im.length M im (zI im ((k : Int) + 1)) (clN M im k)) (i : Int), 1 ≤ i → i ≤ M → kd im i ≠ 0 → ∃ c0, Still im.length M im (zI im i) c0 := fun hp i h1 h2 hk => by
  obtain ⟨k, rfl⟩ : ∃ k : Nat, i = (k : Int) + 1 := ⟨(i - 1).toNat, by omega⟩
  exact ⟨_, hp k (by omega) hk⟩
 constructor
 ·intro h
  refine ⟨h.ino, h.root, h.ptr, fun i h1 h2 hk => (dirOk_iff.1 (h.dir i h1 h2 hk)).1, fun i h1 h2 hk => (dirOk_iff.1 (h.dir i h1 h2 hk)).2, fun i h1 h2 hk => (h.fin i h1 h2 hk).rch, fun i h1 h2 hk => ?_, fun i h1 h2 hk _ => ?_⟩
  ·have q := h.fin i h1 h2 hk
   exact ⟨q.lnk, q.w1, q.w2, q.dir⟩
  ·obtain ⟨c0, st⟩ := hst h.ptr i h1 h2 hk
   obtain ⟨_, _, a, b, _⟩ := kind_size (h.ino i h1 h2) hk
   exact (tail_iff (Int.natCast_nonneg M) rfl hs (zI_len im i) st a b).2 (h.fin i h1 h2 hk).tl
 ·intro h
  refine ⟨h.ino, h.ptr, h.root, fun i h1 h2 hk => dirOk_iff.2 ⟨h.slot i h1 h2 hk, h.names i h1 h2 hk⟩, fun i h1 h2 hk => ?_⟩;obtain ⟨a1, a2, a3, a4⟩ := h.links i h1 h2 hk;obtain ⟨c0, st⟩ := hst h.ptr i h1 h2 hk;obtain ⟨_, _, a, b, e, _⟩ := kind_size (h.ino i h1 h2) hk;refine ⟨h.reach i h1 h2 hk, a1, a2, a3, a4, ?_⟩
  by_cases e2 : kd im i = 2
  ·intro q
   exact absurd (e e2) q
  ·exact (tail_iff (Int.natCast_nonneg M) rfl hs (zI_len im i) st a b).1 (h.tail i h1 h2 hk e2)
end Go.Proofs.YtboammbcoleicabGreat

namespace Go.Proofs.YtboammbcoleicabGreat
open Go.RowKit Go.Shelf

theorem infoSlt : ∃ i, Tryz.prog.info? 102 = some i ∧ i.zero = some (.agg #[.int .i64 0, .string ⟨#[]⟩]) ∧ i.size = 2 ∧ i.bytes = 24 := by
 have h : (Tryz.prog.info? 102).map (fun i => (i.zero, i.size, i.bytes)) = some (some (.agg #[.int .i64 0, .string ⟨#[]⟩]), 2, 24) := by kernel_rfl
 cases hq : Tryz.prog.info? 102 with
 | none => rw [hq] at h; cases h
 | some i =>
  rw [hq] at h
  simp at h
  exact ⟨i, rfl, h.1, h.2.1, h.2.2⟩
def cellsSl (l : List (Int × ByteArray)) : List Value := l.flatMap fun y => [.int .i64 y.1, .string y.2]
theorem cellsSl_append (l m : List (Int × ByteArray)) : cellsSl (l ++ m) = cellsSl l ++ cellsSl m := by simp [cellsSl]
theorem cellsSl_get (l : List (Int × ByteArray)) : ∀ k : Nat, (cellsSl l)[2 * k]? = l[k]?.map (fun y => Value.int .i64 y.1) ∧ (cellsSl l)[2 * k + 1]? = l[k]?.map (fun y => Value.string y.2) := by
 induction l with
 | nil => intro k; simp [cellsSl]
 | cons x l ih =>
  intro k
  have e : cellsSl (x :: l) = .int .i64 x.1 :: .string x.2 :: cellsSl l := rfl
  cases k with
  | zero => simp [e]
  | succ k =>
   have := ih k;rw [e, show 2 * (k + 1) = 2 * k + 1 + 1 by omega, show 2 * k + 1 + 1 + 1 = (2 * k + 1) + 1 + 1 by omega]
   simp only [List.getElem?_cons_succ]
   exact this
def SlOwn (w : World) (B : Nat) (v : Value) (l : List (Int × ByteArray)) : Prop := w.ownsRow B 102 2 v l.length (cellsSl l)
theorem SlOwn.blk {w : World} {B : Nat} {v : Value} {l : List (Int × ByteArray)} (h : SlOwn w B v l) {k : Nat} (e : v.ownBlock = some k) : B ≤ k ∧ ∃ A, w.heap[k]? = some (.cells A 102 (0, 0)) := by
 rcases h.2 with ⟨rfl, _⟩ | ⟨g, cap, cur, rfl, hb, hg, _⟩
 ·cases e
 ·have : g = k := by simpa [Value.ownBlock] using e
  subst this
  exact ⟨hb, cur, hg⟩
theorem SlOwn.keep {w w' : World} {B : Nat} {v : Value} {l : List (Int × ByteArray)} {ks : Nat → Prop} (h : SlOwn w B v l) (hc : Chg w w' ks) (hn : ∀ k, v.ownBlock = some k → ¬ ks k) : SlOwn w' B v l := by
 refine ⟨h.1, ?_⟩
 rcases h.2 with k | ⟨g, cap, cur, rfl, hb, hg, r⟩
 ·exact .inl k
 ·exact .inr ⟨g, cap, cur, rfl, hb, hc.keep hg (hn g rfl), r⟩
def SlAt (w : World) (a : Option Addr) (l : List (Int × ByteArray)) : Prop := l = [] ∨ ∃ g, a = some ⟨g, 0, none⟩ ∧ (∃ A, w.heap[g]? = some (.cells A 102 (0, 0))) ∧ ∀ (k : Nat) x, l[k]? = some x → w.cell? ⟨g, k * 2, none⟩ = some (.int .i64 x.1) ∧ w.cell? ⟨g, k * 2 + 1, none⟩ = some (.string x.2)
theorem SlAt.keep {w w' : World} {a : Option Addr} {l : List (Int × ByteArray)} {ks : Nat → Prop} (h : SlAt w a l) (hc : Chg w w' ks) (hn : ∀ k A, w.heap[k]? = some (.cells A 102 (0, 0)) → ¬ ks k) : SlAt w' a l := by
 rcases h with h | ⟨g, rfl, ⟨A, hg⟩, h⟩
 ·exact .inl h
 ·exact .inr ⟨g, rfl, ⟨A, hc.keep hg (hn g A hg)⟩, fun k x hk => ⟨cell_keep (h k x hk).1 hc (slt hg) (hn g A hg), cell_keep (h k x hk).2 hc (slt hg) (hn g A hg)⟩⟩
theorem slAt_of {w : World} {B : Nat} {v : Value} {l : List (Int × ByteArray)} (h : SlOwn w B v l) : ∃ a c, v = .slice a l.length c ∧ SlAt w a l := by
 unfold SlOwn at h;obtain ⟨a, c, rfl⟩ := row_shapeP h;refine ⟨a, c, rfl, ?_⟩
 rcases Nat.eq_zero_or_pos l.length with h0 | h0
 ·exact .inl (List.eq_nil_of_length_eq_zero h0)
 ·rcases h.2 with ⟨e, _⟩ | ⟨g, cap, cur, e, hb, hg, r⟩
  ·injection e; omega
  ·cases e
   refine .inr ⟨g, rfl, ⟨cur, hg⟩, fun k x hk => ?_⟩
   have hadd : ∀ k, (⟨g, 0, none⟩ : Addr).add k = ⟨g, k, none⟩ := fun k => by unfold Addr.add; split <;> simp_all
   have c0 := World.ownsRow.cells h (g := g) rfl (2 * k) (.int .i64 x.1) (by rw [(cellsSl_get l k).1, hk]; rfl);have c1 := World.ownsRow.cells h (g := g) rfl (2 * k + 1) (.string x.2) (by rw [(cellsSl_get l k).2, hk]; rfl);rw [hadd] at c0 c1;rw [Nat.mul_comm k 2]
   exact ⟨c0, c1⟩
section
variable {ops : Array Oper} {rest : List Oper} {o : Oper} {a : Act} {Q : Exit → Act → World → Prop} {w : World}
theorem wp_appSl (hg : o.guard = none) (s x : Operand) (hop : o.op = .call { callee := .builtin .append, args := #[s, x], argTypes := #[98, 98] }) (B g c : Nat) (v : Value) (l : List (Int × ByteArray)) (y : Int × ByteArray) (hs : a.eval s = v) (hx : a.eval x = .slice (some ⟨g, 0, none⟩) 1 c)
  (hown : SlOwn w B v l) (hat : w.cell? ⟨g, 0, none⟩ = some (.int .i64 y.1)) (hat1 : w.cell? ⟨g, 1, none⟩ = some (.string y.2)) (hl : l.length ≤ 1000000) (hB : B ≤ w.heap.size)
  (hK : ∀ v' w', SlOwn w' B v' (l ++ [y]) → Chg w w' (fun k => v.ownBlock = some k) → wpList Tryz.prog ops Q rest (a.put o.dst v') w') : wpList Tryz.prog ops Q (o :: rest) a w := by
 obtain ⟨i, hi, hz, hsz, hby⟩ := infoSlt;refine wpList_append_own_at w hg s x 98 hop B 102 i _ 2 24 Tryz.underlying98 hi hz hsz hby rfl (by decide) v l.length (cellsSl l) hs hown ⟨g, 0, none⟩ 1 c [.int .i64 y.1, .string y.2] hx rfl (fun j u hj => ?_) (by simp [Value.oneCell']) (by unfold maxLen; omega) (by omega) hB ?_
 ·match j, hj with
  | 0, hj => simp at hj; subst hj; exact hat
  | 1, hj => simp at hj; subst hj; exact hat1
  | j + 2, hj => simp at hj
 ·intro v' w' h1 h2 _ _
  refine hK v' w' ?_ ((Chg.grown h2).mono fun j _ e => e.symm);unfold SlOwn;rw [cellsSl_append, List.length_append]
  exact h1
end
theorem rslot_c (s : List Int) (hs : IsSec s) (w : World) : Calls Tryz.prog 63 #[.agg (SA s)] w fun e w' => e = .returned (.tuple #[.agg #[.int .i64 (slotOf s).1, .string (slotOf s).2.1], .int .i64 (slotOf s).2.2]) ∧ Chg w w' No := by
 refine (rreadSlot_any s hs w).mono ?_
 rintro e w' ⟨rfl, hb⟩
 exact ⟨rfl, Chg.of_below hb No⟩
theorem rinode_c (s : List Int) (hs : IsSec s) (w : World) : Calls Tryz.prog 21 #[.agg (SA s)] w fun e w' => e = .returned (.tuple #[.agg (NA (rdIno (zTo s 18) s).1), .int .i64 (rdIno (zTo s 18) s).2]) ∧ Chg w w' No := by
 refine (rreadInode_any s hs w).mono ?_
 rintro e w' ⟨rfl, hb⟩
 rw [rd_same hs]
 exact ⟨rfl, Chg.of_below hb No⟩
end Go.Proofs.YtboammbcoleicabGreat

namespace Go.Proofs.YtboammbcoleicabGreat
open Go.RowKit Go.Shelf

theorem blk_any {c : SC} {sn : Int → Bool} (z : List Int) (hz : z.length = 18) (hB : BlkOk c z) (k : Nat) (hk : k < 1068) (w : World) (h : IsS w c sn) :
  Calls Tryz.prog 43 #[.pointer (some ⟨c.p, 0, none⟩), .agg (NA z), .int .i64 k] w fun e w' => e = .returned (.int .i64 (blkP c.im z k)) ∧ Chg w w' No := by
 by_cases e : k < 44
 ·exact block_low z hz hB k e w h
 ·exact block_high z hz hB k (by omega) hk w h
structure InoOk (c : SC) (z : List Int) : Prop where
 len : z.length = 18
 blk : BlkOk c z
 s0 : 0 ≤ z.getD 2 0
 s1 : z.getD 2 0 ≤ 136704
 dat : ∀ k, k < 1068 → blkP c.im z k ≠ 0 → 0 ≤ blkP c.im z k ∧ blkP c.im z k < c.N
def SlPost (im : Img) (L : List Int) (w : World) (e : Ending) (w' : World) : Prop :=
 Chg w w' No ∧ (((∀ x ∈ L, errAt im x = 0) ∧ ∃ v, e = .returned (.tuple #[v, .bool true]) ∧ SlOwn w' w.heap.size v (liveL im L)) ∨ ((∃ x ∈ L, errAt im x ≠ 0) ∧ e = .returned (.tuple #[.slice none 0 0, .bool false])))
structure SW (w0 w : World) (c : SC) (sn : Int → Bool) (g : Nat) (z : List Int) : Prop where
 s : IsS w c sn
 g : w.heap[g]? = some (.cells (NA z) 66 (0, 0))
 ch : Chg w0 w No
theorem SW.step {w0 w w' : World} {c : SC} {sn : Int → Bool} {g : Nat} {z : List Int} (h : SW w0 w c sn g z) (hc : Chg w w' No) : SW w0 w' c sn g z :=
 ⟨h.s.call hc, hc.keep h.g (fun e => e), h.ch.trans hc (fun _ _ e => e) (fun _ _ e => e)⟩
theorem SlOwn.step {w w' : World} {B : Nat} {v : Value} {l : List (Int × ByteArray)} (h : SlOwn w B v l) (hc : Chg w w' No) : SlOwn w' B v l := h.keep hc fun _ _ e => e
theorem grow_no {w0 w w' : World} {v : Value} {l : List (Int × ByteArray)} (h : SlOwn w w0.heap.size v l) (hc0 : Chg w0 w No) (hc : Chg w w' (fun k => v.ownBlock = some k)) : Chg w0 w' No :=
 hc0.trans hc (fun _ _ e => e) (fun j hj e => by have := (h.blk e).1; omega)

set_option maxHeartbeats 2000000 in
set_option maxRecDepth 100000 in
theorem slots_any {c : SC} {sn : Int → Bool} (z : List Int) (hz : InoOk c z) (w : World) (h : IsS w c sn) :
  Calls Tryz.prog 42 #[.pointer (some ⟨c.p, 0, none⟩), .agg (NA z)] w fun e w' => SlPost c.im (slB c.im z (cntZ z).toNat) w e w' := by
 obtain ⟨K, hK⟩ : ∃ K : Nat, (K : Int) = cntZ z := ⟨(cntZ z).toNat, by have := hz.s0; unfold cntZ; omega⟩
 have hK2 : K ≤ 1068 := by have := hz.s1; unfold cntZ at hK; omega
 have HKn : Hid ((cntZ z).toNat = K) := hid (by omega)
 have hCN : ∀ W, Calls Tryz.prog 38 #[.agg (NA z)] W fun e w' => e = .returned (.int .i64 (K : Int)) ∧ Chg W w' No := fun W => by
  rw [hK]
  exact rcount_any z hz.len hz.s0 (by have := hz.s1; omega) W
 rw [HKn.out];have hA := Chg.alloc w (.cells (NA z) 66) No;have hg := heap_alloc_new w (.cells (NA z) 66);have HZ := hid hz;have HL : Hid (z.length = 18) := hid hz.len;have HW0 : Hid (SW w (w.alloc (.cells (NA z) 66)) c sn w.heap.size z) := hid ⟨h.call hA, hg, hA⟩;obtain ⟨g, hgd⟩ : ∃ x, x = w.heap.size := ⟨_, rfl⟩;have HCN := hid hCN;have H0 := hid h;have HK := hid hK;clear hA hg h hz hCN hK HKn
 go_enter Tryz.func42, Tryz.ntmps42
 go_wp2_with fail
 rw [← hgd] at HW0 ⊢;have HGd := hid hgd;clear hgd
 go_loopw [6, 7] (fun x6 x7 wr => ∃ (k : Nat) (vv : Value), vv = x6 ∧ k ≤ K ∧ x7 = .int .i64 k ∧ Hid (∀ x ∈ slB c.im z k, errAt c.im x = 0) ∧ Hid (SlOwn wr w.heap.size vv (liveL c.im (slB c.im z k))) ∧ Hid (SW w wr c sn g z)) (fun _ x7 _ => K - (intOf x7).toNat)
 case atStart => exact ⟨0, _, rfl, by omega, rfl, hid (fun x hx => by cases hx), hid (World.ownsRow_nil _ _ _ _), HW0⟩
 case round =>
  obtain ⟨k, vv, rfl, hk, rfl, HE, HO, HS⟩ := hrel;clear HW0;have HC := hid (HCN.out wr);have HG := hid HS.out.g
  by_cases hlt : k < K
  ·have i0 : (0 : Int) ≤ (k : Int) := by omega
   have i1 : (k : Int) < (K : Int) := by omega
   have HSu := hid (slB_succ c.im z k);obtain ⟨y, hy⟩ : ∃ y, y = blkP c.im z k := ⟨_, rfl⟩;have hdat := HZ.out.dat k (by omega);rw [← hy] at hdat HSu
   have HBk : Hid (∀ W, IsS W c sn → Calls Tryz.prog 43 #[.pointer (some ⟨c.p, 0, none⟩), .agg (NA z), .int .i64 k] W fun e w' => e = .returned (.int .i64 y) ∧ Chg W w' No) := hid (by
    rw [hy]
    exact fun W hW => blk_any z HZ.out.len HZ.out.blk k (by omega) W hW)
   have HMm : Hid (y ≠ 0 → y ∈ slB c.im z K) := hid (by rw [hy]; exact slB_mem c.im z hlt);clear hy
   by_cases hy0 : y = 0
   ·subst hy0
    rw [if_pos rfl, List.append_nil] at HSu;clear hdat
    go_wp2_with (first
     | (go_at_call 38; go_must (refine HC.out.mono ?_; rintro e w1 ⟨rfl, hc1⟩; have HS1 := hid (HS.out.step hc1); have HG1 := hid HS1.out.g))
     | (go_at_call 43; go_must (refine (HBk.out w1 HS1.out.s).mono ?_; rintro e w2 ⟨rfl, hc2⟩))
     | (refine load_R rfl 66 _ rfl g rfl 66 _ _ HG1.out Tryz.underlying66 rfl (by rw [szI, NA_size, HL.out]) ?_)
     | (refine load_R rfl 66 _ rfl g rfl 66 _ _ HG.out Tryz.underlying66 rfl (by rw [szI, NA_size, HL.out]) ?_)
     | fail)
    exact ⟨⟨k + 1, vv, rfl, by omega, by go_num, by rw [HSu.out]; exact HE, by rw [HSu.out]; exact hid ((HO.out.step hc1).step hc2), hid (HS1.out.step hc2)⟩, by simp [intOf]; omega⟩
   ·rw [if_neg hy0] at HSu
    obtain ⟨m, rfl, hm⟩ : ∃ m : Nat, y = (m : Int) ∧ m < c.N := ⟨y.toNat, by have := hdat hy0; omega, by have := hdat hy0; omega⟩
    have hyb : ((m : Int) == 0) = false := by simpa using hy0
    have m0 : (0 : Int) ≤ (m : Int) := by omega
    have m1 : (m : Int) < (c.N : Int) := by omega
    obtain ⟨b, o, hc2', hr⟩ := img_sec HS.out.s hm;obtain ⟨sk, hsk⟩ : ∃ x, x = secI c.im (m : Int) := ⟨_, rfl⟩;have HSk : Hid (IsSec sk) := hid (by rw [hsk]; exact HS.out.s.ci.secI _);rw [← hsk] at hr;have HIm := hid hc2';have HRg := hid hr;obtain ⟨so, hso⟩ : ∃ x, x = slotOf sk := ⟨_, rfl⟩
    have HRS : Hid (∀ W, Calls Tryz.prog 63 #[.agg (SA sk)] W fun e w' => e = .returned (.tuple #[.agg #[.int .i64 so.1, .string so.2.1], .int .i64 so.2.2]) ∧ Chg W w' No) := hid (by
     rw [hso]
     exact fun W => rslot_c sk HSk.out W)
    have HEr : Hid (errAt c.im (m : Int) = so.2.2) := hid (by unfold errAt; rw [hso, hsk]);have HIn : Hid (inoAt c.im (m : Int) = so.1) := hid (by unfold inoAt; rw [hso, hsk]);have HNm : Hid (nameAt c.im (m : Int) = so.2.1) := hid (by unfold nameAt; rw [hso, hsk]);clear hsk hso hdat hc2' hr;obtain ⟨i, nm, er⟩ := so
    simp only at HRS HEr HIn HNm
    go_upto_region 7 with (first
     | (go_at_call 38; go_must (refine HC.out.mono ?_; rintro e w1 ⟨rfl, hc1⟩; have HS1 := hid (HS.out.step hc1); have HG1 := hid HS1.out.g))
     | (go_at_call 43; go_must (refine (HBk.out w1 HS1.out.s).mono ?_; rintro e w2 ⟨rfl, hc2⟩))
     | (refine load_R rfl 66 _ rfl g rfl 66 _ _ HG1.out Tryz.underlying66 rfl (by rw [szI, NA_size, HL.out]) ?_)
     | (refine load_R rfl 66 _ rfl g rfl 66 _ _ HG.out Tryz.underlying66 rfl (by rw [szI, NA_size, HL.out]) ?_)
     | fail)
    have HC2 : Hid (Chg wr w2 No) := hid (hc1.trans hc2 (fun _ _ e => e) (fun _ _ e => e));have HS2 := hid (HS1.out.step hc2);have c2 := HIm.out w2 HC2.out;have HR2 := hid (HRg.out w2 HC2.out);have HO2 := hid (HO.out.step HC2.out);clear hc1 hc2 HS1 HG1 HG HC HBk HO HS HIm HRg
    by_cases her : er = 0
    ·subst her
     by_cases hi : i = 0
     ·subst hi
      go_wp2_with (first
       | (refine load_mid 46 _ rfl b (o + m * 128) rfl _ _ HR2.out Tryz.underlying46 rfl (by rw [sz26, List.length_map, HSk.out.1]) (by rfl) ?_)
       | (go_at_call 63; go_must (refine (HRS.out w2).mono ?_; rintro e w3 ⟨rfl, hc3⟩))
       | fail)
      have hc4 : Chg w2 (w3.alloc (.cells #[.int .i64 0, .string nm] 102)) No := hc3.trans (Chg.alloc _ _ No) (fun _ _ e => e) (fun _ _ e => e);refine ⟨⟨k + 1, vv, rfl, by omega, by go_num, hid ?_, hid ?_, hid (HS2.out.step hc4)⟩, by simp [intOf]; omega⟩
      ·rw [HSu.out]
       intro x hx
       rcases List.mem_append.1 hx with q | q
       ·exact HE.out x q
       ·rw [List.mem_singleton.1 q, HEr.out]
      ·rw [HSu.out, liveL_app, liveL_one, if_pos HIn.out, List.append_nil]
       exact HO2.out.step hc4
     ·have hib : (i == 0) = false := by simpa using hi
      go_upto_region 11 with (first
       | (refine load_mid 46 _ rfl b (o + m * 128) rfl _ _ HR2.out Tryz.underlying46 rfl (by rw [sz26, List.length_map, HSk.out.1]) (by rfl) ?_)
       | (go_at_call 63; go_must (refine (HRS.out w2).mono ?_; rintro e w3 ⟨rfl, hc3⟩))
       | fail)
      obtain ⟨w4, hw4⟩ : ∃ x, x = w3.alloc (.cells #[.int .i64 i, .string nm] 102) := ⟨_, rfl⟩
      have hc4 : Chg w2 w4 No := by rw [hw4]; exact hc3.trans (Chg.alloc _ _ No) (fun _ _ e => e) (fun _ _ e => e)
      have hb4 : w4.heap[w3.heap.size]? = some (.cells #[.int .i64 i, .string nm] 102 (0, 0)) := by rw [hw4]; exact heap_alloc_new _ _
      obtain ⟨g4, hg4⟩ : ∃ x, x = w3.heap.size := ⟨_, rfl⟩;rw [← hw4, ← hg4];rw [← hg4] at hb4;have q0 : w4.cell? ⟨g4, 0, none⟩ = some (.int .i64 i) := (cell_of_row _ _ _ _ _ _ hb4).trans rfl;have q1 : w4.cell? ⟨g4, 1, none⟩ = some (.string nm) := (cell_of_row _ _ _ _ _ _ hb4).trans rfl;clear hw4 hg4 hc3 hb4;have e0 : (w4.alloc (.cells #[.int .i64 i, .string nm] 102)).cell? ⟨w4.heap.size, 0, none⟩ = some (.int .i64 i) := (cell_of_row _ _ _ _ _ _ (heap_alloc_new w4 _)).trans rfl;have e1 : (w4.alloc (.cells #[.int .i64 i, .string nm] 102)).cell? ⟨w4.heap.size, 1, none⟩ = some (.string nm) := (cell_of_row _ _ _ _ _ _ (heap_alloc_new w4 _)).trans rfl;have HC5 : Hid (Chg w2 (w4.alloc (.cells #[.int .i64 i, .string nm] 102)) No) := hid (hc4.trans (Chg.alloc _ _ No) (fun _ _ e => e) (fun _ _ e => e));have HO5 := hid (HO2.out.step HC5.out);have HB5 : Hid (w.heap.size ≤ (w4.alloc (.cells #[.int .i64 i, .string nm] 102)).heap.size) := hid (Nat.le_trans HS2.out.ch.size HC5.out.size);have HT : Hid ((liveL c.im (slB c.im z k)).length ≤ 1000000) := hid (by have := liveL_len c.im (slB c.im z k); have := slB_len c.im z k; omega);clear hc4
      go_wp2_with (first
       | (at_builtin; go_must (refine wp_appSl rfl _ _ rfl w.heap.size w4.heap.size 1 vv _ (i, nm) rfl rfl HO5.out e0 e1 HT.out HB5.out ?_; intro v' w7 hO7 hc7))
       | fail)
      have hS5 := HS2.out.step HC5.out
      have hn : ∀ {x : Obj} {j : Nat}, (w4.alloc (.cells #[.int .i64 i, .string nm] 102)).heap[j]? = some x → (∀ A, x ≠ .cells A 102 (0, 0)) → ¬ vv.ownBlock = some j := fun {x j} hj hx e => by
       obtain ⟨_, A, hA⟩ := HO5.out.blk e;rw [hj] at hA
       exact hx A (Option.some.inj hA)
      refine ⟨⟨k + 1, v', rfl, by omega, by go_num, hid ?_, hid ?_, hid ?_⟩, by simp [intOf]; omega⟩
      ·rw [HSu.out]
       intro x hx
       rcases List.mem_append.1 hx with q | q
       ·exact HE.out x q
       ·rw [List.mem_singleton.1 q, HEr.out]
      ·rw [HSu.out, liveL_app, liveL_one, HIn.out, HNm.out, if_neg hi]
       exact hO7
      ·have hch := grow_no HO5.out hS5.ch hc7
       exact ⟨H0.out.call hch, hc7.keep hS5.g (hn hS5.g fun A e => (by cases e)), hch⟩
    ·have herb : (er == 0) = false := by simpa using her
     go_wp2_with (first
      | (refine load_mid 46 _ rfl b (o + m * 128) rfl _ _ HR2.out Tryz.underlying46 rfl (by rw [sz26, List.length_map, HSk.out.1]) (by rfl) ?_)
      | (go_at_call 63; go_must (refine (HRS.out w2).mono ?_; rintro e w3 ⟨rfl, hc3⟩))
      | fail)
     go_ret2
     refine ⟨HS2.out.ch.trans (hc3.trans (Chg.alloc _ _ No) (c := No) (fun _ _ e => e) (fun _ _ e => e)) (fun _ _ e => e) (fun _ _ e => e), .inr ⟨⟨(m : Int), HMm.out hy0, ?_⟩, rfl⟩⟩;rw [HEr.out]
     exact her
  ·have i1 : ¬ (k : Int) < (K : Int) := by omega
   obtain rfl : k = K := by omega
   go_wp2_with (first
    | (go_at_call 38; go_must (refine HC.out.mono ?_; rintro e w1 ⟨rfl, hc1⟩))
    | (refine load_R rfl 66 _ rfl g rfl 66 _ _ HG.out Tryz.underlying66 rfl (by rw [szI, NA_size, HL.out]) ?_)
    | fail)
   go_ret2
   exact ⟨HS.out.ch.trans hc1 (fun _ _ e => e) (fun _ _ e => e), .inl ⟨HE.out, vv, rfl, HO.out.step hc1⟩⟩
end Go.Proofs.YtboammbcoleicabGreat
