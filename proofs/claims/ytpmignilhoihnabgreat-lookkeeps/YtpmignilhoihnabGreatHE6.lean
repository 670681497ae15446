/-
 A well-formed image, as it is looked through.
-/
import Derived.Test.YtpmignilhoihnabGreatHE4
namespace Go.Proofs.YtpmignilhoihnabGreat

theorem wip_iff {s : List Int} (hs : IsSec s) (f : Int) : wip s f = s ↔ ∀ k : Nat, f ≤ (k : Int) → k < 128 → s.getD k 0 = 0 := by
 constructor
 ·intro h k hk _
  have := wip_get s f hs.1 k;rw [h, if_pos hk] at this
  exact this
 ·intro h
  refine ext_getZ (by rw [wip_len s f hs.1, hs.1]) fun n hn => ?_
  rw [wip_len s f hs.1] at hn;rw [wip_get s f hs.1 n]
  split
  ·rename_i c
   exact (h n c hn).symm
  ·rfl

theorem rowS_step {st : StepF} {t : List Int} {f each : Int} {sn : Int → Bool} : ∀ {k : Nat} {s : Int → Bool}, rowS st t f each sn k = some s → ∀ j, j < k → t.getD j 0 ≠ 0 → ∃ s1 s2, st (f + each * j) (t.getD j 0) s1 = some s2
 | 0, _, _, j, hj, _ => by omega
 | k + 1, s, e, j, hj, h0 => by
  rw [rowS] at e;obtain ⟨s1, e1, e2⟩ := Option.bind_eq_some_iff.1 e
  by_cases ej : j = k
  ·subst ej
   rw [if_neg h0] at e2
   exact ⟨s1, s, e2⟩
  ·exact rowS_step e1 j (by omega) h0
theorem tableS_data {N M cnt each f p : Int} {im : Img} {st : StepF} {s s' : Int → Bool} (h : tableS N M cnt each im st f p s = some s') : (M < p ∧ p < N) ∧ rowS st (ptrsTo (secI im p) 32) f each (putC s p) 32 = some s' := by
 unfold tableS at h
 split at h
 ·rename_i hc
  rw [Bool.and_eq_true] at hc;refine ⟨(claimB_of.1 hc.2).2, ?_⟩
  split at h
  ·exact h
  ·cases h
 ·cases h
theorem still_tabs {N M : Int} {im : Img} (hM : 0 ≤ M) (hN : im.length = N) (hs : AllSec im) {z : List Int} (hz : z.length = 18) {c0 : Int → Bool} (h : Still N M im z c0) :
  (z.getD 16 0 ≠ 0 → M < z.getD 16 0 ∧ z.getD 16 0 < N) ∧ (z.getD 17 0 ≠ 0 → M < z.getD 17 0 ∧ z.getD 17 0 < N) ∧
  (z.getD 17 0 ≠ 0 → ∀ a, a < 32 → (ptrsTo (secI im (z.getD 17 0)) 32).getD a 0 ≠ 0 → M < (ptrsTo (secI im (z.getD 17 0)) 32).getD a 0 ∧ (ptrsTo (secI im (z.getD 17 0)) 32).getD a 0 < N) := by
 have hp := (ptrsW_iff hM hN hs hz c0 _).2 ⟨h, rfl⟩;unfold ptrsW at hp;obtain ⟨s1, _, e2⟩ := Option.bind_eq_some_iff.1 hp;obtain ⟨s2, e3, e4⟩ := Option.bind_eq_some_iff.1 e2;unfold stepZ at e3 e4;refine ⟨fun h0 => ?_, fun h0 => ?_, fun h0 a ha hn => ?_⟩
 ·rw [if_neg h0] at e3
  exact (tableS_data e3).1
 ·rw [if_neg h0] at e4
  exact (tableS_data e4).1
 ·rw [if_neg h0] at e4
  obtain ⟨t1, t2, e5⟩ := rowS_step (tableS_data e4).2 a ha hn
  exact (tableS_data e5).1
theorem still_data {N M : Int} {im : Img} (hM : 0 ≤ M) (hN : im.length = N) (hs : AllSec im) {z : List Int} (hz : z.length = 18) {c0 : Int → Bool} (h : Still N M im z c0) (k : Nat) (hk : k < 1068) (h0 : blkP im z k ≠ 0) : M < blkP im z k ∧ blkP im z k < N := by
 have hok := dblT_ok N M z im c0;unfold SpOk at hok;rw [still_sp hM hN hs hz h, sp_blocks im hz] at hok
 exact hok (((k : Nat) : Int), blkP im z k) (List.mem_flatMap.2 ⟨k, List.mem_range.2 hk, by unfold entB; rw [if_neg h0]; exact List.mem_singleton.2 rfl⟩)
theorem kind_size {im : Img} {i : Int} (h : (rdI im i).2 = 0) (hk : kd im i ≠ 0) : 0 ≤ kd im i ∧ kd im i ≤ 2 ∧ 0 ≤ (zI im i).getD 2 0 ∧ (zI im i).getD 2 0 ≤ 136704 ∧ (kd im i = 2 → (zI im i).getD 2 0 % 128 = 0) ∧ 0 ≤ (zI im i).getD 1 0 ∧ (zI im i).getD 1 0 ≤ 100 := by
 unfold kd zI rdI at *;unfold rdIno at *
 split at h
 ·rename_i hb
  rw [if_pos hb] at hk ⊢;have hb := hb.1;unfold inoB at hb;rw [if_neg hk, Bool.and_eq_true] at hb;have a0 := allB_of hb.1 0 (by omega);have a1 := allB_of hb.1 1 (by omega);have a2 := allB_of hb.1 2 (by omega);refine ⟨a0.1, a0.2, a2.1, a2.2, fun e => ?_, a1.1, a1.2⟩;have hb2 := hb.2;rw [e] at hb2
  simpa using hb2
 ·cases h
def slB (im : Img) (z : List Int) (k : Nat) : List Int := ((List.range k).flatMap (entB im z)).map Prod.snd
theorem slB_zero (im : Img) (z : List Int) : slB im z 0 = [] := rfl
theorem slB_succ (im : Img) (z : List Int) (k : Nat) : slB im z (k + 1) = slB im z k ++ (if blkP im z k = 0 then [] else [blkP im z k]) := by
 unfold slB;rw [List.range_succ, List.flatMap_append, List.map_append]
 congr 1
 simp only [List.flatMap_cons, List.flatMap_nil, List.append_nil]
 unfold entB
 split <;> rfl
theorem slB_len (im : Img) (z : List Int) : ∀ k, (slB im z k).length ≤ k
 | 0 => by rw [slB_zero]; exact Nat.le_refl _
 | k + 1 => by
  have := slB_len im z k;rw [slB_succ, List.length_append]
  split <;> simp <;> omega
theorem slB_mem (im : Img) (z : List Int) {k K : Nat} (hk : k < K) (h0 : blkP im z k ≠ 0) : blkP im z k ∈ slB im z K := by
 unfold slB;refine List.mem_map.2 ⟨((k : Int), blkP im z k), List.mem_flatMap.2 ⟨k, List.mem_range.2 hk, ?_⟩, rfl⟩;unfold entB;rw [if_neg h0]
 exact List.mem_singleton.2 rfl
def nameAt (im : Img) (x : Int) : ByteArray := (slotOf (secI im x)).2.1
def errAt (im : Img) (x : Int) : Int := (slotOf (secI im x)).2.2
def liveB (im : Img) (x : Int) : Bool := decide (inoAt im x ≠ 0)
def liveL (im : Img) (l : List Int) : List (Int × ByteArray) := (l.filter (liveB im)).map fun x => (inoAt im x, nameAt im x)
theorem liveL_app (im : Img) (a b : List Int) : liveL im (a ++ b) = liveL im a ++ liveL im b := by simp [liveL]
theorem liveL_one (im : Img) (x : Int) : liveL im [x] = if inoAt im x = 0 then [] else [(inoAt im x, nameAt im x)] := by
 unfold liveL
 by_cases e : inoAt im x = 0 <;> simp [liveB, e]
theorem liveL_len (im : Img) (l : List Int) : (liveL im l).length ≤ l.length := by
 unfold liveL;rw [List.length_map]
 exact List.length_filter_le _ _
theorem still_slots {N M : Int} {im : Img} (hM : 0 ≤ M) (hN : im.length = N) (hs : AllSec im) {i : Int} {c0 : Int → Bool} (h : Still N M im (zI im i) c0) {K : Nat} (hK : (K : Int) = cntZ (zI im i)) (hK2 : K ≤ 1068) : slotsI im i = slB im (zI im i) K := by
 unfold slotsI slB;rw [still_blocks hM hN hs (zI_len im i) h hK hK2]
theorem liveL_mem {im : Img} {l : List Int} {y : Int × ByteArray} (h : y ∈ liveL im l) : ∃ x ∈ l, inoAt im x = y.1 ∧ y.1 ≠ 0 := by
 unfold liveL at h;obtain ⟨x, hx, rfl⟩ := List.mem_map.1 h;obtain ⟨h1, h2⟩ := List.mem_filter.1 hx
 exact ⟨x, h1, rfl, by simpa [liveB] using h2⟩
structure DirOk (M : Nat) (im : Img) (i : Int) : Prop where
 err : ∀ x ∈ slotsI im i, errAt im x = 0
 ino : ∀ y ∈ liveL im (slotsI im i), 2 ≤ y.1 ∧ y.1 ≤ M ∧ kd im y.1 ≠ 0
 nam : (liveL im (slotsI im i)).Pairwise fun a b => a.2.data ≠ b.2.data
theorem dirOk_iff {M : Nat} {im : Img} {i : Int} : DirOk M im i ↔ (∀ x ∈ slotsI im i, (slotOf (secI im x)).2.2 = 0 ∧ (inoAt im x ≠ 0 → 2 ≤ inoAt im x ∧ inoAt im x ≤ M ∧ kd im (inoAt im x) ≠ 0)) ∧
  (slotsI im i).Pairwise fun x y => inoAt im x ≠ 0 → inoAt im y ≠ 0 → (slotOf (secI im x)).2.1.data ≠ (slotOf (secI im y)).2.1.data := by
 have hp : (liveL im (slotsI im i)).Pairwise (fun a b => a.2.data ≠ b.2.data) ↔ (slotsI im i).Pairwise fun x y => inoAt im x ≠ 0 → inoAt im y ≠ 0 → (slotOf (secI im x)).2.1.data ≠ (slotOf (secI im y)).2.1.data := by
  unfold liveL;rw [List.pairwise_map, List.pairwise_filter]
  simp only [liveB, decide_eq_true_eq]
  rfl
 constructor
 ·intro h
  refine ⟨fun x hx => ⟨h.err x hx, fun h0 => ?_⟩, hp.1 h.nam⟩
  exact h.ino (inoAt im x, nameAt im x) (List.mem_map.2 ⟨x, List.mem_filter.2 ⟨hx, by simpa [liveB] using h0⟩, rfl⟩)
 ·rintro ⟨h1, h2⟩
  refine ⟨fun x hx => (h1 x hx).1, fun y hy => ?_, hp.2 h2⟩;obtain ⟨x, hx, e, h0⟩ := liveL_mem hy;rw [← e]
  exact (h1 x hx).2 (by rw [e]; exact h0)
def pairsI (i : Int) (l : List (Int × ByteArray)) : List (Int × Int) := l.map fun y => (i, y.1)
def dirP (im : Img) (i : Int) : List (Int × Int) := if kd im i = 2 then pairsI i (liveL im (slotsI im i)) else []
def pairsN (im : Img) : Nat → List (Int × Int)
 | 0 => []
 | k + 1 => pairsN im k ++ dirP im ((k : Int) + 1)
def cntP (P : List (Int × Int)) (j : Int) : Nat := P.countP fun p => decide (p.2 = j)
theorem cntP_app (P Q : List (Int × Int)) (j : Int) : cntP (P ++ Q) j = cntP P j + cntP Q j := List.countP_append
theorem cntP_one (P : List (Int × Int)) (i k j : Int) : cntP (P ++ [(i, k)]) j = cntP P j + if k = j then 1 else 0 := by
 rw [cntP_app]
 congr 1
 unfold cntP
 by_cases e : k = j <;> simp [e]
theorem cntP_live (im : Img) (i j : Int) (hj : j ≠ 0) (l : List Int) : cntP (pairsI i (liveL im l)) j = l.countP (nmB im j) := by
 unfold cntP pairsI liveL;rw [List.countP_map, List.countP_map, List.countP_filter]
 refine List.countP_congr fun x _ => ?_
 simp only [Function.comp, liveB, nmB, Bool.and_eq_true, decide_eq_true_eq]
 constructor
 ·exact fun h => h.1
 ·exact fun h => ⟨h, by rw [h]; exact hj⟩
theorem cntP_pairs (im : Img) (j : Int) (hj : j ≠ 0) : ∀ M : Nat, cntP (pairsN im M) j = timesI M im j
 | 0 => rfl
 | M + 1 => by
  have ih := cntP_pairs im j hj M;rw [pairsN, cntP_app, ih];unfold timesI dirsL;rw [List.range_succ, List.map_append, List.filter_append, List.flatMap_append, List.countP_append]
  congr 1
  unfold dirP
  by_cases e : kd im ((M : Int) + 1) = 2
  ·rw [if_pos e, cntP_live im _ j hj]
   simp [e]
  ·rw [if_neg e]
   simp [e, cntP]
structure PairOk (M : Nat) (im : Img) (p : Int × Int) : Prop where
 h1 : 1 ≤ p.1
 h2 : p.1 ≤ M
 h3 : kd im p.1 = 2
 h4 : ∃ x ∈ slotsI im p.1, inoAt im x = p.2
 h5 : 2 ≤ p.2
 h6 : p.2 ≤ M
structure NI (M : Nat) (im : Img) (R0 : Int → Bool) (P : List (Int × Int)) (tm : Int → Int) (R : Int → Bool) (more : Bool) : Prop where
 tm : ∀ j : Int, 1 ≤ j → j ≤ M → tm j = (cntP P j : Nat)
 ok : ∀ p ∈ P, PairOk M im p
 one : R 1 = true
 rch : ∀ j : Int, R j = true → Rch M im j
 no : more = false → R = R0 ∧ ∀ p ∈ P, R p.1 = true → R p.2 = true
 yes : more = true → (∀ j : Int, R0 j = true → R j = true) ∧ ∃ j : Int, 1 ≤ j ∧ j ≤ M ∧ R0 j = false ∧ R j = true
theorem NI.begin {M : Nat} {im : Img} {R : Int → Bool} (h1 : R 1 = true) (h2 : ∀ j : Int, R j = true → Rch M im j) : NI M im R [] (fun _ => 0) R false :=
 ⟨fun _ _ _ => rfl, fun _ h => (by cases h), h1, h2, fun _ => ⟨rfl, fun _ h => (by cases h)⟩, fun h => (by cases h)⟩
def putI (tm : Int → Int) (k v : Int) : Int → Int := fun x => if x = k then v else tm x
theorem NI.step {M : Nat} {im : Img} {R0 : Int → Bool} {P : List (Int × Int)} {tm : Int → Int} {R : Int → Bool} {more : Bool} (h : NI M im R0 P tm R more) {i k : Int} (hp : PairOk M im (i, k)) (hr : R i = true → R k = true) :
  NI M im R0 (P ++ [(i, k)]) (putI tm k (tm k + 1)) R more := by
 have hm : ∀ p ∈ P ++ [(i, k)], p ∈ P ∨ p = (i, k) := fun p hp => by simpa using hp
 refine ⟨fun j j1 j2 => ?_, fun p hq => ?_, h.one, h.rch, fun e => ⟨(h.no e).1, fun p hq => ?_⟩, h.yes⟩
 ·rw [cntP_one]
  unfold putI
  by_cases e : j = k
  ·subst e
   rw [if_pos rfl, if_pos rfl, h.tm j j1 j2]
   rfl
  ·rw [if_neg e, if_neg (fun q => e q.symm), h.tm j j1 j2]
   rfl
 ·rcases hm p hq with q | rfl
  ·exact h.ok p q
  ·exact hp
 ·rcases hm p hq with q | rfl
  ·exact (h.no e).2 p q
  ·exact hr
theorem NI.reach {M : Nat} {im : Img} {R0 : Int → Bool} {P : List (Int × Int)} {tm : Int → Int} {R : Int → Bool} {more : Bool} (h : NI M im R0 P tm R more) {i k : Int} (hp : PairOk M im (i, k)) (hi : R i = true) (hk : R k = false) :
  NI M im R0 (P ++ [(i, k)]) (putI tm k (tm k + 1)) (putC R k) true := by
 have hm : ∀ p ∈ P ++ [(i, k)], p ∈ P ∨ p = (i, k) := fun p hp => by simpa using hp
 obtain ⟨x, hx, hx2⟩ := hp.h4;have h5 := hp.h5;have h6 := hp.h6
 have hsub : ∀ j : Int, R j = true → putC R k j = true := fun j hj => by simp [putC, hj]
 refine ⟨fun j j1 j2 => ?_, fun p hq => ?_, hsub _ h.one, fun j hj => ?_, fun e => (by cases e), fun _ => ⟨fun j hj => ?_, ?_⟩⟩
 ·rw [cntP_one]
  unfold putI
  by_cases e : j = k
  ·subst e
   rw [if_pos rfl, if_pos rfl, h.tm j j1 j2]
   rfl
  ·rw [if_neg e, if_neg (fun q => e q.symm), h.tm j j1 j2]
   rfl
 ·rcases hm p hq with q | rfl
  ·exact h.ok p q
  ·exact hp
 ·unfold putC at hj
  rw [Bool.or_eq_true] at hj
  rcases hj with e | e
  ·have e : j = k := by simpa using e
   subst e
   exact .more (h.rch i hi) hp.h1 hp.h2 hp.h3 hx hx2 (by simp at h5; omega)
  ·exact h.rch j e
 ·cases hmo : more with
  | false => rw [← (h.no hmo).1] at hj; exact hsub j hj
  | true => exact hsub j ((h.yes hmo).1 j hj)
 ·cases hmo : more with
  | false =>
   refine ⟨k, by simp at h5; omega, h6, ?_, by simp [putC]⟩;rw [← (h.no hmo).1]
   exact hk
  | true =>
   obtain ⟨j, j1, j2, j3, j4⟩ := (h.yes hmo).2
   exact ⟨j, j1, j2, j3, hsub j j4⟩
def notR (R : Int → Bool) : Nat → Nat
 | 0 => 0
 | k + 1 => notR R k + if R ((k : Int) + 1) = true then 0 else 1
theorem notR_le {R0 R : Int → Bool} (h : ∀ j : Int, R0 j = true → R j = true) : ∀ k, notR R k ≤ notR R0 k
 | 0 => Nat.le_refl _
 | k + 1 => by
  have := notR_le h k;unfold notR
  by_cases e : R0 ((k : Int) + 1) = true
  ·rw [if_pos e, if_pos (h _ e)]; omega
  ·rw [if_neg e]; split <;> omega
theorem notR_lt {R0 R : Int → Bool} (h : ∀ j : Int, R0 j = true → R j = true) {j : Int} (j1 : 1 ≤ j) (j3 : R0 j = false) (j4 : R j = true) : ∀ k : Nat, j ≤ k → notR R k < notR R0 k
 | 0, hk => by simp at hk; omega
 | k + 1, hk => by
  unfold notR
  by_cases e : j = (k : Int) + 1
  ·subst e
   have := notR_le h k;rw [if_pos j4, if_neg (by rw [j3]; decide)]
   omega
  ·have := notR_lt h j1 j3 j4 k (by omega)
   by_cases e : R0 ((k : Int) + 1) = true
   ·rw [if_pos e, if_pos (h _ e)]; omega
   ·rw [if_neg e]; split <;> omega
theorem pairs_mem {im : Img} {i j x : Int} (h1 : 1 ≤ i) (h3 : kd im i = 2) (hx : x ∈ slotsI im i) (e : inoAt im x = j) (h0 : j ≠ 0) : ∀ M : Nat, i ≤ M → (i, j) ∈ pairsN im M
 | 0, h2 => by simp at h2; omega
 | M + 1, h2 => by
  unfold pairsN
  by_cases ei : i = (M : Int) + 1
  ·subst ei
   refine List.mem_append.2 (.inr ?_);unfold dirP;rw [if_pos h3];refine List.mem_map.2 ⟨(inoAt im x, nameAt im x), ?_, by rw [e]⟩
   exact List.mem_map.2 ⟨x, List.mem_filter.2 ⟨hx, by unfold liveB; rw [e]; simpa using h0⟩, rfl⟩
  ·exact List.mem_append.2 (.inl (pairs_mem h1 h3 hx e h0 M (by omega)))
theorem NI.done {M : Nat} {im : Img} {R0 : Int → Bool} {tm : Int → Int} {R : Int → Bool} (h : NI M im R0 (pairsN im M) tm R false) : (∀ j : Int, 1 ≤ j → j ≤ M → tm j = (timesI M im j : Nat)) ∧ ∀ j : Int, R j = true ↔ Rch M im j := by
 refine ⟨fun j j1 j2 => by rw [h.tm j j1 j2, cntP_pairs im j (by omega)], fun j => ⟨h.rch j, fun hj => ?_⟩⟩
 induction hj with
 | root => exact h.one
 | more _ h1 h2 h3 hx e h0 ih => exact (h.no rfl).2 _ (pairs_mem h1 h3 hx e h0 M h2) ih
def tailP (im : Img) (z : List Int) : Prop := z.getD 2 0 % 128 ≠ 0 → blkP im z (cntZ z - 1).toNat ≠ 0 → ∀ k : Nat, z.getD 2 0 % 128 ≤ (k : Int) → k < 128 → (secI im (blkP im z (cntZ z - 1).toNat)).getD k 0 = 0
theorem tail_iff {N M : Int} {im : Img} (hM : 0 ≤ M) (hN : im.length = N) (hs : AllSec im) {z : List Int} (hz : z.length = 18) {c0 : Int → Bool} (h : Still N M im z c0) (h0 : 0 ≤ z.getD 2 0) (h1 : z.getD 2 0 ≤ 136704) :
  (∀ l, lastB (z.getD 2 0) (spI im z) = some l → wip (secI im l.2) (z.getD 2 0 % 128) = secI im l.2) ↔ tailP im z := by
 unfold tailP
 by_cases e : z.getD 2 0 % 128 = 0
 ·refine ⟨fun _ h => absurd e h, fun _ l hl => ?_⟩
  unfold lastB at hl
  split at hl
  ·rw [if_neg (fun q => q.1 e)] at hl; cases hl
  ·cases hl
 ·obtain ⟨K, hK⟩ : ∃ K : Nat, (K : Int) = z.getD 2 0 / 128 := ⟨(z.getD 2 0 / 128).toNat, by omega⟩
  have hc : ((K + 1 : Nat) : Int) = cntZ z := by unfold cntZ; omega
  have hKm : (cntZ z - 1).toNat = K := by omega
  have hsp := still_blocks hM hN hs hz h hc (by omega);rw [List.range_succ, List.flatMap_append, List.flatMap_cons, List.flatMap_nil, List.append_nil] at hsp;rw [hKm]
  by_cases e0 : blkP im z K = 0
  ·refine ⟨fun _ _ q => absurd e0 q, fun _ l hl => ?_⟩
   have hsp : spI im z = (List.range K).flatMap (entB im z) := by rw [hsp]; unfold entB; rw [if_pos e0, List.append_nil]
   unfold lastB at hl
   split at hl
   ·rename_i l' hl'
    split at hl
    ·rename_i q
     cases hl
     have hm := List.mem_of_getLast? hl';rw [hsp] at hm;obtain ⟨k, hk, hm⟩ := List.mem_flatMap.1 hm;have hk := List.mem_range.1 hk;unfold entB at hm
     split at hm
     ·cases hm
     ·have hm := List.mem_singleton.1 hm
      have q2 := q.2;rw [hm] at q2;have q2 : (k : Int) = z.getD 2 0 / 128 := q2
      omega
    ·cases hl
   ·cases hl
  ·have hl : lastB (z.getD 2 0) (spI im z) = some ((K : Int), blkP im z K) := by
    unfold lastB;rw [hsp];unfold entB;rw [if_neg e0, List.getLast?_append]
    simp only [List.getLast?_singleton, Option.some_or]
    rw [if_pos ⟨e, hK⟩]
   rw [hl];have hsec : IsSec (secI im (blkP im z K)) := hs _
   constructor
   ·intro q _ _ k hk hk2
    have q1 := q ((K : Int), blkP im z K) rfl
    generalize secI im (blkP im z K) = sk at *
    exact (wip_iff hsec (z.getD 2 0 % 128)).1 q1 k hk hk2
   ·intro q l hl
    have hl := Option.some.inj hl;subst hl
    show wip (secI im (blkP im z K)) (z.getD 2 0 % 128) = secI im (blkP im z K)
    generalize secI im (blkP im z K) = sk at *
    exact (wip_iff hsec (z.getD 2 0 % 128)).2 fun k hk hk2 => q e e0 k hk hk2
end Go.Proofs.YtpmignilhoihnabGreat

namespace Go.Proofs.YtpmignilhoihnabGreat

structure InoFin (M : Nat) (im : Img) (i : Int) : Prop where
 rch : Rch M im i
 lnk : (zI im i).getD 1 0 = wantL M im i
 w1 : 1 ≤ wantL M im i
 w2 : wantL M im i ≤ 100
 dir : kd im i = 2 → wantL M im i = 1
 tl : tailP im (zI im i)
structure WellW (M : Nat) (im : Img) : Prop where
 ino : ∀ i : Int, 1 ≤ i → i ≤ M → (rdI im i).2 = 0
 ptr : ∀ k : Nat, k < M → kd im ((k : Int) + 1) ≠ 0 → Still im.length M im (zI im ((k : Int) + 1)) (clN M im k)
 root : kd im 1 = 2
 dir : ∀ i : Int, 1 ≤ i → i ≤ M → kd im i = 2 → DirOk M im i
 fin : ∀ i : Int, 1 ≤ i → i ≤ M → kd im i ≠ 0 → InoFin M im i
theorem well_iff {M : Nat} {im : Img} (hs : AllSec im) : WellW M im ↔ WellP M im := by
 have hst : ∀ (hp : ∀ k : Nat, k < M → kd im ((k : Int) + 1) ≠ 0 → Still im.length M im (zI im ((k : Int) + 1)) (clN M im k)) (i : Int), 1 ≤ i → i ≤ M → kd im i ≠ 0 → ∃ c0, Still im.length M im (zI im i) c0 := fun hp i h1 h2 hk => by
  obtain ⟨k, rfl⟩ : ∃ k : Nat, i = (k : Int) + 1 := ⟨(i - 1).toNat, by omega⟩
  exact ⟨_, hp k (by omega) hk⟩
 constructor
 ·intro h
  refine ⟨h.ino, h.root, h.ptr, fun i h1 h2 hk => (dirOk_iff.1 (h.dir i h1 h2 hk)).1, fun i h1 h2 hk => (dirOk_iff.1 (h.dir i h1 h2 hk)).2, fun i h1 h2 hk => (h.fin i h1 h2 hk).rch, fun i h1 h2 hk => ?_, fun i h1 h2 hk _ => ?_⟩
  ·have q := h.fin i h1 h2 hk
   exact ⟨q.lnk, q.w1, q.w2, q.dir⟩
  ·obtain ⟨c0, st⟩ := hst h.ptr i h1 h2 hk
   obtain ⟨_, _, a, b, _⟩ := kind_size (h.ino i h1 h2) hk
   exact (tail_iff (Int.natCast_nonneg M) rfl hs (zI_len im i) st a b).2 (h.fin i h1 h2 hk).tl
 ·intro h
  refine ⟨h.ino, h.ptr, h.root, fun i h1 h2 hk => dirOk_iff.2 ⟨h.slot i h1 h2 hk, h.names i h1 h2 hk⟩, fun i h1 h2 hk => ?_⟩;obtain ⟨a1, a2, a3, a4⟩ := h.links i h1 h2 hk;obtain ⟨c0, st⟩ := hst h.ptr i h1 h2 hk;obtain ⟨_, _, a, b, e, _⟩ := kind_size (h.ino i h1 h2) hk;refine ⟨h.reach i h1 h2 hk, a1, a2, a3, a4, ?_⟩
  by_cases e2 : kd im i = 2
  ·intro q
   exact absurd (e e2) q
  ·exact (tail_iff (Int.natCast_nonneg M) rfl hs (zI_len im i) st a b).1 (h.tail i h1 h2 hk e2)
end Go.Proofs.YtpmignilhoihnabGreat
