/-
 Pointers are data sectors; what a look at a well-formed image takes up and claims.
-/
import Derived.Test.YtpmignilhoihnabGreatHE6
namespace Go.Proofs.YtpmignilhoihnabGreat

def gB (p : Int) : List Int := [p]
def gRow (g : Int → List Int) (t : List Int) (k : Nat) : List Int := (List.range k).flatMap fun j => if t.getD j 0 = 0 then [] else g (t.getD j 0)
def gT (im : Img) (g : Int → List Int) (p : Int) : List Int := p :: gRow g (ptrsTo (secI im p) 32) 32
def gZ (g : Int → List Int) (p : Int) : List Int := if p = 0 then [] else g p
def ptsZ (im : Img) (z : List Int) : List Int := gRow gB ((z.drop 4).take 12) 12 ++ gZ (gT im gB) (z.getD 16 0) ++ gZ (gT im (gT im gB)) (z.getD 17 0)
def Cls (st : StepF) (g : Int → List Int) : Prop := ∀ i p s s', st i p s = some s' → ∀ n, s' n = true ↔ s n = true ∨ n ∈ g p
theorem gRow_succ (g : Int → List Int) (t : List Int) (k : Nat) : gRow g t (k + 1) = gRow g t k ++ (if t.getD k 0 = 0 then [] else g (t.getD k 0)) := by
 unfold gRow;rw [List.range_succ, List.flatMap_append]
 simp
theorem block_cls (N M cnt : Int) : Cls (blockS N M cnt) gB := fun i p s s' h n => by
 unfold blockS at h
 split at h
 ·cases h
  unfold putC gB;rw [Bool.or_eq_true, List.mem_singleton, beq_iff_eq]
  exact Or.comm
 ·cases h
theorem row_cls {st : StepF} {g : Int → List Int} (h : Cls st g) (t : List Int) (f each : Int) (sn : Int → Bool) : ∀ (k : Nat) (s : Int → Bool), rowS st t f each sn k = some s → ∀ n, s n = true ↔ sn n = true ∨ n ∈ gRow g t k
 | 0, s, e, n => by
  cases e
  simp [gRow]
 | k + 1, s, e, n => by
  rw [rowS] at e;obtain ⟨s1, e1, e2⟩ := Option.bind_eq_some_iff.1 e;have ih := row_cls h t f each sn k s1 e1 n;rw [gRow_succ, List.mem_append]
  split at e2
  ·rename_i h0
   cases e2
   rw [if_pos h0, ih]
   simp
  ·rename_i h0
   rw [if_neg h0, h _ _ _ _ e2 n, ih, or_assoc]
theorem table_cls {N M cnt each : Int} {im : Img} {st : StepF} {g : Int → List Int} (h : Cls st g) : Cls (tableS N M cnt each im st) (gT im g) := fun i p s s' e n => by
 obtain ⟨_, e2⟩ := tableS_data e;rw [row_cls h _ _ _ _ 32 s' e2 n];unfold gT putC;rw [Bool.or_eq_true, List.mem_cons, beq_iff_eq]
 constructor
 ·rintro ((q | q) | q)
  ·exact .inr (.inl q)
  ·exact .inl q
  ·exact .inr (.inr q)
 ·rintro (q | q | q)
  ·exact .inl (.inr q)
  ·exact .inl (.inl q)
  ·exact .inr q
theorem stepZ_cls {st : StepF} {g : Int → List Int} (h : Cls st g) : Cls (stepZ st) (gZ g) := fun i p s s' e n => by
 unfold stepZ at e;unfold gZ
 split at e
 ·rename_i h0
  cases e
  rw [if_pos h0]
  simp
 ·rename_i h0
  rw [if_neg h0]
  exact h _ _ _ _ e n
theorem ptrs_cls {N M : Int} {im : Img} {z : List Int} {sn s : Int → Bool} (h : ptrsW N M im z sn = some s) (n : Int) : s n = true ↔ sn n = true ∨ n ∈ ptsZ im z := by
 unfold ptrsW at h;obtain ⟨s1, e1, h2⟩ := Option.bind_eq_some_iff.1 h;obtain ⟨s2, e2, e3⟩ := Option.bind_eq_some_iff.1 h2;have bc := block_cls N M (cntZ z);have r1 := row_cls bc _ _ _ _ 12 s1 e1 n;have r2 := stepZ_cls (table_cls (N := N) (M := M) (cnt := cntZ z) (each := 1) (im := im) bc) _ _ _ _ e2 n;have r3 := stepZ_cls (table_cls (N := N) (M := M) (cnt := cntZ z) (each := 32) (im := im) (table_cls (N := N) (M := M) (cnt := cntZ z) (each := 1) (im := im) bc)) _ _ _ _ e3 n;unfold ptsZ;rw [r3, r2, r1, List.mem_append, List.mem_append]
 simp only [or_assoc]
theorem clN_iff {M : Nat} {im : Img} (hs : AllSec im) (hp : ∀ k : Nat, k < M → kd im ((k : Int) + 1) ≠ 0 → Still im.length M im (zI im ((k : Int) + 1)) (clN M im k)) : ∀ k : Nat, k ≤ M → ∀ n, clN M im k n = true ↔ ∃ j : Nat, j < k ∧ kd im ((j : Int) + 1) ≠ 0 ∧ n ∈ ptsZ im (zI im ((j : Int) + 1))
 | 0, _, n => by
  constructor
  ·intro h; cases h
  ·rintro ⟨j, hj, _⟩; omega
 | k + 1, hk, n => by
  have ih := clN_iff hs hp k (by omega) n;rw [clN_succ]
  by_cases h0 : kd im ((k : Int) + 1) = 0
  ·rw [if_pos h0, ih]
   constructor
   ·rintro ⟨j, hj, q⟩; exact ⟨j, by omega, q⟩
   ·rintro ⟨j, hj, q1, q2⟩
    by_cases e : j = k
    ·subst e; exact absurd h0 q1
    ·exact ⟨j, by omega, q1, q2⟩
  ·rw [if_neg h0]
   have st := hp k (by omega) h0;have hw := (ptrsW_iff (Int.natCast_nonneg M) rfl hs (zI_len _ _) (clN M im k) _).2 ⟨st, rfl⟩;rw [ptrs_cls hw n, ih]
   constructor
   ·rintro (⟨j, hj, q⟩ | q)
    ·exact ⟨j, by omega, q⟩
    ·exact ⟨k, by omega, h0, q⟩
   ·rintro ⟨j, hj, q1, q2⟩
    by_cases e : j = k
    ·subst e; exact .inr q2
    ·exact .inl ⟨j, by omega, q1, q2⟩
end Go.Proofs.YtpmignilhoihnabGreat

namespace Go.Proofs.YtpmignilhoihnabGreat

def Rgs (N M : Int) (st : StepF) (g : Int → List Int) : Prop := ∀ i p s s', st i p s = some s' → ∀ n ∈ g p, M < n ∧ n < N
theorem block_rgs (N M cnt : Int) : Rgs N M (blockS N M cnt) gB := fun i p s s' h n hn => by
 unfold blockS at h
 split at h
 ·rename_i hc
  rw [Bool.and_eq_true] at hc;rw [List.mem_singleton.1 hn]
  exact (claimB_of.1 hc.2).2
 ·cases h
theorem row_rgs {N M : Int} {st : StepF} {g : Int → List Int} (h : Rgs N M st g) (t : List Int) (f each : Int) (sn : Int → Bool) (k : Nat) (s : Int → Bool) (e : rowS st t f each sn k = some s) : ∀ n ∈ gRow g t k, M < n ∧ n < N := fun n hn => by
 unfold gRow at hn;obtain ⟨j, hj, hn⟩ := List.mem_flatMap.1 hn
 split at hn
 ·cases hn
 ·rename_i h0
  obtain ⟨s1, s2, e2⟩ := rowS_step e j (List.mem_range.1 hj) h0
  exact h _ _ _ _ e2 n hn
theorem table_rgs {N M cnt each : Int} {im : Img} {st : StepF} {g : Int → List Int} (h : Rgs N M st g) : Rgs N M (tableS N M cnt each im st) (gT im g) := fun i p s s' e n hn => by
 obtain ⟨e1, e2⟩ := tableS_data e
 rcases List.mem_cons.1 hn with q | q
 ·rw [q]; exact e1
 ·exact row_rgs h _ _ _ _ 32 s' e2 n q
theorem stepZ_rgs {N M : Int} {st : StepF} {g : Int → List Int} (h : Rgs N M st g) : Rgs N M (stepZ st) (gZ g) := fun i p s s' e n hn => by
 unfold stepZ at e;unfold gZ at hn
 split at e
 ·rename_i h0
  rw [if_pos h0] at hn
  cases hn
 ·rename_i h0
  rw [if_neg h0] at hn
  exact h _ _ _ _ e n hn
theorem pts_rg {N M : Int} {im : Img} {z : List Int} {sn s : Int → Bool} (h : ptrsW N M im z sn = some s) : ∀ n ∈ ptsZ im z, M < n ∧ n < N := fun n hn => by
 unfold ptrsW at h;obtain ⟨s1, e1, h2⟩ := Option.bind_eq_some_iff.1 h;obtain ⟨s2, e2, e3⟩ := Option.bind_eq_some_iff.1 h2;have bc := block_rgs N M (cntZ z);unfold ptsZ at hn
 rcases List.mem_append.1 hn with hn | hn
 ·rcases List.mem_append.1 hn with hn | hn
  ·exact row_rgs bc _ _ _ _ 12 s1 e1 n hn
  ·exact stepZ_rgs (table_rgs (cnt := cntZ z) (each := 1) (im := im) bc) _ _ _ _ e2 n hn
 ·exact stepZ_rgs (table_rgs (cnt := cntZ z) (each := 32) (im := im) (table_rgs (cnt := cntZ z) (each := 1) (im := im) bc)) _ _ _ _ e3 n hn
theorem well_uses {M : Nat} {im : Img} (hs : AllSec im) (h : WellP M im) (hM : 1 ≤ M) : (∀ i, ((lookL M im).tk i).isSome = true ↔ 1 ≤ i ∧ i ≤ M ∧ kd im i ≠ 0) ∧ ∀ n, (lookL M im).cl n = true ↔ ∃ j : Nat, j < M ∧ kd im ((j : Int) + 1) ≠ 0 ∧ n ∈ ptsZ im (zI im ((j : Int) + 1)) := by
 obtain ⟨_, h2, h3⟩ := gone_well hs h hM;refine ⟨fun i => ?_, fun n => ?_⟩
 ·show ((goneL M im).tk i).isSome = true ↔ _
  rw [h2 i]
  by_cases e : 1 ≤ i ∧ i ≤ M ∧ kd im i ≠ 0
  ·rw [if_pos e]; exact ⟨fun _ => e, fun _ => rfl⟩
  ·rw [if_neg e]; exact ⟨fun q => (by cases q), fun q => absurd q e⟩
 ·show (goneL M im).cl n = true ↔ _
  rw [h3 n]
  exact clN_iff hs h.ptr M (Nat.le_refl _) n
end Go.Proofs.YtpmignilhoihnabGreat
