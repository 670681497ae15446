/-
 The blocks of an inode whose pointers may be: those below its count.
-/
import Derived.Test.YtpmignilhoihnaaGreatHC9
namespace Go.Proofs.YtpmignilhoihnaaGreat

end Go.Proofs.YtpmignilhoihnaaGreat

namespace Go.Proofs.YtpmignilhoihnaaGreat

end Go.Proofs.YtpmignilhoihnaaGreat

namespace Go.Proofs.YtpmignilhoihnaaGreat

end Go.Proofs.YtpmignilhoihnaaGreat

namespace Go.Proofs.YtpmignilhoihnaaGreat

end Go.Proofs.YtpmignilhoihnaaGreat

namespace Go.Proofs.YtpmignilhoihnaaGreat

def blkP (im : Img) (z : List Int) (k : Nat) : Int :=
 if k < 12 then z.getD (4 + k) 0
 else if k < 44 then (if z.getD 16 0 = 0 then 0 else (ptrsTo (secI im (z.getD 16 0)) 32).getD (k - 12) 0)
 else if z.getD 17 0 = 0 then 0
 else if (ptrsTo (secI im (z.getD 17 0)) 32).getD ((k - 44) / 32) 0 = 0 then 0
 else (ptrsTo (secI im ((ptrsTo (secI im (z.getD 17 0)) 32).getD ((k - 44) / 32) 0)) 32).getD ((k - 44) % 32) 0
def entB (im : Img) (z : List Int) (k : Nat) : List (Int × Int) := if blkP im z k = 0 then [] else [((k : Int), blkP im z k)]
theorem flatMap_add {α : Type} (f : Nat → List α) (a b : Nat) : (List.range (a + b)).flatMap f = (List.range a).flatMap f ++ (List.range b).flatMap fun k => f (a + k) := by
 rw [List.range_add, List.flatMap_append, List.flatMap_map]
theorem flatMap_mul {α : Type} (f : Nat → List α) (b : Nat) : ∀ a : Nat, (List.range (b * a)).flatMap f = (List.range a).flatMap fun i => (List.range b).flatMap fun j => f (b * i + j)
 | 0 => by simp
 | a + 1 => by
  rw [Nat.mul_succ, flatMap_add, flatMap_mul f b a, List.range_succ, List.flatMap_append]
  simp
theorem flatMap_ext {α : Type} {f g : Nat → List α} {n : Nat} (h : ∀ k, k < n → f k = g k) : (List.range n).flatMap f = (List.range n).flatMap g := by
 induction n with
 | zero => rfl
 | succ n ih =>
  rw [List.range_succ, List.flatMap_append, List.flatMap_append, ih fun k hk => h k (by omega)]
  simp [h n (by omega)]
theorem sp_blocks (im : Img) {z : List Int} (hz : z.length = 18) : spI im z = (List.range 1068).flatMap (entB im z) := by
 rw [show (1068 : Nat) = 12 + 32 + 32 * 32 from rfl, flatMap_add, flatMap_add, flatMap_mul];unfold spI;refine congr (congrArg _ (congr (congrArg _ ?_) ?_)) ?_
 ·unfold rowG
  refine flatMap_ext fun k hk => ?_
  rw [part_get hz hk];unfold entB blkP;rw [if_pos hk]
  split
  ·rfl
  ·simp
 ·split
  ·rename_i h0
   symm
   rw [List.flatMap_eq_nil_iff]
   intro k hk
   have hk := List.mem_range.1 hk;unfold entB blkP;rw [if_neg (show ¬ 12 + k < 12 by omega), if_pos (show 12 + k < 44 by omega), if_pos h0, if_pos rfl]
  ·rename_i h0
   unfold tabG rowG
   refine flatMap_ext fun k hk => ?_
   unfold entB blkP;rw [if_neg (show ¬ 12 + k < 12 by omega), if_pos (show 12 + k < 44 by omega), if_neg h0, show 12 + k - 12 = k by omega]
   split
   ·rfl
   ·simp
 ·split
  ·rename_i h0
   symm
   rw [List.flatMap_eq_nil_iff]
   intro a _
   rw [List.flatMap_eq_nil_iff]
   intro k _
   unfold entB blkP;rw [if_neg (show ¬ 12 + 32 + (32 * a + k) < 12 by omega), if_neg (show ¬ 12 + 32 + (32 * a + k) < 44 by omega), if_pos h0, if_pos rfl]
  ·rename_i h0
   unfold tabG rowG
   refine flatMap_ext fun a ha => ?_
   have hb : ∀ k, k < 32 → blkP im z (12 + 32 + (32 * a + k)) = if (ptrsTo (secI im (z.getD 17 0)) 32).getD a 0 = 0 then 0 else (ptrsTo (secI im ((ptrsTo (secI im (z.getD 17 0)) 32).getD a 0)) 32).getD k 0 := fun k hk => by
    unfold blkP;rw [if_neg (show ¬ 12 + 32 + (32 * a + k) < 12 by omega), if_neg (show ¬ 12 + 32 + (32 * a + k) < 44 by omega), if_neg h0, show (12 + 32 + (32 * a + k) - 44) / 32 = a by omega, show (12 + 32 + (32 * a + k) - 44) % 32 = k by omega]
   split
   ·rename_i h1
    symm
    rw [List.flatMap_eq_nil_iff]
    intro k hk
    unfold entB;rw [hb k (List.mem_range.1 hk), if_pos h1, if_pos rfl]
   ·rename_i h1
    refine flatMap_ext fun k hk => ?_
    unfold entB;rw [hb k hk, if_neg h1]
    split
    ·rfl
    ·refine congrArg (fun x => [x]) (Prod.ext ?_ rfl)
     show (44 : Int) + 32 * a + 1 * k = ((12 + 32 + (32 * a + k) : Nat) : Int)
     omega
end Go.Proofs.YtpmignilhoihnaaGreat

namespace Go.Proofs.YtpmignilhoihnaaGreat

def Ix (cnt : Int) (keep : KeepF) : Prop := ∀ s i p, (∀ x ∈ s.sp, x.1 < cnt) → ∀ x ∈ (keep s i p).2.sp, x.1 < cnt
theorem block_ix (N M cnt : Int) : Ix cnt (blockF N M cnt) := fun s i p h x hx => by
 unfold blockF at hx
 split at hx
 ·rename_i e
  rw [Bool.and_eq_true, decide_eq_true_eq] at e
  rcases List.mem_append.1 hx with k | k
  ·exact h x k
  ·rw [List.mem_singleton.1 k]; exact e.1
 ·exact h x hx
theorem goK_ix {cnt : Int} {keep : KeepF} (hk : Ix cnt keep) (t : List Int) (s : TS) (h : ∀ x ∈ s.sp, x.1 < cnt) : ∀ k, ∀ x ∈ (goK keep t s k).2.sp, x.1 < cnt
 | 0 => h
 | k + 1 => hk _ _ _ (goK_ix hk t s h k)
theorem table_ix {N M cnt each : Int} {keep : KeepF} (hk : Ix cnt keep) : Ix cnt (tableF N M cnt each keep) := fun s f p h x hx => by
 unfold tableF at hx
 split at hx
 ·rw [goF_is] at hx
  have hr : Ix cnt (innerF each f keep) := fun s k p h x hx => hk s (f + each * k) p h x hx
  have hg : ∀ x ∈ (gone each f keep s p).2.sp, x.1 < cnt := goK_ix hr (ptrsTo (secI s.wt p) 32) ⟨s.wt, putC s.cl p, s.sp⟩ h 32
  split at hx
  ·exact hg x hx
  ·exact hg x hx
 ·exact h x hx
theorem dbl_ix (N M : Int) (z : List Int) (wt : Img) (cl : Int → Bool) : ∀ x ∈ (dblT N M z wt cl).2.sp, x.1 < cntZ z := by
 have kb := block_ix N M (cntZ z);have ks : Ix (cntZ z) (singleF N M (cntZ z)) := table_ix kb;have kd : Ix (cntZ z) (doubleF N M (cntZ z)) := table_ix ks
 exact kd _ _ _ (ks _ _ _ (goK_ix kb _ _ (by simp) 12))
end Go.Proofs.YtpmignilhoihnaaGreat
