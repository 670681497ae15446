/-
  What a cache has and does, without a program: contents, edges, tags, and what is written when.
-/
import Derived.Test.YtamoepninddbcaaGreatDisk2
import Derived.Test.YtamoepninddbcaaGreatWays
namespace Go.Proofs.YtamoepninddbcaaGreat
open Classical

/-- What a cache has: its disk, its edges, its dirty sectors with content and tags, the tags that have landed, whether the disk is lost. -/
structure CSt where
  d : D.St8
  E : Int → Int → Prop
  P : Int → Option (List Int × List Int)
  ld : List Int
  lost : Bool

def CSt.dirty (z : CSt) (x : Int) : Prop := (z.P x).isSome = true

/-- Two lists that rise and have the same numbers are one. -/
theorem rising_one : ∀ (l m : List Int), l.Pairwise (· < ·) → m.Pairwise (· < ·) → (∀ x, x ∈ l ↔ x ∈ m) → l = m
  | [], [], _, _, _ => rfl
  | [], b :: m, _, _, h => absurd ((h b).2 (by simp)) (by simp)
  | a :: l, [], _, _, h => absurd ((h a).1 (by simp)) (by simp)
  | a :: l, b :: m, hl, hm, h => by
    obtain ⟨l1, l2⟩ := List.pairwise_cons.1 hl
    obtain ⟨m1, m2⟩ := List.pairwise_cons.1 hm
    have hab : a = b := by
      have h1 := (h a).1 (by simp)
      have h2 := (h b).2 (by simp)
      simp only [List.mem_cons] at h1 h2
      rcases h1 with e | e
      · exact e
      · rcases h2 with k | k
        · exact k.symm
        · have := m1 a e
          have := l1 b k
          omega
    subst hab
    rw [rising_one l m l2 m2 fun x => ?_]
    constructor
    · intro hx
      have := (h x).1 (by simp [hx])
      simp only [List.mem_cons] at this
      rcases this with e | e
      · have := l1 x hx
        omega
      · exact e
    · intro hx
      have := (h x).2 (by simp [hx])
      simp only [List.mem_cons] at this
      rcases this with e | e
      · have := m1 x hx
        omega
      · exact e

/-- The sectors' numbers of which something holds, rising. -/
noncomputable def secs (p : Int → Prop) : List Int := ((List.range 4096).map Int.ofNat).filter fun x => decide (p x)
theorem secs_mem {p : Int → Prop} {x : Int} : x ∈ secs p ↔ Sec x ∧ p x := by
  unfold secs Sec
  simp only [List.mem_filter, List.mem_map, List.mem_range, decide_eq_true_eq]
  constructor
  · rintro ⟨⟨k, hk, rfl⟩, hp⟩
    exact ⟨by simp; omega, hp⟩
  · rintro ⟨⟨h0, h1⟩, hp⟩
    exact ⟨⟨x.toNat, by omega, by simp; omega⟩, hp⟩
theorem secs_up (p : Int → Prop) : (secs p).Pairwise (· < ·) := by
  unfold secs
  refine List.Pairwise.filter _ ?_
  rw [List.pairwise_map]
  refine List.Pairwise.imp ?_ List.pairwise_lt_range
  intro a b h
  simp
  exact h
theorem secs_is {p : Int → Prop} {l : List Int} (hu : l.Pairwise (· < ·)) (hm : ∀ x, x ∈ l ↔ p x) (hs : ∀ x, p x → Sec x) : l = secs p :=
  rising_one _ _ hu (secs_up p) fun x => by rw [hm, secs_mem]; exact ⟨fun h => ⟨hs x h, h⟩, fun h => h.2⟩
theorem secs_cong {p q : Int → Prop} (h : ∀ x, p x ↔ q x) : secs p = secs q := by
  have : p = q := funext fun x => propext (h x)
  rw [this]
theorem secs_len (p : Int → Prop) : (secs p).length ≤ 4096 := by
  unfold secs
  refine Nat.le_trans (List.length_filter_le _ _) ?_
  simp

/-- No edge leads to it. -/
def FreeE (E : Int → Int → Prop) (x : Int) : Prop := ∀ a, ¬ E a x
/-- Is it a sector of the disk? -/
def okN (n : Nat) (x : Int) : Bool := decide (0 ≤ x) && decide (x < n)
theorem okN_iff {n : Nat} {x : Int} : okN n x = true ↔ 0 ≤ x ∧ x < n := by simp [okN]
/-- Why nothing can be done with some sectors. -/
def refC (n : Nat) (z : CSt) (l : List Int) : Int := if l.all (okN n) = true then (if z.lost = true then 22 else 0) else 40

/-- A dirty sector is written. -/
noncomputable def wrC (n : Nat) (z : CSt) (x : Int) : CSt × Int :=
  if z.lost = true then (z, 22) else
  match z.P x with
  | none => (z, 0)
  | some q =>
    if D.writeE z.d n x = 0 then (⟨D.writeD z.d n x q.1, delE z.E x, fun y => if y = x then none else z.P y, z.ld ++ q.2, z.lost⟩, 0)
    else (⟨D.writeD z.d n x q.1, z.E, z.P, z.ld, decide (D.writeE z.d n x = 22)⟩, D.writeE z.d n x)

/-- Of a list the first one that may land is written, again and again. -/
noncomputable def wAll (n : Nat) : Nat → CSt → List Int → CSt × Int
  | 0, z, _ => (z, 0)
  | k + 1, z, l =>
    match l.find? (fun x => decide (FreeE z.E x)) with
    | none => (z, 0)
    | some x => if (wrC n z x).2 = 0 then wAll n k (wrC n z x).1 (l.erase x) else wrC n z x

/-- All that must land ahead of a sector, rising. -/
noncomputable def befC (z : CSt) (x : Int) : List Int := secs fun a => a ≠ x ∧ Reach z.E a x
noncomputable def drainC (n : Nat) (z : CSt) (x : Int) : CSt × Int :=
  if z.dirty x then wAll n ((befC z x).length + 1) z (befC z x ++ [x]) else (z, 0)
/-- Those of a list that are dirty, but for one. -/
noncomputable def dofC (z : CSt) (l : List Int) (x : Int) : List Int := secs fun a => a ∈ l ∧ z.dirty a ∧ a ≠ x
noncomputable def clearC (n : Nat) (z : CSt) (x : Int) (l : List Int) : CSt × Int :=
  if ∃ a, a ∈ l ∧ z.dirty a ∧ a ≠ x ∧ Reach z.E x a then drainC n z x else (z, 0)
/-- A sector has this content from now on, behind those. -/
def layC (z : CSt) (x : Int) (s : List Int) (l : List Int) : CSt :=
  ⟨z.d, fun a b => (b = x ∧ a ∈ l) ∨ z.E a b, fun y => if y = x then some (s, match z.P x with | some q => q.2 | none => []) else z.P y, z.ld, z.lost⟩
noncomputable def putC (n : Nat) (z : CSt) (x : Int) (s : List Int) (l : List Int) : CSt × Int :=
  if refC n z (x :: l) = 0 then
    (if (clearC n z x l).2 = 0 then (layC (clearC n z x l).1 x s (dofC (clearC n z x l).1 l x), 0) else clearC n z x l)
  else (z, refC n z (x :: l))
/-- A sector is forgotten. -/
def forC (z : CSt) (x : Int) : CSt := ⟨z.d, delE z.E x, fun y => if y = x then none else z.P y, z.ld, z.lost⟩

/-- How many tags there are. -/
def tl (o : Option (List Int × List Int)) : Nat := match o with | some q => q.2.length | none => 0
def tsum (P : Int → Option (List Int × List Int)) : Nat := ((List.range 4096).map fun i => tl (P (Int.ofNat i))).sum
theorem sum_upd (f : Nat → Nat) (k v : Nat) : ∀ l : List Nat, l.Nodup → (l.map fun i => if i = k then v else f i).sum + (if k ∈ l then f k else 0) = (l.map f).sum + (if k ∈ l then v else 0)
  | [], _ => by simp
  | a :: l, h => by
    obtain ⟨h1, h2⟩ := List.nodup_cons.1 h
    have ih := sum_upd f k v l h2
    by_cases e : a = k
    · subst e
      rw [if_neg h1, if_neg h1] at ih
      simp only [List.map_cons, List.sum_cons, List.mem_cons, true_or, if_true]
      omega
    · have e2 : ¬ k = a := fun h => e h.symm
      simp only [List.map_cons, List.sum_cons, List.mem_cons, e2, false_or, if_neg e]
      omega
theorem tsum_upd (P : Int → Option (List Int × List Int)) (x : Int) (hx : Sec x) (v : Option (List Int × List Int)) : tsum (fun y => if y = x then v else P y) + tl (P x) = tsum P + tl v := by
  have h := sum_upd (fun i => tl (P (Int.ofNat i))) x.toNat (tl v) (List.range 4096) List.nodup_range
  have hm : x.toNat ∈ List.range 4096 := by rw [List.mem_range]; have := hx.2; have := hx.1; omega
  rw [if_pos hm, if_pos hm] at h
  have e1 : Int.ofNat x.toNat = x := by have := hx.1; simp; omega
  simp only [e1] at h
  have e2 : tsum (fun y => if y = x then v else P y) = ((List.range 4096).map fun i => if i = x.toNat then tl v else tl (P (Int.ofNat i))).sum := by
    refine congrArg List.sum (List.map_congr_left fun i _ => ?_)
    show tl (if Int.ofNat i = x then v else P (Int.ofNat i)) = _
    by_cases hi : i = x.toNat
    · subst hi
      simp only [e1, if_true]
    · rw [if_neg hi, if_neg (fun e => hi (by have := hx.1; simp at e; omega))]
  rw [e2]
  exact h
theorem tsum_le (P : Int → Option (List Int × List Int)) (x : Int) (hx : Sec x) : tl (P x) ≤ tsum P := by
  have := tsum_upd P x hx none
  simp only [show tl none = 0 from rfl] at this
  omega

/-- What holds of every cache, whatever was done with it. -/
structure CInv (n : Nat) (z : CSt) : Prop where
  ed : ∀ a b, z.E a b → z.dirty a ∧ z.dirty b
  ok : ∀ x, z.dirty x → 0 ≤ x ∧ x < n
  ln : ∀ x q, z.P x = some q → q.1.length = 128
  ring : NoRing z.E
  top : n ≤ 4096
  w0 : 0 ≤ z.d.wr
  lf : 0 ≤ z.d.lf ∧ z.d.lf ≤ 9223372036854775807

theorem CInv.sec {n : Nat} {z : CSt} (h : CInv n z) {x : Int} (hx : z.dirty x) : Sec x := by
  have := h.ok x hx
  have := h.top
  exact ⟨by omega, by omega⟩
theorem CInv.inSec {n : Nat} {z : CSt} (h : CInv n z) : InSec z.E := fun a b e => ⟨h.sec (h.ed a b e).1, h.sec (h.ed a b e).2⟩

theorem writeE_cases (d : D.St8) (n : Nat) (x : Int) (h0 : 0 ≤ x) (h1 : x < n) : D.writeE d n x = 0 ∨ D.writeE d n x = 22 := by
  have hr : D.refE d n x = 0 ∨ D.refE d n x = 22 := by
    unfold D.refE
    by_cases hd : d.dn = true
    · rw [if_pos hd]
      exact .inr rfl
    · rw [if_neg hd, if_neg (by omega)]
      exact .inl rfl
  unfold D.writeE
  rcases hr with h | h
  · rw [if_pos h]
    split
    · exact .inr rfl
    · exact .inl rfl
  · rw [if_neg (by rw [h]; decide)]
    exact .inr h
theorem writeD_wr (d : D.St8) (n : Nat) (x : Int) (s : List Int) : d.wr ≤ (D.writeD d n x s).wr ∧ (D.writeD d n x s).wr ≤ d.wr + 1 := by
  unfold D.writeD
  split
  · split
    · simp only
      omega
    · simp only
      omega
  · omega
theorem writeD_lf (d : D.St8) (n : Nat) (x : Int) (s : List Int) (h : 0 ≤ d.lf ∧ d.lf ≤ 9223372036854775807) : 0 ≤ (D.writeD d n x s).lf ∧ (D.writeD d n x s).lf ≤ 9223372036854775807 := by
  unfold D.writeD
  split
  · split
    · exact h
    · rename_i h1 h2
      simp only
      split
      · rename_i h3
        have : d.lf ≠ 0 := fun e => h2 ⟨h3, e⟩
        omega
      · exact h
  · exact h

theorem wrC_inv {n : Nat} {z : CSt} (h : CInv n z) (x : Int) : CInv n (wrC n z x).1 := by
  unfold wrC
  split
  · exact h
  · split
    · exact h
    · rename_i q hq
      have hw := writeD_wr z.d n x q.1
      have h0 := h.w0
      split
      · refine ⟨fun a b e => ?_, fun y hy => ?_, fun y r hy => ?_, noRing_del x h.ring, h.top, by simp only; omega, writeD_lf _ _ _ _ h.lf⟩
        · have := h.ed a b e.1
          unfold CSt.dirty
          simp only
          rw [if_neg e.2.1, if_neg e.2.2]
          exact this
        · refine h.ok y ?_
          unfold CSt.dirty at hy ⊢
          simp only at hy
          split at hy
          · cases hy
          · exact hy
        · simp only at hy
          split at hy
          · cases hy
          · exact h.ln y r hy
      · exact ⟨h.ed, h.ok, h.ln, h.ring, h.top, by simp only; omega, writeD_lf _ _ _ _ h.lf⟩

theorem forC_inv {n : Nat} {z : CSt} (h : CInv n z) (x : Int) : CInv n (forC z x) := by
  unfold forC
  refine ⟨fun a b e => ?_, fun y hy => ?_, fun y r hy => ?_, noRing_del x h.ring, h.top, h.w0, h.lf⟩
  · have := h.ed a b e.1
    unfold CSt.dirty
    simp only
    rw [if_neg e.2.1, if_neg e.2.2]
    exact this
  · refine h.ok y ?_
    unfold CSt.dirty at hy ⊢
    simp only at hy
    split at hy
    · cases hy
    · exact hy
  · simp only at hy
    split at hy
    · cases hy
    · exact h.ln y r hy

/-- There are not too many tags. -/
def TB (z : CSt) : Prop := z.ld.length + tsum z.P ≤ 17592186044000
theorem wrC_tb {n : Nat} {z : CSt} (h : CInv n z) (x : Int) (ht : TB z) : TB (wrC n z x).1 := by
  unfold wrC
  split
  · exact ht
  · split
    · exact ht
    · rename_i q hq
      split
      · have hx : Sec x := h.sec (by unfold CSt.dirty; rw [hq]; rfl)
        have hs := tsum_upd z.P x hx none
        unfold TB at ht ⊢
        rw [hq] at hs
        simp only [tl] at hs
        simp only [List.length_append]
        omega
      · exact ht
theorem wrC_wr {n : Nat} {z : CSt} (x : Int) : z.d.wr ≤ (wrC n z x).1.d.wr ∧ (wrC n z x).1.d.wr ≤ z.d.wr + 1 := by
  unfold wrC
  split
  · simp only
    omega
  · split
    · simp only
      omega
    · rename_i q hq
      have := writeD_wr z.d n x q.1
      split
      · exact this
      · exact this

/-- In a list of dirty ones that has with each one all from which an edge leads to it one is free. -/
theorem free_in {n : Nat} {z : CSt} (h : CInv n z) {l : List Int} (hne : l ≠ []) (hcl : ∀ a b, z.E a b → b ∈ l → a ∈ l) : ∃ x, x ∈ l ∧ FreeE z.E x := by
  obtain ⟨y, hy⟩ : ∃ y, y ∈ l := by
    cases l with
    | nil => exact absurd rfl hne
    | cons y l => exact ⟨y, by simp⟩
  obtain ⟨c, hc, hf⟩ := free_before h.ring 4096 y (few_sec.mono fun x hx => (hx.sec h.inSec).1)
  refine ⟨c, ?_, hf⟩
  rcases hc with rfl | hc
  · exact hy
  · clear hf
    induction hc with
    | one e => exact hcl _ _ e hy
    | more e _ ih => exact hcl _ _ e (ih hy)

end Go.Proofs.YtamoepninddbcaaGreat
