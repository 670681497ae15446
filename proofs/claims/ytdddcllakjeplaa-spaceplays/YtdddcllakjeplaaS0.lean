/-
  A space, without a program: which inodes are in use, how each sector stands (0 free, 1 in use, 2 free later).
-/
import Derived.Test.YtdddcllakjeplaaBitsP
import Derived.Test.YtdddcllakjeplaaSMap
namespace Go.Proofs.Ytdddcllakjeplaa
open Go.RowKit

structure SS where
  ns : Nat
  ni : Nat
  I : List Bool
  T : List Nat
structure SS.Ok (s : SS) : Prop where
  n1 : 8 ≤ s.ns
  n2 : s.ns ≤ 4096
  i1 : 1 ≤ s.ni
  i2 : s.ni ≤ 512
  i3 : s.ni + 2 ≤ s.ns
  lI : s.I.length = s.ni + 1
  lT : s.T.length = s.ns
  I0 : hasL s.I 0 = false
  I1 : hasL s.I 1 = true
  t0 : ∀ k : Nat, k ≤ s.ni → s.T.getD k 0 = 0
  t2 : ∀ x, x ∈ s.T → x ≤ 2

/-- How a number stands: those that are none stand at 0. -/
def atT (T : List Nat) (i : Int) : Nat := if 0 ≤ i then T.getD i.toNat 0 else 0
theorem atT_nat (T : List Nat) (i : Nat) : atT T (i : Int) = T.getD i 0 := by unfold atT; rw [if_pos (by omega), Int.toNat_natCast]
theorem atT_out (T : List Nat) (i : Int) (h : ¬ (0 ≤ i ∧ i < T.length)) : atT T i = 0 := by
  unfold atT
  split
  · rw [List.getD_eq_getElem?_getD, List.getElem?_eq_none (by omega)]; rfl
  · rfl
theorem atT_in {T : List Nat} {i : Int} (h : atT T i ≠ 0) : 0 ≤ i ∧ i < T.length := by
  by_cases c : 0 ≤ i ∧ i < T.length
  · exact c
  · exact absurd (atT_out T i c) h
def putT (T : List Nat) (i : Int) (v : Nat) : List Nat := T.set i.toNat v
theorem putT_len (T : List Nat) (i : Int) (v : Nat) : (putT T i v).length = T.length := by simp [putT]
theorem atT_put (T : List Nat) (i j : Int) (v : Nat) (hi : 0 ≤ i ∧ i < T.length) : atT (putT T i v) j = if j = i then v else atT T j := by
  obtain ⟨I, rfl⟩ := Int.eq_ofNat_of_zero_le hi.1
  unfold putT
  rw [Int.toNat_natCast]
  by_cases h0 : 0 ≤ j
  · obtain ⟨J, rfl⟩ := Int.eq_ofNat_of_zero_le h0
    rw [atT_nat, atT_nat, List.getD_eq_getElem?_getD, List.getElem?_set]
    by_cases e : I = J
    · subst e; rw [if_pos rfl, if_pos (by omega), if_pos rfl]; rfl
    · rw [if_neg e, if_neg (by omega), List.getD_eq_getElem?_getD]
  · rw [if_neg (by omega)]
    simp [atT, h0]
theorem putT_mem {T : List Nat} {i : Int} {v x : Nat} (h : x ∈ putT T i v) : x ∈ T ∨ x = v := List.mem_or_eq_of_mem_set h
theorem atT_le {T : List Nat} (h : ∀ x, x ∈ T → x ≤ 2) (i : Int) : atT T i ≤ 2 := by
  unfold atT
  split
  · rw [List.getD_eq_getElem?_getD]
    cases hq : T[i.toNat]? with
    | none => simp
    | some x => exact h x (List.mem_of_getElem? hq)
  · omega

/-- Which bits are set. -/
def bt (T : List Nat) : List Bool := T.map fun x => !(x == 0)
theorem bt_len (T : List Nat) : (bt T).length = T.length := by simp [bt]
theorem bt_has (T : List Nat) (i : Int) : hasL (bt T) i = !(atT T i == 0) := by
  unfold hasL atT bt
  by_cases h : 0 ≤ i
  · rw [decide_eq_true h, if_pos h, Bool.true_and, List.getD_eq_getElem?_getD, List.getD_eq_getElem?_getD, List.getElem?_map]
    cases T[i.toNat]? <;> rfl
  · rw [decide_eq_false h, if_neg h]; rfl
theorem bt_put (T : List Nat) (i : Int) (v : Nat) (h : 0 ≤ i) : bt (putT T i v) = putL (bt T) i (!(v == 0)) := by
  unfold putL bt putT
  rw [if_pos h, List.map_set]
theorem bt_count : ∀ (T : List Nat), (∀ x, x ∈ T → x ≤ 2) → (bt T).count true = T.count 1 + T.count 2
  | [], _ => rfl
  | x :: t, h => by
    have ih := bt_count t (fun y hy => h y (by simp [hy]))
    have hx := h x (by simp)
    unfold bt at *
    rw [List.map_cons, List.count_cons, List.count_cons, List.count_cons, ih]
    have : x = 0 ∨ x = 1 ∨ x = 2 := by omega
    rcases this with rfl | rfl | rfl <;> simp <;> omega
theorem count_putT (T : List Nat) (i : Int) (v a : Nat) (h : 0 ≤ i ∧ i < T.length) : (putT T i v).count a + (if atT T i = a then 1 else 0) = T.count a + (if v = a then 1 else 0) := by
  obtain ⟨I, rfl⟩ := Int.eq_ofNat_of_zero_le h.1
  have hI : I < T.length := by omega
  have e : T.getD I 0 = T[I] := by rw [List.getD_eq_getElem?_getD, List.getElem?_eq_getElem hI]; rfl
  rw [atT_nat, e]
  unfold putT
  rw [Int.toNat_natCast, List.count_set hI]
  have hp : T[I] = a → 1 ≤ T.count a := fun e => List.count_pos_iff.2 (e ▸ List.getElem_mem hI)
  by_cases c : T[I] = a
  · have := hp c
    by_cases d : v = a <;> simp [c, d] <;> omega
  · by_cases d : v = a <;> simp [c, d]

/-- Those that are free later. -/
def Late (T : List Nat) (x : Int) : Prop := atT T x = 2
def lateL : Nat → List Nat → List Int
  | _, [] => []
  | k, x :: t => if x = 2 then (k : Int) :: lateL (k + 1) t else lateL (k + 1) t
theorem lateL_ge : ∀ (k : Nat) (T : List Nat) (x : Int), x ∈ lateL k T → (k : Int) ≤ x
  | _, [], x, h => by simp [lateL] at h
  | k, y :: t, x, h => by
    unfold lateL at h
    split at h
    · rcases List.mem_cons.1 h with e | e
      · omega
      · have := lateL_ge (k + 1) t x e; omega
    · have := lateL_ge (k + 1) t x h; omega
theorem lateL_pw : ∀ (k : Nat) (T : List Nat), (lateL k T).Pairwise (· ≠ ·)
  | _, [] => List.Pairwise.nil
  | k, y :: t => by
    unfold lateL
    split
    · refine List.Pairwise.cons (fun x hx e => ?_) (lateL_pw (k + 1) t)
      have := lateL_ge (k + 1) t x hx
      omega
    · exact lateL_pw (k + 1) t
theorem lateL_len : ∀ (k : Nat) (T : List Nat), (lateL k T).length = T.count 2
  | _, [] => rfl
  | k, y :: t => by
    have ih := lateL_len (k + 1) t
    unfold lateL
    rw [List.count_cons]
    split
    · next e => subst e; simp [ih]
    · next e => simp [ih, e]
theorem lateL_mem : ∀ (k : Nat) (T : List Nat) (x : Int), x ∈ lateL k T ↔ atT T (x - k) = 2
  | k, [], x => by simp [lateL, atT]
  | k, y :: t, x => by
    have ih := lateL_mem (k + 1) t x
    by_cases hk : x = (k : Int)
    · subst hk
      have hn : ¬ ((k : Int) ∈ lateL (k + 1) t) := fun h => by have := lateL_ge _ _ _ h; omega
      have e : atT (y :: t) ((k : Int) - k) = y := by rw [show (k : Int) - k = ((0 : Nat) : Int) by omega, atT_nat]; rfl
      rw [e]
      unfold lateL
      by_cases c : y = 2
      · simp [c]
      · simp [c, hn]
    · have e : atT (y :: t) (x - k) = atT t (x - (k + 1 : Nat)) := by
        by_cases c : (k : Int) < x
        · obtain ⟨j, hj⟩ := Int.eq_ofNat_of_zero_le (show 0 ≤ x - (k + 1 : Nat) by omega)
          rw [hj, show x - (k : Int) = ((j + 1 : Nat) : Int) by omega, atT_nat, atT_nat]
          rfl
        · unfold atT
          rw [if_neg (by omega), if_neg (by omega)]
      rw [e, ← ih, show lateL k (y :: t) = if y = 2 then (k : Int) :: lateL (k + 1) t else lateL (k + 1) t from rfl]
      by_cases c : y = 2
      · simp [c, hk]
      · simp [c]
theorem late_mem (T : List Nat) (x : Int) : x ∈ lateL 0 T ↔ Late T x := by
  rw [lateL_mem]
  simp [Late]
theorem count_le_len (T : List Nat) (a : Nat) : T.count a ≤ T.length := List.count_le_length

/-- The room. -/
def SS.rb (s : SS) : Int := (s.ns : Int) - s.ni - 1 - (s.T.count 1 : Nat)
def SS.rl (s : SS) : Int := (s.T.count 2 : Nat)
def SS.ri (s : SS) : Int := (s.ni : Int) - (s.I.count true : Nat)
def SS.setT (s : SS) (i : Int) (v : Nat) : SS := { s with T := putT s.T i v }
def SS.setI (s : SS) (i : Int) (b : Bool) : SS := { s with I := putL s.I i b }
/-- A data sector; an inode. -/
def SS.dat (s : SS) (i : Int) : Prop := (s.ni : Int) < i ∧ i < s.ns
theorem SS.Ok.dat_of {s : SS} (h : s.Ok) {i : Int} (hi : atT s.T i ≠ 0) : s.dat i := by
  obtain ⟨h1, h2⟩ := atT_in hi
  rw [h.lT] at h2
  obtain ⟨I, rfl⟩ := Int.eq_ofNat_of_zero_le h1
  refine ⟨?_, h2⟩
  rw [atT_nat] at hi
  have := h.t0 I
  omega
theorem SS.Ok.setT {s : SS} (h : s.Ok) {i : Int} {v : Nat} (hi : s.dat i) (hv : v ≤ 2) : (s.setT i v).Ok := by
  refine ⟨h.n1, h.n2, h.i1, h.i2, h.i3, h.lI, by show (putT _ _ _).length = _; rw [putT_len]; exact h.lT, h.I0, h.I1, fun k hk => ?_, fun x hx => ?_⟩
  · have hk : k ≤ s.ni := hk
    show (putT s.T i v).getD k 0 = 0
    rw [← atT_nat, atT_put _ _ _ _ ⟨by have := hi.1; omega, by rw [h.lT]; exact hi.2⟩, if_neg (by have := hi.1; omega), atT_nat]
    exact h.t0 k hk
  · rcases putT_mem hx with e | e
    · exact h.t2 x e
    · omega
theorem SS.Ok.setI {s : SS} (h : s.Ok) {i : Int} {b : Bool} (hi : 2 ≤ i) (h2 : i ≤ s.ni) : (s.setI i b).Ok := by
  have hl : 0 ≤ i ∧ i < s.I.length := ⟨by omega, by rw [h.lI]; omega⟩
  refine ⟨h.n1, h.n2, h.i1, h.i2, h.i3, by show (putL _ _ _).length = _; rw [putL_len]; exact h.lI, h.lT, ?_, ?_, h.t0, h.t2⟩
  · show hasL (putL s.I i b) 0 = false
    rw [hasL_put _ _ _ _ hl, if_neg (by omega)]
    exact h.I0
  · show hasL (putL s.I i b) 1 = true
    rw [hasL_put _ _ _ _ hl, if_neg (by omega)]
    exact h.I1
theorem SS.Ok.ino_of {s : SS} (h : s.Ok) {i : Int} (hi : hasL s.I i = true) : 1 ≤ i ∧ i ≤ s.ni := by
  by_cases c : 0 ≤ i ∧ i < s.I.length
  · rw [h.lI] at c
    refine ⟨?_, by omega⟩
    by_cases e : i = 0
    · rw [e, h.I0] at hi; cases hi
    · omega
  · rw [hasL_out _ _ c] at hi; cases hi
/-- Nothing is taken. -/
def nil0 (ns ni : Nat) : SS := ⟨ns, ni, putL (noneL (ni + 1)) 1 true, List.replicate ns 0⟩
theorem zero_at (n : Nat) (i : Int) : atT (List.replicate n 0) i = 0 := by
  unfold atT
  split
  · rw [List.getD_eq_getElem?_getD, List.getElem?_replicate]; split <;> rfl
  · rfl
theorem nil0_ok (ns ni : Nat) (h1 : 8 ≤ ns) (h2 : ns ≤ 4096) (h3 : 1 ≤ ni) (h4 : ni ≤ 512) (h5 : ni + 2 ≤ ns) : (nil0 ns ni).Ok := by
  have hl : (0 : Int) ≤ 1 ∧ (1 : Int) < ((noneL (ni + 1)).length : Nat) := ⟨by decide, by rw [noneL_len]; omega⟩
  refine ⟨h1, h2, h3, h4, h5, by show (putL (noneL (ni + 1)) 1 true).length = ni + 1; rw [putL_len, noneL_len], by simp [nil0], ?_, ?_, fun k _ => ?_, fun x hx => ?_⟩
  · show hasL (putL (noneL (ni + 1)) 1 true) 0 = false
    rw [hasL_put _ _ _ _ hl, if_neg (by decide), noneL_has]
  · show hasL (putL (noneL (ni + 1)) 1 true) 1 = true
    rw [hasL_put _ _ _ _ hl, if_pos rfl]
  · rw [← atT_nat]; exact zero_at _ _
  · have := List.eq_of_mem_replicate hx
    omega

/-- What FreeInode tells, what Later and Landed tell. -/
def SS.freeE (s : SS) (i : Int) : Int := if i = 1 ∨ hasL s.I i = false then 82 else 0
def SS.freeS (s : SS) (i : Int) : SS := if i = 1 ∨ hasL s.I i = false then s else s.setI i false
def SS.laterE (s : SS) (b : Int) : Int := if atT s.T b = 1 then 0 else 82
def SS.laterS (s : SS) (b : Int) : SS := if atT s.T b = 1 then s.setT b 2 else s
def landL : List Nat → List Int → List Nat
  | T, [] => T
  | T, b :: l => landL (if atT T b = 2 then putT T b 0 else T) l
def SS.takeS (s : SS) (x : Int) (b : Bool) : SS := if b = true then s.setT x 1 else s
def SS.takeI (s : SS) (x : Int) (b : Bool) : SS := if b = true then s.setI x true else s

end Go.Proofs.Ytdddcllakjeplaa
