/-
  The rows' order, as the statement steps through it.
-/
import Derived.Test.YtpmignilhoihnaaGreatXC
namespace Go.Proofs.YtpmignilhoihnaaGreat
open Go.RowKit Go.Shelf

/-- The same first sector, and as many. -/
def Kp (a b : Img) : Prop := b.length = a.length ∧ b[0]? = a[0]?
theorem Kp.refl (a : Img) : Kp a a := ⟨rfl, rfl⟩
theorem Kp.trans {a b c : Img} (h : Kp a b) (k : Kp b c) : Kp a c := ⟨k.1.trans h.1, k.2.trans h.2⟩
theorem kp_set (a : Img) {k : Nat} (hk : 0 < k) (x : List Int) : Kp a (a.set k x) := ⟨by simp, by rw [List.getElem?_set_ne (by omega)]⟩
theorem Kp.sec {a b : Img} (h : Kp a b) : secI b 0 = secI a 0 := by
  unfold secI
  rw [List.getD_eq_getElem?_getD, List.getD_eq_getElem?_getD]
  show (b[0]?).getD Zs = (a[0]?).getD Zs
  rw [h.2]
def KpF (keep : KeepF) : Prop := ∀ s i n, Kp s.wt (keep s i n).2.wt
theorem claim_pos {N : Int} {M : Nat} {cl : Int → Bool} {n : Int} (h : claimB N M cl n = true) : 0 < n.toNat := by
  unfold claimB dataB at h
  simp only [Bool.and_eq_true, decide_eq_true_eq] at h
  omega
theorem block_kp (N M cnt : Int) : KpF (blockF N M cnt) := fun s i n => by
  unfold blockF
  split
  · exact Kp.refl _
  · exact Kp.refl _
theorem inner_kp {each f : Int} {keep : KeepF} (h : KpF keep) : KpF (innerF each f keep) := fun s _ p => h s _ p
theorem goK_kp {keep : KeepF} (h : KpF keep) (t0 : List Int) (s0 : TS) : ∀ k, Kp s0.wt (goK keep t0 s0 k).2.wt
  | 0 => Kp.refl _
  | k + 1 => (goK_kp h t0 s0 k).trans (h _ _ _)
theorem goF_kp {keep : KeepF} (h : KpF keep) (n : Int) (s : TS) (hn : 0 < n.toNat) : Kp s.wt (goF keep n s).2.wt := by
  have hk := goK_kp h (ptrsTo (secI s.wt n) 32) s 32
  unfold goF
  generalize goK keep (ptrsTo (secI s.wt n) 32) s 32 = r at *
  by_cases hz : r.1 = Zp
  · rw [if_pos hz]
    exact hk
  · rw [if_neg hz]
    exact hk.trans (kp_set _ hn _)
theorem table_kp {N : Int} {M : Nat} {cnt each : Int} {keep : KeepF} (h : KpF keep) : KpF (tableF N M cnt each keep) := fun s f n => by
  unfold tableF
  split
  · rename_i hc
    simp only [Bool.and_eq_true] at hc
    exact goF_kp (inner_kp h) n ⟨s.wt, putC s.cl n, s.sp⟩ (claim_pos hc.2)
  · exact Kp.refl _
theorem dblT_kp (N : Int) (M : Nat) (z : List Int) (wt : Img) (cl : Int → Bool) : Kp wt (dblT N M z wt cl).2.wt :=
  ((goK_kp (block_kp N M (cntZ z)) ((z.drop 4).take 12) ⟨wt, cl, []⟩ 12).trans (table_kp (block_kp N M (cntZ z)) _ _ _)).trans (table_kp (table_kp (block_kp N M (cntZ z))) _ _ _)
theorem takeL_kp (N : Int) (M : Nat) (z : List Int) (s : LS) : Kp s.wt (takeL N M z s).wt := by
  have h := dblT_kp N M z s.wt s.cl
  unfold takeL
  simp only
  split
  · exact h
  · refine h.trans ?_
    show Kp _ (wipeW _ _ _)
    unfold wipeW
    split
    · rename_i l hl
      refine kp_set _ ?_ _
      have hm : l ∈ (dblT N M z s.wt s.cl).2.sp := by
        unfold lastB at hl
        split at hl
        · rename_i l' hq
          split at hl
          · cases hl
            exact List.mem_of_getLast? hq
          · cases hl
        · cases hl
      have := dblT_ok N M z s.wt s.cl l hm
      omega
    · exact Kp.refl _
theorem enterL_kp (N : Int) (M : Nat) (im : Img) (i : Int) (s : LS) : Kp s.wt (enterL N M im i s).wt := by
  unfold enterL
  split
  · exact Kp.refl _
  · exact takeL_kp N M _ s
theorem slotL_kp (N : Int) (M : Nat) (im : Img) (n : Int) (r : List ByteArray × LS) (hn : 0 < n.toNat) : Kp r.2.wt (slotL N M im n r).2.wt := by
  unfold slotL
  simp only
  split
  · exact Kp.refl _
  · split
    · exact enterL_kp N M im _ r.2
    · exact kp_set _ hn _
theorem dirK_kp (N : Int) (M : Nat) (im : Img) : ∀ (l : List Int) (r : List ByteArray × LS), (∀ x ∈ l, 0 < x.toNat) → Kp r.2.wt (dirK N M im l r).2.wt
  | [], _, _ => Kp.refl _
  | n :: l, r, h => (slotL_kp N M im n r (h n List.mem_cons_self)).trans (dirK_kp N M im l _ fun x hx => h x (List.mem_cons_of_mem _ hx))
theorem allL_kp {c : LC} : ∀ (f : Nat) (s : LS), LOk c s → Kp s.wt (allL c.N c.M c.im f s).wt
  | 0, _, _ => Kp.refl _
  | f + 1, s, h => by
    cases hq : s.q with
    | nil => rw [allL_nil hq]; exact Kp.refl _
    | cons l q =>
      rw [allL_cons hq]
      refine Kp.trans ?_ (allL_kp f _ (dirL_ok (h.pop hq)))
      exact dirK_kp c.N c.M c.im l ([], { s with q := q }) fun x hx => by
        have := h.qd l (by rw [hq]; exact List.mem_cons_self) x hx
        omega
theorem layK_kp (tk : Int → Option (List Int)) (wt : Img) : ∀ k, Kp wt (layK tk wt k)
  | 0 => Kp.refl _
  | k + 1 => (layK_kp tk wt k).trans (kp_set _ (by omega) _)
theorem lookL_kp {M : Nat} {im : Img} (hr : rootB M im = true) : Kp im (lookL M im).wt := by
  obtain ⟨h1, _⟩ := rootB_parts.1 hr
  obtain ⟨c, hN, hM, hi⟩ : ∃ c : LC, c.N = im.length ∧ c.M = M ∧ c.im = im := ⟨⟨0, ⟨0, 0, 0, 0, 0, 0⟩, im.length, M, none, 0, 0, im⟩, rfl, rfl, rfl⟩
  have hMay : May c (startL im) 1 := by
    show (soundZ c.M c.im 1).2 = true
    rw [hM, hi]
    exact h1
  have hOk := enterL_ok (startL_ok c im) hMay
  have h2 := allL_kp (c := c) M _ hOk
  rw [hN, hM, hi] at h2
  exact ((enterL_kp im.length M im 1 (startL im)).trans h2).trans (layK_kp _ _ M)

end Go.Proofs.YtpmignilhoihnaaGreat

namespace Go.Proofs.YtpmignilhoihnaaGreat
open Go.RowKit Go.Shelf

def rowL (M : Nat) (im : Img) (s : LS) (j : Nat) : List Int := keysL im.length fun x => decide (wrKind M im s.wt s.wp x = j)
theorem writeI_rows (M : Nat) (im : Img) (s : LS) : writeI M im s = rowL M im s 0 ++ rowL M im s 1 ++ rowL M im s 2 := by
  simp [writeI, catK, rowL]
/-- How many of the first sectors differ. -/
def difN (im T : Img) : Nat → Nat
  | 0 => 0
  | k + 1 => difN im T k + if secI im (k : Int) = secI T (k : Int) then 0 else 1
theorem dif_rows (M : Nat) (im : Img) (s : LS) : ∀ k, difN im s.wt k = (keysL k fun x => decide (wrKind M im s.wt s.wp x = 0)).length + (keysL k fun x => decide (wrKind M im s.wt s.wp x = 1)).length + (keysL k fun x => decide (wrKind M im s.wt s.wp x = 2)).length
  | 0 => rfl
  | k + 1 => by
    have ih := dif_rows M im s k
    rw [difN, ih, keysL_succ, keysL_succ, keysL_succ]
    simp only [List.length_append]
    by_cases h1 : secI s.wt (k : Int) = secI im (k : Int)
    · have hk : wrKind M im s.wt s.wp (k : Int) = 3 := by unfold wrKind; rw [if_pos h1]
      rw [if_pos h1.symm, hk]
      simp
    · rw [if_neg (fun e => h1 e.symm)]
      by_cases h2 : (k : Int) ≤ M
      · have hk : wrKind M im s.wt s.wp (k : Int) = 1 := by unfold wrKind; rw [if_neg h1, if_pos h2]
        rw [hk]
        simp
        omega
      · by_cases h3 : s.wp (k : Int) = true
        · have hk : wrKind M im s.wt s.wp (k : Int) = 2 := by unfold wrKind; rw [if_neg h1, if_neg h2, if_pos h3]
          rw [hk]
          simp
          omega
        · have hk : wrKind M im s.wt s.wp (k : Int) = 0 := by unfold wrKind; rw [if_neg h1, if_neg h2, if_neg h3]
          rw [hk]
          simp
          omega
theorem dif_write (M : Nat) (im : Img) (s : LS) : difN im s.wt im.length = (writeI M im s).length := by
  rw [writeI_rows, List.length_append, List.length_append, dif_rows M im s]
  rfl
/-- What stands in the list. -/
theorem write_mem {M : Nat} {im : Img} {s : LS} {j : Nat} {x : Int} (hj : j < 3) (h : x ∈ rowL M im s j) : 0 ≤ x ∧ x < im.length ∧ secI s.wt x ≠ secI im x ∧ (j = 1 ↔ x ≤ M) := by
  obtain ⟨h0, h1, h2⟩ := keysL_mem.1 h
  have hk : wrKind M im s.wt s.wp x = j := of_decide_eq_true h2
  refine ⟨h0, h1, ?_⟩
  unfold wrKind at hk
  by_cases c1 : secI s.wt x = secI im x
  · rw [if_pos c1] at hk; omega
  · rw [if_neg c1] at hk
    refine ⟨c1, ?_⟩
    by_cases c2 : x ≤ M
    · rw [if_pos c2] at hk; exact ⟨fun _ => c2, fun _ => hk.symm⟩
    · rw [if_neg c2] at hk
      refine ⟨fun e => ?_, fun e => absurd e c2⟩
      split at hk <;> omega
theorem row_up (M : Nat) (im : Img) (s : LS) (j : Nat) : (rowL M im s j).Pairwise (· < ·) := keysL_up _ _
theorem rows_apart {M : Nat} {im : Img} {s : LS} {i j : Nat} {x : Int} (h : x ∈ rowL M im s i) (k : x ∈ rowL M im s j) : i = j := by
  have h1 := of_decide_eq_true (keysL_mem.1 h).2.2
  have h2 := of_decide_eq_true (keysL_mem.1 k).2.2
  omega

end Go.Proofs.YtpmignilhoihnaaGreat

namespace Go.Proofs.YtpmignilhoihnaaGreat
open Go.RowKit Go.Shelf

/-- A step of the statement's loop: which row it is in, the last number, the next one, the row then. -/
inductive Stp (M : Int) : Int → Int → Int → Int → Prop
  | s1 {l n : Int} : ¬ n ≤ M → l < n → Stp M 0 l n 0
  | s2 {l n : Int} : n ≤ M → Stp M 0 l n 1
  | s3 {l n : Int} : n ≤ M → l < n → Stp M 1 l n 1
  | s4 {l n : Int} : ¬ n ≤ M → n < l → Stp M 0 l n 2
  | s5 {l n : Int} : ¬ n ≤ M → Stp M 1 l n 2
  | s6 {l n : Int} : ¬ n ≤ M → l < n → Stp M 2 l n 2
section
variable {M : Nat} {P Q R : List Int}
/-- What is known ahead of the i-th. -/
def RInv (P Q R : List Int) (i : Nat) (row last : Int) : Prop :=
  (i = 0 → last = -1) ∧ (0 < i → last = (P ++ Q ++ R).getD (i - 1) 0) ∧
  ((i ≤ P.length ∧ row = 0) ∨ (P.length < i ∧ i ≤ P.length + Q.length ∧ row = 1) ∨ (P.length + Q.length < i ∧ (row = 2 ∨ row = 0 ∧ Q.length = 0)))
theorem getP {i : Nat} (h : i < P.length) : (P ++ Q ++ R).getD i 0 = P.getD i 0 := by
  rw [List.append_assoc, List.getD_eq_getElem?_getD, List.getElem?_append_left h, ← List.getD_eq_getElem?_getD]
theorem getQ {i : Nat} (h0 : P.length ≤ i) (h : i < P.length + Q.length) : (P ++ Q ++ R).getD i 0 = Q.getD (i - P.length) 0 := by
  rw [List.append_assoc, List.getD_eq_getElem?_getD, List.getElem?_append_right h0, List.getElem?_append_left (by omega), ← List.getD_eq_getElem?_getD]
theorem getR {i : Nat} (h0 : P.length + Q.length ≤ i) : (P ++ Q ++ R).getD i 0 = R.getD (i - (P.length + Q.length)) 0 := by
  rw [List.getD_eq_getElem?_getD, List.getElem?_append_right (by rw [List.length_append]; exact h0), ← List.getD_eq_getElem?_getD, List.length_append]
theorem getD_mem {l : List Int} {i : Nat} (h : i < l.length) : l.getD i 0 ∈ l := by
  rw [List.getD_eq_getElem?_getD, List.getElem?_eq_getElem h]
  exact List.getElem_mem h
theorem up_at {l : List Int} (h : l.Pairwise (· < ·)) {i j : Nat} (hij : i < j) (hj : j < l.length) : l.getD i 0 < l.getD j 0 := by
  rw [List.getD_eq_getElem?_getD, List.getD_eq_getElem?_getD, List.getElem?_eq_getElem hj, List.getElem?_eq_getElem (by omega)]
  exact List.pairwise_iff_getElem.1 h i j (by omega) hj hij
theorem RInv.step (hP : P.Pairwise (· < ·)) (hQ : Q.Pairwise (· < ·)) (hR : R.Pairwise (· < ·)) (pP : ∀ x ∈ P, 0 ≤ x ∧ ¬ x ≤ (M : Int)) (pQ : ∀ x ∈ Q, 0 ≤ x ∧ x ≤ (M : Int)) (pR : ∀ x ∈ R, 0 ≤ x ∧ ¬ x ≤ (M : Int)) (hd : ∀ x ∈ P, x ∉ R)
    {i : Nat} {row last : Int} (h : RInv P Q R i row last) (hi : i < (P ++ Q ++ R).length) : ∃ row', Stp M row last ((P ++ Q ++ R).getD i 0) row' ∧ RInv P Q R (i + 1) row' ((P ++ Q ++ R).getD i 0) := by
  obtain ⟨h1, h2, h3⟩ := h
  simp only [List.length_append] at hi
  have mk : ∀ row' : Int, ((i + 1 ≤ P.length ∧ row' = 0) ∨ (P.length < i + 1 ∧ i + 1 ≤ P.length + Q.length ∧ row' = 1) ∨ (P.length + Q.length < i + 1 ∧ (row' = 2 ∨ row' = 0 ∧ Q.length = 0))) → RInv P Q R (i + 1) row' ((P ++ Q ++ R).getD i 0) := fun row' hh => ⟨fun e => by omega, fun _ => rfl, hh⟩
  by_cases cP : i < P.length
  · have en := getP (Q := Q) (R := R) cP
    have hm := pP _ (getD_mem cP)
    have hrow : row = 0 := by rcases h3 with h | h | h <;> omega
    subst hrow
    refine ⟨0, ?_, mk 0 (.inl ⟨by omega, rfl⟩)⟩
    rw [en]
    refine .s1 hm.2 ?_
    rcases Nat.eq_zero_or_pos i with e | e
    · rw [h1 e]; omega
    · rw [h2 e, getP (by omega)]
      exact up_at hP (by omega) cP
  · by_cases cQ : i < P.length + Q.length
    · have en := getQ (R := R) (by omega) cQ
      have hm := pQ _ (getD_mem (l := Q) (i := i - P.length) (by omega))
      refine ⟨1, ?_, mk 1 (.inr (.inl ⟨by omega, by omega, rfl⟩))⟩
      rw [en]
      rcases h3 with ⟨_, rfl⟩ | ⟨h4, _, rfl⟩ | ⟨h4, _⟩
      · exact .s2 hm.2
      · refine .s3 hm.2 ?_
        rw [h2 (by omega), getQ (by omega) (by omega)]
        exact up_at hQ (by omega) (by omega)
      · omega
    · have en := getR (P := P) (Q := Q) (R := R) (i := i) (by omega)
      have hm := pR _ (getD_mem (l := R) (i := i - (P.length + Q.length)) (by omega))
      have hmR := getD_mem (l := R) (i := i - (P.length + Q.length)) (by omega)
      rw [en]
      rw [en] at mk
      rcases h3 with ⟨h4, rfl⟩ | ⟨_, _, rfl⟩ | ⟨h4, hr⟩
      · have q0 : Q.length = 0 := by omega
        rcases Nat.eq_zero_or_pos i with e | e
        · exact ⟨0, .s1 hm.2 (by rw [h1 e]; omega), mk 0 (.inr (.inr ⟨by omega, .inr ⟨rfl, q0⟩⟩))⟩
        · have el := h2 e
          rw [getP (by omega)] at el
          have hne : last ≠ R.getD (i - (P.length + Q.length)) 0 := fun e' => hd last (by rw [el]; exact getD_mem (by omega)) (by rw [e']; exact hmR)
          by_cases hlt : last < R.getD (i - (P.length + Q.length)) 0
          · exact ⟨0, .s1 hm.2 hlt, mk 0 (.inr (.inr ⟨by omega, .inr ⟨rfl, q0⟩⟩))⟩
          · exact ⟨2, .s4 hm.2 (by omega), mk 2 (.inr (.inr ⟨by omega, .inl rfl⟩))⟩
      · exact ⟨2, .s5 hm.2, mk 2 (.inr (.inr ⟨by omega, .inl rfl⟩))⟩
      · have el := h2 (by omega)
        rw [getR (by omega)] at el
        have hlt : last < R.getD (i - (P.length + Q.length)) 0 := by
          rw [el]
          exact up_at hR (by omega) (by omega)
        rcases hr with rfl | ⟨rfl, q0⟩
        · exact ⟨2, .s6 hm.2 hlt, mk 2 (.inr (.inr ⟨by omega, .inl rfl⟩))⟩
        · exact ⟨0, .s1 hm.2 hlt, mk 0 (.inr (.inr ⟨by omega, .inr ⟨rfl, q0⟩⟩))⟩
end

end Go.Proofs.YtpmignilhoihnaaGreat
