/-
  What sectors that were written say, for the looks side by side.
-/
import Derived.Test.YtboammbcoleicaaGreatLP2
import Derived.Test.YtboammbcoleicaaGreatLI4
import Derived.Test.YtboammbcoleicaaGreatLN2
import Derived.Test.YtboammbcoleicaaGreatL3
import Derived.Test.YtboammbcoleicaaGreatXC
namespace Go.Proofs.YtboammbcoleicaaGreat
open Go.RowKit

theorem numAt_congr {s t : List Int} {p : Nat} : ∀ m : Nat, (∀ j, j < m → s.getD (p + j) 0 = t.getD (p + j) 0) → numAt s p m = numAt t p m
  | 0, _ => rfl
  | m + 1, h => by
    rw [numAt, numAt, numAt_congr m (fun j hj => h j (by omega)), h m (by omega)]
theorem numAt_keep {s : List Int} {p k q m : Nat} {v : Int} (h : p + k ≤ s.length) (hd : q + m ≤ p ∨ p + k ≤ q) : numAt (putN s p v k) q m = numAt s q m :=
  numAt_congr m fun j hj => by rw [putN_get _ _ _ _ h, if_neg (by omega)]

/-- Two places that have nothing in common. -/
def Apt (a b : Num) : Prop := a.1.toNat + a.2.1.toNat ≤ b.1.toNat ∨ b.1.toNat + b.2.1.toNat ≤ a.1.toNat
def layF (l : List Num) (s : List Int) : List Int := l.foldl (fun s n => putN s n.1.toNat n.2.2 n.2.1.toNat) s
theorem okN_bd {n : Num} (h : okN n) : n.1.toNat + n.2.1.toNat ≤ 128 ∧ 1 ≤ n.2.1.toNat ∧ n.2.1.toNat ≤ 8 ∧ 0 ≤ n.2.2 ∧ n.2.2 ≤ top ∧ n.2.2 < 256 ^ n.2.1.toNat ∧ (n.1.toNat : Int) = n.1 ∧ (n.2.1.toNat : Int) = n.2.1 := by
  have h1 := of_decide_eq_true h.1
  have h2 := of_decide_eq_true h.2
  refine ⟨by omega, by omega, by omega, h2.1, h2.2.1, ?_, by omega, by omega⟩
  exact h2.2.2
theorem layF_len : ∀ (l : List Num) (s : List Int), (layF l s).length = s.length := by
  intro l
  induction l with
  | nil => intro s; rfl
  | cons n r ih => intro s; show (layF r _).length = _; rw [ih, putN_len]
theorem layF_keep : ∀ (l : List Num) (s : List Int) (n : Num), s.length = 128 → (∀ m ∈ l, okN m) → (∀ m ∈ l, Apt n m) → numAt (layF l s) n.1.toNat n.2.1.toNat = numAt s n.1.toNat n.2.1.toNat := by
  intro l
  induction l with
  | nil => intro s n _ _ _; rfl
  | cons x r ih =>
    intro s n hs hok hap
    have hx := okN_bd (hok x (by simp))
    show numAt (layF r (putN s x.1.toNat x.2.2 x.2.1.toNat)) _ _ = _
    rw [ih _ n (by rw [putN_len, hs]) (fun m hm => hok m (by simp [hm])) (fun m hm => hap m (by simp [hm])), numAt_keep (by rw [hs]; exact hx.1) (by have := hap x (by simp); unfold Apt at this; omega)]
theorem layF_get : ∀ (l : List Num) (s : List Int), s.length = 128 → (∀ m ∈ l, okN m) → l.Pairwise Apt → ∀ n ∈ l, numAt (layF l s) n.1.toNat n.2.1.toNat = n.2.2 := by
  intro l
  induction l with
  | nil => intro s _ _ _ n hn; cases hn
  | cons x r ih =>
    intro s hs hok hap n hn
    rw [List.pairwise_cons] at hap
    have hx := okN_bd (hok x (by simp))
    show numAt (layF r (putN s x.1.toNat x.2.2 x.2.1.toNat)) _ _ = _
    rcases List.mem_cons.1 hn with rfl | h
    · rw [layF_keep r _ n (by rw [putN_len, hs]) (fun m hm => hok m (by simp [hm])) hap.1, numAt_put _ _ _ _ (by rw [hs]; exact hx.1) hx.2.2.2.1 hx.2.2.2.2.2.1]
    · exact ih _ (by rw [putN_len, hs]) (fun m hm => hok m (by simp [hm])) hap.2 n h
theorem lay_get {l : List Num} (hok : ∀ m ∈ l, okN m) (hap : l.Pairwise Apt) {n : Num} (hn : n ∈ l) : numAt (layS l) n.1.toNat n.2.1.toNat = n.2.2 := layF_get l Zs Zs_len hok hap n hn
theorem lay_getV {l : List Num} (hok : ∀ m ∈ l, okN m) (hap : l.Pairwise Apt) {n : Num} (hn : n ∈ l) : getV (layS l) n.1 n.2.1 = n.2.2 := by
  have h1 := lay_get hok hap hn
  have hb := okN_bd (hok n hn)
  have hin : inB n.1 n.2.1 = true := (hok n hn).1
  unfold getV getE getN
  rw [h1]
  simp only [hin, hb.2.2.2.2.1, if_true, and_self]
theorem apt_range (f : Nat → Num) (N : Nat) (h : ∀ i j, i < j → j < N → Apt (f i) (f j)) : ((List.range N).map f).Pairwise Apt := by
  rw [List.pairwise_map]
  refine List.Pairwise.imp_of_mem ?_ List.pairwise_lt_range
  intro i j hi hj hij
  exact h i j hij (List.mem_range.1 hj)

/-- first sectors -/
theorem sup_back {a b : Int} (h : supB a b = true) : rdSup (getV (supS a b) 4 4) (getV (supS a b) 8 4) (supS a b) = (a, b, 0) := by
  have hs : supS a b = layS (numsSup a b) := by unfold supS; rw [if_pos h]
  have hbd := of_decide_eq_true (show decide _ = true from h)
  have hok := sup_ok hbd
  have hap : (numsSup a b).Pairwise Apt := by
    unfold numsSup Apt
    simp
  have e1 : getV (supS a b) 4 4 = a := by rw [hs]; exact lay_getV hok hap (n := (4, 4, a)) (by simp [numsSup])
  have e2 : getV (supS a b) 8 4 = b := by rw [hs]; exact lay_getV hok hap (n := (8, 4, b)) (by simp [numsSup])
  rw [e1, e2, rdSup, if_pos ⟨h, rfl⟩]
/-- inodes -/
theorem ino_back {z : List Int} (hz : z.length = 18) (h : inoB z = true) : rdIno (zTo (inoS z) 18) (inoS z) = (z, 0) := by
  have hs : inoS z = layS (numsIno z 18) := by unfold inoS; rw [if_pos h]
  have hok := ino_ok h
  have hap : (numsIno z 18).Pairwise Apt := by
    refine apt_range _ 18 fun i j hij hj => ?_
    have key : ∀ j, j < 18 → ∀ i, i < j → (pls.getD i (0, 0)).1.toNat + (pls.getD i (0, 0)).2.toNat ≤ (pls.getD j (0, 0)).1.toNat := by decide
    exact .inl (key j hj i hij)
  have e : zTo (inoS z) 18 = z := by
    apply ext_getD (by rw [zTo_len, hz])
    intro k hk
    rw [zTo_len] at hk
    have e1 : (zTo (inoS z) 18).getD k 0 = gv (inoS z) k := by simp [zTo, hk]
    rw [e1, hs]
    exact lay_getV hok hap (n := numI z k) (List.mem_map.2 ⟨k, List.mem_range.2 hk, rfl⟩)
  rw [e, rdIno, if_pos ⟨h, rfl⟩]
/-- pointers -/
theorem ptr_back {x : List Int} (hx : x.length = 32) (h : ptrB x = true) : ptrsTo (ptrS x) 32 = x := by
  have hs : ptrS x = layS (numsPtr x 32) := by unfold ptrS; rw [if_pos h]
  have hall : ∀ i, i < 32 → okP x i := fun i hi => by
    have := List.all_eq_true.1 h i (List.mem_range.2 hi)
    unfold okP
    exact of_decide_eq_true this
  have hok := ptr_ok hall
  have hap : (numsPtr x 32).Pairwise Apt := by
    refine apt_range _ 32 fun i j hij hj => ?_
    unfold Apt numP
    left
    show (4 * (i : Int)).toNat + 4 ≤ (4 * (j : Int)).toNat
    omega
  apply ext_getD (by rw [ptrsTo_len, hx])
  intro k hk
  rw [ptrsTo_len] at hk
  have e1 : (ptrsTo (ptrS x) 32).getD k 0 = numAt (ptrS x) (4 * k) 4 := by simp [ptrsTo, hk]
  rw [e1, hs]
  have := lay_get hok hap (n := numP x k) (List.mem_map.2 ⟨k, List.mem_range.2 hk, rfl⟩)
  have e2 : (4 * (k : Int)).toNat = 4 * k := by omega
  unfold numP at this
  rw [e2] at this
  exact this

/-- slots -/
theorem strOf_bytes (s : ByteArray) : strOf (bytesI s) = s := by
  unfold strOf bytesI
  cases s with
  | mk d =>
    congr 1
    rw [List.map_map]
    have e : ((fun n : Int => UInt8.ofNat n.toNat) ∘ fun b : UInt8 => (b.toNat : Int)) = id := by
      funext b; simp
    rw [e, List.map_id]
theorem slot_back {n : Int} {s : ByteArray} (h : slotB n s = true) : rdSlot (getV (slotS n s) 0 4) (slotS n s) = (n, s, 0) := by
  have hs : slotS n s = spl (layS (numsSlot n s)) 5 (bytesI s) := by unfold slotS; rw [if_pos h]
  have hbd := slot_bd h
  have hok := slot_ok h
  have hap : (numsSlot n s).Pairwise Apt := by
    unfold numsSlot Apt
    simp
  have hl : (layS (numsSlot n s)).length = 128 := (layS_sec _).1
  have hbl := bytesI_len s
  have hroom : 5 + (bytesI s).length ≤ (layS (numsSlot n s)).length := by rw [hl, hbl]; omega
  have hlow : ∀ i, i < 5 → (slotS n s).getD i 0 = (layS (numsSlot n s)).getD i 0 := fun i hi => by
    rw [hs, spl_get _ _ _ hroom, if_neg (by omega)]
  have e1 : numAt (slotS n s) 0 4 = n := by
    rw [numAt_congr (t := layS (numsSlot n s)) 4 (fun j hj => by rw [Nat.zero_add]; exact hlow j (by omega))]
    exact lay_get hok hap (n := (0, 4, n)) (by simp [numsSlot])
  have e2 : numAt (slotS n s) 4 1 = s.size := by
    rw [numAt_congr (t := layS (numsSlot n s)) 1 (fun j hj => hlow (4 + j) (by omega))]
    exact lay_get hok hap (n := (4, 1, (s.size : Int))) (by simp [numsSlot])
  have e3 : szOf (slotS n s) = s.size := by
    simp only [numAt, Nat.add_zero, Int.pow_zero, Int.mul_one] at e2
    unfold szOf
    omega
  have e4 : nameOf (slotS n s) = s := by
    unfold nameOf
    rw [e3, hs]
    unfold spl
    rw [List.drop_append_of_le_length (by rw [List.length_take, hl]; omega), List.drop_eq_nil_of_le (by rw [List.length_take]; omega), List.nil_append, ← hbl, List.take_append_of_le_length (Nat.le_refl _), List.take_length]
    exact strOf_bytes s
  have e5 : getV (slotS n s) 0 4 = n := by
    have := getV_small (P := 0) (L := 4) (slotS_sec n s) (by decide) (by decide) (by decide)
    rw [e1] at this
    exact this
  rw [e5, rdSlot, e3, e4, if_pos ⟨hbd.2.2, h, rfl⟩]

end Go.Proofs.YtboammbcoleicaaGreat

namespace Go.Proofs.YtboammbcoleicaaGreat
open Go.RowKit Go.Shelf

/-- The same first sector, and as many. -/
def Kp (a b : Img) : Prop := b.length = a.length ∧ b[0]? = a[0]?
theorem Kp.refl (a : Img) : Kp a a := ⟨rfl, rfl⟩
theorem Kp.trans {a b c : Img} (h : Kp a b) (k : Kp b c) : Kp a c := ⟨k.1.trans h.1, k.2.trans h.2⟩
theorem kp_set (a : Img) {k : Nat} (hk : 0 < k) (x : List Int) : Kp a (a.set k x) := ⟨by simp, by rw [List.getElem?_set_ne (by omega)]⟩
theorem Kp.sec {a b : Img} (h : Kp a b) : secI b 0 = secI a 0 := by
  unfold secI
  rw [List.getD_eq_getElem?_getD, List.getD_eq_getElem?_getD]
  show (b[0]?).getD Zs = (a[0]?).getD Zs
  rw [h.2]
def KpF (keep : KeepF) : Prop := ∀ s i n, Kp s.wt (keep s i n).2.wt
theorem claim_pos {N : Int} {M : Nat} {cl : Int → Bool} {n : Int} (h : claimB N M cl n = true) : 0 < n.toNat := by
  unfold claimB dataB at h
  simp only [Bool.and_eq_true, decide_eq_true_eq] at h
  omega
theorem block_kp (N M cnt : Int) : KpF (blockF N M cnt) := fun s i n => by
  unfold blockF
  split
  · exact Kp.refl _
  · exact Kp.refl _
theorem inner_kp {each f : Int} {keep : KeepF} (h : KpF keep) : KpF (innerF each f keep) := fun s _ p => h s _ p
theorem goK_kp {keep : KeepF} (h : KpF keep) (t0 : List Int) (s0 : TS) : ∀ k, Kp s0.wt (goK keep t0 s0 k).2.wt
  | 0 => Kp.refl _
  | k + 1 => (goK_kp h t0 s0 k).trans (h _ _ _)
theorem goF_kp {keep : KeepF} (h : KpF keep) (n : Int) (s : TS) (hn : 0 < n.toNat) : Kp s.wt (goF keep n s).2.wt := by
  have hk := goK_kp h (ptrsTo (secI s.wt n) 32) s 32
  unfold goF
  generalize goK keep (ptrsTo (secI s.wt n) 32) s 32 = r at *
  by_cases hz : r.1 = Zp
  · rw [if_pos hz]
    exact hk
  · rw [if_neg hz]
    exact hk.trans (kp_set _ hn _)
theorem table_kp {N : Int} {M : Nat} {cnt each : Int} {keep : KeepF} (h : KpF keep) : KpF (tableF N M cnt each keep) := fun s f n => by
  unfold tableF
  split
  · rename_i hc
    simp only [Bool.and_eq_true] at hc
    exact goF_kp (inner_kp h) n ⟨s.wt, putC s.cl n, s.sp⟩ (claim_pos hc.2)
  · exact Kp.refl _
theorem dblT_kp (N : Int) (M : Nat) (z : List Int) (wt : Img) (cl : Int → Bool) : Kp wt (dblT N M z wt cl).2.wt :=
  ((goK_kp (block_kp N M (cntZ z)) ((z.drop 4).take 12) ⟨wt, cl, []⟩ 12).trans (table_kp (block_kp N M (cntZ z)) _ _ _)).trans (table_kp (table_kp (block_kp N M (cntZ z))) _ _ _)
theorem takeL_kp (N : Int) (M : Nat) (z : List Int) (s : LS) : Kp s.wt (takeL N M z s).wt := by
  have h := dblT_kp N M z s.wt s.cl
  unfold takeL
  simp only
  split
  · exact h
  · refine h.trans ?_
    show Kp _ (wipeW _ _ _)
    unfold wipeW
    split
    · rename_i l hl
      refine kp_set _ ?_ _
      have hm : l ∈ (dblT N M z s.wt s.cl).2.sp := by
        unfold lastB at hl
        split at hl
        · rename_i l' hq
          split at hl
          · cases hl
            exact List.mem_of_getLast? hq
          · cases hl
        · cases hl
      have := dblT_ok N M z s.wt s.cl l hm
      omega
    · exact Kp.refl _
theorem enterL_kp (N : Int) (M : Nat) (im : Img) (i : Int) (s : LS) : Kp s.wt (enterL N M im i s).wt := by
  unfold enterL
  split
  · exact Kp.refl _
  · exact takeL_kp N M _ s
theorem slotL_kp (N : Int) (M : Nat) (im : Img) (n : Int) (r : List ByteArray × LS) (hn : 0 < n.toNat) : Kp r.2.wt (slotL N M im n r).2.wt := by
  unfold slotL
  simp only
  split
  · exact Kp.refl _
  · split
    · exact enterL_kp N M im _ r.2
    · exact kp_set _ hn _
theorem dirK_kp (N : Int) (M : Nat) (im : Img) : ∀ (l : List Int) (r : List ByteArray × LS), (∀ x ∈ l, 0 < x.toNat) → Kp r.2.wt (dirK N M im l r).2.wt
  | [], _, _ => Kp.refl _
  | n :: l, r, h => (slotL_kp N M im n r (h n List.mem_cons_self)).trans (dirK_kp N M im l _ fun x hx => h x (List.mem_cons_of_mem _ hx))
theorem allL_kp {c : LC} : ∀ (f : Nat) (s : LS), LOk c s → Kp s.wt (allL c.N c.M c.im f s).wt
  | 0, _, _ => Kp.refl _
  | f + 1, s, h => by
    cases hq : s.q with
    | nil => rw [allL_nil hq]; exact Kp.refl _
    | cons l q =>
      rw [allL_cons hq]
      refine Kp.trans ?_ (allL_kp f _ (dirL_ok (h.pop hq)))
      exact dirK_kp c.N c.M c.im l ([], { s with q := q }) fun x hx => by
        have := h.qd l (by rw [hq]; exact List.mem_cons_self) x hx
        omega
theorem layK_kp (tk : Int → Option (List Int)) (wt : Img) : ∀ k, Kp wt (layK tk wt k)
  | 0 => Kp.refl _
  | k + 1 => (layK_kp tk wt k).trans (kp_set _ (by omega) _)
theorem lookL_kp {M : Nat} {im : Img} (hr : rootB M im = true) : Kp im (lookL M im).wt := by
  obtain ⟨h1, _⟩ := rootB_parts.1 hr
  obtain ⟨c, hN, hM, hi⟩ : ∃ c : LC, c.N = im.length ∧ c.M = M ∧ c.im = im := ⟨⟨0, ⟨0, 0, 0, 0, 0, 0⟩, im.length, M, none, 0, 0, im⟩, rfl, rfl, rfl⟩
  have hMay : May c (startL im) 1 := by
    show (soundZ c.M c.im 1).2 = true
    rw [hM, hi]
    exact h1
  have hOk := enterL_ok (startL_ok c im) hMay
  have h2 := allL_kp (c := c) M _ hOk
  rw [hN, hM, hi] at h2
  exact ((enterL_kp im.length M im 1 (startL im)).trans h2).trans (layK_kp _ _ M)

end Go.Proofs.YtboammbcoleicaaGreat

namespace Go.Proofs.YtboammbcoleicaaGreat
open Go.RowKit Go.Shelf

def rowL (M : Nat) (im : Img) (s : LS) (j : Nat) : List Int := keysL im.length fun x => decide (wrKind M im s.wt s.wp x = j)
theorem writeI_rows (M : Nat) (im : Img) (s : LS) : writeI M im s = rowL M im s 0 ++ rowL M im s 1 ++ rowL M im s 2 := by
  simp [writeI, catK, rowL]
/-- How many of the first sectors differ. -/
def difN (im T : Img) : Nat → Nat
  | 0 => 0
  | k + 1 => difN im T k + if secI im (k : Int) = secI T (k : Int) then 0 else 1
theorem dif_rows (M : Nat) (im : Img) (s : LS) : ∀ k, difN im s.wt k = (keysL k fun x => decide (wrKind M im s.wt s.wp x = 0)).length + (keysL k fun x => decide (wrKind M im s.wt s.wp x = 1)).length + (keysL k fun x => decide (wrKind M im s.wt s.wp x = 2)).length
  | 0 => rfl
  | k + 1 => by
    have ih := dif_rows M im s k
    rw [difN, ih, keysL_succ, keysL_succ, keysL_succ]
    simp only [List.length_append]
    by_cases h1 : secI s.wt (k : Int) = secI im (k : Int)
    · have hk : wrKind M im s.wt s.wp (k : Int) = 3 := by unfold wrKind; rw [if_pos h1]
      rw [if_pos h1.symm, hk]
      simp
    · rw [if_neg (fun e => h1 e.symm)]
      by_cases h2 : (k : Int) ≤ M
      · have hk : wrKind M im s.wt s.wp (k : Int) = 1 := by unfold wrKind; rw [if_neg h1, if_pos h2]
        rw [hk]
        simp
        omega
      · by_cases h3 : s.wp (k : Int) = true
        · have hk : wrKind M im s.wt s.wp (k : Int) = 2 := by unfold wrKind; rw [if_neg h1, if_neg h2, if_pos h3]
          rw [hk]
          simp
          omega
        · have hk : wrKind M im s.wt s.wp (k : Int) = 0 := by unfold wrKind; rw [if_neg h1, if_neg h2, if_neg h3]
          rw [hk]
          simp
          omega
theorem dif_write (M : Nat) (im : Img) (s : LS) : difN im s.wt im.length = (writeI M im s).length := by
  rw [writeI_rows, List.length_append, List.length_append, dif_rows M im s]
  rfl
/-- What stands in the list. -/
theorem write_mem {M : Nat} {im : Img} {s : LS} {j : Nat} {x : Int} (hj : j < 3) (h : x ∈ rowL M im s j) : 0 ≤ x ∧ x < im.length ∧ secI s.wt x ≠ secI im x ∧ (j = 1 ↔ x ≤ M) := by
  obtain ⟨h0, h1, h2⟩ := keysL_mem.1 h
  have hk : wrKind M im s.wt s.wp x = j := of_decide_eq_true h2
  refine ⟨h0, h1, ?_⟩
  unfold wrKind at hk
  by_cases c1 : secI s.wt x = secI im x
  · rw [if_pos c1] at hk; omega
  · rw [if_neg c1] at hk
    refine ⟨c1, ?_⟩
    by_cases c2 : x ≤ M
    · rw [if_pos c2] at hk; exact ⟨fun _ => c2, fun _ => hk.symm⟩
    · rw [if_neg c2] at hk
      refine ⟨fun e => ?_, fun e => absurd e c2⟩
      split at hk <;> omega
theorem row_up (M : Nat) (im : Img) (s : LS) (j : Nat) : (rowL M im s j).Pairwise (· < ·) := keysL_up _ _
theorem rows_apart {M : Nat} {im : Img} {s : LS} {i j : Nat} {x : Int} (h : x ∈ rowL M im s i) (k : x ∈ rowL M im s j) : i = j := by
  have h1 := of_decide_eq_true (keysL_mem.1 h).2.2
  have h2 := of_decide_eq_true (keysL_mem.1 k).2.2
  omega

end Go.Proofs.YtboammbcoleicaaGreat

namespace Go.Proofs.YtboammbcoleicaaGreat
open Go.RowKit Go.Shelf

theorem ptrs_Zs : ptrsTo Zs 32 = Zp := by kernel_rfl
theorem wip_wip {s : List Int} (hs : s.length = 128) (f : Int) : wip (wip s f) f = wip s f := by
  refine List.ext_getElem (by rw [wip_len _ _ (wip_len _ _ hs), wip_len _ _ hs]) fun k h1 h2 => ?_
  have a := wipK_get (wip s f) f 128 (by rw [wip_len _ _ hs]; exact Nat.le_refl _) k
  have b := wipK_get s f 128 (by rw [hs]; exact Nat.le_refl _) k
  have c : (wip (wip s f) f).getD k 0 = (wip s f).getD k 0 := by
    show (wipK (wip s f) f 128).getD k 0 = _
    rw [a]
    split
    · rename_i h
      show _ = (wipK s f 128).getD k 0
      rw [b, if_pos h]
    · rfl
  rw [List.getD_eq_getElem?_getD, List.getD_eq_getElem?_getD, List.getElem?_eq_getElem h1, List.getElem?_eq_getElem h2] at c
  exact c
theorem Zs_slot0 : slotB 0 ⟨#[]⟩ = true := by unfold slotB; rw [if_pos rfl, toList_nil]; rfl
theorem Zs_rdSlot : rdSlot (getV Zs 0 4) Zs = (0, ⟨#[]⟩, 0) := by
  have e1 : getV Zs 0 4 = 0 := by decide
  have e2 : nameOf Zs = ⟨#[]⟩ := by decide
  have e3 : slotS 0 ⟨#[]⟩ = Zs := by unfold slotS; rw [if_pos Zs_slot0]; decide
  unfold rdSlot
  rw [e1, e2, if_pos ⟨by decide, Zs_slot0, e3⟩]
end Go.Proofs.YtboammbcoleicaaGreat
