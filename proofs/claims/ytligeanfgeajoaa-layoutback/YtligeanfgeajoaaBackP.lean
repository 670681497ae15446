/-
  Plain facts: numbers that are laid at places apart are read back.
-/
import Derived.Test.YtligeanfgeajoaaLP2
import Derived.Test.YtligeanfgeajoaaLI4
import Derived.Test.YtligeanfgeajoaaLN2
import Derived.Test.YtligeanfgeajoaaL3
namespace Go.Proofs.Ytligeanfgeajoaa
open Go.RowKit

theorem numAt_congr {s t : List Int} {p : Nat} : ∀ m : Nat, (∀ j, j < m → s.getD (p + j) 0 = t.getD (p + j) 0) → numAt s p m = numAt t p m
  | 0, _ => rfl
  | m + 1, h => by
    rw [numAt, numAt, numAt_congr m (fun j hj => h j (by omega)), h m (by omega)]
theorem numAt_keep {s : List Int} {p k q m : Nat} {v : Int} (h : p + k ≤ s.length) (hd : q + m ≤ p ∨ p + k ≤ q) : numAt (putN s p v k) q m = numAt s q m :=
  numAt_congr m fun j hj => by rw [putN_get _ _ _ _ h, if_neg (by omega)]

/-- Two places that have nothing in common. -/
def Apt (a b : Num) : Prop := a.1.toNat + a.2.1.toNat ≤ b.1.toNat ∨ b.1.toNat + b.2.1.toNat ≤ a.1.toNat
def layF (l : List Num) (s : List Int) : List Int := l.foldl (fun s n => putN s n.1.toNat n.2.2 n.2.1.toNat) s
theorem okN_bd {n : Num} (h : okN n) : n.1.toNat + n.2.1.toNat ≤ 128 ∧ 1 ≤ n.2.1.toNat ∧ n.2.1.toNat ≤ 8 ∧ 0 ≤ n.2.2 ∧ n.2.2 ≤ top ∧ n.2.2 < 256 ^ n.2.1.toNat ∧ (n.1.toNat : Int) = n.1 ∧ (n.2.1.toNat : Int) = n.2.1 := by
  have h1 := of_decide_eq_true h.1
  have h2 := of_decide_eq_true h.2
  refine ⟨by omega, by omega, by omega, h2.1, h2.2.1, ?_, by omega, by omega⟩
  exact h2.2.2
theorem layF_len : ∀ (l : List Num) (s : List Int), (layF l s).length = s.length := by
  intro l
  induction l with
  | nil => intro s; rfl
  | cons n r ih => intro s; show (layF r _).length = _; rw [ih, putN_len]
theorem layF_keep : ∀ (l : List Num) (s : List Int) (n : Num), s.length = 128 → (∀ m ∈ l, okN m) → (∀ m ∈ l, Apt n m) → numAt (layF l s) n.1.toNat n.2.1.toNat = numAt s n.1.toNat n.2.1.toNat := by
  intro l
  induction l with
  | nil => intro s n _ _ _; rfl
  | cons x r ih =>
    intro s n hs hok hap
    have hx := okN_bd (hok x (by simp))
    show numAt (layF r (putN s x.1.toNat x.2.2 x.2.1.toNat)) _ _ = _
    rw [ih _ n (by rw [putN_len, hs]) (fun m hm => hok m (by simp [hm])) (fun m hm => hap m (by simp [hm])), numAt_keep (by rw [hs]; exact hx.1) (by have := hap x (by simp); unfold Apt at this; omega)]
theorem layF_get : ∀ (l : List Num) (s : List Int), s.length = 128 → (∀ m ∈ l, okN m) → l.Pairwise Apt → ∀ n ∈ l, numAt (layF l s) n.1.toNat n.2.1.toNat = n.2.2 := by
  intro l
  induction l with
  | nil => intro s _ _ _ n hn; cases hn
  | cons x r ih =>
    intro s hs hok hap n hn
    rw [List.pairwise_cons] at hap
    have hx := okN_bd (hok x (by simp))
    show numAt (layF r (putN s x.1.toNat x.2.2 x.2.1.toNat)) _ _ = _
    rcases List.mem_cons.1 hn with rfl | h
    · rw [layF_keep r _ n (by rw [putN_len, hs]) (fun m hm => hok m (by simp [hm])) hap.1, numAt_put _ _ _ _ (by rw [hs]; exact hx.1) hx.2.2.2.1 hx.2.2.2.2.2.1]
    · exact ih _ (by rw [putN_len, hs]) (fun m hm => hok m (by simp [hm])) hap.2 n h
theorem lay_get {l : List Num} (hok : ∀ m ∈ l, okN m) (hap : l.Pairwise Apt) {n : Num} (hn : n ∈ l) : numAt (layS l) n.1.toNat n.2.1.toNat = n.2.2 := layF_get l Zs Zs_len hok hap n hn
theorem lay_getV {l : List Num} (hok : ∀ m ∈ l, okN m) (hap : l.Pairwise Apt) {n : Num} (hn : n ∈ l) : getV (layS l) n.1 n.2.1 = n.2.2 := by
  have h1 := lay_get hok hap hn
  have hb := okN_bd (hok n hn)
  have hin : inB n.1 n.2.1 = true := (hok n hn).1
  unfold getV getE getN
  rw [h1]
  simp only [hin, hb.2.2.2.2.1, if_true, and_self]
theorem apt_range (f : Nat → Num) (N : Nat) (h : ∀ i j, i < j → j < N → Apt (f i) (f j)) : ((List.range N).map f).Pairwise Apt := by
  rw [List.pairwise_map]
  refine List.Pairwise.imp_of_mem ?_ List.pairwise_lt_range
  intro i j hi hj hij
  exact h i j hij (List.mem_range.1 hj)

/-- first sectors -/
theorem sup_back {a b : Int} (h : supB a b = true) : rdSup (getV (supS a b) 4 4) (getV (supS a b) 8 4) (supS a b) = (a, b, 0) := by
  have hs : supS a b = layS (numsSup a b) := by unfold supS; rw [if_pos h]
  have hbd := of_decide_eq_true (show decide _ = true from h)
  have hok := sup_ok hbd
  have hap : (numsSup a b).Pairwise Apt := by
    unfold numsSup Apt
    simp
  have e1 : getV (supS a b) 4 4 = a := by rw [hs]; exact lay_getV hok hap (n := (4, 4, a)) (by simp [numsSup])
  have e2 : getV (supS a b) 8 4 = b := by rw [hs]; exact lay_getV hok hap (n := (8, 4, b)) (by simp [numsSup])
  rw [e1, e2, rdSup, if_pos ⟨h, rfl⟩]
/-- inodes -/
theorem ino_back {z : List Int} (hz : z.length = 18) (h : inoB z = true) : rdIno (zTo (inoS z) 18) (inoS z) = (z, 0) := by
  have hs : inoS z = layS (numsIno z 18) := by unfold inoS; rw [if_pos h]
  have hok := ino_ok h
  have hap : (numsIno z 18).Pairwise Apt := by
    refine apt_range _ 18 fun i j hij hj => ?_
    have key : ∀ j, j < 18 → ∀ i, i < j → (pls.getD i (0, 0)).1.toNat + (pls.getD i (0, 0)).2.toNat ≤ (pls.getD j (0, 0)).1.toNat := by decide
    exact .inl (key j hj i hij)
  have e : zTo (inoS z) 18 = z := by
    apply ext_getD (by rw [zTo_len, hz])
    intro k hk
    rw [zTo_len] at hk
    have e1 : (zTo (inoS z) 18).getD k 0 = gv (inoS z) k := by simp [zTo, hk]
    rw [e1, hs]
    exact lay_getV hok hap (n := numI z k) (List.mem_map.2 ⟨k, List.mem_range.2 hk, rfl⟩)
  rw [e, rdIno, if_pos ⟨h, rfl⟩]
/-- pointers -/
theorem ptr_back {x : List Int} (hx : x.length = 32) (h : ptrB x = true) : ptrsTo (ptrS x) 32 = x := by
  have hs : ptrS x = layS (numsPtr x 32) := by unfold ptrS; rw [if_pos h]
  have hall : ∀ i, i < 32 → okP x i := fun i hi => by
    have := List.all_eq_true.1 h i (List.mem_range.2 hi)
    unfold okP
    exact of_decide_eq_true this
  have hok := ptr_ok hall
  have hap : (numsPtr x 32).Pairwise Apt := by
    refine apt_range _ 32 fun i j hij hj => ?_
    unfold Apt numP
    left
    show (4 * (i : Int)).toNat + 4 ≤ (4 * (j : Int)).toNat
    omega
  apply ext_getD (by rw [ptrsTo_len, hx])
  intro k hk
  rw [ptrsTo_len] at hk
  have e1 : (ptrsTo (ptrS x) 32).getD k 0 = numAt (ptrS x) (4 * k) 4 := by simp [ptrsTo, hk]
  rw [e1, hs]
  have := lay_get hok hap (n := numP x k) (List.mem_map.2 ⟨k, List.mem_range.2 hk, rfl⟩)
  have e2 : (4 * (k : Int)).toNat = 4 * k := by omega
  unfold numP at this
  rw [e2] at this
  exact this

/-- slots -/
theorem strOf_bytes (s : ByteArray) : strOf (bytesI s) = s := by
  unfold strOf bytesI
  cases s with
  | mk d =>
    congr 1
    rw [List.map_map]
    have e : ((fun n : Int => UInt8.ofNat n.toNat) ∘ fun b : UInt8 => (b.toNat : Int)) = id := by
      funext b; simp
    rw [e, List.map_id]
theorem slot_back {n : Int} {s : ByteArray} (h : slotB n s = true) : rdSlot (getV (slotS n s) 0 4) (slotS n s) = (n, s, 0) := by
  have hs : slotS n s = spl (layS (numsSlot n s)) 5 (bytesI s) := by unfold slotS; rw [if_pos h]
  have hbd := slot_bd h
  have hok := slot_ok h
  have hap : (numsSlot n s).Pairwise Apt := by
    unfold numsSlot Apt
    simp
  have hl : (layS (numsSlot n s)).length = 128 := (layS_sec _).1
  have hbl := bytesI_len s
  have hroom : 5 + (bytesI s).length ≤ (layS (numsSlot n s)).length := by rw [hl, hbl]; omega
  have hlow : ∀ i, i < 5 → (slotS n s).getD i 0 = (layS (numsSlot n s)).getD i 0 := fun i hi => by
    rw [hs, spl_get _ _ _ hroom, if_neg (by omega)]
  have e1 : numAt (slotS n s) 0 4 = n := by
    rw [numAt_congr (t := layS (numsSlot n s)) 4 (fun j hj => by rw [Nat.zero_add]; exact hlow j (by omega))]
    exact lay_get hok hap (n := (0, 4, n)) (by simp [numsSlot])
  have e2 : numAt (slotS n s) 4 1 = s.size := by
    rw [numAt_congr (t := layS (numsSlot n s)) 1 (fun j hj => hlow (4 + j) (by omega))]
    exact lay_get hok hap (n := (4, 1, (s.size : Int))) (by simp [numsSlot])
  have e3 : szOf (slotS n s) = s.size := by
    simp only [numAt, Nat.add_zero, Int.pow_zero, Int.mul_one] at e2
    unfold szOf
    omega
  have e4 : nameOf (slotS n s) = s := by
    unfold nameOf
    rw [e3, hs]
    unfold spl
    rw [List.drop_append_of_le_length (by rw [List.length_take, hl]; omega), List.drop_eq_nil_of_le (by rw [List.length_take]; omega), List.nil_append, ← hbl, List.take_append_of_le_length (Nat.le_refl _), List.take_length]
    exact strOf_bytes s
  have e5 : getV (slotS n s) 0 4 = n := by
    have := getV_small (P := 0) (L := 4) (slotS_sec n s) (by decide) (by decide) (by decide)
    rw [e1] at this
    exact this
  rw [e5, rdSlot, e3, e4, if_pos ⟨hbd.2.2, h, rfl⟩]

end Go.Proofs.Ytligeanfgeajoaa
