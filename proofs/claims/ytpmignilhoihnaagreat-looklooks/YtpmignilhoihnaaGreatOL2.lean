/-
 The document's look behind taking up the root.
-/
import Derived.Test.YtpmignilhoihnaaGreatOK1
namespace Go.Proofs.YtpmignilhoihnaaGreat
open Go.RowKit Go.Shelf

structure DB (N M : Nat) (im : Img) (pre : List Int) (k : KT) (s : LS) (ds : List Int) : Prop where
 kl : KL M k s
 i18 : ∀ i, (k.ino i).length = 18
 iv : LInv N M im s []
 ki : KI M im s []
 qi : QI N M im s [] ds
 cn : ∀ n, (N : Int) ≤ n → s.cl n = false
 row : k.row = pre ++ ds
 rn : k.row.Nodup
 rt : ∀ x ∈ k.row, s.tk x ≠ none
section
variable {N M : Nat} {im : Img} {pre ds : List Int} {k : KT} {s : LS}
theorem DB.tabs (h : DB N M im pre k s ds) {i : Int} {z : List Int} (hz : s.tk i = some z) : ∀ q ∈ tabsZ s.wt z, 0 ≤ q ∧ q < N := fun q hq => by
 obtain ⟨h1, _, _, h4⟩ := (h.ki i z hz).tab q hq;refine ⟨by omega, Decidable.byContradiction fun e => ?_⟩;rw [h.cn q (by omega)] at h1
 cases h1
theorem DB.pop {d : Int} (h : DB N M im pre k s (d :: ds)) : ∃ (n : Nat) (l : List Int) (q : List (List Int)), d = (n : Int) ∧ 1 ≤ n ∧ n ≤ M ∧ s.q = l :: q ∧ l = (spI k.wt (k.ino n)).map Prod.snd ∧ (∀ q ∈ tabsZ k.wt (k.ino n), 0 ≤ q ∧ q < k.wt.length) ∧ DS N M im (pre ++ [d]) l 0 k [] ([], { s with q := q }) ds := by
 obtain ⟨l, q, hq⟩ : ∃ l q, s.q = l :: q := by
  cases e : s.q with
  | nil => have := h.qi.none.1 e; cases this
  | cons l q => exact ⟨l, q, rfl⟩
 obtain ⟨⟨z, hz, h2, hl⟩, hqi⟩ := h.qi.pop hq;have ho := h.kl.out d (by rw [hz]; intro e; cases e);obtain ⟨n, rfl⟩ : ∃ n : Nat, d = (n : Int) := ⟨d.toNat, by omega⟩;have hzi := h.kl.ino n z hz;obtain ⟨t1, t2⟩ := tabs_links s.wt (k.ino n) (k.en (n : Int));rw [← hzi] at t1 t2
 have k1 : KI M im { s with q := q } l := fun i z hz => (h.ki i z hz).step (fun _ e => e) (fun _ _ => rfl) (fun _ _ => rfl) (fun n _ e => by rw [hq]; exact e)
 refine ⟨n, l, q, rfl, by omega, by omega, hq, ?_, ?_, ?_⟩
 ·rw [h.kl.wt, ← t2]
  exact hl
 ·rw [h.kl.wt, ← t1]
  intro p hp
  have := h.tabs hz p hp;have h3 := h.iv.len
  omega
 ·refine ⟨⟨h.kl.wt, h.kl.cl, h.kl.tk, h.kl.ino, h.kl.un, h.kl.out⟩, h.i18, fun _ => rfl, Nat.le_refl _, ?_, ?_, ?_, h.cn, ?_, h.rn, h.rt⟩
  ·rw [List.drop_zero]; exact h.iv.pop hq
  ·rw [List.drop_zero]; exact k1
  ·rw [List.drop_zero]; exact hqi
  ·rw [h.row, List.append_assoc]; rfl
theorem DS.done {l : List Int} {nms : List ByteArray} {r : List ByteArray × LS} (h : DS N M im pre l l.length k nms r ds) : DB N M im pre k r.2 ds := by
 have h1 := h.iv;have h2 := h.ki;have h3 := h.qi;rw [List.drop_length] at h1 h2 h3
 exact ⟨h.kl, h.i18, h1, h2, h3, h.cn, h.row, h.rn, h.rt⟩
theorem DB.rlen (h : DB N M im pre k s ds) : k.row.length ≤ M := nodup_m M k.row h.rn fun x hx => h.kl.out x (h.rt x hx)
end
end Go.Proofs.YtpmignilhoihnaaGreat

namespace Go.Proofs.YtpmignilhoihnaaGreat
open Go.RowKit Go.Shelf

def startK (im : Img) (v : Value) : KT := ⟨im, fun _ => false, fun _ => false, fun _ => Zi, fun _ => 0, v, []⟩
theorem start_kl (M : Nat) (im : Img) (v : Value) : KL M (startK im v) (startL im) :=
 ⟨rfl, rfl, fun _ _ => rfl, (fun i z hz => by cases hz), fun _ _ _ => rfl, fun i h => absurd rfl h⟩
theorem start_db {c : KC} {im : Img} (hN : c.N = im.length) (hM1 : 1 ≤ c.M) (hs : AllSec im) (hr : rootB c.M im = true) (v v' : Value) :
  DB c.N c.M im [] (takeKT c { startK im v with en := putI (startK im v).en ((1 : Nat) : Int) ((startK im v).en ((1 : Nat) : Int) + 1) } 1 (soundZ c.M im ((1 : Nat) : Int)).1 v') (enterL c.N c.M im ((1 : Nat) : Int) (startL im)) [1] := by
 have hM : (0 : Int) ≤ (c.M : Int) := Int.natCast_nonneg _;have hmay : MayE c.M im (startL im) ((1 : Nat) : Int) := root_may hr;have hiv : LInv c.N c.M im (startL im) [] := start_inv (by rw [hN]) hs
 have hki : KI c.M im (startL im) [] := fun i z hz => by cases hz
 have hkind : (soundZ c.M im ((1 : Nat) : Int)).1.getD 0 0 = 2 := by
  unfold rootB at hr;rw [Bool.and_eq_true] at hr
  exact of_decide_eq_true hr.2
 have hd : newD c.M im ((1 : Nat) : Int) (startL im) = [1] := by
  unfold newD;rw [if_pos ⟨rfl, hkind⟩]
  rfl
 have hq := enter_qi hM hiv hmay hki (start_qi c.N c.M im);rw [List.nil_append, hd] at hq;have hkl := (start_kl c.M im v).new (c := c) rfl (im := im) (n := 1) (Nat.le_refl _) hM1 rfl v';obtain ⟨z, hz⟩ : ∃ y, y = (soundZ c.M im ((1 : Nat) : Int)).1 := ⟨_, rfl⟩;obtain ⟨t1, t2, t3⟩ := takeL_all c.N c.M z (startL im)
 have ecl : (enterL c.N c.M im ((1 : Nat) : Int) (startL im)).cl = (dblT c.N c.M z im (fun _ => false)).2.cl := by
  unfold enterL
  show (takeL c.N c.M (soundZ c.M im ((1 : Nat) : Int)).1 (startL im)).cl = _
  rw [← hz]
  exact t2
 have etk : (enterL c.N c.M im ((1 : Nat) : Int) (startL im)).tk ((1 : Nat) : Int) ≠ none := by
  unfold enterL
  show putT (takeL c.N c.M (soundZ c.M im ((1 : Nat) : Int)).1 (startL im)).tk ((1 : Nat) : Int) _ ((1 : Nat) : Int) ≠ none
  unfold putT;rw [if_pos rfl]
  intro e
  cases e
 have hrow : (takeKT c { startK im v with en := putI (startK im v).en ((1 : Nat) : Int) ((startK im v).en ((1 : Nat) : Int) + 1) } 1 (soundZ c.M im ((1 : Nat) : Int)).1 v').row = [1] := by
  show (if (soundZ c.M im ((1 : Nat) : Int)).1.getD 0 0 = 2 then ([] : List Int) ++ [((1 : Nat) : Int)] else []) = [1]
  rw [if_pos hkind]
  rfl
 refine ⟨hkl, fun i => ?_, enter_inv hM hiv hmay, enter_ki hM hiv hmay hki, hq, fun n hn => ?_, ?_, ?_, fun x hx => ?_⟩
 ·show (putF18 _ 1 _ i).length = 18
  unfold putF18
  split
  ·rw [List.length_set]
   exact inoT_len' (soundZ_len _ _ _) _ _
  ·exact Zi_len
 ·rw [ecl]
  exact dbl_ko c.N c.M z im _ hn rfl
 ·rw [hrow]
  rfl
 ·rw [hrow]
  simp
 ·rw [hrow] at hx
  have hx1 : x = ((1 : Nat) : Int) := by simpa using hx
  rw [hx1]
  exact etk
end Go.Proofs.YtpmignilhoihnaaGreat
