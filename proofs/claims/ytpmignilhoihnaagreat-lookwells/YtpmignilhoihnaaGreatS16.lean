/-
 A look, of an image that is well-formed, and of one that is not.
-/
import Derived.Test.YtpmignilhoihnaaGreatH9
import Derived.Test.YtpmignilhoihnaaGreatJB
import Derived.BigQuiet
import Derived.Test.YtpmignilhoihnaaGreatS15
namespace Go.Proofs.YtpmignilhoihnaaGreat

/-- Some sectors written, one behind the other, as another image has them. -/
def wroteI (W : Img) : List Int → Img → Img
 | [], im => im
 | n :: l, im => wroteI W l (im.set n.toNat (secI W n))
theorem wroteI_len (W : Img) : ∀ (l : List Int) (im : Img), (wroteI W l im).length = im.length
 | [], _ => rfl
 | n :: l, im => by simp only [wroteI]; rw [wroteI_len W l]; simp
theorem wroteI_append (W : Img) : ∀ (l m : List Int) (im : Img), wroteI W (l ++ m) im = wroteI W m (wroteI W l im)
 | [], _, _ => rfl
 | _ :: l, m, _ => wroteI_append W l m _
theorem wroteI_at (W : Img) (x : Int) (hx : 0 ≤ x) : ∀ (l : List Int) (im : Img), (∀ n ∈ l, 0 ≤ n ∧ n < im.length) → secI (wroteI W l im) x = if x ∈ l then secI W x else secI im x
 | [], im, _ => by rw [if_neg (by simp)]; rfl
 | n :: l, im, h => by
  obtain ⟨h0, h1⟩ := h n List.mem_cons_self
  have ih := wroteI_at W x hx l (im.set n.toNat (secI W n)) (fun m hm => by rw [List.length_set]; exact h m (List.mem_cons_of_mem _ hm))
  simp only [wroteI]
  rw [ih]
  by_cases e : x ∈ l
  ·rw [if_pos e, if_pos (List.mem_cons_of_mem _ e)]
  ·rw [if_neg e]
   by_cases e2 : x = n
   ·subst e2
    rw [if_pos List.mem_cons_self, secI_set h0 h1]
   ·rw [if_neg (by simp [e, e2]), secI_nat_set _ _ _ _ (by omega)]
theorem filter_take {l : List Int} (h : l.Nodup) (k : Nat) : l.filter (fun x => decide (x ∉ l.take k)) = l.drop k := by
 have e : l = l.take k ++ l.drop k := (List.take_append_drop k l).symm
 have hn : (l.take k ++ l.drop k).Nodup := by rw [← e]; exact h
 obtain ⟨_, _, h3⟩ := List.nodup_append.1 hn
 have : ∀ (a b : List Int), (∀ x ∈ a, ∀ y ∈ b, x ≠ y) → (a ++ b).filter (fun x => decide (x ∉ a)) = b := fun a b hab => by
  rw [List.filter_append, List.filter_eq_nil_iff.2 (fun x hx => by simp [hx]), List.nil_append]
  exact List.filter_eq_self.2 fun x hx => decide_eq_true (fun k => hab x k x hx rfl)
 have h4 := this (l.take k) (l.drop k) h3
 rw [← e] at h4
 exact h4
theorem keysL_filter (n : Nat) (p q : Int → Bool) : (keysL n p).filter q = keysL n fun x => p x && q x := by
 unfold keysL
 rw [List.filter_filter]
 refine List.filter_congr fun x _ => ?_
 rw [Bool.and_comm]
theorem keysL_congr {n : Nat} {p q : Int → Bool} (h : ∀ x : Int, 0 ≤ x → x < n → p x = q x) : keysL n p = keysL n q := by
 unfold keysL
 refine List.filter_congr fun x hx => ?_
 obtain ⟨k, hk, rfl⟩ := List.mem_map.1 hx
 have := List.mem_range.1 hk
 exact h _ (Int.natCast_nonneg k) (Int.ofNat_lt.2 this)
theorem row_mem {M : Nat} {im : Img} {s : LS} {j : Nat} {x : Int} : x ∈ rowL M im s j ↔ 0 ≤ x ∧ x < im.length ∧ wrKind M im s.wt s.wp x = j := by
 unfold rowL
 rw [keysL_mem, decide_eq_true_eq]
theorem row_nodup (M : Nat) (im : Img) (s : LS) (j : Nat) : (rowL M im s j).Nodup :=
 (keysL_up im.length _).imp (fun h e => by omega)
theorem write_nodup (M : Nat) (im : Img) (s : LS) : (writeI M im s).Nodup := by
 rw [writeI_rows]
 have ap : ∀ i j, i ≠ j → ∀ x ∈ rowL M im s i, ∀ y ∈ rowL M im s j, x ≠ y := fun i j hij x hx y hy e => by
  have a := (row_mem.1 hx).2.2
  have b := (row_mem.1 hy).2.2
  rw [e, b] at a
  exact hij a.symm
 refine List.nodup_append.2 ⟨List.nodup_append.2 ⟨row_nodup M im s 0, row_nodup M im s 1, ap 0 1 (by omega)⟩, row_nodup M im s 2, fun x hx y hy => ?_⟩
 rcases List.mem_append.1 hx with k | k
 ·exact ap 0 2 (by omega) x k y hy
 ·exact ap 1 2 (by omega) x k y hy
theorem write_in {M : Nat} {im : Img} {s : LS} {x : Int} : x ∈ writeI M im s ↔ 0 ≤ x ∧ x < im.length ∧ secI s.wt x ≠ secI im x := by
 rw [writeI_rows, List.mem_append, List.mem_append, row_mem, row_mem, row_mem]
 unfold wrKind
 by_cases e : secI s.wt x = secI im x
 ·rw [if_pos e]
  constructor
  ·rintro ((⟨_, _, h⟩ | ⟨_, _, h⟩) | ⟨_, _, h⟩) <;> omega
  ·rintro ⟨_, _, h⟩; exact absurd e h
 ·rw [if_neg e]
  constructor
  ·rintro ((⟨a, b, _⟩ | ⟨a, b, _⟩) | ⟨a, b, _⟩) <;> exact ⟨a, b, e⟩
  ·rintro ⟨a, b, _⟩
   by_cases h1 : x ≤ M
   ·exact .inl (.inr ⟨a, b, by rw [if_pos h1]⟩)
   ·by_cases h2 : s.wp x = true
    ·exact .inr ⟨a, b, by rw [if_neg h1, if_pos h2]⟩
    ·exact .inl (.inl ⟨a, b, by rw [if_neg h1, if_neg h2]⟩)
/-- The image behind some of the writes. -/
def cutI (M : Nat) (im : Img) (k : Nat) : Img := wroteI (lookL M im).wt ((writeI M im (lookL M im)).take k) im
theorem cutI_len (M : Nat) (im : Img) (k : Nat) : (cutI M im k).length = im.length := wroteI_len _ _ _
theorem cutI_at {M : Nat} {im : Img} {k : Nat} {x : Int} (hx : 0 ≤ x) : secI (cutI M im k) x = if x ∈ (writeI M im (lookL M im)).take k then secI (lookL M im).wt x else secI im x :=
 wroteI_at _ x hx _ _ fun n hn => by
  have := write_in.1 (List.mem_of_mem_take hn)
  exact ⟨this.1, this.2.1⟩
theorem cut_look {M : Nat} {im : Img} (hMl : M < im.length) (hs : AllSec im) (hr : rootB M im = true) (k : Nat) :
  rootB M (cutI M im k) = true ∧ lookL M (cutI M im k) = lookL M im := by
 obtain ⟨r0, h0⟩ : ∃ r, r = rowL M im (lookL M im) 0 := ⟨_, rfl⟩
 obtain ⟨r1, h1⟩ : ∃ r, r = rowL M im (lookL M im) 1 := ⟨_, rfl⟩
 obtain ⟨r2, h2⟩ : ∃ r, r = rowL M im (lookL M im) 2 := ⟨_, rfl⟩
 have hw : writeI M im (lookL M im) = (r0 ++ r1) ++ r2 := by rw [writeI_rows, h0, h1, h2]
 have hz := (lookL_kp hr).sec
 have hat := fun (x : Int) (hx : 0 ≤ x) => cutI_at (M := M) (im := im) (k := k) hx
 rw [hw] at hat
 have m0 : ∀ x, x ∈ r0 ↔ 0 ≤ x ∧ x < im.length ∧ wrKind M im (lookL M im).wt (lookL M im).wp x = 0 := fun x => by rw [h0]; exact row_mem
 have m1 : ∀ x, x ∈ r1 ↔ 0 ≤ x ∧ x < im.length ∧ wrKind M im (lookL M im).wt (lookL M im).wp x = 1 := fun x => by rw [h1]; exact row_mem
 have hfew : ¬ (r0 ++ r1).length ≤ k → ∀ x, x ∈ ((r0 ++ r1) ++ r2).take k → x ∈ r0 ++ r1 := fun hk x hx => by
  rw [List.take_append_of_le_length (by omega)] at hx
  exact List.mem_of_mem_take hx
 have hmany : (r0 ++ r1).length ≤ k → ∀ x, x ∈ r0 ++ r1 → x ∈ ((r0 ++ r1) ++ r2).take k := fun hk x hx => by
  rw [List.take_append, List.take_of_length_le hk]
  exact List.mem_append_left _ hx
 refine look_lk (full := (r0 ++ r1).length ≤ k) (cutI_len M im k) hMl hs hr ?_ ?_ ?_ ?_ ?_
 ·rw [hat 0 (by omega)]
  split
  ·exact hz
  ·rfl
 ·intro i i1 i2
  rw [hat i (by omega)]
  by_cases hx : i ∈ ((r0 ++ r1) ++ r2).take k
  ·rw [if_pos hx]; exact .inr rfl
  ·rw [if_neg hx]
   by_cases hf : (r0 ++ r1).length ≤ k
   ·right
    have hn : i ∉ r1 := fun e => hx (hmany hf i (List.mem_append_right _ e))
    by_cases he : secI (lookL M im).wt i = secI im i
    ·exact he.symm
    ·exact absurd ((m1 i).2 ⟨by omega, by omega, by unfold wrKind; rw [if_neg he, if_pos i2]⟩) hn
   ·exact .inl ⟨hf, rfl⟩
 ·intro n n1 n2
  rw [hat n (by omega)]
  split
  ·exact .inr rfl
  ·exact .inl rfl
 ·intro hf n n1 n2 hwp
  rw [hat n (by omega)]
  by_cases hx : n ∈ ((r0 ++ r1) ++ r2).take k
  ·rw [if_pos hx]
  ·rw [if_neg hx]
   have hn : n ∉ r0 := fun e => hx (hmany hf n (List.mem_append_left _ e))
   by_cases he : secI (lookL M im).wt n = secI im n
   ·exact he.symm
   ·exact absurd ((m0 n).2 ⟨by omega, n2, by unfold wrKind; rw [if_neg he, if_neg (by omega), hwp]; rfl⟩) hn
 ·intro hf n n1 n2 hwp
  rw [hat n (by omega)]
  by_cases hx : n ∈ ((r0 ++ r1) ++ r2).take k
  ·exfalso
   rcases List.mem_append.1 (hfew hf n hx) with e | e
   ·have := ((m0 n).1 e).2.2
    unfold wrKind at this
    rw [if_neg (show ¬ n ≤ (M : Int) by omega), hwp] at this
    split at this
    ·omega
    ·simp at this
   ·have := ((m1 n).1 e).2.2
    unfold wrKind at this
    rw [if_neg (show ¬ n ≤ (M : Int) by omega), hwp] at this
    split at this
    ·omega
    ·simp at this
  ·rw [if_neg hx]
theorem cut_write {M : Nat} {im : Img} (k : Nat) : writeI M (cutI M im k) (lookL M im) = (writeI M im (lookL M im)).drop k := by
 rw [← filter_take (write_nodup M im (lookL M im)) k, writeI_rows, writeI_rows]
 have hk : ∀ x : Int, 0 ≤ x → x < im.length → ∀ j, j < 3 → decide (wrKind M (cutI M im k) (lookL M im).wt (lookL M im).wp x = j) = (decide (wrKind M im (lookL M im).wt (lookL M im).wp x = j) && decide (x ∉ (writeI M im (lookL M im)).take k)) := fun x h0 h1 j hj => by
  unfold wrKind
  rw [cutI_at h0]
  by_cases hx : x ∈ (writeI M im (lookL M im)).take k
  ·rw [if_pos hx, if_pos rfl]
   simp only [hx, not_true_eq_false, decide_false, Bool.and_false, decide_eq_false_iff_not]
   omega
  ·rw [if_neg hx]
   simp only [hx, not_false_eq_true, decide_true, Bool.and_true]
 have hr : ∀ j, j < 3 → rowL M (cutI M im k) (lookL M im) j = (rowL M im (lookL M im) j).filter (fun x => decide (x ∉ (writeI M im (lookL M im)).take k)) := fun j hj => by
  unfold rowL
  rw [keysL_filter, cutI_len]
  exact keysL_congr fun x a b => hk x a b j hj
 rw [hr 0 (by omega), hr 1 (by omega), hr 2 (by omega), List.filter_append, List.filter_append, ← writeI_rows]
theorem cut_sup {M : Nat} {im : Img} (hr : rootB M im = true) (k : Nat) : supOf (cutI M im k) = supOf im := by
 have h0 : secI (cutI M im k) 0 = secI im 0 := by
  rw [cutI_at (by omega)]
  split
  ·exact (lookL_kp hr).sec
  ·rfl
 unfold supOf
 rw [cutI_len, h0]
/-- All of the writes done: the image is as it should be. -/
theorem cut_all {M : Nat} {im : Img} (hr : rootB M im = true) : cutI M im (writeI M im (lookL M im)).length = (lookL M im).wt := by
 have hlen : (lookL M im).wt.length = im.length := (lookL_kp hr).1
 refine img_ext (by rw [cutI_len, hlen]) fun n => ?_
 by_cases hn : 0 ≤ n
 ·rw [cutI_at hn, List.take_of_length_le (Nat.le_refl _)]
  split
  ·rfl
  ·rename_i h
   by_cases e : secI (lookL M im).wt n = secI im n
   ·exact e.symm
   ·by_cases hl : n < im.length
    ·exact absurd (write_in.2 ⟨hn, hl, e⟩) h
    ·unfold secI
     rw [List.getD_eq_getElem?_getD, List.getD_eq_getElem?_getD, List.getElem?_eq_none (by omega), List.getElem?_eq_none (by omega)]
 ·have : n.toNat = (0 : Int).toNat := by omega
  rw [secI_nat this, secI_nat (wt := (lookL M im).wt) this, cutI_at (by omega)]
  split
  ·rfl
  ·exact (lookL_kp hr).sec.symm
end Go.Proofs.YtpmignilhoihnaaGreat

namespace Go.Proofs.YtpmignilhoihnaaGreat
open Go.RowKit Go.Shelf

/-- Numbers at a slice, from some place of a block on. -/
def LatO (w : World) (a : Option Addr) (l : List Int) : Prop := l = [] ∨ ∃ g o, a = some ⟨g, o, none⟩ ∧ g < w.heap.size ∧ ∀ k, k < l.length → w.cell? ⟨g, o + k, none⟩ = some (.int .i64 (l.getD k 0))
theorem LatO.of {w : World} {a : Option Addr} {l : List Int} (h : LAt w a l) : LatO w a l := by
 rcases h with h | ⟨g, h1, ⟨A, h2⟩, h3⟩
 ·exact .inl h
 ·exact .inr ⟨g, 0, h1, slt h2, fun k hk => by rw [Nat.zero_add]; exact h3 k hk⟩
theorem LatO.call {w w' : World} {a : Option Addr} {l : List Int} (h : LatO w a l) (hc : Chg w w' No) : LatO w' a l := by
 rcases h with h | ⟨g, o, h1, h2, h3⟩
 ·exact .inl h
 ·exact .inr ⟨g, o, h1, Nat.lt_of_lt_of_le h2 hc.size, fun k hk => cell_keep (h3 k hk) hc h2 (fun e => e)⟩

set_option maxHeartbeats 1000000 in
set_option maxRecDepth 100000 in
theorem ints_like (l : List Int) (a b : Option Addr) (ca cb : Nat) (w : World) (hl : l.length ≤ 20000) (hA : LatO w a l) (hB : LatO w b l) : Calls Tryz.prog 17 #[.slice a l.length ca, .slice b l.length cb] w fun e w' => e = .returned (.bool true) ∧ Chg w w' No := by
 have HA := hid hA
 have HB := hid hB
 clear hA hB
 generalize hm : l.length = m at *
 have HM := hid hm
 clear hm
 go_enter Tryz.func17, Tryz.ntmps17
 go_wp2_with fail
 go_loopw [5] (fun i wr => ∃ (k : Nat) (wq : World), wq = wr ∧ i = .int .i64 k ∧ k ≤ m ∧ Hid (Chg w wq No)) (fun i _ => m - (intOf i).toNat)
 case atStart => exact ⟨0, w, rfl, rfl, by omega, hid (Chg.refl _ _)⟩
 case round =>
  obtain ⟨k, wq, rfl, rfl, hk, HC⟩ := hrel
  by_cases hlt : k < m
  ·have hki : (k : Int) < (m : Int) := by omega
   obtain ⟨ga, oa, rfl, hga, hca⟩ : ∃ g o, a = some ⟨g, o, none⟩ ∧ g < wq.heap.size ∧ ∀ k, k < l.length → wq.cell? ⟨g, o + k, none⟩ = some (.int .i64 (l.getD k 0)) := by
    rcases HA.out.call HC.out with h | h
    ·have := HM.out; rw [h] at this; simp at this; omega
    ·exact h
   obtain ⟨gb, ob, rfl, hgb, hcb⟩ : ∃ g o, b = some ⟨g, o, none⟩ ∧ g < wq.heap.size ∧ ∀ k, k < l.length → wq.cell? ⟨g, o + k, none⟩ = some (.int .i64 (l.getD k 0)) := by
    rcases HB.out.call HC.out with h | h
    ·have := HM.out; rw [h] at this; simp at this; omega
    ·exact h
   have c1 := hca k (by rw [HM.out]; exact hlt)
   have c2 := hcb k (by rw [HM.out]; exact hlt)
   generalize l.getD k 0 = y at *
   clear hca hcb hga hgb hlt
   go_wp2_with fail
   go_quiet (fail)
   go_wp2_with fail
   exact ⟨⟨k + 1, _, rfl, by go_num, by omega, hid (HC.out.tr (chg_drewN wq _))⟩, by simp [intOf]; omega⟩
  ·clear hk
   go_wp2_with fail
   go_ret
   exact ⟨rfl, HC.out⟩
theorem IOwn.cap {w : World} {B : Nat} {a : Option Addr} {n c : Nat} {l : List Int} (h : IOwn w B (.slice a n c) l) : l.length ≤ c := by
 rcases h.2 with ⟨e, hz⟩ | ⟨g, cap, cur, e, _, _, h1, _⟩
 ·injection e with _ e2 e3
  omega
 ·injection e with _ _ e3
  omega
/-- What a look that is not refused leaves. -/
structure LkC (w0 w : World) (im : Img) (M : Nat) (gw s1 : Nat) (a1 a2 a3 : Option Addr) : Prop where
 sup : (supOf im).2.2 = 0
 hM : M = (supOf im).2.1.toNat
 ml : M + 2 ≤ im.length
 root : rootB M im = true
 sec : AllSec im
 n1 : 8 ≤ im.length
 n2 : im.length ≤ 4096
 wt : WtAt w gw (lookL M im).wt
 new : w0.heap.size ≤ gw
 tl : (lookL M im).wt.length = im.length
 c1 : (writeI M im (lookL M im)).length ≤ s1
 l1 : LAt w a1 (writeI M im (lookL M im))
 l2 : LAt w a2 (inodesI M (lookL M im))
 l3 : LAt w a3 (blocksI im (lookL M im))
theorem look_c (ia : Option Addr) (ic : Nat) (im : Img) (w : World) (h : ImgAt w ia im) :
  Calls Tryz.prog 10 #[.slice ia im.length ic] w fun e w' => Chg w w' No ∧ ((((supOf im).2.2 = 0 → rootB (supOf im).2.1.toNat im = false) ∧ ∃ E, (E = 120 ∨ E = 121) ∧ e = .returned (.tuple #[.agg nil4, .int .i64 E])) ∨
   ∃ M gw wc s1 s2 s3 a1 a2 a3, e = .returned (.tuple #[.agg #[.slice (some ⟨gw, 0, none⟩) im.length wc, .slice a1 (writeI M im (lookL M im)).length s1, .slice a2 (inodesI M (lookL M im)).length s2, .slice a3 (blocksI im (lookL M im)).length s3], .int .i64 0]) ∧ LkC w w' im M gw s1 a1 a2 a3) := by
 by_cases he : (supOf im).2.2 = 0
 ·refine (look_good ia ic im (supOf im).2.1.toNat w h he rfl).mono ?_
  rintro e w' ⟨r, rfl, hc, h1, h2⟩
  refine ⟨hc, ?_⟩
  obtain ⟨s1, s2, s3, s4, s5⟩ := supOf_ok he
  cases hb : rootB (supOf im).2.1.toNat im with
  | false => exact .inl ⟨fun _ => rfl, 121, .inr rfl, by rw [h1 hb]; rfl⟩
  | true =>
   obtain ⟨g, wc, v1, v2, v3, rfl, hnw, hwt, hR⟩ := h2 hb
   have hkp := lookL_kp hb
   obtain ⟨M, hM⟩ : ∃ y, y = (supOf im).2.1.toNat := ⟨_, rfl⟩
   rw [← hM] at hR hwt hkp hb
   obtain ⟨a1, c1, rfl, hl1⟩ := hR.o1.lat
   obtain ⟨a2, c2, rfl, hl2⟩ := hR.o2.lat
   obtain ⟨a3, c3, rfl, hl3⟩ := hR.o3.lat
   exact .inr ⟨M, g, wc, c1, c2, c3, a1, a2, a3, by rw [← hM, hkp.1]; rfl, he, hM, by omega, hb, h.secI, s2, s3, hwt, hnw, hkp.1, hR.o1.cap, hl1, hl2, hl3⟩
 ·refine (look_bad ia ic im w h he).mono ?_
  rintro e w' ⟨rfl, hc⟩
  exact ⟨hc, .inl ⟨fun e => absurd e he, 120, .inl rfl, rfl⟩⟩
/-- The rest of a list. -/
theorem rest_at {w : World} {a : Option Addr} {l : List Int} {c : Nat} (h : LAt w a l) (hc : l.length ≤ c) (k : Nat) (hk : k ≤ l.length) : LatO w (if c = k then a else Option.map (fun x => x.add k) a) (l.drop k) := by
 by_cases hk2 : k = l.length
 ·exact .inl (by rw [hk2]; exact List.drop_length)
 ·rcases h with h | ⟨g, h1, ⟨A, h2⟩, h3⟩
  ·rw [h] at hk hk2; simp at hk hk2; omega
  ·subst h1
   have hne : ¬ c = k := by omega
   rw [if_neg hne]
   refine .inr ⟨g, k, ?_, slt h2, fun j hj => ?_⟩
   ·show some ((⟨g, 0, none⟩ : Addr).add k) = _
    rw [addr_add, Nat.zero_add]
   ·rw [List.length_drop] at hj
    rw [h3 (k + j) (by omega)]
    simp [List.getD_eq_getElem?_getD, List.getElem?_drop]
end Go.Proofs.YtpmignilhoihnaaGreat

namespace Go.Proofs.YtpmignilhoihnaaGreat
open Go.RowKit Go.Shelf

theorem well_fix {im : Img} (hs : AllSec im) : WellI im ↔ (supOf im).2.2 = 0 ∧ rootB (supOf im).2.1.toNat im = true ∧ (lookL (supOf im).2.1.toNat im).wt = im := by
 unfold WellI
 constructor
 ·rintro ⟨h1, h2⟩
  obtain ⟨_, _, _, m1, m2⟩ := supOf_ok h1
  exact ⟨h1, (fix_iff (by omega) (by omega) hs).1 h2⟩
 ·rintro ⟨h1, h2⟩
  obtain ⟨_, _, _, m1, m2⟩ := supOf_ok h1
  exact ⟨h1, (fix_iff (by omega) (by omega) hs).2 h2⟩
theorem difN_zero (im T : Img) : ∀ k, difN im T k = 0 ↔ ∀ j : Nat, j < k → secI im (j : Int) = secI T (j : Int)
 | 0 => by simp [difN]
 | k + 1 => by
  have ih := difN_zero im T k
  rw [difN]
  constructor
  ·intro h j hj
   have h1 : difN im T k = 0 := by omega
   by_cases e : j = k
   ·subst e
    rcases Classical.em (secI im (j : Int) = secI T (j : Int)) with q | q
    ·exact q
    ·rw [if_neg q] at h; omega
   ·exact ih.1 h1 j (by omega)
  ·intro h
   rw [ih.2 fun j hj => h j (by omega), if_pos (h k (by omega))]
/-- Nothing is to be written just where the image is as it should be. -/
theorem write_nil {M : Nat} {im : Img} (hl : (lookL M im).wt.length = im.length) : (writeI M im (lookL M im)).length = 0 ↔ (lookL M im).wt = im := by
 rw [← dif_write, difN_zero]
 constructor
 ·intro h
  refine List.ext_getElem? fun k => ?_
  by_cases hk : k < im.length
  ·rw [getD_at (by rw [hl]; exact hk), getD_at hk, h k hk]
  ·rw [List.getElem?_eq_none (by omega), List.getElem?_eq_none (by omega)]
 ·intro h j _
  rw [h]
theorem look_fine (ia : Option Addr) (ic : Nat) (im : Img) (w : World) (h : ImgAt w ia im) (hw : WellI im) :
  Calls Tryz.prog 10 #[.slice ia im.length ic] w fun e w' => ∃ gw wc s1 s2 s3 a1 a2 a3 n2 n3, e = .returned (.tuple #[.agg #[.slice (some ⟨gw, 0, none⟩) im.length wc, .slice a1 0 s1, .slice a2 n2 s2, .slice a3 n3 s3], .int .i64 0]) ∧ WtAt w' gw im ∧ Chg w w' No := by
 obtain ⟨h1, h2, h3⟩ := (well_fix h.secI).1 hw
 refine (look_c ia ic im w h).mono ?_
 rintro e w' ⟨hc, ⟨hr, _⟩ | ⟨M, gw, wc, s1, s2, s3, a1, a2, a3, rfl, hX⟩⟩
 ·rw [hr h1] at h2
  cases h2
 ·obtain rfl := hX.hM
  have h0 := (write_nil hX.tl).2 h3
  refine ⟨gw, wc, s1, s2, s3, a1, a2, a3, _, _, by rw [h0], ?_, hc⟩
  have := hX.wt
  rw [h3] at this
  exact this
theorem look_ill (ia : Option Addr) (ic : Nat) (im : Img) (w : World) (h : ImgAt w ia im) (hw : ¬ WellI im) :
  Calls Tryz.prog 10 #[.slice ia im.length ic] w fun e w' => Chg w w' No ∧ ((∃ E, (E = 120 ∨ E = 121) ∧ e = .returned (.tuple #[.agg nil4, .int .i64 E])) ∨
   ∃ gw wc s1 s2 s3 a1 a2 a3 n1 n2 n3, 0 < n1 ∧ e = .returned (.tuple #[.agg #[.slice (some ⟨gw, 0, none⟩) im.length wc, .slice a1 n1 s1, .slice a2 n2 s2, .slice a3 n3 s3], .int .i64 0])) := by
 refine (look_c ia ic im w h).mono ?_
 rintro e w' ⟨hc, ⟨_, E, hE, rfl⟩ | ⟨M, gw, wc, s1, s2, s3, a1, a2, a3, rfl, hX⟩⟩
 ·exact ⟨hc, .inl ⟨E, by omega, rfl⟩⟩
 ·refine ⟨hc, .inr ⟨gw, wc, s1, s2, s3, a1, a2, a3, _, _, _, ?_, rfl⟩⟩
  rcases Nat.eq_zero_or_pos (writeI M im (lookL M im)).length with q | q
  ·refine absurd ((well_fix h.secI).2 ⟨hX.sup, ?_, ?_⟩) hw
   ·rw [← hX.hM]; exact hX.root
   ·rw [← hX.hM]; exact (write_nil hX.tl).1 q
  ·exact q
end Go.Proofs.YtpmignilhoihnaaGreat
