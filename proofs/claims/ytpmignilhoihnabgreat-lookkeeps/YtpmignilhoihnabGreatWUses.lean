/-
 LookUses' walk.
-/
import Derived.Test.YtpmignilhoihnabGreatH9
import Derived.Test.YtpmignilhoihnabGreatJB
import Derived.BigQuiet
import Derived.Test.YtpmignilhoihnabGreatS15
import Derived.Test.YtpmignilhoihnabGreatXC
import Derived.Test.YtpmignilhoihnabGreatRI2
import Derived.Test.YtpmignilhoihnabGreatLS2
import Derived.Laws.MakeOwn
import Derived.Test.YtpmignilhoihnabGreatV5
namespace Go.Proofs.YtpmignilhoihnabGreat

def wroteI (W : Img) : List Int → Img → Img
 | [], im => im
 | n :: l, im => wroteI W l (im.set n.toNat (secI W n))
theorem wroteI_len (W : Img) : ∀ (l : List Int) (im : Img), (wroteI W l im).length = im.length
 | [], _ => rfl
 | n :: l, im => by simp only [wroteI]; rw [wroteI_len W l]; simp
theorem wroteI_at (W : Img) (x : Int) (hx : 0 ≤ x) : ∀ (l : List Int) (im : Img), (∀ n ∈ l, 0 ≤ n ∧ n < im.length) → secI (wroteI W l im) x = if x ∈ l then secI W x else secI im x
 | [], im, _ => by rw [if_neg (by simp)]; rfl
 | n :: l, im, h => by
  obtain ⟨h0, h1⟩ := h n List.mem_cons_self;have ih := wroteI_at W x hx l (im.set n.toNat (secI W n)) (fun m hm => by rw [List.length_set]; exact h m (List.mem_cons_of_mem _ hm))
  simp only [wroteI]
  rw [ih]
  by_cases e : x ∈ l
  ·rw [if_pos e, if_pos (List.mem_cons_of_mem _ e)]
  ·rw [if_neg e]
   by_cases e2 : x = n
   ·subst e2
    rw [if_pos List.mem_cons_self, secI_set h0 h1]
   ·rw [if_neg (by simp [e, e2]), secI_nat_set _ _ _ _ (by omega)]
theorem row_mem {M : Nat} {im : Img} {s : LS} {j : Nat} {x : Int} : x ∈ rowL M im s j ↔ 0 ≤ x ∧ x < im.length ∧ wrKind M im s.wt s.wp x = j := by
 unfold rowL;rw [keysL_mem, decide_eq_true_eq]
theorem write_in {M : Nat} {im : Img} {s : LS} {x : Int} : x ∈ writeI M im s ↔ 0 ≤ x ∧ x < im.length ∧ secI s.wt x ≠ secI im x := by
 rw [writeI_rows, List.mem_append, List.mem_append, row_mem, row_mem, row_mem];unfold wrKind
 by_cases e : secI s.wt x = secI im x
 ·rw [if_pos e]
  constructor
  ·rintro ((⟨_, _, h⟩ | ⟨_, _, h⟩) | ⟨_, _, h⟩) <;> omega
  ·rintro ⟨_, _, h⟩; exact absurd e h
 ·rw [if_neg e]
  constructor
  ·rintro ((⟨a, b, _⟩ | ⟨a, b, _⟩) | ⟨a, b, _⟩) <;> exact ⟨a, b, e⟩
  ·rintro ⟨a, b, _⟩
   by_cases h1 : x ≤ M
   ·exact .inl (.inr ⟨a, b, by rw [if_pos h1]⟩)
   ·by_cases h2 : s.wp x = true
    ·exact .inr ⟨a, b, by rw [if_neg h1, if_pos h2]⟩
    ·exact .inl (.inl ⟨a, b, by rw [if_neg h1, if_neg h2]⟩)
def cutI (M : Nat) (im : Img) (k : Nat) : Img := wroteI (lookL M im).wt ((writeI M im (lookL M im)).take k) im
theorem cutI_len (M : Nat) (im : Img) (k : Nat) : (cutI M im k).length = im.length := wroteI_len _ _ _
theorem cutI_at {M : Nat} {im : Img} {k : Nat} {x : Int} (hx : 0 ≤ x) : secI (cutI M im k) x = if x ∈ (writeI M im (lookL M im)).take k then secI (lookL M im).wt x else secI im x :=
 wroteI_at _ x hx _ _ fun n hn => by
  have := write_in.1 (List.mem_of_mem_take hn)
  exact ⟨this.1, this.2.1⟩
theorem cut_look {M : Nat} {im : Img} (hMl : M < im.length) (hs : AllSec im) (hr : rootB M im = true) (k : Nat) :
  rootB M (cutI M im k) = true ∧ lookL M (cutI M im k) = lookL M im := by
 obtain ⟨r0, h0⟩ : ∃ r, r = rowL M im (lookL M im) 0 := ⟨_, rfl⟩;obtain ⟨r1, h1⟩ : ∃ r, r = rowL M im (lookL M im) 1 := ⟨_, rfl⟩;obtain ⟨r2, h2⟩ : ∃ r, r = rowL M im (lookL M im) 2 := ⟨_, rfl⟩
 have hw : writeI M im (lookL M im) = (r0 ++ r1) ++ r2 := by rw [writeI_rows, h0, h1, h2]
 have hz := (lookL_kp hr).sec
 have hat := fun (x : Int) (hx : 0 ≤ x) => cutI_at (M := M) (im := im) (k := k) hx
 rw [hw] at hat
 have m0 : ∀ x, x ∈ r0 ↔ 0 ≤ x ∧ x < im.length ∧ wrKind M im (lookL M im).wt (lookL M im).wp x = 0 := fun x => by rw [h0]; exact row_mem
 have m1 : ∀ x, x ∈ r1 ↔ 0 ≤ x ∧ x < im.length ∧ wrKind M im (lookL M im).wt (lookL M im).wp x = 1 := fun x => by rw [h1]; exact row_mem
 have hfew : ¬ (r0 ++ r1).length ≤ k → ∀ x, x ∈ ((r0 ++ r1) ++ r2).take k → x ∈ r0 ++ r1 := fun hk x hx => by
  rw [List.take_append_of_le_length (by omega)] at hx
  exact List.mem_of_mem_take hx
 have hmany : (r0 ++ r1).length ≤ k → ∀ x, x ∈ r0 ++ r1 → x ∈ ((r0 ++ r1) ++ r2).take k := fun hk x hx => by
  rw [List.take_append, List.take_of_length_le hk]
  exact List.mem_append_left _ hx
 refine look_lk (full := (r0 ++ r1).length ≤ k) (cutI_len M im k) hMl hs hr ?_ ?_ ?_ ?_ ?_
 ·rw [hat 0 (by omega)]
  split
  ·exact hz
  ·rfl
 ·intro i i1 i2
  rw [hat i (by omega)]
  by_cases hx : i ∈ ((r0 ++ r1) ++ r2).take k
  ·rw [if_pos hx]; exact .inr rfl
  ·rw [if_neg hx]
   by_cases hf : (r0 ++ r1).length ≤ k
   ·right
    have hn : i ∉ r1 := fun e => hx (hmany hf i (List.mem_append_right _ e))
    by_cases he : secI (lookL M im).wt i = secI im i
    ·exact he.symm
    ·exact absurd ((m1 i).2 ⟨by omega, by omega, by unfold wrKind; rw [if_neg he, if_pos i2]⟩) hn
   ·exact .inl ⟨hf, rfl⟩
 ·intro n n1 n2
  rw [hat n (by omega)]
  split
  ·exact .inr rfl
  ·exact .inl rfl
 ·intro hf n n1 n2 hwp
  rw [hat n (by omega)]
  by_cases hx : n ∈ ((r0 ++ r1) ++ r2).take k
  ·rw [if_pos hx]
  ·rw [if_neg hx]
   have hn : n ∉ r0 := fun e => hx (hmany hf n (List.mem_append_left _ e))
   by_cases he : secI (lookL M im).wt n = secI im n
   ·exact he.symm
   ·exact absurd ((m0 n).2 ⟨by omega, n2, by unfold wrKind; rw [if_neg he, if_neg (by omega), hwp]; rfl⟩) hn
 ·intro hf n n1 n2 hwp
  rw [hat n (by omega)]
  by_cases hx : n ∈ ((r0 ++ r1) ++ r2).take k
  ·exfalso
   rcases List.mem_append.1 (hfew hf n hx) with e | e
   ·have := ((m0 n).1 e).2.2
    unfold wrKind at this;rw [if_neg (show ¬ n ≤ (M : Int) by omega), hwp] at this
    split at this
    ·omega
    ·simp at this
   ·have := ((m1 n).1 e).2.2
    unfold wrKind at this;rw [if_neg (show ¬ n ≤ (M : Int) by omega), hwp] at this
    split at this
    ·omega
    ·simp at this
  ·rw [if_neg hx]
theorem cut_sup {M : Nat} {im : Img} (hr : rootB M im = true) (k : Nat) : supOf (cutI M im k) = supOf im := by
 have h0 : secI (cutI M im k) 0 = secI im 0 := by
  rw [cutI_at (by omega)]
  split
  ·exact (lookL_kp hr).sec
  ·rfl
 unfold supOf;rw [cutI_len, h0]
theorem cut_all {M : Nat} {im : Img} (hr : rootB M im = true) : cutI M im (writeI M im (lookL M im)).length = (lookL M im).wt := by
 have hlen : (lookL M im).wt.length = im.length := (lookL_kp hr).1
 refine img_ext (by rw [cutI_len, hlen]) fun n => ?_
 by_cases hn : 0 ≤ n
 ·rw [cutI_at hn, List.take_of_length_le (Nat.le_refl _)]
  split
  ·rfl
  ·rename_i h
   by_cases e : secI (lookL M im).wt n = secI im n
   ·exact e.symm
   ·by_cases hl : n < im.length
    ·exact absurd (write_in.2 ⟨hn, hl, e⟩) h
    ·unfold secI
     rw [List.getD_eq_getElem?_getD, List.getD_eq_getElem?_getD, List.getElem?_eq_none (by omega), List.getElem?_eq_none (by omega)]
 ·have : n.toNat = (0 : Int).toNat := by omega
  rw [secI_nat this, secI_nat (wt := (lookL M im).wt) this, cutI_at (by omega)]
  split
  ·rfl
  ·exact (lookL_kp hr).sec.symm
end Go.Proofs.YtpmignilhoihnabGreat

namespace Go.Proofs.YtpmignilhoihnabGreat
open Go.RowKit Go.Shelf
-- may lack

def LatO (w : World) (a : Option Addr) (l : List Int) : Prop := l = [] ∨ ∃ g o, a = some ⟨g, o, none⟩ ∧ g < w.heap.size ∧ ∀ k, k < l.length → w.cell? ⟨g, o + k, none⟩ = some (.int .i64 (l.getD k 0))
theorem LatO.of {w : World} {a : Option Addr} {l : List Int} (h : LAt w a l) : LatO w a l := by
 rcases h with h | ⟨g, h1, ⟨A, h2⟩, h3⟩
 ·exact .inl h
 ·exact .inr ⟨g, 0, h1, slt h2, fun k hk => by rw [Nat.zero_add]; exact h3 k hk⟩
theorem LatO.call {w w' : World} {a : Option Addr} {l : List Int} (h : LatO w a l) (hc : Chg w w' No) : LatO w' a l := by
 rcases h with h | ⟨g, o, h1, h2, h3⟩
 ·exact .inl h
 ·exact .inr ⟨g, o, h1, Nat.lt_of_lt_of_le h2 hc.size, fun k hk => cell_keep (h3 k hk) hc h2 (fun e => e)⟩

set_option maxHeartbeats 1000000 in
set_option maxRecDepth 100000 in
theorem ints_like (l : List Int) (a b : Option Addr) (ca cb : Nat) (w : World) (hl : l.length ≤ 20000) (hA : LatO w a l) (hB : LatO w b l) : Calls Tryz.prog 13 #[.slice a l.length ca, .slice b l.length cb] w fun e w' => e = .returned (.bool true) ∧ Chg w w' No := by
 have HA := hid hA;have HB := hid hB;clear hA hB
 generalize hm : l.length = m at *
 have HM := hid hm;clear hm
 go_enter Tryz.func13, Tryz.ntmps13
 go_wp2_with fail
 go_loopw [5] (fun i wr => ∃ (k : Nat) (wq : World), wq = wr ∧ i = .int .i64 k ∧ k ≤ m ∧ Hid (Chg w wq No)) (fun i _ => m - (intOf i).toNat)
 case atStart => exact ⟨0, w, rfl, rfl, by omega, hid (Chg.refl _ _)⟩
 case round =>
  obtain ⟨k, wq, rfl, rfl, hk, HC⟩ := hrel
  by_cases hlt : k < m
  ·have hki : (k : Int) < (m : Int) := by omega
   obtain ⟨ga, oa, rfl, hga, hca⟩ : ∃ g o, a = some ⟨g, o, none⟩ ∧ g < wq.heap.size ∧ ∀ k, k < l.length → wq.cell? ⟨g, o + k, none⟩ = some (.int .i64 (l.getD k 0)) := by
    rcases HA.out.call HC.out with h | h
    ·have := HM.out; rw [h] at this; simp at this; omega
    ·exact h
   obtain ⟨gb, ob, rfl, hgb, hcb⟩ : ∃ g o, b = some ⟨g, o, none⟩ ∧ g < wq.heap.size ∧ ∀ k, k < l.length → wq.cell? ⟨g, o + k, none⟩ = some (.int .i64 (l.getD k 0)) := by
    rcases HB.out.call HC.out with h | h
    ·have := HM.out; rw [h] at this; simp at this; omega
    ·exact h
   have c1 := hca k (by rw [HM.out]; exact hlt);have c2 := hcb k (by rw [HM.out]; exact hlt)
   generalize l.getD k 0 = y at *
   clear hca hcb hga hgb hlt
   go_wp2_with fail
   go_quiet (fail)
   go_wp2_with fail
   exact ⟨⟨k + 1, _, rfl, by go_num, by omega, hid (HC.out.tr (chg_drewN wq _))⟩, by simp [intOf]; omega⟩
  ·clear hk
   go_wp2_with fail
   go_ret
   exact ⟨rfl, HC.out⟩
theorem IOwn.cap {w : World} {B : Nat} {a : Option Addr} {n c : Nat} {l : List Int} (h : IOwn w B (.slice a n c) l) : l.length ≤ c := by
 rcases h.2 with ⟨e, hz⟩ | ⟨g, cap, cur, e, _, _, h1, _⟩
 ·injection e with _ e2 e3
  omega
 ·injection e with _ _ e3
  omega
structure LkC (w0 w : World) (im : Img) (M : Nat) (gw s1 : Nat) (a1 a2 a3 : Option Addr) : Prop where
 sup : (supOf im).2.2 = 0
 hM : M = (supOf im).2.1.toNat
 ml : M + 2 ≤ im.length
 root : rootB M im = true
 sec : AllSec im
 n1 : 8 ≤ im.length
 n2 : im.length ≤ 4096
 wt : WtAt w gw (lookL M im).wt
 new : w0.heap.size ≤ gw
 tl : (lookL M im).wt.length = im.length
 c1 : (writeI M im (lookL M im)).length ≤ s1
 l1 : LAt w a1 (writeI M im (lookL M im))
 l2 : LAt w a2 (inodesI M (lookL M im))
 l3 : LAt w a3 (blocksI im (lookL M im))
theorem look_c (ia : Option Addr) (ic : Nat) (im : Img) (w : World) (h : ImgAt w ia im) :
  Calls Tryz.prog 7 #[.slice ia im.length ic] w fun e w' => Chg w w' No ∧ ((((supOf im).2.2 = 0 → rootB (supOf im).2.1.toNat im = false) ∧ ∃ E, (E = 120 ∨ E = 121) ∧ e = .returned (.tuple #[.agg nil4, .int .i64 E])) ∨
   ∃ M gw wc s1 s2 s3 a1 a2 a3, e = .returned (.tuple #[.agg #[.slice (some ⟨gw, 0, none⟩) im.length wc, .slice a1 (writeI M im (lookL M im)).length s1, .slice a2 (inodesI M (lookL M im)).length s2, .slice a3 (blocksI im (lookL M im)).length s3], .int .i64 0]) ∧ LkC w w' im M gw s1 a1 a2 a3) := by
 by_cases he : (supOf im).2.2 = 0
 ·refine (look_good ia ic im (supOf im).2.1.toNat w h he rfl).mono ?_
  rintro e w' ⟨r, rfl, hc, h1, h2⟩
  refine ⟨hc, ?_⟩;obtain ⟨s1, s2, s3, s4, s5⟩ := supOf_ok he
  cases hb : rootB (supOf im).2.1.toNat im with
  | false => exact .inl ⟨fun _ => rfl, 121, .inr rfl, by rw [h1 hb]; rfl⟩
  | true =>
   obtain ⟨g, wc, v1, v2, v3, rfl, hnw, hwt, hR⟩ := h2 hb;have hkp := lookL_kp hb;obtain ⟨M, hM⟩ : ∃ y, y = (supOf im).2.1.toNat := ⟨_, rfl⟩;rw [← hM] at hR hwt hkp hb;obtain ⟨a1, c1, rfl, hl1⟩ := hR.o1.lat;obtain ⟨a2, c2, rfl, hl2⟩ := hR.o2.lat;obtain ⟨a3, c3, rfl, hl3⟩ := hR.o3.lat
   exact .inr ⟨M, g, wc, c1, c2, c3, a1, a2, a3, by rw [← hM, hkp.1]; rfl, he, hM, by omega, hb, h.secI, s2, s3, hwt, hnw, hkp.1, hR.o1.cap, hl1, hl2, hl3⟩
 ·refine (look_bad ia ic im w h he).mono ?_
  rintro e w' ⟨rfl, hc⟩
  exact ⟨hc, .inl ⟨fun e => absurd e he, 120, .inl rfl, rfl⟩⟩
end Go.Proofs.YtpmignilhoihnabGreat

namespace Go.Proofs.YtpmignilhoihnabGreat
open Go.RowKit Go.Shelf

theorem well_fix {im : Img} (hs : AllSec im) : WellI im ↔ (supOf im).2.2 = 0 ∧ rootB (supOf im).2.1.toNat im = true ∧ (lookL (supOf im).2.1.toNat im).wt = im := by
 unfold WellI
 constructor
 ·rintro ⟨h1, h2⟩
  obtain ⟨_, _, _, m1, m2⟩ := supOf_ok h1
  exact ⟨h1, (fix_iff (by omega) (by omega) hs).1 h2⟩
 ·rintro ⟨h1, h2⟩
  obtain ⟨_, _, _, m1, m2⟩ := supOf_ok h1
  exact ⟨h1, (fix_iff (by omega) (by omega) hs).2 h2⟩
end Go.Proofs.YtpmignilhoihnabGreat

namespace Go.Proofs.YtpmignilhoihnabGreat
open Go.RowKit Go.Shelf

theorem want_fix {M : Nat} {im : Img} (hMl : M < im.length) (hs : AllSec im) (hr : rootB M im = true) : supOf (lookL M im).wt = supOf im ∧ rootB M (lookL M im).wt = true ∧ lookL M (lookL M im).wt = lookL M im := by
 have h1 := cut_sup (M := M) (im := im) hr (writeI M im (lookL M im)).length;have h2 := cut_look hMl hs hr (writeI M im (lookL M im)).length;rw [cut_all hr] at h1 h2
 exact ⟨h1, h2.1, h2.2⟩
theorem want_well {w0 w : World} {im : Img} {M gw s1 : Nat} {a1 a2 a3 : Option Addr} (h : LkC w0 w im M gw s1 a1 a2 a3) : WellI (lookL M im).wt := by
 have hml := h.ml;obtain ⟨e1, e2, e3⟩ := want_fix (by omega) h.sec h.root;refine (well_fix h.wt.sec).2 ?_;rw [e1, ← h.hM, e3]
 exact ⟨h.sup, e2, rfl⟩
end Go.Proofs.YtpmignilhoihnabGreat

namespace Go.Proofs.YtpmignilhoihnabGreat
open Go.RowKit Go.Shelf

def exR : List Int := [2, 7, 128, 0, 5, 0, 0, 0, 0, 0, 0, 0, 0, 0, 0, 0, 0, 0]
def exF : List Int := [1, 1, 3, 0, 6, 0, 0, 0, 0, 0, 0, 0, 0, 0, 0, 0, 0, 0]
def exH : List Int := [104, 101, 108, 108, 111] ++ List.replicate 123 0
def exIm : Img := [supS 16 4, inoS exR, inoS exF, Zs, Zs, slotS 2 ⟨#[97]⟩, exH, Zs, Zs, Zs, Zs, Zs, Zs, Zs, Zs, Zs]
theorem ex_sup : supOf exIm = (16, 4, 0) := by kernel_rfl
theorem ex_root : rootB 4 exIm = true := by kernel_rfl
theorem ex_inodes : inodesI 4 (lookL 4 exIm) = [1, 2] := by kernel_rfl
theorem ex_blocks : blocksI exIm (lookL 4 exIm) = [5, 6] := by kernel_rfl
theorem ex_six : secI (lookL 4 exIm).wt 6 = [104, 101, 108] ++ List.replicate 125 0 := by kernel_rfl
theorem ex_one : (secI (lookL 4 exIm).wt 1).getD 1 0 = 1 := by kernel_rfl
theorem ex_len : (lookL 4 exIm).wt.length = 16 := by kernel_rfl
theorem ex_write : writeI 4 exIm (lookL 4 exIm) = [1, 6] := by kernel_rfl

end Go.Proofs.YtpmignilhoihnabGreat

namespace Go.Proofs.YtpmignilhoihnabGreat
open Go.RowKit Go.Shelf

def zl (n : Nat) : List Int := List.replicate n 0
theorem zl_len (n : Nat) : (zl n).length = n := by simp [zl]
theorem zl_get (n j : Nat) : (zl n).getD j 0 = 0 := by
 unfold zl
 by_cases h : j < n
 ·simp [List.getD_eq_getElem?_getD, h]
 ·simp [List.getD_eq_getElem?_getD, h]
theorem infoS : ∃ i, Tryz.prog.info? 36 = some i ∧ i.zero = some (.agg (SA Zs)) ∧ i.size = 128 ∧ i.bytes = 128 := by
 have h : (Tryz.prog.info? 36).map (fun i => (i.zero, i.size, i.bytes)) = some (some (.agg (SA Zs)), 128, 128) := by kernel_rfl
 cases hq : Tryz.prog.info? 36 with
 | none => rw [hq] at h; cases h
 | some i =>
  rw [hq] at h
  simp at h
  exact ⟨i, rfl, h.1, h.2.1, h.2.2⟩
theorem made_secs (n : Nat) : madeCells (SA Zs) n = SA (zl n) := by
 apply Array.ext
 ·simp [size_madeCells, SA_size, zl_len]
 ·intro i h1 h2
  have hs : (SA Zs).size = 128 := by rw [SA_size, Zs_len]
  have hi : i % 128 < 128 := Nat.mod_lt _ (by decide)
  have e : (SA Zs)[i % 128]! = Value.int .u8 0 := by
   rw [Array.getElem!_eq_getD, Array.getD_eq_getD_getElem?, SA_get Zs _ (by rw [Zs_len]; exact hi), show Zs.getD (i % 128) 0 = 0 from zl_get 128 _]
   rfl
  simp only [madeCells, Array.getElem_map, Array.getElem_range, hs, e]
  simp [SA, zl]
theorem make_secs (n : Int) (h0 : 0 ≤ n) (h1 : 128 * n ≤ 281474976710656) (w : World) :
  (Instr.makeSlice 22 (.int .i64 n) (.int .i64 n)).run Tryz.prog w = .ok (.slice (some ⟨w.heap.size, 0, none⟩) n.toNat n.toNat) (w.alloc (.cells (SA (zl (128 * n.toNat))) 36)) := by
 obtain ⟨i, hi, hz, hs, hb⟩ := infoS;rw [run_make w 22 36 i _ Tryz.underlying22 hi hz .i64 .i64 n n h0 (Int.le_refl _) (by rw [hb]; omega) (by omega), hs, Nat.mul_comm];rw [show Value.cells (.agg (SA Zs)) = SA Zs from rfl, made_secs]
theorem wt_made (w : World) (n : Nat) : WtAt (w.alloc (.cells (SA (zl (128 * n))) 36)) w.heap.size (List.replicate n Zs) := by
 refine ⟨fun s hs => by rw [List.eq_of_mem_replicate hs]; exact Zs_sec, _, heap_alloc_new _ _, fun j s hj i x hx => ?_⟩
 have hjn : j < n := by have := (List.getElem?_eq_some_iff.1 hj).1; simpa using this
 have hs : s = Zs := List.eq_of_mem_replicate (List.mem_of_getElem? hj);subst hs
 have hi : i < 128 := by have := (List.getElem?_eq_some_iff.1 hx).1; rw [Zs_len] at this; exact this
 have hx0 : x = 0 := by
  have h1 : Zs.getD i 0 = 0 := zl_get 128 i;rw [List.getD_eq_getElem?_getD, hx] at h1
  exact h1
 subst hx0
 have hb : j * 128 + i < (zl (128 * n)).length := by rw [zl_len]; omega
 rw [SA_get _ _ hb, zl_get]
section
variable {ops : Array Oper} {rest : List Oper} {o : Oper} {a : Act} {Q : Exit → Act → World → Prop} {w : World}
theorem wp_bld (hg : o.guard = none) (t : TypeId) (ps : Array (Nat × Operand)) (_hop : o.op = .build t ps) (v : Value) (hr : ∀ w', (execOp a.eval o).run Tryz.prog w' = .ok (.value v) w')
  (h : wpList Tryz.prog ops Q rest (a.put o.dst v) w) : wpList Tryz.prog ops Q (o :: rest) a w := by
 refine wpList_plain hg fun K hK => ?_
 unfold Oper.wp;rw [hr]
 exact hK _ _ h
end
def secB (s : List Int) : Bool := s.length == 128 && s.all fun x => decide (0 ≤ x ∧ x ≤ 255)
theorem secB_of {s : List Int} (h : secB s = true) : IsSec s := by
 unfold secB at h
 simp only [Bool.and_eq_true, beq_iff_eq, List.all_eq_true, decide_eq_true_eq] at h
 exact h
theorem ex_s0 : IsSec (supS 16 4) := secB_of (by kernel_rfl)
theorem ex_s5 : IsSec (slotS 2 ⟨#[97]⟩) := secB_of (by kernel_rfl)
theorem exH_sec : IsSec exH := secB_of (by kernel_rfl)
def exA : Img := (List.replicate 16 Zs).set 0 (supS 16 4)
def exB : Img := exA.set 1 (inoS exR)
def exC : Img := exB.set 2 (inoS exF)
def exD : Img := exC.set 5 (slotS 2 ⟨#[97]⟩)
theorem wrote_on {w w1 w2 w3 : World} {g : Nat} (h : Chg w w1 No) (hb : Below w1.heap.size w1 w2) (hc : Chg w2 w3 (· = g)) (hg : w.heap.size ≤ g) : Chg w w3 No :=
 (h.trans (Chg.of_below hb No) (c := No) (fun _ _ e => e) (fun _ _ e => e)).trans hc (fun _ _ e => e) (fun j hj e => by omega)

set_option maxRecDepth 100000 in
set_option maxHeartbeats 1000000 in
theorem example_any (w : World) : Calls Tryz.prog 14 #[] w fun e w' => ∃ g, e = .returned (.slice (some ⟨g, 0, none⟩) 16 16) ∧ w.heap.size ≤ g ∧ WtAt w' g exIm ∧ Chg w w' No := by
 have hmk := fun W => make_secs 16 (by decide) (by decide) W
 simp only [show (16 : Int).toNat = 16 from rfl] at hmk
 obtain ⟨W0, hW0⟩ : ∃ y, y = w.alloc (.cells (SA (zl (128 * 16))) 36) := ⟨_, rfl⟩;have HC : Hid (Chg w W0 No) := hid (by rw [hW0]; exact Chg.alloc _ _ _);have HW : Hid (WtAt W0 w.heap.size (List.replicate 16 Zs)) := hid (by rw [hW0]; exact wt_made w 16)
 have hS := fun W => rsuperSector_any 16 4 W
 have hR := fun W => rinodeSector_any exR rfl W
 have hF := fun W => rinodeSector_any exF rfl W
 have hL := fun W => rslotSector_any 2 ⟨#[97]⟩ W (by decide)
 go_enter Tryz.func14, Tryz.ntmps14
 go_upto_region 2 with fail
 rw [← hW0];clear hmk hW0
 go_upto_region 3 with (first
  | (refine wp_bld rfl 32 _ rfl (.agg #[.int .i64 16, .int .i64 4]) (fun _ => by kernel_rfl) ?_)
  | (go_at_call 26; go_must (refine (hS _).mono ?_; rintro e v2 ⟨rfl, hb⟩))
  | (refine store_wt rfl _ _ rfl w.heap.size 0 rfl (supS 16 4) rfl ex_s0 (List.replicate 16 Zs) (HW.out.keep (Chg.of_below hb No) (fun e => e)) (by decide) ?_; intro w2 hw hc hz)
  | fail)
 replace HC : Hid (Chg w w2 No) := hid (wrote_on HC.out hb hc (Nat.le_refl _));replace HW : Hid (WtAt w2 w.heap.size exA) := hid hw;clear hb hw hc hz
 go_upto_region 4 with (first
  | (refine wp_bld rfl 39 _ rfl (.agg (NA exR)) (fun _ => by kernel_rfl) ?_)
  | (refine wp_bld rfl 37 _ rfl (.agg (NA [5, 0, 0, 0, 0, 0, 0, 0, 0, 0, 0, 0])) (fun _ => by kernel_rfl) ?_)
  | (go_at_call 27; go_must (refine (hR _).mono ?_; rintro e v3 ⟨rfl, hb⟩))
  | (refine store_wt rfl _ _ rfl w.heap.size 1 rfl (inoS exR) rfl (inoS_sec _) exA (HW.out.keep (Chg.of_below hb No) (fun e => e)) (by decide) ?_; intro w3 hw hc hz)
  | fail)
 replace HC : Hid (Chg w w3 No) := hid (wrote_on HC.out hb hc (Nat.le_refl _));replace HW : Hid (WtAt w3 w.heap.size exB) := hid hw;clear hb hw hc hz
 go_upto_region 5 with (first
  | (refine wp_bld rfl 39 _ rfl (.agg (NA exF)) (fun _ => by kernel_rfl) ?_)
  | (refine wp_bld rfl 37 _ rfl (.agg (NA [6, 0, 0, 0, 0, 0, 0, 0, 0, 0, 0, 0])) (fun _ => by kernel_rfl) ?_)
  | (go_at_call 27; go_must (refine (hF _).mono ?_; rintro e v4 ⟨rfl, hb⟩))
  | (refine store_wt rfl _ _ rfl w.heap.size 2 rfl (inoS exF) rfl (inoS_sec _) exB (HW.out.keep (Chg.of_below hb No) (fun e => e)) (by decide) ?_; intro w4 hw hc hz)
  | fail)
 replace HC : Hid (Chg w w4 No) := hid (wrote_on HC.out hb hc (Nat.le_refl _));replace HW : Hid (WtAt w4 w.heap.size exC) := hid hw;clear hb hw hc hz
 go_upto_region 6 with (first
  | (refine wp_bld rfl 82 _ rfl (.agg #[.int .i64 2, .string ⟨#[97]⟩]) (fun _ => by kernel_rfl) ?_)
  | (go_at_call 30; go_must (refine (hL _).mono ?_; rintro e v5 ⟨rfl, hb⟩))
  | (refine store_wt rfl _ _ rfl w.heap.size 5 rfl (slotS 2 ⟨#[97]⟩) rfl ex_s5 exC (HW.out.keep (Chg.of_below hb No) (fun e => e)) (by decide) ?_; intro w5 hw hc hz)
  | fail)
 replace HC : Hid (Chg w w5 No) := hid (wrote_on HC.out hb hc (Nat.le_refl _));replace HW : Hid (WtAt w5 w.heap.size exD) := hid hw;clear hb hw hc hz
 go_wp2_with (first
  | (refine wp_bld rfl 36 _ rfl (.agg (SA exH)) (fun _ => by kernel_rfl) ?_)
  | (refine store_wt rfl _ _ rfl w.heap.size 6 rfl exH rfl exH_sec exD HW.out (by decide) ?_; intro w6 hw hc hz)
  | fail)
 go_ret
 exact ⟨_, rfl, Nat.le_refl _, hw, HC.out.trans hc (fun _ _ e => e) (fun j hj e => by omega)⟩

end Go.Proofs.YtpmignilhoihnabGreat

namespace Go.Proofs.YtpmignilhoihnabGreat
open Go.RowKit Go.Shelf

set_option maxHeartbeats 1000000 in
set_option maxRecDepth 100000 in
theorem ints_same (l : List Int) (a b : Option Addr) (ca cb : Nat) (w : World) (hl : l.length ≤ 5000) (hA : LAt w a l) (hB : LAt w b l) : Calls Tryz.prog 13 #[.slice a l.length ca, .slice b l.length cb] w fun e w' => e = .returned (.bool true) ∧ Chg w w' No := by
 have HA := hid hA;have HB := hid hB;clear hA hB
 generalize hm : l.length = m at *
 have HM := hid hm;clear hm
 go_enter Tryz.func13, Tryz.ntmps13
 go_wp2_with fail
 go_loopw [5] (fun i wr => ∃ (k : Nat) (wq : World), wq = wr ∧ i = .int .i64 k ∧ k ≤ m ∧ Hid (Chg w wq No)) (fun i _ => m - (intOf i).toNat)
 case atStart => exact ⟨0, w, rfl, rfl, by omega, hid (Chg.refl _ _)⟩
 case round =>
  obtain ⟨k, wq, rfl, rfl, hk, HC⟩ := hrel
  by_cases hlt : k < m
  ·have hki : (k : Int) < (m : Int) := by omega
   obtain ⟨ga, rfl, hga, hca⟩ : ∃ ga, a = some ⟨ga, 0, none⟩ ∧ (∃ A, wq.heap[ga]? = some (.cells A 3 (0, 0))) ∧ ∀ k, k < l.length → wq.cell? ⟨ga, k, none⟩ = some (.int .i64 (l.getD k 0)) := by
    rcases HA.out.call HC.out with h | h
    ·have := HM.out; rw [h] at this; simp at this; omega
    ·exact h
   obtain ⟨gb, rfl, hgb, hcb⟩ : ∃ gb, b = some ⟨gb, 0, none⟩ ∧ (∃ A, wq.heap[gb]? = some (.cells A 3 (0, 0))) ∧ ∀ k, k < l.length → wq.cell? ⟨gb, k, none⟩ = some (.int .i64 (l.getD k 0)) := by
    rcases HB.out.call HC.out with h | h
    ·have := HM.out; rw [h] at this; simp at this; omega
    ·exact h
   have c1 := hca k (by rw [HM.out]; exact hlt);have c2 := hcb k (by rw [HM.out]; exact hlt)
   generalize l.getD k 0 = y at *
   clear hca hcb hga hgb hlt
   go_wp2_with fail
   go_quiet (fail)
   go_wp2_with fail
   exact ⟨⟨k + 1, _, rfl, by go_num, by omega, hid (HC.out.tr (chg_drewN wq _))⟩, by simp [intOf]; omega⟩
  ·clear hk
   go_wp2_with fail
   go_ret
   exact ⟨rfl, HC.out⟩

theorem lat_two (W : World) (x y : Int) : LAt (W.alloc (.cells #[.int .i64 x, .int .i64 y] 3)) (some ⟨W.heap.size, 0, none⟩) [x, y] := by
 refine .inr ⟨W.heap.size, rfl, ⟨_, heap_alloc_new _ _⟩, fun k hk => ?_⟩;rw [cell_of_row _ _ _ _ _ _ (heap_alloc_new W _)]
 match k, hk with
 | 0, _ => rfl
 | 1, _ => rfl
theorem ints_two {w : World} {a : Option Addr} {c : Nat} {x y : Int} (h : LAt w a [x, y]) (W : World) (hc : Chg w W No) :
  Calls Tryz.prog 13 #[.slice a 2 c, .slice (some ⟨W.heap.size, 0, none⟩) 2 2] (W.alloc (.cells #[.int .i64 x, .int .i64 y] 3)) fun e w' => e = .returned (.bool true) ∧ Chg W w' No := by
 refine (ints_same [x, y] a (some ⟨W.heap.size, 0, none⟩) c 2 _ (by simp) ((h.call hc).call (Chg.alloc _ _ _)) (lat_two W x y)).mono ?_
 rintro e w' ⟨rfl, h1⟩
 exact ⟨rfl, (Chg.alloc _ _ _).tr h1⟩
section
variable {ops : Array Oper} {rest : List Oper} {o : Oper} {a : Act} {Q : Exit → Act → World → Prop} {w : World}
theorem wp_bldW (t : TypeId) (ps : Array (Nat × Operand)) (_hop : o.op = .build t ps) (hw : Region.wanted o (yielded ops a.tmps) = true) (v : Value) (hr : ∀ w', (execOp a.eval o).run Tryz.prog w' = .ok (.value v) w')
  (h : wpList Tryz.prog ops Q rest (a.put o.dst v) w) : wpList Tryz.prog ops Q (o :: rest) a w := by
 refine wpList_want hw fun K hK => ?_
 unfold Oper.wp;rw [hr]
 exact hK _ _ h
end
def hel : List Int := [104, 101, 108] ++ List.replicate 125 0
theorem hel_len : hel.length = 128 := by kernel_rfl

structure ExR (W w' : World) (gw wc s1 s2 s3 : Nat) (a1 a2 a3 : Option Addr) : Prop where
 six : w'.rangeAt gw (6 * 128) (hel.map (Value.int .u8))
 one : w'.cell? ⟨gw, 129, none⟩ = some (.int .u8 1)
 lt : gw < w'.heap.size
 l1 : LAt w' a1 [1, 6]
 l2 : LAt w' a2 [1, 2]
 l3 : LAt w' a3 [5, 6]
 ch : Chg W w' No
theorem one_at {w : World} {g : Nat} {T : Img} (h : WtAt w g T) (hl : T.length = 16) (e : (secI T 1).getD 1 0 = 1) : w.cell? ⟨g, 129, none⟩ = some (.int .u8 1) := by
 have h1 := h.range (k := 1) (by omega);have hs := (h.sec 1).1
 have h2 := h1 1 (.int .u8 1) (by
  rw [List.getElem?_map]
  show Option.map (Value.int .u8) ((secI T 1)[1]?) = _
  rw [List.getD_eq_getElem?_getD] at e
  cases hq : (secI T 1)[1]? with
  | none =>
   have := List.getElem?_eq_none_iff.1 hq
   omega
  | some x =>
   rw [hq] at e;have : x = 1 := e;rw [this]
   rfl)
 exact h2
theorem six_at {w : World} {g : Nat} {T : Img} (h : WtAt w g T) (hl : T.length = 16) (e : secI T 6 = hel) : w.rangeAt g (6 * 128) (hel.map (Value.int .u8)) := by
 have := h.range (k := 6) (by omega);have e6 : secI T ((6 : Nat) : Int) = hel := e;rw [e6] at this
 exact this
theorem look_ex (W : World) (g : Nat) (h : WtAt W g exIm) : Calls Tryz.prog 7 #[.slice (some ⟨g, 0, none⟩) 16 16] W fun e w' => ∃ gw wc a1 s1 a2 s2 a3 s3, e = .returned (.tuple #[.agg #[.slice (some ⟨gw, 0, none⟩) 16 wc, .slice a1 2 s1, .slice a2 2 s2, .slice a3 2 s3], .int .i64 0]) ∧ ExR W w' gw wc s1 s2 s3 a1 a2 a3 := by
 have hk := look_good (some ⟨g, 0, none⟩) 16 exIm 4 W (ImgAt.of_wt h) (by rw [ex_sup]) (by rw [ex_sup]; rfl);have hR := ex_root;have h1 := ex_len;have h2 : secI (lookL 4 exIm).wt 6 = hel := ex_six;have h3 := ex_one;have h4 := ex_write;have h5 := ex_inodes;have h6 := ex_blocks;refine hk.mono ?_;unfold LookPost;rw [hR, h4, h5, h6]
 generalize (lookL 4 exIm).wt = T at *
 rintro e w' ⟨r, rfl, hc, _, hr⟩
 obtain ⟨gw, wc, v1, v2, v3, rfl, hgw, hwt, hrep⟩ := hr rfl;obtain ⟨a1, s1, rfl, hl1⟩ := hrep.o1.lat;obtain ⟨a2, s2, rfl, hl2⟩ := hrep.o2.lat;obtain ⟨a3, s3, rfl, hl3⟩ := hrep.o3.lat
 exact ⟨gw, wc, a1, s1, a2, s2, a3, s3, by rw [h1]; rfl, six_at hwt h1 h2, one_at hwt h1 h3, hwt.lt, hl1, hl2, hl3, hc⟩

set_option maxHeartbeats 2000000 in
set_option maxRecDepth 100000 in
theorem known_any (w : World) : Calls Tryz.prog 6 #[] w fun e w' => e = .returned (.bool true) ∧ Chg w w' No := by
 have hzr := zero_rep;have hE := example_any w
 go_enter Tryz.func6, Tryz.ntmps6
 go_upto_region 2 with (first
  | (go_at_call 14; go_must (refine hE.mono ?_; rintro e w1 ⟨g, rfl, hg1, hw1, hc1⟩; have hLk := look_ex w1 g hw1))
  | (go_at_call 7; go_must (refine hLk.mono ?_; rintro e w2 ⟨gw, wc, a1, s1, a2, s2, a3, s3, rfl, hX⟩))
  | (refine store_R rfl 26 _ _ rfl w2.heap.size #[.slice (some ⟨gw, 0, none⟩) 16 wc, .slice a1 2 s1, .slice a2 2 s2, .slice a3 2 s3] rfl rfl 26 _ (heap_alloc_new _ _) szRep rfl (rep_one _ _ _ rfl rfl rfl) ?_; intro w3 hw3)
  | fail)
 have h23 : Chg w2 w3 No := (Chg.alloc w2 _ No).trans (kt_new hw3) (fun _ _ e => e) (fun j hj e => by omega);have HC3 : Hid (Chg w w3 No) := hid ((hc1.tr hX.ch).tr h23);have HX := hid hX;have H23 := hid h23;have H1 := hid (fun W hW => ints_two (c := s1) (hX.l1.call h23) W hW);have H2 := hid (fun W hW => ints_two (c := s2) (hX.l2.call h23) W hW);have H3 := hid (fun W hW => ints_two (c := s3) (hX.l3.call h23) W hW);have HG3 := hid hw3.here;obtain ⟨g3, hg3⟩ : ∃ y, y = w2.heap.size := ⟨_, rfl⟩;rw [← hg3] at HG3 ⊢
 have HK : Hid (∀ (W : World) (_hW : Chg w3 W No), W.cell? ⟨g3, 0, none⟩ = some (.slice (some ⟨gw, 0, none⟩) 16 wc) ∧ W.cell? ⟨g3, 1, none⟩ = some (.slice a1 2 s1) ∧ W.cell? ⟨g3, 2, none⟩ = some (.slice a2 2 s2) ∧ W.cell? ⟨g3, 3, none⟩ = some (.slice a3 2 s3)) := hid (fun W hW => by
  have h0 := hW.keep HG3.out (fun e => e)
  exact ⟨(cell_of_row _ _ _ _ _ _ h0).trans rfl, (cell_of_row _ _ _ _ _ _ h0).trans rfl, (cell_of_row _ _ _ _ _ _ h0).trans rfl, (cell_of_row _ _ _ _ _ _ h0).trans rfl⟩)
 obtain ⟨p0, p1, _, _⟩ := HK.out w3 (Chg.refl _ _);clear hw3 hg3 hX h23 hLk hE hc1 hw1 hg1
 go_upto_region 3 with (first
  | (go_at_call 13; go_must (first
    | (refine (H3.out w5 (hc4.tr hc5)).mono ?_; rintro e w6 ⟨rfl, hc6⟩; obtain ⟨p0, p1, p2, p3⟩ := HK.out w6 ((hc4.tr hc5).tr hc6))
    | (refine (H2.out w4 hc4).mono ?_; rintro e w5 ⟨rfl, hc5⟩; obtain ⟨p0, p1, p2, p3⟩ := HK.out w5 (hc4.tr hc5))
    | (refine (H1.out w3 (Chg.refl _ _)).mono ?_; rintro e w4 ⟨rfl, hc4⟩; obtain ⟨p0, p1, p2, p3⟩ := HK.out w4 hc4)))
  | fail)
 have h36 := (hc4.tr hc5).tr hc6;have h26 := H23.out.tr h36;have HR6 : Hid (w6.rangeAt gw (6 * 128) (hel.map (Value.int .u8))) := hid (fun i x hx => cell_keep (HX.out.six i x hx) h26 HX.out.lt (fun e => e));have c129 : w6.cell? ⟨gw, 129, none⟩ = some (.int .u8 1) := cell_keep HX.out.one h26 HX.out.lt (fun e => e)
 have hq : ∀ W, (Op.equalIn 10000 36 (.agg (SA hel)) (.agg (SA hel))).run Tryz.prog W = .ok true W := fun W => by rw [eq_sec _ _ hel_len hel_len, decide_eq_true rfl]
 have HQ := hid hq;have HC6 : Hid (Chg w w6 No) := hid (HC3.out.tr h36);have HSA : Hid ((hel.map (Value.int .u8)).toArray = SA hel) := hid (by simp [SA]);have HSz : Hid ((Tryz.prog.info? 36).map (·.size) = some (hel.map (Value.int .u8)).length) := hid (by rw [sz26, List.length_map, hel_len]);clear h36 h26 hc4 hc5 hc6 H1 H2 H3 HK hq
 go_wp2_with (first
  | (refine load_mid 36 _ rfl gw (6 * 128) rfl _ _ HR6.out Tryz.underlying36 rfl HSz.out (by rfl) ?_; rw [HSA.out])
  | (refine wp_bldW 36 _ rfl (by rfl) (.agg (SA hel)) (fun _ => by kernel_rfl) ?_)
  | (refine eql_R (by rfl) 36 _ _ rfl (SA hel) (SA hel) true rfl rfl HQ.out guard_sec ?_)
  | fail)
 go_ret
 exact ⟨rfl, HC6.out⟩

end Go.Proofs.YtpmignilhoihnabGreat

namespace Go.Proofs.YtpmignilhoihnabGreat
open Go.RowKit Go.Shelf

theorem wellB_u (ia : Option Addr) (ic n : Nat) (im : Img) (hn : n = im.length) (w : World) (h : ImgAt w ia im) (b : Bool) (hb : wellB im = b) : Calls Tryz.prog 8 #[.slice ia n ic] w fun e w' => e = .returned (.bool b) ∧ Chg w w' No := by
 rw [hn, ← hb]
 exact well_any ia ic im w h
def Marked (T : Img) (k : Nat) (U : Int → Bool) : Prop := ∀ n : Int, n ≠ 0 → (U n = true ↔ ∃ j : Nat, j < k ∧ kd T ((j : Int) + 1) ≠ 0 ∧ n ∈ ptsZ T (zI T ((j : Int) + 1)))
structure UK (M n : Nat) (T : Img) (p cl : Int → Bool) : Prop where
 len : T.length = n
 sec : AllSec T
 m1 : 1 ≤ M
 m2 : M + 2 ≤ n
 n2 : n ≤ 4096
 ino : ∀ i : Int, 1 ≤ i → i ≤ M → (rdI T i).2 = 0
 fol : ∀ i : Int, 1 ≤ i → i ≤ M → kd T i ≠ 0 → FolOk T (zI T i)
 rg : ∀ i : Int, 1 ≤ i → i ≤ M → kd T i ≠ 0 → ∀ m ∈ ptsZ T (zI T i), 0 < m ∧ m < n
 p : ∀ i, p i = true ↔ 1 ≤ i ∧ i ≤ M ∧ kd T i ≠ 0
 cl : ∀ m, cl m = true ↔ ∃ j : Nat, j < M ∧ kd T ((j : Int) + 1) ≠ 0 ∧ m ∈ ptsZ T (zI T ((j : Int) + 1))
theorem uk_of {w0 w : World} {im : Img} {M gw s1 : Nat} {a1 a2 a3 : Option Addr} (h : LkC w0 w im M gw s1 a1 a2 a3) : UK M im.length (lookL M im).wt (fun x => ((lookL M im).tk x).isSome) (lookL M im).cl := by
 have hml := h.ml;have hsec : AllSec (lookL M im).wt := h.wt.sec;obtain ⟨e1, e2, e3⟩ := want_fix (by omega) h.sec h.root;obtain ⟨_, _, _, m1, _⟩ := supOf_ok h.sup
 have hM1 : 1 ≤ M := by rw [h.hM]; omega
 have hw : WellP M (lookL M im).wt := by
  have := (want_well h).2;rw [e1, ← h.hM] at this
  exact this
 obtain ⟨u1, u2⟩ := well_uses hsec hw hM1;rw [e3] at u1 u2
 have hst : ∀ i : Int, 1 ≤ i → i ≤ M → kd (lookL M im).wt i ≠ 0 → ∃ c0, Still (lookL M im).wt.length M (lookL M im).wt (zI (lookL M im).wt i) c0 := fun i h1 h2 hk => by
  obtain ⟨k, rfl⟩ : ∃ k : Nat, i = (k : Int) + 1 := ⟨(i - 1).toNat, by omega⟩
  exact ⟨_, hw.ptr k (by omega) hk⟩
 have hM0 := Int.natCast_nonneg M;refine ⟨h.tl, hsec, hM1, h.ml, h.n2, hw.ino, fun i h1 h2 hk => ?_, fun i h1 h2 hk m hm => ?_, u1, u2⟩
 ·obtain ⟨c0, st⟩ := hst i h1 h2 hk
  obtain ⟨_, _, s0, s1, _⟩ := kind_size (hw.ino i h1 h2) hk;obtain ⟨t1, t2, t3⟩ := still_tabs hM0 rfl hsec (zI_len _ _) st
  exact ⟨zI_len _ _, s0, s1, fun q => by have := t1 q; omega, fun q => by have := t2 q; omega, fun q a ha q2 => by have := t3 q a ha q2; omega⟩
 ·obtain ⟨c0, st⟩ := hst i h1 h2 hk
  have hp := (ptrsW_iff hM0 rfl hsec (zI_len _ _) c0 _).2 ⟨st, rfl⟩;have := pts_rg hp m hm;have := h.tl
  omega

theorem sup_rd {im : Img} (he : (supOf im).2.2 = 0) : rdSup (getV (secI im 0) 4 4) (getV (secI im 0) 8 4) (secI im 0) = supOf im := by
 unfold supOf at he ⊢
 split
 ·rename_i hl
  rw [if_pos hl] at he
  simp only at he ⊢
  split
  ·rfl
  ·rename_i hr
   rw [if_neg hr] at he
   cases he
 ·rename_i hl
  rw [if_neg hl] at he
  cases he
structure UL (w0 w : World) (gu n : Nat) (v : Value) (l : List Int) (U : Int → Bool) : Prop where
 o : IOwn w w0.heap.size v l
 b : BAt w gu n U
 ch : Chg w0 w (· = gu)
section
variable {w0 w w' : World} {gu n : Nat} {v v' : Value} {l l' : List Int} {U : Int → Bool}
theorem UL.step (h : UL w0 w gu n v l U) (hc : Chg w w' No) : UL w0 w' gu n v l U :=
 ⟨h.o.keep hc (fun _ _ e => e), h.b.keep hc (fun e => e), h.ch.trans hc (fun _ _ e => e) (fun _ _ e => e.elim)⟩
theorem UL.more (h : UL w0 w gu n v l U) (ho : IOwn w' w0.heap.size v' l') (hc : Chg w w' (fun k => v.ownBlock = some k)) : UL w0 w' gu n v' l' U := by
 obtain ⟨A, hA, hA2⟩ := h.b
 exact ⟨ho, ⟨A, hc.keep hA (fun e => by
  obtain ⟨_, C, hC⟩ := h.o.blk e;rw [hA] at hC
  cases hC), hA2⟩, h.ch.trans hc (fun _ _ e => e) (fun j hj e => by have := (h.o.blk e).1; omega)⟩
theorem UL.put (h : UL w0 w gu n v l U) {k : Nat} (hk : k < n) : UL w0 (w.setCell ⟨gu, k, none⟩ (.bool true)) gu n v l (putC U (k : Int)) := by
 have hc : Chg w (w.setCell ⟨gu, k, none⟩ (.bool true)) (· = gu) := Chg.setCell;obtain ⟨A, hA, _⟩ := h.b
 exact ⟨h.o.keep hc (fun j e e2 => by
  obtain ⟨_, C, hC⟩ := h.o.blk e;subst e2;rw [hA] at hC
  cases hC), h.b.put hk, h.ch.trans hc (fun _ _ e => e) (fun _ _ e => e)⟩
end
def MarkJ (U U' : Int → Bool) (l : List Int) (j : Nat) : Prop := ∀ n : Int, n ≠ 0 → (U' n = true ↔ U n = true ∨ n ∈ l.take j)
theorem MarkJ.put {U U' : Int → Bool} {l : List Int} {j : Nat} {x : Int} (h : MarkJ U U' l j) (hx : l[j]? = some x) : MarkJ U (putC U' x) l (j + 1) := fun n hn => by
 have e : l.take (j + 1) = l.take j ++ [x] := by rw [List.take_add_one, hx]; rfl
 rw [e, List.mem_append, List.mem_singleton, ← or_assoc, ← h n hn]
 simp only [putC, Bool.or_eq_true, beq_iff_eq]
 exact or_comm
theorem Marked.more {T : Img} {k : Nat} {U U' : Int → Bool} (h : Marked T k U) (hk : kd T ((k : Int) + 1) ≠ 0) (hj : MarkJ U U' (tos (folL T ((k : Int) + 1) (zI T ((k : Int) + 1)))) (tos (folL T ((k : Int) + 1) (zI T ((k : Int) + 1)))).length) : Marked T (k + 1) U' := fun n hn => by
 rw [hj n hn, List.take_length, h n hn, mem_fol (zI_len _ _) hn]
 constructor
 ·rintro (⟨j, h1, h2, h3⟩ | q)
  ·exact ⟨j, by omega, h2, h3⟩
  ·exact ⟨k, by omega, hk, q⟩
 ·rintro ⟨j, h1, h2, h3⟩
  by_cases e : j = k
  ·subst e; exact .inr h3
  ·exact .inl ⟨j, by omega, h2, h3⟩
theorem Marked.skip {T : Img} {k : Nat} {U : Int → Bool} (h : Marked T k U) (hk : kd T ((k : Int) + 1) = 0) : Marked T (k + 1) U := fun n hn => by
 rw [h n hn]
 constructor
 ·rintro ⟨j, h1, h2, h3⟩
  exact ⟨j, by omega, h2, h3⟩
 ·rintro ⟨j, h1, h2, h3⟩
  by_cases e : j = k
  ·subst e; exact absurd hk h2
  ·exact ⟨j, by omega, h2, h3⟩
theorem pt_cell {w : World} {B : Nat} {v : Value} {l : List Pt} (h : PtOwn w B v l) {g c : Nat} (hv : v = .slice (some ⟨g, 0, none⟩) l.length c) {j : Nat} {y : Pt} (hy : l[j]? = some y) : w.cell? ⟨g, j * 3, none⟩ = some (.int .i64 y.1) ∧ w.cell? ⟨g, j * 3 + 1, none⟩ = some (.int .i64 y.2.1) ∧ w.cell? ⟨g, j * 3 + 2, none⟩ = some (.int .i64 y.2.2) := by
 have key : ∀ (l : List Pt) (j : Nat), l[j]? = some y → (cellsPt l)[j * 3]? = some (.int .i64 y.1) ∧ (cellsPt l)[j * 3 + 1]? = some (.int .i64 y.2.1) ∧ (cellsPt l)[j * 3 + 2]? = some (.int .i64 y.2.2) := by
  intro l
  induction l with
  | nil => intro j h; simp at h
  | cons a l ih =>
   intro j h
   cases j with
   | zero =>
    simp at h
    subst h
    exact ⟨rfl, rfl, rfl⟩
   | succ j =>
    have := ih j (by simpa using h);have e : cellsPt (a :: l) = [.int .i64 a.1, .int .i64 a.2.1, .int .i64 a.2.2] ++ cellsPt l := rfl;rw [e, show (j + 1) * 3 = j * 3 + 3 by omega]
    exact this
 obtain ⟨k0, k1, k2⟩ := key l j hy;subst hv;unfold PtOwn at h
 have hh := fun i u (hu : (cellsPt l)[i]? = some u) => World.ownsRow.cells h rfl i u hu
 have a0 := hh _ _ k0;have a1 := hh _ _ k1;have a2 := hh _ _ k2;rw [addr_add] at a0 a1 a2
 simp only [Nat.zero_add] at a0 a1 a2
 exact ⟨a0, a1, a2⟩
theorem pt_slice {w : World} {B : Nat} {v : Value} {l : List Pt} (h : PtOwn w B v l) (h0 : l ≠ []) : ∃ g c, v = .slice (some ⟨g, 0, none⟩) l.length c ∧ B ≤ g ∧ v.ownBlock = some g := by
 rcases h.2 with ⟨_, e⟩ | ⟨g, cap, cur, rfl, hb, _⟩
 ·exact absurd (List.eq_nil_of_length_eq_zero e) h0
 ·exact ⟨g, cap, rfl, hb, rfl⟩
theorem fol_len (im : Img) (i : Int) (z : List Int) : 14 ≤ (folL im i z).length ∧ (folL im i z).length ≤ 2000 := by
 have h1 : (dirP12 i z 12).length = 12 := by unfold dirP12; simp
 have h2 : (sinP im (z.getD 16 0)).length ≤ 32 := by unfold sinP rowP; split <;> simp
 have h3 : (if z.getD 17 0 = 0 then [] else dblP im (z.getD 17 0) (ptrsTo (secI im (z.getD 17 0)) 32) 32).length ≤ 1056 := by
  split
  ·simp
  ·exact dblP_len im _ _ 32
 unfold folL;rw [List.length_append, List.length_append, List.length_append, h1]
 simp only [List.length_cons, List.length_nil]
 omega
end Go.Proofs.YtpmignilhoihnabGreat
