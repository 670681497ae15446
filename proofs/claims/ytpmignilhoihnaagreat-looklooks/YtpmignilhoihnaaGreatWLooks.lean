/-
 LookLooks' walk.
-/
import Derived.BigQuiet
import Derived.Test.YtpmignilhoihnaaGreatOM3
import Derived.Laws.MakeOwn
namespace Go.Proofs.YtpmignilhoihnaaGreat

end Go.Proofs.YtpmignilhoihnaaGreat

namespace Go.Proofs.YtpmignilhoihnaaGreat
open Go.RowKit Go.Shelf
-- may lack

def LatO (w : World) (a : Option Addr) (l : List Int) : Prop := l = [] ∨ ∃ g o, a = some ⟨g, o, none⟩ ∧ g < w.heap.size ∧ ∀ k, k < l.length → w.cell? ⟨g, o + k, none⟩ = some (.int .i64 (l.getD k 0))
theorem LatO.of {w : World} {a : Option Addr} {l : List Int} (h : LAt w a l) : LatO w a l := by
 rcases h with h | ⟨g, h1, ⟨A, h2⟩, h3⟩
 ·exact .inl h
 ·exact .inr ⟨g, 0, h1, slt h2, fun k hk => by rw [Nat.zero_add]; exact h3 k hk⟩
theorem LatO.call {w w' : World} {a : Option Addr} {l : List Int} (h : LatO w a l) (hc : Chg w w' No) : LatO w' a l := by
 rcases h with h | ⟨g, o, h1, h2, h3⟩
 ·exact .inl h
 ·exact .inr ⟨g, o, h1, Nat.lt_of_lt_of_le h2 hc.size, fun k hk => cell_keep (h3 k hk) hc h2 (fun e => e)⟩

set_option maxHeartbeats 1000000 in
set_option maxRecDepth 100000 in
theorem ints_like (l : List Int) (a b : Option Addr) (ca cb : Nat) (w : World) (hl : l.length ≤ 20000) (hA : LatO w a l) (hB : LatO w b l) : Calls Tryz.prog 17 #[.slice a l.length ca, .slice b l.length cb] w fun e w' => e = .returned (.bool true) ∧ Chg w w' No := by
 have HA := hid hA;have HB := hid hB;clear hA hB
 generalize hm : l.length = m at *
 have HM := hid hm;clear hm
 go_enter Tryz.func17, Tryz.ntmps17
 go_wp2_with fail
 go_loopw [5] (fun i wr => ∃ (k : Nat) (wq : World), wq = wr ∧ i = .int .i64 k ∧ k ≤ m ∧ Hid (Chg w wq No)) (fun i _ => m - (intOf i).toNat)
 case atStart => exact ⟨0, w, rfl, rfl, by omega, hid (Chg.refl _ _)⟩
 case round =>
  obtain ⟨k, wq, rfl, rfl, hk, HC⟩ := hrel
  by_cases hlt : k < m
  ·have hki : (k : Int) < (m : Int) := by omega
   obtain ⟨ga, oa, rfl, hga, hca⟩ : ∃ g o, a = some ⟨g, o, none⟩ ∧ g < wq.heap.size ∧ ∀ k, k < l.length → wq.cell? ⟨g, o + k, none⟩ = some (.int .i64 (l.getD k 0)) := by
    rcases HA.out.call HC.out with h | h
    ·have := HM.out; rw [h] at this; simp at this; omega
    ·exact h
   obtain ⟨gb, ob, rfl, hgb, hcb⟩ : ∃ g o, b = some ⟨g, o, none⟩ ∧ g < wq.heap.size ∧ ∀ k, k < l.length → wq.cell? ⟨g, o + k, none⟩ = some (.int .i64 (l.getD k 0)) := by
    rcases HB.out.call HC.out with h | h
    ·have := HM.out; rw [h] at this; simp at this; omega
    ·exact h
   have c1 := hca k (by rw [HM.out]; exact hlt);have c2 := hcb k (by rw [HM.out]; exact hlt)
   generalize l.getD k 0 = y at *
   clear hca hcb hga hgb hlt
   go_wp2_with fail
   go_quiet (fail)
   go_wp2_with fail
   exact ⟨⟨k + 1, _, rfl, by go_num, by omega, hid (HC.out.tr (chg_drewN wq _))⟩, by simp [intOf]; omega⟩
  ·clear hk
   go_wp2_with fail
   go_ret
   exact ⟨rfl, HC.out⟩
theorem IOwn.cap {w : World} {B : Nat} {a : Option Addr} {n c : Nat} {l : List Int} (h : IOwn w B (.slice a n c) l) : l.length ≤ c := by
 rcases h.2 with ⟨e, hz⟩ | ⟨g, cap, cur, e, _, _, h1, _⟩
 ·injection e with _ e2 e3
  omega
 ·injection e with _ _ e3
  omega
structure LkC (w0 w : World) (im : Img) (M : Nat) (gw s1 : Nat) (a1 a2 a3 : Option Addr) : Prop where
 sup : (supOf im).2.2 = 0
 hM : M = (supOf im).2.1.toNat
 ml : M + 2 ≤ im.length
 root : rootB M im = true
 sec : AllSec im
 n1 : 8 ≤ im.length
 n2 : im.length ≤ 4096
 wt : WtAt w gw (lookL M im).wt
 new : w0.heap.size ≤ gw
 tl : (lookL M im).wt.length = im.length
 c1 : (writeI M im (lookL M im)).length ≤ s1
 l1 : LAt w a1 (writeI M im (lookL M im))
 l2 : LAt w a2 (inodesI M (lookL M im))
 l3 : LAt w a3 (blocksI im (lookL M im))
end Go.Proofs.YtpmignilhoihnaaGreat

namespace Go.Proofs.YtpmignilhoihnaaGreat
open Go.RowKit Go.Shelf

set_option maxHeartbeats 4000000 in
set_option maxRecDepth 100000 in
theorem rlook_long (ia : Option Addr) (ic n : Nat) (w : World) (hn : ¬ (8 ≤ n ∧ n ≤ 4096)) :
  Calls Tryz.prog 11 #[.slice ia n ic] w fun e w' => e = .returned (.tuple #[.agg nil4, .int .i64 120]) ∧ Chg w w' No := by
 have hzr := zero_rep;have hbr := build_rep;have hA := Chg.alloc w (.cells nil4 26) No;have HA := hid hA;have HN0 := hid (heap_alloc_new w (.cells nil4 26));clear hA
 by_cases h8 : n < 8
 ·have i1 : (n : Int) < 8 := by omega
  have i2 : decide ((n : Int) < 8) = true := decide_eq_true i1;have i3 : decide (n < 8) = true := decide_eq_true h8;clear hn h8
  go_enter Tryz.func11, Tryz.ntmps11
  go_wp2_with (first
   | (refine store_R rfl 26 _ _ rfl w.heap.size nil4 rfl rfl 26 _ HN0.out szRep rfl nil4_one ?_; intro w6 hw6)
   | fail)
  exact bodyPost_ret (v := .tuple #[.agg nil4, .int .i64 120]) (results_R Tryz.results11 _ _ w.heap.size _ 26 _ _ Tryz.underlying26 rfl szRep rfl rfl hw6.here) rfl ⟨rfl, HA.out.trans (kt_new hw6) (fun _ _ e => e) (fun j hj e => by omega)⟩
 ·have i1 : ¬ (n : Int) < 8 := by omega
  have i2 : decide ((n : Int) < 8) = false := decide_eq_false i1;have i3 : decide (n < 8) = false := decide_eq_false h8
  have i4 : (n : Int) > 4096 := by omega
  have i5 : (4096 : Int) < (n : Int) := by omega
  have i6 : decide ((4096 : Int) < (n : Int)) = true := decide_eq_true i5;have i7 : decide (4096 < n) = true := decide_eq_true (by omega);clear hn h8
  go_enter Tryz.func11, Tryz.ntmps11
  go_wp2_with (first
   | (refine store_R rfl 26 _ _ rfl w.heap.size nil4 rfl rfl 26 _ HN0.out szRep rfl nil4_one ?_; intro w6 hw6)
   | fail)
  exact bodyPost_ret (v := .tuple #[.agg nil4, .int .i64 120]) (results_R Tryz.results11 _ _ w.heap.size _ 26 _ _ Tryz.underlying26 rfl szRep rfl rfl hw6.here) rfl ⟨rfl, HA.out.trans (kt_new hw6) (fun _ _ e => e) (fun j hj e => by omega)⟩

set_option maxHeartbeats 4000000 in
set_option maxRecDepth 100000 in
theorem rlook_bad (ia : Option Addr) (ic : Nat) (im : Img) (w : World) (h : ImgAt w ia im) (he : (supOf im).2.2 ≠ 0) :
  Calls Tryz.prog 11 #[.slice ia im.length ic] w fun e w' => e = .returned (.tuple #[.agg nil4, .int .i64 120]) ∧ Chg w w' No := by
 by_cases hl : 8 ≤ im.length ∧ im.length ≤ 4096
 ·have hzr := zero_rep
  have hbr := build_rep
  have hzs : ∀ w', (zeroValue 42).run Tryz.prog w' = .ok (.agg #[.int .i64 0, .int .i64 0]) w' := fun w' => by kernel_rfl
  obtain ⟨b, o, hia⟩ : ∃ b o, ia = some ⟨b, o, none⟩ := by
   rcases h.2 with e | ⟨b, o, e, _⟩
   ·rw [e] at hl; simp at hl
   ·exact ⟨b, o, e⟩
  subst hia;have hA := Chg.alloc w (.cells nil4 26) No;have HA := hid hA;have HN0 := hid (heap_alloc_new w (.cells nil4 26));have hI0 := h.keep hA (fun _ _ e => e)
  have hrk : (w.alloc (.cells nil4 26)).rangeAt b (o + 0 * 128) ((secI im 0).map (Value.int .u8)) := by
   rcases hI0.2 with e | ⟨b', o', e1, _, e3⟩
   ·rw [e] at hl; simp at hl
   ·cases e1
    exact e3 0 _ (getD_at (by omega))
  have hsec := h.secI 0;have HRK := hid hrk;have HSL := hid hsec.1;have hRI := rsup_c (secI im 0) hsec (w.alloc (.cells nil4 26))
  have hbad : ¬ ((rdSup (getV (secI im 0) 4 4) (getV (secI im 0) 8 4) (secI im 0)).2.2 = 0 ∧ (rdSup (getV (secI im 0) 4 4) (getV (secI im 0) 8 4) (secI im 0)).1 = im.length) := fun e => he (by
   unfold supOf;rw [if_pos hl]
   simp only
   rw [if_pos e]
   exact e.1)
  obtain ⟨n, hn⟩ : ∃ y, y = im.length := ⟨_, rfl⟩;rw [← hn] at hbad hl ⊢;obtain ⟨r, hre⟩ : ∃ y, y = rdSup (getV (secI im 0) 4 4) (getV (secI im 0) 8 4) (secI im 0) := ⟨_, rfl⟩;rw [← hre] at hRI hbad
  have i1 : ¬ ((n : Int) < 8) := by omega
  have i2 : ¬ ((n : Int) > 4096) := by omega
  have i3 : (0 : Int) < (n : Int) := by omega
  obtain ⟨sk, hsk⟩ : ∃ y, y = secI im 0 := ⟨_, rfl⟩;rw [← hsk] at HRK HSL hRI;obtain ⟨ra, rb, re⟩ := r
  simp only at hbad hRI
  have HBd := hid hbad;clear hrk hsec hn h hsk hA hI0 he hl hre hbad
  go_enter Tryz.func11, Tryz.ntmps11
  go_upto_region 4 with (first
   | (refine load_mid 33 _ rfl b (o + 0 * 128) rfl _ _ HRK.out Tryz.underlying33 rfl (by rw [sz26, List.length_map, HSL.out]) (by rfl) ?_)
   | (go_at_call 19; go_must (refine hRI.mono ?_; rintro e w1 ⟨rfl, hc1⟩))
   | (refine store_R rfl 42 _ _ rfl w1.heap.size (SUA ra rb) rfl rfl 42 _ (heap_alloc_new _ _) szSU rfl (SUA_one _ _) ?_; intro w2 hw2)
   | fail)
  have hg6 := hw2.here;have h12 : Chg (w.alloc (.cells nil4 26)) w2 No := (hc1.trans (Chg.alloc w1 (.cells #[.int .i64 0, .int .i64 0] 42) No) (c := No) (fun _ _ e => e) (fun _ _ e => e)).trans (kt_new hw2) (fun _ _ e => e) (fun j hj e => by have := hc1.size; omega);have HC2 : Hid (Chg w w2 No) := hid (HA.out.tr2 h12);have HN2 : Hid (w2.heap[w.heap.size]? = some (.cells nil4 26 (0, 0))) := hid (h12.keep HN0.out (fun e => e));obtain ⟨gS, hgS⟩ : ∃ x, x = w1.heap.size := ⟨_, rfl⟩;rw [← hgS] at hg6 ⊢;have hcr : w2.cell? ⟨gS, 0, none⟩ = some (.int .i64 ra) := (cell_of_row _ _ _ _ _ _ hg6).trans rfl;clear hg6 hw2 hc1 h12 hRI HRK HSL hgS HN0 HA
  by_cases h0 : re = 0
  ·have hne : ¬ ra = (n : Int) := fun e => HBd.out ⟨h0, e⟩
   have k1 : (ra == (n : Int)) = false := beq_eq_false_iff_ne.2 hne;have k2 : decide (ra = (n : Int)) = false := decide_eq_false hne
   have k3 : (ra != (n : Int)) = true := by simpa using hne
   subst h0;clear hne HBd
   go_wp2_with (first
    | (refine store_R rfl 26 _ _ rfl w.heap.size nil4 rfl rfl 26 _ HN2.out szRep rfl nil4_one ?_; intro w6 hw6)
    | fail)
   exact bodyPost_ret (v := .tuple #[.agg nil4, .int .i64 120]) (results_R Tryz.results11 _ _ w.heap.size _ 26 _ _ Tryz.underlying26 rfl szRep rfl rfl hw6.here) rfl ⟨rfl, HC2.out.trans (kt_new hw6) (fun _ _ e => e) (fun j hj e => by omega)⟩
  ·have k1 : (re == 0) = false := beq_eq_false_iff_ne.2 h0
   have k2 : decide (re = 0) = false := decide_eq_false h0
   have k3 : (re != 0) = true := by simpa using h0
   clear h0 HBd
   go_wp2_with (first
    | (refine store_R rfl 26 _ _ rfl w.heap.size nil4 rfl rfl 26 _ HN2.out szRep rfl nil4_one ?_; intro w6 hw6)
    | fail)
   exact bodyPost_ret (v := .tuple #[.agg nil4, .int .i64 120]) (results_R Tryz.results11 _ _ w.heap.size _ 26 _ _ Tryz.underlying26 rfl szRep rfl rfl hw6.here) rfl ⟨rfl, HC2.out.trans (kt_new hw6) (fun _ _ e => e) (fun j hj e => by omega)⟩
 ·exact rlook_long ia ic im.length w hl
def LkB (im : Img) (w : World) (e : Ending) (w' : World) : Prop :=
 Chg w w' No ∧ ((∃ E, (E = 120 ∨ E = 121) ∧ Hid (E = lookE im) ∧ e = .returned (.tuple #[.agg nil4, .int .i64 E])) ∨
  (Hid (lookE im = 0) ∧ ∃ M gw wc s1 s2 s3 a1 a2 a3, e = .returned (.tuple #[.agg #[.slice (some ⟨gw, 0, none⟩) im.length wc, .slice a1 (writeI M im (lookL M im)).length s1, .slice a2 (inodesI M (lookL M im)).length s2, .slice a3 (blocksI im (lookL M im)).length s3], .int .i64 0]) ∧ LkC w w' im M gw s1 a1 a2 a3))
theorem lkB_of {f : Nat} {ia : Option Addr} {ic : Nat} {im : Img} {w : World} (h : ImgAt w ia im)
  (hg : (supOf im).2.2 = 0 → Calls Tryz.prog f #[.slice ia im.length ic] w fun e w' => LookPost (supOf im).2.1.toNat im w e w')
  (hb : (supOf im).2.2 ≠ 0 → Calls Tryz.prog f #[.slice ia im.length ic] w fun e w' => e = .returned (.tuple #[.agg nil4, .int .i64 120]) ∧ Chg w w' No) :
  Calls Tryz.prog f #[.slice ia im.length ic] w fun e w' => LkB im w e w' := by
 by_cases he : (supOf im).2.2 = 0
 ·refine (hg he).mono ?_
  rintro e w' ⟨r, rfl, hc, h1, h2⟩
  refine ⟨hc, ?_⟩;obtain ⟨s1, s2, s3, s4, s5⟩ := supOf_ok he
  cases hb : rootB (supOf im).2.1.toNat im with
  | false => exact .inl ⟨121, .inr rfl, hid (by unfold lookE; rw [if_neg (by rw [he]; decide), hb]; rfl), by rw [h1 hb]; rfl⟩
  | true =>
   refine .inr ⟨hid (by unfold lookE; rw [if_neg (by rw [he]; decide), hb]; rfl), ?_⟩;obtain ⟨g, wc, v1, v2, v3, rfl, hnw, hwt, hR⟩ := h2 hb;have hkp := lookL_kp hb;obtain ⟨M, hM⟩ : ∃ y, y = (supOf im).2.1.toNat := ⟨_, rfl⟩;rw [← hM] at hR hwt hkp hb;obtain ⟨a1, c1, rfl, hl1⟩ := hR.o1.lat;obtain ⟨a2, c2, rfl, hl2⟩ := hR.o2.lat;obtain ⟨a3, c3, rfl, hl3⟩ := hR.o3.lat
   exact ⟨M, g, wc, c1, c2, c3, a1, a2, a3, by rw [← hM, hkp.1]; rfl, he, hM, by omega, hb, h.secI, s2, s3, hwt, hnw, hkp.1, hR.o1.cap, hl1, hl2, hl3⟩
 ·refine (hb he).mono ?_
  rintro e w' ⟨rfl, hc⟩
  exact ⟨hc, .inl ⟨120, .inl rfl, hid (by unfold lookE; rw [if_pos he]), rfl⟩⟩
theorem look_b (ia : Option Addr) (ic : Nat) (im : Img) (w : World) (h : ImgAt w ia im) : Calls Tryz.prog 10 #[.slice ia im.length ic] w fun e w' => LkB im w e w' :=
 lkB_of h (fun he => look_good ia ic im _ w h he rfl) (fun he => look_bad ia ic im w h he)
theorem rlook_b (ia : Option Addr) (ic : Nat) (im : Img) (w : World) (h : ImgAt w ia im) : Calls Tryz.prog 11 #[.slice ia im.length ic] w fun e w' => LkB im w e w' :=
 lkB_of h (fun he => rlook_good ia ic im _ w h he rfl) (fun he => rlook_bad ia ic im w h he)
end Go.Proofs.YtpmignilhoihnaaGreat

namespace Go.Proofs.YtpmignilhoihnaaGreat
open Go.RowKit Go.Shelf

def exR : List Int := [2, 7, 128, 0, 5, 0, 0, 0, 0, 0, 0, 0, 0, 0, 0, 0, 0, 0]
def exF : List Int := [1, 1, 3, 0, 6, 0, 0, 0, 0, 0, 0, 0, 0, 0, 0, 0, 0, 0]
def exH : List Int := [104, 101, 108, 108, 111] ++ List.replicate 123 0
def exIm : Img := [supS 16 4, inoS exR, inoS exF, Zs, Zs, slotS 2 ⟨#[97]⟩, exH, Zs, Zs, Zs, Zs, Zs, Zs, Zs, Zs, Zs]
theorem ex_sup : supOf exIm = (16, 4, 0) := by kernel_rfl
theorem ex_root : rootB 4 exIm = true := by kernel_rfl
theorem ex_inodes : inodesI 4 (lookL 4 exIm) = [1, 2] := by kernel_rfl
theorem ex_blocks : blocksI exIm (lookL 4 exIm) = [5, 6] := by kernel_rfl
theorem ex_six : secI (lookL 4 exIm).wt 6 = [104, 101, 108] ++ List.replicate 125 0 := by kernel_rfl
theorem ex_one : (secI (lookL 4 exIm).wt 1).getD 1 0 = 1 := by kernel_rfl
theorem ex_len : (lookL 4 exIm).wt.length = 16 := by kernel_rfl
theorem ex_write : writeI 4 exIm (lookL 4 exIm) = [1, 6] := by kernel_rfl

end Go.Proofs.YtpmignilhoihnaaGreat

namespace Go.Proofs.YtpmignilhoihnaaGreat
open Go.RowKit Go.Shelf

def zl (n : Nat) : List Int := List.replicate n 0
theorem zl_len (n : Nat) : (zl n).length = n := by simp [zl]
theorem zl_get (n j : Nat) : (zl n).getD j 0 = 0 := by
 unfold zl
 by_cases h : j < n
 ·simp [List.getD_eq_getElem?_getD, h]
 ·simp [List.getD_eq_getElem?_getD, h]
theorem infoS : ∃ i, Tryz.prog.info? 33 = some i ∧ i.zero = some (.agg (SA Zs)) ∧ i.size = 128 ∧ i.bytes = 128 := by
 have h : (Tryz.prog.info? 33).map (fun i => (i.zero, i.size, i.bytes)) = some (some (.agg (SA Zs)), 128, 128) := by kernel_rfl
 cases hq : Tryz.prog.info? 33 with
 | none => rw [hq] at h; cases h
 | some i =>
  rw [hq] at h
  simp at h
  exact ⟨i, rfl, h.1, h.2.1, h.2.2⟩
theorem made_secs (n : Nat) : madeCells (SA Zs) n = SA (zl n) := by
 apply Array.ext
 ·simp [size_madeCells, SA_size, zl_len]
 ·intro i h1 h2
  have hs : (SA Zs).size = 128 := by rw [SA_size, Zs_len]
  have hi : i % 128 < 128 := Nat.mod_lt _ (by decide)
  have e : (SA Zs)[i % 128]! = Value.int .u8 0 := by
   rw [Array.getElem!_eq_getD, Array.getD_eq_getD_getElem?, SA_get Zs _ (by rw [Zs_len]; exact hi), show Zs.getD (i % 128) 0 = 0 from zl_get 128 _]
   rfl
  simp only [madeCells, Array.getElem_map, Array.getElem_range, hs, e]
  simp [SA, zl]
theorem make_secs (n : Int) (h0 : 0 ≤ n) (h1 : 128 * n ≤ 281474976710656) (w : World) :
  (Instr.makeSlice 22 (.int .i64 n) (.int .i64 n)).run Tryz.prog w = .ok (.slice (some ⟨w.heap.size, 0, none⟩) n.toNat n.toNat) (w.alloc (.cells (SA (zl (128 * n.toNat))) 33)) := by
 obtain ⟨i, hi, hz, hs, hb⟩ := infoS;rw [run_make w 22 33 i _ Tryz.underlying22 hi hz .i64 .i64 n n h0 (Int.le_refl _) (by rw [hb]; omega) (by omega), hs, Nat.mul_comm];rw [show Value.cells (.agg (SA Zs)) = SA Zs from rfl, made_secs]
theorem wt_made (w : World) (n : Nat) : WtAt (w.alloc (.cells (SA (zl (128 * n))) 33)) w.heap.size (List.replicate n Zs) := by
 refine ⟨fun s hs => by rw [List.eq_of_mem_replicate hs]; exact Zs_sec, _, heap_alloc_new _ _, fun j s hj i x hx => ?_⟩
 have hjn : j < n := by have := (List.getElem?_eq_some_iff.1 hj).1; simpa using this
 have hs : s = Zs := List.eq_of_mem_replicate (List.mem_of_getElem? hj);subst hs
 have hi : i < 128 := by have := (List.getElem?_eq_some_iff.1 hx).1; rw [Zs_len] at this; exact this
 have hx0 : x = 0 := by
  have h1 : Zs.getD i 0 = 0 := zl_get 128 i;rw [List.getD_eq_getElem?_getD, hx] at h1
  exact h1
 subst hx0
 have hb : j * 128 + i < (zl (128 * n)).length := by rw [zl_len]; omega
 rw [SA_get _ _ hb, zl_get]
section
variable {ops : Array Oper} {rest : List Oper} {o : Oper} {a : Act} {Q : Exit → Act → World → Prop} {w : World}
theorem wp_bld (hg : o.guard = none) (t : TypeId) (ps : Array (Nat × Operand)) (_hop : o.op = .build t ps) (v : Value) (hr : ∀ w', (execOp a.eval o).run Tryz.prog w' = .ok (.value v) w')
  (h : wpList Tryz.prog ops Q rest (a.put o.dst v) w) : wpList Tryz.prog ops Q (o :: rest) a w := by
 refine wpList_plain hg fun K hK => ?_
 unfold Oper.wp;rw [hr]
 exact hK _ _ h
end
def secB (s : List Int) : Bool := s.length == 128 && s.all fun x => decide (0 ≤ x ∧ x ≤ 255)
theorem secB_of {s : List Int} (h : secB s = true) : IsSec s := by
 unfold secB at h
 simp only [Bool.and_eq_true, beq_iff_eq, List.all_eq_true, decide_eq_true_eq] at h
 exact h
theorem ex_s0 : IsSec (supS 16 4) := secB_of (by kernel_rfl)
theorem ex_s5 : IsSec (slotS 2 ⟨#[97]⟩) := secB_of (by kernel_rfl)
theorem exH_sec : IsSec exH := secB_of (by kernel_rfl)
def exA : Img := (List.replicate 16 Zs).set 0 (supS 16 4)
def exB : Img := exA.set 1 (inoS exR)
def exC : Img := exB.set 2 (inoS exF)
def exD : Img := exC.set 5 (slotS 2 ⟨#[97]⟩)
theorem wrote_on {w w1 w2 w3 : World} {g : Nat} (h : Chg w w1 No) (hb : Below w1.heap.size w1 w2) (hc : Chg w2 w3 (· = g)) (hg : w.heap.size ≤ g) : Chg w w3 No :=
 (h.trans (Chg.of_below hb No) (c := No) (fun _ _ e => e) (fun _ _ e => e)).trans hc (fun _ _ e => e) (fun j hj e => by omega)

set_option maxRecDepth 100000 in
set_option maxHeartbeats 1000000 in
theorem example_any (w : World) : Calls Tryz.prog 20 #[] w fun e w' => ∃ g, e = .returned (.slice (some ⟨g, 0, none⟩) 16 16) ∧ w.heap.size ≤ g ∧ WtAt w' g exIm ∧ Chg w w' No := by
 have hmk := fun W => make_secs 16 (by decide) (by decide) W
 simp only [show (16 : Int).toNat = 16 from rfl] at hmk
 obtain ⟨W0, hW0⟩ : ∃ y, y = w.alloc (.cells (SA (zl (128 * 16))) 33) := ⟨_, rfl⟩;have HC : Hid (Chg w W0 No) := hid (by rw [hW0]; exact Chg.alloc _ _ _);have HW : Hid (WtAt W0 w.heap.size (List.replicate 16 Zs)) := hid (by rw [hW0]; exact wt_made w 16)
 have hS := fun W => rsuperSector_any 16 4 W
 have hR := fun W => rinodeSector_any exR rfl W
 have hF := fun W => rinodeSector_any exF rfl W
 have hL := fun W => rslotSector_any 2 ⟨#[97]⟩ W (by decide)
 go_enter Tryz.func20, Tryz.ntmps20
 go_upto_region 2 with fail
 rw [← hW0];clear hmk hW0
 go_upto_region 3 with (first
  | (refine wp_bld rfl 42 _ rfl (.agg #[.int .i64 16, .int .i64 4]) (fun _ => by kernel_rfl) ?_)
  | (go_at_call 38; go_must (refine (hS _).mono ?_; rintro e v2 ⟨rfl, hb⟩))
  | (refine store_wt rfl _ _ rfl w.heap.size 0 rfl (supS 16 4) rfl ex_s0 (List.replicate 16 Zs) (HW.out.keep (Chg.of_below hb No) (fun e => e)) (by decide) ?_; intro w2 hw hc hz)
  | fail)
 replace HC : Hid (Chg w w2 No) := hid (wrote_on HC.out hb hc (Nat.le_refl _));replace HW : Hid (WtAt w2 w.heap.size exA) := hid hw;clear hb hw hc hz
 go_upto_region 4 with (first
  | (refine wp_bld rfl 51 _ rfl (.agg (NA exR)) (fun _ => by kernel_rfl) ?_)
  | (refine wp_bld rfl 49 _ rfl (.agg (NA [5, 0, 0, 0, 0, 0, 0, 0, 0, 0, 0, 0])) (fun _ => by kernel_rfl) ?_)
  | (go_at_call 31; go_must (refine (hR _).mono ?_; rintro e v3 ⟨rfl, hb⟩))
  | (refine store_wt rfl _ _ rfl w.heap.size 1 rfl (inoS exR) rfl (inoS_sec _) exA (HW.out.keep (Chg.of_below hb No) (fun e => e)) (by decide) ?_; intro w3 hw hc hz)
  | fail)
 replace HC : Hid (Chg w w3 No) := hid (wrote_on HC.out hb hc (Nat.le_refl _));replace HW : Hid (WtAt w3 w.heap.size exB) := hid hw;clear hb hw hc hz
 go_upto_region 5 with (first
  | (refine wp_bld rfl 51 _ rfl (.agg (NA exF)) (fun _ => by kernel_rfl) ?_)
  | (refine wp_bld rfl 49 _ rfl (.agg (NA [6, 0, 0, 0, 0, 0, 0, 0, 0, 0, 0, 0])) (fun _ => by kernel_rfl) ?_)
  | (go_at_call 31; go_must (refine (hF _).mono ?_; rintro e v4 ⟨rfl, hb⟩))
  | (refine store_wt rfl _ _ rfl w.heap.size 2 rfl (inoS exF) rfl (inoS_sec _) exB (HW.out.keep (Chg.of_below hb No) (fun e => e)) (by decide) ?_; intro w4 hw hc hz)
  | fail)
 replace HC : Hid (Chg w w4 No) := hid (wrote_on HC.out hb hc (Nat.le_refl _));replace HW : Hid (WtAt w4 w.heap.size exC) := hid hw;clear hb hw hc hz
 go_upto_region 6 with (first
  | (refine wp_bld rfl 83 _ rfl (.agg #[.int .i64 2, .string ⟨#[97]⟩]) (fun _ => by kernel_rfl) ?_)
  | (go_at_call 39; go_must (refine (hL _).mono ?_; rintro e v5 ⟨rfl, hb⟩))
  | (refine store_wt rfl _ _ rfl w.heap.size 5 rfl (slotS 2 ⟨#[97]⟩) rfl ex_s5 exC (HW.out.keep (Chg.of_below hb No) (fun e => e)) (by decide) ?_; intro w5 hw hc hz)
  | fail)
 replace HC : Hid (Chg w w5 No) := hid (wrote_on HC.out hb hc (Nat.le_refl _));replace HW : Hid (WtAt w5 w.heap.size exD) := hid hw;clear hb hw hc hz
 go_wp2_with (first
  | (refine wp_bld rfl 33 _ rfl (.agg (SA exH)) (fun _ => by kernel_rfl) ?_)
  | (refine store_wt rfl _ _ rfl w.heap.size 6 rfl exH rfl exH_sec exD HW.out (by decide) ?_; intro w6 hw hc hz)
  | fail)
 go_ret
 exact ⟨_, rfl, Nat.le_refl _, hw, HC.out.trans hc (fun _ _ e => e) (fun j hj e => by omega)⟩

end Go.Proofs.YtpmignilhoihnaaGreat

namespace Go.Proofs.YtpmignilhoihnaaGreat
open Go.RowKit Go.Shelf

set_option maxHeartbeats 1000000 in
set_option maxRecDepth 100000 in
theorem ints_same (l : List Int) (a b : Option Addr) (ca cb : Nat) (w : World) (hl : l.length ≤ 5000) (hA : LAt w a l) (hB : LAt w b l) : Calls Tryz.prog 17 #[.slice a l.length ca, .slice b l.length cb] w fun e w' => e = .returned (.bool true) ∧ Chg w w' No := by
 have HA := hid hA;have HB := hid hB;clear hA hB
 generalize hm : l.length = m at *
 have HM := hid hm;clear hm
 go_enter Tryz.func17, Tryz.ntmps17
 go_wp2_with fail
 go_loopw [5] (fun i wr => ∃ (k : Nat) (wq : World), wq = wr ∧ i = .int .i64 k ∧ k ≤ m ∧ Hid (Chg w wq No)) (fun i _ => m - (intOf i).toNat)
 case atStart => exact ⟨0, w, rfl, rfl, by omega, hid (Chg.refl _ _)⟩
 case round =>
  obtain ⟨k, wq, rfl, rfl, hk, HC⟩ := hrel
  by_cases hlt : k < m
  ·have hki : (k : Int) < (m : Int) := by omega
   obtain ⟨ga, rfl, hga, hca⟩ : ∃ ga, a = some ⟨ga, 0, none⟩ ∧ (∃ A, wq.heap[ga]? = some (.cells A 3 (0, 0))) ∧ ∀ k, k < l.length → wq.cell? ⟨ga, k, none⟩ = some (.int .i64 (l.getD k 0)) := by
    rcases HA.out.call HC.out with h | h
    ·have := HM.out; rw [h] at this; simp at this; omega
    ·exact h
   obtain ⟨gb, rfl, hgb, hcb⟩ : ∃ gb, b = some ⟨gb, 0, none⟩ ∧ (∃ A, wq.heap[gb]? = some (.cells A 3 (0, 0))) ∧ ∀ k, k < l.length → wq.cell? ⟨gb, k, none⟩ = some (.int .i64 (l.getD k 0)) := by
    rcases HB.out.call HC.out with h | h
    ·have := HM.out; rw [h] at this; simp at this; omega
    ·exact h
   have c1 := hca k (by rw [HM.out]; exact hlt);have c2 := hcb k (by rw [HM.out]; exact hlt)
   generalize l.getD k 0 = y at *
   clear hca hcb hga hgb hlt
   go_wp2_with fail
   go_quiet (fail)
   go_wp2_with fail
   exact ⟨⟨k + 1, _, rfl, by go_num, by omega, hid (HC.out.tr (chg_drewN wq _))⟩, by simp [intOf]; omega⟩
  ·clear hk
   go_wp2_with fail
   go_ret
   exact ⟨rfl, HC.out⟩

theorem lat_two (W : World) (x y : Int) : LAt (W.alloc (.cells #[.int .i64 x, .int .i64 y] 3)) (some ⟨W.heap.size, 0, none⟩) [x, y] := by
 refine .inr ⟨W.heap.size, rfl, ⟨_, heap_alloc_new _ _⟩, fun k hk => ?_⟩;rw [cell_of_row _ _ _ _ _ _ (heap_alloc_new W _)]
 match k, hk with
 | 0, _ => rfl
 | 1, _ => rfl
theorem ints_two {w : World} {a : Option Addr} {c : Nat} {x y : Int} (h : LAt w a [x, y]) (W : World) (hc : Chg w W No) :
  Calls Tryz.prog 17 #[.slice a 2 c, .slice (some ⟨W.heap.size, 0, none⟩) 2 2] (W.alloc (.cells #[.int .i64 x, .int .i64 y] 3)) fun e w' => e = .returned (.bool true) ∧ Chg W w' No := by
 refine (ints_same [x, y] a (some ⟨W.heap.size, 0, none⟩) c 2 _ (by simp) ((h.call hc).call (Chg.alloc _ _ _)) (lat_two W x y)).mono ?_
 rintro e w' ⟨rfl, h1⟩
 exact ⟨rfl, (Chg.alloc _ _ _).tr h1⟩
section
variable {ops : Array Oper} {rest : List Oper} {o : Oper} {a : Act} {Q : Exit → Act → World → Prop} {w : World}
theorem wp_bldW (t : TypeId) (ps : Array (Nat × Operand)) (_hop : o.op = .build t ps) (hw : Region.wanted o (yielded ops a.tmps) = true) (v : Value) (hr : ∀ w', (execOp a.eval o).run Tryz.prog w' = .ok (.value v) w')
  (h : wpList Tryz.prog ops Q rest (a.put o.dst v) w) : wpList Tryz.prog ops Q (o :: rest) a w := by
 refine wpList_want hw fun K hK => ?_
 unfold Oper.wp;rw [hr]
 exact hK _ _ h
end
def hel : List Int := [104, 101, 108] ++ List.replicate 125 0
theorem hel_len : hel.length = 128 := by kernel_rfl

structure ExR (W w' : World) (gw wc s1 s2 s3 : Nat) (a1 a2 a3 : Option Addr) : Prop where
 six : w'.rangeAt gw (6 * 128) (hel.map (Value.int .u8))
 one : w'.cell? ⟨gw, 129, none⟩ = some (.int .u8 1)
 lt : gw < w'.heap.size
 l1 : LAt w' a1 [1, 6]
 l2 : LAt w' a2 [1, 2]
 l3 : LAt w' a3 [5, 6]
 ch : Chg W w' No
theorem one_at {w : World} {g : Nat} {T : Img} (h : WtAt w g T) (hl : T.length = 16) (e : (secI T 1).getD 1 0 = 1) : w.cell? ⟨g, 129, none⟩ = some (.int .u8 1) := by
 have h1 := h.range (k := 1) (by omega);have hs := (h.sec 1).1
 have h2 := h1 1 (.int .u8 1) (by
  rw [List.getElem?_map]
  show Option.map (Value.int .u8) ((secI T 1)[1]?) = _
  rw [List.getD_eq_getElem?_getD] at e
  cases hq : (secI T 1)[1]? with
  | none =>
   have := List.getElem?_eq_none_iff.1 hq
   omega
  | some x =>
   rw [hq] at e;have : x = 1 := e;rw [this]
   rfl)
 exact h2
theorem six_at {w : World} {g : Nat} {T : Img} (h : WtAt w g T) (hl : T.length = 16) (e : secI T 6 = hel) : w.rangeAt g (6 * 128) (hel.map (Value.int .u8)) := by
 have := h.range (k := 6) (by omega);have e6 : secI T ((6 : Nat) : Int) = hel := e;rw [e6] at this
 exact this
theorem look_ex (W : World) (g : Nat) (h : WtAt W g exIm) : Calls Tryz.prog 10 #[.slice (some ⟨g, 0, none⟩) 16 16] W fun e w' => ∃ gw wc a1 s1 a2 s2 a3 s3, e = .returned (.tuple #[.agg #[.slice (some ⟨gw, 0, none⟩) 16 wc, .slice a1 2 s1, .slice a2 2 s2, .slice a3 2 s3], .int .i64 0]) ∧ ExR W w' gw wc s1 s2 s3 a1 a2 a3 := by
 have hk := look_good (some ⟨g, 0, none⟩) 16 exIm 4 W (ImgAt.of_wt h) (by rw [ex_sup]) (by rw [ex_sup]; rfl);have hR := ex_root;have h1 := ex_len;have h2 : secI (lookL 4 exIm).wt 6 = hel := ex_six;have h3 := ex_one;have h4 := ex_write;have h5 := ex_inodes;have h6 := ex_blocks;refine hk.mono ?_;unfold LookPost;rw [hR, h4, h5, h6]
 generalize (lookL 4 exIm).wt = T at *
 rintro e w' ⟨r, rfl, hc, _, hr⟩
 obtain ⟨gw, wc, v1, v2, v3, rfl, hgw, hwt, hrep⟩ := hr rfl;obtain ⟨a1, s1, rfl, hl1⟩ := hrep.o1.lat;obtain ⟨a2, s2, rfl, hl2⟩ := hrep.o2.lat;obtain ⟨a3, s3, rfl, hl3⟩ := hrep.o3.lat
 exact ⟨gw, wc, a1, s1, a2, s2, a3, s3, by rw [h1]; rfl, six_at hwt h1 h2, one_at hwt h1 h3, hwt.lt, hl1, hl2, hl3, hc⟩

set_option maxHeartbeats 2000000 in
set_option maxRecDepth 100000 in
theorem known_any (w : World) : Calls Tryz.prog 9 #[] w fun e w' => e = .returned (.bool true) ∧ Chg w w' No := by
 have hzr := zero_rep;have hE := example_any w
 go_enter Tryz.func9, Tryz.ntmps9
 go_upto_region 2 with (first
  | (go_at_call 20; go_must (refine hE.mono ?_; rintro e w1 ⟨g, rfl, hg1, hw1, hc1⟩; have hLk := look_ex w1 g hw1))
  | (go_at_call 10; go_must (refine hLk.mono ?_; rintro e w2 ⟨gw, wc, a1, s1, a2, s2, a3, s3, rfl, hX⟩))
  | (refine store_R rfl 26 _ _ rfl w2.heap.size #[.slice (some ⟨gw, 0, none⟩) 16 wc, .slice a1 2 s1, .slice a2 2 s2, .slice a3 2 s3] rfl rfl 26 _ (heap_alloc_new _ _) szRep rfl (rep_one _ _ _ rfl rfl rfl) ?_; intro w3 hw3)
  | fail)
 have h23 : Chg w2 w3 No := (Chg.alloc w2 _ No).trans (kt_new hw3) (fun _ _ e => e) (fun j hj e => by omega);have HC3 : Hid (Chg w w3 No) := hid ((hc1.tr hX.ch).tr h23);have HX := hid hX;have H23 := hid h23;have H1 := hid (fun W hW => ints_two (c := s1) (hX.l1.call h23) W hW);have H2 := hid (fun W hW => ints_two (c := s2) (hX.l2.call h23) W hW);have H3 := hid (fun W hW => ints_two (c := s3) (hX.l3.call h23) W hW);have HG3 := hid hw3.here;obtain ⟨g3, hg3⟩ : ∃ y, y = w2.heap.size := ⟨_, rfl⟩;rw [← hg3] at HG3 ⊢
 have HK : Hid (∀ (W : World) (_hW : Chg w3 W No), W.cell? ⟨g3, 0, none⟩ = some (.slice (some ⟨gw, 0, none⟩) 16 wc) ∧ W.cell? ⟨g3, 1, none⟩ = some (.slice a1 2 s1) ∧ W.cell? ⟨g3, 2, none⟩ = some (.slice a2 2 s2) ∧ W.cell? ⟨g3, 3, none⟩ = some (.slice a3 2 s3)) := hid (fun W hW => by
  have h0 := hW.keep HG3.out (fun e => e)
  exact ⟨(cell_of_row _ _ _ _ _ _ h0).trans rfl, (cell_of_row _ _ _ _ _ _ h0).trans rfl, (cell_of_row _ _ _ _ _ _ h0).trans rfl, (cell_of_row _ _ _ _ _ _ h0).trans rfl⟩)
 obtain ⟨p0, p1, _, _⟩ := HK.out w3 (Chg.refl _ _);clear hw3 hg3 hX h23 hLk hE hc1 hw1 hg1
 go_upto_region 3 with (first
  | (go_at_call 17; go_must (first
    | (refine (H3.out w5 (hc4.tr hc5)).mono ?_; rintro e w6 ⟨rfl, hc6⟩; obtain ⟨p0, p1, p2, p3⟩ := HK.out w6 ((hc4.tr hc5).tr hc6))
    | (refine (H2.out w4 hc4).mono ?_; rintro e w5 ⟨rfl, hc5⟩; obtain ⟨p0, p1, p2, p3⟩ := HK.out w5 (hc4.tr hc5))
    | (refine (H1.out w3 (Chg.refl _ _)).mono ?_; rintro e w4 ⟨rfl, hc4⟩; obtain ⟨p0, p1, p2, p3⟩ := HK.out w4 hc4)))
  | fail)
 have h36 := (hc4.tr hc5).tr hc6;have h26 := H23.out.tr h36;have HR6 : Hid (w6.rangeAt gw (6 * 128) (hel.map (Value.int .u8))) := hid (fun i x hx => cell_keep (HX.out.six i x hx) h26 HX.out.lt (fun e => e));have c129 : w6.cell? ⟨gw, 129, none⟩ = some (.int .u8 1) := cell_keep HX.out.one h26 HX.out.lt (fun e => e)
 have hq : ∀ W, (Op.equalIn 10000 33 (.agg (SA hel)) (.agg (SA hel))).run Tryz.prog W = .ok true W := fun W => by rw [eq_sec _ _ hel_len hel_len, decide_eq_true rfl]
 have HQ := hid hq;have HC6 : Hid (Chg w w6 No) := hid (HC3.out.tr h36);have HSA : Hid ((hel.map (Value.int .u8)).toArray = SA hel) := hid (by simp [SA]);have HSz : Hid ((Tryz.prog.info? 33).map (·.size) = some (hel.map (Value.int .u8)).length) := hid (by rw [sz26, List.length_map, hel_len]);clear h36 h26 hc4 hc5 hc6 H1 H2 H3 HK hq
 go_wp2_with (first
  | (refine load_mid 33 _ rfl gw (6 * 128) rfl _ _ HR6.out Tryz.underlying33 rfl HSz.out (by rfl) ?_; rw [HSA.out])
  | (refine wp_bldW 33 _ rfl (by rfl) (.agg (SA hel)) (fun _ => by kernel_rfl) ?_)
  | (refine eql_R (by rfl) 33 _ _ rfl (SA hel) (SA hel) true rfl rfl HQ.out guard_sec ?_)
  | fail)
 go_ret
 exact ⟨rfl, HC6.out⟩

end Go.Proofs.YtpmignilhoihnaaGreat

namespace Go.Proofs.YtpmignilhoihnaaGreat
open Go.RowKit Go.Shelf

theorem rep_rangeL {w : World} {g : Nat} {A : Array Value} {t : TypeId} (h : w.heap[g]? = some (.cells A t (0, 0))) : w.rangeAt g 0 A.toList := by
 intro j v hv
 rw [Nat.zero_add, cell_of_row _ _ _ _ _ _ h, ← Array.getElem?_toList]
 exact hv
def RA (aT a1 a2 a3 : Option Addr) (n n1 n2 n3 cT c1 c2 c3 : Nat) : Array Value := #[.slice aT n cT, .slice a1 n1 c1, .slice a2 n2 c2, .slice a3 n3 c3]
theorem RA_one (aT a1 a2 a3 : Option Addr) (n n1 n2 n3 cT c1 c2 c3 : Nat) : (RA aT a1 a2 a3 n n1 n2 n3 cT c1 c2 c3).all (·.oneCell') = true := rep_one _ _ _ rfl rfl rfl

set_option maxHeartbeats 4000000 in
set_option maxRecDepth 100000 in
theorem same_like (T : Img) (l1 l2 l3 : List Int) (aT a1 a2 a3 bT b1 b2 b3 : Option Addr) (cT c1 c2 c3 dT d1 d2 d3 n n1 n2 n3 : Nat) (hn : n = T.length) (hn1 : n1 = l1.length) (hn2 : n2 = l2.length) (hn3 : n3 = l3.length)
  (w : World) (tl : n ≤ 5000) (t1 : n1 ≤ 20000) (t2 : n2 ≤ 20000) (t3 : n3 ≤ 20000)
  (hT : ImgAt w aT T) (hT' : ImgAt w bT T) (h1 : LatO w a1 l1) (h1' : LatO w b1 l1) (h2 : LatO w a2 l2) (h2' : LatO w b2 l2) (h3 : LatO w a3 l3) (h3' : LatO w b3 l3) :
  Calls Tryz.prog 12 #[.agg (RA aT a1 a2 a3 n n1 n2 n3 cT c1 c2 c3), .agg (RA bT b1 b2 b3 n n1 n2 n3 dT d1 d2 d3)] w fun e w' => e = .returned (.bool true) ∧ Chg w w' No := by
 obtain ⟨W1, hW1⟩ : ∃ x, x = (w.alloc (.cells (RA aT a1 a2 a3 n n1 n2 n3 cT c1 c2 c3) 26)).alloc (.cells (RA bT b1 b2 b3 n n1 n2 n3 dT d1 d2 d3) 26) := ⟨_, rfl⟩
 have h0 : Chg w W1 No := by rw [hW1]; exact (Chg.alloc _ _ No).tr (Chg.alloc _ _ No)
 have g1 : W1.heap[w.heap.size]? = some (.cells (RA aT a1 a2 a3 n n1 n2 n3 cT c1 c2 c3) 26 (0, 0)) := by rw [hW1]; exact (Chg.alloc _ _ No).keep (heap_alloc_new _ _) (fun e => e)
 have g2 : W1.heap[w.heap.size + 1]? = some (.cells (RA bT b1 b2 b3 n n1 n2 n3 dT d1 d2 d3) 26 (0, 0)) := by
  have := heap_alloc_new (w.alloc (.cells (RA aT a1 a2 a3 n n1 n2 n3 cT c1 c2 c3) 26)) (.cells (RA bT b1 b2 b3 n n1 n2 n3 dT d1 d2 d3) 26);rw [World.size_alloc] at this;rw [hW1]; exact this
 have HS : Hid (∀ W, Chg W1 W No → Calls Tryz.prog 13 #[.slice aT n cT, .slice bT n dT] W fun e w' => e = .returned (.bool true) ∧ Chg W w' No) := hid (fun W hW => by rw [hn]; exact secs_same T aT bT cT dT W (by omega) (hT.keep (h0.tr hW) (fun _ _ e => e)) (hT'.keep (h0.tr hW) (fun _ _ e => e)));have HL1 : Hid (∀ W, Chg W1 W No → Calls Tryz.prog 17 #[.slice a1 n1 c1, .slice b1 n1 d1] W fun e w' => e = .returned (.bool true) ∧ Chg W w' No) := hid (fun W hW => by rw [hn1]; exact ints_like l1 a1 b1 c1 d1 W (by omega) (h1.call (h0.tr hW)) (h1'.call (h0.tr hW)));have HL2 : Hid (∀ W, Chg W1 W No → Calls Tryz.prog 17 #[.slice a2 n2 c2, .slice b2 n2 d2] W fun e w' => e = .returned (.bool true) ∧ Chg W w' No) := hid (fun W hW => by rw [hn2]; exact ints_like l2 a2 b2 c2 d2 W (by omega) (h2.call (h0.tr hW)) (h2'.call (h0.tr hW)));have HL3 : Hid (∀ W, Chg W1 W No → Calls Tryz.prog 17 #[.slice a3 n3 c3, .slice b3 n3 d3] W fun e w' => e = .returned (.bool true) ∧ Chg W w' No) := hid (fun W hW => by rw [hn3]; exact ints_like l3 a3 b3 c3 d3 W (by omega) (h3.call (h0.tr hW)) (h3'.call (h0.tr hW)))
 have HQ : Hid (∀ W, Chg W1 W No → (W.cell? ⟨w.heap.size, 0, none⟩ = some (.slice aT n cT) ∧ W.cell? ⟨w.heap.size + 1, 0, none⟩ = some (.slice bT n dT)) ∧ (W.cell? ⟨w.heap.size, 1, none⟩ = some (.slice a1 n1 c1) ∧ W.cell? ⟨w.heap.size + 1, 1, none⟩ = some (.slice b1 n1 d1)) ∧ (W.cell? ⟨w.heap.size, 2, none⟩ = some (.slice a2 n2 c2) ∧ W.cell? ⟨w.heap.size + 1, 2, none⟩ = some (.slice b2 n2 d2)) ∧ (W.cell? ⟨w.heap.size, 3, none⟩ = some (.slice a3 n3 c3) ∧ W.cell? ⟨w.heap.size + 1, 3, none⟩ = some (.slice b3 n3 d3))) := hid (fun W hW => by
  have k1 := hW.keep g1 (fun e => e);have k2 := hW.keep g2 (fun e => e)
  exact ⟨⟨(cell_of_row _ _ _ _ _ _ k1).trans rfl, (cell_of_row _ _ _ _ _ _ k2).trans rfl⟩, ⟨(cell_of_row _ _ _ _ _ _ k1).trans rfl, (cell_of_row _ _ _ _ _ _ k2).trans rfl⟩, ⟨(cell_of_row _ _ _ _ _ _ k1).trans rfl, (cell_of_row _ _ _ _ _ _ k2).trans rfl⟩, (cell_of_row _ _ _ _ _ _ k1).trans rfl, (cell_of_row _ _ _ _ _ _ k2).trans rfl⟩)
 have H0 := hid h0;clear h0 g1 g2 hn hn1 hn2 hn3 hT hT' h1 h1' h2 h2' h3 h3' tl t1 t2 t3
 go_enter Tryz.func12, Tryz.ntmps12
 go_upto_region 1 with fail
 rw [← hW1];clear hW1;obtain ⟨p0, p1⟩ := (HQ.out W1 (Chg.refl _ _)).1
 go_wp2_with (first
  | (go_at_call 13; go_must (refine (HS.out W1 (Chg.refl _ _)).mono ?_; rintro e w2 ⟨rfl, hc2⟩; obtain ⟨p2, p3⟩ := (HQ.out w2 hc2).2.1))
  | (go_at_call 17; go_must (first | (refine (HL3.out w4 ((hc2.tr hc3).tr hc4)).mono ?_; rintro e w5 ⟨rfl, hc5⟩) | (refine (HL2.out w3 (hc2.tr hc3)).mono ?_; rintro e w4 ⟨rfl, hc4⟩; obtain ⟨p6, p7⟩ := (HQ.out w4 ((hc2.tr hc3).tr hc4)).2.2.2) | (refine (HL1.out w2 hc2).mono ?_; rintro e w3 ⟨rfl, hc3⟩; obtain ⟨p4, p5⟩ := (HQ.out w3 (hc2.tr hc3)).2.2.1)))
  | fail)
 go_ret
 exact ⟨rfl, (((H0.out.tr hc2).tr hc3).tr hc4).tr hc5⟩

set_option maxHeartbeats 4000000 in
set_option maxRecDepth 100000 in
theorem looks_walk (ia : Option Addr) (ic : Nat) (im : Img) (W : World) (h : ImgAt W ia im) (hn : im.length ≤ 9223372036854775807) :
  Calls Tryz.prog 3 #[.slice ia im.length ic] W fun e w' => e = .returned (.bool true) ∧ Below W.heap.size W w' := by
 have hzr := zero_rep;have hK := known_any W;have HI := hid h;have HLk := hid (fun W' hW => look_b ia ic im W' hW);have HLr := hid (fun W' hW => rlook_b ia ic im W' hW);obtain ⟨n, hnn⟩ : ∃ y, y = im.length := ⟨_, rfl⟩;have HNN := hid hnn;unfold LkB at HLk HLr;rw [← hnn] at HLk HLr hn ⊢;clear h hnn
 go_enter Tryz.func3, Tryz.ntmps3
 go_upto_region 4 with (first
  | (go_at_call 9; go_must (refine hK.mono ?_; rintro e w1 ⟨rfl, hc1⟩; have hLk := HLk.out w1 (HI.out.keep hc1 (fun _ _ e => e))))
  | fail)
 have HC1 := hid hc1;clear hc1 hK HLk
 go_upto_region 5 with (first
  | (go_at_call 10; go_must (refine hLk.mono ?_; rintro e w2 ⟨hc2, ⟨E, hE, hEL, rfl⟩ | ⟨hEL, M, gw, wc, s1, s2, s3, a1, a2, a3, rfl, hX⟩⟩))
  | (refine store_R rfl 26 _ _ rfl w2.heap.size nil4 rfl rfl 26 _ (heap_alloc_new _ _) szRep rfl nil4_one ?_; intro w3 hw3)
  | (refine store_R rfl 26 _ _ rfl w2.heap.size (RA (some ⟨gw, 0, none⟩) a1 a2 a3 n (writeI M im (lookL M im)).length (inodesI M (lookL M im)).length (blocksI im (lookL M im)).length wc s1 s2 s3) rfl rfl 26 _ (heap_alloc_new _ _) szRep rfl (RA_one _ _ _ _ _ _ _ _ _ _ _ _) ?_; intro w3 hw3)
  | fail)
 ·have h23 : Chg w2 w3 No := (Chg.alloc w2 _ No).trans (kt_new hw3) (fun _ _ e => e) (fun j hj e => by omega)
  have HC3 : Hid (Chg W w3 No) := hid ((HC1.out.tr hc2).tr h23);have HG3 := hid hw3.here
  have hLr : Calls Tryz.prog 11 #[.slice ia n ic] w3 fun e w' => Chg w3 w' No ∧ e = .returned (.tuple #[.agg nil4, .int .i64 E]) := by
   refine (HLr.out w3 (HI.out.keep HC3.out (fun _ _ e => e))).mono ?_
   rintro e w' ⟨hc, ⟨E', hE', hEL', rfl⟩ | ⟨hEL', _⟩⟩
   ·exact ⟨hc, by rw [hEL'.out, ← hEL.out]⟩
   ·have q := hEL.out
    rw [hEL'.out] at q;rw [q] at hE
    rcases hE with e | e <;> cases e
  obtain ⟨g4, hg4⟩ : ∃ y, y = w2.heap.size := ⟨_, rfl⟩;rw [← hg4] at HG3 ⊢;have HSm := hid (fun W' => same_like [] [] [] [] none none none none none none none none 0 0 0 0 0 0 0 0 0 0 0 0 rfl rfl rfl rfl W' (by omega) (by omega) (by omega) (by omega) ⟨fun s hs => (by cases hs), .inl rfl⟩ ⟨fun s hs => (by cases hs), .inl rfl⟩ (.inl rfl) (.inl rfl) (.inl rfl) (.inl rfl) (.inl rfl) (.inl rfl));clear h23 hw3 hc2 hLk hg4 HLr hEL hE
  go_upto_region 6 with (first
   | (go_at_call 11; go_must (refine hLr.mono ?_; rintro e w4 ⟨hc4, rfl⟩))
   | (refine store_R rfl 26 _ _ rfl w4.heap.size nil4 rfl rfl 26 _ (heap_alloc_new _ _) szRep rfl nil4_one ?_; intro w5 hw5)
   | fail)
  have h45 : Chg w4 w5 No := (Chg.alloc w4 _ No).trans (kt_new hw5) (fun _ _ e => e) (fun j hj e => by omega);have HC5 : Hid (Chg W w5 No) := hid ((HC3.out.tr hc4).tr h45);have HG5 := hid ((hc4.tr h45).keep HG3.out (fun e => e));have HG6 := hid hw5.here;obtain ⟨g6, hg6⟩ : ∃ y, y = w4.heap.size := ⟨_, rfl⟩;rw [← hg6] at HG6 ⊢
  have hSm : Calls Tryz.prog 12 #[.agg nil4, .agg nil4] w5 fun e w' => e = .returned (.bool true) ∧ Chg w5 w' No := HSm.out w5
  clear h45 hw5 hc4 hLr hg6 HSm HG3 HC3
  go_wp2_with (first
   | (refine load_mid 26 _ rfl g6 0 rfl nil4.toList _ (rep_rangeL HG6.out) Tryz.underlying26 rfl (by rw [szRep]; rfl) (by first | rfl | go_simp) ?_)
   | (refine load_mid 26 _ rfl g4 0 rfl nil4.toList _ (rep_rangeL HG5.out) Tryz.underlying26 rfl (by rw [szRep]; rfl) (by first | rfl | go_simp) ?_)
   | (go_at_call 12; go_must (refine hSm.mono ?_; rintro e w6 ⟨rfl, hc6⟩))
   | fail)
  go_ret
  exact ⟨rfl, (HC5.out.tr hc6).below⟩
 ·have h23 : Chg w2 w3 No := (Chg.alloc w2 _ No).trans (kt_new hw3) (fun _ _ e => e) (fun j hj e => by omega)
  have HC3 : Hid (Chg W w3 No) := hid ((HC1.out.tr hc2).tr h23);have HG3 := hid hw3.here;have HX := hid hX
  have hLr : Calls Tryz.prog 11 #[.slice ia n ic] w3 fun e w' => Chg w3 w' No ∧ ∃ gv vc t1 t2 t3 b1 b2 b3, e = .returned (.tuple #[.agg #[.slice (some ⟨gv, 0, none⟩) n vc, .slice b1 (writeI M im (lookL M im)).length t1, .slice b2 (inodesI M (lookL M im)).length t2, .slice b3 (blocksI im (lookL M im)).length t3], .int .i64 0]) ∧ LkC w3 w' im M gv t1 b1 b2 b3 := by
   refine (HLr.out w3 (HI.out.keep HC3.out (fun _ _ e => e))).mono ?_
   rintro e w' ⟨hc, ⟨E', hE', hEL', rfl⟩ | ⟨hEL', M', gv, vc, t1, t2, t3, b1, b2, b3, rfl, hY⟩⟩
   ·have q := hEL'.out
    rw [hEL.out] at q;rw [q] at hE'
    rcases hE' with e | e <;> cases e
   ·obtain rfl : M' = M := hY.hM.trans hX.hM.symm
    exact ⟨hc, gv, vc, t1, t2, t3, b1, b2, b3, rfl, hY⟩
  have HWt := hid (hX.wt.keep h23 (fun e => e));have HL1 := hid ((LatO.of hX.l1).call h23);have HL2 := hid ((LatO.of hX.l2).call h23);have HL3 := hid ((LatO.of hX.l3).call h23);have HTl : Hid (n = (lookL M im).wt.length) := hid (by rw [HNN.out]; exact hX.tl.symm)
  have HBd : Hid (n ≤ 4096 ∧ (writeI M im (lookL M im)).length ≤ 20000 ∧ (inodesI M (lookL M im)).length ≤ 20000 ∧ (blocksI im (lookL M im)).length ≤ 20000) := hid (by
   have h2 := hX.ml; have h3 := hX.n2;have k1 := catK_le (xs := fun j => keysL im.length fun x => decide (wrKind M im (lookL M im).wt (lookL M im).wp x = j)) (b := im.length) (fun j => keysL_len _ _) 3
   have k2 := keysL_len (M + 1) fun x => ((lookL M im).tk x).isSome
   have k3 := keysL_len im.length (lookL M im).cl;have hnl := HNN.out;unfold writeI inodesI blocksI
   omega)
  obtain ⟨g4, hg4⟩ : ∃ y, y = w2.heap.size := ⟨_, rfl⟩;rw [← hg4] at HG3 ⊢;obtain ⟨T, hT⟩ : ∃ x, x = (lookL M im).wt := ⟨_, rfl⟩;rw [← hT] at HWt HTl;have HT := hid hT;obtain ⟨wN, hwN⟩ : ∃ x, x = writeI M im (lookL M im) := ⟨_, rfl⟩;obtain ⟨iN, hiN⟩ : ∃ x, x = inodesI M (lookL M im) := ⟨_, rfl⟩;obtain ⟨bN, hbN⟩ : ∃ x, x = blocksI im (lookL M im) := ⟨_, rfl⟩;have HwN := hid hwN;have HiN := hid hiN;have HbN := hid hbN;rw [← hwN] at HL1;rw [← hiN] at HL2;rw [← hbN] at HL3;rw [← hwN, ← hiN, ← hbN] at HBd HG3 hLr ⊢;obtain ⟨n1, hn1⟩ : ∃ x, x = wN.length := ⟨_, rfl⟩;obtain ⟨n2, hn2⟩ : ∃ x, x = iN.length := ⟨_, rfl⟩;obtain ⟨n3, hn3⟩ : ∃ x, x = bN.length := ⟨_, rfl⟩;have Hn1 := hid hn1;have Hn2 := hid hn2;have Hn3 := hid hn3;rw [← hn1, ← hn2, ← hn3] at HBd HG3 hLr ⊢;clear h23 hw3 hc2 hLk hg4 HLr hEL hX hT hwN hiN hbN hn1 hn2 hn3
  go_upto_region 6 with (first
   | (go_at_call 11; go_must (refine hLr.mono ?_; rintro e w4 ⟨hc4, gv, vc, t1, t2, t3, b1, b2, b3, rfl, hY⟩))
   | (refine store_R rfl 26 _ _ rfl w4.heap.size (RA (some ⟨gv, 0, none⟩) b1 b2 b3 n n1 n2 n3 vc t1 t2 t3) rfl rfl 26 _ (heap_alloc_new _ _) szRep rfl (RA_one _ _ _ _ _ _ _ _ _ _ _ _) ?_; intro w5 hw5)
   | fail)
  have h45 : Chg w4 w5 No := (Chg.alloc w4 _ No).trans (kt_new hw5) (fun _ _ e => e) (fun j hj e => by omega);have h35 : Chg w3 w5 No := hc4.tr h45;have HC5 : Hid (Chg W w5 No) := hid (HC3.out.tr h35);have HG5 := hid (h35.keep HG3.out (fun e => e));have HG6 := hid hw5.here;have hwt := hY.wt;have hl1 := (LatO.of hY.l1).call h45;have hl2 := (LatO.of hY.l2).call h45;have hl3 := (LatO.of hY.l3).call h45;rw [← HT.out] at hwt;rw [← HwN.out] at hl1;rw [← HiN.out] at hl2;rw [← HbN.out] at hl3;have hSm := same_like T wN iN bN (some ⟨gw, 0, none⟩) a1 a2 a3 (some ⟨gv, 0, none⟩) b1 b2 b3 wc s1 s2 s3 vc t1 t2 t3 n n1 n2 n3 HTl.out Hn1.out Hn2.out Hn3.out w5 (by have := HBd.out; omega) HBd.out.2.1 HBd.out.2.2.1 HBd.out.2.2.2
   (ImgAt.of_wt (HWt.out.keep h35 (fun e => e))) (ImgAt.of_wt (hwt.keep h45 (fun e => e))) (HL1.out.call h35) hl1 (HL2.out.call h35) hl2 (HL3.out.call h35) hl3
  obtain ⟨g6, hg6⟩ : ∃ y, y = w4.heap.size := ⟨_, rfl⟩;rw [← hg6] at HG6 ⊢;obtain ⟨rA, hrA⟩ : ∃ y, y = RA (some ⟨gw, 0, none⟩) a1 a2 a3 n n1 n2 n3 wc s1 s2 s3 := ⟨_, rfl⟩;obtain ⟨rB, hrB⟩ : ∃ y, y = RA (some ⟨gv, 0, none⟩) b1 b2 b3 n n1 n2 n3 vc t1 t2 t3 := ⟨_, rfl⟩;have HA4 : Hid (rA.size = 4) := hid (by rw [hrA]; rfl);have HB4 : Hid (rB.size = 4) := hid (by rw [hrB]; rfl);rw [← hrA, ← hrB] at hSm;have HG5 : Hid (w5.heap[g4]? = some (.cells rA 26 (0, 0))) := hid (by rw [hrA]; exact HG5.out);have HG6 : Hid (w5.heap[g6]? = some (.cells rB 26 (0, 0))) := hid (by rw [hrB]; exact HG6.out);clear h45 h35 hw5 hc4 hLr hg6 HG3 HC3 hwt hl1 hl2 hl3 hY hrA hrB
  go_wp2_with (first
   | (refine load_R rfl 26 _ rfl g6 rfl 26 _ _ HG6.out Tryz.underlying26 rfl (by rw [szRep, HB4.out]) ?_)
   | (refine load_mid 26 _ rfl g6 0 rfl rB.toList _ (rep_rangeL HG6.out) Tryz.underlying26 rfl (by rw [szRep, Array.length_toList, HB4.out]) (by first | rfl | go_simp) ?_)
   | (refine load_mid 26 _ rfl g4 0 rfl rA.toList _ (rep_rangeL HG5.out) Tryz.underlying26 rfl (by rw [szRep, Array.length_toList, HA4.out]) (by first | rfl | go_simp) ?_)
   | (go_at_call 12; go_must (refine hSm.mono ?_; rintro e w6 ⟨rfl, hc6⟩))
   | fail)
  go_ret
  exact ⟨rfl, (HC5.out.tr hc6).below⟩
end Go.Proofs.YtpmignilhoihnaaGreat
