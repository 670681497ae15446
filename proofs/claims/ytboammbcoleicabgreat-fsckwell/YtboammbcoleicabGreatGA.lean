/-
 The statements' pictures: the image of one.
-/
import Derived.Test.YtboammbcoleicabGreatFC
import Derived.Test.YtboammbcoleicabGreatWPick
namespace Go.Proofs.YtboammbcoleicabGreat
open Go.RowKit Go.Shelf

structure II (im : Img) (M : Nat) : Prop where
 sup : (supOf im).2.2 = 0
 hM : M = (supOf im).2.1.toNat
 ml : M + 2 ≤ im.length
 root : rootB M im = true
 sec : AllSec im
 n1 : 8 ≤ im.length
 n2 : im.length ≤ 4096
theorem LkC.ii {w0 w : World} {im : Img} {M gw s1 : Nat} {a1 a2 a3 : Option Addr} (h : LkC w0 w im M gw s1 a1 a2 a3) : II im M := ⟨h.sup, h.hM, h.ml, h.root, h.sec, h.n1, h.n2⟩
theorem II.one {im : Img} {M M' : Nat} (h : II im M) (k : II im M') : M' = M := by rw [h.hM, k.hM]
def kW (M : Nat) (im : Img) : Nat := (writeI M im (lookL M im)).length
theorem kW_le (M : Nat) (im : Img) : kW M im ≤ im.length * 3 := by
 unfold kW
 rw [writeI_rows, List.length_append, List.length_append]
 have h0 := keysL_len im.length fun x => decide (wrKind M im (lookL M im).wt (lookL M im).wp x = 0)
 have h1 := keysL_len im.length fun x => decide (wrKind M im (lookL M im).wt (lookL M im).wp x = 1)
 have h2 := keysL_len im.length fun x => decide (wrKind M im (lookL M im).wt (lookL M im).wp x = 2)
 unfold rowL
 omega
def repV (n gw wc k s1 i s2 b s3 : Nat) (a1 a2 a3 : Option Addr) : Array Value := #[.slice (some ⟨gw, 0, none⟩) n wc, .slice a1 k s1, .slice a2 i s2, .slice a3 b s3]
theorem repV_one (n gw wc k s1 i s2 b s3 : Nat) (a1 a2 a3 : Option Addr) : (repV n gw wc k s1 i s2 b s3 a1 a2 a3).all (·.oneCell') = true := rep_one _ _ _ rfl rfl rfl
def RunPost (w : World) (p g : Nat) (im : Img) (nw : Int) (ar : Bool) (lf : Int) (e : Ending) (w' : World) : Prop :=
 ((∀ M, ¬ II im M) ∧ ∃ E, (E = lookE im ∧ (E = 120 ∨ E = 121)) ∧ e = .returned (.tuple #[.agg nil4, .int .i64 E]) ∧ Chg w w' No) ∨
 (∃ M, II im M ∧ (ar = true ∧ lf < kW M im) ∧ e = .returned (.tuple #[.agg nil4, .int .i64 22]) ∧ DK w' p g (cutI M im lf.toNat) (nw + lf) true true 0 ∧ Chg w w' (fun k => k = p ∨ k = g)) ∨
 (∃ M gw wc s1 s2 s3 a1 a2 a3, ¬ (ar = true ∧ lf < kW M im) ∧ e = .returned (.tuple #[.agg (repV im.length gw wc (kW M im) s1 (inodesI M (lookL M im)).length s2 (blocksI im (lookL M im)).length s3 a1 a2 a3), .int .i64 0]) ∧
  DK w' p g (lookL M im).wt (nw + kW M im) false ar (leftN ar lf (kW M im)) ∧ LkC w w' im M gw s1 a1 a2 a3 ∧ Chg w w' (fun k => k = p ∨ k = g))

set_option maxHeartbeats 4000000 in
set_option maxRecDepth 100000 in
theorem run_any {w : World} {p g : Nat} {im : Img} {nw : Int} {ar : Bool} {lf : Int} (h : DK w p g im nw false ar lf) (hw : 0 ≤ nw ∧ nw ≤ 1000000000000) (hl : 0 ≤ lf ∧ lf ≤ 9223372036854775807) : Calls Tryz.prog 8 #[.pointer (some ⟨p, 0, none⟩)] w fun e w' => RunPost w p g im nw ar lf e w' := by
 have hzr := zero_rep
 have hbr := build_rep
 have hN0 := heap_alloc_new w (.cells nil4 34)
 have HN := hid hN0
 have hA := Chg.alloc w (.cells nil4 34) No
 have H := hid (h.call hA)
 have hP := power_any H.out
 have HA := hid hA
 have HW := hid hw
 have HF := hid hl
 have hlt := h.lt
 have HPG := hid hlt
 obtain ⟨n, hn⟩ : ∃ y, y = im.length := ⟨_, rfl⟩
 have HNN := hid hn
 have HIm : Hid (∀ W, DK W p g im nw false ar lf → Calls Tryz.prog 12 #[.pointer (some ⟨p, 0, none⟩)] W fun e w' => ∃ q, e = .returned (.slice (some ⟨q, 0, none⟩) n n) ∧ W.heap.size ≤ q ∧ WtAt w' q im ∧ Chg W w' No) := hid (fun W hW => by
  have := dk_image hW
  rw [← hn] at this
  exact this)
 have HLk : Hid (∀ W q, WtAt W q im → Calls Tryz.prog 18 #[.slice (some ⟨q, 0, none⟩) n n] W fun e w' => Chg W w' No ∧ ((((supOf im).2.2 = 0 → rootB (supOf im).2.1.toNat im = false) ∧ ∃ E, (Hid (E = lookE im) ∧ (E = 120 ∨ E = 121)) ∧ e = .returned (.tuple #[.agg nil4, .int .i64 E])) ∨
   ∃ M gw wc s1 s2 s3 a1 a2 a3, e = .returned (.tuple #[.agg (repV n gw wc (kW M im) s1 (inodesI M (lookL M im)).length s2 (blocksI im (lookL M im)).length s3 a1 a2 a3), .int .i64 0]) ∧ LkC W w' im M gw s1 a1 a2 a3)) := hid (fun W q hW => by
  have := look_c (some ⟨q, 0, none⟩) n im W (ImgAt.of_wt hW)
  rw [← hn] at this
  exact this)
 obtain ⟨b, hb⟩ : ∃ y, y = w.heap.size := ⟨_, rfl⟩
 have HB := hid hb
 clear h hA hw hl hn hN0
 go_enter Tryz.func8, Tryz.ntmps8
 go_upto_region 6 with (first
  | (go_at_call 17; go_must (refine hP.mono ?_; rintro e w1 ⟨rfl, hc1⟩; have HN1 := hid (hc1.keep HN.out (fun e => e)); have HC1 := hid (HA.out.tr hc1); have hI := HIm.out w1 (H.out.call hc1); have HD1 := hid (H.out.call hc1); clear hc1))
  | (go_at_call 12; go_must (refine hI.mono ?_; rintro e w2 ⟨q, rfl, hq, hwq, hc2⟩; have hLk := HLk.out w2 q hwq))
  | (go_at_call 18; go_must (refine hLk.mono ?_; rintro e w3 ⟨hc3, ⟨hbad, E, hE0, rfl⟩ | ⟨M, gw, wc, s1, s2, s3, a1, a2, a3, rfl, hX⟩⟩))
  | (refine store_R rfl 34 _ _ rfl w3.heap.size nil4 rfl rfl 34 _ (heap_alloc_new _ _) szRep rfl nil4_one ?_; intro w4 hw4)
  | (refine store_R rfl 34 _ _ rfl w3.heap.size (repV n gw wc (kW M im) s1 (inodesI M (lookL M im)).length s2 (blocksI im (lookL M im)).length s3 a1 a2 a3) rfl rfl 34 _ (heap_alloc_new _ _) szRep rfl (repV_one _ _ _ _ _ _ _ _ _ _ _ _) ?_; intro w4 hw4)
  | fail)
 ·have h14 : Chg w1 w4 No := ((hc2.tr hc3).tr (Chg.alloc w3 _ No)).trans (kt_new hw4) (fun _ _ e => e) (fun j hj e => by have := (hc2.tr hc3).size; omega)
  have HC4 : Hid (Chg w w4 No) := hid (HC1.out.tr h14)
  have HN4 := hid (h14.keep HN1.out (fun e => e))
  have HNo : Hid (∀ M, ¬ II im M) := hid (fun M hM => by
   have := hbad hM.sup
   rw [← hM.hM, hM.root] at this
   cases this)
  rw [← hb] at HN4 ⊢
  clear h14 hw4 hc2 hc3 hwq hq hLk hI hP hbad HN HN1 hb
  obtain ⟨HEl, hE0⟩ := hE0
  rcases hE0 with rfl | rfl
  ·go_wp2_with (first
    | (refine store_R rfl 34 _ _ rfl b nil4 rfl rfl 34 _ HN4.out szRep rfl nil4_one ?_; intro w5 hw5)
    | fail)
   refine bodyPost_ret (v := .tuple #[.agg nil4, .int .i64 120]) (results_R Tryz.results8 _ _ b _ 34 _ _ Tryz.underlying34 rfl szRep rfl rfl hw5.here) rfl (.inl ⟨HNo.out, 120, ⟨HEl.out, .inl rfl⟩, rfl, HC4.out.trans (kt_new hw5) (fun _ _ e => e) (fun j hj e => by rw [HB.out] at e; omega)⟩)
  ·go_wp2_with (first
    | (refine store_R rfl 34 _ _ rfl b nil4 rfl rfl 34 _ HN4.out szRep rfl nil4_one ?_; intro w5 hw5)
    | fail)
   refine bodyPost_ret (v := .tuple #[.agg nil4, .int .i64 121]) (results_R Tryz.results8 _ _ b _ 34 _ _ Tryz.underlying34 rfl szRep rfl rfl hw5.here) rfl (.inl ⟨HNo.out, 121, ⟨HEl.out, .inr rfl⟩, rfl, HC4.out.trans (kt_new hw5) (fun _ _ e => e) (fun j hj e => by rw [HB.out] at e; omega)⟩)
 ·have h34 : Chg w3 w4 No := (Chg.alloc w3 _ No).trans (kt_new hw4) (fun _ _ e => e) (fun j hj e => by omega)
  have h14 : Chg w1 w4 No := (hc2.tr hc3).tr h34
  have HC4 : Hid (Chg w w4 No) := hid (HC1.out.tr h14)
  have HN4 := hid (h14.keep HN1.out (fun e => e))
  have HD4 := hid (HD1.out.call h14)
  have HX := hid hX
  have HG4 := hid hw4.here
  have HWt := hid (hX.wt.keep h34 (fun e => e))
  have HL1 := hid (hX.l1.call h34)
  have HL2 := hid (hX.l2.call h34)
  have HL3 := hid (hX.l3.call h34)
  have HNw : Hid (w.heap.size ≤ gw) := hid (by have := hX.new; have := HC1.out.size; have := hc2.size; omega)
  obtain ⟨b4, hb4⟩ : ∃ y, y = w3.heap.size := ⟨_, rfl⟩
  have HB4 : Hid (w.heap.size + 1 ≤ b4) := hid (by have := slt HN1.out; have := (hc2.tr hc3).size; omega)
  have hWr := fwrite_any gw wc s1 a1 (.slice a2 (inodesI M (lookL M im)).length s2) (.slice a3 (blocksI im (lookL M im)).length s3) HD4.out HWt.out hX.tl (by have := HNw.out; omega) HL1.out (fun x hx => by have := write_in.1 hx; exact ⟨this.1, this.2.1⟩) (by have := kW_le M im; unfold kW at this; have := hX.n2; omega) HW.out HF.out rfl rfl
  rw [← HNN.out] at hWr
  rw [← hb4] at HG4 ⊢
  rw [← hb] at HN4 ⊢
  obtain ⟨k, hk⟩ : ∃ y, y = kW M im := ⟨_, rfl⟩
  have hk' : (writeI M im (lookL M im)).length = k := hk.symm
  rw [hk'] at hWr
  obtain ⟨i, hi⟩ : ∃ y, y = (inodesI M (lookL M im)).length := ⟨_, rfl⟩
  obtain ⟨bl, hbl⟩ : ∃ y, y = (blocksI im (lookL M im)).length := ⟨_, rfl⟩
  rw [← hi, ← hbl] at hWr
  rw [← hk, ← hi, ← hbl] at HG4 ⊢
  have HKK := hid hk
  have HII := hid hi
  have HBB := hid hbl
  clear hk hk' hi hbl hX h34 h14 hw4 hc2 hc3 hwq hq hLk hI hP HN HN1 hb hb4 hlt
  go_upto_region 9 with (first
   | (refine load_R rfl 34 _ rfl b4 rfl 34 _ _ HG4.out Tryz.underlying34 rfl szRep ?_)
   | (go_at_call 19; go_must (refine hWr.mono ?_; rintro e w5 ⟨E, rfl, hp5, hc5⟩))
   | fail)
  have HC5 : Hid (Chg w w5 (fun k => k = p ∨ k = g)) := hid (HC4.out.trans hc5 (fun _ _ e => e.elim) (fun _ _ e => e))
  have hpb : p < w.heap.size ∧ g < w.heap.size := HPG.out
  have HN5 := hid (hc5.keep HN4.out (by rw [HB.out]; omega))
  have HG5 := hid (hc5.keep HG4.out (by have := HB4.out; omega))
  rcases hp5 with ⟨hcut, rfl, hd5⟩ | ⟨hcut, rfl, hd5⟩
  ·have HD5 : Hid (DK w5 p g (cutI M im lf.toNat) (nw + lf) true true 0) := hid hd5
   have HCut : Hid (ar = true ∧ lf < kW M im) := hid hcut
   clear hd5 hcut hc5 hWr hpb
   go_wp2_with (first
    | (refine store_R rfl 34 _ _ rfl b nil4 rfl rfl 34 _ HN5.out szRep rfl nil4_one ?_; intro w6 hw6)
    | fail)
   refine bodyPost_ret (v := .tuple #[.agg nil4, .int .i64 22]) (results_R Tryz.results8 _ _ b _ 34 _ _ Tryz.underlying34 rfl szRep rfl rfl hw6.here) rfl (.inr (.inl ⟨M, HX.out.ii, HCut.out, rfl, HD5.out.keep (kt_new hw6) (by have := HPG.out; rw [HB.out]; omega) (by have := HPG.out; rw [HB.out]; omega), HC5.out.trans (kt_new hw6) (fun _ _ e => e) (fun j hj e => by rw [HB.out] at e; omega)⟩))
  ·have HD5 : Hid (DK w5 p g (lookL M im).wt (nw + kW M im) false ar (leftN ar lf (kW M im))) := hid (by
    have e := cut_all HX.out.root
    unfold cutI at e
    rw [List.take_length] at e
    rw [e] at hd5
    exact hd5)
   have HCut : Hid (¬ (ar = true ∧ lf < kW M im)) := hid hcut
   have h35 : Chg w4 w5 (fun k => k = p ∨ k = g) := hc5
   have HWt5 : Hid (WtAt w5 gw (lookL M im).wt) := hid (HWt.out.keep h35 (by have := HNw.out; omega))
   have lat : ∀ {a : Option Addr} {l : List Int}, LAt w4 a l → LAt w5 a l := fun {a l} hL => by
    rcases hL with e | ⟨ga, e, ⟨A, hA⟩, hc⟩
    ·exact .inl e
    ·have hne : ¬ (ga = p ∨ ga = g) := by
      rintro (e1 | e1)
      ·exact obj_ne hA HD4.out.d.me (by intro e; cases e) e1
      ·exact obj_ne hA HD4.out.d.row (by intro e; cases e) e1
     exact .inr ⟨ga, e, ⟨A, h35.keep hA hne⟩, fun k hk => cell_keep (hc k hk) h35 (slt hA) hne⟩
   have HL15 := hid (lat HL1.out)
   have HL25 := hid (lat HL2.out)
   have HL35 := hid (lat HL3.out)
   clear hd5 hcut hc5 hWr hpb h35 lat
   go_wp2_with (first
    | (refine load_R rfl 34 _ rfl b4 rfl 34 _ _ HG5.out Tryz.underlying34 rfl szRep ?_)
    | (refine store_R rfl 34 _ _ rfl b (repV n gw wc k s1 i s2 bl s3 a1 a2 a3) rfl rfl 34 _ HN5.out szRep rfl (repV_one _ _ _ _ _ _ _ _ _ _ _ _) ?_; intro w6 hw6)
    | fail)
   have h56 : Chg w5 w6 (fun j => j = b) := kt_new hw6
   have bb := HB.out
   have nb : ∀ {a : Option Addr} {l : List Int}, LAt w5 a l → LAt w6 a l := fun {a l} hL => by
    rcases hL with e | ⟨ga, e, ⟨A, hA⟩, hc⟩
    ·exact .inl e
    ·have hne : ¬ ga = b := obj_ne hA HN5.out (by intro e; cases e)
     exact .inr ⟨ga, e, ⟨A, h56.keep hA hne⟩, fun k hk => cell_keep (hc k hk) h56 (slt hA) hne⟩
   refine bodyPost_ret (v := .tuple #[.agg (repV n gw wc k s1 i s2 bl s3 a1 a2 a3), .int .i64 0]) (results_R Tryz.results8 _ _ b _ 34 _ _ Tryz.underlying34 rfl szRep rfl rfl hw6.here) rfl (.inr (.inr ⟨M, gw, wc, s1, s2, s3, a1, a2, a3, HCut.out, by rw [← HKK.out, ← HII.out, ← HBB.out, ← HNN.out], HD5.out.keep h56 (by have := HPG.out; omega) (by have := HPG.out; omega), ?_, HC5.out.trans h56 (fun _ _ e => e) (fun j hj e => by omega)⟩))
   have hne : ¬ gw = b := by
    obtain ⟨_, A, hA, _⟩ := HWt5.out
    exact obj_ne hA HN5.out (by intro e; cases e)
   have X := HX.out
   exact ⟨X.sup, X.hM, X.ml, X.root, X.sec, X.n1, X.n2, HWt5.out.keep h56 hne, HNw.out, X.tl, X.c1, nb HL15.out, nb HL25.out, nb HL35.out⟩
end Go.Proofs.YtboammbcoleicabGreat

namespace Go.Proofs.YtboammbcoleicabGreat
open Go.RowKit Go.Shelf

abbrev Spt := Int × Int × List Int
def secN (x : Int) : Int := if x = -9223372036854775808 then 9223372036854775807 else x - 1
def nP (s : Int) : Nat := (1 + pickN (secN s) 200).toNat
def putD (s : List Int) (a : Nat) (d : List Int) : Nat → List Int
 | 0 => s
 | k + 1 => (putD s a d k).set (a + k) (d.getD k 0)
def kD (a : Nat) (d : List Int) : Nat := min d.length (128 - a)
def spotI (im : Img) (x : Spt) : Img := im.set (pickN x.1 im.length).toNat (putD (secI im (pickN x.1 im.length)) (pickN x.2.1 128).toNat x.2.2 (kD (pickN x.2.1 128).toNat x.2.2))
def picI (s : Int) (l : List Spt) : Img := l.foldl spotI (List.replicate (nP s) Zs)
def OkSpt (x : Spt) : Prop := I64 x.1 ∧ I64 x.2.1 ∧ (∀ b ∈ x.2.2, 0 ≤ b ∧ b ≤ 255) ∧ x.2.2.length ≤ 9223372036854775807
def SptsAt (w : World) (a : Option Addr) (l : List Spt) : Prop := l = [] ∨ ∃ g o, a = some ⟨g, o, none⟩ ∧ g < w.heap.size ∧ ∀ k x, l[k]? = some x → ∃ da dc, w.rangeAt g (o + k * 3) [.int .i64 x.1, .int .i64 x.2.1, .slice da x.2.2.length dc] ∧ D.BytesAt w da x.2.2
theorem bytes_keep {w w' : World} {a : Option Addr} {l : List Int} {ks : Nat → Prop} (h : D.BytesAt w a l) (hc : Chg w w' ks) (hn : ∀ j, j < w.heap.size → ¬ ks j) : D.BytesAt w' a l := by
 rcases h with h | ⟨b, o, h1, h2, h3⟩
 ·exact .inl h
 ·exact .inr ⟨b, o, h1, Nat.lt_of_lt_of_le h2 hc.size, fun j hj => cell_keep (h3 j hj) hc h2 (hn b h2)⟩
theorem SptsAt.keep {w w' : World} {a : Option Addr} {l : List Spt} {ks : Nat → Prop} (h : SptsAt w a l) (hc : Chg w w' ks) (hn : ∀ j, j < w.heap.size → ¬ ks j) : SptsAt w' a l := by
 rcases h with h | ⟨g, o, h1, h2, h3⟩
 ·exact .inl h
 ·refine .inr ⟨g, o, h1, Nat.lt_of_lt_of_le h2 hc.size, fun k x hk => ?_⟩
  obtain ⟨da, dc, hr, hb⟩ := h3 k x hk
  exact ⟨da, dc, fun i v hv => cell_keep (hr i v hv) hc h2 (hn g h2), bytes_keep hb hc hn⟩
theorem nP_bd (s : Int) : 1 ≤ nP s ∧ nP s ≤ 200 := by
 have := pickN_bd (secN s) (n := 200) (by omega)
 unfold nP
 omega
theorem spotI_len (im : Img) (x : Spt) : (spotI im x).length = im.length := by unfold spotI; rw [List.length_set]
theorem fold_len : ∀ (l : List Spt) (im : Img), (l.foldl spotI im).length = im.length
 | [], _ => rfl
 | x :: l, im => by rw [List.foldl_cons, fold_len l, spotI_len]
theorem picI_len (s : Int) (l : List Spt) : (picI s l).length = nP s := by unfold picI; rw [fold_len, List.length_replicate]
theorem zl_flat : ∀ n : Nat, (List.replicate n Zs).flatten = D.zl (128 * n)
 | 0 => rfl
 | n + 1 => by
  rw [List.replicate_succ, List.flatten_cons, zl_flat n]
  unfold D.zl Zs
  rw [List.replicate_append_replicate]
  congr 1
  omega
section
variable {ops : Array Oper} {Q : Exit → Act → World → Prop} {S : World → Prop} {fuel : Nat} {listed : Array Bool} {a : Act} {w : World}
theorem stPut (i : Nat) (w' : World) {o : Oper} (hop : ops[i]? = some o) (hd : o.dst = none) (hw : Region.wanted o (yielded ops a.tmps) = true)
  (hrun : (execOp a.eval o).run Tryz.prog w = .ok .skip w')
  (h : S w' ∧ wpAnyH Tryz.prog .any ops Q S fuel (listed.setIfInBounds i true) a w') : St ops Q S fuel listed a w i := by
 refine wpOp_step hop (fun K hK => ?_)
 rw [if_pos hw]
 unfold Oper.wp
 rw [hrun]
 refine hK _ _ ⟨h.1, ?_⟩
 unfold Act.put
 rw [hd]
 exact h.2
end
theorem WtAt.byte {w : World} {g : Nat} {im : Img} (h : WtAt w g im) {j i : Nat} {x : Int} (hj : j < im.length) (hi : i < 128) (hx : 0 ≤ x ∧ x ≤ 255) : WtAt (w.setCell ⟨g, j * 128 + i, none⟩ (.int .u8 x)) g (im.set j ((secI im (j : Int)).set i x)) := by
 obtain ⟨h0, A, h1, h2⟩ := id h
 have hs := h.sec (j : Int)
 refine ⟨fun s hm => ?_, _, heap_setCell_same w g (j * 128 + i) A _ _ h1, fun j' s hj' i' y hy => ?_⟩
 ·rcases List.mem_or_eq_of_mem_set hm with e | e
  ·exact h0 s e
  ·subst e
   refine ⟨by rw [List.length_set]; exact hs.1, fun y hy => ?_⟩
   rcases List.mem_or_eq_of_mem_set hy with e | e
   ·exact hs.2 y e
   ·rw [e]; exact hx
 ·have hA : ∀ (j' : Nat) s, im[j']? = some s → s.length = 128 := fun j' s hq => (h0 s (List.mem_of_getElem? hq)).1
  rw [Array.getElem?_setIfInBounds]
  by_cases e : j = j'
  ·subst e
   rw [List.getElem?_set_self hj] at hj'
   have e1 := Option.some.inj hj'
   subst e1
   have hi' : i' < 128 := by
    have := (List.getElem?_eq_some_iff.1 hy).1
    rw [List.length_set, hs.1] at this
    exact this
   have hold : ∀ k, k < 128 → ∃ z, (secI im (j : Int))[k]? = some z := fun k hk => ⟨_, List.getElem?_eq_getElem (by rw [hs.1]; exact hk)⟩
   by_cases e2 : i = i'
   ·subst e2
    obtain ⟨z, hz⟩ := hold i hi
    have hin : j * 128 + i < A.size := (Array.getElem?_eq_some_iff.1 (h2 j _ (getD_at hj) i z hz)).1
    rw [List.getElem?_set_self (by rw [hs.1]; exact hi)] at hy
    rw [if_pos rfl, if_pos hin, ← Option.some.inj hy]
   ·rw [List.getElem?_set_ne e2] at hy
    rw [if_neg (by omega)]
    exact h2 j _ (getD_at hj) i' y hy
  ·rw [List.getElem?_set_ne e] at hj'
   have hi' : i' < 128 := by
    have := (List.getElem?_eq_some_iff.1 hy).1
    rw [hA j' s hj'] at this
    exact this
   rw [if_neg (by omega)]
   exact h2 j' s hj' i' y hy
theorem set_again (im : Img) (n : Nat) (a b : List Int) : (im.set n a).set n b = im.set n b := List.set_set ..

end Go.Proofs.YtboammbcoleicabGreat

namespace Go.Proofs.YtboammbcoleicabGreat
open Go.RowKit Go.Shelf

set_option maxHeartbeats 1500000 in
set_option maxRecDepth 100000 in
theorem image_any (s : Int) (a : Option Addr) (l : List Spt) (c : Nat) (w : World) (hs : I64 s) (hl : SptsAt w a l) (hok : ∀ x ∈ l, OkSpt x) (hll : l.length ≤ 9223372036854775807) :
  Calls Tryz.prog 5 #[.agg #[.int .i64 s, .slice a l.length c]] w fun e w' => ∃ g, e = .returned (.slice (some ⟨g, 0, none⟩) (nP s) (nP s)) ∧ w.heap.size ≤ g ∧ WtAt w' g (picI s l) ∧ Chg w w' No := by
 have hmk := fun W => D.make_secs (1 + pickN (secN s) 200) (by have := pickN_bd (secN s) (n := 200) (by omega); omega) (by have := pickN_bd (secN s) (n := 200) (by omega); omega) W
 have hsI : I64 (secN s) := by
  unfold secN I64 at *
  split <;> omega
 have hPk := fun W => pick_any (secN s) 200 W hsI (by omega) (by omega)
 have hpb := pickN_bd (secN s) (n := 200) (by omega)
 have hwr : IntKind.i64.wrap (s - 1) = secN s := by
  unfold secN
  unfold I64 at hs
  by_cases e : s = -9223372036854775808
  ·subst e
   rw [if_pos rfl]
   kernel_rfl
  ·rw [if_neg e]
   have h1 : -9223372036854775807 ≤ s := by omega
   have h2 := hs.2
   exact IntWalk.i64_in _ (by omega)
 have hnp : (1 + pickN (secN s) 200).toNat = nP s := rfl
 obtain ⟨N, hN⟩ : ∃ y, y = nP s := ⟨_, rfl⟩
 have hN2 : ((1 + pickN (secN s) 200 : Int)) = (N : Int) := by rw [hN]; unfold nP; omega
 have hNb := nP_bd s
 rw [← hN] at hNb ⊢
 rw [hnp, ← hN] at hmk
 rw [hN2] at hmk
 have hp1 : 1 + pickN (secN s) 200 = (N : Int) := hN2
 generalize pickN (secN s) 200 = pk at *
 generalize secN s = s1 at *
 have HL := hid hl
 have HOk := hid hok
 have HNs := hid hN
 obtain ⟨m, hm⟩ : ∃ y, y = l.length := ⟨_, rfl⟩
 have HM := hid hm
 rw [← hm] at hll ⊢
 clear hl hok hm hs hN hN2 hnp hsI
 go_enter Tryz.func5, Tryz.ntmps5
 go_upto_region 2 with (first
  | (go_at_call 13; go_must (refine (hPk _).mono ?_; rintro e w4 ⟨rfl, hw4⟩; obtain rfl := hw4))
  | fail)
 have hA : Chg w ((w.alloc (.cells #[.int .i64 s, .slice a m c] 24)).alloc (.cells (D.SA (D.zl (128 * N))) 46)) No := (Chg.alloc w _ No).tr (Chg.alloc _ _ No)
 have hP : ((w.alloc (.cells #[.int .i64 s, .slice a m c] 24)).alloc (.cells (D.SA (D.zl (128 * N))) 46)).heap[w.heap.size]? = some (.cells #[.int .i64 s, .slice a m c] 24 (0, 0)) := (Chg.alloc _ _ No).keep (heap_alloc_new w _) (fun e => e)
 have hG : ((w.alloc (.cells #[.int .i64 s, .slice a m c] 24)).alloc (.cells (D.SA (D.zl (128 * N))) 46)).heap[w.heap.size + 1]? = some (.cells (D.SA (D.zl (128 * N))) 46 (0, 0)) := by
  have := heap_alloc_new (w.alloc (.cells #[.int .i64 s, .slice a m c] 24)) (.cells (D.SA (D.zl (128 * N))) 46)
  rw [World.size_alloc] at this
  exact this
 obtain ⟨w2, hw2⟩ : ∃ y, y = ((w.alloc (.cells #[.int .i64 s, .slice a m c] 24)).alloc (.cells (D.SA (D.zl (128 * N))) 46)) := ⟨_, rfl⟩
 rw [← hw2] at hA hP hG ⊢
 obtain ⟨b, hb⟩ : ∃ y, y = w.heap.size := ⟨_, rfl⟩
 obtain ⟨g, hg⟩ : ∃ y, y = w.heap.size + 1 := ⟨_, rfl⟩
 rw [← hg] at hG ⊢
 rw [← hb] at hP ⊢
 have HB : Hid (b = w.heap.size ∧ g = w.heap.size + 1) := hid ⟨hb, hg⟩
 have hbg : b < g := by omega
 have HA := hid hA
 have HP := hid hP
 have HWt : Hid (WtAt w2 g (((l.take 0).foldl spotI (List.replicate N Zs)))) := hid (wt_flat (fun s hs => by rw [List.eq_of_mem_replicate hs]; exact Zs_sec) (by
  show w2.heap[g]? = some (.cells (SA (List.replicate N Zs).flatten) 46 (0, 0))
  rw [zl_flat]
  exact hG))
 clear hw2 hb hg hA hP hG
 have HQ : Hid (∀ (W' : World) (_hW : Chg w2 W' (fun j => j = g)), W'.cell? ⟨b, 1, none⟩ = some (.slice a m c)) := hid (fun W' hW => by
  have h0 := hW.keep HP.out (by omega)
  exact (cell_of_row _ _ _ _ _ _ h0).trans rfl)
 obtain ⟨im0, him0⟩ : ∃ y, y = List.replicate N Zs := ⟨_, rfl⟩
 have HI0 : Hid (im0.length = N) := hid (by rw [him0, List.length_replicate])
 have HI := hid him0
 rw [← him0] at HWt
 clear him0 hPk hmk hp1 hpb hwr
 go_wp2_with fail
 go_loopw [4] (fun x wr => ∃ i : Nat, x = .int .i64 i ∧ i ≤ m ∧ Hid (WtAt wr g ((l.take i).foldl spotI im0)) ∧ Hid (Chg w2 wr (fun j => j = g))) (fun x _ => m - (intOf x).toNat)
 case atStart => exact ⟨0, rfl, by omega, HWt, hid (Chg.refl _ _)⟩
 case round =>
  clear HWt
  obtain ⟨i, rfl, hi, HWi, HCi⟩ := hrel
  have q1 := HQ.out wr HCi.out
  by_cases hlt : i < m
  ·have hki : (i : Int) < (m : Int) := by omega
   have hk0 : (0 : Int) ≤ (i : Int) := by omega
   obtain ⟨x, hx⟩ : ∃ x, l[i]? = some x := ⟨_, List.getElem?_eq_getElem (by rw [← HM.out]; exact hlt)⟩
   have HSt : Hid ((l.take (i + 1)).foldl spotI im0 = spotI ((l.take i).foldl spotI im0) x) := hid (by
    have hil : i < l.length := by rw [← HM.out]; exact hlt
    rw [List.take_succ_eq_append_getElem hil, List.foldl_append]
    rw [List.getElem?_eq_getElem hil] at hx
    rw [Option.some.inj hx]
    rfl)
   obtain ⟨o1, o2, o3, o4⟩ := HOk.out x (List.mem_of_getElem? hx)
   have hng : ∀ j, j < w.heap.size → ¬ j = g := fun j hj e => by have := HB.out; omega
   have hCw : Chg w wr (fun j => j = g) := HA.out.trans HCi.out (fun _ _ e => e.elim) (fun _ _ e => e)
   obtain ⟨gs, os, hga, hgl, hcs⟩ : ∃ g o, a = some ⟨g, o, none⟩ ∧ g < w.heap.size ∧ ∀ k x, l[k]? = some x → ∃ da dc, w.rangeAt g (o + k * 3) [.int .i64 x.1, .int .i64 x.2.1, .slice da x.2.2.length dc] ∧ D.BytesAt w da x.2.2 := by
    rcases HL.out with e | e
    ·rw [e] at hx; simp at hx
    ·exact e
   subst hga
   obtain ⟨da, dc, hr0, hby⟩ := hcs i x hx
   have hr : wr.rangeAt gs (os + i * 3) [.int .i64 x.1, .int .i64 x.2.1, .slice da x.2.2.length dc] := fun i v hv => cell_keep (hr0 i v hv) hCw hgl (hng gs hgl)
   clear hr0
   obtain ⟨x1, x2, d⟩ := x
   simp only at o1 o2 o3 o4 hr hby
   have HR := hid hr
   have HBy := hid hby
   have HO3 := hid o3
   obtain ⟨imi, himi⟩ : ∃ y, y = (l.take i).foldl spotI im0 := ⟨_, rfl⟩
   rw [← himi] at HWi HSt
   have HLi : Hid (imi.length = N) := hid (by rw [himi, fold_len]; exact HI0.out)
   have hp1 := fun W => pick_any x1 (N : Int) W o1 (by omega) (by omega)
   have hp2 := fun W => pick_any x2 128 W o2 (by omega) (by omega)
   obtain ⟨n1, hn1⟩ : ∃ y : Nat, (y : Int) = pickN x1 (N : Int) := ⟨(pickN x1 (N : Int)).toNat, by have := pickN_bd x1 (n := (N : Int)) (by omega); omega⟩
   obtain ⟨n2, hn2⟩ : ∃ y : Nat, (y : Int) = pickN x2 128 := ⟨(pickN x2 128).toNat, by have := pickN_bd x2 (n := 128) (by omega); omega⟩
   have b1 : n1 < N := by have := pickN_bd x1 (n := (N : Int)) (by omega); omega
   have b2 : n2 < 128 := by have := pickN_bd x2 (n := 128) (by omega); omega
   have HSp : Hid (spotI imi (x1, x2, d) = imi.set n1 (putD (secI imi (n1 : Int)) n2 d (kD n2 d))) := hid (by
    unfold spotI
    simp only [HLi.out, ← hn1, ← hn2, Int.toNat_natCast])
   rw [← hn1] at hp1
   rw [← hn2] at hp2
   obtain ⟨dl, hdl⟩ : ∃ y, y = d.length := ⟨_, rfl⟩
   have HDl := hid hdl
   rw [← hdl] at HR o4
   clear hcs hr hby hx himi hn1 hn2 o1 o2 o3 hdl hlt hgl
   go_upto_region 6 with (first
    | (refine load_mid 43 _ rfl gs (os + i * 3) rfl _ _ HR.out Tryz.underlying43 rfl (by kernel_rfl) (by rfl) ?_)
    | fail)
   have h5 : (wr.alloc (.cells #[.int .i64 x1, .int .i64 x2, .slice da dl dc] 43)).heap[wr.heap.size]? = some (.cells #[.int .i64 x1, .int .i64 x2, .slice da dl dc] 43 (0, 0)) := heap_alloc_new _ _
   have hA5 := Chg.alloc wr (.cells #[.int .i64 x1, .int .i64 x2, .slice da dl dc] 43) No
   obtain ⟨w5, hw5⟩ : ∃ y, y = wr.alloc (.cells #[.int .i64 x1, .int .i64 x2, .slice da dl dc] 43) := ⟨_, rfl⟩
   obtain ⟨b5, hb5⟩ : ∃ y, y = wr.heap.size := ⟨_, rfl⟩
   rw [← hw5] at h5 hA5 ⊢
   rw [← hb5] at h5 ⊢
   have hgb : g < b5 := by rw [hb5]; exact HWi.out.lt
   have H5 := hid h5
   have HA5 := hid hA5
   have c50 : w5.cell? ⟨b5, 0, none⟩ = some (.int .i64 x1) := (cell_of_row _ _ _ _ _ _ h5).trans rfl
   have c51 : w5.cell? ⟨b5, 1, none⟩ = some (.int .i64 x2) := (cell_of_row _ _ _ _ _ _ h5).trans rfl
   have HW5 : Hid (WtAt w5 g (imi.set n1 (putD (secI imi (n1 : Int)) n2 d 0))) := hid (by
    have e : imi.set n1 (putD (secI imi (n1 : Int)) n2 d 0) = imi := by
     have hl : n1 < imi.length := by rw [HLi.out]; exact b1
     refine List.ext_getElem? fun k => ?_
     rw [List.getElem?_set]
     split
     ·rename_i e
      subst e
      rw [getD_at hl]
      rfl
     ·rfl
    rw [e]
    exact HWi.out.keep hA5 (fun e => e))
   have HC5 : Hid (Chg w2 w5 (fun j => j = g)) := hid (HCi.out.trans hA5 (fun _ _ e => e) (fun _ _ e => e.elim))
   have HBy5 : Hid (∀ (W' : World) (_hW : Chg w5 W' (fun j => j = g)), D.BytesAt W' da d) := hid (fun W' hW => bytes_keep HBy.out ((hCw.trans hA5 (c := fun j => j = g) (fun _ _ e => e) (fun _ _ e => e.elim)).trans hW (fun _ _ e => e) (fun _ _ e => e)) hng)
   clear h5 hA5 hw5 hb5 q1 hCw hng
   go_upto_region 7 with (first
    | (go_at_call 13; go_must (refine (hp1 w5).mono ?_; rintro e w7 ⟨rfl, hw7⟩; obtain rfl : w5 = w7 := hw7.symm))
    | fail)
   go_upto_region 8 with (first
    | (go_at_call 13; go_must (refine (hp2 w5).mono ?_; rintro e w7 ⟨rfl, hw7⟩; obtain rfl : w5 = w7 := hw7.symm))
    | fail)
   clear hp1 hp2 c50 c51
   have hkb : ∀ k, k ≤ kD n2 d → k ≤ 128 := fun k hk => by unfold kD at hk; omega
   have HC52 : Hid (∀ (W' : World) (_hW : Chg w5 W' (fun j => j = g)), W'.cell? ⟨b5, 2, none⟩ = some (.slice da dl dc)) := hid (fun W' hW => by
    have h0 := hW.keep H5.out (by omega)
    exact (cell_of_row _ _ _ _ _ _ h0).trans rfl)
   have HKB := hid hkb
   clear hkb
   go_wp2_with fail
   go_loopw [8] (fun x wq => ∃ k : Nat, x = .int .i64 k ∧ k ≤ kD n2 d ∧ Hid (WtAt wq g (imi.set n1 (putD (secI imi (n1 : Int)) n2 d k))) ∧ Hid (Chg w5 wq (fun j => j = g))) (fun x _ => dl - (intOf x).toNat)
   case atStart => exact ⟨0, rfl, Nat.zero_le _, HW5, hid (Chg.refl _ _)⟩
   case round =>
    clear HW5
    obtain ⟨k, rfl, hk, HWk, HCk⟩ := hrel
    have q5 := HC52.out wr HCk.out
    have hk128 := HKB.out k hk
    have HKd := hid hk
    by_cases hk1 : k < dl
    ·have hk1' : (k : Int) < (dl : Int) := by omega
     by_cases hk2 : n2 + k < 128
     ·have hk2' : (n2 : Int) + (k : Int) < 128 := by omega
      have k0 : (0 : Int) ≤ (k : Int) := by omega
      have n0 : (0 : Int) ≤ (n1 : Int) := by omega
      have n1' : (n1 : Int) < (N : Int) := by omega
      have nk0 : (0 : Int) ≤ (n2 : Int) + (k : Int) := by omega
      obtain ⟨bd, od, hda, hdl, hdc⟩ : ∃ b o, da = some ⟨b, o, none⟩ ∧ b < wr.heap.size ∧ ∀ (W' : World) (_hW : Chg wr W' (fun j => j = g)), W'.cell? ⟨b, o + k, none⟩ = some (.int .u8 (d.getD k 0)) := by
       rcases HBy5.out wr HCk.out with e | ⟨b, o, e1, e2, _⟩
       ·have := HDl.out; rw [e] at this; simp at this; omega
       ·refine ⟨b, o, e1, e2, fun W' hW => ?_⟩
        rcases HBy5.out W' (HCk.out.trans hW (fun _ _ e => e) (fun _ _ e => e)) with e | ⟨b', o', e1', _, e3⟩
        ·have := HDl.out; rw [e] at this; simp at this; omega
        ·rw [e1] at e1'
         cases e1'
         exact e3 k (by rw [← HDl.out]; exact hk1)
      subst hda
      have hQ5 := fun W' (hW : Chg wr W' (fun j => j = g)) => HC52.out W' (HCk.out.trans hW (fun _ _ e => e) (fun _ _ e => e))
      obtain ⟨y, hy⟩ : ∃ y, y = d.getD k 0 := ⟨_, rfl⟩
      rw [← hy] at hdc
      have hyb : 0 ≤ y ∧ y ≤ 255 := by
       rw [hy, List.getD_eq_getElem?_getD, List.getElem?_eq_getElem (by rw [← HDl.out]; exact hk1)]
       exact HO3.out _ (List.getElem_mem _)
      have HYB := hid hyb
      have HNx : Hid ((imi.set n1 (putD (secI imi (n1 : Int)) n2 d k)).set n1 ((secI (imi.set n1 (putD (secI imi (n1 : Int)) n2 d k)) (n1 : Int)).set (n2 + k) y) = imi.set n1 (putD (secI imi (n1 : Int)) n2 d (k + 1))) := hid (by
       have e1 : secI (imi.set n1 (putD (secI imi (n1 : Int)) n2 d k)) (n1 : Int) = putD (secI imi (n1 : Int)) n2 d k := by
        have := secI_set (wt := imi) (p := (n1 : Int)) (x := putD (secI imi (n1 : Int)) n2 d k) (by omega) (by rw [HLi.out]; omega)
        rw [Int.toNat_natCast] at this
        exact this
       rw [e1, set_again, hy]
       rfl)
      have HK1 : Hid (k + 1 ≤ kD n2 d) := hid (by unfold kD; rw [← HDl.out]; omega)
      have hlb : n1 < (imi.set n1 (putD (secI imi (n1 : Int)) n2 d k)).length := by rw [List.length_set, HLi.out]; exact b1
      have HSt9 := hid (HWk.out.byte (x := y) hlb hk2 hyb)
      have c9 := HWk.out
      obtain ⟨_, AA, hAA, hAc⟩ := c9
      have hfz : ∀ (W' : World), Chg wr W' No → W'.frozen? ⟨g, n1 * 128 + (n2 + k), none⟩ = false := fun W' hW => frozen_of_row _ _ _ _ _ (hW.keep hAA (fun e => e))
      have HFz := hid hfz
      have HCe : Hid (∀ (W' : World), Chg wr W' No → ∃ v, W'.cell? ⟨g, n1 * 128 + (n2 + k), none⟩ = some (.int .u8 v)) := hid (fun W' hW => by
       have hsl := (HWk.out.sec (n1 : Int)).1
       have h1 := hAc n1 _ (getD_at hlb) (n2 + k) _ (List.getElem?_eq_getElem (by rw [hsl]; exact hk2))
       exact ⟨_, cell_keep ((cell_of_row _ _ _ _ _ _ hAA).trans h1) hW (slt hAA) (fun e => e)⟩)
      clear hy hyb hAA hAc hfz hlb hdl
      go_upto_region 11 with fail
      refine wp_region_noPanic ?_
      refine wp_region_held_drew (S := fun w' => Chg wr w' (fun j => j = g)) (by kernel_rfl) (Chg.refl _ _).drew (fun hHeld => ?_)
      refine tV 0 48 (.slice (some ⟨g, 0, none⟩) N N) rfl (by kernel_rfl) rfl (by rfl) (fun _ _ _ h => h) hHeld (fun _ hw' => rfl) ?_
      simp only [sA, sB, sC]
      refine tV 1 49 (.int .i64 (n1 : Int)) rfl (by kernel_rfl) rfl (by rfl) (fun _ _ _ h => h) hHeld (fun _ hw' => rfl) ?_
      simp only [sA, sB, sC]
      refine tV 2 50 (.int .i64 (n2 : Int)) rfl (by kernel_rfl) rfl (by rfl) (fun _ _ _ h => h) hHeld (fun _ hw' => rfl) ?_
      simp only [sA, sB, sC]
      refine tV 3 51 (.int .i64 (k : Int)) rfl (by kernel_rfl) rfl (by rfl) (fun _ _ _ h => h) hHeld (fun _ hw' => rfl) ?_
      simp only [sA, sB, sC]
      refine tV 4 52 (.int .i64 ((n2 : Int) + (k : Int))) rfl (by kernel_rfl) rfl (by rfl) (fun _ _ _ h => h) hHeld (fun _ hw' => by clear hdc hQ5; go_simp; exact IntWalk.i64_in _ (by omega)) ?_
      simp only [sA, sB, sC]
      refine tV 5 53 (.pointer (some ⟨b5, 2, none⟩)) rfl (by kernel_rfl) rfl (by rfl) (fun _ _ _ h => h) hHeld (fun _ hw' => by clear hdc hQ5; go_simp) ?_
      simp only [sA, sB, sC]
      refine tV 6 54 (.slice (some ⟨bd, od, none⟩) dl dc) rfl (by kernel_rfl) rfl (by rfl) (fun _ _ _ h => h) hHeld (fun _ hw' => by have hc := hQ5 _ hw'; clear hdc hQ5; go_simp) ?_
      simp only [sA, sB, sC]
      refine tV 7 55 (.int .i64 (k : Int)) rfl (by kernel_rfl) rfl (by rfl) (fun _ _ _ h => h) hHeld (fun _ hw' => rfl) ?_
      simp only [sA, sB, sC]
      refine tV 8 56 (.pointer (some ⟨bd, od + k, none⟩)) rfl (by kernel_rfl) rfl (by rfl) (fun _ _ _ h => h) hHeld (fun _ hw' => by clear hdc hQ5; go_simp) ?_
      simp only [sA, sB, sC]
      refine tV 9 57 (.int .u8 y) rfl (by kernel_rfl) rfl (by rfl) (fun _ _ _ h => h) hHeld (fun _ hw' => by have hc := hdc _ hw'; clear hdc hQ5; go_simp) ?_
      simp only [sA, sB, sC]
      refine tV 10 58 (.pointer (some ⟨g, n1 * 128, none⟩)) rfl (by kernel_rfl) rfl (by rfl) (fun _ _ _ h => h) hHeld (fun _ hw' => by clear hdc hQ5; go_simp) ?_
      simp only [sA, sB, sC]
      refine tV 11 59 (.pointer (some ⟨g, n1 * 128 + (n2 + k), none⟩)) rfl (by kernel_rfl) rfl (by rfl) (fun _ _ _ h => h) hHeld (fun _ hw' => by clear hdc hQ5; have e9 : ((n2 : Int) + (k : Int)).toNat = n2 + k := (by omega); go_simp) ?_
      simp only [sA, sB, sC]
      refine step1 12 (by kernel_rfl) ?_
      refine stPut 12 (wr.drew.setCell ⟨g, n1 * 128 + (n2 + k), none⟩ (.int .u8 y)) rfl rfl (by rfl) (by obtain ⟨v9, hv9⟩ := HCe.out wr.drew (Chg.refl _ _).drew; have hf9 := HFz.out wr.drew (Chg.refl _ _).drew; clear hdc hQ5; go_simp) ?_
      have hS9 : Chg wr (wr.drew.setCell ⟨g, n1 * 128 + (n2 + k), none⟩ (.int .u8 y)) (fun j => j = g) := ((Chg.refl wr _).drew).trans Chg.setCell (fun _ _ e => e) (fun _ _ e => e)
      have hw9 : WtAt (wr.drew.setCell ⟨g, n1 * 128 + (n2 + k), none⟩ (.int .u8 y)) g ((imi.set n1 (putD (secI imi (n1 : Int)) n2 d k)).set n1 ((secI (imi.set n1 (putD (secI imi (n1 : Int)) n2 d k)) (n1 : Int)).set (n2 + k) y)) := (HWk.out.keep ((Chg.refl wr No).drew) (fun e => e)).byte (x := y) (by rw [List.length_set, HLi.out]; exact b1) hk2 HYB.out
      obtain ⟨w9, hw9e⟩ : ∃ z, z = wr.drew.setCell ⟨g, n1 * 128 + (n2 + k), none⟩ (.int .u8 y) := ⟨_, rfl⟩
      rw [← hw9e] at hS9 hw9 ⊢
      clear hw9e
      refine ⟨hS9, ?_⟩
      refine wpAnyH_done (by kernel_rfl) ?_ _
      refine NoPanic.normal ?_
      have HCn : Hid (Chg w5 w9 (fun j => j = g)) := hid (HCk.out.trans hS9 (fun _ _ e => e) (fun _ _ e => e))
      have HWn : Hid (WtAt w9 g (imi.set n1 (putD (secI imi (n1 : Int)) n2 d (k + 1)))) := hid (by
       rw [← HNx.out]
       exact hw9)
      clear hS9 hw9 hdc hQ5 q5
      go_wp2_with fail
      exact ⟨⟨k + 1, by go_num, HK1.out, HWn, HCn⟩, by simp [intOf]; omega⟩
     ·have hk2' : ¬ (n2 : Int) + (k : Int) < 128 := by omega
      have HEx : Hid (k = kD n2 d) := hid (by have := HKd.out; unfold kD at this ⊢; rw [← HDl.out] at this ⊢; omega)
      have HWn : Hid (WtAt wr g ((l.take (i + 1)).foldl spotI im0)) := hid (by
       have := HWk.out
       rw [HEx.out] at this
       rw [HSt.out, HSp.out]
       exact this)
      have HCn : Hid (Chg w2 wr (fun j => j = g)) := hid (HC5.out.trans HCk.out (fun _ _ e => e) (fun _ _ e => e))
      clear hk
      go_wp2_with fail
      exact ⟨⟨i + 1, by go_num, by omega, HWn, HCn⟩, by simp [intOf]; omega⟩
    ·have hk1' : ¬ (k : Int) < (dl : Int) := by omega
     have HEx : Hid (k = kD n2 d) := hid (by have := HKd.out; unfold kD at this ⊢; rw [← HDl.out] at this ⊢; omega)
     have HWn : Hid (WtAt wr g ((l.take (i + 1)).foldl spotI im0)) := hid (by
      have := HWk.out
      rw [HEx.out] at this
      rw [HSt.out, HSp.out]
      exact this)
     have HCn : Hid (Chg w2 wr (fun j => j = g)) := hid (HC5.out.trans HCk.out (fun _ _ e => e) (fun _ _ e => e))
     clear hk
     go_wp2_with fail
     exact ⟨⟨i + 1, by go_num, by omega, HWn, HCn⟩, by simp [intOf]; omega⟩
  ·have hki : ¬ (i : Int) < (m : Int) := by omega
   obtain rfl : i = m := by omega
   have HWn : Hid (WtAt wr g (picI s l)) := hid (by
    have := HWi.out
    rw [HM.out, List.take_length, HI.out, HNs.out] at this
    exact this)
   have HCn : Hid (Chg w wr No) := hid (HA.out.trans HCi.out (fun _ _ e => e) (fun j hj e => by have := HB.out; omega))
   have HGe : Hid (w.heap.size ≤ g) := hid (by have := HB.out; omega)
   clear hi
   go_wp2_with fail
   go_ret
   exact ⟨g, rfl, HGe.out, HWn.out, HCn.out⟩
end Go.Proofs.YtboammbcoleicabGreat
