/-
 LookStands' walk.
-/
import Derived.Test.YtpmignilhoihnaaGreatXC
import Derived.Test.YtpmignilhoihnaaGreatRI2
import Derived.Test.YtpmignilhoihnaaGreatLS2
import Derived.Laws.MakeOwn
import Derived.Test.YtpmignilhoihnaaGreatJB
import Derived.BigQuiet
import Derived.Test.YtpmignilhoihnaaGreatS16
namespace Go.Proofs.YtpmignilhoihnaaGreat
open Go.RowKit Go.Shelf

def exR : List Int := [2, 7, 128, 0, 5, 0, 0, 0, 0, 0, 0, 0, 0, 0, 0, 0, 0, 0]
def exF : List Int := [1, 1, 3, 0, 6, 0, 0, 0, 0, 0, 0, 0, 0, 0, 0, 0, 0, 0]
def exH : List Int := [104, 101, 108, 108, 111] ++ List.replicate 123 0
def exIm : Img := [supS 16 4, inoS exR, inoS exF, Zs, Zs, slotS 2 ⟨#[97]⟩, exH, Zs, Zs, Zs, Zs, Zs, Zs, Zs, Zs, Zs]
theorem ex_sup : supOf exIm = (16, 4, 0) := by kernel_rfl
theorem ex_root : rootB 4 exIm = true := by kernel_rfl
theorem ex_inodes : inodesI 4 (lookL 4 exIm) = [1, 2] := by kernel_rfl
theorem ex_blocks : blocksI exIm (lookL 4 exIm) = [5, 6] := by kernel_rfl
theorem ex_six : secI (lookL 4 exIm).wt 6 = [104, 101, 108] ++ List.replicate 125 0 := by kernel_rfl
theorem ex_one : (secI (lookL 4 exIm).wt 1).getD 1 0 = 1 := by kernel_rfl
theorem ex_len : (lookL 4 exIm).wt.length = 16 := by kernel_rfl
theorem ex_write : writeI 4 exIm (lookL 4 exIm) = [1, 6] := by kernel_rfl

end Go.Proofs.YtpmignilhoihnaaGreat

namespace Go.Proofs.YtpmignilhoihnaaGreat
open Go.RowKit Go.Shelf

def zl (n : Nat) : List Int := List.replicate n 0
theorem zl_len (n : Nat) : (zl n).length = n := by simp [zl]
theorem zl_get (n j : Nat) : (zl n).getD j 0 = 0 := by
 unfold zl
 by_cases h : j < n
 ·simp [List.getD_eq_getElem?_getD, h]
 ·simp [List.getD_eq_getElem?_getD, h]
theorem infoS : ∃ i, Tryz.prog.info? 33 = some i ∧ i.zero = some (.agg (SA Zs)) ∧ i.size = 128 ∧ i.bytes = 128 := by
 have h : (Tryz.prog.info? 33).map (fun i => (i.zero, i.size, i.bytes)) = some (some (.agg (SA Zs)), 128, 128) := by kernel_rfl
 cases hq : Tryz.prog.info? 33 with
 | none => rw [hq] at h; cases h
 | some i =>
  rw [hq] at h
  simp at h
  exact ⟨i, rfl, h.1, h.2.1, h.2.2⟩
theorem made_secs (n : Nat) : madeCells (SA Zs) n = SA (zl n) := by
 apply Array.ext
 ·simp [size_madeCells, SA_size, zl_len]
 ·intro i h1 h2
  have hs : (SA Zs).size = 128 := by rw [SA_size, Zs_len]
  have hi : i % 128 < 128 := Nat.mod_lt _ (by decide)
  have e : (SA Zs)[i % 128]! = Value.int .u8 0 := by
   rw [Array.getElem!_eq_getD, Array.getD_eq_getD_getElem?, SA_get Zs _ (by rw [Zs_len]; exact hi), show Zs.getD (i % 128) 0 = 0 from zl_get 128 _]
   rfl
  simp only [madeCells, Array.getElem_map, Array.getElem_range, hs, e]
  simp [SA, zl]
theorem make_secs (n : Int) (h0 : 0 ≤ n) (h1 : 128 * n ≤ 281474976710656) (w : World) :
  (Instr.makeSlice 22 (.int .i64 n) (.int .i64 n)).run Tryz.prog w = .ok (.slice (some ⟨w.heap.size, 0, none⟩) n.toNat n.toNat) (w.alloc (.cells (SA (zl (128 * n.toNat))) 33)) := by
 obtain ⟨i, hi, hz, hs, hb⟩ := infoS
 rw [run_make w 22 33 i _ Tryz.underlying22 hi hz .i64 .i64 n n h0 (Int.le_refl _) (by rw [hb]; omega) (by omega), hs, Nat.mul_comm]
 rw [show Value.cells (.agg (SA Zs)) = SA Zs from rfl, made_secs]
theorem wt_made (w : World) (n : Nat) : WtAt (w.alloc (.cells (SA (zl (128 * n))) 33)) w.heap.size (List.replicate n Zs) := by
 refine ⟨fun s hs => by rw [List.eq_of_mem_replicate hs]; exact Zs_sec, _, heap_alloc_new _ _, fun j s hj i x hx => ?_⟩
 have hjn : j < n := by have := (List.getElem?_eq_some_iff.1 hj).1; simpa using this
 have hs : s = Zs := List.eq_of_mem_replicate (List.mem_of_getElem? hj)
 subst hs
 have hi : i < 128 := by have := (List.getElem?_eq_some_iff.1 hx).1; rw [Zs_len] at this; exact this
 have hx0 : x = 0 := by
  have h1 : Zs.getD i 0 = 0 := zl_get 128 i
  rw [List.getD_eq_getElem?_getD, hx] at h1
  exact h1
 subst hx0
 have hb : j * 128 + i < (zl (128 * n)).length := by rw [zl_len]; omega
 rw [SA_get _ _ hb, zl_get]
section
variable {ops : Array Oper} {rest : List Oper} {o : Oper} {a : Act} {Q : Exit → Act → World → Prop} {w : World}
/-- A value that is built. -/
theorem wp_bld (hg : o.guard = none) (t : TypeId) (ps : Array (Nat × Operand)) (_hop : o.op = .build t ps) (v : Value) (hr : ∀ w', (execOp a.eval o).run Tryz.prog w' = .ok (.value v) w')
  (h : wpList Tryz.prog ops Q rest (a.put o.dst v) w) : wpList Tryz.prog ops Q (o :: rest) a w := by
 refine wpList_plain hg fun K hK => ?_
 unfold Oper.wp
 rw [hr]
 exact hK _ _ h
end
def secB (s : List Int) : Bool := s.length == 128 && s.all fun x => decide (0 ≤ x ∧ x ≤ 255)
theorem secB_of {s : List Int} (h : secB s = true) : IsSec s := by
 unfold secB at h
 simp only [Bool.and_eq_true, beq_iff_eq, List.all_eq_true, decide_eq_true_eq] at h
 exact h
theorem ex_s0 : IsSec (supS 16 4) := secB_of (by kernel_rfl)
theorem ex_s5 : IsSec (slotS 2 ⟨#[97]⟩) := secB_of (by kernel_rfl)
theorem exH_sec : IsSec exH := secB_of (by kernel_rfl)
def exA : Img := (List.replicate 16 Zs).set 0 (supS 16 4)
def exB : Img := exA.set 1 (inoS exR)
def exC : Img := exB.set 2 (inoS exF)
def exD : Img := exC.set 5 (slotS 2 ⟨#[97]⟩)
theorem ex_all : exD.set 6 exH = exIm := rfl
/-- Another sector of the row has been written. -/
theorem wrote_on {w w1 w2 w3 : World} {g : Nat} (h : Chg w w1 No) (hb : Below w1.heap.size w1 w2) (hc : Chg w2 w3 (· = g)) (hg : w.heap.size ≤ g) : Chg w w3 No :=
 (h.trans (Chg.of_below hb No) (c := No) (fun _ _ e => e) (fun _ _ e => e)).trans hc (fun _ _ e => e) (fun j hj e => by omega)

set_option maxRecDepth 100000 in
set_option maxHeartbeats 1000000 in
theorem example_any (w : World) : Calls Tryz.prog 20 #[] w fun e w' => ∃ g, e = .returned (.slice (some ⟨g, 0, none⟩) 16 16) ∧ w.heap.size ≤ g ∧ WtAt w' g exIm ∧ Chg w w' No := by
 have hmk := fun W => make_secs 16 (by decide) (by decide) W
 simp only [show (16 : Int).toNat = 16 from rfl] at hmk
 obtain ⟨W0, hW0⟩ : ∃ y, y = w.alloc (.cells (SA (zl (128 * 16))) 33) := ⟨_, rfl⟩
 have HC : Hid (Chg w W0 No) := hid (by rw [hW0]; exact Chg.alloc _ _ _)
 have HW : Hid (WtAt W0 w.heap.size (List.replicate 16 Zs)) := hid (by rw [hW0]; exact wt_made w 16)
 have hS := fun W => rsuperSector_any 16 4 W
 have hR := fun W => rinodeSector_any exR rfl W
 have hF := fun W => rinodeSector_any exF rfl W
 have hL := fun W => rslotSector_any 2 ⟨#[97]⟩ W (by decide)
 go_enter Tryz.func20, Tryz.ntmps20
 go_upto_region 2 with fail
 rw [← hW0]
 clear hmk hW0
 go_upto_region 3 with (first
  | (refine wp_bld rfl 42 _ rfl (.agg #[.int .i64 16, .int .i64 4]) (fun _ => by kernel_rfl) ?_)
  | (go_at_call 38; go_must (refine (hS _).mono ?_; rintro e v2 ⟨rfl, hb⟩))
  | (refine store_wt rfl _ _ rfl w.heap.size 0 rfl (supS 16 4) rfl ex_s0 (List.replicate 16 Zs) (HW.out.keep (Chg.of_below hb No) (fun e => e)) (by decide) ?_; intro w2 hw hc hz)
  | fail)
 replace HC : Hid (Chg w w2 No) := hid (wrote_on HC.out hb hc (Nat.le_refl _))
 replace HW : Hid (WtAt w2 w.heap.size exA) := hid hw
 clear hb hw hc hz
 go_upto_region 4 with (first
  | (refine wp_bld rfl 51 _ rfl (.agg (NA exR)) (fun _ => by kernel_rfl) ?_)
  | (refine wp_bld rfl 49 _ rfl (.agg (NA [5, 0, 0, 0, 0, 0, 0, 0, 0, 0, 0, 0])) (fun _ => by kernel_rfl) ?_)
  | (go_at_call 31; go_must (refine (hR _).mono ?_; rintro e v3 ⟨rfl, hb⟩))
  | (refine store_wt rfl _ _ rfl w.heap.size 1 rfl (inoS exR) rfl (inoS_sec _) exA (HW.out.keep (Chg.of_below hb No) (fun e => e)) (by decide) ?_; intro w3 hw hc hz)
  | fail)
 replace HC : Hid (Chg w w3 No) := hid (wrote_on HC.out hb hc (Nat.le_refl _))
 replace HW : Hid (WtAt w3 w.heap.size exB) := hid hw
 clear hb hw hc hz
 go_upto_region 5 with (first
  | (refine wp_bld rfl 51 _ rfl (.agg (NA exF)) (fun _ => by kernel_rfl) ?_)
  | (refine wp_bld rfl 49 _ rfl (.agg (NA [6, 0, 0, 0, 0, 0, 0, 0, 0, 0, 0, 0])) (fun _ => by kernel_rfl) ?_)
  | (go_at_call 31; go_must (refine (hF _).mono ?_; rintro e v4 ⟨rfl, hb⟩))
  | (refine store_wt rfl _ _ rfl w.heap.size 2 rfl (inoS exF) rfl (inoS_sec _) exB (HW.out.keep (Chg.of_below hb No) (fun e => e)) (by decide) ?_; intro w4 hw hc hz)
  | fail)
 replace HC : Hid (Chg w w4 No) := hid (wrote_on HC.out hb hc (Nat.le_refl _))
 replace HW : Hid (WtAt w4 w.heap.size exC) := hid hw
 clear hb hw hc hz
 go_upto_region 6 with (first
  | (refine wp_bld rfl 83 _ rfl (.agg #[.int .i64 2, .string ⟨#[97]⟩]) (fun _ => by kernel_rfl) ?_)
  | (go_at_call 39; go_must (refine (hL _).mono ?_; rintro e v5 ⟨rfl, hb⟩))
  | (refine store_wt rfl _ _ rfl w.heap.size 5 rfl (slotS 2 ⟨#[97]⟩) rfl ex_s5 exC (HW.out.keep (Chg.of_below hb No) (fun e => e)) (by decide) ?_; intro w5 hw hc hz)
  | fail)
 replace HC : Hid (Chg w w5 No) := hid (wrote_on HC.out hb hc (Nat.le_refl _))
 replace HW : Hid (WtAt w5 w.heap.size exD) := hid hw
 clear hb hw hc hz
 go_wp2_with (first
  | (refine wp_bld rfl 33 _ rfl (.agg (SA exH)) (fun _ => by kernel_rfl) ?_)
  | (refine store_wt rfl _ _ rfl w.heap.size 6 rfl exH rfl exH_sec exD HW.out (by decide) ?_; intro w6 hw hc hz)
  | fail)
 go_ret
 exact ⟨_, rfl, Nat.le_refl _, hw, HC.out.trans hc (fun _ _ e => e) (fun j hj e => by omega)⟩

end Go.Proofs.YtpmignilhoihnaaGreat

namespace Go.Proofs.YtpmignilhoihnaaGreat
open Go.RowKit Go.Shelf

set_option maxHeartbeats 1000000 in
set_option maxRecDepth 100000 in
theorem ints_same (l : List Int) (a b : Option Addr) (ca cb : Nat) (w : World) (hl : l.length ≤ 5000) (hA : LAt w a l) (hB : LAt w b l) : Calls Tryz.prog 17 #[.slice a l.length ca, .slice b l.length cb] w fun e w' => e = .returned (.bool true) ∧ Chg w w' No := by
 have HA := hid hA
 have HB := hid hB
 clear hA hB
 generalize hm : l.length = m at *
 have HM := hid hm
 clear hm
 go_enter Tryz.func17, Tryz.ntmps17
 go_wp2_with fail
 go_loopw [5] (fun i wr => ∃ (k : Nat) (wq : World), wq = wr ∧ i = .int .i64 k ∧ k ≤ m ∧ Hid (Chg w wq No)) (fun i _ => m - (intOf i).toNat)
 case atStart => exact ⟨0, w, rfl, rfl, by omega, hid (Chg.refl _ _)⟩
 case round =>
  obtain ⟨k, wq, rfl, rfl, hk, HC⟩ := hrel
  by_cases hlt : k < m
  ·have hki : (k : Int) < (m : Int) := by omega
   obtain ⟨ga, rfl, hga, hca⟩ : ∃ ga, a = some ⟨ga, 0, none⟩ ∧ (∃ A, wq.heap[ga]? = some (.cells A 3 (0, 0))) ∧ ∀ k, k < l.length → wq.cell? ⟨ga, k, none⟩ = some (.int .i64 (l.getD k 0)) := by
    rcases HA.out.call HC.out with h | h
    ·have := HM.out; rw [h] at this; simp at this; omega
    ·exact h
   obtain ⟨gb, rfl, hgb, hcb⟩ : ∃ gb, b = some ⟨gb, 0, none⟩ ∧ (∃ A, wq.heap[gb]? = some (.cells A 3 (0, 0))) ∧ ∀ k, k < l.length → wq.cell? ⟨gb, k, none⟩ = some (.int .i64 (l.getD k 0)) := by
    rcases HB.out.call HC.out with h | h
    ·have := HM.out; rw [h] at this; simp at this; omega
    ·exact h
   have c1 := hca k (by rw [HM.out]; exact hlt)
   have c2 := hcb k (by rw [HM.out]; exact hlt)
   generalize l.getD k 0 = y at *
   clear hca hcb hga hgb hlt
   go_wp2_with fail
   go_quiet (fail)
   go_wp2_with fail
   exact ⟨⟨k + 1, _, rfl, by go_num, by omega, hid (HC.out.tr (chg_drewN wq _))⟩, by simp [intOf]; omega⟩
  ·clear hk
   go_wp2_with fail
   go_ret
   exact ⟨rfl, HC.out⟩

theorem lat_two (W : World) (x y : Int) : LAt (W.alloc (.cells #[.int .i64 x, .int .i64 y] 3)) (some ⟨W.heap.size, 0, none⟩) [x, y] := by
 refine .inr ⟨W.heap.size, rfl, ⟨_, heap_alloc_new _ _⟩, fun k hk => ?_⟩
 rw [cell_of_row _ _ _ _ _ _ (heap_alloc_new W _)]
 match k, hk with
 | 0, _ => rfl
 | 1, _ => rfl
theorem ints_two {w : World} {a : Option Addr} {c : Nat} {x y : Int} (h : LAt w a [x, y]) (W : World) (hc : Chg w W No) :
  Calls Tryz.prog 17 #[.slice a 2 c, .slice (some ⟨W.heap.size, 0, none⟩) 2 2] (W.alloc (.cells #[.int .i64 x, .int .i64 y] 3)) fun e w' => e = .returned (.bool true) ∧ Chg W w' No := by
 refine (ints_same [x, y] a (some ⟨W.heap.size, 0, none⟩) c 2 _ (by simp) ((h.call hc).call (Chg.alloc _ _ _)) (lat_two W x y)).mono ?_
 rintro e w' ⟨rfl, h1⟩
 exact ⟨rfl, (Chg.alloc _ _ _).tr h1⟩
section
variable {ops : Array Oper} {rest : List Oper} {o : Oper} {a : Act} {Q : Exit → Act → World → Prop} {w : World}
theorem wp_bldW (t : TypeId) (ps : Array (Nat × Operand)) (_hop : o.op = .build t ps) (hw : Region.wanted o (yielded ops a.tmps) = true) (v : Value) (hr : ∀ w', (execOp a.eval o).run Tryz.prog w' = .ok (.value v) w')
  (h : wpList Tryz.prog ops Q rest (a.put o.dst v) w) : wpList Tryz.prog ops Q (o :: rest) a w := by
 refine wpList_want hw fun K hK => ?_
 unfold Oper.wp
 rw [hr]
 exact hK _ _ h
end
def hel : List Int := [104, 101, 108] ++ List.replicate 125 0
theorem hel_len : hel.length = 128 := by kernel_rfl

/-- A look at the example. -/
structure ExR (W w' : World) (gw wc s1 s2 s3 : Nat) (a1 a2 a3 : Option Addr) : Prop where
 six : w'.rangeAt gw (6 * 128) (hel.map (Value.int .u8))
 one : w'.cell? ⟨gw, 129, none⟩ = some (.int .u8 1)
 lt : gw < w'.heap.size
 l1 : LAt w' a1 [1, 6]
 l2 : LAt w' a2 [1, 2]
 l3 : LAt w' a3 [5, 6]
 ch : Chg W w' No
theorem one_at {w : World} {g : Nat} {T : Img} (h : WtAt w g T) (hl : T.length = 16) (e : (secI T 1).getD 1 0 = 1) : w.cell? ⟨g, 129, none⟩ = some (.int .u8 1) := by
 have h1 := h.range (k := 1) (by omega)
 have hs := (h.sec 1).1
 have h2 := h1 1 (.int .u8 1) (by
  rw [List.getElem?_map]
  show Option.map (Value.int .u8) ((secI T 1)[1]?) = _
  rw [List.getD_eq_getElem?_getD] at e
  cases hq : (secI T 1)[1]? with
  | none =>
   have := List.getElem?_eq_none_iff.1 hq
   omega
  | some x =>
   rw [hq] at e
   have : x = 1 := e
   rw [this]
   rfl)
 exact h2
theorem six_at {w : World} {g : Nat} {T : Img} (h : WtAt w g T) (hl : T.length = 16) (e : secI T 6 = hel) : w.rangeAt g (6 * 128) (hel.map (Value.int .u8)) := by
 have := h.range (k := 6) (by omega)
 have e6 : secI T ((6 : Nat) : Int) = hel := e
 rw [e6] at this
 exact this
theorem look_ex (W : World) (g : Nat) (h : WtAt W g exIm) : Calls Tryz.prog 10 #[.slice (some ⟨g, 0, none⟩) 16 16] W fun e w' => ∃ gw wc a1 s1 a2 s2 a3 s3, e = .returned (.tuple #[.agg #[.slice (some ⟨gw, 0, none⟩) 16 wc, .slice a1 2 s1, .slice a2 2 s2, .slice a3 2 s3], .int .i64 0]) ∧ ExR W w' gw wc s1 s2 s3 a1 a2 a3 := by
 have hk := look_good (some ⟨g, 0, none⟩) 16 exIm 4 W (ImgAt.of_wt h) (by rw [ex_sup]) (by rw [ex_sup]; rfl)
 have hR := ex_root
 have h1 := ex_len
 have h2 : secI (lookL 4 exIm).wt 6 = hel := ex_six
 have h3 := ex_one
 have h4 := ex_write
 have h5 := ex_inodes
 have h6 := ex_blocks
 refine hk.mono ?_
 unfold LookPost
 rw [hR, h4, h5, h6]
 generalize (lookL 4 exIm).wt = T at *
 rintro e w' ⟨r, rfl, hc, _, hr⟩
 obtain ⟨gw, wc, v1, v2, v3, rfl, hgw, hwt, hrep⟩ := hr rfl
 obtain ⟨a1, s1, rfl, hl1⟩ := hrep.o1.lat
 obtain ⟨a2, s2, rfl, hl2⟩ := hrep.o2.lat
 obtain ⟨a3, s3, rfl, hl3⟩ := hrep.o3.lat
 exact ⟨gw, wc, a1, s1, a2, s2, a3, s3, by rw [h1]; rfl, six_at hwt h1 h2, one_at hwt h1 h3, hwt.lt, hl1, hl2, hl3, hc⟩

set_option maxHeartbeats 2000000 in
set_option maxRecDepth 100000 in
theorem known_any (w : World) : Calls Tryz.prog 9 #[] w fun e w' => e = .returned (.bool true) ∧ Chg w w' No := by
 have hzr := zero_rep
 have hE := example_any w
 go_enter Tryz.func9, Tryz.ntmps9
 go_upto_region 2 with (first
  | (go_at_call 20; go_must (refine hE.mono ?_; rintro e w1 ⟨g, rfl, hg1, hw1, hc1⟩; have hLk := look_ex w1 g hw1))
  | (go_at_call 10; go_must (refine hLk.mono ?_; rintro e w2 ⟨gw, wc, a1, s1, a2, s2, a3, s3, rfl, hX⟩))
  | (refine store_R rfl 26 _ _ rfl w2.heap.size #[.slice (some ⟨gw, 0, none⟩) 16 wc, .slice a1 2 s1, .slice a2 2 s2, .slice a3 2 s3] rfl rfl 26 _ (heap_alloc_new _ _) szRep rfl (rep_one _ _ _ rfl rfl rfl) ?_; intro w3 hw3)
  | fail)
 have h23 : Chg w2 w3 No := (Chg.alloc w2 _ No).trans (kt_new hw3) (fun _ _ e => e) (fun j hj e => by omega)
 have HC3 : Hid (Chg w w3 No) := hid ((hc1.tr hX.ch).tr h23)
 have HX := hid hX
 have H23 := hid h23
 have H1 := hid (fun W hW => ints_two (c := s1) (hX.l1.call h23) W hW)
 have H2 := hid (fun W hW => ints_two (c := s2) (hX.l2.call h23) W hW)
 have H3 := hid (fun W hW => ints_two (c := s3) (hX.l3.call h23) W hW)
 have HG3 := hid hw3.here
 obtain ⟨g3, hg3⟩ : ∃ y, y = w2.heap.size := ⟨_, rfl⟩
 rw [← hg3] at HG3 ⊢
 have HK : Hid (∀ (W : World) (_hW : Chg w3 W No), W.cell? ⟨g3, 0, none⟩ = some (.slice (some ⟨gw, 0, none⟩) 16 wc) ∧ W.cell? ⟨g3, 1, none⟩ = some (.slice a1 2 s1) ∧ W.cell? ⟨g3, 2, none⟩ = some (.slice a2 2 s2) ∧ W.cell? ⟨g3, 3, none⟩ = some (.slice a3 2 s3)) := hid (fun W hW => by
  have h0 := hW.keep HG3.out (fun e => e)
  exact ⟨(cell_of_row _ _ _ _ _ _ h0).trans rfl, (cell_of_row _ _ _ _ _ _ h0).trans rfl, (cell_of_row _ _ _ _ _ _ h0).trans rfl, (cell_of_row _ _ _ _ _ _ h0).trans rfl⟩)
 obtain ⟨p0, p1, _, _⟩ := HK.out w3 (Chg.refl _ _)
 clear hw3 hg3 hX h23 hLk hE hc1 hw1 hg1
 go_upto_region 3 with (first
  | (go_at_call 17; go_must (first
    | (refine (H3.out w5 (hc4.tr hc5)).mono ?_; rintro e w6 ⟨rfl, hc6⟩; obtain ⟨p0, p1, p2, p3⟩ := HK.out w6 ((hc4.tr hc5).tr hc6))
    | (refine (H2.out w4 hc4).mono ?_; rintro e w5 ⟨rfl, hc5⟩; obtain ⟨p0, p1, p2, p3⟩ := HK.out w5 (hc4.tr hc5))
    | (refine (H1.out w3 (Chg.refl _ _)).mono ?_; rintro e w4 ⟨rfl, hc4⟩; obtain ⟨p0, p1, p2, p3⟩ := HK.out w4 hc4)))
  | fail)
 have h36 := (hc4.tr hc5).tr hc6
 have h26 := H23.out.tr h36
 have HR6 : Hid (w6.rangeAt gw (6 * 128) (hel.map (Value.int .u8))) := hid (fun i x hx => cell_keep (HX.out.six i x hx) h26 HX.out.lt (fun e => e))
 have c129 : w6.cell? ⟨gw, 129, none⟩ = some (.int .u8 1) := cell_keep HX.out.one h26 HX.out.lt (fun e => e)
 have hq : ∀ W, (Op.equalIn 10000 33 (.agg (SA hel)) (.agg (SA hel))).run Tryz.prog W = .ok true W := fun W => by rw [eq_sec _ _ hel_len hel_len, decide_eq_true rfl]
 have HQ := hid hq
 have HC6 : Hid (Chg w w6 No) := hid (HC3.out.tr h36)
 have HSA : Hid ((hel.map (Value.int .u8)).toArray = SA hel) := hid (by simp [SA])
 have HSz : Hid ((Tryz.prog.info? 33).map (·.size) = some (hel.map (Value.int .u8)).length) := hid (by rw [sz26, List.length_map, hel_len])
 clear h36 h26 hc4 hc5 hc6 H1 H2 H3 HK hq
 go_wp2_with (first
  | (refine load_mid 33 _ rfl gw (6 * 128) rfl _ _ HR6.out Tryz.underlying33 rfl HSz.out (by rfl) ?_; rw [HSA.out])
  | (refine wp_bldW 33 _ rfl (by rfl) (.agg (SA hel)) (fun _ => by kernel_rfl) ?_)
  | (refine eql_R (by rfl) 33 _ _ rfl (SA hel) (SA hel) true rfl rfl HQ.out guard_sec ?_)
  | fail)
 go_ret
 exact ⟨rfl, HC6.out⟩

end Go.Proofs.YtpmignilhoihnaaGreat

namespace Go.Proofs.YtpmignilhoihnaaGreat
open Go.RowKit Go.Shelf

theorem wellB_c (ia : Option Addr) (ic n : Nat) (im : Img) (hn : n = im.length) (w : World) (h : ImgAt w ia im) (b : Bool) (hb : wellB im = b) : Calls Tryz.prog 16 #[.slice ia n ic] w fun e w' => e = .returned (.bool b) ∧ Chg w w' No := by
 rw [hn, ← hb]
 exact well_any ia ic im w h

set_option maxHeartbeats 4000000 in
set_option maxRecDepth 100000 in
theorem stands_walk (ia : Option Addr) (ic : Nat) (im : Img) (W : World) (h : ImgAt W ia im) (hn : im.length ≤ 9223372036854775807) :
  Calls Tryz.prog 6 #[.slice ia im.length ic] W fun e w' => e = .returned (.bool true) ∧ Below W.heap.size W w' := by
 have hzr := zero_rep
 have hK := known_any W
 have HI := hid h
 by_cases hw : WellI im
 ·have HLk := hid (fun W' hW => look_fine ia ic im W' hW hw)
  have HSm := hid (fun (a b : Option Addr) (ca cb : Nat) W' hA hB => secs_same im a b ca cb W' (by have := (supOf_ok hw.1).2.2.1; omega) hA hB)
  obtain ⟨n, hnn⟩ : ∃ y, y = im.length := ⟨_, rfl⟩
  have HWl := hid (fun W' hW => wellB_c ia ic n im hnn W' hW true (wellB_true hw))
  rw [← hnn] at HLk HSm hn ⊢
  clear h hnn hw
  go_enter Tryz.func6, Tryz.ntmps6
  go_upto_region 4 with (first
   | (go_at_call 9; go_must (refine hK.mono ?_; rintro e w1 ⟨rfl, hc1⟩; have hLk := HLk.out w1 (HI.out.keep hc1 (fun _ _ e => e))))
   | fail)
  have HC1 := hid hc1
  clear hc1 hK
  go_upto_region 5 with (first
   | (go_at_call 10; go_must (refine hLk.mono ?_; rintro e w2 ⟨gw, wc, s1, s2, s3, a1, a2, a3, n2, n3, rfl, hwt, hc2⟩))
   | (refine store_R rfl 26 _ _ rfl w2.heap.size #[.slice (some ⟨gw, 0, none⟩) n wc, .slice a1 0 s1, .slice a2 n2 s2, .slice a3 n3 s3] rfl rfl 26 _ (heap_alloc_new _ _) szRep rfl (rep_one _ _ _ rfl rfl rfl) ?_; intro w3 hw3)
   | fail)
  have h23 : Chg w2 w3 No := (Chg.alloc w2 _ No).trans (kt_new hw3) (fun _ _ e => e) (fun j hj e => by omega)
  have HC3 : Hid (Chg W w3 No) := hid ((HC1.out.tr hc2).tr h23)
  have HWt := hid (hwt.keep h23 (fun e => e))
  have HG3 := hid hw3.here
  obtain ⟨g4, hg4⟩ : ∃ y, y = w2.heap.size := ⟨_, rfl⟩
  rw [← hg4] at HG3 ⊢
  clear hwt h23 hw3 hg4 hc2 hLk HLk
  have hWl := HWl.out w3 (HI.out.keep HC3.out (fun _ _ e => e))
  go_upto_region 7 with (first
   | (go_at_call 16; go_must (refine hWl.mono ?_; rintro e w4 ⟨rfl, hc4⟩))
   | fail)
  have h4 := hc4.keep HG3.out (fun e => e)
  have q0 : w4.cell? ⟨g4, 0, none⟩ = some (.slice (some ⟨gw, 0, none⟩) n wc) := (cell_of_row _ _ _ _ _ _ h4).trans rfl
  have hS := HSm.out (some ⟨gw, 0, none⟩) ia wc ic w4 (ImgAt.of_wt (HWt.out.keep hc4 (fun e => e))) (HI.out.keep (HC3.out.tr hc4) (fun _ _ e => e))
  have H4 := hid h4
  have HC4 := hid (HC3.out.tr hc4)
  clear h4 hWl HWl HSm hc4 HWt HG3 HI
  go_wp2_with (first
   | (go_at_call 13; go_must (refine hS.mono ?_; rintro e w5 ⟨rfl, hc5⟩; have q1 : w5.cell? ⟨g4, 1, none⟩ = some (.slice a1 0 s1) := (cell_of_row _ _ _ _ _ _ (hc5.keep H4.out (fun e => e))).trans rfl))
   | fail)
  go_ret
  exact ⟨rfl, (HC4.out.tr hc5).below⟩
 ·have HLk := hid (fun W' hW => look_ill ia ic im W' hW hw)
  obtain ⟨n, hnn⟩ : ∃ y, y = im.length := ⟨_, rfl⟩
  have HWl := hid (fun W' hW => wellB_c ia ic n im hnn W' hW false (wellB_false hw))
  rw [← hnn] at HLk hn ⊢
  clear h hnn hw
  go_enter Tryz.func6, Tryz.ntmps6
  go_upto_region 4 with (first
   | (go_at_call 9; go_must (refine hK.mono ?_; rintro e w1 ⟨rfl, hc1⟩; have hLk := HLk.out w1 (HI.out.keep hc1 (fun _ _ e => e))))
   | fail)
  have HC1 := hid hc1
  clear hc1 hK
  go_upto_region 5 with (first
   | (go_at_call 10; go_must (refine hLk.mono ?_; rintro e w2 ⟨hc2, ⟨E, hE0, rfl⟩ | ⟨gw, wc, s1, s2, s3, a1, a2, a3, n1, n2, n3, hn1, rfl⟩⟩))
   | (refine store_R rfl 26 _ _ rfl w2.heap.size nil4 rfl rfl 26 _ (heap_alloc_new _ _) szRep rfl nil4_one ?_; intro w3 hw3)
   | (refine store_R rfl 26 _ _ rfl w2.heap.size #[.slice (some ⟨gw, 0, none⟩) n wc, .slice a1 n1 s1, .slice a2 n2 s2, .slice a3 n3 s3] rfl rfl 26 _ (heap_alloc_new _ _) szRep rfl (rep_one _ _ _ rfl rfl rfl) ?_; intro w3 hw3)
   | fail)
  ·have h03 : Chg W w3 No := ((HC1.out.tr hc2).tr (Chg.alloc w2 _ No)).trans (kt_new hw3) (fun _ _ e => e) (fun j hj e => by have := (HC1.out.tr hc2).size; omega)
   have HC3 := hid h03
   have hWl := HWl.out w3 (HI.out.keep HC3.out (fun _ _ e => e))
   clear h03 hw3 hc2 hLk HLk
   rcases hE0 with rfl | rfl
   ·go_wp2_with (first
     | (go_at_call 16; go_must (refine hWl.mono ?_; rintro e w4 ⟨rfl, hc4⟩))
     | fail)
    go_ret
    exact ⟨rfl, (HC3.out.tr hc4).below⟩
   ·go_wp2_with (first
     | (go_at_call 16; go_must (refine hWl.mono ?_; rintro e w4 ⟨rfl, hc4⟩))
     | fail)
    go_ret
    exact ⟨rfl, (HC3.out.tr hc4).below⟩
  ·have h23 : Chg w2 w3 No := (Chg.alloc w2 _ No).trans (kt_new hw3) (fun _ _ e => e) (fun j hj e => by omega)
   have HC3 : Hid (Chg W w3 No) := hid ((HC1.out.tr hc2).tr h23)
   have HG3 := hid hw3.here
   obtain ⟨g4, hg4⟩ : ∃ y, y = w2.heap.size := ⟨_, rfl⟩
   rw [← hg4] at HG3 ⊢
   have hWl := HWl.out w3 (HI.out.keep HC3.out (fun _ _ e => e))
   have n1d : decide (0 < n1) = true := decide_eq_true hn1
   clear h23 hw3 hg4 hc2 hLk HLk hn1
   go_wp2_with (first
    | (go_at_call 16; go_must (refine hWl.mono ?_; rintro e w4 ⟨rfl, hc4⟩; have q1 : w4.cell? ⟨g4, 1, none⟩ = some (.slice a1 n1 s1) := (cell_of_row _ _ _ _ _ _ (hc4.keep HG3.out (fun e => e))).trans rfl))
    | fail)
   go_ret
   exact ⟨rfl, (HC3.out.tr hc4).below⟩
end Go.Proofs.YtpmignilhoihnaaGreat
