/-
 Proved: PlainRoom returns true for every number and every list of deeds (sectors and inodes add up; a write is refused for room just where there is none), with no condition.
-/
import Derived.Test.YtmgfilacepnjlaaGreatDoorXC
import Derived.Deep.CutRange
import Derived.Deep.DeepCutAuto
import Derived.Test.YtmgfilacepnjlaaGreatDoorOpenD
import Derived.Test.YtmgfilacepnjlaaGreatDoorCards
import Derived.Test.YtmgfilacepnjlaaGreatDoorTie
import Derived.Lay
import Derived.Deep.DeepHandedRow
import Derived.SevenTiedAt
namespace Go.Proofs.YtmgfilacepnjlaaGreatDoor
open Go.RowKit

theorem giv_all (b c d e f : Bool) :
  bits .andNot .i64 (markV false (markV f (markV false (markV false (markV false (markV false (markV b 0 1) 2) 4) 8) 16) 32) 64) 33 = 0 ∧
  bits .andNot .i64 (markV false (markV false (markV false (markV false (markV false (markV c (markV b 0 1) 2) 4) 8) 16) 32) 64) 3 = 0 ∧
  bits .andNot .i64 (markV false (markV false (markV false (markV false (markV false (markV false (markV b 0 1) 2) 4) 8) 16) 32) 64) 1 = 0 ∧
  bits .andNot .i64 (markV false (markV false (markV e (markV false (markV d (markV false (markV b 0 1) 2) 4) 8) 16) 32) 64) 21 = 0 ∧
  bits .andNot .i64 (markV false (markV false (markV false (markV false (markV d (markV false (markV b 0 1) 2) 4) 8) 16) 32) 64) 5 = 0 := by
 cases b <;> cases c <;> cases d <;> cases e <;> cases f <;> exact ⟨by decide, by decide, by decide, by decide, by decide⟩
theorem okOf {o : OpS} (h : OpIs o.kind o.made o.off o.path o.tto o.data.length) (hl : o.len = 0) (hp : o.pick = 0) : okOp o := by
 have z0 : (!decide ((0 : Int) = 0)) = false := rfl
 have z1 : decide (0 < 0) = false := rfl
 have z2 : (!(⟨#[]⟩ : ByteArray).toList.isEmpty) = false := by
  have h0 : ByteArray.empty.toList.isEmpty = true := by kernel_rfl
  have e : (⟨#[]⟩ : ByteArray) = ByteArray.empty := rfl
  rw [e, h0]
  rfl
 obtain ⟨_, hc⟩ := h
 unfold okOp
 rcases hc with ⟨hk, ht, ho, hd, hm⟩ | ⟨hk, _, ho, hd, hm⟩ | ⟨hk, ht, ho, hd, hm⟩ | ⟨hk, ht, ho, hd, hm⟩ | ⟨hk, ht, ho, hd, hm⟩
 ·refine ⟨by omega, ?_, by omega⟩
  rw [ht, ho, hl, hd, hp]
  unfold givF
  rw [z0, z1, z2]
  rcases hk with hk | hk <;> rw [hk] <;> exact (giv_all _ false false false _).1
 ·refine ⟨by omega, ?_, by omega⟩
  rw [ho, hl, hd, hp, hm]
  unfold givF
  rw [z0, z1]
  rcases hk with hk | hk <;> rw [hk] <;> exact (giv_all _ _ false false false).2.1
 ·refine ⟨by omega, ?_, by omega⟩
  rw [ht, ho, hl, hd, hp, hm]
  unfold givF
  rw [z0, z1, z2]
  rcases hk with hk | hk <;> rw [hk] <;> exact (giv_all _ false false false false).2.2.1
 ·refine ⟨by omega, ?_, by omega⟩
  rw [ht, hl, hp, hm]
  unfold givF
  rw [z0, z2, hk]
  exact (giv_all _ false _ _ false).2.2.2.1
 ·refine ⟨by omega, ?_, by omega⟩
  rw [ht, hl, hd, hp, hm]
  unfold givF
  rw [z0, z1, z2, hk]
  exact (giv_all _ false _ false false).2.2.2.2
theorem text_all : textL.all (fun p => decide ((splitR p.data.toList).2 = 0) && decide ((lastN (namesOf p)).data.toList ∈ lets.map (·.data.toList))) = true := by decide +kernel
theorem text_facts {p : ByteArray} (h : p ∈ textL) : (splitR p.data.toList).2 = 0 ∧ lastN (namesOf p) ∈ lets := by
 have h := List.all_eq_true.1 text_all p h
 rw [Bool.and_eq_true, decide_eq_true_iff, decide_eq_true_iff] at h
 refine ⟨h.1, ?_⟩
 obtain ⟨t, ht, e⟩ := List.mem_map.1 h.2
 rw [← ba_ext e]
 exact ht
theorem DeedO.all {x : Dd} {A : Array Value} {o : OpS} (h : DeedO x A o) {s : PSt} (ha : AllL s) : AllL (doS s o).1 := by
 refine doS_all ha (fun _ _ => (text_facts h.is_.1).2) (fun _ hk => ?_)
 rcases h.is_.2 with c | c | c | c | c
 ·omega
 ·exact (text_facts c.2.1).2
 ·omega
 ·omega
 ·omega
theorem DeedO.ok {x : Dd} {A : Array Value} {o : OpS} (h : DeedO x A o) : okOp o := okOf h.is_ h.len h.pick
end Go.Proofs.YtmgfilacepnjlaaGreatDoor

namespace Go.Proofs.YtmgfilacepnjlaaGreatDoor
open Go.RowKit

theorem build_q (k : Int) (t : ByteArray) (W : World) : (Instr.build 34 #[(0, .int .i64 k), (1, .string t)]).run Tryz.prog W = .ok (.agg #[.int .i64 k, .string t, .string ⟨#[]⟩, .int .i64 0, .int .i64 0, .slice none 0 0, .int .i64 0, .int .i64 0]) W := by kernel_rfl
theorem all_new (n m : Int) : AllL (newS n m) := fun i x hx => by
 have hx : (if i = 1 then some (newNd 2 0) else none) = some x := hx
 by_cases e : i = 1
 ·rw [if_pos e] at hx; cases hx; exact PL.new 2 0
 ·rw [if_neg e] at hx; cases hx
def Rm (w wr : World) (p : Nat) (D I : Int) : Prop := ∃ s, NowS w wr p s ∧ AllL s ∧ s.data = D ∧ s.ino = I
theorem room_says {s : PSt} {x : Dd} {A : Array Value} {o : OpS} (h : Inv2 s) (hO : DeedO x A o) {j : Int} {y : Nd} (hk : o.kind = 7) (ha : askS s 10 o.path 0 = .stat j y) (hy : y.kind = 1) (hd : 0 < o.data.length) :
  (Int.tdiv (o.off + o.data.length - 1) 128 - Int.tdiv o.off 128 + 1 + 4 ≤ s.data - (takenN s : Nat) → codeA (doS s o).2 = 0) ∧ (s.data - (takenN s : Nat) < Int.tdiv (o.off + o.data.length - 1) 128 - Int.tdiv (max (o.off - 1) (y.size - 1)) 128 → codeA (doS s o).2 = 80) := by
 have hb : 0 ≤ o.off ∧ o.off ≤ 20299 ∧ o.data.length ≤ 3000 := by
  rcases hO.is_.2 with c | c | c | c | c <;> omega
 rw [doS_write hk hO.ok ha hy, Int.tdiv_eq_ediv_of_nonneg (by omega), Int.tdiv_eq_ediv_of_nonneg (by omega)]
 exact write_codes h (stat_is ha).2.2 hy hb.1 hb.2.1 hd hb.2.2
theorem stat_size {s : PSt} (h : Inv2 s) {p : ByteArray} {j : Int} {y : Nd} (ha : askS s 10 p 0 = .stat j y) : 0 ≤ y.size ∧ y.size ≤ 136704 := (h.inv.nd j y (stat_is ha).2.2).size
set_option maxHeartbeats 8000000 in
set_option maxRecDepth 100000 in
theorem room_walk (n : Int) (L : List Dd) (a : Option Addr) (ca : Nat) (w : World) (hu : UB w) (hm : ML w) (hn : I64 n) (hL : DdAt w a L) (hLo : ∀ x ∈ L, x.Ok) (hl : L.length ≤ 1000000000000000) :
  Calls Tryz.prog 4 #[.int .i64 n, .slice a L.length ca] w fun e w' => e = .returned (.bool true) ∧ Chg w w' No := by
 have hS := small2_any n w hn
 have HKn : Hid (∀ W, Chg w W No → Calls Tryz.prog 7 #[] W fun e w' => e = .returned (.bool true) ∧ Chg W w' No) := hid (fun W hW => known_any W (hu.keep hW (fun e => e)) (hm.call hW))
 have HU := hid hu
 have HM := hid hm
 have HL := hid hL
 have HLo := hid hLo
 obtain ⟨nl, hnl⟩ : ∃ y, y = L.length := ⟨_, rfl⟩
 rw [← hnl] at hl ⊢
 have HNl := hid hnl
 have i1 : (nl : Int) ≤ 1000000000000000 := by omega
 have hsm := sm_ok n
 have hI11 : smI n ≤ 11 := by
  have := pickN_bd n (n := 9) (by omega)
  unfold smI
  omega
 obtain ⟨S0, hS0⟩ : ∃ y, y = newS (smS n) (smI n) := ⟨_, rfl⟩
 rw [← hS0] at hS
 obtain ⟨I, hI⟩ : ∃ y, y = smI n := ⟨_, rfl⟩
 obtain ⟨D, hD⟩ : ∃ y, y = smS n - 1 - smI n := ⟨_, rfl⟩
 have HN0 : Hid (AllL S0 ∧ S0.data = D ∧ S0.ino = I) := hid (by rw [hS0]; exact ⟨all_new _ _, hD.symm, hI.symm⟩)
 rw [← hD, ← hI] at hS
 have HI11 : Hid (I ≤ 11) := hid (by rw [hI]; exact hI11)
 clear hu hm hn hL hLo hnl hl hsm hI11 hI hD hS0
 go_enter Tryz.func4, Tryz.ntmps4
 go_upto_region 2 with (go_at_call 6; go_must (refine hS.mono ?_; rintro e w1 ⟨p, rfl, hN1⟩; have HN1 := hid hN1; clear hN1))
 clear hS
 have hK := HKn.out w1 HN1.out.chg
 go_upto_region 5 with (first
  | (go_at_call 7; go_must (refine hK.mono ?_; rintro e w2 ⟨rfl, hc2⟩; have HC2 := hid hc2; clear hc2))
  | fail)
 have H0 : Hid (Rm w w2 p D I) := hid ⟨_, HN1.out.call HC2.out, HN0.out⟩
 clear hK HN1 HN0 HC2 HKn
 go_loopw [8] (fun x8 wr => ∃ i : Nat, x8 = .int .i64 (i : Int) ∧ i ≤ nl ∧ Hid (Rm w wr p D I)) (fun x8 _ => nl - (intOf x8).toNat)
 case atStart => exact ⟨0, rfl, Nat.zero_le _, H0⟩
 case round =>
  obtain ⟨i, rfl, hi, HN⟩ := hrel
  clear H0
  by_cases hlt : i < nl
  ·have j0 : (0 : Int) ≤ (i : Int) := by omega
   have j1 : (i : Int) < (nl : Int) := by omega
   have hiL : i < L.length := by rw [← HNl.out]; exact hlt
   obtain ⟨bb, oo, hab, hld⟩ := DdAt.load HL.out hiL
   subst hab
   obtain ⟨s, e1, e2, e3, e4⟩ := HN.out
   have hr := hld wr e1.chg
   have hmem : L.getD i Dd.z ∈ L := by rw [List.getD_eq_getElem?_getD, List.getElem?_eq_getElem hiL]; exact List.getElem_mem hiL
   have hxo := HLo.out _ hmem
   have hby := HL.out.data i hiL
   obtain ⟨y, hy⟩ : ∃ y, y = L.getD i Dd.z := ⟨_, rfl⟩
   rw [← hy] at hr hxo hby
   have hOp : Calls Tryz.prog 8 #[.agg y.A] wr fun e w' => ∃ A, e = .returned (.agg A) ∧ OpOf y.da y.data.length y.dc A ∧ Chg wr w' No := op_any y.kd y.a y.b y.off y.n y.da y.data.length y.dc wr hxo.i1 hxo.i2 hxo.i3 hxo.i4 hxo.i5 hxo.len hxo.cap hxo.nil
   have HY := hid (And.intro hxo hby)
   have HE := hid e1
   have HAl := hid e2
   have HDa := hid e3
   have HIn := hid e4
   obtain ⟨YA, hYA⟩ : ∃ z, z = y.A := ⟨_, rfl⟩
   rw [← hYA] at hr hOp
   clear hld e1 e2 e3 e4 hmem hxo hby hy hiL hYA HN
   go_upto_region 8 with (first
    | (refine load_of rfl 36 _ rfl ⟨bb, oo + i * 6, none⟩ rfl _ hr ?_)
    | (go_at_call 8; go_must (refine hOp.mono ?_; rintro e w3 ⟨A, rfl, hA, hc3⟩; obtain ⟨o, hO⟩ := deed_op HY.out.1 hA; have HO := hid hO; obtain ⟨da, dc, hAe, _⟩ := hO.ex; have HAe := hid hAe; have HN3 := hid (HE.out.call hc3); clear hA hc3 hO hAe))
    | (refine store_R rfl 34 _ _ rfl w3.heap.size A rfl rfl 34 _ (heap_alloc_new _ _) (by rw [szOp, HAe.out]; rfl) (by rw [HAe.out]; rfl) (by rw [HAe.out]; simp [opA, Value.oneCell']) ?_; intro w4 hs4; have HS4 := hid hs4; clear hs4)
    | fail)
   obtain ⟨g9, hg9⟩ : ∃ y, y = w3.heap.size := ⟨_, rfl⟩
   have HC34 : Hid (Chg w3 w4 No) := hid ((Chg.alloc w3 _ No).trans (kt_new HS4.out) (fun _ _ e => e) (fun j hj e => by omega))
   rw [← hg9] at HS4 ⊢
   clear hg9
   have HN4 := hid (HN3.out.call HC34.out)
   have HQ9 : Hid (w4.heap[g9]? = some (Obj.cells A 34 (0, 0))) := hid HS4.out.here
   clear hr hOp HC34 HS4 HN3 HE
   have hRm := HN4.out.room
   rw [HDa.out, HIn.out] at hRm
   obtain ⟨fr, hfr⟩ : ∃ y, y = D - ((takenN s : Nat) : Int) := ⟨_, rfl⟩
   rw [← hfr] at hRm
   have HFr := hid hfr
   have HFb : Hid (0 ≤ fr ∧ fr ≤ 4096) := hid (by
    have h1 := HN4.out.i2.tak
    have h2 := HN4.out.i2.inv.num
    have h3 := HDa.out
    omega)
   clear hfr
   go_upto_region 9 with (first
    | (go_at_call 13; go_must (refine hRm.mono ?_; rintro e w5 ⟨rfl, hc5⟩; have HN5 := hid (HN4.out.call hc5); have HQ95 : Hid (w5.heap[g9]? = some (Obj.cells A 34 (0, 0))) := hid (hc5.keep HQ9.out (fun e => e)); clear hc5))
    | (refine wp_fieldV (by first | rfl | go_simp) 50 0 _ rfl _ _ rfl (fun W => (room_f _ _ _ W).1) ?_)
    | fail)
   clear hRm HN4 HQ9
   have b1 := build_q 10 o.path
   have q1 : w5.cell? ⟨g9, 1, none⟩ = some (.string o.path) := (cell_of_row _ _ _ _ _ _ HQ95.out).trans (by rw [HAe.out]; rfl)
   have hD1 := HN5.out.ask 10 0 o.path (.inl ⟨rfl, rfl⟩) HU.out HM.out
   go_upto_region 10 with (first
    | (go_at_call 9; go_must (refine hD1.mono ?_; rintro e w6 ⟨A1, rfl, hA1, hc6⟩; have HA1 := hid hA1; have HO1 := hid hA1.one; have HN6 := hid (HN5.out.call hc6); have HQ96 : Hid (w6.heap[g9]? = some (Obj.cells A 34 (0, 0))) := hid (hc6.keep HQ95.out (fun e => e)); clear hA1 hc6))
    | (refine store_R rfl 43 _ _ rfl w6.heap.size A1 rfl rfl 43 _ (heap_alloc_new _ _) (by rw [szAn, HO1.out.1]) (by rw [HO1.out.1]; rfl) HO1.out.2 ?_; intro w7 hs7; have HS7 := hid hs7; clear hs7)
    | fail)
   obtain ⟨g11, hg11⟩ : ∃ y, y = w6.heap.size := ⟨_, rfl⟩
   have HC67 : Hid (Chg w6 w7 No) := hid ((Chg.alloc w6 _ No).trans (kt_new HS7.out) (fun _ _ e => e) (fun j hj e => by omega))
   rw [← hg11] at HS7 ⊢
   clear hg11 b1 q1 hD1
   have HN7 := hid (HN6.out.call HC67.out)
   have HQ97 : Hid (w7.heap[g9]? = some (Obj.cells A 34 (0, 0))) := hid (HC67.out.keep HQ96.out (fun e => e))
   have HQ11 : Hid (w7.heap[g11]? = some (Obj.cells A1 43 (0, 0))) := hid HS7.out.here
   clear HS7 HC67 HN6 HQ96 HN5 HQ95
   have hlA : (loadVar 34 ⟨g9, 0, none⟩).run Tryz.prog w7 = .ok (.agg A) w7 := by
    have h := run_loadVar_mid (P := Tryz.prog) w7 g9 0 34 A.toList _ (fun j v hv => by rw [cell_of_row _ _ _ _ _ _ HQ97.out, Nat.zero_add]; simpa using hv) Tryz.underlying34 rfl (by rw [Array.length_toList, HAe.out]; exact szOp)
    simpa using h
   have hDo := HN7.out.doO HO.out HY.out.1 HY.out.2 HU.out HM.out
   go_upto_region 11 with (first
    | (refine load_of rfl 34 _ rfl ⟨g9, 0, none⟩ rfl _ hlA ?_)
    | (go_at_call 9; go_must (refine hDo.mono ?_; rintro e w8 ⟨A2, rfl, hA2, hN8, hk8⟩; have HA2 := hid hA2; have HO2 := hid hA2.one; have HN8 := hid hN8; have HQ98 : Hid (w8.heap[g9]? = some (Obj.cells A 34 (0, 0))) := hid (hk8.op _ _ HQ97.out); have HQ118 : Hid (w8.heap[g11]? = some (Obj.cells A1 43 (0, 0))) := hid (hk8.ans _ _ HQ11.out); clear hA2 hN8 hk8))
    | (refine store_R rfl 43 _ _ rfl w8.heap.size A2 rfl rfl 43 _ (heap_alloc_new _ _) (by rw [szAn, HO2.out.1]) (by rw [HO2.out.1]; rfl) HO2.out.2 ?_; intro w9 hs9; have HS9 := hid hs9; clear hs9)
    | fail)
   obtain ⟨g12, hg12⟩ : ∃ y, y = w8.heap.size := ⟨_, rfl⟩
   have HC89 : Hid (Chg w8 w9 No) := hid ((Chg.alloc w8 _ No).trans (kt_new HS9.out) (fun _ _ e => e) (fun j hj e => by omega))
   rw [← hg12] at HS9 ⊢
   clear hg12 hlA hDo
   have HN9 := hid (HN8.out.call HC89.out)
   have HQ9 : Hid (∀ W, Chg w9 W No → ∀ (k : Nat) v, A[k]? = some v → W.cell? ⟨g9, k, none⟩ = some v) := hid (fun W hW k v hv => by rw [cell_of_row _ _ _ _ _ _ (hW.keep (HC89.out.keep HQ98.out (fun e => e)) (fun e => e))]; exact hv)
   have HQ11' : Hid (∀ W, Chg w9 W No → ∀ (k : Nat) v, A1[k]? = some v → W.cell? ⟨g11, k, none⟩ = some v) := hid (fun W hW k v hv => by rw [cell_of_row _ _ _ _ _ _ (hW.keep (HC89.out.keep HQ118.out (fun e => e)) (fun e => e))]; exact hv)
   have HQ12 : Hid (∀ W, Chg w9 W No → W.cell? ⟨g12, 0, none⟩ = some (.int .i64 (codeA (doS s o).2))) := hid (fun W hW => by rw [cell_of_row _ _ _ _ _ _ (hW.keep HS9.out.here (fun e => e))]; exact HA2.out.code.1)
   have HK0 : Hid (∀ W, Chg w9 W No → W.cell? ⟨g9, 0, none⟩ = some (.int .i64 o.kind)) := hid (fun W hW => HQ9.out W hW 0 _ (by rw [HAe.out]; rfl))
   have HK3 : Hid (∀ W, Chg w9 W No → W.cell? ⟨g9, 3, none⟩ = some (.int .i64 o.off)) := hid (fun W hW => HQ9.out W hW 3 _ (by rw [HAe.out]; rfl))
   have HK5 : Hid (∀ W, Chg w9 W No → W.cell? ⟨g9, 5, none⟩ = some (.slice da o.data.length dc)) := hid (fun W hW => HQ9.out W hW 5 _ (by rw [HAe.out]; rfl))
   have HJ0 : Hid (∀ W, Chg w9 W No → W.cell? ⟨g11, 0, none⟩ = some (.int .i64 (codeA (askS s 10 o.path 0)))) := hid (fun W hW => HQ11'.out W hW 0 _ HA1.out.code.1)
   have HJ2 : Hid (∀ W, Chg w9 W No → W.cell? ⟨g11, 2, none⟩ = some (.int .i64 (stA (askS s 10 o.path 0) 1))) := hid (fun W hW => HQ11'.out W hW 2 _ (HA1.out.st 1 (by omega)))
   have HJ4 : Hid (∀ W, Chg w9 W No → W.cell? ⟨g11, 4, none⟩ = some (.int .i64 (stA (askS s 10 o.path 0) 3))) := hid (fun W hW => HQ11'.out W hW 4 _ (HA1.out.st 3 (by omega)))
   have HSay : Hid (o.kind = 7 → codeA (askS s 10 o.path 0) = 0 → stA (askS s 10 o.path 0) 1 = 1 → 0 < o.data.length → ((0 ≤ o.off ∧ o.off ≤ 20299) ∧ o.data.length ≤ 3000 ∧ 0 ≤ stA (askS s 10 o.path 0) 3 ∧ stA (askS s 10 o.path 0) 3 ≤ 136704) ∧ (Int.tdiv (o.off + o.data.length - 1) 128 - Int.tdiv o.off 128 + 1 + 4 ≤ fr → codeA (doS s o).2 = 0) ∧ (fr < Int.tdiv (o.off + o.data.length - 1) 128 - Int.tdiv (max (o.off - 1) (stA (askS s 10 o.path 0) 3 - 1)) 128 → codeA (doS s o).2 = 80)) := hid (fun k1 k2 k3 k4 => by
    have hb : 0 ≤ o.off ∧ o.off ≤ 20299 ∧ o.data.length ≤ 3000 := by
     rcases HO.out.is_.2 with c | c | c | c | c <;> omega
    rcases ask_10 s o.path with ⟨j, y, e⟩ | ⟨e0, ⟨_, e⟩ | e⟩
    ·rw [e] at k3 ⊢
     have k3 : y.kind = 1 := k3
     have e3 : stA (.stat j y) 3 = y.size := by
      show lenN y = y.size
      unfold lenN
      rw [if_neg (by omega)]
     have hs := stat_size HN7.out.i2 e
     rw [e3]
     refine ⟨⟨⟨hb.1, hb.2.1⟩, hb.2.2, hs⟩, ?_⟩
     have := room_says HN7.out.i2 HO.out k1 e k3 k4
     rw [HDa.out, ← HFr.out] at this
     exact this
    ·rw [e] at k3; cases k3
    ·rw [e] at k3; cases k3)
   have HQt : Hid (codeA (doS s o).2 ≠ 0 → (doS s o).1 = s) := hid (fun e => doS_quiet (.inl e))
   have H81 : Hid (codeA (doS s o).2 = 81 → (nodesN s : Int) = s.ino) := hid doS_81
   have HNext : Hid (AllL (doS s o).1 ∧ (doS s o).1.data = D ∧ (doS s o).1.ino = I) := hid ⟨HO.out.all HAl.out, (doS_num s o).1.trans HDa.out, (doS_num s o).2.trans HIn.out⟩
   obtain ⟨cd, hcd⟩ : ∃ y, y = codeA (doS s o).2 := ⟨_, rfl⟩
   obtain ⟨S', hS'⟩ : ∃ y, y = (doS s o).1 := ⟨_, rfl⟩
   obtain ⟨ct, hct⟩ : ∃ y, y = codeA (askS s 10 o.path 0) := ⟨_, rfl⟩
   obtain ⟨sk, hsk⟩ : ∃ y, y = stA (askS s 10 o.path 0) 1 := ⟨_, rfl⟩
   obtain ⟨sz, hsz⟩ : ∃ y, y = stA (askS s 10 o.path 0) 3 := ⟨_, rfl⟩
   obtain ⟨kk, hkk⟩ : ∃ y, y = o.kind := ⟨_, rfl⟩
   obtain ⟨off, hoff⟩ : ∃ y, y = o.off := ⟨_, rfl⟩
   obtain ⟨dl, hdl⟩ : ∃ y, y = o.data.length := ⟨_, rfl⟩
   rw [← hcd] at HQ12 HSay HQt H81
   rw [← hS'] at HN9 HQt HNext
   rw [← hct] at HJ0 HSay
   rw [← hsk] at HJ2 HSay
   rw [← hsz] at HJ4 HSay
   rw [← hkk] at HK0 HSay
   rw [← hoff] at HK3 HSay
   rw [← hdl] at HK5 HSay
   clear hcd hS' hct hsk hsz hkk hoff hdl HQ9 HQ11' HC89 HS9 HA1 HA2 HO1 HO2 HQ98 HQ118 HN8 HAe HQ97 HQ11 HO HY
   simp only [Act.put]
   go_cut [72] (fun x wz => ∃ b : Bool, x = .bool b ∧ Hid (Chg w9 wz No ∧ (b = true → kk = 7 ∧ ct = 0 ∧ sk = 1 ∧ 0 < dl)))
   case first =>
    have q0 := HK0.out w9 (Chg.refl _ _)
    have q1 := HJ0.out w9 (Chg.refl _ _)
    have q2 := HJ2.out w9 (Chg.refl _ _)
    have q5 := HK5.out w9 (Chg.refl _ _)
    by_cases h1 : kk = 7
    ·subst h1
     by_cases h2 : ct = 0
     ·subst h2
      by_cases h3 : sk = 1
      ·subst h3
       go_wp2_with fail
       go_meet
       exact ⟨decide (0 < dl), rfl, hid ⟨Chg.refl _ _, fun e => by simpa using e⟩⟩
      ·have z1 : (sk == 1) = false := beq_eq_false_iff_ne.2 h3
       have z2 : decide (sk = 1) = false := decide_eq_false h3
       clear h3
       go_wp2_with fail
       go_meet
       exact ⟨false, rfl, hid ⟨Chg.refl _ _, fun e => by cases e⟩⟩
     ·have z1 : (ct == 0) = false := beq_eq_false_iff_ne.2 h2
      have z2 : decide (ct = 0) = false := decide_eq_false h2
      clear h2
      go_wp2_with fail
      go_meet
      exact ⟨false, rfl, hid ⟨Chg.refl _ _, fun e => by cases e⟩⟩
    ·have z1 : (kk == 7) = false := beq_eq_false_iff_ne.2 h1
     have z2 : decide (kk = 7) = false := decide_eq_false h1
     clear h1
     go_wp2_with fail
     go_meet
     exact ⟨false, rfl, hid ⟨Chg.refl _ _, fun e => by cases e⟩⟩
   case rest =>
    obtain ⟨b, rfl, hcut⟩ := hcut
    obtain ⟨wq, hwq⟩ : ∃ y, y = wc := ⟨_, rfl⟩
    subst hwq
    have HCq := hid hcut.out.1
    have HBq := hid hcut.out.2
    clear hcut
    go_upto_if 72 with fail
    go_cut [72] (fun _ wz => Hid (Chg w9 wz No))
    case first =>
     cases b with
     | false =>
      go_wp2_with fail
      go_meet
      exact HCq
     | true =>
      obtain ⟨b1, b2, b3, b4⟩ := HBq.out rfl
      obtain ⟨⟨⟨o0, o1⟩, l1, z0, z1⟩, hA, hB⟩ := HSay.out b1 b2 b3 b4
      have q3 := HK3.out wq HCq.out
      have q5 := HK5.out wq HCq.out
      have q4 := HJ4.out wq HCq.out
      have q12 := HQ12.out wq HCq.out
      have e1 : Int.tdiv (off + (dl : Int) - 1) 128 = (off + (dl : Int) - 1) / 128 := Int.tdiv_eq_ediv_of_nonneg (by omega)
      have e2 : Int.tdiv off 128 = off / 128 := Int.tdiv_eq_ediv_of_nonneg o0
      obtain ⟨M, hM⟩ : ∃ M, M = max (off - 1) (sz - 1) := ⟨_, rfl⟩
      have hMb : -1 ≤ M ∧ M ≤ 200000 := by omega
      have e3 : -1 ≤ Int.tdiv M 128 ∧ Int.tdiv M 128 ≤ 200000 := by
       by_cases c : M = -1
       ·rw [c]; exact ⟨by decide, by decide⟩
       ·rw [Int.tdiv_eq_ediv_of_nonneg (by omega)]; omega
      have HA := hid hA
      have HB := hid hB
      rw [← hM] at HB
      have HM1 := hid hM
      obtain ⟨T1, hT1⟩ : ∃ y, y = Int.tdiv (off + (dl : Int) - 1) 128 := ⟨_, rfl⟩
      obtain ⟨T2, hT2⟩ : ∃ y, y = Int.tdiv off 128 := ⟨_, rfl⟩
      obtain ⟨T3, hT3⟩ : ∃ y, y = Int.tdiv M 128 := ⟨_, rfl⟩
      rw [← hT1, ← hT2] at HA
      rw [← hT1, ← hT3] at HB
      rw [← hT3] at e3
      have t1 : 0 ≤ T1 ∧ T1 ≤ 200000 := by rw [hT1, e1]; omega
      have t2 : 0 ≤ T2 ∧ T2 ≤ 200000 := by rw [hT2, e2]; omega
      have r1 : (off + (dl : Int) - 1).tdiv 128 = T1 := hT1.symm
      have r2 : off / 128 = T2 := by rw [← e2]; exact hT2.symm
      have r3 : (max (off - 1) (sz - 1)).tdiv 128 = T3 := by rw [← hM]; exact hT3.symm
      obtain ⟨t10, t11⟩ := t1
      obtain ⟨t20, t21⟩ := t2
      obtain ⟨t30, t31⟩ := e3
      clear b1 b2 b3 b4 hA hB e1 e2 hM hMb hT1 hT2 hT3 HBq HM1
      by_cases c1 : T1 - T2 + 1 + 4 ≤ fr
      ·have hz := HA.out c1
       have c2 : T1 - T3 ≤ fr := by
        rcases Int.lt_or_le fr (T1 - T3) with c | c
        ·have := HB.out c; omega
        ·exact c
       subst hz
       clear HA HB
       go_wp2_with fail
       go_meet
       exact HCq
      ·by_cases c2 : T1 - T3 ≤ fr
       ·clear HA HB
        go_wp2_with fail
        go_meet
        exact HCq
       ·have hz := HB.out (by omega)
        subst hz
        clear HA HB
        go_wp2_with fail
        go_meet
        exact HCq
    case rest =>
     have HCw := hid hcut.out
     have HNw := hid (HN9.out.call HCw.out)
     have HEnd : Hid (∀ W, Chg wc W No → Rm w W p D I) := hid (fun W hW => ⟨S', HNw.out.call hW, HNext.out⟩)
     clear hcut HSay HBq HCq
     have q12 := HQ12.out wc HCw.out
     by_cases hc0 : cd = 0
     ·subst hc0
      clear HQt H81 HNw HN9
      go_wp2_with fail
      go_roundw
      case rel => exact ⟨i + 1, by go_num, by omega, hid (HEnd.out wc (Chg.refl _ _))⟩
      case measure => simp [intOf]; omega
     ·have hSs := HQt.out hc0
      have hRm := HNw.out.room
      rw [hSs, HDa.out, ← HFr.out] at hRm
      have z1 : (cd == 0) = false := beq_eq_false_iff_ne.2 hc0
      have z2 : decide (cd = 0) = false := decide_eq_false hc0
      have z3 : (cd != 0) = true := bne_iff_ne.2 hc0
      by_cases h8 : cd = 81
      ·have hn8 := H81.out h8
       have e0 : s.ino - ((nodesN s : Nat) : Int) = 0 := by omega
       rw [e0] at hRm
       subst h8
       have HRm : Hid (∀ W, Chg wc W No → Calls Tryz.prog 13 #[.pointer (some ⟨p, 0, none⟩)] W fun e w' => e = .returned (.agg #[.int .i64 fr, .int .i64 0, .int .i64 0]) ∧ Chg W w' No) := hid (fun W hW => by
        have h := (HNw.out.call hW).room
        rw [hSs, HDa.out, ← HFr.out, e0] at h
        exact h)
       clear HQt H81 HNw HN9 hn8 e0 hSs z1 z2 z3 hc0
       go_wp2_with (first
        | (go_at_call 13; go_must (first | (refine hRm.mono ?_; rintro e wx ⟨rfl, hcx⟩; have q12 := HQ12.out wx (HCw.out.tr hcx); have hRn := HRm.out wx hcx; have HCx := hid hcx; clear hRm hcx) | (refine hRn.mono ?_; rintro e wy ⟨rfl, hcy⟩; have HCy := hid (HCx.out.tr hcy); clear hRn hcy)))
        | (refine wp_fieldV (by first | rfl | go_simp) 50 2 _ rfl _ _ rfl (fun W => (room_f _ _ _ W).2.1) ?_)
        | (refine wp_fieldV (by first | rfl | go_simp) 50 0 _ rfl _ _ rfl (fun W => (room_f _ _ _ W).1) ?_)
        | fail)
       go_roundw
       case rel => exact ⟨i + 1, by go_num, by omega, hid (HEnd.out wy HCy.out)⟩
       case measure => simp [intOf]; omega
      ·have y1 : (cd == 81) = false := beq_eq_false_iff_ne.2 h8
       have y2 : decide (cd = 81) = false := decide_eq_false h8
       clear HQt H81 HNw HN9 hSs h8 hc0
       go_wp2_with (first
        | (go_at_call 13; go_must (refine hRm.mono ?_; rintro e wx ⟨rfl, hcx⟩; have HCx := hid hcx; clear hRm hcx))
        | (refine wp_fieldV (by first | rfl | go_simp) 50 0 _ rfl _ _ rfl (fun W => (room_f _ _ _ W).1) ?_)
        | fail)
       go_roundw
       case rel => exact ⟨i + 1, by go_num, by omega, hid (HEnd.out wx HCx.out)⟩
       case measure => simp [intOf]; omega
  ·have j1 : ¬ (i : Int) < (nl : Int) := by omega
   obtain ⟨s, e1, e2, e3, e4⟩ := HN.out
   have hSm := sums_any w wr e1 e2 (by rw [e4]; exact HI11.out) HU.out HM.out
   have HE := hid e1
   have HDa := hid e3
   have HIn := hid e4
   obtain ⟨tk, htk⟩ : ∃ y, y = ((takenN s : Nat) : Int) := ⟨_, rfl⟩
   obtain ⟨nn, hnn⟩ : ∃ y, y = ((nodesN s : Nat) : Int) := ⟨_, rfl⟩
   rw [← htk, ← hnn] at hSm
   have HTk := hid htk
   have HNn := hid hnn
   clear e1 e2 e3 e4 HN htk hnn
   go_upto_region 19 with (first
    | (go_at_call 14; go_must (refine hSm.mono ?_; rintro e w3 ⟨rfl, hc3⟩; have HN3 := hid (HE.out.call hc3); clear hc3))
    | fail)
   clear hSm HE
   have hRm := HN3.out.room
   rw [← HTk.out, ← HNn.out, HDa.out, HIn.out] at hRm
   have hnum := HN3.out.i2.inv.num
   have htak := HN3.out.i2.tak
   have hfew := Inv.few HN3.out.i2.inv
   rw [← HTk.out, HDa.out] at htak
   rw [← HNn.out, HIn.out] at hfew
   rw [HDa.out, HIn.out] at hnum
   have tk0 : 0 ≤ tk := by rw [HTk.out]; omega
   have nn0 : 0 ≤ nn := by rw [HNn.out]; omega
   obtain ⟨⟨d0, d1⟩, i0, i2⟩ := hnum
   obtain ⟨r1, hr1⟩ : ∃ y, y = D - tk := ⟨_, rfl⟩
   obtain ⟨r3, hr3⟩ : ∃ y, y = I - nn := ⟨_, rfl⟩
   rw [← hr1, ← hr3] at hRm
   have p1 : 0 ≤ r1 := by omega
   have p2 : r1 + tk = D := by omega
   have p3 : r3 + nn = I := by omega
   have v1 : IntKind.i64.wrap (r1 + tk) = D := by rw [p2, IntKind.wrap_i64]; omega
   have v3 : IntKind.i64.wrap (r3 + nn) = I := by rw [p3, IntKind.wrap_i64]; omega
   have HB := hid (And.intro v1 v3)
   clear htak hfew hr1 hr3
   go_upto_region 20 with (first
    | (go_at_call 13; go_must (refine hRm.mono ?_; rintro e w4 ⟨rfl, hc4⟩; have HC4 := hid hc4; clear hc4))
    | (refine store_R rfl 50 _ _ rfl w4.heap.size #[.int .i64 r1, .int .i64 0, .int .i64 r3] rfl rfl 50 _ (heap_alloc_new _ _) (by rw [szRm]; rfl) rfl (by simp [Value.oneCell']) ?_; intro w5 hs5; have HS5 := hid hs5; clear hs5)
    | fail)
   obtain ⟨gr, hgr⟩ : ∃ y, y = w4.heap.size := ⟨_, rfl⟩
   have HC5 : Hid (Chg w w5 No) := hid ((HN3.out.chg.tr HC4.out).tr ((Chg.alloc w4 _ No).trans (kt_new HS5.out) (fun _ _ e => e) (fun j hj e => by omega)))
   rw [← hgr] at HS5 ⊢
   clear hgr hRm
   have q0 : w5.cell? ⟨gr, 0, none⟩ = some (.int .i64 r1) := (cell_of_row _ _ _ _ _ _ HS5.out.here).trans rfl
   have q1 : w5.cell? ⟨gr, 1, none⟩ = some (.int .i64 0) := (cell_of_row _ _ _ _ _ _ HS5.out.here).trans rfl
   have q2 : w5.cell? ⟨gr, 2, none⟩ = some (.int .i64 r3) := (cell_of_row _ _ _ _ _ _ HS5.out.here).trans rfl
   clear HB
   go_wp2_with fail
   go_ret
   exact ⟨rfl, HC5.out⟩
end Go.Proofs.YtmgfilacepnjlaaGreatDoor

namespace Go.Proofs.YtmgfilacepnjlaaGreatDoor
open Go.RowKit
theorem room_below (n : Int) (L : List Dd) (a : Option Addr) (ca : Nat) (w : World) (hu : UB w) (hm : ML w) (hn : I64 n) (hL : DdAt w a L) (hLo : ∀ i, i < L.length → (L.getD i Dd.z).Ok) (hl : L.length ≤ 140737488355328) :
  Calls Tryz.prog 4 #[.int .i64 n, .slice a L.length ca] w fun e w' => e = .returned (.bool true) ∧ Below w.heap.size w w' :=
 (room_walk n L a ca w hu hm hn hL (all_deeds hLo) (by omega)).mono fun e w' ⟨h1, h2⟩ => ⟨h1, h2.below⟩
end Go.Proofs.YtmgfilacepnjlaaGreatDoor

namespace Go.Proofs.YtmgfilacepnjlaaGreatDoor
open Go.ChangeShapes Go.WideShapes Go.ChangeAt Go.RowKit Go.Joins Go.ChangeMaps

set_option linter.unusedVariables false
set_option maxRecDepth 100000 in
theorem plainRoom_lifted (os : Os) (started : os.Started) (H : Type) (enc : TypeId × Value → H) (F : Stop.Interp) :
  ReturnsInHanded {} Tryz.checked os 4 .any ((OpenSpec.ofChange Rows.plainRoomSpec).preRow enc Tryz.prog Tryz.f4 Rows.plainRoomRow.domain false Rows.plainRoomRow.laid) (((OpenSpec.ofChange Rows.plainRoomSpec).at F).post enc Tryz.prog Tryz.f4 false true false false) := by
 refine returnsInHanded_of_row (C := Tryz.checked) (s := OpenSpec.ofChange Rows.plainRoomSpec) own started (by kernel_rfl) Tryz.func4
  (ChangeSpec.witness_shaped (enc := enc) (C := Tryz.checked) (os := os) (X := fun w _ => laidMetH Tryz.prog Rows.plainRoomRow.laid w) false (World.laidAll Tryz.prog os Rows.plainRoomRow.laid) #[.int .i64 0, .slice none 0 0] 8 (World.laidAll_os _ _ _)
   (World.shaped_of_ZipB (by kernel_rfl) (by kernel_rfl)) (by kernel_rfl) (by kernel_rfl) (by kernel_rfl)
   (by rw [MakeChecks.laidMetH_plain _ _ _ (by kernel_rfl)]; exact laidMet_laidAll _ (by kernel_rfl) (by kernel_rfl))) ?_
 intro W base args ds gs before hval0 hW hcnd _ hsz0 hL hsh _
 have hUB : UB W := ub_of_laid hL
 have hML : ML W := laySplit.s1_3 W hsh
 have hval : ∀ (j : Nat) t v, Tryz.f4.params[j]? = some t → args[j]? = some v → Value.okWide Tryz.prog W .any base t v := hval0
 have hW' := hW
 obtain ⟨p, q, hA0, hV, rfl, hfz, hnd⟩ := hW
 have hA : DataW.TrodAll enc Tryz.prog W 0 (fun _ => true) true Tryz.f4.params.toList args.toList ds p := hA0
 have hsz : (DataW.weightsEach Tryz.prog (Tryz.f4.params.toList ++ (OpenSpec.ofChange Rows.plainRoomSpec).bare.plain.varTypes Tryz.prog) (ds ++ gs)).all (· ≤ reachBytes) = true := hsz0
 rw [Tryz.params4] at hA hval hsz
 obtain ⟨v0, vs0, d0, ds0, p0, q0, hargs, rfl, rfl, h0, r0⟩ := trodAll_cons hA
 obtain ⟨v1, vs1, d1, ds1, p1, q1, rfl, rfl, rfl, h1, r1⟩ := trodAll_cons r0
 obtain ⟨rfl, rfl, rfl⟩ := trodAll_nil r1
 obtain rfl : args = #[v0, v1] := by cases args; simp_all
 obtain ⟨rfl, rfl⟩ := trodVars_none hV
 have k0 := h0
 have lt0 : ∀ x ∈ p0, x.block < W.heap.size := by obtain ⟨m, hm⟩ := k0; exact DataW.trod_lt m _ _ _ hm
 have k1 := h1
 have lt1 : ∀ x ∈ p1, x.block < W.heap.size := by obtain ⟨m, hm⟩ := k1; exact DataW.trod_lt m _ _ _ hm
 obtain ⟨x0, rfl, rfl, rfl, wx0⟩ := open_int Tryz.underlying3 (hval 0 3 v0 rfl rfl) h0
 have hwt1 : ∀ n ∈ d1.weights Tryz.prog 22, n ≤ reachBytes := by
  intro n hn
  have := List.all_eq_true.1 hsz n (DataW.weights_mem_each (j := 1) (t := 22) (d := d1) rfl rfl n hn)
  simpa using this
 obtain ⟨l1, ad1, cap1, rfl, hl1, hc1, hn1, ho1⟩ := open_deeds (hval 1 22 v1 rfl rfl) h1 hwt1
 clear hA0 hval0
 refine (room_below x0 l1 ad1 cap1 W hUB hML (bounds_i64 wx0) hn1 ho1 hl1).mono fun e W' ⟨he, bel⟩ => ?_
 subst he
 exact ⟨_, rfl, _, _, _, [], _, [], hW', trodAll_mk1 (shut_bool Tryz.underlying4 _), (trodAll_cons_mk (Below.trod laidOut (by kernel_rfl) (of_decide_eq_true (by kernel_rfl)) k0 bel lt0) (trodAll_cons_mk (Below.trod laidOut (by kernel_rfl) (of_decide_eq_true (by kernel_rfl)) k1 bel lt1) trodAll_mk0)), rfl, bel.frame _, fun h => by cases h⟩

theorem plainRoom_row : Rows.PlainRoomSaid :=
 OpenClaim.holds_of_cond 4 Tryz.f4 rfl rfl rfl rfl rfl rfl rfl ⟨rfl, rfl, rfl, rfl, rfl⟩ rfl rfl rfl rfl rfl (by kernel_rfl) Tryz.func4 (by kernel_rfl)
  (of_decide_eq_true (by kernel_rfl)) (by unfold Func.isWrapper; first | (rw [if_pos (by decide +kernel)]; kernel_rfl) | (rw [if_neg (by decide +kernel)]; exact ⟨rfl, rfl⟩))
  (fun os started H enc _ F => by rw [OpenClaim.pre_eq_preRow]; exact plainRoom_lifted os started H enc F)

theorem plainRoom_holds : Rows.PlainRoomCardSaid :=
 Claim7.holds_tied_plain_at .later [] [.data, .data, .pinned] true (true, "8f99cae553d0c9e95a58adcea1dee91e7bb7461ba97e404f137715e3fbab67a2") false plainRoom_row (fun _ h => by cases h) (by kernel_rfl) (fun _ h => by cases h) plainRoom_row_tie rfl ⟨rfl, rfl⟩ (by kernel_rfl) rfl
  (fun f fn hf hfn => by
   obtain rfl : f = 4 := Option.some.inj ((show Tryz.prog.funcNamed "breakwater/breakwaterlaw16.PlainRoom" = some 4 by kernel_rfl).symm.trans hf) |>.symm
   obtain rfl : fn = Tryz.f4 := (Option.some.inj (Tryz.func4.symm.trans hfn)).symm
   exact ⟨by kernel_rfl, fun j t ht => by
    rw [Tryz.params4] at ht
    have hm : t ∈ [3, 22] := by simpa using Array.mem_of_getElem? ht
    have hall : ([3, 22].all fun u => !Tryz.prog.wantsStandIn u) = true := by kernel_rfl
    exact (show Tryz.prog.wantsStandIn t = false by simpa using List.all_eq_true.1 hall t hm)⟩)
  (by kernel_rfl)

end Go.Proofs.YtmgfilacepnjlaaGreatDoor
