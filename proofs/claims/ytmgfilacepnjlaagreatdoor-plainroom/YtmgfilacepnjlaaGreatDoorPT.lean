/-
 package plain: the whole in memory; how many sectors all have.
-/
import Derived.Test.YtmgfilacepnjlaaGreatDoorND
namespace Go.Proofs.YtmgfilacepnjlaaGreatDoor
open Go.RowKit

def numsOf (k : Nat) : List Nat := k :: (if 44 ≤ k then [1069, 1070 + (k - 44) / 32] else if 12 ≤ k then [1068] else [])
theorem putB_iff (f : Nat → Bool) (m i : Nat) : putB f m i = true ↔ f i = true ∨ i = m := by
 unfold putB
 by_cases e : i = m
 ·rw [if_pos e]; exact ⟨fun _ => .inr e, fun _ => rfl⟩
 ·rw [if_neg e]; exact ⟨.inl, fun h => h.resolve_right e⟩
theorem addB_iff (f : Nat → Bool) (k i : Nat) : addB f k i = true ↔ f i = true ∨ i ∈ numsOf k := by
 unfold addB numsOf
 by_cases h1 : 44 ≤ k
 ·rw [if_pos h1, if_pos h1, putB_iff, putB_iff, putB_iff]
  simp [or_assoc]
 ·rw [if_neg h1, if_neg h1]
  by_cases h2 : 12 ≤ k
  ·rw [if_pos h2, if_pos h2, putB_iff, putB_iff]
   simp [or_assoc]
  ·rw [if_neg h2, if_neg h2, putB_iff]
   simp
def TZ : Array Value := Array.replicate 1102 (.bool false) ++ #[.int .i64 0]
theorem zero_tal (w : World) : (zeroValue 119).run Tryz.prog w = .ok (.agg TZ) w := by kernel_rfl
theorem szT : (Tryz.prog.info? 119).map (·.size) = some 1103 := by kernel_rfl
theorem card_none : cardT (fun _ => false) = 0 := by
 unfold cardT
 simp
theorem TZ_is : TalA TZ (fun _ => false) := by
 refine ⟨by simp [TZ], fun i hi => ?_, ?_⟩
 ·unfold TZ
  rw [Array.getElem?_append_left (by simpa using hi)]
  simp [hi]
 ·rw [card_none]
  unfold TZ
  rw [Array.getElem?_append_right (by simp)]
  simp
theorem TalA_one {A : Array Value} {f : Nat → Bool} (h : TalA A f) : A.all (·.oneCell') = true := by
 rw [Array.all_eq_true]
 intro i hi
 rcases Nat.lt_or_ge i 1102 with k | k
 ·have := h.2.1 i k
  rw [Array.getElem?_eq_getElem hi] at this
  rw [Option.some.inj this]
  rfl
 ·have e : i = 1102 := by have := h.1; omega
  subst e
  have := h.2.2
  rw [Array.getElem?_eq_getElem hi] at this
  rw [Option.some.inj this]
  rfl
def TalP (x : Nd) (i : Nat) : Prop := (∃ k : Nat, x.blk (k : Int) ≠ none ∧ i ∈ numsOf k) ∨ ∃ k, k < x.sl.length ∧ i ∈ numsOf k
def TW (w wr : World) (gt r : Nat) (f : Nat → Bool) : Prop := TalAt wr gt f ∧ Chg w wr No ∧ w.heap.size < gt ∧ gt < r ∧ wr.heap[w.heap.size]? = some (.cells TZ 119 (0, 0))
theorem TW.call {w wr wq : World} {gt r : Nat} {f : Nat → Bool} (h : TW w wr gt r f) (hc : Chg wr wq (· = r)) (hr : w.heap.size ≤ r) : TW w wq gt r f :=
 ⟨h.1.keep hc (by have := h.2.2.2.1; omega), h.2.1.trans hc (fun _ _ e => e) (fun j hj e => by omega), h.2.2.1, h.2.2.2.1, hc.keep h.2.2.2.2 (by have := h.2.2.1; have := h.2.2.2.1; omega)⟩
theorem TW.add {w wr wq : World} {gt r : Nat} {f g : Nat → Bool} (h : TW w wr gt r f) (hg : TalAt wq gt g) (hc : Chg wr wq (· = gt)) : TW w wq gt r g :=
 ⟨hg, h.2.1.trans hc (fun _ _ e => e) (fun j hj e => by have := h.2.2.1; omega), h.2.2.1, h.2.2.2.1, hc.keep h.2.2.2.2 (by have := h.2.2.1; omega)⟩

set_option maxHeartbeats 2000000 in
set_option maxRecDepth 100000 in
theorem tally_any {c : NC} {x : Nd} (w : World) (h : IsN w c x) :
  Calls Tryz.prog 59 #[.pointer (some ⟨c.p, 0, none⟩)] w fun e w' => (∃ A, e = .returned (.agg A) ∧ ∃ F, TalA A F ∧ ∀ i, F i = true ↔ TalP x i) ∧ Chg w w' No := by
 have HN := hid h
 obtain ⟨Z, hZ⟩ : ∃ y, y = TZ := ⟨_, rfl⟩
 have hz := zero_tal
 have HZ := hid hZ
 rw [← hZ] at hz
 have HZ4 : Hid (Z.size = 1103) := hid (by rw [hZ]; exact TZ_is.1)
 obtain ⟨w1, hw1⟩ : ∃ y, y = (w.alloc (.cells Z 119)).alloc (.cells Z 119) := ⟨_, rfl⟩
 have h1 : Chg w w1 No := by rw [hw1]; exact (Chg.alloc _ _ No).tr (Chg.alloc _ _ No)
 have hg1 : w1.heap[w.heap.size]? = some (.cells Z 119 (0, 0)) := by rw [hw1]; exact (Chg.alloc _ _ No).keep (heap_alloc_new _ _) (fun e => e)
 have hg2 : w1.heap[w.heap.size + 1]? = some (.cells Z 119 (0, 0)) := by
  have := heap_alloc_new (w.alloc (.cells Z 119)) (.cells Z 119)
  rw [World.size_alloc] at this
  rw [hw1]; exact this
 have hs1 : w1.heap.size = w.heap.size + 2 := by rw [hw1]; simp
 have HS1 := hid hs1
 have c4 := (h.call h1).c4
 have HB1 := hid (h.call h1).bl
 have H1 := hid h1
 have HG1 := hid hg1
 have HG2 := hid hg2
 have HE : Hid (w1 = (w.alloc (.cells Z 119)).alloc (.cells Z 119)) := hid hw1
 clear h h1 hg1 hg2 hs1 hZ hw1
 go_enter Tryz.func59, Tryz.ntmps59
 go_upto_region 2 with fail
 rw [← HE.out]
 clear HE
 go_wp2_with (first
  | (at_range; go_must (refine wp_rangeV 103 131 Tryz.underlying103 rfl _ rfl c.bb x.blk rfl HB1.out ?_; intro w2 cnt0 hr0 hc0 hz0))
  | fail)
 go_frame
 have HR0 := hid hr0
 have HC0 := hid hc0
 obtain ⟨r, hrr⟩ : ∃ y, y = w1.heap.size := ⟨_, rfl⟩
 rw [← hrr] at HR0 ⊢
 have HRr : Hid (r = w.heap.size + 2) := hid (by rw [hrr]; exact HS1.out)
 have G0 : Hid (TW w w2 (w.heap.size + 1) r (fun _ => false)) := hid ⟨⟨_, HC0.out.keep HG2.out (fun e => e), by rw [HZ.out]; exact TZ_is⟩, H1.out.tr HC0.out, by omega, by have := HRr.out; omega, by have := HC0.out.keep HG1.out (fun e => e); rw [HZ.out] at this; exact this⟩
 clear hr0 hc0 hz0 hrr HG1 HG2 HC0 c4 HB1
 have HBr : Hid (c.bb ≠ r ∧ c.bb ≠ w.heap.size + 1) := hid (by have := HN.out.bl.lt; have := HRr.out; exact ⟨by omega, by omega⟩)
 go_loopw [4] (fun _ wr => ∃ (left : Int → Prop) (cnt : Nat), Hid (RangeV wr c.bb r x.blk left cnt) ∧ Hid (∃ f, TW w wr (w.heap.size + 1) r f ∧ ∀ i, f i = true ↔ ∃ k : Nat, x.blk (k : Int) ≠ none ∧ ¬ left (k : Int) ∧ i ∈ numsOf k)) (fun _ wr => wr.rangeLeft c.bb r)
 case atStart => exact ⟨_, _, HR0, hid ⟨_, G0.out, fun i => ⟨fun e => (by cases e), fun ⟨k, k1, k2, _⟩ => absurd (by cases hq : x.blk (k : Int) with | none => exact absurd hq k1 | some _ => rfl) k2⟩⟩⟩
 case round =>
  obtain ⟨left, cnt, HR, HT⟩ := hrel
  clear G0 HR0
  obtain ⟨f, hT, hI⟩ := HT.out
  have HT1 := hid hT
  have HI1 := hid hI
  have hcn := HR.out.leftN
  have HCn := hid hcn
  clear HT hT hI hcn
  go_wp2_with (first
   | (at_next; go_must (refine wp_nextV rfl _ rfl c.bb r x.blk left cnt rfl HR.out ?_ ?_))
   | fail)
  ·intro hl
   have HA : Hid (∀ i, f i = true ↔ ∃ k : Nat, x.blk (k : Int) ≠ none ∧ i ∈ numsOf k) := hid (fun i => by
    rw [HI1.out i]
    exact ⟨fun ⟨k, k1, _, k3⟩ => ⟨k, k1, k3⟩, fun ⟨k, k1, k3⟩ => ⟨k, k1, hl _, k3⟩⟩)
   have hk := HN.out.call HT1.out.2.1
   have c5 := hk.c5
   obtain ⟨sa, sc, hv⟩ := hk.sl.shape
   rw [hv] at c5
   have hlen := HN.out.len
   obtain ⟨n, hn⟩ : ∃ y, y = x.sl.length := ⟨_, rfl⟩
   rw [← hn] at c5 hlen
   have HNn := hid hn
   have nb : (n : Int) ≤ 1068 := by omega
   clear hl hk hv hn HI1 HR HCn
   go_wp2_with fail
   go_loopw [22] (fun x22 wr => ∃ j : Nat, j ≤ n ∧ x22 = .int .i64 (j : Int) ∧ Hid (∃ f, TW w wr (w.heap.size + 1) r f ∧ ∀ i, f i = true ↔ (∃ k : Nat, x.blk (k : Int) ≠ none ∧ i ∈ numsOf k) ∨ ∃ k, k < j ∧ i ∈ numsOf k)) (fun x22 _ => n - (intOf x22).toNat)
   case atStart => exact ⟨0, by omega, rfl, hid ⟨f, HT1.out, fun i => by
    rw [HA.out i]
    exact ⟨.inl, fun q => q.resolve_right (fun ⟨k, k1, _⟩ => absurd k1 (Nat.not_lt_zero _))⟩⟩⟩
   case round =>
    obtain ⟨j, hj, rfl, HX⟩ := hrel
    clear HT1 HA
    obtain ⟨f2, hT, hI⟩ := HX.out
    have HT2 := hid hT
    have HI2 := hid hI
    clear HX hT hI
    by_cases hlt : j < n
    ·have j1 : (j : Int) < (n : Int) := by omega
     have j2 : (j : Int) ≤ 1068 := by omega
     have hAd := add_any j wr HT2.out.1 (by omega)
     go_wp2_with (first
      | (go_at_call 73; go_must (refine hAd.mono ?_; rintro e w4 ⟨rfl, h4, hc4⟩))
      | fail)
     refine ⟨⟨j + 1, by omega, by go_num, hid ⟨_, HT2.out.add h4 hc4, fun i => ?_⟩⟩, by simp [intOf]; omega⟩
     rw [addB_iff, HI2.out i, or_assoc]
     refine or_congr Iff.rfl ⟨?_, ?_⟩
     ·rintro (⟨k, k1, k2⟩ | k2)
      ·exact ⟨k, by omega, k2⟩
      ·exact ⟨j, by omega, k2⟩
     ·rintro ⟨k, k1, k2⟩
      by_cases e : k = j
      ·exact .inr (e ▸ k2)
      ·exact .inl ⟨k, by omega, k2⟩
    ·have j1 : ¬ (j : Int) < (n : Int) := by omega
     obtain ⟨A, hA1, hA2⟩ := HT2.out.1
     have HA1 := hid hA1
     have HA2 := hid hA2
     have HA3 := hid (TalA_one hA2)
     have HAz := hid hA2.1
     have HJ : Hid (∀ i, f2 i = true ↔ TalP x i) := hid (fun i => by
      rw [HI2.out i]
      unfold TalP
      have : j = x.sl.length := by have := HNn.out; omega
      rw [this])
     clear hA1 hA2 HI2
     go_wp2_with (first
      | (refine load_R rfl 119 _ rfl (w.heap.size + 1) rfl 119 _ _ HA1.out Tryz.underlying119 rfl (by rw [szT, HAz.out]) ?_)
      | (refine store_R rfl 119 _ _ rfl w.heap.size A rfl rfl 119 _ HT2.out.2.2.2.2 (by rw [szT, HAz.out]) (by rw [HAz.out]; exact TZ_is.1) HA3.out ?_; intro w6 hw6)
      | fail)
     exact bodyPost_ret (v := .agg A) (results_R1 Tryz.results59 _ _ w.heap.size _ 119 _ Tryz.underlying119 rfl (by rw [szT, HAz.out]) rfl hw6.here) rfl ⟨⟨A, rfl, f2, HA2.out, HJ.out⟩, HT2.out.2.1.trans (kt_new hw6) (fun _ _ e => e) (fun j hj e => by omega)⟩
  ·intro y d w3 cnt3 hl hx hIy hr3 hlt hc3 hz3 hen
   have hd := HN.out.dom y (by rw [hx]; intro e; cases e)
   obtain ⟨k, rfl⟩ : ∃ k : Nat, y = (k : Int) := ⟨y.toNat, by omega⟩
   have hk : k < 1068 := by omega
   have HT3 := hid (HT1.out.call hc3 (by have := HRr.out; omega))
   have hAd := add_any k w3 HT3.out.1 hk
   have HR3 := hid hr3
   have HLt := hid hlt
   have HX := hid hx
   clear hr3 hlt hc3 hz3 hl hIy hd hx
   go_wp2_with (first
    | (go_at_call 73; go_must (refine hAd.mono ?_; rintro e w4 ⟨rfl, h4, hc4⟩))
    | fail)
   have hR4 := HR3.out.keep hc4 HBr.out.2 (by have := HRr.out; omega)
   refine ⟨⟨_, _, hid hR4, hid ⟨_, HT3.out.add h4 hc4, fun i => ?_⟩⟩, ?_⟩
   ·rw [addB_iff, HI1.out i]
    constructor
    ·rintro (⟨j, j1, j2, j3⟩ | j3)
     ·exact ⟨j, j1, fun e => j2 e.1, j3⟩
     ·exact ⟨k, (fun e => by rw [HX.out] at e; cases e), fun e => e.2 rfl, j3⟩
    ·rintro ⟨j, j1, j2, j3⟩
     by_cases e : j = k
     ·exact .inr (e ▸ j3)
     ·exact .inl ⟨j, j1, fun q => j2 ⟨q, by omega⟩, j3⟩
   ·rw [hR4.leftN, HCn.out]
    exact HLt.out
end Go.Proofs.YtmgfilacepnjlaaGreatDoor

namespace Go.Proofs.YtmgfilacepnjlaaGreatDoor
open Go.RowKit

structure PSt where
 data : Int
 ino : Int
 nd : Int → Option Nd
structure PC where
 p : Nat
 mb : Nat
 nc : Int → Option NC
def ptrN (c : NC) : Value := .pointer (some ⟨c.p, 0, none⟩)
def BlkN (c : NC) (k : Nat) : Prop := k = c.p ∨ k = c.bb ∨ k = c.nb ∨ c.v.ownBlock = some k
structure IsPl (w : World) (q : PC) (s : PSt) : Prop where
 me : w.heap[q.p]? = some (.cells #[.int .i64 s.data, .int .i64 s.ino, .map (some q.mb)] 82 (0, 0))
 mp : MapV w q.mb (fun i => (q.nc i).map ptrN)
 nd : ∀ i c, q.nc i = some c → ∃ x, s.nd i = some x ∧ IsN w c x
 dom : ∀ i, q.nc i = none → s.nd i = none
 rng : ∀ i, q.nc i ≠ none → 1 ≤ i ∧ i ≤ 512
 ap : ∀ i j c d, q.nc i = some c → q.nc j = some d → i ≠ j → ∀ k, BlkN c k → ¬ BlkN d k
 mne : ∀ i c, q.nc i = some c → c.bb ≠ q.mb ∧ c.nb ≠ q.mb
 bs : ∀ i c, q.nc i = some c → c.B = 0
section
variable {w w' : World} {q : PC} {s : PSt}
theorem IsPl.call (h : IsPl w q s) (hc : Chg w w' No) : IsPl w' q s :=
 ⟨hc.keep h.me (fun e => e), h.mp.keep hc (fun e => e), fun i c e => by obtain ⟨x, h1, h2⟩ := h.nd i c e; exact ⟨x, h1, h2.call hc⟩, h.dom, h.rng, h.ap, h.mne, h.bs⟩
theorem IsPl.c0 (h : IsPl w q s) : w.cell? ⟨q.p, 0, none⟩ = some (.int .i64 s.data) := (cell_of_row _ _ _ _ _ _ h.me).trans rfl
theorem IsPl.c1 (h : IsPl w q s) : w.cell? ⟨q.p, 1, none⟩ = some (.int .i64 s.ino) := (cell_of_row _ _ _ _ _ _ h.me).trans rfl
theorem IsPl.c2 (h : IsPl w q s) : w.cell? ⟨q.p, 2, none⟩ = some (.map (some q.mb)) := (cell_of_row _ _ _ _ _ _ h.me).trans rfl
end
open Classical in
noncomputable def talB (x : Nd) (i : Nat) : Bool := decide (TalP x i)
noncomputable def cardN (x : Nd) : Nat := cardT (talB x)
open Classical in
theorem cardN_of {x : Nd} {F : Nat → Bool} (h : ∀ i, F i = true ↔ TalP x i) : cardT F = cardN x := by
 have : F = talB x := by
  funext i
  unfold talB
  cases hf : F i with
  | true => exact (decide_eq_true ((h i).1 hf)).symm
  | false => exact (decide_eq_false (fun e => by rw [(h i).2 e] at hf; cases hf)).symm
 unfold cardN
 rw [this]
open Classical in
noncomputable def sumN (s : PSt) (P : Int → Prop) : Nat → Nat
 | 0 => 0
 | n + 1 => sumN s P n + if P (n : Int) then (match s.nd (n : Int) with | some x => cardN x | none => 0) else 0
theorem sumN_congr {s : PSt} {P Q : Int → Prop} : ∀ n : Nat, (∀ i : Nat, i < n → (P (i : Int) ↔ Q (i : Int))) → sumN s P n = sumN s Q n
 | 0, _ => rfl
 | n + 1, h => by
  unfold sumN
  rw [sumN_congr n (fun i hi => h i (by omega))]
  have := h n (by omega)
  by_cases e : P (n : Int)
  ·rw [if_pos e, if_pos (this.1 e)]
  ·rw [if_neg e, if_neg (fun q => e (this.2 q))]
theorem sumN_put {s : PSt} {P : Int → Prop} {m : Nat} {x : Nd} (hx : s.nd (m : Int) = some x) (hP : ¬ P (m : Int)) : ∀ n : Nat, m < n → sumN s (fun i => P i ∨ i = (m : Int)) n = sumN s P n + cardN x
 | 0, h => absurd h (Nat.not_lt_zero _)
 | n + 1, h => by
  unfold sumN
  by_cases e : m = n
  ·subst e
   have hs : sumN s (fun i => P i ∨ i = (m : Int)) m = sumN s P m := sumN_congr m (fun i hi => ⟨fun q => q.resolve_right (by omega), .inl⟩)
   rw [hs, if_pos (.inr rfl), if_neg hP]
   simp only [hx]
   omega
  ·rw [sumN_put hx hP n (by omega)]
   have : (P (n : Int) ∨ (n : Int) = (m : Int)) ↔ P (n : Int) := ⟨fun q => q.resolve_right (by omega), .inl⟩
   by_cases e2 : P (n : Int)
   ·rw [if_pos (this.2 e2), if_pos e2]; omega
   ·rw [if_neg (fun q => e2 (this.1 q)), if_neg e2]; omega
theorem sumN_le (s : PSt) (P : Int → Prop) : ∀ n, sumN s P n ≤ 1102 * n
 | 0 => Nat.le_refl _
 | n + 1 => by
  have := sumN_le s P n
  unfold sumN
  split
  ·split
   ·have := card_le (talB ‹Nd›)
    unfold cardN
    omega
   ·omega
  ·omega
noncomputable def takenN (s : PSt) : Nat := sumN s (fun i => s.nd i ≠ none) 513
theorem field_tal {A : Array Value} {F : Nat → Bool} (h : TalA A F) (W : World) : (Instr.field 119 (.agg A) 1).run Tryz.prog W = .ok (.int .i64 (cardT F : Nat)) W := by
 have h2 := h.2.2
 unfold Instr.field
 go_simp
 simp only [asAgg, Sem.run_pure, Result.andThen_ok, h2]
section
variable {ops : Array Oper} {rest : List Oper} {o : Oper} {a : Act} {Q : Exit → Act → World → Prop} {w : World}
theorem wp_fieldT (hg : o.guard = none) (x : Operand) (hop : o.op = Op.field 119 x 1) (A : Array Value) (n : Int) (hx : a.eval x = .agg A) (h : ∀ W, (Instr.field 119 (.agg A) 1).run Tryz.prog W = .ok (.int .i64 n) W)
  (hK : wpList Tryz.prog ops Q rest (a.put o.dst (.int .i64 n)) w) : wpList Tryz.prog ops Q (o :: rest) a w := by
 refine wpList_plain hg fun K' hK' => ?_
 unfold Oper.wp
 simp [execOp, hop, hx, h, Result.andThen]
 exact hK' _ _ hK
end

set_option maxHeartbeats 2000000 in
set_option maxRecDepth 100000 in
theorem taken_any {q : PC} {s : PSt} (w : World) (h : IsPl w q s) :
  Calls Tryz.prog 36 #[.pointer (some ⟨q.p, 0, none⟩)] w fun e w' => e = .returned (.int .i64 (takenN s : Nat)) ∧ Chg w w' No := by
 have HP := hid h
 have c2 := h.c2
 obtain ⟨fm, hfm⟩ : ∃ y, y = (fun i => (q.nc i).map ptrN) := ⟨_, rfl⟩
 have HM : Hid (MapV w q.mb fm) := hid (by rw [hfm]; exact h.mp)
 have HFm := hid hfm
 obtain ⟨N, hN⟩ : ∃ y : Nat, y = takenN s := ⟨_, rfl⟩
 have HNn := hid hN
 rw [← hN]
 clear h hN hfm
 go_enter Tryz.func36, Tryz.ntmps36
 go_wp2_with (first
  | (at_range; go_must (refine wp_rangeV 80 87 Tryz.underlying80 rfl _ rfl q.mb _ rfl HM.out ?_; intro w2 cnt0 hr0 hc0 hz0))
  | fail)
 go_frame
 have HR0 := hid hr0
 have HC0 := hid hc0
 obtain ⟨r, hrr⟩ : ∃ y, y = w.heap.size := ⟨_, rfl⟩
 rw [← hrr] at HR0 ⊢
 have HRr := hid hrr
 clear hr0 hc0 hz0 hrr c2
 have HBr : Hid (q.mb ≠ r) := hid (by have := HP.out.mp.lt; have := HRr.out; omega)
 go_loopw [3] (fun x3 wr => ∃ (n : Nat) (left : Int → Prop) (cnt : Nat), x3 = .int .i64 (n : Int) ∧ Hid (RangeV wr q.mb r fm left cnt) ∧ Hid (n = sumN s (fun i => s.nd i ≠ none ∧ ¬ left i) 513) ∧ Hid (Chg w wr No)) (fun _ wr => wr.rangeLeft q.mb r)
 case atStart => exact ⟨0, _, _, rfl, HR0, hid (by
  have hz : ∀ n, sumN s (fun _ => False) n = 0 := by
   intro n
   induction n with
   | zero => rfl
   | succ n ih => unfold sumN; rw [ih, if_neg (fun e => e)]
  rw [← hz 513]
  refine (sumN_congr 513 fun i _ => ⟨fun e => e.elim, fun ⟨e1, e2⟩ => e2 ?_⟩)
  cases hq : q.nc (i : Int) with
  | none => exact absurd (HP.out.dom _ hq) e1
  | some c => rw [HFm.out]; show ((q.nc (i : Int)).map ptrN).isSome = true; rw [hq]; rfl), HC0⟩
 case round =>
  obtain ⟨n, left, cnt, rfl, HR, HS, HC⟩ := hrel
  clear HR0 HC0
  have hcn := HR.out.leftN
  have HCn := hid hcn
  have hnb := sumN_le s (fun i => s.nd i ≠ none ∧ ¬ left i) 513
  rw [← HS.out] at hnb
  have n0 : (0 : Int) ≤ (n : Int) := by omega
  have n1 : (n : Int) ≤ 600000 := by omega
  clear hcn hnb
  go_wp2_with (first
   | (at_next; go_must (refine wp_nextV rfl _ rfl q.mb r _ left cnt rfl HR.out ?_ ?_))
   | fail)
  ·intro hl
   have HF : Hid (n = N) := hid (by
    rw [HS.out, HNn.out]
    unfold takenN
    exact sumN_congr 513 fun i _ => ⟨fun e => e.1, fun e => ⟨e, hl _⟩⟩)
   obtain rfl := HF.out
   clear hl HR HS HCn
   go_wp2_with fail
   go_ret
   exact ⟨rfl, HC.out⟩
  ·intro y d w3 cnt3 hl hx hIy hr3 hlt hc3 hz3 hen
   have hx2 : (q.nc y).map ptrN = some d := by rw [HFm.out] at hx; exact hx
   obtain ⟨c, hqc, rfl⟩ : ∃ c, q.nc y = some c ∧ ptrN c = d := by
    cases hq : q.nc y with
    | none => rw [hq] at hx2; cases hx2
    | some c => rw [hq] at hx2; exact ⟨c, rfl, Option.some.inj hx2⟩
   have hrg := HP.out.rng y (by rw [hqc]; intro e; cases e)
   obtain ⟨m, rfl⟩ : ∃ m : Nat, y = (m : Int) := ⟨y.toNat, by omega⟩
   obtain ⟨x, hsx, _⟩ := HP.out.nd _ c hqc
   have HC3 : Hid (Chg w w3 No) := hid (HC.out.trans hc3 (fun _ _ e => e) (fun j hj e => by have := HRr.out; omega))
   have hTl : Calls Tryz.prog 59 #[.pointer (some ⟨c.p, 0, none⟩)] w3 fun e w' => (∃ A, e = .returned (.agg A) ∧ ∀ W, (Instr.field 119 (.agg A) 1).run Tryz.prog W = .ok (.int .i64 (cardN x : Nat)) W) ∧ Chg w3 w' No := by
    obtain ⟨x', h1, h2⟩ := HP.out.nd _ c hqc
    rw [hsx] at h1
    cases h1
    refine (tally_any w3 (h2.call HC3.out)).mono ?_
    rintro e w' ⟨⟨A, rfl, F, hA, hF⟩, hc⟩
    refine ⟨⟨A, rfl, fun W => ?_⟩, hc⟩
    rw [field_tal hA, cardN_of hF]
   have hcb : cardN x ≤ 1102 := card_le _
   obtain ⟨cn, hcn⟩ : ∃ z : Nat, z = cardN x := ⟨_, rfl⟩
   rw [← hcn] at hTl hcb
   have HSx := hid hsx
   have HcN := hid hcn
   have HR3 := hid hr3
   have HLt := hid hlt
   have HL := hid hl
   have k1 : (cn : Int) ≤ 1102 := by omega
   have hrg2 := hrg.2
   clear hr3 hlt hc3 hz3 hl hIy hx hx2 hqc hsx hcn hrg
   unfold ptrN at hen ⊢
   go_wp2_with (first
    | (go_at_call 59; go_must (refine hTl.mono ?_; rintro e w4 ⟨⟨A, rfl, hA⟩, hc4⟩))
    | (refine wp_fieldT rfl _ rfl A (cn : Int) rfl hA ?_)
    | fail)
   have hR4 := HR3.out.keep hc4 (fun e => e) (fun e => e)
   refine ⟨⟨n + cn, _, _, by go_num, hid hR4, hid ?_, hid (HC3.out.tr hc4)⟩, ?_⟩
   ·rw [HS.out, HcN.out, ← sumN_put (P := fun i => s.nd i ≠ none ∧ ¬ left i) (m := m) HSx.out (fun e => e.2 HL.out) 513 (by omega)]
    refine sumN_congr 513 fun i _ => ⟨?_, ?_⟩
    ·rintro (⟨e1, e2⟩ | e)
     ·exact ⟨e1, fun q => e2 q.1⟩
     ·rw [e]
      exact ⟨(fun e => by rw [HSx.out] at e; cases e), fun q => q.2 rfl⟩
    ·rintro ⟨e1, e2⟩
     by_cases e : (i : Int) = (m : Int)
     ·exact .inr e
     ·exact .inl ⟨e1, fun q => e2 ⟨q, e⟩⟩
   ·rw [hR4.leftN, HCn.out]
    exact HLt.out
end Go.Proofs.YtmgfilacepnjlaaGreatDoor
