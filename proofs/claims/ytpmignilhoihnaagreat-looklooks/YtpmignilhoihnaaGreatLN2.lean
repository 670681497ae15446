/-
 layout.ReadSlot returns what a slot's sector says, or the error.
-/
import Derived.Test.YtpmignilhoihnaaGreatShelf
import Derived.Test.YtpmignilhoihnaaGreatLI3
import Derived.Test.YtpmignilhoihnaaGreatL3
import Derived.Laws.IdiomStrings
namespace Go.Proofs.YtpmignilhoihnaaGreat
open Go.RowKit

def two : ByteArray := ⟨#[0, 47]⟩
def hasB (s : ByteArray) : Bool := Lib.containsAny s.data.toList two.data.toList
def Has (s : ByteArray) : Prop := ∀ w, Calls Tryz.prog 141 #[.string s, .string two] w fun e w' => e = .returned (.bool (hasB s)) ∧ Below w.heap.size w w'
theorem set116 : (Tryz.prog.info? (layAny_ren.t 116)).map (fun i => (i.zero, i.size)) = some (some (.agg (Array.replicate 256 (.bool false))), 256) := by kernel_rfl
def nameB (s : ByteArray) : Bool := decide (1 ≤ s.size ∧ s.size ≤ 40) && (!hasB s && (!(s.toList == [46]) && !(s.toList == [46, 46])))

theorem toList_one : (⟨#[46]⟩ : ByteArray).toList = [46] := by rw [ByteArray.toList_eq]
theorem toList_two : (⟨#[46, 46]⟩ : ByteArray).toList = [46, 46] := by rw [ByteArray.toList_eq]

set_option maxHeartbeats 1000000 in
theorem nameMayBe_any (s : ByteArray) (hH : s.size ≤ 40 → Has s) (w : World) :
  Calls Tryz.prog 128 #[.string s] w fun e w' => e = .returned (.bool (nameB s)) ∧ Below w.heap.size w w' := by
 by_cases h1 : (s.size : Int) < 1
 ·have HV : Hid (nameB s = false) := by show _ = _; unfold nameB; rw [decide_eq_false (by omega)]; rfl
  go_enter Tryz.func128, Tryz.ntmps128
  go_wp2
  go_ret
  exact ⟨by rw [HV.out]; rfl, Below.refl _ _⟩
 ·by_cases h2 : (40 : Int) < s.size
  ·have HV : Hid (nameB s = false) := by show _ = _; unfold nameB; rw [decide_eq_false (by omega)]; rfl
   go_enter Tryz.func128, Tryz.ntmps128
   go_wp2
   go_ret
   exact ⟨by rw [HV.out]; rfl, Below.refl _ _⟩
  ·have HV : Hid (nameB s = (!hasB s && (!(s.toList == [46]) && !(s.toList == [46, 46])))) := by show _ = _; unfold nameB; rw [decide_eq_true (by omega)]; rfl
   have e1 := toList_one;have e2 := toList_two;have hHs := hH (by omega);unfold Has two at hHs
   cases hb : hasB s
   ·rw [hb] at hHs
    cases k1 : (s.toList == [46])
    ·cases k2 : (s.toList == [46, 46])
     ·go_enter Tryz.func128, Tryz.ntmps128
      go_wp2_with (go_at_call 141; refine (hHs _).mono ?_; rintro e w2 ⟨rfl, hb2⟩)
      go_ret
      exact ⟨by rw [HV.out, hb, k1, k2]; rfl, hb2⟩
     ·go_enter Tryz.func128, Tryz.ntmps128
      go_wp2_with (go_at_call 141; refine (hHs _).mono ?_; rintro e w2 ⟨rfl, hb2⟩)
      go_ret
      exact ⟨by rw [HV.out, hb, k1, k2]; rfl, hb2⟩
    ·go_enter Tryz.func128, Tryz.ntmps128
     go_wp2_with (go_at_call 141; refine (hHs _).mono ?_; rintro e w2 ⟨rfl, hb2⟩)
     go_ret
     exact ⟨by rw [HV.out, hb, k1]; rfl, hb2⟩
   ·rw [hb] at hHs
    go_enter Tryz.func128, Tryz.ntmps128
    go_wp2_with (go_at_call 141; refine (hHs _).mono ?_; rintro e w2 ⟨rfl, hb2⟩)
    go_ret
    exact ⟨by rw [HV.out, hb]; rfl, hb2⟩

def slotB (n : Int) (s : ByteArray) : Bool := if n = 0 then s.toList.isEmpty else decide (1 ≤ n ∧ n ≤ 512) && nameB s
theorem toList_nil : (⟨#[]⟩ : ByteArray).toList = [] := by rw [ByteArray.toList_eq]

set_option maxHeartbeats 1000000 in
theorem slotMayBe_any (n : Int) (s : ByteArray) (hH : s.size ≤ 40 → Has s) (w : World) :
  Calls Tryz.prog 119 #[.agg #[.int .i64 n, .string s]] w fun e w' => e = .returned (.bool (slotB n s)) ∧ Below w.heap.size w w' := by
 have hb : Below w.heap.size w (w.alloc (.cells #[.int .i64 n, .string s] 83)) := (Below.refl _ _).alloc (Nat.le_refl _) _;have e0 := toList_nil
 by_cases h0 : n = 0
 ·have HV : Hid (slotB n s = s.toList.isEmpty) := by show _ = _; unfold slotB; rw [if_pos h0]
  subst h0
  go_enter Tryz.func119, Tryz.ntmps119
  go_wp2
  go_ret
  exact ⟨by rw [HV.out]; rfl, hb⟩
 ·have h0' : (n == 0) = false := by simp [h0]
  by_cases h1 : 1 ≤ n
  ·by_cases h2 : n ≤ 512
   ·have HV : Hid (slotB n s = nameB s) := by show _ = _; unfold slotB; rw [if_neg h0, decide_eq_true ⟨h1, h2⟩]; rfl
    have hn := fun w' => nameMayBe_any s hH w'
    go_enter Tryz.func119, Tryz.ntmps119
    go_wp2_with (go_at_call 128; refine (hn _).mono ?_; rintro e w2 ⟨rfl, hb2⟩)
    go_ret
    exact ⟨by rw [HV.out]; rfl, btr hb hb2 (by simp)⟩
   ·have HV : Hid (slotB n s = false) := by show _ = _; unfold slotB; rw [if_neg h0, decide_eq_false (by omega)]; rfl
    go_enter Tryz.func119, Tryz.ntmps119
    go_wp2
    go_ret
    exact ⟨by rw [HV.out]; rfl, hb⟩
  ·have HV : Hid (slotB n s = false) := by show _ = _; unfold slotB; rw [if_neg h0, decide_eq_false (by omega)]; rfl
   go_enter Tryz.func119, Tryz.ntmps119
   go_wp2
   go_ret
   exact ⟨by rw [HV.out]; rfl, hb⟩

def bytesI (s : ByteArray) : List Int := s.data.toList.map fun b => (b.toNat : Int)
def numsSlot (n : Int) (s : ByteArray) : List Num := [(0, 4, n), (4, 1, s.size)]
def slotS (n : Int) (s : ByteArray) : List Int := if slotB n s = true then spl (layS (numsSlot n s)) 5 (bytesI s) else Zs
def slotE (n : Int) (s : ByteArray) : Int := if slotB n s = true then 0 else 63

theorem size_eq (s : ByteArray) : s.toList.length = s.size := by rw [ByteArray.toList_eq]; simp
theorem slot_bd {n : Int} {s : ByteArray} (h : slotB n s = true) : 0 ≤ n ∧ n ≤ 512 ∧ s.size ≤ 40 := by
 unfold slotB at h
 split at h
 ·have e := size_eq s
  rw [List.isEmpty_iff.1 h] at e
  simp at e
  omega
 ·rw [Bool.and_eq_true] at h
  have h1 := of_decide_eq_true h.1;have h2 := h.2;unfold nameB at h2;rw [Bool.and_eq_true] at h2;have h3 := of_decide_eq_true h2.1
  omega
theorem slot_ok {n : Int} {s : ByteArray} (h : slotB n s = true) : ∀ m ∈ numsSlot n s, okN m := by
 have hb := slot_bd h
 intro m hm
 simp only [numsSlot, List.mem_cons, List.not_mem_nil, or_false] at hm
 rcases hm with rfl | rfl
 ·exact okN_of (by decide) (by decide) (by decide) (by decide) (by omega) (by rw [top_eq]; omega) (by rw [pw4]; omega)
 ·exact okN_of (by decide) (by decide) (by decide) (by decide) (by omega) (by rw [top_eq]; omega) (by rw [pw1]; omega)
theorem lay_slot {n : Int} {s : ByteArray} (h : ∀ m ∈ numsSlot n s, okN m) (W : World) : Calls Tryz.prog 88 #[.slice (some ⟨W.heap.size, 0, none⟩) 2 2] (W.alloc (.cells #[.int .i64 0, .int .i64 4, .int .i64 n, .int .i64 4, .int .i64 1, .int .i64 s.size] 144)) fun e w' =>
  e = .returned (.tuple #[.agg (SA (layS (numsSlot n s))), .int .i64 0]) ∧ Below (W.heap.size + 1) (W.alloc (.cells #[.int .i64 0, .int .i64 4, .int .i64 n, .int .i64 4, .int .i64 1, .int .i64 s.size] 144)) w' := by
 have k := lay_any (numsSlot n s) W.heap.size 2 _ (nums_new W (numsSlot n s)) h (by simp [numsSlot]);rw [show (W.alloc (.cells (cellsN (numsSlot n s)).toArray 144)).heap.size = W.heap.size + 1 by simp] at k
 exact k

theorem conv_R {ops : Array Oper} {rest : List Oper} {o : Oper} {a : Act} {w : World} {Q : Exit → Act → World → Prop} (hgd : o.guard = none) (t1 t2 : TypeId) (x : Operand) (ho : o.op = .convert t1 t2 x) (v v' : Value) (w' : World) (hx : a.eval x = v)
  (hr : (convert t1 t2 v).run Tryz.prog w = .ok v' w') (h : wpList Tryz.prog ops Q rest (a.put o.dst v') w') : wpList Tryz.prog ops Q (o :: rest) a w :=
 wpList_plain hgd fun _ hK => by
  unfold Oper.wp execOp
  simp only [ho, hx, Sem.run_bind, hr, Result.andThen_ok, Sem.run_pure]
  exact hK _ _ h
theorem bytesI_len (s : ByteArray) : (bytesI s).length = s.size := by simp [bytesI]
theorem conv_new (s : ByteArray) (w : World) : ∃ cap w', (convert 9 140 (.string s)).run Tryz.prog w = .ok (.slice (some ⟨w.heap.size, 0, none⟩) s.size cap) w' ∧ BytesAt w' (some ⟨w.heap.size, 0, none⟩) (bytesI s) ∧ Below w.heap.size w w' := by
 have h := run_bytes_of_string (P := Tryz.prog) w 9 140 5 s Tryz.underlying9 Tryz.underlying140 Tryz.underlying5;refine ⟨_, _, h, ?_, (below_drew (Below.refl _ _)).alloc (Nat.le_refl _) _⟩;have hn : (w.drew.alloc (.cells (bytesRow s (grownCap w s.size 0 5)) 5 ((bytesRow s (grownCap w s.size 0 5)).size, (bytesRow s (grownCap w s.size 0 5)).size + 1))).heap[w.heap.size]? = some (.cells (bytesRow s (grownCap w s.size 0 5)) 5 ((bytesRow s (grownCap w s.size 0 5)).size, (bytesRow s (grownCap w s.size 0 5)).size + 1)) := heap_alloc_new w.drew _;refine .inr ⟨w.heap.size, 0, rfl, slt hn, fun j hj => ?_⟩;rw [bytesI_len] at hj;rw [Nat.zero_add, cell_of_row _ _ _ _ 5 _ hn];have hj' : j < s.data.size := hj
 simp [bytesRow, bytesI, Array.getElem?_append, hj]
theorem splice_name {n : Int} {s : ByteArray} (h : slotB n s = true) (ad : Option Addr) (cap : Nat) (W : World) (hB : BytesAt W ad (bytesI s)) :
  Calls Tryz.prog 120 #[.agg (SA (layS (numsSlot n s))), .int .i64 5, .slice ad s.size cap] W fun e w' => e = .returned (.tuple #[.agg (SA (spl (layS (numsSlot n s)) 5 (bytesI s))), .int .i64 0]) ∧ Below W.heap.size W w' := by
 have k := splice_any (layS (numsSlot n s)) 5 (bytesI s) ad cap W (layS_sec _).1 hB;have e := splS_in (layS (numsSlot n s)) (T := 5) (zs := bytesI s) (by rw [bytesI_len]; have := (slot_bd h).2.2; omega);have e1 : splS (layS (numsSlot n s)) 5 (bytesI s) = spl (layS (numsSlot n s)) 5 (bytesI s) := e.1;have e2 : splE 5 (bytesI s) = 0 := e.2;rw [bytesI_len, e1, e2] at k
 exact k

set_option maxRecDepth 100000 in
set_option maxHeartbeats 1000000 in
theorem slotSector_ok (n : Int) (s : ByteArray) (hH : s.size ≤ 40 → Has s) (w : World) (h : slotB n s = true) :
  Calls Tryz.prog 86 #[.agg #[.int .i64 n, .string s]] w fun e w' => e = .returned (.tuple #[.agg (SA (spl (layS (numsSlot n s)) 5 (bytesI s))), .int .i64 0]) ∧ Below w.heap.size w w' := by
 have hz := zero_sec
 have hm := fun w' => slotMayBe_any n s hH w'
 rw [h] at hm;have HLAY := hid (fun W => lay_slot (slot_ok h) W);have HSPF := hid (fun ad cap W hB => splice_name h ad cap W hB);have HLn := (layS_sec (numsSlot n s)).1
 have hln : (spl (layS (numsSlot n s)) 5 (bytesI s)).length = 128 := by rw [spl_len _ _ _ (by rw [HLn, bytesI_len]; have := (slot_bd h).2.2; omega), HLn]
 generalize spl (layS (numsSlot n s)) 5 (bytesI s) = SS at *
 generalize layS (numsSlot n s) = LL at *
 obtain ⟨W, hW⟩ : ∃ x, x = (w.alloc (.cells #[.int .i64 n, .string s] 83)).alloc (.cells (SA Zs) 33) := ⟨_, rfl⟩
 have HZ : Hid (W.heap[w.heap.size + 1]? = some (.cells (SA Zs) 33 (0, 0))) := by show _ = _; rw [hW]; exact heap_alloc2_new w _ _
 have HS : W.heap[w.heap.size]? = some (.cells #[.int .i64 n, .string s] 83 (0, 0)) := by rw [hW]; exact heap_alloc2_old w _ _
 have hb : Below w.heap.size w W := by rw [hW]; exact ((Below.refl _ _).alloc (Nat.le_refl _) _).alloc (by simp) _
 have hsz : W.heap.size = w.heap.size + 2 := by rw [hW]; simp
 go_enter Tryz.func86, Tryz.ntmps86
 go_upto_region 1 with fail
 rw [← hW];clear hW
 go_upto_region 3 with (first | refine load_R rfl 83 (.tmp 1) rfl w.heap.size rfl 83 _ _ HS Tryz.underlying83 rfl (by kernel_rfl) ?_ | (go_at_call 119; refine (hm _).mono ?_; rintro e w2 ⟨rfl, hb2⟩))
 have HS2 : w2.heap[w.heap.size]? = some (.cells #[.int .i64 n, .string s] 83 (0, 0)) := by rw [hb2.block _ (by omega)]; exact HS
 have HZ2 : Hid (w2.heap[w.heap.size + 1]? = some (.cells (SA Zs) 33 (0, 0))) := by show _ = _; rw [hb2.block _ (by omega)]; exact HZ.out
 have z2 := hb2.size;have hB2 := btr hb hb2 (by omega);have hc0 : w2.cell? ⟨w.heap.size, 0, none⟩ = some (.int .i64 n) := cell_of_row w2 w.heap.size 0 _ _ _ HS2;have hc1 : w2.cell? ⟨w.heap.size, 1, none⟩ = some (.string s) := cell_of_row w2 w.heap.size 1 _ _ _ HS2;clear HS hb hb2
 go_upto_region 4 with (first | (go_at_call 88; refine (HLAY.out _).mono ?_; rintro e w3 ⟨rfl, hb3⟩) | (refine store_sec rfl (.tmp 4) _ rfl w3.heap.size rfl _ rfl HLn Zs Zs_len (heap_alloc_new _ _) ?_; intro w4 hw4))
 have z3 := hb3.size
 have hs2 : (w2.alloc (.cells #[.int .i64 0, .int .i64 4, .int .i64 n, .int .i64 4, .int .i64 1, .int .i64 s.size] 144)).heap.size = w2.heap.size + 1 := by simp
 rw [hs2] at z3
 have z4 : w4.heap.size = w3.heap.size + 1 := by rw [hw4.size]; simp
 have k4 : ∀ k, k < w2.heap.size → w4.heap[k]? = w2.heap[k]? := fun k hk => by rw [hw4.other _ (by omega), Below.heap_alloc _ _ _ (by omega), hb3.block _ (by omega), Below.heap_alloc _ _ _ hk]
 have HS4 : w4.heap[w.heap.size]? = some (.cells #[.int .i64 n, .string s] 83 (0, 0)) := by rw [k4 _ (by omega)]; exact HS2
 have HZ4 : Hid (w4.heap[w.heap.size + 1]? = some (.cells (SA Zs) 33 (0, 0))) := by show _ = _; rw [k4 _ (by omega)]; exact HZ2.out
 have hB4 : Below w.heap.size w w4 := hw4.below ((btr (hB2.alloc (by omega) _) hb3 (by omega)).alloc (by omega) _) (by omega);have hd1 : w4.cell? ⟨w.heap.size, 1, none⟩ = some (.string s) := cell_of_row w4 w.heap.size 1 _ _ _ HS4;have HW4 := hid hw4.here;clear HS2 HZ2 hB2 hc0 hc1 hb3 hw4 k4 HS4
 go_upto_region 6 with fail
 obtain ⟨cap, w5, hcv, hB5, hb5⟩ := conv_new s w4;have HSP := hid (HSPF.out (some ⟨w4.heap.size, 0, none⟩) cap w5 hB5)
 have HZ5 : Hid (w5.heap[w.heap.size + 1]? = some (.cells (SA Zs) 33 (0, 0))) := by show _ = _; rw [hb5.block _ (slt HZ4.out)]; exact HZ4.out
 have z5 := hb5.size;have HCV := hid hcv
 have zz : w.heap.size + 2 ≤ w4.heap.size := by omega
 clear hB5 hcv z4 z3 z2 hs2 hsz
 go_wp2_with (first | refine load_sec rfl (.tmp 4) rfl w3.heap.size rfl _ HLn HW4.out ?_ | refine conv_R rfl 9 140 (.tmp 28) rfl _ _ _ rfl HCV.out ?_ | (go_at_call 120; refine HSP.out.mono ?_; rintro e w6 ⟨rfl, hb6⟩; have HZ6 : Hid (w6.heap[w.heap.size + 1]? = some (.cells (SA Zs) 33 (0, 0))) := by { show _ = _; rw [hb6.block _ (slt HZ5.out)]; exact HZ5.out }) | (refine store_sec rfl (.tmp 2) _ rfl (w.heap.size + 1) rfl _ rfl hln Zs Zs_len HZ6.out ?_; intro w7 hw7))
 exact bodyPost_ret (v := .tuple #[.agg (SA SS), .int .i64 0]) (results_sec Tryz.results86 _ _ (w.heap.size + 1) _ hln _ rfl rfl hw7.here) rfl ⟨rfl, hw7.below (btr (btr hB4 hb5 (by omega)) hb6 (by omega)) (by omega)⟩

set_option maxRecDepth 100000 in
set_option maxHeartbeats 1000000 in
theorem slotSector_bad (n : Int) (s : ByteArray) (hH : s.size ≤ 40 → Has s) (w : World) (h : slotB n s = false) :
  Calls Tryz.prog 86 #[.agg #[.int .i64 n, .string s]] w fun e w' => e = .returned (.tuple #[.agg (SA Zs), .int .i64 63]) ∧ Below w.heap.size w w' := by
 have hz := zero_sec;have hbs := build_sec
 have hm := fun w' => slotMayBe_any n s hH w'
 rw [h] at hm;obtain ⟨W, hW⟩ : ∃ x, x = (w.alloc (.cells #[.int .i64 n, .string s] 83)).alloc (.cells (SA Zs) 33) := ⟨_, rfl⟩
 have HZ : Hid (W.heap[w.heap.size + 1]? = some (.cells (SA Zs) 33 (0, 0))) := by show _ = _; rw [hW]; exact heap_alloc2_new w _ _
 have HS : W.heap[w.heap.size]? = some (.cells #[.int .i64 n, .string s] 83 (0, 0)) := by rw [hW]; exact heap_alloc2_old w _ _
 have hb : Below w.heap.size w W := by rw [hW]; exact ((Below.refl _ _).alloc (Nat.le_refl _) _).alloc (by simp) _
 have hsz : W.heap.size = w.heap.size + 2 := by rw [hW]; simp
 go_enter Tryz.func86, Tryz.ntmps86
 go_upto_region 1 with fail
 rw [← hW];clear hW
 go_wp2_with (first | refine load_R rfl 83 (.tmp 1) rfl w.heap.size rfl 83 _ _ HS Tryz.underlying83 rfl (by kernel_rfl) ?_ | (go_at_call 119; refine (hm _).mono ?_; rintro e w2 ⟨rfl, hb2⟩; have HZ2 : Hid (w2.heap[w.heap.size + 1]? = some (.cells (SA Zs) 33 (0, 0))) := by { show _ = _; rw [hb2.block _ (by omega)]; exact HZ.out }) | (refine store_sec rfl (.tmp 2) _ rfl (w.heap.size + 1) rfl Zs rfl Zs_len Zs Zs_len HZ2.out ?_; intro w3 hw3))
 exact bodyPost_ret (v := .tuple #[.agg (SA Zs), .int .i64 63]) (results_sec Tryz.results86 _ _ (w.heap.size + 1) Zs Zs_len _ rfl rfl hw3.here) rfl ⟨rfl, hw3.below (btr hb hb2 (by omega)) (by omega)⟩

theorem slotSector_any (n : Int) (s : ByteArray) (hH : s.size ≤ 40 → Has s) (w : World) :
  Calls Tryz.prog 86 #[.agg #[.int .i64 n, .string s]] w fun e w' => e = .returned (.tuple #[.agg (SA (slotS n s)), .int .i64 (slotE n s)]) ∧ Below w.heap.size w w' := by
 cases h : slotB n s
 ·rw [show slotS n s = Zs by simp [slotS, h], show slotE n s = 63 by simp [slotE, h]]
  exact slotSector_bad n s hH w h
 ·rw [show slotS n s = spl (layS (numsSlot n s)) 5 (bytesI s) by simp [slotS, h], show slotE n s = 0 by simp [slotE, h]]
  exact slotSector_ok n s hH w h
theorem bytesI_bd (s : ByteArray) : ∀ x ∈ bytesI s, 0 ≤ x ∧ x ≤ 255 := by
 intro x hx
 obtain ⟨b, _, rfl⟩ := List.mem_map.1 hx;have := b.toNat_lt
 omega
theorem slotS_sec (n : Int) (s : ByteArray) : IsSec (slotS n s) := by
 unfold slotS
 split
 ·rename_i h
  exact spl_sec (layS_sec _) 5 _ (by rw [bytesI_len]; have := (slot_bd h).2.2; omega) (bytesI_bd s)
 ·exact Zs_sec

end Go.Proofs.YtpmignilhoihnaaGreat

namespace Go.Proofs.YtpmignilhoihnaaGreat
open Go.RowKit

def strOf (c : List Int) : ByteArray := ⟨(c.map fun n => UInt8.ofNat n.toNat).toArray⟩
theorem foldl_push (c : List Int) : ∀ r : ByteArray, c.foldl (fun r n => r.push (UInt8.ofNat n.toNat)) r = ⟨r.data ++ (c.map fun n => UInt8.ofNat n.toNat).toArray⟩ := by
 induction c with
 | nil => intro r; simp
 | cons x c ih =>
  intro r
  rw [List.foldl_cons, ih]
  congr 1
  simp [ByteArray.push]
theorem conv_bytes (w : World) (b o : Nat) (c : List Int) (cap : Nat) (h : ∀ j, j < c.length → w.cell? ⟨b, o + j, none⟩ = some (.int .u8 (c.getD j 0))) :
  (convert 140 9 (.slice (some ⟨b, o, none⟩) c.length cap)).run Tryz.prog w = .ok (.string (strOf c)) w := by
 rw [run_convert_bytes_string w 140 9 5 _ _ _ Tryz.underlying140 Tryz.underlying5 Tryz.underlying9]
 have hl := run_loadCells_list (P := Tryz.prog) w ⟨b, o, none⟩ (c.map (Value.int .u8)) (fun j v hj => by
  have hlt : j < c.length := by
   rcases Nat.lt_or_ge j c.length with k | k
   ·exact k
   ·rw [List.getElem?_eq_none (by simpa using k)] at hj; cases hj
  rw [addr_add, h j hlt]
  simp [hlt] at hj
  simp [hlt, hj])
 rw [List.length_map] at hl;rw [run_bytesToString w _ c.length cap c hl, foldl_push]
 simp [strOf]


def szOf (s : List Int) : Nat := (s.getD 4 0).toNat
def nameOf (s : List Int) : ByteArray := strOf ((s.drop 5).take (szOf s))
def SLA (n : Int) (s : ByteArray) : Array Value := #[.int .i64 n, .string s]
theorem getV_small {s : List Int} (hs : IsSec s) {P L : Nat} (h : P + L ≤ 128) (h1 : 1 ≤ L) (h7 : L ≤ 7) : getV s P L = numAt s P L := by
 have hb := numAt_bd hs P L;have hin : inB (P : Int) (L : Int) = true := inB_true (by omega)
 have hp : (256 : Int) ^ L ≤ 256 ^ 7 := by
  have := Nat.pow_le_pow_right (n := 256) (by decide) h7;have e := Int.ofNat_le.2 this
  simpa [Int.natCast_pow] using e
 have e7 : (256 : Int) ^ 7 = 72057594037927936 := by decide
 have ht : numAt s P L ≤ top := by rw [top_eq]; omega
 unfold getV getE getN
 simp only [Int.toNat_natCast, hin, ht, if_true, and_self]
theorem getV_4 {s : List Int} (hs : IsSec s) : getV s 4 1 = (szOf s : Int) := by
 have h : getV s 4 1 = numAt s 4 1 := getV_small (P := 4) (L := 1) hs (by decide) (by decide) (by decide);have hb := hs.at 4;rw [h]
 simp only [numAt, szOf, Nat.add_zero, Int.pow_zero, Int.mul_one]
 omega
theorem szOf_le {s : List Int} (hs : IsSec s) : szOf s ≤ 255 := by have := hs.at 4; unfold szOf; omega

def rdSlot (n : Int) (s : List Int) : Int × ByteArray × Int := if szOf s ≤ 40 ∧ slotB n (nameOf s) = true ∧ slotS n (nameOf s) = s then (n, nameOf s, 0) else (0, ⟨#[]⟩, 63)

set_option maxRecDepth 100000 in
set_option maxHeartbeats 1000000 in
theorem readSlot_long (s : List Int) (hs : IsSec s) (hK : ¬ szOf s ≤ 40) (w : World) :
  Calls Tryz.prog 45 #[.agg (SA s)] w fun e w' => e = .returned (.tuple #[.agg (SLA 0 ⟨#[]⟩), .int .i64 63]) ∧ Below w.heap.size w w' := by
 have hzs : ∀ w', (zeroValue 83).run Tryz.prog w' = .ok (.agg #[.int .i64 0, .string ⟨#[]⟩]) w' := fun w' => by kernel_rfl
 have hg := fun w' => get1_any s 4 1 w' hs
 rw [getV_4 hs] at hg
 have hk : (40 : Int) < (szOf s : Int) := by omega
 generalize szOf s = K at *
 obtain ⟨W, hW⟩ : ∃ x, x = (w.alloc (.cells (SA s) 33)).alloc (.cells #[.int .i64 0, .string ⟨#[]⟩] 83) := ⟨_, rfl⟩
 have H1 : Hid (W.heap[w.heap.size]? = some (.cells (SA s) 33 (0, 0))) := by show _ = _; rw [hW]; exact heap_alloc2_old w _ _
 have H2 : Hid (W.heap[w.heap.size + 1]? = some (.cells #[.int .i64 0, .string ⟨#[]⟩] 83 (0, 0))) := by show _ = _; rw [hW]; exact heap_alloc2_new w _ _
 have hb : Below w.heap.size w W := by rw [hW]; exact ((Below.refl _ _).alloc (Nat.le_refl _) _).alloc (by simp) _
 have hsz : W.heap.size = w.heap.size + 2 := by rw [hW]; simp
 have hl := hs.1
 go_enter Tryz.func45, Tryz.ntmps45
 go_upto_region 1 with fail
 rw [← hW];clear hW
 go_wp2_with (first | refine load_sec rfl (.tmp 1) rfl w.heap.size rfl s hl H1.out ?_ | (go_at_call 71; refine (hg _).mono ?_; rintro e w2 ⟨rfl, hb2⟩; have HA2 : Hid (w2.heap[w.heap.size + 1]? = some (.cells #[.int .i64 0, .string ⟨#[]⟩] 83 (0, 0))) := by { show _ = _; rw [hb2.block _ (by omega)]; exact H2.out }) | (refine store_R rfl 83 (.tmp 2) _ rfl (w.heap.size + 1) _ rfl rfl 83 _ HA2.out (by kernel_rfl) rfl (by simp [Value.oneCell']) ?_; intro w4 hw4))
 exact bodyPost_ret (v := .tuple #[.agg (SLA 0 ⟨#[]⟩), .int .i64 63]) (results_R Tryz.results45 _ _ (w.heap.size + 1) _ 83 _ _ Tryz.underlying83 rfl (by kernel_rfl) rfl rfl hw4.here) rfl ⟨rfl, hw4.below (btr hb hb2 (by omega)) (by omega)⟩

set_option maxRecDepth 100000 in
set_option maxHeartbeats 4000000 in
theorem readSlot_short (s : List Int) (hs : IsSec s) (hK : szOf s ≤ 40) (hH : Has (nameOf s)) (w : World) :
  Calls Tryz.prog 45 #[.agg (SA s)] w fun e w' => e = .returned (.tuple #[.agg (SLA (rdSlot (getV s 0 4) s).1 (rdSlot (getV s 0 4) s).2.1), .int .i64 (rdSlot (getV s 0 4) s).2.2]) ∧ Below w.heap.size w w' := by
 have hz := zero_sec
 have hzs : ∀ w', (zeroValue 83).run Tryz.prog w' = .ok (.agg #[.int .i64 0, .string ⟨#[]⟩]) w' := fun w' => by kernel_rfl
 have hg := fun w' => get1_any s 4 1 w' hs
 rw [getV_4 hs] at hg;have hl := hs.1
 have hsup := fun w' => slotSector_any (getV s 0 4) (nameOf s) (fun _ => hH) w'
 have HSC := slotS_sec (getV s 0 4) (nameOf s)
 have hrd : rdSlot (getV s 0 4) s = if slotB (getV s 0 4) (nameOf s) = true ∧ slotS (getV s 0 4) (nameOf s) = s then ((getV s 0 4), nameOf s, 0) else (0, ⟨#[]⟩, 63) := by unfold rdSlot; simp [hK]
 have HCV : Hid (∀ w' : World, w'.heap[w.heap.size]? = some (.cells (SA s) 33 (0, 0)) → (convert 140 9 (.slice (some ⟨w.heap.size, 5, none⟩) (szOf s) 123)).run Tryz.prog w' = .ok (.string (nameOf s)) w') := fun w' h => by
  have hlen : ((s.drop 5).take (szOf s)).length = szOf s := by simp [hl]; omega
  have := conv_bytes w' w.heap.size 5 ((s.drop 5).take (szOf s)) 123 (fun j hj => by
   rw [hlen] at hj;rw [sec_cell h (5 + j) (by omega)]
   simp [List.getD_eq_getElem?_getD, hj])
  rw [hlen] at this
  exact this
 generalize hA : (getV s 0 4) = AA at *
 have HGA := hid (fun w' => get1_any s 0 4 w' hs);rw [hA] at HGA
 generalize nameOf s = NN at *
 generalize slotS AA NN = SX at *
 generalize hSB : slotB AA NN = SB at *
 generalize szOf s = K at *
 have hk : (K : Int) ≤ 40 := by omega
 have F1 : (5 : Int) ≤ 5 + (K : Int) := by omega
 have F2 : 5 + (K : Int) ≤ 128 := by omega
 obtain ⟨W, hW⟩ : ∃ x, x = (w.alloc (.cells (SA s) 33)).alloc (.cells #[.int .i64 0, .string ⟨#[]⟩] 83) := ⟨_, rfl⟩
 have hg1 : W.heap[w.heap.size]? = some (.cells (SA s) 33 (0, 0)) := by rw [hW]; exact heap_alloc2_old w _ _
 have hg2 : W.heap[w.heap.size + 1]? = some (.cells #[.int .i64 0, .string ⟨#[]⟩] 83 (0, 0)) := by rw [hW]; exact heap_alloc2_new w _ _
 have hbW : Below w.heap.size w W := by rw [hW]; exact ((Below.refl _ _).alloc (Nat.le_refl _) _).alloc (by simp) _
 have hsz : W.heap.size = w.heap.size + 2 := by rw [hW]; simp
 go_enter Tryz.func45, Tryz.ntmps45
 go_upto_region 1 with fail
 rw [← hW];clear hW
 go_upto_region 4 with (first | refine load_sec rfl (.tmp 1) rfl w.heap.size rfl s hl hg1 ?_ | (go_at_call 71; refine (hg _).mono ?_; rintro e w9 ⟨rfl, hb9⟩))
 have hg1' : w9.heap[w.heap.size]? = some (.cells (SA s) 33 (0, 0)) := by rw [hb9.block _ (by omega)]; exact hg1
 have hg2' : w9.heap[w.heap.size + 1]? = some (.cells #[.int .i64 0, .string ⟨#[]⟩] 83 (0, 0)) := by rw [hb9.block _ (by omega)]; exact hg2
 have hbW' : Below w.heap.size w w9 := btr hbW hb9 (by omega)
 have hz9 : w.heap.size + 2 ≤ w9.heap.size := by have := hb9.size; omega
 clear hg1 hg2 hbW hsz hb9 hg;obtain ⟨W, hW⟩ : ∃ x, x = w9 := ⟨_, rfl⟩;subst hW;obtain ⟨B, hB⟩ : ∃ x, x = W.heap.size := ⟨_, rfl⟩;have hg1 := hg1';clear hg1'
 go_cut [5] (fun x wc => ∃ g : Nat, x = .pointer (some ⟨g, 0, none⟩) ∧ Hid (B ≤ g ∧ wc.heap[g]? = some (.cells #[.int .i64 AA, .string NN] 83 (0, 0)) ∧ Below B W wc))
 case first =>
   refine wp_region_noPanic ?_;refine wp_region_held_drew (S := fun w' => w'.heap[w.heap.size]? = some (.cells (SA s) 33 (0, 0))) (by kernel_rfl) (hg1) (fun hHeld => ?_);have b0 : Below B W W.drew := below_drew (Below.refl _ _)
   have z0 : B ≤ W.drew.heap.size := by rw [hB]; exact Nat.le_refl _
   refine takeSec 0 13 (.tmp 1) w.heap.size s hs.1 rfl (by kernel_rfl) (by kernel_rfl) (by kernel_rfl) rfl rfl rfl (by rfl) (fun _ _ _ h => h) hHeld (fun _ h => h) ?_;simp only [sS];refine tV 2 15 (.int .i64 (K : Int)) rfl (by kernel_rfl) rfl (by rfl) hHeld (fun _ hw' => rfl) ?_;simp only [sS];refine tV 3 16 (.int .i64 (5 + (K : Int))) rfl (by kernel_rfl) rfl (by rfl) hHeld (fun _ hw' => by go_simp; exact IntWalk.i64_in _ (by omega)) ?_;simp only [sS];refine tV 4 17 (.slice (some ⟨w.heap.size, 5, none⟩) K 123) rfl (by kernel_rfl) rfl (by rfl) hHeld (fun _ hw' => by have f1 := F1; have f2 := F2; go_simp; omega) ?_;simp only [sS];refine tV 5 18 (.string NN) rfl (by kernel_rfl) rfl (by rfl) hHeld (fun _ hw' => by have hcv := HCV.out _ hw'; go_simp) ?_;simp only [sS];refine step2 1 7 (by kernel_rfl) ?_ ?_
   ·refine stCall 1 14 71 #[.agg (SA s), .int .i64 0, .int .i64 4] _ rfl rfl (by rfl) (by go_simp) (HGA.out _) ?_
    rintro e w1c ⟨rfl, hb1c⟩
    have b1c : Below B W w1c := btr b0 hb1c (by have := b0.size; omega)
    have z1c : B ≤ w1c.heap.size := by have := b1c.size; omega
    have hHeld : w1c.heap[w.heap.size]? = some (.cells (SA s) 33 (0, 0)) := by rw [b1c.block _ (by omega)]; exact hg1
    refine ⟨_, rfl, hHeld, ?_⟩;simp only [sS];refine tV 6 19 (.agg #[.int .i64 AA, .string NN]) rfl (by kernel_rfl) rfl (by rfl) hHeld (fun _ hw' => by go_simp) ?_;simp only [sS];refine step1 7 (by kernel_rfl) ?_;refine stNew 7 5 (.pointer (some ⟨w1c.heap.size, 0, none⟩)) (.cells #[.int .i64 0, .string ⟨#[]⟩] 83) rfl rfl (by rfl) (by go_simp) ?_;have b2a : Below B W (w1c.alloc (.cells #[.int .i64 0, .string ⟨#[]⟩] 83)) := b1c.alloc (by have := b1c.size; omega) _
    have p2a : B ≤ w1c.heap.size := by have := b1c.size; omega
    have q2a : (w1c.alloc (.cells #[.int .i64 0, .string ⟨#[]⟩] 83)).heap[w1c.heap.size]? = some (.cells #[.int .i64 0, .string ⟨#[]⟩] 83 (0, 0)) := heap_alloc_new _ _
    have hHeld : (w1c.alloc (.cells #[.int .i64 0, .string ⟨#[]⟩] 83)).heap[w.heap.size]? = some (.cells (SA s) 33 (0, 0)) := by rw [b2a.block _ (by omega)]; exact hg1
    refine ⟨hHeld, ?_⟩;simp only [sS];refine step1 8 (by kernel_rfl) ?_;refine stStoreR 8 83 (.tmp 5) (.tmp 19) (w1c.heap.size) #[.int .i64 AA, .string NN] 83 #[.int .i64 0, .string ⟨#[]⟩] rfl rfl (by rfl) rfl rfl rfl q2a (by kernel_rfl) rfl (by simp [Value.oneCell']) ?_
    intro wT hT
    have bT := hT.below b2a (by omega);refine ⟨by rw [bT.block _ (by omega)]; exact hg1, ?_⟩;refine wpAnyH_done (by kernel_rfl) ?_ _;refine NoPanic.normal ?_;clear hHeld;have hP := hid (And.intro (show B ≤ w1c.heap.size by omega) (And.intro hT.here bT))
    go_wp2_with fail
    go_meet
    case rel => exact ⟨_, rfl, hP⟩
   ·refine stNew 7 5 (.pointer (some ⟨W.drew.heap.size, 0, none⟩)) (.cells #[.int .i64 0, .string ⟨#[]⟩] 83) rfl rfl (by rfl) (by go_simp) ?_
    have b3a : Below B W (W.drew.alloc (.cells #[.int .i64 0, .string ⟨#[]⟩] 83)) := b0.alloc (by have := b0.size; omega) _
    have p3a : B ≤ W.drew.heap.size := by have := b0.size; omega
    have q3a : (W.drew.alloc (.cells #[.int .i64 0, .string ⟨#[]⟩] 83)).heap[W.drew.heap.size]? = some (.cells #[.int .i64 0, .string ⟨#[]⟩] 83 (0, 0)) := heap_alloc_new _ _
    have hHeld : (W.drew.alloc (.cells #[.int .i64 0, .string ⟨#[]⟩] 83)).heap[w.heap.size]? = some (.cells (SA s) 33 (0, 0)) := by rw [b3a.block _ (by omega)]; exact hg1
    refine ⟨hHeld, ?_⟩;simp only [sS];refine step1 1 (by kernel_rfl) ?_;refine stCall 1 14 71 #[.agg (SA s), .int .i64 0, .int .i64 4] _ rfl rfl (by rfl) (by go_simp) (HGA.out _) ?_
    rintro e w4c ⟨rfl, hb4c⟩
    have b4c : Below B W w4c := btr b3a hb4c (by have := b3a.size; omega)
    have z4c : B ≤ w4c.heap.size := by have := b4c.size; omega
    have hHeld : w4c.heap[w.heap.size]? = some (.cells (SA s) 33 (0, 0)) := by rw [b4c.block _ (by omega)]; exact hg1
    have q4c : w4c.heap[W.drew.heap.size]? = some (.cells #[.int .i64 0, .string ⟨#[]⟩] 83 (0, 0)) := by rw [hb4c.block _ (slt q3a)]; exact q3a
    refine ⟨_, rfl, hHeld, ?_⟩;simp only [sS];refine tV 6 19 (.agg #[.int .i64 AA, .string NN]) rfl (by kernel_rfl) rfl (by rfl) hHeld (fun _ hw' => by go_simp) ?_;simp only [sS];refine step1 8 (by kernel_rfl) ?_;refine stStoreR 8 83 (.tmp 5) (.tmp 19) (W.drew.heap.size) #[.int .i64 AA, .string NN] 83 #[.int .i64 0, .string ⟨#[]⟩] rfl rfl (by rfl) rfl rfl rfl q4c (by kernel_rfl) rfl (by simp [Value.oneCell']) ?_
    intro wT hT
    have bT := hT.below b4c (by omega);refine ⟨by rw [bT.block _ (by omega)]; exact hg1, ?_⟩;refine wpAnyH_done (by kernel_rfl) ?_ _;refine NoPanic.normal ?_;clear hHeld;have hP := hid (And.intro (show B ≤ W.drew.heap.size by omega) (And.intro hT.here bT))
    go_wp2_with fail
    go_meet
    case rel => exact ⟨_, rfl, hP⟩
 case rest =>
  obtain ⟨g, rfl, HG⟩ := hcut;obtain ⟨hge, hgr, hbc⟩ := HG.out
  have h1 : wc.heap[w.heap.size]? = some (.cells (SA s) 33 (0, 0)) := by rw [hbc.block _ (by omega)]; exact hg1
  have h2 : wc.heap[w.heap.size + 1]? = some (.cells #[.int .i64 0, .string ⟨#[]⟩] 83 (0, 0)) := by rw [hbc.block _ (by omega)]; exact hg2'
  have hcw : Below w.heap.size w wc := btr hbW' hbc (by omega);have H1 := hid h1;have H2 := hid h2;have HR := hid hgr;have HC := hid hcw;have hgd := guard_sec;clear hg1 hg2' hbW' hB hgr h1 h2 hcw hbc HG HCV HGA
  cases SB
  ·have HV : Hid (rdSlot AA s = (0, ⟨#[]⟩, 63)) := by show _ = _; rw [hrd]; simp
   have hE : slotE AA NN = 63 := by simp [slotE, hSB]
   rw [hE] at hsup;have HLS := hid HSC.1;clear HSC
   go_wp2_with (first | refine load_R rfl 83 (.tmp 5) rfl g rfl 83 _ _ HR.out Tryz.underlying83 rfl (by kernel_rfl) ?_ | (go_at_call 86; refine (hsup _).mono ?_; rintro e w2 ⟨rfl, hb2⟩) | (refine store_sec rfl (.tmp 6) _ rfl w2.heap.size rfl _ rfl HLS.out Zs Zs_len (heap_alloc_new _ _) ?_; intro w3 hw3; obtain ⟨HA1, HA2, HAR, HAC⟩ := after_new (t := 83) hb2 hw3 H1.out H2.out HR.out HC.out) | (refine store_R rfl 83 (.tmp 2) _ rfl (w.heap.size + 1) _ rfl rfl 83 _ HA2.out (by kernel_rfl) rfl (by simp [Value.oneCell']) ?_; intro w4 hw4))
   rw [HV.out]
   exact bodyPost_ret (v := .tuple #[.agg (SLA 0 ⟨#[]⟩), .int .i64 63]) (results_R Tryz.results45 _ _ (w.heap.size + 1) _ 83 _ _ Tryz.underlying83 rfl (by kernel_rfl) rfl rfl hw4.here) rfl ⟨rfl, hw4.below HAC.out (by omega)⟩
  ·have hE : slotE AA NN = 0 := by simp [slotE, hSB]
   rw [hE] at hsup
   by_cases hq : SX = s
   ·have HV : Hid (rdSlot AA s = (AA, NN, 0)) := by show _ = _; rw [hrd]; simp [hq]
    have heq : ∀ w', (Op.equalIn 10000 33 (.agg (SA SX)) (.agg (SA s))).run Tryz.prog w' = .ok true w' := fun w' => by rw [eq_sec _ _ HSC.1 hl, decide_eq_true hq]
    have HLS := hid HSC.1;clear hq HSC
    go_wp2_with (first | refine load_R rfl 83 (.tmp 5) rfl g rfl 83 _ _ HR.out Tryz.underlying83 rfl (by kernel_rfl) ?_ | (go_at_call 86; refine (hsup _).mono ?_; rintro e w2 ⟨rfl, hb2⟩) | (refine store_sec rfl (.tmp 6) _ rfl w2.heap.size rfl _ rfl HLS.out Zs Zs_len (heap_alloc_new _ _) ?_; intro w3 hw3; obtain ⟨HA1, HA2, HAR, HAC⟩ := after_new (t := 83) hb2 hw3 H1.out H2.out HR.out HC.out) | refine load_sec_g (.tmp 6) rfl w2.heap.size rfl _ HLS.out hw3.here rfl ?_ | refine load_sec_g (.tmp 1) rfl w.heap.size rfl s hl HA1.out rfl ?_ | refine load_R rfl 83 (.tmp 5) rfl g rfl 83 _ _ HAR.out Tryz.underlying83 rfl (by kernel_rfl) ?_ | (refine store_R rfl 83 (.tmp 2) _ rfl (w.heap.size + 1) _ rfl rfl 83 _ HA2.out (by kernel_rfl) rfl (by simp [Value.oneCell']) ?_; intro w4 hw4))
    rw [HV.out]
    exact bodyPost_ret (v := .tuple #[.agg (SLA AA NN), .int .i64 0]) (results_R Tryz.results45 _ _ (w.heap.size + 1) _ 83 _ _ Tryz.underlying83 rfl (by kernel_rfl) rfl rfl hw4.here) rfl ⟨rfl, hw4.below HAC.out (by omega)⟩
   ·have HV : Hid (rdSlot AA s = (0, ⟨#[]⟩, 63)) := by show _ = _; rw [hrd]; simp [hq]
    have heq : ∀ w', (Op.equalIn 10000 33 (.agg (SA SX)) (.agg (SA s))).run Tryz.prog w' = .ok false w' := fun w' => by rw [eq_sec _ _ HSC.1 hl, decide_eq_false hq]
    have HLS := hid HSC.1;clear hq HSC
    go_wp2_with (first | refine load_R rfl 83 (.tmp 5) rfl g rfl 83 _ _ HR.out Tryz.underlying83 rfl (by kernel_rfl) ?_ | (go_at_call 86; refine (hsup _).mono ?_; rintro e w2 ⟨rfl, hb2⟩) | (refine store_sec rfl (.tmp 6) _ rfl w2.heap.size rfl _ rfl HLS.out Zs Zs_len (heap_alloc_new _ _) ?_; intro w3 hw3; obtain ⟨HA1, HA2, HAR, HAC⟩ := after_new (t := 83) hb2 hw3 H1.out H2.out HR.out HC.out) | refine load_sec_g (.tmp 6) rfl w2.heap.size rfl _ HLS.out hw3.here rfl ?_ | refine load_sec_g (.tmp 1) rfl w.heap.size rfl s hl HA1.out rfl ?_ | (refine store_R rfl 83 (.tmp 2) _ rfl (w.heap.size + 1) _ rfl rfl 83 _ HA2.out (by kernel_rfl) rfl (by simp [Value.oneCell']) ?_; intro w4 hw4))
    rw [HV.out]
    exact bodyPost_ret (v := .tuple #[.agg (SLA 0 ⟨#[]⟩), .int .i64 63]) (results_R Tryz.results45 _ _ (w.heap.size + 1) _ 83 _ _ Tryz.underlying83 rfl (by kernel_rfl) rfl rfl hw4.here) rfl ⟨rfl, hw4.below HAC.out (by omega)⟩

theorem readSlot_any (s : List Int) (hs : IsSec s) (hH : szOf s ≤ 40 → Has (nameOf s)) (w : World) :
  Calls Tryz.prog 45 #[.agg (SA s)] w fun e w' => e = .returned (.tuple #[.agg (SLA (rdSlot (getV s 0 4) s).1 (rdSlot (getV s 0 4) s).2.1), .int .i64 (rdSlot (getV s 0 4) s).2.2]) ∧ Below w.heap.size w w' := by
 by_cases hK : szOf s ≤ 40
 ·exact readSlot_short s hs hK (hH hK) w
 ·rw [show rdSlot (getV s 0 4) s = (0, ⟨#[]⟩, 63) by unfold rdSlot; simp [hK]]
  exact readSlot_long s hs hK w

end Go.Proofs.YtpmignilhoihnaaGreat
