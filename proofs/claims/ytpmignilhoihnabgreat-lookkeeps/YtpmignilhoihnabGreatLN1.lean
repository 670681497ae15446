/-
 layout.nameMayBe, slotMayBe: whether a name, a slot may be; strings.ContainsAny by the library's own contract.
-/
import Derived.Test.YtpmignilhoihnabGreatShelf
import Derived.Test.YtpmignilhoihnabGreatLI3
import Derived.Test.YtpmignilhoihnabGreatL3
import Derived.Laws.IdiomStrings
import Derived.Test.YtpmignilhoihnabGreatWSplice
namespace Go.Proofs.YtpmignilhoihnabGreat
open Go.RowKit

def two : ByteArray := ⟨#[0, 47]⟩
def hasB (s : ByteArray) : Bool := Lib.containsAny s.data.toList two.data.toList
def Has (s : ByteArray) : Prop := ∀ w, Calls Tryz.prog 118 #[.string s, .string two] w fun e w' => e = .returned (.bool (hasB s)) ∧ Below w.heap.size w w'
theorem set116 : (Tryz.prog.info? (layAny_ren.t 116)).map (fun i => (i.zero, i.size)) = some (some (.agg (Array.replicate 256 (.bool false))), 256) := by kernel_rfl
def nameB (s : ByteArray) : Bool := decide (1 ≤ s.size ∧ s.size ≤ 40) && (!hasB s && (!(s.toList == [46]) && !(s.toList == [46, 46])))

theorem toList_one : (⟨#[46]⟩ : ByteArray).toList = [46] := by rw [ByteArray.toList_eq]
theorem toList_two : (⟨#[46, 46]⟩ : ByteArray).toList = [46, 46] := by rw [ByteArray.toList_eq]

set_option maxHeartbeats 1000000 in
theorem nameMayBe_any (s : ByteArray) (hH : s.size ≤ 40 → Has s) (w : World) :
  Calls Tryz.prog 105 #[.string s] w fun e w' => e = .returned (.bool (nameB s)) ∧ Below w.heap.size w w' := by
 by_cases h1 : (s.size : Int) < 1
 ·have HV : Hid (nameB s = false) := by show _ = _; unfold nameB; rw [decide_eq_false (by omega)]; rfl
  go_enter Tryz.func105, Tryz.ntmps105
  go_wp2
  go_ret
  exact ⟨by rw [HV.out]; rfl, Below.refl _ _⟩
 ·by_cases h2 : (40 : Int) < s.size
  ·have HV : Hid (nameB s = false) := by show _ = _; unfold nameB; rw [decide_eq_false (by omega)]; rfl
   go_enter Tryz.func105, Tryz.ntmps105
   go_wp2
   go_ret
   exact ⟨by rw [HV.out]; rfl, Below.refl _ _⟩
  ·have HV : Hid (nameB s = (!hasB s && (!(s.toList == [46]) && !(s.toList == [46, 46])))) := by show _ = _; unfold nameB; rw [decide_eq_true (by omega)]; rfl
   have e1 := toList_one;have e2 := toList_two;have hHs := hH (by omega);unfold Has two at hHs
   cases hb : hasB s
   ·rw [hb] at hHs
    cases k1 : (s.toList == [46])
    ·cases k2 : (s.toList == [46, 46])
     ·go_enter Tryz.func105, Tryz.ntmps105
      go_wp2_with (go_at_call 118; refine (hHs _).mono ?_; rintro e w2 ⟨rfl, hb2⟩)
      go_ret
      exact ⟨by rw [HV.out, hb, k1, k2]; rfl, hb2⟩
     ·go_enter Tryz.func105, Tryz.ntmps105
      go_wp2_with (go_at_call 118; refine (hHs _).mono ?_; rintro e w2 ⟨rfl, hb2⟩)
      go_ret
      exact ⟨by rw [HV.out, hb, k1, k2]; rfl, hb2⟩
    ·go_enter Tryz.func105, Tryz.ntmps105
     go_wp2_with (go_at_call 118; refine (hHs _).mono ?_; rintro e w2 ⟨rfl, hb2⟩)
     go_ret
     exact ⟨by rw [HV.out, hb, k1]; rfl, hb2⟩
   ·rw [hb] at hHs
    go_enter Tryz.func105, Tryz.ntmps105
    go_wp2_with (go_at_call 118; refine (hHs _).mono ?_; rintro e w2 ⟨rfl, hb2⟩)
    go_ret
    exact ⟨by rw [HV.out, hb]; rfl, hb2⟩

def slotB (n : Int) (s : ByteArray) : Bool := if n = 0 then s.toList.isEmpty else decide (1 ≤ n ∧ n ≤ 512) && nameB s
theorem toList_nil : (⟨#[]⟩ : ByteArray).toList = [] := by rw [ByteArray.toList_eq]

set_option maxHeartbeats 1000000 in
theorem slotMayBe_any (n : Int) (s : ByteArray) (hH : s.size ≤ 40 → Has s) (w : World) :
  Calls Tryz.prog 97 #[.agg #[.int .i64 n, .string s]] w fun e w' => e = .returned (.bool (slotB n s)) ∧ Below w.heap.size w w' := by
 have hb : Below w.heap.size w (w.alloc (.cells #[.int .i64 n, .string s] 82)) := (Below.refl _ _).alloc (Nat.le_refl _) _;have e0 := toList_nil
 by_cases h0 : n = 0
 ·have HV : Hid (slotB n s = s.toList.isEmpty) := by show _ = _; unfold slotB; rw [if_pos h0]
  subst h0
  go_enter Tryz.func97, Tryz.ntmps97
  go_wp2
  go_ret
  exact ⟨by rw [HV.out]; rfl, hb⟩
 ·have h0' : (n == 0) = false := by simp [h0]
  by_cases h1 : 1 ≤ n
  ·by_cases h2 : n ≤ 512
   ·have HV : Hid (slotB n s = nameB s) := by show _ = _; unfold slotB; rw [if_neg h0, decide_eq_true ⟨h1, h2⟩]; rfl
    have hn := fun w' => nameMayBe_any s hH w'
    go_enter Tryz.func97, Tryz.ntmps97
    go_wp2_with (go_at_call 105; refine (hn _).mono ?_; rintro e w2 ⟨rfl, hb2⟩)
    go_ret
    exact ⟨by rw [HV.out]; rfl, btr hb hb2 (by simp)⟩
   ·have HV : Hid (slotB n s = false) := by show _ = _; unfold slotB; rw [if_neg h0, decide_eq_false (by omega)]; rfl
    go_enter Tryz.func97, Tryz.ntmps97
    go_wp2
    go_ret
    exact ⟨by rw [HV.out]; rfl, hb⟩
  ·have HV : Hid (slotB n s = false) := by show _ = _; unfold slotB; rw [if_neg h0, decide_eq_false (by omega)]; rfl
   go_enter Tryz.func97, Tryz.ntmps97
   go_wp2
   go_ret
   exact ⟨by rw [HV.out]; rfl, hb⟩

def bytesI (s : ByteArray) : List Int := s.data.toList.map fun b => (b.toNat : Int)
def numsSlot (n : Int) (s : ByteArray) : List Num := [(0, 4, n), (4, 1, s.size)]
def slotS (n : Int) (s : ByteArray) : List Int := if slotB n s = true then spl (layS (numsSlot n s)) 5 (bytesI s) else Zs
def slotE (n : Int) (s : ByteArray) : Int := if slotB n s = true then 0 else 63

theorem size_eq (s : ByteArray) : s.toList.length = s.size := by rw [ByteArray.toList_eq]; simp
theorem slot_bd {n : Int} {s : ByteArray} (h : slotB n s = true) : 0 ≤ n ∧ n ≤ 512 ∧ s.size ≤ 40 := by
 unfold slotB at h
 split at h
 ·have e := size_eq s
  rw [List.isEmpty_iff.1 h] at e
  simp at e
  omega
 ·rw [Bool.and_eq_true] at h
  have h1 := of_decide_eq_true h.1;have h2 := h.2;unfold nameB at h2;rw [Bool.and_eq_true] at h2;have h3 := of_decide_eq_true h2.1
  omega
theorem slot_ok {n : Int} {s : ByteArray} (h : slotB n s = true) : ∀ m ∈ numsSlot n s, okN m := by
 have hb := slot_bd h
 intro m hm
 simp only [numsSlot, List.mem_cons, List.not_mem_nil, or_false] at hm
 rcases hm with rfl | rfl
 ·exact okN_of (by decide) (by decide) (by decide) (by decide) (by omega) (by rw [top_eq]; omega) (by rw [pw4]; omega)
 ·exact okN_of (by decide) (by decide) (by decide) (by decide) (by omega) (by rw [top_eq]; omega) (by rw [pw1]; omega)
theorem lay_slot {n : Int} {s : ByteArray} (h : ∀ m ∈ numsSlot n s, okN m) (W : World) : Calls Tryz.prog 69 #[.slice (some ⟨W.heap.size, 0, none⟩) 2 2] (W.alloc (.cells #[.int .i64 0, .int .i64 4, .int .i64 n, .int .i64 4, .int .i64 1, .int .i64 s.size] 128)) fun e w' =>
  e = .returned (.tuple #[.agg (SA (layS (numsSlot n s))), .int .i64 0]) ∧ Below (W.heap.size + 1) (W.alloc (.cells #[.int .i64 0, .int .i64 4, .int .i64 n, .int .i64 4, .int .i64 1, .int .i64 s.size] 128)) w' := by
 have k := lay_any (numsSlot n s) W.heap.size 2 _ (nums_new W (numsSlot n s)) h (by simp [numsSlot]);rw [show (W.alloc (.cells (cellsN (numsSlot n s)).toArray 128)).heap.size = W.heap.size + 1 by simp] at k
 exact k

theorem conv_R {ops : Array Oper} {rest : List Oper} {o : Oper} {a : Act} {w : World} {Q : Exit → Act → World → Prop} (hgd : o.guard = none) (t1 t2 : TypeId) (x : Operand) (ho : o.op = .convert t1 t2 x) (v v' : Value) (w' : World) (hx : a.eval x = v)
  (hr : (convert t1 t2 v).run Tryz.prog w = .ok v' w') (h : wpList Tryz.prog ops Q rest (a.put o.dst v') w') : wpList Tryz.prog ops Q (o :: rest) a w :=
 wpList_plain hgd fun _ hK => by
  unfold Oper.wp execOp
  simp only [ho, hx, Sem.run_bind, hr, Result.andThen_ok, Sem.run_pure]
  exact hK _ _ h
theorem bytesI_len (s : ByteArray) : (bytesI s).length = s.size := by simp [bytesI]
theorem conv_new (s : ByteArray) (w : World) : ∃ cap w', (convert 9 124 (.string s)).run Tryz.prog w = .ok (.slice (some ⟨w.heap.size, 0, none⟩) s.size cap) w' ∧ BytesAt w' (some ⟨w.heap.size, 0, none⟩) (bytesI s) ∧ Below w.heap.size w w' := by
 have h := run_bytes_of_string (P := Tryz.prog) w 9 124 5 s Tryz.underlying9 Tryz.underlying124 Tryz.underlying5;refine ⟨_, _, h, ?_, (below_drew (Below.refl _ _)).alloc (Nat.le_refl _) _⟩;have hn : (w.drew.alloc (.cells (bytesRow s (grownCap w s.size 0 5)) 5 ((bytesRow s (grownCap w s.size 0 5)).size, (bytesRow s (grownCap w s.size 0 5)).size + 1))).heap[w.heap.size]? = some (.cells (bytesRow s (grownCap w s.size 0 5)) 5 ((bytesRow s (grownCap w s.size 0 5)).size, (bytesRow s (grownCap w s.size 0 5)).size + 1)) := heap_alloc_new w.drew _;refine .inr ⟨w.heap.size, 0, rfl, slt hn, fun j hj => ?_⟩;rw [bytesI_len] at hj;rw [Nat.zero_add, cell_of_row _ _ _ _ 5 _ hn];have hj' : j < s.data.size := hj
 simp [bytesRow, bytesI, Array.getElem?_append, hj]
theorem splice_name {n : Int} {s : ByteArray} (h : slotB n s = true) (ad : Option Addr) (cap : Nat) (W : World) (hB : BytesAt W ad (bytesI s)) :
  Calls Tryz.prog 98 #[.agg (SA (layS (numsSlot n s))), .int .i64 5, .slice ad s.size cap] W fun e w' => e = .returned (.tuple #[.agg (SA (spl (layS (numsSlot n s)) 5 (bytesI s))), .int .i64 0]) ∧ Below W.heap.size W w' := by
 have k := splice_any (layS (numsSlot n s)) 5 (bytesI s) ad cap W (layS_sec _).1 hB;have e := splS_in (layS (numsSlot n s)) (T := 5) (zs := bytesI s) (by rw [bytesI_len]; have := (slot_bd h).2.2; omega);have e1 : splS (layS (numsSlot n s)) 5 (bytesI s) = spl (layS (numsSlot n s)) 5 (bytesI s) := e.1;have e2 : splE 5 (bytesI s) = 0 := e.2;rw [bytesI_len, e1, e2] at k
 exact k

set_option maxRecDepth 100000 in
set_option maxHeartbeats 1000000 in
theorem slotSector_ok (n : Int) (s : ByteArray) (hH : s.size ≤ 40 → Has s) (w : World) (h : slotB n s = true) :
  Calls Tryz.prog 67 #[.agg #[.int .i64 n, .string s]] w fun e w' => e = .returned (.tuple #[.agg (SA (spl (layS (numsSlot n s)) 5 (bytesI s))), .int .i64 0]) ∧ Below w.heap.size w w' := by
 have hz := zero_sec
 have hm := fun w' => slotMayBe_any n s hH w'
 rw [h] at hm;have HLAY := hid (fun W => lay_slot (slot_ok h) W);have HSPF := hid (fun ad cap W hB => splice_name h ad cap W hB);have HLn := (layS_sec (numsSlot n s)).1
 have hln : (spl (layS (numsSlot n s)) 5 (bytesI s)).length = 128 := by rw [spl_len _ _ _ (by rw [HLn, bytesI_len]; have := (slot_bd h).2.2; omega), HLn]
 generalize spl (layS (numsSlot n s)) 5 (bytesI s) = SS at *
 generalize layS (numsSlot n s) = LL at *
 obtain ⟨W, hW⟩ : ∃ x, x = (w.alloc (.cells #[.int .i64 n, .string s] 82)).alloc (.cells (SA Zs) 36) := ⟨_, rfl⟩
 have HZ : Hid (W.heap[w.heap.size + 1]? = some (.cells (SA Zs) 36 (0, 0))) := by show _ = _; rw [hW]; exact heap_alloc2_new w _ _
 have HS : W.heap[w.heap.size]? = some (.cells #[.int .i64 n, .string s] 82 (0, 0)) := by rw [hW]; exact heap_alloc2_old w _ _
 have hb : Below w.heap.size w W := by rw [hW]; exact ((Below.refl _ _).alloc (Nat.le_refl _) _).alloc (by simp) _
 have hsz : W.heap.size = w.heap.size + 2 := by rw [hW]; simp
 go_enter Tryz.func67, Tryz.ntmps67
 go_upto_region 1 with fail
 rw [← hW];clear hW
 go_upto_region 3 with (first | refine load_R rfl 82 (.tmp 1) rfl w.heap.size rfl 82 _ _ HS Tryz.underlying82 rfl (by kernel_rfl) ?_ | (go_at_call 97; refine (hm _).mono ?_; rintro e w2 ⟨rfl, hb2⟩))
 have HS2 : w2.heap[w.heap.size]? = some (.cells #[.int .i64 n, .string s] 82 (0, 0)) := by rw [hb2.block _ (by omega)]; exact HS
 have HZ2 : Hid (w2.heap[w.heap.size + 1]? = some (.cells (SA Zs) 36 (0, 0))) := by show _ = _; rw [hb2.block _ (by omega)]; exact HZ.out
 have z2 := hb2.size;have hB2 := btr hb hb2 (by omega);have hc0 : w2.cell? ⟨w.heap.size, 0, none⟩ = some (.int .i64 n) := cell_of_row w2 w.heap.size 0 _ _ _ HS2;have hc1 : w2.cell? ⟨w.heap.size, 1, none⟩ = some (.string s) := cell_of_row w2 w.heap.size 1 _ _ _ HS2;clear HS hb hb2
 go_upto_region 4 with (first | (go_at_call 69; refine (HLAY.out _).mono ?_; rintro e w3 ⟨rfl, hb3⟩) | (refine store_sec rfl (.tmp 4) _ rfl w3.heap.size rfl _ rfl HLn Zs Zs_len (heap_alloc_new _ _) ?_; intro w4 hw4))
 have z3 := hb3.size
 have hs2 : (w2.alloc (.cells #[.int .i64 0, .int .i64 4, .int .i64 n, .int .i64 4, .int .i64 1, .int .i64 s.size] 128)).heap.size = w2.heap.size + 1 := by simp
 rw [hs2] at z3
 have z4 : w4.heap.size = w3.heap.size + 1 := by rw [hw4.size]; simp
 have k4 : ∀ k, k < w2.heap.size → w4.heap[k]? = w2.heap[k]? := fun k hk => by rw [hw4.other _ (by omega), Below.heap_alloc _ _ _ (by omega), hb3.block _ (by omega), Below.heap_alloc _ _ _ hk]
 have HS4 : w4.heap[w.heap.size]? = some (.cells #[.int .i64 n, .string s] 82 (0, 0)) := by rw [k4 _ (by omega)]; exact HS2
 have HZ4 : Hid (w4.heap[w.heap.size + 1]? = some (.cells (SA Zs) 36 (0, 0))) := by show _ = _; rw [k4 _ (by omega)]; exact HZ2.out
 have hB4 : Below w.heap.size w w4 := hw4.below ((btr (hB2.alloc (by omega) _) hb3 (by omega)).alloc (by omega) _) (by omega);have hd1 : w4.cell? ⟨w.heap.size, 1, none⟩ = some (.string s) := cell_of_row w4 w.heap.size 1 _ _ _ HS4;have HW4 := hid hw4.here;clear HS2 HZ2 hB2 hc0 hc1 hb3 hw4 k4 HS4
 go_upto_region 6 with fail
 obtain ⟨cap, w5, hcv, hB5, hb5⟩ := conv_new s w4;have HSP := hid (HSPF.out (some ⟨w4.heap.size, 0, none⟩) cap w5 hB5)
 have HZ5 : Hid (w5.heap[w.heap.size + 1]? = some (.cells (SA Zs) 36 (0, 0))) := by show _ = _; rw [hb5.block _ (slt HZ4.out)]; exact HZ4.out
 have z5 := hb5.size;have HCV := hid hcv
 have zz : w.heap.size + 2 ≤ w4.heap.size := by omega
 clear hB5 hcv z4 z3 z2 hs2 hsz
 go_wp2_with (first | refine load_sec rfl (.tmp 4) rfl w3.heap.size rfl _ HLn HW4.out ?_ | refine conv_R rfl 9 124 (.tmp 28) rfl _ _ _ rfl HCV.out ?_ | (go_at_call 98; refine HSP.out.mono ?_; rintro e w6 ⟨rfl, hb6⟩; have HZ6 : Hid (w6.heap[w.heap.size + 1]? = some (.cells (SA Zs) 36 (0, 0))) := by { show _ = _; rw [hb6.block _ (slt HZ5.out)]; exact HZ5.out }) | (refine store_sec rfl (.tmp 2) _ rfl (w.heap.size + 1) rfl _ rfl hln Zs Zs_len HZ6.out ?_; intro w7 hw7))
 exact bodyPost_ret (v := .tuple #[.agg (SA SS), .int .i64 0]) (results_sec Tryz.results67 _ _ (w.heap.size + 1) _ hln _ rfl rfl hw7.here) rfl ⟨rfl, hw7.below (btr (btr hB4 hb5 (by omega)) hb6 (by omega)) (by omega)⟩

set_option maxRecDepth 100000 in
set_option maxHeartbeats 1000000 in
theorem slotSector_bad (n : Int) (s : ByteArray) (hH : s.size ≤ 40 → Has s) (w : World) (h : slotB n s = false) :
  Calls Tryz.prog 67 #[.agg #[.int .i64 n, .string s]] w fun e w' => e = .returned (.tuple #[.agg (SA Zs), .int .i64 63]) ∧ Below w.heap.size w w' := by
 have hz := zero_sec;have hbs := build_sec
 have hm := fun w' => slotMayBe_any n s hH w'
 rw [h] at hm;obtain ⟨W, hW⟩ : ∃ x, x = (w.alloc (.cells #[.int .i64 n, .string s] 82)).alloc (.cells (SA Zs) 36) := ⟨_, rfl⟩
 have HZ : Hid (W.heap[w.heap.size + 1]? = some (.cells (SA Zs) 36 (0, 0))) := by show _ = _; rw [hW]; exact heap_alloc2_new w _ _
 have HS : W.heap[w.heap.size]? = some (.cells #[.int .i64 n, .string s] 82 (0, 0)) := by rw [hW]; exact heap_alloc2_old w _ _
 have hb : Below w.heap.size w W := by rw [hW]; exact ((Below.refl _ _).alloc (Nat.le_refl _) _).alloc (by simp) _
 have hsz : W.heap.size = w.heap.size + 2 := by rw [hW]; simp
 go_enter Tryz.func67, Tryz.ntmps67
 go_upto_region 1 with fail
 rw [← hW];clear hW
 go_wp2_with (first | refine load_R rfl 82 (.tmp 1) rfl w.heap.size rfl 82 _ _ HS Tryz.underlying82 rfl (by kernel_rfl) ?_ | (go_at_call 97; refine (hm _).mono ?_; rintro e w2 ⟨rfl, hb2⟩; have HZ2 : Hid (w2.heap[w.heap.size + 1]? = some (.cells (SA Zs) 36 (0, 0))) := by { show _ = _; rw [hb2.block _ (by omega)]; exact HZ.out }) | (refine store_sec rfl (.tmp 2) _ rfl (w.heap.size + 1) rfl Zs rfl Zs_len Zs Zs_len HZ2.out ?_; intro w3 hw3))
 exact bodyPost_ret (v := .tuple #[.agg (SA Zs), .int .i64 63]) (results_sec Tryz.results67 _ _ (w.heap.size + 1) Zs Zs_len _ rfl rfl hw3.here) rfl ⟨rfl, hw3.below (btr hb hb2 (by omega)) (by omega)⟩

theorem slotSector_any (n : Int) (s : ByteArray) (hH : s.size ≤ 40 → Has s) (w : World) :
  Calls Tryz.prog 67 #[.agg #[.int .i64 n, .string s]] w fun e w' => e = .returned (.tuple #[.agg (SA (slotS n s)), .int .i64 (slotE n s)]) ∧ Below w.heap.size w w' := by
 cases h : slotB n s
 ·rw [show slotS n s = Zs by simp [slotS, h], show slotE n s = 63 by simp [slotE, h]]
  exact slotSector_bad n s hH w h
 ·rw [show slotS n s = spl (layS (numsSlot n s)) 5 (bytesI s) by simp [slotS, h], show slotE n s = 0 by simp [slotE, h]]
  exact slotSector_ok n s hH w h
theorem bytesI_bd (s : ByteArray) : ∀ x ∈ bytesI s, 0 ≤ x ∧ x ≤ 255 := by
 intro x hx
 obtain ⟨b, _, rfl⟩ := List.mem_map.1 hx;have := b.toNat_lt
 omega
theorem slotS_sec (n : Int) (s : ByteArray) : IsSec (slotS n s) := by
 unfold slotS
 split
 ·rename_i h
  exact spl_sec (layS_sec _) 5 _ (by rw [bytesI_len]; have := (slot_bd h).2.2; omega) (bytesI_bd s)
 ·exact Zs_sec

end Go.Proofs.YtpmignilhoihnabGreat
