/-
 layout.lay returns the sector that has these numbers, where each has room in its place; layout.get the number at a place.
-/
import Derived.Test.YtpmignilhoihnabGreatPlain2
import Derived.Test.YtpmignilhoihnabGreatWSplice
import Derived.Test.YtpmignilhoihnabGreatWGet
import Derived.Deep.MidRow
namespace Go.Proofs.YtpmignilhoihnabGreat
open Go.RowKit

theorem spl_get (s : List Int) (p : Nat) (zs : List Int) (h : p + zs.length ≤ s.length) (i : Nat) : (spl s p zs).getD i 0 = if p ≤ i ∧ i < p + zs.length then zs.getD (i - p) 0 else s.getD i 0 := by
 unfold spl
 simp only [List.getD_eq_getElem?_getD, List.getElem?_append, List.length_take, List.getElem?_take, List.getElem?_drop]
 rw [Nat.min_eq_left (by omega)]
 by_cases c1 : i < p
 ·rw [if_pos c1, if_pos c1, if_neg (by omega)]
 ·rw [if_neg c1]
  by_cases c2 : i < p + zs.length
  ·rw [if_pos (by omega), if_pos (by omega)]
  ·rw [if_neg (by omega), if_neg (by omega), show p + zs.length + (i - p - zs.length) = i by omega]

theorem spl_sec {s : List Int} (hs : IsSec s) (p : Nat) (zs : List Int) (h : p + zs.length ≤ 128) (hz : ∀ x ∈ zs, 0 ≤ x ∧ x ≤ 255) : IsSec (spl s p zs) := by
 refine ⟨by rw [spl_len _ _ _ (by rw [hs.1]; exact h), hs.1], fun x hx => ?_⟩;unfold spl at hx;rw [List.mem_append, List.mem_append] at hx
 rcases hx with hx | hx | hx
 ·exact hs.2 x (List.mem_of_mem_take hx)
 ·exact hz x hx
 ·exact hs.2 x (List.mem_of_mem_drop hx)

theorem splS_in (s : List Int) {T : Nat} {zs : List Int} (h : T + zs.length ≤ 128) : splS s (T : Int) zs = spl s T zs ∧ splE (T : Int) zs = 0 := by
 have hl : liesB (T : Int) zs.length = true := liesB_true (by omega)
 exact ⟨by rw [splS, if_pos hl, Int.toNat_natCast], by rw [splE, if_pos hl]⟩

end Go.Proofs.YtpmignilhoihnabGreat

namespace Go.Proofs.YtpmignilhoihnabGreat
open Go.RowKit

def supB (a b : Int) : Bool := decide (8 ≤ a ∧ a ≤ 4096 ∧ 1 ≤ b ∧ b ≤ 512 ∧ b + 2 ≤ a)
theorem supB_true {a b : Int} (h : 8 ≤ a ∧ a ≤ 4096 ∧ 1 ≤ b ∧ b ≤ 512 ∧ b + 2 ≤ a) : supB a b = true := decide_eq_true h
theorem supB_false {a b : Int} (h : ¬ (8 ≤ a ∧ a ≤ 4096 ∧ 1 ≤ b ∧ b ≤ 512 ∧ b + 2 ≤ a)) : supB a b = false := decide_eq_false h

set_option maxHeartbeats 400000 in
theorem superMayBe_any (a b : Int) (w : World) :
  Calls Tryz.prog 78 #[.agg #[.int .i64 a, .int .i64 b]] w fun e w' => e = .returned (.bool (supB a b)) ∧ Below w.heap.size w w' := by
 have hb : Below w.heap.size w (w.alloc (.cells #[.int .i64 a, .int .i64 b] 32)) := (Below.refl _ _).alloc (Nat.le_refl _) _
 by_cases h1 : a < 8
 ·go_enter Tryz.func78, Tryz.ntmps78
  go_wp2
  go_ret
  exact ⟨ret_bool (supB_false (by omega)).symm, hb⟩
 ·by_cases h2 : 4096 < a
  ·go_enter Tryz.func78, Tryz.ntmps78
   go_wp2
   go_ret
   exact ⟨ret_bool (supB_false (by omega)).symm, hb⟩
  ·by_cases h3 : 1 ≤ b
   ·by_cases h4 : b ≤ 512
    ·by_cases h5 : b + 2 ≤ a
     ·go_enter Tryz.func78, Tryz.ntmps78
      go_wp2
      go_ret
      exact ⟨ret_bool (supB_true (by omega)).symm, hb⟩
     ·go_enter Tryz.func78, Tryz.ntmps78
      go_wp2
      go_ret
      exact ⟨ret_bool (supB_false (by omega)).symm, hb⟩
    ·go_enter Tryz.func78, Tryz.ntmps78
     go_wp2
     go_ret
     exact ⟨ret_bool (supB_false (by omega)).symm, hb⟩
   ·go_enter Tryz.func78, Tryz.ntmps78
    go_wp2
    go_ret
    exact ⟨ret_bool (supB_false (by omega)).symm, hb⟩

end Go.Proofs.YtpmignilhoihnabGreat

namespace Go.Proofs.YtpmignilhoihnabGreat
open Go.RowKit

abbrev Num := Int × Int × Int
def cellsN : List Num → List Value
 | [] => []
 | n :: r => .int .i64 n.1 :: .int .i64 n.2.1 :: .int .i64 n.2.2 :: cellsN r
theorem cellsN_append : ∀ l m, cellsN (l ++ m) = cellsN l ++ cellsN m
 | [], m => rfl
 | n :: r, m => by simp [cellsN, cellsN_append r m]
theorem cellsN_one : ∀ l, ∀ u ∈ cellsN l, u.oneCell' = true
 | [], u, h => by cases h
 | n :: r, u, h => by
  simp only [cellsN, List.mem_cons] at h
  rcases h with rfl | rfl | rfl | h
  ·rfl
  ·rfl
  ·rfl
  ·exact cellsN_one r u h
theorem cellsN_get : ∀ (l : List Num) (j : Nat), (cellsN l)[3 * j]? = (l[j]?).map (fun x => Value.int .i64 x.1) ∧ (cellsN l)[3 * j + 1]? = (l[j]?).map (fun x => Value.int .i64 x.2.1) ∧ (cellsN l)[3 * j + 2]? = (l[j]?).map (fun x => Value.int .i64 x.2.2)
 | [], j => by simp [cellsN]
 | n :: r, 0 => by simp [cellsN]
 | n :: r, j + 1 => by
  have ih := cellsN_get r j;rw [show 3 * (j + 1) = 3 * j + 3 by omega]
  simpa [cellsN] using ih

def NumsAt (w : World) (b : Nat) (l : List Num) : Prop := b < w.heap.size ∧ ∀ (j : Nat) (v : Value), (cellsN l)[j]? = some v → w.cell? ⟨b, j, none⟩ = some v
theorem NumsAt.keep {B : Nat} {w w' : World} {b : Nat} {l : List Num} (h : NumsAt w b l) (hb : Below B w w') (hB : b < B) : NumsAt w' b l :=
 ⟨Nat.lt_of_lt_of_le h.1 hb.size, fun j v hj => by rw [hb.cell (p := ⟨b, j, none⟩) hB]; exact h.2 j v hj⟩
theorem NumsAt.range {w : World} {b : Nat} {l : List Num} (h : NumsAt w b l) {k : Nat} {n : Num} (hk : l[k]? = some n) : w.rangeAt b (k * 3) [.int .i64 n.1, .int .i64 n.2.1, .int .i64 n.2.2] := by
 have hg := cellsN_get l k;rw [hk] at hg
 intro i v hv
 rw [Nat.mul_comm]
 match i, hv with
 | 0, hv => simp at hv; subst hv; exact h.2 _ _ hg.1
 | 1, hv => simp at hv; subst hv; exact h.2 _ _ hg.2.1
 | 2, hv => simp at hv; subst hv; exact h.2 _ _ hg.2.2
 | i + 3, hv => simp at hv

def layS (l : List Num) : List Int := l.foldl (fun s n => putN s n.1.toNat n.2.2 n.2.1.toNat) Zs
def okN (n : Num) : Prop := inB n.1 n.2.1 = true ∧ fitB n.2.2 n.2.1 = true
theorem foldl_sec (l : List Num) : ∀ s, IsSec s → IsSec (l.foldl (fun s n => putN s n.1.toNat n.2.2 n.2.1.toNat) s) := by
 induction l with
 | nil => intro s hs; exact hs
 | cons n r ih => intro s hs; exact ih _ (putN_sec hs _ _ _)
theorem layS_sec (l : List Num) : IsSec (layS l) := foldl_sec l Zs Zs_sec
theorem layS_snoc (l : List Num) (n : Num) : layS (l ++ [n]) = putN (layS l) n.1.toNat n.2.2 n.2.1.toNat := by
 simp [layS, List.foldl_append]

theorem slt {w : World} {g : Nat} {o : Obj} (h : w.heap[g]? = some o) : g < w.heap.size := by
 rcases Nat.lt_or_ge g w.heap.size with h' | h'
 ·exact h'
 ·rw [Array.getElem?_eq_none h'] at h; cases h
theorem szN : (Tryz.prog.info? 128).map (·.size) = some 3 := by kernel_rfl

set_option maxRecDepth 100000 in
set_option maxHeartbeats 1000000 in
theorem lay_any (l : List Num) (b cap : Nat) (w : World) (hN : NumsAt w b l) (hok : ∀ n ∈ l, okN n) (hl : l.length ≤ 1000) :
  Calls Tryz.prog 69 #[.slice (some ⟨b, 0, none⟩) l.length cap] w fun e w' => e = .returned (.tuple #[.agg (SA (layS l)), .int .i64 0]) ∧ Below w.heap.size w w' := by
 have hz := zero_sec;have HN := hid hN;have HOK := hid hok;have HZ : Hid (((w.alloc (.cells (SA Zs) 36)).alloc (.cells (SA Zs) 36)).heap[w.heap.size]? = some (.cells (SA Zs) 36 (0, 0))) := heap_alloc2_old w _ _;have HS : Hid (((w.alloc (.cells (SA Zs) 36)).alloc (.cells (SA Zs) 36)).heap[w.heap.size + 1]? = some (.cells (SA Zs) 36 (0, 0))) := heap_alloc2_new w _ _;have hb : Below w.heap.size w ((w.alloc (.cells (SA Zs) 36)).alloc (.cells (SA Zs) 36)) := ((Below.refl _ _).alloc (Nat.le_refl _) _).alloc (by simp) _
 generalize hL : l.length = L at *
 have HL : Hid (l.length = L) := hL;clear hL hN hok
 go_enter Tryz.func69, Tryz.ntmps69
 go_wp2
 go_loopw [11] (fun i wr => ∃ k : Nat, k ≤ L ∧ i = .int .i64 k ∧ wr.heap[w.heap.size]? = some (.cells (SA Zs) 36 (0, 0)) ∧ wr.heap[w.heap.size + 1]? = some (.cells (SA (layS (l.take k))) 36 (0, 0)) ∧ Below w.heap.size w wr) (fun i _ => L - (intOf i).toNat)
 case atStart => exact ⟨0, by omega, rfl, HZ.out, HS.out, hb⟩
 case round =>
  obtain ⟨k, hk, rfl, h1, h2, h3⟩ := hrel
  by_cases hlt : k < L
  ·obtain ⟨n, hn⟩ : ∃ n, l[k]? = some n := ⟨l[k]'(by rw [HL.out]; exact hlt), List.getElem?_eq_getElem (by rw [HL.out]; exact hlt)⟩
   have hr := (HN.out.keep h3 HN.out.1).range hn;have hokn := HOK.out n (List.mem_of_getElem? hn)
   have hset := fun w' => set_any (layS (l.take k)) n.1 n.2.1 n.2.2 w' (layS_sec _).1
   rw [show setE n.1 n.2.1 n.2.2 = 0 from setE_in hokn.1 hokn.2, show setS (layS (l.take k)) n.1 n.2.1 n.2.2 = layS (l.take (k + 1)) from by
    rw [setS_in _ hokn.1 hokn.2, List.take_add_one, hn, Option.toList_some, layS_snoc]] at hset
   have HR := hid hr;have H1 := hid h1;have H2 := hid h2;have H3 := hid h3;have HP := hid hset;clear hr h1 h2 h3 hset hokn;have hs0 : w.heap.size + 1 < wr.heap.size := slt H2.out
   have hA : (wr.alloc (.cells #[.int .i64 n.1, .int .i64 n.2.1, .int .i64 n.2.2] 128)).heap[w.heap.size + 1]? = some (.cells (SA (layS (l.take k))) 36 (0, 0)) := by
    rw [Below.heap_alloc _ _ _ hs0]; exact H2.out
   have HA := hid hA;have HB : Hid (Below w.heap.size w (wr.alloc (.cells #[.int .i64 n.1, .int .i64 n.2.1, .int .i64 n.2.2] 128))) := H3.out.alloc (by omega) _;clear hA
   go_wp2_with (first | (refine wpList_load_mid rfl 128 (.tmp 13) rfl b (k * 3) rfl _ _ HR.out Tryz.underlying128 rfl (by rw [szN]; rfl) ?_) | (refine load_sec rfl (.tmp 4) rfl (w.heap.size + 1) rfl (layS (l.take k)) (layS_sec _).1 HA.out ?_) | (go_at_call 99; refine (HP.out _).mono ?_; rintro e w2 ⟨rfl, hb2⟩) | (refine store_sec rfl (.tmp 7) _ rfl w2.heap.size rfl (layS (l.take (k + 1))) rfl (layS_sec _).1 Zs Zs_len (heap_alloc_new _ _) ?_; intro w3 hw3; have hs3 : w.heap.size + 1 < w2.heap.size := by { have := hb2.size; simp at this; omega }; have HD : Hid (w3.heap[w.heap.size + 1]? = some (.cells (SA (layS (l.take k))) 36 (0, 0))) := by { show _ = _; rw [hw3.other _ (by omega), Below.heap_alloc _ _ _ hs3, hb2.block _ (by simp; omega)]; exact HA.out }) | refine load_sec rfl (.tmp 7) rfl w2.heap.size rfl (layS (l.take (k + 1))) (layS_sec _).1 hw3.here ?_ | (refine store_sec rfl (.tmp 4) _ rfl (w.heap.size + 1) rfl (layS (l.take (k + 1))) rfl (layS_sec _).1 (layS (l.take k)) (layS_sec _).1 HD.out ?_; intro w4 hw4))
   have hs2 : wr.heap.size + 1 ≤ w2.heap.size := by have := hb2.size; simpa using this
   have hb3 : Below w.heap.size w w3 := hw3.below (((HB.out).trans (hb2.mono (by simp; omega))).alloc (by omega) _) (by omega);refine ⟨⟨k + 1, by omega, by go_num, ?_, hw4.here, hw4.below hb3 (by omega)⟩, by simp [intOf]; omega⟩;rw [hw4.other _ (by omega), hw3.other _ (by omega), Below.heap_alloc _ _ _ (by omega), hb2.block _ (by simp; omega), Below.heap_alloc _ _ _ (by omega)]
   exact H1.out
  ·have hkL : k = L := by omega
   subst hkL;have e : l.take k = l := List.take_of_length_le (by rw [HL.out]; omega);rw [e] at h2;have H1 := hid h1;have H2 := hid h2;have H3 := hid h3;clear h1 h2 h3
   go_wp2_with (first | refine load_sec rfl _ rfl (w.heap.size + 1) rfl (layS l) (layS_sec _).1 H2.out ?_ | (refine store_sec rfl _ _ rfl w.heap.size rfl (layS l) rfl (layS_sec _).1 Zs Zs_len H1.out ?_; intro w4 hw4))
   exact bodyPost_ret (v := .tuple #[.agg (SA (layS l)), .int .i64 0]) (results_sec Tryz.results69 _ _ w.heap.size _ (layS_sec _).1 _ rfl rfl hw4.here) rfl ⟨rfl, hw4.below H3.out (by omega)⟩

def getV (s : List Int) (p n : Int) : Int := if getE s p n = 0 then getN s p n else -1
set_option maxHeartbeats 400000 in
theorem get1_any (s : List Int) (p n : Int) (w : World) (hs : IsSec s) :
  Calls Tryz.prog 52 #[.agg (SA s), .int .i64 p, .int .i64 n] w fun e w' => e = .returned (.int .i64 (getV s p n)) ∧ Below w.heap.size w w' := by
 have hg := fun w' => get_any s p n w' hs
 have hn : (w.alloc (.cells (SA s) 36)).heap[w.heap.size]? = some (.cells (SA s) 36 (0, 0)) := heap_alloc_new _ _;have HN := hid hn;have hl := hs.1;clear hn
 by_cases h : getE s p n = 0
 ·have HV : Hid (getV s p n = getN s p n) := if_pos h
  rw [h] at hg
  go_enter Tryz.func52, Tryz.ntmps52
  go_wp2_with (first | refine load_sec rfl _ rfl w.heap.size rfl s hl HN.out ?_ | (go_at_call 77; refine (hg _).mono ?_; rintro e w2 ⟨rfl, hb2⟩))
  go_ret
  exact ⟨by rw [HV.out]; rfl, ((Below.refl _ _).alloc (Nat.le_refl _) _).trans (hb2.mono (by simp))⟩
 ·have HV : Hid (getV s p n = -1) := if_neg h
  have hne : (getE s p n != 0) = true := by simp [h]
  go_enter Tryz.func52, Tryz.ntmps52
  go_wp2_with (first | refine load_sec rfl _ rfl w.heap.size rfl s hl HN.out ?_ | (go_at_call 77; refine (hg _).mono ?_; rintro e w2 ⟨rfl, hb2⟩))
  go_ret
  exact ⟨by rw [HV.out]; rfl, ((Below.refl _ _).alloc (Nat.le_refl _) _).trans (hb2.mono (by simp))⟩

end Go.Proofs.YtpmignilhoihnabGreat
