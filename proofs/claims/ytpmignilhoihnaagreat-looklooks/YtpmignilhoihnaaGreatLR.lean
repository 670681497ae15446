/-
 Rows of cells of any kind in memory: one loaded, stored, built, in plain statements and in those whose order is left open.
-/
import Derived.Test.YtpmignilhoihnaaGreatLaws
import Derived.Laws.CopyOwn
import Derived.Deep.RegionLaw
import Derived.Deep.MidRow
import Derived.Deep.RegionHeld3
namespace Go.Proofs.YtpmignilhoihnaaGreat
open Go.RowKit

theorem kept_write {w w' : World} {g k : Nat} {c : List Int} {x : Option Obj} (h : Wrote w g c w') (hx : Hid (w.heap[k]? = x)) (hk : k ≠ g) : Hid (w'.heap[k]? = x) := by
 show _ = _
 rw [h.other _ hk]
 exact hx.out

end Go.Proofs.YtpmignilhoihnaaGreat

namespace Go.Proofs.YtpmignilhoihnaaGreat
open Go.RowKit

def BytesAt (w : World) (a : Option Addr) (zs : List Int) : Prop :=
 zs = [] ∨ ∃ b o, a = some ⟨b, o, none⟩ ∧ b < w.heap.size ∧ ∀ j, j < zs.length → w.cell? ⟨b, o + j, none⟩ = some (.int .u8 (zs.getD j 0))

theorem one_cells (l : List Int) : ∀ v ∈ l.map (Value.int .u8), v.oneCell' = true := by
 intro v hv
 rw [List.mem_map] at hv;obtain ⟨x, _, rfl⟩ := hv
 rfl
theorem sz5 : (Tryz.prog.info? 5).map (·.size) = some 1 := by kernel_rfl
theorem addr_add (b o j : Nat) : (⟨b, o, none⟩ : Addr).add j = ⟨b, o + j, none⟩ := by unfold Addr.add; split <;> simp_all

def liesB (p : Int) (n : Nat) : Bool := decide (0 ≤ p ∧ p ≤ 128 ∧ (n : Int) ≤ 128 - p)
theorem liesB_true {p : Int} {n : Nat} (h : 0 ≤ p ∧ p ≤ 128 ∧ (n : Int) ≤ 128 - p) : liesB p n = true := decide_eq_true h
def spl (s : List Int) (p : Nat) (zs : List Int) : List Int := s.take p ++ (zs ++ s.drop (p + zs.length))
theorem spl_len (s : List Int) (p : Nat) (zs : List Int) (h : p + zs.length ≤ s.length) : (spl s p zs).length = s.length := by
 simp [spl]; omega
theorem spl_nil (s : List Int) (p : Nat) : spl s p [] = s := by simp [spl]
def splS (s : List Int) (p : Int) (zs : List Int) : List Int := if liesB p zs.length = true then spl s p.toNat zs else Zs
def splE (p : Int) (zs : List Int) : Int := if liesB p zs.length = true then 0 else 10

theorem bytes_src {w w' : World} {zs : List Int} {a : Option Addr} (h : BytesAt w a zs) (hb : Below w.heap.size w w') (hp : 0 < zs.length) :
  ∃ ad, a = some ad ∧ ∀ j v, (zs.map (Value.int .u8))[j]? = some v → w'.cell? (ad.add j) = some v := by
 rcases h with rfl | ⟨b, o, rfl, hlt, hc⟩
 ·simp at hp
 ·refine ⟨_, rfl, fun j v hj => ?_⟩
  rw [addr_add, hb.cell (p := ⟨b, o + j, none⟩) hlt]
  have hjl : j < zs.length := by
   rcases Nat.lt_or_ge j zs.length with k | k
   ·exact k
   ·rw [List.getElem?_eq_none (by simpa using k)] at hj; cases hj
  rw [hc j hjl]
  simp [hjl] at hj
  simp [hjl, hj]

theorem copy_sec {w : World} {ops : Array Oper} {rest : List Oper} {o : Oper} {a : Act} {Q : Exit → Act → World → Prop} (hgd : o.guard = none) (d s : Operand)
  (ho : o.op = .call { callee := .builtin .copy, args := #[d, s], argTypes := #[140, 140] })
  (dp sp : Option Addr) (dLen dCap sLen sCap : Nat) (hd : a.eval d = .slice dp dLen dCap) (hs : a.eval s = .slice sp sLen sCap)
  (g off : Nat) (c : List Int) (hg : w.heap[g]? = some (.cells (SA c) 33 (0, 0))) (zs : List Int) (hn : (zs.map (Value.int .u8)).length = Nat.min sLen dLen)
  (hpos : 0 < (zs.map (Value.int .u8)).length → dp = some ⟨g, off, none⟩ ∧ ∃ ad, sp = some ad ∧ ∀ j v, (zs.map (Value.int .u8))[j]? = some v → w.cell? (ad.add j) = some v)
  (hfit : off + (zs.map (Value.int .u8)).length ≤ (c.map (Value.int .u8)).length)
  (h : ∀ w', Wrote w g (spl c off zs) w' → wpList Tryz.prog ops Q rest (a.put o.dst (goInt (zs.map (Value.int .u8)).length)) w') : wpList Tryz.prog ops Q (o :: rest) a w := by
 by_cases h0 : (zs.map (Value.int .u8)).length = 0
 ·have hz : zs = [] := List.eq_nil_of_length_eq_zero (by simpa using h0)
  subst hz;refine wpList_copy_nothing hgd d s 140 140 ho 5 Tryz.underlying140 sz5 dp sp dLen dCap sLen sCap hd hs hn.symm ?_;have hh := h w ⟨by rw [spl_nil]; exact hg, fun _ _ => rfl, rfl, rfl, rfl, rfl⟩
  exact hh
 ·obtain ⟨rfl, ad, rfl, hsrc⟩ := hpos (by omega)
  refine wpList_copy_own hgd d s 140 140 ho 5 Tryz.underlying140 sz5 g off dLen dCap ad sLen sCap hd hs (SA c) 33 hg (zs.map (Value.int .u8)) hn hsrc (by simpa [SA] using hfit) (one_cells zs) ?_
  have e : ((SA c).toList.take off ++ (zs.map (Value.int .u8) ++ (SA c).toList.drop (off + (zs.map (Value.int .u8)).length))).toArray = SA (spl c off zs) := by
   simp [SA, spl, List.map_take, List.map_drop]
  rw [e]
  exact h _ (wrote_setRow _ hg)
set_option maxRecDepth 100000 in
set_option maxHeartbeats 400000 in
theorem splice_out (s : List Int) (p : Int) (L : Nat) (a : Option Addr) (cap : Nat) (w : World) (h : liesB p L = false) :
  Calls Tryz.prog 120 #[.agg (SA s), .int .i64 p, .slice a L cap] w fun e w' => e = .returned (.tuple #[.agg (SA Zs), .int .i64 10]) ∧ Below w.heap.size w w' := by
 have hz := zero_sec;have HN : Hid (((w.alloc (.cells (SA s) 33)).alloc (.cells (SA Zs) 33)).heap[w.heap.size + 1]? = some (.cells (SA Zs) 33 (0, 0))) := heap_alloc2_new w _ _;have hb : Below w.heap.size w ((w.alloc (.cells (SA s) 33)).alloc (.cells (SA Zs) 33)) := ((Below.refl _ _).alloc (Nat.le_refl _) _).alloc (by simp) _;have h' := of_decide_eq_false h
 by_cases h1 : p < 0
 ·go_enter Tryz.func120, Tryz.ntmps120
  go_wp2_with (refine store_sec rfl _ _ rfl (w.heap.size + 1) rfl Zs rfl Zs_len Zs Zs_len HN.out ?_; intro w2 hw2)
  exact bodyPost_ret (v := .tuple #[.agg (SA Zs), .int .i64 10]) (results_sec Tryz.results120 _ _ (w.heap.size + 1) Zs Zs_len _ rfl rfl hw2.here) rfl ⟨rfl, hw2.below hb (by omega)⟩
 ·by_cases h2 : 128 < p
  ·go_enter Tryz.func120, Tryz.ntmps120
   go_wp2_with (refine store_sec rfl _ _ rfl (w.heap.size + 1) rfl Zs rfl Zs_len Zs Zs_len HN.out ?_; intro w2 hw2)
   exact bodyPost_ret (v := .tuple #[.agg (SA Zs), .int .i64 10]) (results_sec Tryz.results120 _ _ (w.heap.size + 1) Zs Zs_len _ rfl rfl hw2.here) rfl ⟨rfl, hw2.below hb (by omega)⟩
  ·have h3 : 128 - p < (L : Int) := by omega
   clear h'
   go_enter Tryz.func120, Tryz.ntmps120
   go_wp2_with (refine store_sec rfl _ _ rfl (w.heap.size + 1) rfl Zs rfl Zs_len Zs Zs_len HN.out ?_; intro w2 hw2)
   exact bodyPost_ret (v := .tuple #[.agg (SA Zs), .int .i64 10]) (results_sec Tryz.results120 _ _ (w.heap.size + 1) Zs Zs_len _ rfl rfl hw2.here) rfl ⟨rfl, hw2.below hb (by omega)⟩

set_option maxRecDepth 100000 in
set_option maxHeartbeats 400000 in
theorem splice_in (s : List Int) (P L : Nat) (zs : List Int) (hL : Hid (zs.length = L)) (a : Option Addr) (cap : Nat) (w : World) (hs : s.length = 128) (hr : BytesAt w a zs) (h1 : P < 128) (h2 : (L : Int) ≤ 128 - (P : Int)) :
  Calls Tryz.prog 120 #[.agg (SA s), .int .i64 (P : Int), .slice a L cap] w fun e w' => e = .returned (.tuple #[.agg (SA (spl s P zs)), .int .i64 0]) ∧ Below w.heap.size w w' := by
 have hz := zero_sec;have HO : Hid (((w.alloc (.cells (SA s) 33)).alloc (.cells (SA Zs) 33)).heap[w.heap.size]? = some (.cells (SA s) 33 (0, 0))) := heap_alloc2_old w _ _;have HN : Hid (((w.alloc (.cells (SA s) 33)).alloc (.cells (SA Zs) 33)).heap[w.heap.size + 1]? = some (.cells (SA Zs) 33 (0, 0))) := heap_alloc2_new w _ _;have hb : Below w.heap.size w ((w.alloc (.cells (SA s) 33)).alloc (.cells (SA Zs) 33)) := ((Below.refl _ _).alloc (Nat.le_refl _) _).alloc (by simp) _
 have h3 : ¬ 128 - (P : Int) < (L : Int) := by omega
 have hP0 : (P : Int) ≤ 128 := by omega
 have hne : ¬ 128 = P := by omega
 have hlen : (spl s P zs).length = 128 := by rw [spl_len _ _ _ (by rw [hL.out]; omega), hs]
 have HCN : Hid ((zs.map (Value.int .u8)).length = Nat.min L (128 - P)) := by
  show _ = _
  rw [List.length_map, hL.out]
  exact (Nat.min_eq_left (by omega)).symm
 have HCF : Hid (P + (zs.map (Value.int .u8)).length ≤ (s.map (Value.int .u8)).length) := by
  show _ ≤ _
  rw [List.length_map, List.length_map, hL.out]
  omega
 have HSRC : Hid (0 < (zs.map (Value.int .u8)).length → (some ⟨w.heap.size, P, none⟩ : Option Addr) = some ⟨w.heap.size, P, none⟩ ∧ ∃ ad, a = some ad ∧ ∀ j v, (zs.map (Value.int .u8))[j]? = some v → ((w.alloc (.cells (SA s) 33)).alloc (.cells (SA Zs) 33)).cell? (ad.add j) = some v) :=
  fun hp => ⟨rfl, bytes_src hr hb (by simpa using hp)⟩
 have hb1 : Below (w.heap.size + 2) ((w.alloc (.cells (SA s) 33)).alloc (.cells (SA Zs) 33)) ((w.alloc (.cells (SA s) 33)).alloc (.cells (SA Zs) 33)) := Below.refl _ _;clear hr
 go_enter Tryz.func120, Tryz.ntmps120
 go_wp2_with (first | (refine copy_sec rfl (.tmp 23) (.tmp 24) rfl (some ⟨w.heap.size, P, none⟩) a (128 - P) (128 - P) L cap rfl rfl w.heap.size P s HO.out zs HCN.out HSRC.out HCF.out ?_; intro w4 hw4) | refine load_sec rfl _ rfl w.heap.size rfl (spl s P zs) hlen hw4.here ?_ | (refine store_sec rfl _ _ rfl (w.heap.size + 1) rfl (spl s P zs) rfl hlen Zs Zs_len (kept_write hw4 HN (by omega)).out ?_; intro w5 hw5))
 exact bodyPost_ret (v := .tuple #[.agg (SA (spl s P zs)), .int .i64 0]) (results_sec Tryz.results120 _ _ (w.heap.size + 1) (spl s P zs) hlen _ rfl rfl hw5.here) rfl ⟨rfl, hw5.below (hw4.below hb (by omega)) (by omega)⟩

set_option maxRecDepth 100000 in
set_option maxHeartbeats 400000 in
theorem splice_end (s : List Int) (a : Option Addr) (cap : Nat) (w : World) (hs : s.length = 128) :
  Calls Tryz.prog 120 #[.agg (SA s), .int .i64 128, .slice a 0 cap] w fun e w' => e = .returned (.tuple #[.agg (SA s), .int .i64 0]) ∧ Below w.heap.size w w' := by
 have hz := zero_sec;have HO : Hid (((w.alloc (.cells (SA s) 33)).alloc (.cells (SA Zs) 33)).heap[w.heap.size]? = some (.cells (SA s) 33 (0, 0))) := heap_alloc2_old w _ _;have HN : Hid (((w.alloc (.cells (SA s) 33)).alloc (.cells (SA Zs) 33)).heap[w.heap.size + 1]? = some (.cells (SA Zs) 33 (0, 0))) := heap_alloc2_new w _ _;have hb : Below w.heap.size w ((w.alloc (.cells (SA s) 33)).alloc (.cells (SA Zs) 33)) := ((Below.refl _ _).alloc (Nat.le_refl _) _).alloc (by simp) _
 have hcp := fun w' => run_copy_none (P := Tryz.prog) w' 140 140 3 5 (some ⟨w.heap.size, 0, none⟩) a 0 0 0 cap Tryz.underlying140 sz5 rfl
 go_enter Tryz.func120, Tryz.ntmps120
 go_wp2_with (first | refine load_sec rfl _ rfl w.heap.size rfl s hs HO.out ?_ | (refine store_sec rfl _ _ rfl (w.heap.size + 1) rfl s rfl hs Zs Zs_len HN.out ?_; intro w5 hw5))
 exact bodyPost_ret (v := .tuple #[.agg (SA s), .int .i64 0]) (results_sec Tryz.results120 _ _ (w.heap.size + 1) s hs _ rfl rfl hw5.here) rfl ⟨rfl, hw5.below hb (by omega)⟩

theorem splice_any (s : List Int) (p : Int) (zs : List Int) (a : Option Addr) (cap : Nat) (w : World) (hs : s.length = 128) (hr : BytesAt w a zs) :
  Calls Tryz.prog 120 #[.agg (SA s), .int .i64 p, .slice a zs.length cap] w fun e w' => e = .returned (.tuple #[.agg (SA (splS s p zs)), .int .i64 (splE p zs)]) ∧ Below w.heap.size w w' := by
 cases h : liesB p zs.length
 ·refine (splice_out s p zs.length a cap w h).mono ?_
  rintro e w' ⟨rfl, hb⟩
  exact ⟨by simp [splS, splE, h], hb⟩
 ·have h' := of_decide_eq_true h
  have e1 : splS s p zs = spl s p.toNat zs := by rw [splS, if_pos h]
  have e2 : splE p zs = 0 := by rw [splE, if_pos h]
  rw [e1, e2]
  by_cases h8 : p = 128
  ·have h0 : zs = [] := List.eq_nil_of_length_eq_zero (by omega)
   subst h0 h8;rw [spl_nil]
   exact splice_end s a cap w hs
  ·obtain ⟨P, rfl⟩ := Int.eq_ofNat_of_zero_le h'.1
   rw [Int.toNat_natCast]
   exact splice_in s P zs.length zs rfl a cap w hs hr (by omega) h'.2.2

end Go.Proofs.YtpmignilhoihnaaGreat

namespace Go.Proofs.YtpmignilhoihnaaGreat
open Go.RowKit

def putN (s : List Int) (p : Nat) (v : Int) : Nat → List Int
 | 0 => s
 | k + 1 => (putN s p v k).set (p + k) (v / 256 ^ k % 256)
theorem putN_len (s : List Int) (p : Nat) (v : Int) : ∀ k, (putN s p v k).length = s.length
 | 0 => rfl
 | k + 1 => by simp [putN, putN_len s p v k]

def setS (s : List Int) (p n v : Int) : List Int := if inB p n = true ∧ fitB v n = true then putN s p.toNat v n.toNat else Zs
def setE (p n v : Int) : Int := if inB p n = true then (if fitB v n = true then 0 else 11) else 10
theorem putN_sec {s : List Int} (hs : IsSec s) (p : Nat) (v : Int) : ∀ k, IsSec (putN s p v k)
 | 0 => hs
 | k + 1 => by
  have ih := putN_sec hs p v k;refine ⟨by rw [putN_len]; exact hs.1, fun x hx => ?_⟩
  simp only [putN] at hx
  rcases List.mem_or_eq_of_mem_set hx with h | h
  ·exact ih.2 x h
  ·subst h
   exact ⟨Int.emod_nonneg _ (by decide), by have := Int.emod_lt_of_pos (v / 256 ^ k) (show (0 : Int) < 256 by decide); omega⟩
set_option maxHeartbeats 400000 in
theorem set_out (s : List Int) (p n v : Int) (w : World) (h : inB p n = false) :
  Calls Tryz.prog 121 #[.agg (SA s), .int .i64 p, .int .i64 n, .int .i64 v] w fun e w' => e = .returned (.tuple #[.agg (SA Zs), .int .i64 10]) ∧ Below w.heap.size w w' := by
 have hz := zero_sec;have hn : ((w.alloc (.cells (SA s) 33)).alloc (.cells (SA Zs) 33)).heap[w.heap.size + 1]? = some (.cells (SA Zs) 33 (0, 0)) := heap_alloc2_new w _ _;have hb : Below w.heap.size w ((w.alloc (.cells (SA s) 33)).alloc (.cells (SA Zs) 33)) := ((Below.refl _ _).alloc (Nat.le_refl _) _).alloc (by simp) _
 go_enter Tryz.func121, Tryz.ntmps121
 go_wp2_with (first | (go_at_call 127; refine (within_any _ _ _).mono ?_; rintro e w' ⟨rfl, rfl⟩) | (refine store_sec rfl _ _ rfl (w.heap.size + 1) rfl Zs rfl Zs_len Zs Zs_len hn ?_; intro w2 h2))
 exact bodyPost_ret (v := .tuple #[.agg (SA Zs), .int .i64 10]) (results_sec Tryz.results121 _ _ (w.heap.size + 1) Zs Zs_len _ rfl rfl h2.here) rfl ⟨rfl, h2.below hb (by omega)⟩

set_option maxHeartbeats 400000 in
theorem set_bad (s : List Int) (p n v : Int) (w : World) (h : inB p n = true) (hn1 : 1 ≤ n) (hn8 : n ≤ 8) (hv : fitB v n = false) :
  Calls Tryz.prog 121 #[.agg (SA s), .int .i64 p, .int .i64 n, .int .i64 v] w fun e w' => e = .returned (.tuple #[.agg (SA Zs), .int .i64 11]) ∧ Below w.heap.size w w' := by
 have hz := zero_sec;have hn : ((w.alloc (.cells (SA s) 33)).alloc (.cells (SA Zs) 33)).heap[w.heap.size + 1]? = some (.cells (SA Zs) 33 (0, 0)) := heap_alloc2_new w _ _;have hb : Below w.heap.size w ((w.alloc (.cells (SA s) 33)).alloc (.cells (SA Zs) 33)) := ((Below.refl _ _).alloc (Nat.le_refl _) _).alloc (by simp) _
 go_enter Tryz.func121, Tryz.ntmps121
 go_wp2_with (first | (go_at_call 127; refine (within_any _ _ _).mono ?_; rintro e w' ⟨rfl, rfl⟩) | (go_at_call 129; refine (fits_any _ _ _ hn1 hn8).mono ?_; rintro e w' ⟨rfl, rfl⟩) | (refine store_sec rfl _ _ rfl (w.heap.size + 1) rfl Zs rfl Zs_len Zs Zs_len hn ?_; intro w2 h2))
 exact bodyPost_ret (v := .tuple #[.agg (SA Zs), .int .i64 11]) (results_sec Tryz.results121 _ _ (w.heap.size + 1) Zs Zs_len _ rfl rfl h2.here) rfl ⟨rfl, h2.below hb (by omega)⟩

set_option maxHeartbeats 400000 in
theorem set_in (s : List Int) (p n v : Int) (w : World) (hs : s.length = 128) (h : inB p n = true) (hp0 : 0 ≤ p) (hp1 : p ≤ 128 - n) (hn1 : 1 ≤ n) (hn8 : n ≤ 8) (hv : fitB v n = true) :
  Calls Tryz.prog 121 #[.agg (SA s), .int .i64 p, .int .i64 n, .int .i64 v] w fun e w' => e = .returned (.tuple #[.agg (SA (putN s p.toNat v n.toNat)), .int .i64 0]) ∧ Below w.heap.size w w' := by
 have hz := zero_sec;have hn : ((w.alloc (.cells (SA s) 33)).alloc (.cells (SA Zs) 33)).heap[w.heap.size + 1]? = some (.cells (SA Zs) 33 (0, 0)) := heap_alloc2_new w _ _;have ho : ((w.alloc (.cells (SA s) 33)).alloc (.cells (SA Zs) 33)).heap[w.heap.size]? = some (.cells (SA s) 33 (0, 0)) := heap_alloc2_old w _ _;have hb : Below w.heap.size w ((w.alloc (.cells (SA s) 33)).alloc (.cells (SA Zs) 33)) := ((Below.refl _ _).alloc (Nat.le_refl _) _).alloc (by simp) _;have hv' := of_decide_eq_true hv;obtain ⟨hv0, hv1, -⟩ := hv';rw [top_eq] at hv1
 go_enter Tryz.func121, Tryz.ntmps121
 go_wp2_with (first | (go_at_call 127; refine (within_any _ _ _).mono ?_; rintro e w' ⟨rfl, rfl⟩) | (go_at_call 129; refine (fits_any _ _ _ hn1 hn8).mono ?_; rintro e w' ⟨rfl, rfl⟩))
 go_loopw [22] (fun i wr => ∃ k : Nat, (k : Int) ≤ n ∧ i = .int .i64 k ∧ wr.heap[w.heap.size]? = some (.cells (SA (putN s p.toNat v k)) 33 (0, 0)) ∧ wr.heap[w.heap.size + 1]? = some (.cells (SA Zs) 33 (0, 0)) ∧ Below w.heap.size w wr) (fun i _ => n.toNat - (intOf i).toNat)
 case atStart => exact ⟨0, by omega, rfl, ho, hn, hb⟩
 case round =>
  obtain ⟨k, hk, rfl, h1, h2, h3⟩ := hrel
  by_cases hlt : (k : Int) < n
  ·have hc := sec_cell h1 (p + k).toNat (by rw [putN_len]; omega)
   have hf := sec_free h1 (p + k).toNat
   have hq : p + (k : Int) < 128 := by omega
   have H1 : Hid (wr.heap[w.heap.size]? = some (.cells (SA (putN s p.toNat v k)) 33 (0, 0))) := h1;clear h1
   go_wp2
   have hw := sec_setCell H1.out (p + k).toNat (v / 2 ^ (8 * k) % 256)
   have e1 : (putN s p.toNat v k).set (p + k).toNat (v / 2 ^ (8 * k) % 256) = putN s p.toNat v (k + 1) := by
    have e2 : (p + (k : Int)).toNat = p.toNat + k := by omega
    have e3 : (2 : Int) ^ (8 * k) = 256 ^ k := by rw [Int.pow_mul]; rfl
    rw [e2, e3]
    rfl
   rw [e1] at hw
   exact ⟨⟨k + 1, by omega, by go_num, hw.here, by rw [hw.other _ (by omega)]; exact h2, hw.below h3 (by omega)⟩, by simp [intOf]; omega⟩
  ·have hlen : (putN s p.toNat v k).length = 128 := by rw [putN_len, hs]
   have e : k = n.toNat := by omega
   have H2 := h2
   go_wp2_with (first | refine load_sec rfl _ rfl w.heap.size rfl (putN s p.toNat v k) hlen h1 ?_ | (refine store_sec rfl _ _ rfl (w.heap.size + 1) rfl (putN s p.toNat v k) rfl hlen Zs Zs_len H2 ?_; intro w2 hw2))
   subst e
   exact bodyPost_ret (v := .tuple #[.agg (SA (putN s p.toNat v n.toNat)), .int .i64 0]) (results_sec Tryz.results121 _ _ (w.heap.size + 1) _ hlen _ rfl rfl hw2.here) rfl ⟨rfl, hw2.below h3 (by omega)⟩

theorem set_any (s : List Int) (p n v : Int) (w : World) (hs : s.length = 128) :
  Calls Tryz.prog 121 #[.agg (SA s), .int .i64 p, .int .i64 n, .int .i64 v] w fun e w' => e = .returned (.tuple #[.agg (SA (setS s p n v)), .int .i64 (setE p n v)]) ∧ Below w.heap.size w w' := by
 cases h : inB p n
 ·refine (set_out s p n v w h).mono ?_
  rintro e w' ⟨rfl, hb⟩
  exact ⟨by simp [setS, setE, h], hb⟩
 ·have h' := of_decide_eq_true h
  cases hv : fitB v n
  ·refine (set_bad s p n v w h h'.1 h'.2.1 hv).mono ?_
   rintro e w' ⟨rfl, hb⟩
   exact ⟨by simp [setS, setE, h, hv], hb⟩
  ·refine (set_in s p n v w hs h h'.2.2.1 h'.2.2.2 h'.1 h'.2.1 hv).mono ?_
   rintro e w' ⟨rfl, hb⟩
   exact ⟨by simp [setS, setE, h, hv], hb⟩

end Go.Proofs.YtpmignilhoihnaaGreat

namespace Go.Proofs.YtpmignilhoihnaaGreat
open Go.RowKit

def getN (s : List Int) (p n : Int) : Int := if inB p n = true ∧ numAt s p.toNat n.toNat ≤ top then numAt s p.toNat n.toNat else 0
def getE (s : List Int) (p n : Int) : Int := if inB p n = true then (if numAt s p.toNat n.toNat ≤ top then 0 else 11) else 10

set_option maxHeartbeats 400000 in
theorem get_out (s : List Int) (p n : Int) (w : World) (h : inB p n = false) :
  Calls Tryz.prog 99 #[.agg (SA s), .int .i64 p, .int .i64 n] w fun e w' => e = .returned (.tuple #[.int .i64 0, .int .i64 10]) ∧ Below w.heap.size w w' := by
 go_enter Tryz.func99, Tryz.ntmps99
 go_wp2_with (go_at_call 127; refine (within_any _ _ _).mono ?_; rintro e w' ⟨rfl, rfl⟩)
 go_ret2
 exact ⟨rfl, (Below.refl _ _).alloc (Nat.le_refl _) _⟩

theorem ret_two {k k' : IntKind} {a b c d : Int} (h : a = b) (h' : c = d) : Ending.returned (.tuple #[.int k a, .int k' c]) = .returned (.tuple #[.int k b, .int k' d]) := by rw [h, h']

set_option maxHeartbeats 400000 in
theorem get_in (s : List Int) (p n : Int) (w : World) (hs : IsSec s) (h : inB p n = true) (hp0 : 0 ≤ p) (hp1 : p ≤ 128 - n) (hn0 : 1 ≤ n) (hn1 : n ≤ 8) :
  Calls Tryz.prog 99 #[.agg (SA s), .int .i64 p, .int .i64 n] w fun e w' => e = .returned (.tuple #[.int .i64 (getN s p n), .int .i64 (getE s p n)]) ∧ Below w.heap.size w w' := by
 go_enter Tryz.func99, Tryz.ntmps99
 go_wp2_with (go_at_call 127; refine (within_any _ _ _).mono ?_; rintro e w' ⟨rfl, rfl⟩)
 go_loop [8, 15] (fun v i => ∃ k : Nat, (k : Int) ≤ n ∧ i = .int .i64 k ∧ v = .int .u64 (numAt s p.toNat k)) (fun _ i => n.toNat - (intOf i).toNat)
 case atStart => exact ⟨0, by omega, rfl, rfl⟩
 case round =>
  obtain ⟨k, hk, rfl, rfl⟩ := hrel
  by_cases hlt : (k : Int) < n
  ·have hc := SA_cell w 33 s (p + k).toNat (by have := hs.1; omega)
   have hb := hs.at (p + k).toNat
   have h1 : p + (k : Int) < 128 := by omega
   go_wp2
   refine ⟨⟨k + 1, by omega, by go_num, ?_⟩, by simp [intOf]; omega⟩;have hbd := numAt_bd hs p.toNat k
   have e : (p + (k : Int)).toNat = p.toNat + k := by omega
   rw [← List.getD_eq_getElem?_getD, or_step _ _ k (by omega) hbd.1 hbd.2 hb.1 hb.2, e]
   rfl
  ·have e : n.toNat = k := by omega
   have hb0 := (numAt_bd hs p.toNat k).1
   by_cases ht : numAt s p.toNat k ≤ top
   ·have ht' : numAt s p.toNat k ≤ 4611686018427387904 := ht
    have HN : Hid (getN s p n = numAt s p.toNat k) := by show _ = _; rw [getN, e, if_pos ⟨h, ht⟩]
    have HE : Hid (getE s p n = 0) := by show _ = _; rw [getE, e, if_pos h, if_pos ht]
    clear ht e
    go_wp2
    go_ret2
    exact ⟨ret_two HN.out.symm HE.out.symm, (Below.refl _ _).alloc (Nat.le_refl _) _⟩
   ·have ht' : 4611686018427387904 < numAt s p.toNat k := by rw [top_eq] at ht; omega
    have HN : Hid (getN s p n = 0) := by show _ = _; rw [getN, e, if_neg fun x => ht x.2]
    have HE : Hid (getE s p n = 11) := by show _ = _; rw [getE, e, if_pos h, if_neg ht]
    clear ht e
    go_wp2
    go_ret2
    exact ⟨ret_two HN.out.symm HE.out.symm, (Below.refl _ _).alloc (Nat.le_refl _) _⟩

theorem get_any (s : List Int) (p n : Int) (w : World) (hs : IsSec s) :
  Calls Tryz.prog 99 #[.agg (SA s), .int .i64 p, .int .i64 n] w fun e w' => e = .returned (.tuple #[.int .i64 (getN s p n), .int .i64 (getE s p n)]) ∧ Below w.heap.size w w' := by
 cases h : inB p n
 ·refine (get_out s p n w h).mono ?_
  rintro e w' ⟨rfl, hb⟩
  exact ⟨by simp [getN, getE, h], hb⟩
 ·have h' := of_decide_eq_true h
  exact get_in s p n w hs h h'.2.2.1 h'.2.2.2 h'.1 h'.2.1

end Go.Proofs.YtpmignilhoihnaaGreat

namespace Go.Proofs.YtpmignilhoihnaaGreat
open Go.RowKit

theorem getD_set (l : List Int) (i j : Nat) (x : Int) (h : i < l.length) : (l.set i x).getD j 0 = if i = j then x else l.getD j 0 := by
 simp only [List.getD_eq_getElem?_getD, List.getElem?_set]
 by_cases e : i = j
 ·subst e; simp [h]
 ·simp [e]

theorem putN_get (s : List Int) (p : Nat) (v : Int) : ∀ k : Nat, p + k ≤ s.length → ∀ i : Nat,
  (putN s p v k).getD i 0 = if p ≤ i ∧ i < p + k then v / 256 ^ (i - p) % 256 else s.getD i 0
 | 0, _, i => by rw [if_neg (by omega)]; rfl
 | k + 1, h, i => by
  have ih := putN_get s p v k (by omega) i
  simp only [putN]
  rw [getD_set _ _ _ _ (by rw [putN_len]; omega), ih]
  by_cases e : p + k = i
  ·subst e
   rw [if_pos rfl, if_pos (by omega), show p + k - p = k by omega]
  ·rw [if_neg e]
   by_cases c : p ≤ i ∧ i < p + k
   ·rw [if_pos c, if_pos (by omega)]
   ·rw [if_neg c, if_neg (by omega)]

theorem ext_getD {a b : List Int} (h : a.length = b.length) (k : ∀ i, i < a.length → a.getD i 0 = b.getD i 0) : a = b := by
 apply List.ext_getElem h
 intro i h1 h2
 have := k i h1
 simpa [h1, h2] using this

theorem mod_pow_succ (v : Int) (hv : 0 ≤ v) (k : Nat) : v % 256 ^ (k + 1) = v % 256 ^ k + v / 256 ^ k % 256 * 256 ^ k := by
 obtain ⟨V, rfl⟩ := Int.eq_ofNat_of_zero_le hv;have := Nat.mod_pow_succ (b := 256) (x := V) (k := k)
 have e : ((V % 256 ^ (k + 1) : Nat) : Int) = ((V % 256 ^ k + 256 ^ k * (V / 256 ^ k % 256) : Nat) : Int) := by rw [this]
 simp only [Int.natCast_emod, Int.natCast_add, Int.natCast_mul, Int.natCast_pow, Int.natCast_ediv] at e
 rw [Int.mul_comm (((256 : Nat) : Int) ^ k)] at e
 exact e

theorem numAt_of (t : List Int) (p : Nat) (v : Int) (hv : 0 ≤ v) : ∀ k : Nat, (∀ j, j < k → t.getD (p + j) 0 = v / 256 ^ j % 256) → numAt t p k = v % 256 ^ k
 | 0, _ => by simp [numAt, Int.emod_one]
 | k + 1, h => by
  simp only [numAt]
  rw [numAt_of t p v hv k (fun j hj => h j (by omega)), h k (by omega), mod_pow_succ v hv k]

theorem numAt_put (s : List Int) (p : Nat) (v : Int) (k : Nat) (h : p + k ≤ s.length) (hv : 0 ≤ v) (hk : v < 256 ^ k) : numAt (putN s p v k) p k = v := by
 rw [numAt_of _ p v hv k (fun j hj => by rw [putN_get _ _ _ _ h, if_pos (by omega), show p + j - p = j by omega])]
 exact Int.emod_eq_of_lt hv hk

theorem setS_in (s : List Int) {p n v : Int} (h : inB p n = true) (hv : fitB v n = true) : setS s p n v = putN s p.toNat v n.toNat := by
 unfold setS; rw [if_pos ⟨h, hv⟩]
theorem setE_in {p n v : Int} (h : inB p n = true) (hv : fitB v n = true) : setE p n v = 0 := by
 unfold setE; rw [if_pos h, if_pos hv]

end Go.Proofs.YtpmignilhoihnaaGreat

namespace Go.Proofs.YtpmignilhoihnaaGreat
open Go.RowKit

theorem spl_get (s : List Int) (p : Nat) (zs : List Int) (h : p + zs.length ≤ s.length) (i : Nat) : (spl s p zs).getD i 0 = if p ≤ i ∧ i < p + zs.length then zs.getD (i - p) 0 else s.getD i 0 := by
 unfold spl
 simp only [List.getD_eq_getElem?_getD, List.getElem?_append, List.length_take, List.getElem?_take, List.getElem?_drop]
 rw [Nat.min_eq_left (by omega)]
 by_cases c1 : i < p
 ·rw [if_pos c1, if_pos c1, if_neg (by omega)]
 ·rw [if_neg c1]
  by_cases c2 : i < p + zs.length
  ·rw [if_pos (by omega), if_pos (by omega)]
  ·rw [if_neg (by omega), if_neg (by omega), show p + zs.length + (i - p - zs.length) = i by omega]

theorem spl_sec {s : List Int} (hs : IsSec s) (p : Nat) (zs : List Int) (h : p + zs.length ≤ 128) (hz : ∀ x ∈ zs, 0 ≤ x ∧ x ≤ 255) : IsSec (spl s p zs) := by
 refine ⟨by rw [spl_len _ _ _ (by rw [hs.1]; exact h), hs.1], fun x hx => ?_⟩;unfold spl at hx;rw [List.mem_append, List.mem_append] at hx
 rcases hx with hx | hx | hx
 ·exact hs.2 x (List.mem_of_mem_take hx)
 ·exact hz x hx
 ·exact hs.2 x (List.mem_of_mem_drop hx)

theorem splS_in (s : List Int) {T : Nat} {zs : List Int} (h : T + zs.length ≤ 128) : splS s (T : Int) zs = spl s T zs ∧ splE (T : Int) zs = 0 := by
 have hl : liesB (T : Int) zs.length = true := liesB_true (by omega)
 exact ⟨by rw [splS, if_pos hl, Int.toNat_natCast], by rw [splE, if_pos hl]⟩

end Go.Proofs.YtpmignilhoihnaaGreat

namespace Go.Proofs.YtpmignilhoihnaaGreat
open Go.RowKit

def supB (a b : Int) : Bool := decide (8 ≤ a ∧ a ≤ 4096 ∧ 1 ≤ b ∧ b ≤ 512 ∧ b + 2 ≤ a)
theorem supB_true {a b : Int} (h : 8 ≤ a ∧ a ≤ 4096 ∧ 1 ≤ b ∧ b ≤ 512 ∧ b + 2 ≤ a) : supB a b = true := decide_eq_true h
theorem supB_false {a b : Int} (h : ¬ (8 ≤ a ∧ a ≤ 4096 ∧ 1 ≤ b ∧ b ≤ 512 ∧ b + 2 ≤ a)) : supB a b = false := decide_eq_false h

set_option maxHeartbeats 400000 in
theorem superMayBe_any (a b : Int) (w : World) :
  Calls Tryz.prog 100 #[.agg #[.int .i64 a, .int .i64 b]] w fun e w' => e = .returned (.bool (supB a b)) ∧ Below w.heap.size w w' := by
 have hb : Below w.heap.size w (w.alloc (.cells #[.int .i64 a, .int .i64 b] 42)) := (Below.refl _ _).alloc (Nat.le_refl _) _
 by_cases h1 : a < 8
 ·go_enter Tryz.func100, Tryz.ntmps100
  go_wp2
  go_ret
  exact ⟨ret_bool (supB_false (by omega)).symm, hb⟩
 ·by_cases h2 : 4096 < a
  ·go_enter Tryz.func100, Tryz.ntmps100
   go_wp2
   go_ret
   exact ⟨ret_bool (supB_false (by omega)).symm, hb⟩
  ·by_cases h3 : 1 ≤ b
   ·by_cases h4 : b ≤ 512
    ·by_cases h5 : b + 2 ≤ a
     ·go_enter Tryz.func100, Tryz.ntmps100
      go_wp2
      go_ret
      exact ⟨ret_bool (supB_true (by omega)).symm, hb⟩
     ·go_enter Tryz.func100, Tryz.ntmps100
      go_wp2
      go_ret
      exact ⟨ret_bool (supB_false (by omega)).symm, hb⟩
    ·go_enter Tryz.func100, Tryz.ntmps100
     go_wp2
     go_ret
     exact ⟨ret_bool (supB_false (by omega)).symm, hb⟩
   ·go_enter Tryz.func100, Tryz.ntmps100
    go_wp2
    go_ret
    exact ⟨ret_bool (supB_false (by omega)).symm, hb⟩

end Go.Proofs.YtpmignilhoihnaaGreat

namespace Go.Proofs.YtpmignilhoihnaaGreat
open Go.RowKit

abbrev Num := Int × Int × Int
def cellsN : List Num → List Value
 | [] => []
 | n :: r => .int .i64 n.1 :: .int .i64 n.2.1 :: .int .i64 n.2.2 :: cellsN r
theorem cellsN_append : ∀ l m, cellsN (l ++ m) = cellsN l ++ cellsN m
 | [], m => rfl
 | n :: r, m => by simp [cellsN, cellsN_append r m]
theorem cellsN_one : ∀ l, ∀ u ∈ cellsN l, u.oneCell' = true
 | [], u, h => by cases h
 | n :: r, u, h => by
  simp only [cellsN, List.mem_cons] at h
  rcases h with rfl | rfl | rfl | h
  ·rfl
  ·rfl
  ·rfl
  ·exact cellsN_one r u h
theorem cellsN_get : ∀ (l : List Num) (j : Nat), (cellsN l)[3 * j]? = (l[j]?).map (fun x => Value.int .i64 x.1) ∧ (cellsN l)[3 * j + 1]? = (l[j]?).map (fun x => Value.int .i64 x.2.1) ∧ (cellsN l)[3 * j + 2]? = (l[j]?).map (fun x => Value.int .i64 x.2.2)
 | [], j => by simp [cellsN]
 | n :: r, 0 => by simp [cellsN]
 | n :: r, j + 1 => by
  have ih := cellsN_get r j;rw [show 3 * (j + 1) = 3 * j + 3 by omega]
  simpa [cellsN] using ih

def NumsAt (w : World) (b : Nat) (l : List Num) : Prop := b < w.heap.size ∧ ∀ (j : Nat) (v : Value), (cellsN l)[j]? = some v → w.cell? ⟨b, j, none⟩ = some v
theorem NumsAt.keep {B : Nat} {w w' : World} {b : Nat} {l : List Num} (h : NumsAt w b l) (hb : Below B w w') (hB : b < B) : NumsAt w' b l :=
 ⟨Nat.lt_of_lt_of_le h.1 hb.size, fun j v hj => by rw [hb.cell (p := ⟨b, j, none⟩) hB]; exact h.2 j v hj⟩
theorem NumsAt.range {w : World} {b : Nat} {l : List Num} (h : NumsAt w b l) {k : Nat} {n : Num} (hk : l[k]? = some n) : w.rangeAt b (k * 3) [.int .i64 n.1, .int .i64 n.2.1, .int .i64 n.2.2] := by
 have hg := cellsN_get l k;rw [hk] at hg
 intro i v hv
 rw [Nat.mul_comm]
 match i, hv with
 | 0, hv => simp at hv; subst hv; exact h.2 _ _ hg.1
 | 1, hv => simp at hv; subst hv; exact h.2 _ _ hg.2.1
 | 2, hv => simp at hv; subst hv; exact h.2 _ _ hg.2.2
 | i + 3, hv => simp at hv

def layS (l : List Num) : List Int := l.foldl (fun s n => putN s n.1.toNat n.2.2 n.2.1.toNat) Zs
def okN (n : Num) : Prop := inB n.1 n.2.1 = true ∧ fitB n.2.2 n.2.1 = true
theorem foldl_sec (l : List Num) : ∀ s, IsSec s → IsSec (l.foldl (fun s n => putN s n.1.toNat n.2.2 n.2.1.toNat) s) := by
 induction l with
 | nil => intro s hs; exact hs
 | cons n r ih => intro s hs; exact ih _ (putN_sec hs _ _ _)
theorem layS_sec (l : List Num) : IsSec (layS l) := foldl_sec l Zs Zs_sec
theorem layS_snoc (l : List Num) (n : Num) : layS (l ++ [n]) = putN (layS l) n.1.toNat n.2.2 n.2.1.toNat := by
 simp [layS, List.foldl_append]

theorem slt {w : World} {g : Nat} {o : Obj} (h : w.heap[g]? = some o) : g < w.heap.size := by
 rcases Nat.lt_or_ge g w.heap.size with h' | h'
 ·exact h'
 ·rw [Array.getElem?_eq_none h'] at h; cases h
theorem szN : (Tryz.prog.info? 144).map (·.size) = some 3 := by kernel_rfl

set_option maxRecDepth 100000 in
set_option maxHeartbeats 1000000 in
theorem lay_any (l : List Num) (b cap : Nat) (w : World) (hN : NumsAt w b l) (hok : ∀ n ∈ l, okN n) (hl : l.length ≤ 1000) :
  Calls Tryz.prog 88 #[.slice (some ⟨b, 0, none⟩) l.length cap] w fun e w' => e = .returned (.tuple #[.agg (SA (layS l)), .int .i64 0]) ∧ Below w.heap.size w w' := by
 have hz := zero_sec;have HN := hid hN;have HOK := hid hok;have HZ : Hid (((w.alloc (.cells (SA Zs) 33)).alloc (.cells (SA Zs) 33)).heap[w.heap.size]? = some (.cells (SA Zs) 33 (0, 0))) := heap_alloc2_old w _ _;have HS : Hid (((w.alloc (.cells (SA Zs) 33)).alloc (.cells (SA Zs) 33)).heap[w.heap.size + 1]? = some (.cells (SA Zs) 33 (0, 0))) := heap_alloc2_new w _ _;have hb : Below w.heap.size w ((w.alloc (.cells (SA Zs) 33)).alloc (.cells (SA Zs) 33)) := ((Below.refl _ _).alloc (Nat.le_refl _) _).alloc (by simp) _
 generalize hL : l.length = L at *
 have HL : Hid (l.length = L) := hL;clear hL hN hok
 go_enter Tryz.func88, Tryz.ntmps88
 go_wp2
 go_loopw [11] (fun i wr => ∃ k : Nat, k ≤ L ∧ i = .int .i64 k ∧ wr.heap[w.heap.size]? = some (.cells (SA Zs) 33 (0, 0)) ∧ wr.heap[w.heap.size + 1]? = some (.cells (SA (layS (l.take k))) 33 (0, 0)) ∧ Below w.heap.size w wr) (fun i _ => L - (intOf i).toNat)
 case atStart => exact ⟨0, by omega, rfl, HZ.out, HS.out, hb⟩
 case round =>
  obtain ⟨k, hk, rfl, h1, h2, h3⟩ := hrel
  by_cases hlt : k < L
  ·obtain ⟨n, hn⟩ : ∃ n, l[k]? = some n := ⟨l[k]'(by rw [HL.out]; exact hlt), List.getElem?_eq_getElem (by rw [HL.out]; exact hlt)⟩
   have hr := (HN.out.keep h3 HN.out.1).range hn;have hokn := HOK.out n (List.mem_of_getElem? hn)
   have hset := fun w' => set_any (layS (l.take k)) n.1 n.2.1 n.2.2 w' (layS_sec _).1
   rw [show setE n.1 n.2.1 n.2.2 = 0 from setE_in hokn.1 hokn.2, show setS (layS (l.take k)) n.1 n.2.1 n.2.2 = layS (l.take (k + 1)) from by
    rw [setS_in _ hokn.1 hokn.2, List.take_add_one, hn, Option.toList_some, layS_snoc]] at hset
   have HR := hid hr;have H1 := hid h1;have H2 := hid h2;have H3 := hid h3;have HP := hid hset;clear hr h1 h2 h3 hset hokn;have hs0 : w.heap.size + 1 < wr.heap.size := slt H2.out
   have hA : (wr.alloc (.cells #[.int .i64 n.1, .int .i64 n.2.1, .int .i64 n.2.2] 144)).heap[w.heap.size + 1]? = some (.cells (SA (layS (l.take k))) 33 (0, 0)) := by
    rw [Below.heap_alloc _ _ _ hs0]; exact H2.out
   have HA := hid hA;have HB : Hid (Below w.heap.size w (wr.alloc (.cells #[.int .i64 n.1, .int .i64 n.2.1, .int .i64 n.2.2] 144))) := H3.out.alloc (by omega) _;clear hA
   go_wp2_with (first | (refine wpList_load_mid rfl 144 (.tmp 13) rfl b (k * 3) rfl _ _ HR.out Tryz.underlying144 rfl (by rw [szN]; rfl) ?_) | (refine load_sec rfl (.tmp 4) rfl (w.heap.size + 1) rfl (layS (l.take k)) (layS_sec _).1 HA.out ?_) | (go_at_call 121; refine (HP.out _).mono ?_; rintro e w2 ⟨rfl, hb2⟩) | (refine store_sec rfl (.tmp 7) _ rfl w2.heap.size rfl (layS (l.take (k + 1))) rfl (layS_sec _).1 Zs Zs_len (heap_alloc_new _ _) ?_; intro w3 hw3; have hs3 : w.heap.size + 1 < w2.heap.size := by { have := hb2.size; simp at this; omega }; have HD : Hid (w3.heap[w.heap.size + 1]? = some (.cells (SA (layS (l.take k))) 33 (0, 0))) := by { show _ = _; rw [hw3.other _ (by omega), Below.heap_alloc _ _ _ hs3, hb2.block _ (by simp; omega)]; exact HA.out }) | refine load_sec rfl (.tmp 7) rfl w2.heap.size rfl (layS (l.take (k + 1))) (layS_sec _).1 hw3.here ?_ | (refine store_sec rfl (.tmp 4) _ rfl (w.heap.size + 1) rfl (layS (l.take (k + 1))) rfl (layS_sec _).1 (layS (l.take k)) (layS_sec _).1 HD.out ?_; intro w4 hw4))
   have hs2 : wr.heap.size + 1 ≤ w2.heap.size := by have := hb2.size; simpa using this
   have hb3 : Below w.heap.size w w3 := hw3.below (((HB.out).trans (hb2.mono (by simp; omega))).alloc (by omega) _) (by omega);refine ⟨⟨k + 1, by omega, by go_num, ?_, hw4.here, hw4.below hb3 (by omega)⟩, by simp [intOf]; omega⟩;rw [hw4.other _ (by omega), hw3.other _ (by omega), Below.heap_alloc _ _ _ (by omega), hb2.block _ (by simp; omega), Below.heap_alloc _ _ _ (by omega)]
   exact H1.out
  ·have hkL : k = L := by omega
   subst hkL;have e : l.take k = l := List.take_of_length_le (by rw [HL.out]; omega);rw [e] at h2;have H1 := hid h1;have H2 := hid h2;have H3 := hid h3;clear h1 h2 h3
   go_wp2_with (first | refine load_sec rfl _ rfl (w.heap.size + 1) rfl (layS l) (layS_sec _).1 H2.out ?_ | (refine store_sec rfl _ _ rfl w.heap.size rfl (layS l) rfl (layS_sec _).1 Zs Zs_len H1.out ?_; intro w4 hw4))
   exact bodyPost_ret (v := .tuple #[.agg (SA (layS l)), .int .i64 0]) (results_sec Tryz.results88 _ _ w.heap.size _ (layS_sec _).1 _ rfl rfl hw4.here) rfl ⟨rfl, hw4.below H3.out (by omega)⟩

def getV (s : List Int) (p n : Int) : Int := if getE s p n = 0 then getN s p n else -1
set_option maxHeartbeats 400000 in
theorem get1_any (s : List Int) (p n : Int) (w : World) (hs : IsSec s) :
  Calls Tryz.prog 71 #[.agg (SA s), .int .i64 p, .int .i64 n] w fun e w' => e = .returned (.int .i64 (getV s p n)) ∧ Below w.heap.size w w' := by
 have hg := fun w' => get_any s p n w' hs
 have hn : (w.alloc (.cells (SA s) 33)).heap[w.heap.size]? = some (.cells (SA s) 33 (0, 0)) := heap_alloc_new _ _;have HN := hid hn;have hl := hs.1;clear hn
 by_cases h : getE s p n = 0
 ·have HV : Hid (getV s p n = getN s p n) := if_pos h
  rw [h] at hg
  go_enter Tryz.func71, Tryz.ntmps71
  go_wp2_with (first | refine load_sec rfl _ rfl w.heap.size rfl s hl HN.out ?_ | (go_at_call 99; refine (hg _).mono ?_; rintro e w2 ⟨rfl, hb2⟩))
  go_ret
  exact ⟨by rw [HV.out]; rfl, ((Below.refl _ _).alloc (Nat.le_refl _) _).trans (hb2.mono (by simp))⟩
 ·have HV : Hid (getV s p n = -1) := if_neg h
  have hne : (getE s p n != 0) = true := by simp [h]
  go_enter Tryz.func71, Tryz.ntmps71
  go_wp2_with (first | refine load_sec rfl _ rfl w.heap.size rfl s hl HN.out ?_ | (go_at_call 99; refine (hg _).mono ?_; rintro e w2 ⟨rfl, hb2⟩))
  go_ret
  exact ⟨by rw [HV.out]; rfl, ((Below.refl _ _).alloc (Nat.le_refl _) _).trans (hb2.mono (by simp))⟩

end Go.Proofs.YtpmignilhoihnaaGreat

namespace Go.Proofs.YtpmignilhoihnaaGreat
open Go.RowKit

theorem sS {α : Type} : (∀ (l : List α) (i : Nat) (a : α), l.toArray.setIfInBounds i a = (l.set i a).toArray) ∧ (∀ (x y : α) (l : List α), (x :: l).set 0 y = y :: l) ∧ ∀ (x y : α) (l : List α) (n : Nat), (x :: l).set (n + 1) y = x :: l.set n y := ⟨fun l i a => List.setIfInBounds_toArray l i a, fun _ _ _ => rfl, fun _ _ _ _ => rfl⟩
section
variable {ops : Array Oper} {Q : Exit → Act → World → Prop} {S : World → Prop} {fuel : Nat} {listed : Array Bool} {a : Act} {w : World}

theorem takeVal (i d : Nat) (v : Value) {o : Oper} (hop : ops[i]? = some o) (hs : Region.noSelect ops = true) (hf : Region.free .any ops listed i = true) (hr : (Region.ready .any ops listed).contains i = true)
  (hd : o.dst = some d) (hw : Region.wanted o (yielded ops a.tmps) = true) (hQ : ∀ c a w, ¬ Q (.panic c) a w) (hS : S w)
  (hy : ∀ w, S w → (execOp a.eval o).run Tryz.prog w = .ok (.value v) w)
  (h : wpAnyH Tryz.prog .any ops Q S fuel (listed.setIfInBounds i true) { a with tmps := a.tmps.setIfInBounds d v } w) : wpAnyH Tryz.prog .any ops Q S (fuel + 1) listed a w := by
 refine wpAnyH_take (v := v) hop hs hf hr (fun c a w k => absurd k (hQ c _ w)) (.inl ⟨hw, hy⟩) hS ?_;unfold Act.put;rw [hd]
 exact h

theorem takeNot (i d : Nat) {o : Oper} (hop : ops[i]? = some o) (hs : Region.noSelect ops = true) (hf : Region.free .any ops listed i = true) (hr : (Region.ready .any ops listed).contains i = true)
  (hd : o.dst = some d) (hw : Region.wanted o (yielded ops a.tmps) = false) (hQ : ∀ c a w, ¬ Q (.panic c) a w) (hS : S w)
  (h : wpAnyH Tryz.prog .any ops Q S fuel (listed.setIfInBounds i true) { a with tmps := a.tmps.setIfInBounds d undef } w) : wpAnyH Tryz.prog .any ops Q S (fuel + 1) listed a w := by
 refine wpAnyH_take (v := undef) hop hs hf hr (fun c a w k => absurd k (hQ c _ w)) (.inr ⟨hw, rfl⟩) hS ?_;unfold Act.put;rw [hd]
 exact h

abbrev St (ops : Array Oper) (Q : Exit → Act → World → Prop) (S : World → Prop) (fuel : Nat) (listed : Array Bool) (a : Act) (w : World) (i : Nat) : Prop :=
 wpOp Tryz.prog ops Q i (fun a' w' => S w' ∧ wpAnyH Tryz.prog .any ops Q S fuel (listed.setIfInBounds i true) a' w') a w

theorem tV (i d : Nat) (v : Value) {o : Oper} (hop : ops[i]? = some o) (hq : (Region.noSelect ops && (Region.free .any ops listed i && (Region.ready .any ops listed).contains i)) = true) (hd : o.dst = some d) (hw : Region.wanted o (yielded ops a.tmps) = true) (hS : S w)
 (hy : ∀ w, S w → (execOp a.eval o).run Tryz.prog w = .ok (.value v) w)
 (h : wpAnyH Tryz.prog .any ops Q S fuel (listed.setIfInBounds i true) { a with tmps := a.tmps.setIfInBounds d v } w) (hQ : ∀ c a w, ¬ Q (.panic c) a w := by exact fun _ _ _ h => h) : wpAnyH Tryz.prog .any ops Q S (fuel + 1) listed a w := by
 rw [Bool.and_eq_true, Bool.and_eq_true] at hq
 exact takeVal i d v hop hq.1 hq.2.1 hq.2.2 hd hw hQ hS hy h
theorem step1 (i : Nat) (hr : Region.ready .any ops listed = [i]) (h : St ops Q S fuel listed a w i) : wpAnyH Tryz.prog .any ops Q S (fuel + 1) listed a w :=
 wpAnyH_all hr (by simp) fun j hj => by simp at hj; subst hj; exact h
theorem step2 (i j : Nat) (hr : Region.ready .any ops listed = [i, j]) (h : St ops Q S fuel listed a w i) (k : St ops Q S fuel listed a w j) : wpAnyH Tryz.prog .any ops Q S (fuel + 1) listed a w :=
 wpAnyH_all hr (by simp) fun l hl => by
  simp at hl
  rcases hl with rfl | rfl
  ·exact h
  ·exact k

theorem stCall (i d f : Nat) (args : Array Value) (R : Ending → World → Prop) {o : Oper} (hop : ops[i]? = some o)
  (hd : o.dst = some d) (hw : Region.wanted o (yielded ops a.tmps) = true) (hrun : (execOp a.eval o).run Tryz.prog w = .ok (.enter f args) w) (hc : Calls Tryz.prog f args w R)
  (h : ∀ e w', R e w' → ∃ v, e = .returned v ∧ S w' ∧ wpAnyH Tryz.prog .any ops Q S fuel (listed.setIfInBounds i true) { a with tmps := a.tmps.setIfInBounds d v } w') : St ops Q S fuel listed a w i := by
 refine wpOp_step hop (fun K hK => ?_);rw [if_pos hw];unfold Oper.wp;rw [hrun, Oper.upon_enter];refine hc.mono ?_
 intro e w' hR
 obtain ⟨v, rfl, hS, hrest⟩ := h e w' hR;refine hK _ _ ⟨hS, ?_⟩;unfold Act.put;rw [hd]
 exact hrest
theorem stVal (i d : Nat) (v : Value) {o : Oper} (hop : ops[i]? = some o) (hd : o.dst = some d) (hw : Region.wanted o (yielded ops a.tmps) = true)
  (hrun : (execOp a.eval o).run Tryz.prog w = .ok (.value v) w) (hS : S w)
  (h : wpAnyH Tryz.prog .any ops Q S fuel (listed.setIfInBounds i true) { a with tmps := a.tmps.setIfInBounds d v } w) : St ops Q S fuel listed a w i := by
 refine wpOp_step hop (fun K hK => ?_);rw [if_pos hw];unfold Oper.wp;rw [hrun];refine hK _ _ ⟨hS, ?_⟩;unfold Act.put;rw [hd]
 exact h
theorem stNew (i d : Nat) (v : Value) (ob : Obj) {o : Oper} (hop : ops[i]? = some o) (hd : o.dst = some d) (hw : Region.wanted o (yielded ops a.tmps) = true)
  (hrun : (execOp a.eval o).run Tryz.prog w = .ok (.value v) (w.alloc ob))
  (h : S (w.alloc ob) ∧ wpAnyH Tryz.prog .any ops Q S fuel (listed.setIfInBounds i true) { a with tmps := a.tmps.setIfInBounds d v } (w.alloc ob)) : St ops Q S fuel listed a w i := by
 refine wpOp_step hop (fun K hK => ?_);rw [if_pos hw];unfold Oper.wp;rw [hrun];refine hK _ _ ⟨h.1, ?_⟩;unfold Act.put;rw [hd]
 exact h.2
end

end Go.Proofs.YtpmignilhoihnaaGreat

namespace Go.Proofs.YtpmignilhoihnaaGreat
open Go.RowKit

structure PutR (w : World) (g : Nat) (c : Array Value) (t : TypeId) (w' : World) : Prop where
 here : w'.heap[g]? = some (.cells c t (0, 0))
 other : ∀ k, k ≠ g → w'.heap[k]? = w.heap[k]?
 size : w'.heap.size = w.heap.size
 os : w'.os = w.os
 tape : w'.tape = w.tape
 output : w'.output = w.output
theorem putR_setRow {w : World} {g : Nat} {t : TypeId} {old : Array Value} (c : Array Value) (hg : w.heap[g]? = some (.cells old t (0, 0))) : PutR w g c t (w.setRow g c) := by
 refine ⟨?_, ?_, ?_, rfl, rfl, rfl⟩
 ·simp [World.setRow, Array.getElem?_modify, hg]
 ·intro k hk
  simp only [World.setRow, Array.getElem?_modify]
  rw [if_neg (fun e => hk e.symm)]
 ·simp [World.setRow]
theorem PutR.below {B g : Nat} {t : TypeId} {w0 w w' : World} {c : Array Value} (h : PutR w g c t w') (hb : Below B w0 w) (hB : B ≤ g) : Below B w0 w' :=
 hb.trans ⟨h.os, h.tape, h.output, Nat.le_of_eq h.size.symm, fun k hk => h.other k (by omega)⟩
theorem below_drew {B : Nat} {w0 w : World} (h : Below B w0 w) : Below B w0 w.drew := ⟨h.os, h.tape, h.output, h.size, h.block⟩
theorem btr {B C : Nat} {w0 w w' : World} (h : Below B w0 w) (k : Below C w w') (hBC : B ≤ C) : Below B w0 w' := h.trans (k.mono hBC)

theorem run_loadR (w : World) (g : Nat) (t tb : TypeId) (c : Array Value) (d : TypeDesc) (hg : w.heap[g]? = some (.cells c tb (0, 0))) (hu : Tryz.prog.underlying t = some d) (hd : d.isRow = true) (hi : (Tryz.prog.info? t).map (·.size) = some c.size) :
  (loadVar t ⟨g, 0, none⟩).run Tryz.prog w = .ok (.agg c) w := by
 have h := run_loadVar_mid (P := Tryz.prog) w g 0 t c.toList d (fun j v hv => by rw [Nat.zero_add, cell_of_row _ _ _ _ tb (0, 0) hg]; simpa using hv) hu hd (by simpa using hi)
 simpa using h

section
variable {ops : Array Oper} {rest : List Oper} {o : Oper} {a : Act} {w : World} {Q : Exit → Act → World → Prop}
theorem store_R (hgd : o.guard = none) (t : TypeId) (x y : Operand) (ho : o.op = .store t x y) (g : Nat) (c : Array Value) (hx : a.eval x = .pointer (some ⟨g, 0, none⟩)) (hy : a.eval y = .agg c)
  (tb : TypeId) (old : Array Value) (hg : w.heap[g]? = some (.cells old tb (0, 0))) (hi : (Tryz.prog.info? t).map (·.size) = some c.size) (hs : old.size = c.size) (h1 : c.all (·.oneCell') = true)
  (h : ∀ w', PutR w g c tb w' → wpList Tryz.prog ops Q rest (a.put o.dst undef) w') : wpList Tryz.prog ops Q (o :: rest) a w :=
 wpList_store_row hgd t x y ho g c hx hy tb old hg hi hs h1 (h _ (putR_setRow c hg))
theorem load_R (hgd : o.guard = none) (t : TypeId) (x : Operand) (ho : o.op = .load t x) (g : Nat) (hx : a.eval x = .pointer (some ⟨g, 0, none⟩)) (tb : TypeId) (c : Array Value) (d : TypeDesc) (hg : w.heap[g]? = some (.cells c tb (0, 0)))
  (hu : Tryz.prog.underlying t = some d) (hd : d.isRow = true) (hi : (Tryz.prog.info? t).map (·.size) = some c.size)
  (h : wpList Tryz.prog ops Q rest (a.put o.dst (.agg c)) w) : wpList Tryz.prog ops Q (o :: rest) a w :=
 wpList_plain hgd fun _ hK => by
  unfold Oper.wp execOp
  simp only [ho, hx, Instr.loadAt, Instr.sureAddr, Sem.run_bind, Sem.run_pure, Result.andThen_ok, run_loadR w g t tb c d hg hu hd hi]
  exact hK _ _ h
end

section
variable {ops : Array Oper} {rest : List Oper} {o : Oper} {a : Act} {w : World} {Q : Exit → Act → World → Prop}
theorem eql_R (hw : Region.wanted o (yielded ops a.tmps) = true) (t : TypeId) (x y : Operand) (ho : o.op = .binOp .eql t x y t) (c c' : Array Value) (b : Bool) (hx : a.eval x = .agg c) (hy : a.eval y = .agg c')
  (hq : ∀ w, (Op.equalIn 10000 t (.agg c) (.agg c')).run Tryz.prog w = .ok b w) (hg : Tryz.prog.eqGuardType Tryz.prog.depth t = false)
  (h : wpList Tryz.prog ops Q rest (a.put o.dst (.bool b)) w) : wpList Tryz.prog ops Q (o :: rest) a w :=
 wpList_want hw fun _ hK => by
  unfold Oper.wp execOp
  simp only [ho, hx, hy, Sem.run_bind, run_eqGuard_agg _ _ _ _ _ _ _ hg, run_eql_struct, hq, Result.andThen_ok, Sem.run_pure]
  exact hK _ _ h
theorem neq_R (hw : Region.wanted o (yielded ops a.tmps) = true) (t : TypeId) (x y : Operand) (ho : o.op = .binOp .neq t x y t) (c c' : Array Value) (b : Bool) (hx : a.eval x = .agg c) (hy : a.eval y = .agg c')
  (hq : ∀ w, (Op.equalIn 10000 t (.agg c) (.agg c')).run Tryz.prog w = .ok b w) (hg : Tryz.prog.eqGuardType Tryz.prog.depth t = false)
  (h : wpList Tryz.prog ops Q rest (a.put o.dst (.bool (!b))) w) : wpList Tryz.prog ops Q (o :: rest) a w :=
 wpList_want hw fun _ hK => by
  unfold Oper.wp execOp
  simp only [ho, hx, hy, Sem.run_bind, run_eqGuard_agg _ _ _ _ _ _ _ hg, run_neq_struct, hq, Result.andThen_ok, Sem.run_pure]
  exact hK _ _ h
end

section
variable {ops : Array Oper} {Q : Exit → Act → World → Prop} {S : World → Prop} {fuel : Nat} {listed : Array Bool} {a : Act} {w : World}
theorem stStoreR (i : Nat) (t : TypeId) (x y : Operand) (g : Nat) (c : Array Value) (tb : TypeId) (old : Array Value) {o : Oper} (hop : ops[i]? = some o) (hd : o.dst = none) (hw : Region.wanted o (yielded ops a.tmps) = true) (ho : o.op = .store t x y)
  (hx : a.eval x = .pointer (some ⟨g, 0, none⟩)) (hy : a.eval y = .agg c) (hg : w.heap[g]? = some (.cells old tb (0, 0))) (hi : (Tryz.prog.info? t).map (·.size) = some c.size) (hs : old.size = c.size) (h1 : c.all (·.oneCell') = true)
  (h : ∀ w', PutR w g c tb w' → S w' ∧ wpAnyH Tryz.prog .any ops Q S fuel (listed.setIfInBounds i true) a w') : St ops Q S fuel listed a w i := by
 refine wpOp_step hop (fun K hK => ?_);rw [if_pos hw];refine wp_store_row t x y ho g c hx hy tb old hg hi hs h1 ?_;have := h _ (putR_setRow c hg);unfold Act.put;rw [hd]
 exact hK _ _ this
theorem takeR (i d : Nat) (t : TypeId) (x : Operand) (g : Nat) (tb : TypeId) (c : Array Value) (td : TypeDesc) {o : Oper} (hop : ops[i]? = some o) (hs : Region.noSelect ops = true) (hf : Region.free .any ops listed i = true) (hr : (Region.ready .any ops listed).contains i = true)
  (hd : o.dst = some d) (ho : o.op = .load t x) (hx : a.eval x = .pointer (some ⟨g, 0, none⟩)) (hu : Tryz.prog.underlying t = some td) (htd : td.isRow = true) (hi : (Tryz.prog.info? t).map (·.size) = some c.size)
  (hw : Region.wanted o (yielded ops a.tmps) = true) (hQ : ∀ c a w, ¬ Q (.panic c) a w) (hS : S w)
  (hg : ∀ w, S w → w.heap[g]? = some (.cells c tb (0, 0)))
  (h : wpAnyH Tryz.prog .any ops Q S fuel (listed.setIfInBounds i true) { a with tmps := a.tmps.setIfInBounds d (.agg c) } w) : wpAnyH Tryz.prog .any ops Q S (fuel + 1) listed a w := by
 refine takeVal i d _ hop hs hf hr hd hw hQ hS (fun w hw' => ?_) h;unfold execOp
 simp only [ho, hx, Instr.loadAt, Instr.sureAddr, Sem.run_bind, Sem.run_pure, Result.andThen_ok, run_loadR w g t tb c td (hg w hw') hu htd hi]
theorem takeSec (i d : Nat) (x : Operand) (g : Nat) (c : List Int) (hc : c.length = 128) {o : Oper} (hop : ops[i]? = some o) (hs : Region.noSelect ops = true) (hf : Region.free .any ops listed i = true) (hr : (Region.ready .any ops listed).contains i = true)
  (hd : o.dst = some d) (ho : o.op = .load 33 x) (hx : a.eval x = .pointer (some ⟨g, 0, none⟩)) (hw : Region.wanted o (yielded ops a.tmps) = true) (hQ : ∀ c a w, ¬ Q (.panic c) a w) (hS : S w)
  (hg : ∀ w, S w → w.heap[g]? = some (.cells (SA c) 33 (0, 0)))
  (h : wpAnyH Tryz.prog .any ops Q S fuel (listed.setIfInBounds i true) { a with tmps := a.tmps.setIfInBounds d (.agg (SA c)) } w) : wpAnyH Tryz.prog .any ops Q S (fuel + 1) listed a w :=
 takeR i d 33 x g 33 (SA c) _ hop hs hf hr hd ho hx Tryz.underlying33 rfl (by rw [sz26, SA_size, hc]) hw hQ hS hg h
end

theorem results_R {fn : Func} {p u : Tmp} {t : TypeId} (h : fn.results = #[.cell p t, .tmp u]) (tmps : Array Value) (w : World) (g : Nat) (c : Array Value) (tb : TypeId) (d : TypeDesc) (v : Value)
  (hu : Tryz.prog.underlying t = some d) (hd : d.isRow = true) (hi : (Tryz.prog.info? t).map (·.size) = some c.size)
  (hp : tmps.getD p undef = .pointer (some ⟨g, 0, none⟩)) (hv : tmps.getD u undef = v) (hg : w.heap[g]? = some (.cells c tb (0, 0))) :
  (results fn tmps).run Tryz.prog w = .ok (.tuple #[.agg c, v]) w := by
 rw [results_cell_tmp h, hp, hv]
 simp [asAddr, run_loadR w g t tb c d hg hu hd hi]
theorem results_R1 {fn : Func} {p : Tmp} {t : TypeId} (h : fn.results = #[.cell p t]) (tmps : Array Value) (w : World) (g : Nat) (c : Array Value) (tb : TypeId) (d : TypeDesc)
  (hu : Tryz.prog.underlying t = some d) (hd : d.isRow = true) (hi : (Tryz.prog.info? t).map (·.size) = some c.size)
  (hp : tmps.getD p undef = .pointer (some ⟨g, 0, none⟩)) (hg : w.heap[g]? = some (.cells c tb (0, 0))) :
  (results fn tmps).run Tryz.prog w = .ok (.agg c) w := by
 have hp' : tmps[p]?.getD undef = .pointer (some ⟨g, 0, none⟩) := by simpa using hp
 simp [results, h, hp', asAddr, run_loadR w g t tb c d hg hu hd hi]

end Go.Proofs.YtpmignilhoihnaaGreat
