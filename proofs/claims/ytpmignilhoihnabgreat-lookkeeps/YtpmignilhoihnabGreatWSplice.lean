/-
 sector.Splice returns, for every sector, place and list of bytes, the sector with the bytes there, or the error.
-/
import Derived.Test.YtpmignilhoihnabGreatLaws
import Derived.Laws.CopyOwn
import Derived.Deep.RegionLaw
namespace Go.Proofs.YtpmignilhoihnabGreat
open Go.RowKit

theorem kept_write {w w' : World} {g k : Nat} {c : List Int} {x : Option Obj} (h : Wrote w g c w') (hx : Hid (w.heap[k]? = x)) (hk : k ≠ g) : Hid (w'.heap[k]? = x) := by
 show _ = _
 rw [h.other _ hk]
 exact hx.out

end Go.Proofs.YtpmignilhoihnabGreat

namespace Go.Proofs.YtpmignilhoihnabGreat
open Go.RowKit

def BytesAt (w : World) (a : Option Addr) (zs : List Int) : Prop :=
 zs = [] ∨ ∃ b o, a = some ⟨b, o, none⟩ ∧ b < w.heap.size ∧ ∀ j, j < zs.length → w.cell? ⟨b, o + j, none⟩ = some (.int .u8 (zs.getD j 0))

theorem one_cells (l : List Int) : ∀ v ∈ l.map (Value.int .u8), v.oneCell' = true := by
 intro v hv
 rw [List.mem_map] at hv;obtain ⟨x, _, rfl⟩ := hv
 rfl
theorem sz5 : (Tryz.prog.info? 5).map (·.size) = some 1 := by kernel_rfl
theorem addr_add (b o j : Nat) : (⟨b, o, none⟩ : Addr).add j = ⟨b, o + j, none⟩ := by unfold Addr.add; split <;> simp_all

def liesB (p : Int) (n : Nat) : Bool := decide (0 ≤ p ∧ p ≤ 128 ∧ (n : Int) ≤ 128 - p)
theorem liesB_true {p : Int} {n : Nat} (h : 0 ≤ p ∧ p ≤ 128 ∧ (n : Int) ≤ 128 - p) : liesB p n = true := decide_eq_true h
def spl (s : List Int) (p : Nat) (zs : List Int) : List Int := s.take p ++ (zs ++ s.drop (p + zs.length))
theorem spl_len (s : List Int) (p : Nat) (zs : List Int) (h : p + zs.length ≤ s.length) : (spl s p zs).length = s.length := by
 simp [spl]; omega
theorem spl_nil (s : List Int) (p : Nat) : spl s p [] = s := by simp [spl]
def splS (s : List Int) (p : Int) (zs : List Int) : List Int := if liesB p zs.length = true then spl s p.toNat zs else Zs
def splE (p : Int) (zs : List Int) : Int := if liesB p zs.length = true then 0 else 10

theorem bytes_src {w w' : World} {zs : List Int} {a : Option Addr} (h : BytesAt w a zs) (hb : Below w.heap.size w w') (hp : 0 < zs.length) :
  ∃ ad, a = some ad ∧ ∀ j v, (zs.map (Value.int .u8))[j]? = some v → w'.cell? (ad.add j) = some v := by
 rcases h with rfl | ⟨b, o, rfl, hlt, hc⟩
 ·simp at hp
 ·refine ⟨_, rfl, fun j v hj => ?_⟩
  rw [addr_add, hb.cell (p := ⟨b, o + j, none⟩) hlt]
  have hjl : j < zs.length := by
   rcases Nat.lt_or_ge j zs.length with k | k
   ·exact k
   ·rw [List.getElem?_eq_none (by simpa using k)] at hj; cases hj
  rw [hc j hjl]
  simp [hjl] at hj
  simp [hjl, hj]

theorem copy_sec {w : World} {ops : Array Oper} {rest : List Oper} {o : Oper} {a : Act} {Q : Exit → Act → World → Prop} (hgd : o.guard = none) (d s : Operand)
  (ho : o.op = .call { callee := .builtin .copy, args := #[d, s], argTypes := #[124, 124] })
  (dp sp : Option Addr) (dLen dCap sLen sCap : Nat) (hd : a.eval d = .slice dp dLen dCap) (hs : a.eval s = .slice sp sLen sCap)
  (g off : Nat) (c : List Int) (hg : w.heap[g]? = some (.cells (SA c) 36 (0, 0))) (zs : List Int) (hn : (zs.map (Value.int .u8)).length = Nat.min sLen dLen)
  (hpos : 0 < (zs.map (Value.int .u8)).length → dp = some ⟨g, off, none⟩ ∧ ∃ ad, sp = some ad ∧ ∀ j v, (zs.map (Value.int .u8))[j]? = some v → w.cell? (ad.add j) = some v)
  (hfit : off + (zs.map (Value.int .u8)).length ≤ (c.map (Value.int .u8)).length)
  (h : ∀ w', Wrote w g (spl c off zs) w' → wpList Tryz.prog ops Q rest (a.put o.dst (goInt (zs.map (Value.int .u8)).length)) w') : wpList Tryz.prog ops Q (o :: rest) a w := by
 by_cases h0 : (zs.map (Value.int .u8)).length = 0
 ·have hz : zs = [] := List.eq_nil_of_length_eq_zero (by simpa using h0)
  subst hz;refine wpList_copy_nothing hgd d s 124 124 ho 5 Tryz.underlying124 sz5 dp sp dLen dCap sLen sCap hd hs hn.symm ?_;have hh := h w ⟨by rw [spl_nil]; exact hg, fun _ _ => rfl, rfl, rfl, rfl, rfl⟩
  exact hh
 ·obtain ⟨rfl, ad, rfl, hsrc⟩ := hpos (by omega)
  refine wpList_copy_own hgd d s 124 124 ho 5 Tryz.underlying124 sz5 g off dLen dCap ad sLen sCap hd hs (SA c) 36 hg (zs.map (Value.int .u8)) hn hsrc (by simpa [SA] using hfit) (one_cells zs) ?_
  have e : ((SA c).toList.take off ++ (zs.map (Value.int .u8) ++ (SA c).toList.drop (off + (zs.map (Value.int .u8)).length))).toArray = SA (spl c off zs) := by
   simp [SA, spl, List.map_take, List.map_drop]
  rw [e]
  exact h _ (wrote_setRow _ hg)
set_option maxRecDepth 100000 in
set_option maxHeartbeats 400000 in
theorem splice_out (s : List Int) (p : Int) (L : Nat) (a : Option Addr) (cap : Nat) (w : World) (h : liesB p L = false) :
  Calls Tryz.prog 98 #[.agg (SA s), .int .i64 p, .slice a L cap] w fun e w' => e = .returned (.tuple #[.agg (SA Zs), .int .i64 10]) ∧ Below w.heap.size w w' := by
 have hz := zero_sec;have HN : Hid (((w.alloc (.cells (SA s) 36)).alloc (.cells (SA Zs) 36)).heap[w.heap.size + 1]? = some (.cells (SA Zs) 36 (0, 0))) := heap_alloc2_new w _ _;have hb : Below w.heap.size w ((w.alloc (.cells (SA s) 36)).alloc (.cells (SA Zs) 36)) := ((Below.refl _ _).alloc (Nat.le_refl _) _).alloc (by simp) _;have h' := of_decide_eq_false h
 by_cases h1 : p < 0
 ·go_enter Tryz.func98, Tryz.ntmps98
  go_wp2_with (refine store_sec rfl _ _ rfl (w.heap.size + 1) rfl Zs rfl Zs_len Zs Zs_len HN.out ?_; intro w2 hw2)
  exact bodyPost_ret (v := .tuple #[.agg (SA Zs), .int .i64 10]) (results_sec Tryz.results98 _ _ (w.heap.size + 1) Zs Zs_len _ rfl rfl hw2.here) rfl ⟨rfl, hw2.below hb (by omega)⟩
 ·by_cases h2 : 128 < p
  ·go_enter Tryz.func98, Tryz.ntmps98
   go_wp2_with (refine store_sec rfl _ _ rfl (w.heap.size + 1) rfl Zs rfl Zs_len Zs Zs_len HN.out ?_; intro w2 hw2)
   exact bodyPost_ret (v := .tuple #[.agg (SA Zs), .int .i64 10]) (results_sec Tryz.results98 _ _ (w.heap.size + 1) Zs Zs_len _ rfl rfl hw2.here) rfl ⟨rfl, hw2.below hb (by omega)⟩
  ·have h3 : 128 - p < (L : Int) := by omega
   clear h'
   go_enter Tryz.func98, Tryz.ntmps98
   go_wp2_with (refine store_sec rfl _ _ rfl (w.heap.size + 1) rfl Zs rfl Zs_len Zs Zs_len HN.out ?_; intro w2 hw2)
   exact bodyPost_ret (v := .tuple #[.agg (SA Zs), .int .i64 10]) (results_sec Tryz.results98 _ _ (w.heap.size + 1) Zs Zs_len _ rfl rfl hw2.here) rfl ⟨rfl, hw2.below hb (by omega)⟩

set_option maxRecDepth 100000 in
set_option maxHeartbeats 400000 in
theorem splice_in (s : List Int) (P L : Nat) (zs : List Int) (hL : Hid (zs.length = L)) (a : Option Addr) (cap : Nat) (w : World) (hs : s.length = 128) (hr : BytesAt w a zs) (h1 : P < 128) (h2 : (L : Int) ≤ 128 - (P : Int)) :
  Calls Tryz.prog 98 #[.agg (SA s), .int .i64 (P : Int), .slice a L cap] w fun e w' => e = .returned (.tuple #[.agg (SA (spl s P zs)), .int .i64 0]) ∧ Below w.heap.size w w' := by
 have hz := zero_sec;have HO : Hid (((w.alloc (.cells (SA s) 36)).alloc (.cells (SA Zs) 36)).heap[w.heap.size]? = some (.cells (SA s) 36 (0, 0))) := heap_alloc2_old w _ _;have HN : Hid (((w.alloc (.cells (SA s) 36)).alloc (.cells (SA Zs) 36)).heap[w.heap.size + 1]? = some (.cells (SA Zs) 36 (0, 0))) := heap_alloc2_new w _ _;have hb : Below w.heap.size w ((w.alloc (.cells (SA s) 36)).alloc (.cells (SA Zs) 36)) := ((Below.refl _ _).alloc (Nat.le_refl _) _).alloc (by simp) _
 have h3 : ¬ 128 - (P : Int) < (L : Int) := by omega
 have hP0 : (P : Int) ≤ 128 := by omega
 have hne : ¬ 128 = P := by omega
 have hlen : (spl s P zs).length = 128 := by rw [spl_len _ _ _ (by rw [hL.out]; omega), hs]
 have HCN : Hid ((zs.map (Value.int .u8)).length = Nat.min L (128 - P)) := by
  show _ = _
  rw [List.length_map, hL.out]
  exact (Nat.min_eq_left (by omega)).symm
 have HCF : Hid (P + (zs.map (Value.int .u8)).length ≤ (s.map (Value.int .u8)).length) := by
  show _ ≤ _
  rw [List.length_map, List.length_map, hL.out]
  omega
 have HSRC : Hid (0 < (zs.map (Value.int .u8)).length → (some ⟨w.heap.size, P, none⟩ : Option Addr) = some ⟨w.heap.size, P, none⟩ ∧ ∃ ad, a = some ad ∧ ∀ j v, (zs.map (Value.int .u8))[j]? = some v → ((w.alloc (.cells (SA s) 36)).alloc (.cells (SA Zs) 36)).cell? (ad.add j) = some v) :=
  fun hp => ⟨rfl, bytes_src hr hb (by simpa using hp)⟩
 have hb1 : Below (w.heap.size + 2) ((w.alloc (.cells (SA s) 36)).alloc (.cells (SA Zs) 36)) ((w.alloc (.cells (SA s) 36)).alloc (.cells (SA Zs) 36)) := Below.refl _ _;clear hr
 go_enter Tryz.func98, Tryz.ntmps98
 go_wp2_with (first | (refine copy_sec rfl (.tmp 23) (.tmp 24) rfl (some ⟨w.heap.size, P, none⟩) a (128 - P) (128 - P) L cap rfl rfl w.heap.size P s HO.out zs HCN.out HSRC.out HCF.out ?_; intro w4 hw4) | refine load_sec rfl _ rfl w.heap.size rfl (spl s P zs) hlen hw4.here ?_ | (refine store_sec rfl _ _ rfl (w.heap.size + 1) rfl (spl s P zs) rfl hlen Zs Zs_len (kept_write hw4 HN (by omega)).out ?_; intro w5 hw5))
 exact bodyPost_ret (v := .tuple #[.agg (SA (spl s P zs)), .int .i64 0]) (results_sec Tryz.results98 _ _ (w.heap.size + 1) (spl s P zs) hlen _ rfl rfl hw5.here) rfl ⟨rfl, hw5.below (hw4.below hb (by omega)) (by omega)⟩

set_option maxRecDepth 100000 in
set_option maxHeartbeats 400000 in
theorem splice_end (s : List Int) (a : Option Addr) (cap : Nat) (w : World) (hs : s.length = 128) :
  Calls Tryz.prog 98 #[.agg (SA s), .int .i64 128, .slice a 0 cap] w fun e w' => e = .returned (.tuple #[.agg (SA s), .int .i64 0]) ∧ Below w.heap.size w w' := by
 have hz := zero_sec;have HO : Hid (((w.alloc (.cells (SA s) 36)).alloc (.cells (SA Zs) 36)).heap[w.heap.size]? = some (.cells (SA s) 36 (0, 0))) := heap_alloc2_old w _ _;have HN : Hid (((w.alloc (.cells (SA s) 36)).alloc (.cells (SA Zs) 36)).heap[w.heap.size + 1]? = some (.cells (SA Zs) 36 (0, 0))) := heap_alloc2_new w _ _;have hb : Below w.heap.size w ((w.alloc (.cells (SA s) 36)).alloc (.cells (SA Zs) 36)) := ((Below.refl _ _).alloc (Nat.le_refl _) _).alloc (by simp) _
 have hcp := fun w' => run_copy_none (P := Tryz.prog) w' 124 124 3 5 (some ⟨w.heap.size, 0, none⟩) a 0 0 0 cap Tryz.underlying124 sz5 rfl
 go_enter Tryz.func98, Tryz.ntmps98
 go_wp2_with (first | refine load_sec rfl _ rfl w.heap.size rfl s hs HO.out ?_ | (refine store_sec rfl _ _ rfl (w.heap.size + 1) rfl s rfl hs Zs Zs_len HN.out ?_; intro w5 hw5))
 exact bodyPost_ret (v := .tuple #[.agg (SA s), .int .i64 0]) (results_sec Tryz.results98 _ _ (w.heap.size + 1) s hs _ rfl rfl hw5.here) rfl ⟨rfl, hw5.below hb (by omega)⟩

theorem splice_any (s : List Int) (p : Int) (zs : List Int) (a : Option Addr) (cap : Nat) (w : World) (hs : s.length = 128) (hr : BytesAt w a zs) :
  Calls Tryz.prog 98 #[.agg (SA s), .int .i64 p, .slice a zs.length cap] w fun e w' => e = .returned (.tuple #[.agg (SA (splS s p zs)), .int .i64 (splE p zs)]) ∧ Below w.heap.size w w' := by
 cases h : liesB p zs.length
 ·refine (splice_out s p zs.length a cap w h).mono ?_
  rintro e w' ⟨rfl, hb⟩
  exact ⟨by simp [splS, splE, h], hb⟩
 ·have h' := of_decide_eq_true h
  have e1 : splS s p zs = spl s p.toNat zs := by rw [splS, if_pos h]
  have e2 : splE p zs = 0 := by rw [splE, if_pos h]
  rw [e1, e2]
  by_cases h8 : p = 128
  ·have h0 : zs = [] := List.eq_nil_of_length_eq_zero (by omega)
   subst h0 h8;rw [spl_nil]
   exact splice_end s a cap w hs
  ·obtain ⟨P, rfl⟩ := Int.eq_ofNat_of_zero_le h'.1
   rw [Int.toNat_natCast]
   exact splice_in s P zs.length zs rfl a cap w hs hr (by omega) h'.2.2

end Go.Proofs.YtpmignilhoihnabGreat
