/-
  The example of the chapter (known) comes out true.
-/
import Derived.Test.YtibneoajkbblaaaWGet
import Derived.Test.YtibneoajkbblaaaWSet
import Derived.Test.YtibneoajkbblaaaWZero
import Derived.Test.YtibneoajkbblaaaWCut
namespace Go.Proofs.Ytibneoajkbblaaa
open Go.RowKit

def Kn : List Int := setS Zs 3 2 258
theorem Kn_len : Kn.length = 128 := setS_len _ _ _ _ Zs_len
theorem Kn_sec : IsSec Kn := setS_sec Zs_sec _ _ _
theorem Kn_3 : Kn.getD 3 0 = 2 := by decide
theorem Kn_4 : Kn.getD 4 0 = 1 := by decide
theorem Kn_n : getN Kn 2 3 = 66048 := by decide
theorem Kn_e : getE Kn 2 3 = 0 := by decide
theorem Kn_z : decide (Kn = Zs) = false := by decide

theorem set_known (w : World) : Calls Try.prog 22 #[.agg (SA Zs), .int .i64 3, .int .i64 2, .int .i64 258] w fun e w' => e = .returned (.tuple #[.agg (SA Kn), .int .i64 0]) ∧ Below w.heap.size w w' :=
  set_any Zs 3 2 258 w Zs_len
theorem get_known (w : World) : Calls Try.prog 23 #[.agg (SA Kn), .int .i64 2, .int .i64 3] w fun e w' => e = .returned (.tuple #[.int .i64 66048, .int .i64 0]) ∧ Below w.heap.size w w' := by
  have h := get_any Kn 2 3 w Kn_sec
  rw [Kn_n, Kn_e] at h
  exact h
theorem zero_known (w : World) : Calls Try.prog 26 #[.agg (SA Kn)] w fun e w' => e = .returned (.bool false) ∧ Below w.heap.size w w' := by
  have h := zero_any Kn Kn_len w
  rw [Kn_z] at h
  exact h

/-- The string of a list of bytes. -/
def strOf (c : List Int) : ByteArray := ⟨(c.map fun n => UInt8.ofNat n.toNat).toArray⟩
theorem foldl_push (c : List Int) : ∀ r : ByteArray, c.foldl (fun r n => r.push (UInt8.ofNat n.toNat)) r = ⟨r.data ++ (c.map fun n => UInt8.ofNat n.toNat).toArray⟩ := by
  induction c with
  | nil => intro r; simp
  | cons x c ih =>
    intro r
    rw [List.foldl_cons, ih]
    congr 1
    simp [ByteArray.push]
theorem conv_bytes (w : World) (b o : Nat) (c : List Int) (cap : Nat) (h : ∀ j, j < c.length → w.cell? ⟨b, o + j, none⟩ = some (.int .u8 (c.getD j 0))) :
    (convert 27 9 (.slice (some ⟨b, o, none⟩) c.length cap)).run Try.prog w = .ok (.string (strOf c)) w := by
  rw [run_convert_bytes_string w 27 9 5 _ _ _ Try.underlying27 Try.underlying5 Try.underlying9]
  have hl := run_loadCells_list (P := Try.prog) w ⟨b, o, none⟩ (c.map (Value.int .u8)) (fun j v hj => by
    have hlt : j < c.length := by
      rcases Nat.lt_or_ge j c.length with k | k
      · exact k
      · rw [List.getElem?_eq_none (by simpa using k)] at hj; cases hj
    rw [addr_add, h j hlt]
    simp [hlt] at hj
    simp [hlt, hj])
  rw [List.length_map] at hl
  rw [run_bytesToString w _ c.length cap c hl, foldl_push]
  simp [strOf]

def K2 : List Int := cutK [7, 8] 128 128
theorem K2_len : K2.length = 128 := cutK_len _ _ _ (by decide)
theorem K2_take : K2.take 2 = [7, 8] := by decide

theorem cut_known (W : World) : Calls Try.prog 12 #[.slice (some ⟨W.heap.size, 0, none⟩) 2 2] (W.alloc (.cells #[.int .u8 7, .int .u8 8] 5)) fun e w' =>
    e = .returned (.slice (some ⟨W.heap.size + 1, 0, none⟩) 1 1) ∧ w'.heap[W.heap.size + 1]? = some (.cells (SA K2) 26 (0, 0)) ∧ Below (W.heap.size + 1) (W.alloc (.cells #[.int .u8 7, .int .u8 8] 5)) w' := by
  have h := cut_any [7, 8] (some ⟨W.heap.size, 0, none⟩) 2 (W.alloc (.cells #[.int .u8 7, .int .u8 8] 5)) (by decide) (by decide)
    (.inr ⟨W.heap.size, 0, rfl, by simp, fun j hj => by
      rw [cell_of_row _ _ _ _ 5 (0, 0) (heap_alloc_new _ _)]
      have hj' : j = 0 ∨ j = 1 := by simp at hj; omega
      rcases hj' with rfl | rfl <;> rfl⟩)
  rw [show (W.alloc (.cells #[.int .u8 7, .int .u8 8] 5)).heap.size = W.heap.size + 1 by simp] at h
  exact h

theorem join_known (W : World) (b : Nat) (hb : W.heap[b]? = some (.cells (SA K2) 26 (0, 0))) : Calls Try.prog 17 #[.int .i64 2, .slice (some ⟨b, 0, none⟩) 1 1] W fun e w' =>
    e = .returned (.slice (some ⟨W.heap.size, 0, none⟩) 2 2) ∧ w'.heap[W.heap.size]? = some (.cells (SA [7, 8]) 5 (0, 0)) ∧ Below W.heap.size W w' := by
  have hlt : b < W.heap.size := by
    rcases Nat.lt_or_ge b W.heap.size with h | h
    · exact h
    · rw [Array.getElem?_eq_none h] at hb; cases hb
  have h := join_any 2 (some ⟨b, 0, none⟩) 1 1 K2 W K2_len (by decide) (.inr ⟨b, 0, rfl, hlt, fun j hj => by rw [Nat.zero_add]; exact sec_cell hb j hj⟩)
  rw [show joinN 2 1 = 2 by decide, K2_take] at h
  refine h.mono ?_
  rintro e w' ⟨rfl, h1, _, h2⟩
  exact ⟨rfl, h1, h2⟩

set_option maxRecDepth 100000 in
set_option maxHeartbeats 400000 in
theorem known_any (w : World) : Calls Try.prog 9 #[] w fun e w' => e = .returned (.bool true) ∧ Below w.heap.size w w' := by
  have hz := zero_sec
  go_enter Try.func9, Try.ntmps9
  go_wp2_with (first | (go_at_call 22; refine (set_known _).mono ?_; rintro e w1 ⟨rfl, hb1⟩) | (refine store_sec rfl _ _ rfl w1.heap.size rfl Kn rfl Kn_len Zs Zs_len (heap_alloc_new _ _) ?_; intro w2 hw2) | refine load_sec rfl _ rfl w1.heap.size rfl Kn Kn_len hw2.here ?_ | (go_at_call 23; refine (get_known _).mono ?_; rintro e w3 ⟨rfl, hb3⟩))
  refine (cut_known w3).mono ?_
  rintro e w4 ⟨rfl, hk2, hb4⟩
  have hs2 : w2.heap.size = w1.heap.size + 1 := by rw [hw2.size]; simp
  have hs3 : w1.heap.size + 1 ≤ w3.heap.size := by have := hb3.size; omega
  have hK3 : w3.heap[w1.heap.size]? = some (.cells (SA Kn) 26 (0, 0)) := by rw [hb3.block _ (by omega)]; exact hw2.here
  have hK4 : w4.heap[w1.heap.size]? = some (.cells (SA Kn) 26 (0, 0)) := by rw [hb4.block _ (by omega), Below.heap_alloc _ _ _ (by omega)]; exact hK3
  have hc3 := sec_cell hK4 3 (by rw [Kn_len]; decide)
  have hc4 := sec_cell hK4 4 (by rw [Kn_len]; decide)
  rw [Kn_3] at hc3
  rw [Kn_4] at hc4
  have HK4 := hid hK4
  have HK2 := hid hk2
  have HS2 := hid hs2
  clear hK3 hK4 hk2 hs2
  go_wp2_with (first | refine load_sec_g _ rfl w1.heap.size rfl Kn Kn_len HK4.out rfl ?_ | (go_at_call 26; refine (zero_known _).mono ?_; rintro e w5 ⟨rfl, hb5⟩))
  have hk5 : w5.heap[w3.heap.size + 1]? = some (.cells (SA K2) 26 (0, 0)) := by
    have hlt : w3.heap.size + 1 < w4.heap.size := by
      rcases Nat.lt_or_ge (w3.heap.size + 1) w4.heap.size with k | k
      · exact k
      · have := HK2.out; rw [Array.getElem?_eq_none k] at this; cases this
    rw [hb5.block _ hlt]
    exact HK2.out
  refine (join_known w5 _ hk5).mono ?_
  rintro e w6 ⟨rfl, hj6, hb6⟩
  have hcv : (convert 27 9 (.slice (some ⟨w5.heap.size, 0, none⟩) 2 2)).run Try.prog w6 = .ok (.string ⟨#[7, 8]⟩) w6 := conv_bytes w6 w5.heap.size 0 [7, 8] 2 (fun j hj => by rw [Nat.zero_add]; exact sec_cell hj6 j hj)
  have HJ6 := hid hj6
  have HK5 := hid hk5
  clear hj6 hk5
  go_wp2
  go_ret
  have hz1 := hb1.size
  have hz3 := hb3.size
  have hz4 := hb4.size
  have hz5 := hb5.size
  have e2 : Below w.heap.size w w2 := hw2.below (hb1.alloc (by omega) _) (by omega)
  have e3 : Below w.heap.size w w3 := e2.trans (hb3.mono (by have := HS2.out; omega))
  have e4 : Below w.heap.size w w4 := (e3.alloc (by omega) _).trans (hb4.mono (by omega))
  have hz4' : w3.heap.size + 1 ≤ w4.heap.size := by simpa using hz4
  have e5 : Below w.heap.size w w5 := e4.trans (hb5.mono (by omega))
  exact ⟨rfl, e5.trans (hb6.mono (by omega))⟩

end Go.Proofs.Ytibneoajkbblaaa
