/-
  A step that is told, in memory: its cells, and how its parts are read.
-/
import Derived.Test.YtibneoajkbblaaaWRef4
import Derived.Test.YtibneoajkbblaaaWRef5
import Derived.Test.YtibneoajkbblaaaWLend
import Derived.Deep.MidRow
namespace Go.Proofs.Ytibneoajkbblaaa
open Go.RowKit

/-- The cells of a Step. -/
def stepC (kd : Int) (s : List Int) (p n v : Int) (ad : Option Addr) (L cap : Nat) : Array Value :=
  (Value.int .i64 kd :: (s.map (Value.int .u8) ++ [.int .i64 p, .int .i64 n, .int .i64 v, .slice ad L cap])).toArray

section
variable {w : World} {g : Nat} {t : TypeId} {kd : Int} {s : List Int} {p n v : Int} {ad : Option Addr} {L cap : Nat}
theorem step_at (h : w.heap[g]? = some (.cells (stepC kd s p n v ad L cap) t (0, 0))) (j : Nat) : w.cell? ⟨g, j, none⟩ = (stepC kd s p n v ad L cap)[j]? := cell_of_row w g j _ t (0, 0) h
theorem step_kind (h : w.heap[g]? = some (.cells (stepC kd s p n v ad L cap) t (0, 0))) : w.cell? ⟨g, 0, none⟩ = some (.int .i64 kd) := by rw [step_at h]; rfl
theorem step_tail (hs : s.length = 128) (i : Nat) : (stepC kd s p n v ad L cap)[129 + i]? = [Value.int .i64 p, .int .i64 n, .int .i64 v, .slice ad L cap][i]? := by
  unfold stepC
  rw [List.getElem?_toArray, show 129 + i = (128 + i) + 1 by omega, List.getElem?_cons_succ, List.getElem?_append_right (by simp; omega), List.length_map, hs, show 128 + i - 128 = i by omega]
theorem step_p (hs : s.length = 128) (h : w.heap[g]? = some (.cells (stepC kd s p n v ad L cap) t (0, 0))) : w.cell? ⟨g, 129, none⟩ = some (.int .i64 p) := by rw [step_at h]; exact step_tail hs 0
theorem step_n (hs : s.length = 128) (h : w.heap[g]? = some (.cells (stepC kd s p n v ad L cap) t (0, 0))) : w.cell? ⟨g, 130, none⟩ = some (.int .i64 n) := by rw [step_at h]; exact step_tail hs 1
theorem step_v (hs : s.length = 128) (h : w.heap[g]? = some (.cells (stepC kd s p n v ad L cap) t (0, 0))) : w.cell? ⟨g, 131, none⟩ = some (.int .i64 v) := by rw [step_at h]; exact step_tail hs 2
theorem step_d (hs : s.length = 128) (h : w.heap[g]? = some (.cells (stepC kd s p n v ad L cap) t (0, 0))) : w.cell? ⟨g, 132, none⟩ = some (.slice ad L cap) := by rw [step_at h]; exact step_tail hs 3
theorem step_s (h : w.heap[g]? = some (.cells (stepC kd s p n v ad L cap) t (0, 0))) : w.rangeAt g 1 (s.map (Value.int .u8)) := by
  intro j x hj
  have hlt : j < (s.map (Value.int .u8)).length := by
    rcases Nat.lt_or_ge j (s.map (Value.int .u8)).length with k | k
    · exact k
    · rw [List.getElem?_eq_none k] at hj; cases hj
  rw [step_at h]
  unfold stepC
  rw [List.getElem?_toArray, Nat.add_comm 1 j, List.getElem?_cons_succ, List.getElem?_append_left hlt]
  exact hj
end

/-- A sector in the midst of a block is loaded. -/
theorem load_mid {ops : Array Oper} {rest : List Oper} {o : Oper} {a : Act} {w : World} {Q : Exit → Act → World → Prop} (hgd : o.guard = none) (x : Operand) (ho : o.op = .load 26 x)
    (g k : Nat) (hx : a.eval x = .pointer (some ⟨g, k, none⟩)) (c : List Int) (hc : c.length = 128) (hg : w.rangeAt g k (c.map (Value.int .u8)))
    (h : wpList Try.prog ops Q rest (a.put o.dst (.agg (SA c))) w) : wpList Try.prog ops Q (o :: rest) a w :=
  wpList_load_mid hgd 26 x ho g k hx (c.map (Value.int .u8)) _ hg Try.underlying26 rfl (by rw [sz26, List.length_map, hc]) h

set_option maxRecDepth 100000 in
set_option maxHeartbeats 1000000 in
theorem told_0 (kd : Int) (s : List Int) (p n v : Int) (ad : Option Addr) (L cap : Nat) (w : World) (hs : IsSec s)
    (HPK : Hid (∀ w, Calls Try.prog 24 #[.int .i64 kd, .int .i64 5] w fun e w' => e = .returned (.int .i64 0) ∧ w' = w)) :
    Calls Try.prog 10 #[.agg (stepC kd s p n v ad L cap)] w fun e w' => e = .returned (.bool true) ∧ Below w.heap.size w w' := by
  have HB0 : Hid (HB w [(w.heap.size, .cells (stepC kd s p n v ad L cap) 29 (0, 0))] (w.alloc (.cells (stepC kd s p n v ad L cap) 29))) := (show HB w [] w from ⟨by simp, by simp, Below.refl _ _⟩).alloc _
  have hk := step_kind (HB0.out.get (List.mem_singleton.2 rfl))
  have hp := step_p hs.1 (HB0.out.get (List.mem_singleton.2 rfl))
  have hn := step_n hs.1 (HB0.out.get (List.mem_singleton.2 rfl))
  have HG := hid fun w => get_any s p n w hs
  have HR := hid fun w => rget_any s p n w hs
  generalize getN s p n = gn at *
  generalize getE s p n = ge at *
  go_enter Try.func10, Try.ntmps10
  go_wp2_with (first | (go_at_call 24; refine (HPK.out _).mono ?_; rintro e w' ⟨rfl, rfl⟩) | refine load_mid rfl _ rfl w.heap.size 1 rfl s hs.1 (step_s (HB0.out.get (List.mem_singleton.2 rfl))) ?_)
  refine (HG.out _).mono ?_
  rintro e w1 ⟨rfl, hb1⟩
  have HB1 := hid (HB0.out.call hb1)
  clear hb1 HB0 HG hk hp hn
  have hp := step_p hs.1 (HB1.out.get (List.mem_singleton.2 rfl))
  have hn := step_n hs.1 (HB1.out.get (List.mem_singleton.2 rfl))
  go_wp2_with (refine load_mid rfl _ rfl w.heap.size 1 rfl s hs.1 (step_s (HB1.out.get (List.mem_singleton.2 rfl))) ?_)
  refine (HR.out _).mono ?_
  rintro e w2 ⟨rfl, hb2⟩
  have HB2 := hid (HB1.out.call hb2)
  clear hb2 HB1 HR hp hn
  go_wp2_with fail
  go_ret
  exact ⟨by simp, HB2.out.old⟩

end Go.Proofs.Ytibneoajkbblaaa
