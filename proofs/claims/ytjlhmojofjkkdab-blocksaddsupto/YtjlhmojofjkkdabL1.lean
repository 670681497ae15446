/-
  layout.lay returns the sector that has these numbers, where each has room in its place; layout.get the number at a place.
-/
import Derived.Test.YtjlhmojofjkkdabL0
import Derived.Deep.MidRow
-- may lack
namespace Go.Proofs.Ytjlhmojofjkkdab
open Go.RowKit

abbrev Num := Int × Int × Int
def cellsN : List Num → List Value
  | [] => []
  | n :: r => .int .i64 n.1 :: .int .i64 n.2.1 :: .int .i64 n.2.2 :: cellsN r
theorem cellsN_len : ∀ l, (cellsN l).length = l.length * 3
  | [] => rfl
  | n :: r => by simp [cellsN, cellsN_len r]; omega
theorem cellsN_append : ∀ l m, cellsN (l ++ m) = cellsN l ++ cellsN m
  | [], m => rfl
  | n :: r, m => by simp [cellsN, cellsN_append r m]
theorem cellsN_one : ∀ l, ∀ u ∈ cellsN l, u.oneCell' = true
  | [], u, h => by cases h
  | n :: r, u, h => by
    simp only [cellsN, List.mem_cons] at h
    rcases h with rfl | rfl | rfl | h
    · rfl
    · rfl
    · rfl
    · exact cellsN_one r u h
theorem cellsN_get : ∀ (l : List Num) (j : Nat), (cellsN l)[3 * j]? = (l[j]?).map (fun x => Value.int .i64 x.1) ∧ (cellsN l)[3 * j + 1]? = (l[j]?).map (fun x => Value.int .i64 x.2.1) ∧ (cellsN l)[3 * j + 2]? = (l[j]?).map (fun x => Value.int .i64 x.2.2)
  | [], j => by simp [cellsN]
  | n :: r, 0 => by simp [cellsN]
  | n :: r, j + 1 => by
    have ih := cellsN_get r j
    rw [show 3 * (j + 1) = 3 * j + 3 by omega]
    simpa [cellsN] using ih

/-- Numbers that lie in memory. -/
def NumsAt (w : World) (b : Nat) (l : List Num) : Prop := b < w.heap.size ∧ ∀ (j : Nat) (v : Value), (cellsN l)[j]? = some v → w.cell? ⟨b, j, none⟩ = some v
theorem NumsAt.keep {B : Nat} {w w' : World} {b : Nat} {l : List Num} (h : NumsAt w b l) (hb : Below B w w') (hB : b < B) : NumsAt w' b l :=
  ⟨Nat.lt_of_lt_of_le h.1 hb.size, fun j v hj => by rw [hb.cell (p := ⟨b, j, none⟩) hB]; exact h.2 j v hj⟩
theorem NumsAt.range {w : World} {b : Nat} {l : List Num} (h : NumsAt w b l) {k : Nat} {n : Num} (hk : l[k]? = some n) : w.rangeAt b (k * 3) [.int .i64 n.1, .int .i64 n.2.1, .int .i64 n.2.2] := by
  have hg := cellsN_get l k
  rw [hk] at hg
  intro i v hv
  rw [Nat.mul_comm]
  match i, hv with
  | 0, hv => simp at hv; subst hv; exact h.2 _ _ hg.1
  | 1, hv => simp at hv; subst hv; exact h.2 _ _ hg.2.1
  | 2, hv => simp at hv; subst hv; exact h.2 _ _ hg.2.2
  | i + 3, hv => simp at hv

def layS (l : List Num) : List Int := l.foldl (fun s n => putN s n.1.toNat n.2.2 n.2.1.toNat) Zs
def okN (n : Num) : Prop := inB n.1 n.2.1 = true ∧ fitB n.2.2 n.2.1 = true
theorem foldl_sec (l : List Num) : ∀ s, IsSec s → IsSec (l.foldl (fun s n => putN s n.1.toNat n.2.2 n.2.1.toNat) s) := by
  induction l with
  | nil => intro s hs; exact hs
  | cons n r ih => intro s hs; exact ih _ (putN_sec hs _ _ _)
theorem layS_sec (l : List Num) : IsSec (layS l) := foldl_sec l Zs Zs_sec
theorem layS_snoc (l : List Num) (n : Num) : layS (l ++ [n]) = putN (layS l) n.1.toNat n.2.2 n.2.1.toNat := by
  simp [layS, List.foldl_append]

theorem slt {w : World} {g : Nat} {o : Obj} (h : w.heap[g]? = some o) : g < w.heap.size := by
  rcases Nat.lt_or_ge g w.heap.size with h' | h'
  · exact h'
  · rw [Array.getElem?_eq_none h'] at h; cases h
/-- What get comes to. -/
def getV (s : List Int) (p n : Int) : Int := if getE s p n = 0 then getN s p n else -1
set_option maxHeartbeats 400000 in
theorem get1_any (s : List Int) (p n : Int) (w : World) (hs : IsSec s) :
    Calls Try.prog 29 #[.agg (SA s), .int .i64 p, .int .i64 n] w fun e w' => e = .returned (.int .i64 (getV s p n)) ∧ Below w.heap.size w w' := by
  have hg := fun w' => get_any s p n w' hs
  have hn : (w.alloc (.cells (SA s) 77)).heap[w.heap.size]? = some (.cells (SA s) 77 (0, 0)) := heap_alloc_new _ _
  have HN := hid hn
  have hl := hs.1
  clear hn
  by_cases h : getE s p n = 0
  · have HV : Hid (getV s p n = getN s p n) := if_pos h
    rw [h] at hg
    go_enter Try.func29, Try.ntmps29
    go_wp2_with (first | refine load_sec rfl _ rfl w.heap.size rfl s hl HN.out ?_ | (go_at_call 30; refine (hg _).mono ?_; rintro e w2 ⟨rfl, hb2⟩))
    go_ret
    exact ⟨by rw [HV.out]; rfl, ((Below.refl _ _).alloc (Nat.le_refl _) _).trans (hb2.mono (by simp))⟩
  · have HV : Hid (getV s p n = -1) := if_neg h
    have hne : (getE s p n != 0) = true := by simp [h]
    go_enter Try.func29, Try.ntmps29
    go_wp2_with (first | refine load_sec rfl _ rfl w.heap.size rfl s hl HN.out ?_ | (go_at_call 30; refine (hg _).mono ?_; rintro e w2 ⟨rfl, hb2⟩))
    go_ret
    exact ⟨by rw [HV.out]; rfl, ((Below.refl _ _).alloc (Nat.le_refl _) _).trans (hb2.mono (by simp))⟩

end Go.Proofs.Ytjlhmojofjkkdab
