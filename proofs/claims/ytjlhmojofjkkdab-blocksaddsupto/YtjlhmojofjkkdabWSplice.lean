/-
  sector.Splice returns, for every sector, place and list of bytes, the sector with the bytes there, or the error.
-/
import Derived.Test.YtjlhmojofjkkdabLaws
import Derived.Laws.CopyOwn
import Derived.Deep.RegionLaw
import Derived.Test.YtjlhmojofjkkdabKept
-- may lack
namespace Go.Proofs.Ytjlhmojofjkkdab
open Go.RowKit

/-- A list of bytes that lies in memory, in blocks that are there. -/
def BytesAt (w : World) (a : Option Addr) (zs : List Int) : Prop :=
  zs = [] ∨ ∃ b o, a = some ⟨b, o, none⟩ ∧ b < w.heap.size ∧ ∀ j, j < zs.length → w.cell? ⟨b, o + j, none⟩ = some (.int .u8 (zs.getD j 0))

theorem one_cells (l : List Int) : ∀ v ∈ l.map (Value.int .u8), v.oneCell' = true := by
  intro v hv
  rw [List.mem_map] at hv
  obtain ⟨x, _, rfl⟩ := hv
  rfl
theorem sz5 : (Try.prog.info? 5).map (·.size) = some 1 := by kernel_rfl
theorem addr_add (b o j : Nat) : (⟨b, o, none⟩ : Addr).add j = ⟨b, o + j, none⟩ := by unfold Addr.add; split <;> simp_all

def liesB (p : Int) (n : Nat) : Bool := decide (0 ≤ p ∧ p ≤ 128 ∧ (n : Int) ≤ 128 - p)
theorem liesB_true {p : Int} {n : Nat} (h : 0 ≤ p ∧ p ≤ 128 ∧ (n : Int) ≤ 128 - p) : liesB p n = true := decide_eq_true h
theorem liesB_false {p : Int} {n : Nat} (h : ¬ (0 ≤ p ∧ p ≤ 128 ∧ (n : Int) ≤ 128 - p)) : liesB p n = false := decide_eq_false h
def spl (s : List Int) (p : Nat) (zs : List Int) : List Int := s.take p ++ (zs ++ s.drop (p + zs.length))
theorem spl_len (s : List Int) (p : Nat) (zs : List Int) (h : p + zs.length ≤ s.length) : (spl s p zs).length = s.length := by
  simp [spl]; omega
theorem spl_map (s : List Int) (p : Nat) (zs : List Int) : splice (s.map (Value.int .u8)) p (zs.map (Value.int .u8)) = (spl s p zs).map (Value.int .u8) := by
  simp [splice, spl, List.map_take, List.map_drop]
theorem spl_nil (s : List Int) (p : Nat) : spl s p [] = s := by simp [spl]
def splS (s : List Int) (p : Int) (zs : List Int) : List Int := if liesB p zs.length = true then spl s p.toNat zs else Zs
def splE (p : Int) (zs : List Int) : Int := if liesB p zs.length = true then 0 else 10

theorem bytes_src {w w' : World} {zs : List Int} {a : Option Addr} (h : BytesAt w a zs) (hb : Below w.heap.size w w') (hp : 0 < zs.length) :
    ∃ ad, a = some ad ∧ ∀ j v, (zs.map (Value.int .u8))[j]? = some v → w'.cell? (ad.add j) = some v := by
  rcases h with rfl | ⟨b, o, rfl, hlt, hc⟩
  · simp at hp
  · refine ⟨_, rfl, fun j v hj => ?_⟩
    rw [addr_add, hb.cell (p := ⟨b, o + j, none⟩) hlt]
    have hjl : j < zs.length := by
      rcases Nat.lt_or_ge j zs.length with k | k
      · exact k
      · rw [List.getElem?_eq_none (by simpa using k)] at hj; cases hj
    rw [hc j hjl]
    simp [hjl] at hj
    simp [hjl, hj]

end Go.Proofs.Ytjlhmojofjkkdab
