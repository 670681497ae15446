/-
  What a sector, a place and a list of bytes that are handed in look like: the sector is 128 bytes, the numbers are ints.
-/
import Derived.Test.YtjlhmojofjkkdabLI0
import Derived.ProofKit
import Derived.OpenShut
import Derived.ChangeOld
import Derived.Lib.SmallJoins
namespace Go.Proofs.Ytjlhmojofjkkdab
open Go.ChangeShapes Go.WideShapes Go.ChangeAt Go.RowKit Go.Joins

def I64 (c : Int) : Prop := -9223372036854775808 ≤ c ∧ c ≤ 9223372036854775807
theorem own : ownKnob Try.prog.godebug = none := by kernel_rfl
theorem laidOut : laidOutB Try.prog = true := by kernel_rfl
theorem cells26 : Try.prog.cellsOf 77 = 128 := by kernel_rfl

theorem okWide_arr {P : Program} {w : World} {r : Reach} {base : Nat} {t e : TypeId} {n : Nat} {v : Value} (ht : P.underlying t = some (.array n e)) (h : Value.okWide P w r base t v) : ∃ cs, v = .agg cs ∧ cs.size = P.cellsOf t := by
  simp only [Value.okWide, ht] at h
  obtain ⟨cs, h1, h2, _⟩ := h
  exact ⟨cs, h1, h2⟩

/-- Cells that read as bytes, one by one. -/
theorem cells_bytes (cs : List Value) (f : Nat → Int) (h : ∀ i, i < cs.length → cs[i]? = some (.int .u8 (f i))) : cs = ((List.range cs.length).map f).map (Value.int .u8) := by
  apply List.ext_getElem (by simp)
  intro i h1 h2
  have := h i h1
  rw [List.getElem?_eq_getElem h1] at this
  simpa using this

theorem sec_of_trod {H : Type} {enc : TypeId × Value → H} {W : World} {base : Nat} {spare : Nat → Bool} {held : Bool} {fuel : Nat} {cs : List Value} {x : DataW H × List MemPlace}
    (h : DataW.trod enc Try.prog W base spare held fuel 77 cs = some x) : ∃ s, IsSec s ∧ cs = s.map (Value.int .u8) := by
  obtain ⟨xs, m, _, _, hl, hxl, hx⟩ := DataW.trod_array Try.underlying77 h
  rw [cells26] at hl
  have key : ∀ i, i < 128 → ∃ n : Int, cs[i]? = some (.int .u8 n) ∧ 0 ≤ n ∧ n ≤ 255 := by
    intro i hi
    have h1 := hx i hi
    rw [cells5, Nat.mul_one, List.getElem?_eq_getElem (by omega)] at h1
    obtain ⟨n, hn, _, hw⟩ := DataW.trod_int Try.underlying5 h1
    refine ⟨n, ?_, bounds_u8 hw⟩
    have h2 : ((cs.drop i).take 1)[0]? = some (.int .u8 n) := by rw [hn]; rfl
    simpa using h2
  have e := cells_bytes cs (fun i => match cs[i]? with | some (.int _ n) => n | _ => 0) (fun i hi => by
    obtain ⟨n, hn, _⟩ := key i (by omega)
    rw [hn])
  refine ⟨_, ⟨by simp [hl], ?_⟩, e⟩
  intro n hn
  rw [List.mem_map] at hn
  obtain ⟨i, hi, rfl⟩ := hn
  rw [List.mem_range] at hi
  obtain ⟨n, hn, hb⟩ := key i (by omega)
  rw [hn]
  exact hb

set_option maxRecDepth 100000 in
theorem open_sec {H : Type} {enc : TypeId × Value → H} {W : World} {r : Reach} {b0 base : Nat} {spare : Nat → Bool} {held : Bool} {v : Value} {d : DataW H} {p : List MemPlace}
    (hv : Value.okWide Try.prog W r b0 77 v) (h : DataW.Trod enc Try.prog W base spare held 77 v d p) : ∃ s, IsSec s ∧ v = .agg (SA s) := by
  obtain ⟨cs, rfl, _⟩ := okWide_arr Try.underlying77 hv
  obtain ⟨fuel, hf⟩ := h
  obtain ⟨s, hs, he⟩ := sec_of_trod hf
  refine ⟨s, hs, ?_⟩
  have : cs = SA s := by
    unfold SA
    rw [← he]
    simp [Value.cells]
  rw [this]

end Go.Proofs.Ytjlhmojofjkkdab
