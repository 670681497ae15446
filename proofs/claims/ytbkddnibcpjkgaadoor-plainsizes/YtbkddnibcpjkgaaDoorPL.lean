/-
  Lists of texts in memory; the statements' own helper sameTexts.
-/
import Derived.Test.YtbkddnibcpjkgaaDoorPH
-- may lack
namespace Go.Proofs.YtbkddnibcpjkgaaDoor
open Go.RowKit

/-- Texts that lie in memory, from some place on. -/
def TAt (w : World) (a : Option Addr) (ls : List ByteArray) : Prop := ls = [] ∨ ∃ ad, a = some ad ∧ ad.block < w.heap.size ∧ ∀ (j : Nat) x, ls[j]? = some x → w.cell? (ad.add j) = some (.string x)
/-- Texts that lie in memory, from a block's beginning on. -/
def LAt (w : World) (a : Option Addr) (ls : List ByteArray) : Prop := ls = [] ∨ ∃ g, a = some ⟨g, 0, none⟩ ∧ g < w.heap.size ∧ ∀ (j : Nat) x, ls[j]? = some x → w.cell? ⟨g, j, none⟩ = some (.string x)
theorem addr_add (b o j : Nat) : (⟨b, o, none⟩ : Addr).add j = ⟨b, o + j, none⟩ := by unfold Addr.add; split <;> simp_all
theorem cell_below {w w' : World} {a : Addr} {v : Value} (hb : Below w.heap.size w w') (ha : a.block < w.heap.size) (h : w.cell? a = some v) : w'.cell? a = some v := by
  unfold World.cell? at h ⊢
  rw [hb.block _ ha]; exact h
theorem TAt.below {w w' : World} {a : Option Addr} {ls : List ByteArray} (h : TAt w a ls) (hb : Below w.heap.size w w') : TAt w' a ls := by
  rcases h with h | ⟨ad, rfl, hg, h⟩
  · exact .inl h
  · refine .inr ⟨ad, rfl, Nat.lt_of_lt_of_le hg hb.size, fun j x hx => cell_below hb ?_ (h j x hx)⟩
    unfold Addr.add; split <;> exact hg
theorem LAt.below {w w' : World} {a : Option Addr} {ls : List ByteArray} (h : LAt w a ls) (hb : Below w.heap.size w w') : LAt w' a ls := by
  rcases h with h | ⟨g, rfl, hg, h⟩
  · exact .inl h
  · exact .inr ⟨g, rfl, Nat.lt_of_lt_of_le hg hb.size, fun j x hx => cell_below hb hg (h j x hx)⟩
theorem LAt.at {w : World} {a : Option Addr} {ls : List ByteArray} (h : LAt w a ls) : TAt w a ls := by
  rcases h with h | ⟨g, rfl, hg, h⟩
  · exact .inl h
  · exact .inr ⟨_, rfl, hg, fun j x hx => by rw [addr_add, Nat.zero_add]; exact h j x hx⟩
theorem getS {ls : List ByteArray} {k : Nat} (h : k < ls.length) : ls[k]? = some (ls.getD k ByteArray.empty) := by
  rw [List.getElem?_eq_getElem h]; simp [List.getD, List.getElem?_eq_getElem h]

def datas (ls : List ByteArray) : List (List UInt8) := ls.map fun s => s.data.toList
theorem datas_len (ls : List ByteArray) : (datas ls).length = ls.length := by simp [datas]
theorem data_inj {a b : ByteArray} (h : a.data.toList = b.data.toList) : a = b := by
  cases a; cases b
  simp only [Array.toList_inj] at h
  subst h; rfl
theorem datas_inj : ∀ {a b : List ByteArray}, datas a = datas b → a = b
  | [], [], _ => rfl
  | [], b :: bs, h => by simp [datas] at h
  | a :: r, [], h => by simp [datas] at h
  | a :: r, b :: bs, h => by
    simp only [datas, List.map_cons, List.cons.injEq] at h
    rw [data_inj h.1, datas_inj (show datas r = datas bs from h.2)]

theorem sames {a b : List ByteArray} {k : Nat} (hl : a.length = b.length) (h : ∀ j, j < k → a.getD j ByteArray.empty = b.getD j ByteArray.empty) (hk : a.length ≤ k) : a = b := by
  apply List.ext_getElem hl
  intro j h1 h2
  have := h j (by omega)
  simpa [List.getD, List.getElem?_eq_getElem h1, List.getElem?_eq_getElem h2] using this

end Go.Proofs.YtbkddnibcpjkgaaDoor
