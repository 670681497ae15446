/-
  Writes that lie in memory; an image that was laid, in two parts.
-/
import Derived.Test.YtcgchdcbbiahnaaLaw2
import Derived.Test.YtcgchdcbbiahnaaLawW
import Derived.Test.YtcgchdcbbiahnaaLawSame
import Derived.Test.YtcgchdcbbiahnaaDiskF
namespace Go.Proofs.Ytcgchdcbbiahnaa
open Go.RowKit

/-- Writes that lie in memory, one behind the other. -/
def WrAt (w : World) (a : Option Addr) (ws : List (Int × List Int)) : Prop :=
  ws = [] ∨ ∃ b o, a = some ⟨b, o, none⟩ ∧ b < w.heap.size ∧ ∀ j, j < ws.length → ∃ ad cap, w.cell? ⟨b, o + j * 2, none⟩ = some (.int .i64 (ws.getD j (0, [])).1) ∧ w.cell? ⟨b, o + j * 2 + 1, none⟩ = some (.slice ad (ws.getD j (0, [])).2.length cap) ∧ BytesAt w ad (ws.getD j (0, [])).2
theorem WrAt.below {w w' : World} {a : Option Addr} {ws : List (Int × List Int)} (h : WrAt w a ws) (hb : Below w.heap.size w w') : WrAt w' a ws := by
  rcases h with h | ⟨b, o, rfl, hlt, hc⟩
  · exact .inl h
  · refine .inr ⟨b, o, rfl, Nat.lt_of_lt_of_le hlt hb.size, fun j hj => ?_⟩
    obtain ⟨ad, cap, h1, h2, h3⟩ := hc j hj
    exact ⟨ad, cap, by rw [hb.cell (p := ⟨b, o + j * 2, none⟩) hlt]; exact h1, by rw [hb.cell (p := ⟨b, o + j * 2 + 1, none⟩) hlt]; exact h2, bytes_below h3 hb⟩
theorem laid_split (im : List (List Int)) : flat (secs im ++ marks) = flat (secs im) ++ flat marks := by simp [flat]
/-- The first part of a row. -/
theorem row_pre {w : World} {g : Nat} {t : TypeId} {a c : List Int} (h : w.heap[g]? = some (.cells (SA (a ++ c)) t (0, 0))) : BytesAt w (some ⟨g, 0, none⟩) a := by
  have h1 := bytes_take (row_bytes h) a.length
  rw [List.take_left] at h1
  exact h1

theorem row_sec_pre {w : World} {g n k : Nat} {t : TypeId} {a c : List Int} (h : w.heap[g]? = some (.cells (SA (a ++ c)) t (0, 0))) (hl : a.length = 128 * n) (hk : k < n) : w.rangeAt g (k * 128) ((secK a k).map (Value.int .u8)) := by
  have := secK_range (w := w) (b := g) (o := 0) hl hk (fun j hj => by
    rw [Nat.zero_add, sec_cell h j (by rw [List.length_append]; omega), List.getD_eq_getElem?_getD, List.getElem?_append_left hj, List.getD_eq_getElem?_getD])
  rw [Nat.zero_add] at this
  exact this

end Go.Proofs.Ytcgchdcbbiahnaa
