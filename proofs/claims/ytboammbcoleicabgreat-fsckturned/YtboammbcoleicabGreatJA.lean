/-
 append of an image onto an empty list of the call's own.
-/
import Derived.Test.YtboammbcoleicabGreatX3
import Derived.Test.YtboammbcoleicabGreatR1
namespace Go.Proofs.YtboammbcoleicabGreat
open Go.RowKit Go.Shelf

theorem img_src {b o : Nat} {im : Img} {w : World} (h : ImgAt w (some ⟨b, o, none⟩) im) (hn : 1 ≤ im.length) : ∀ (j : Nat) u, (im.flatten.map (Value.int .u8))[j]? = some u → w.cell? ((⟨b, o, none⟩ : Addr).add j) = some u := fun j u hj => by
 have hl : ∀ s ∈ im, s.length = 128 := fun s hs => (h.1 s hs).1
 obtain ⟨b', o', e, hb, hr⟩ : ∃ b' o', some (⟨b, o, none⟩ : Addr) = some ⟨b', o', none⟩ ∧ b' < w.heap.size ∧ ∀ (j : Nat) s, im[j]? = some s → w.rangeAt b' (o' + j * 128) (s.map (Value.int .u8)) := by
  rcases h.2 with e | e
  ·rw [e] at hn; simp at hn
  ·exact e
 cases e
 rw [List.getElem?_map] at hj
 cases hq : im.flatten[j]? with
 | none => rw [hq] at hj; cases hj
 | some x =>
  rw [hq] at hj;have := Option.some.inj hj;subst this;obtain ⟨s, h1, h2⟩ := flat_at hl hq;have := hr (j / 128) s h1 (j % 128) (.int .u8 x) (by rw [List.getElem?_map, h2]; rfl);rw [addr_add, show o + j = o + j / 128 * 128 + j % 128 by omega]
  exact this
section
variable {ops : Array Oper} {rest : List Oper} {o : Oper} {a : Act} {Q : Exit → Act → World → Prop} {w : World}
end
end Go.Proofs.YtboammbcoleicabGreat
