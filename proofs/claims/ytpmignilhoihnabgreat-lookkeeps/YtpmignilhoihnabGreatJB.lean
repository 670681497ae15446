/-
 Two lists of sectors that are the same are told so.
-/
import Derived.Test.YtpmignilhoihnabGreatX3
import Derived.Test.YtpmignilhoihnabGreatR1
import Derived.Test.YtpmignilhoihnabGreatX7
namespace Go.Proofs.YtpmignilhoihnabGreat
open Go.RowKit Go.Shelf

section
variable {ops : Array Oper} {rest : List Oper} {o : Oper} {a : Act} {Q : Exit → Act → World → Prop} {w : World}
end
end Go.Proofs.YtpmignilhoihnabGreat

namespace Go.Proofs.YtpmignilhoihnabGreat
open Go.RowKit Go.Shelf
-- may lack

theorem chg_drewN (w : World) (n : Nat) : Chg w (w.drewN n) No := ⟨rfl, rfl, rfl, Nat.le_refl _, fun _ _ _ => rfl⟩
theorem Chg.tr {w w1 w2 : World} (h : Chg w w1 No) (k : Chg w1 w2 No) : Chg w w2 No := h.trans k (fun _ _ e => e) (fun _ _ e => e)
theorem ImgAt.of_wt {w : World} {g : Nat} {im : Img} (h : WtAt w g im) : ImgAt w (some ⟨g, 0, none⟩) im := by
 refine ⟨h.1, .inr ⟨g, 0, rfl, h.lt, fun j s hj => ?_⟩⟩;have hl := (List.getElem?_eq_some_iff.1 hj).1;have := h.range hl;rw [getD_at hl] at hj;rw [← Option.some.inj hj, Nat.zero_add]
 exact this
section
variable {ops : Array Oper} {Q : Exit → Act → World → Prop} {S : World → Prop} {fuel : Nat} {listed : Array Bool} {a : Act} {w : World}
end
end Go.Proofs.YtpmignilhoihnabGreat
