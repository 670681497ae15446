/-
 A look over a well-formed image: a slot.
-/
import Derived.Test.YtpmignilhoihnaaGreatHC1
namespace Go.Proofs.YtpmignilhoihnaaGreat

end Go.Proofs.YtpmignilhoihnaaGreat

namespace Go.Proofs.YtpmignilhoihnaaGreat

def rowG (G : Int → Int → List (Int × Int)) (f each : Int) (t : List Int) (K : Nat) : List (Int × Int) := (List.range K).flatMap fun k => if t.getD k 0 = 0 then [] else G (f + each * k) (t.getD k 0)
theorem rowG_succ (G : Int → Int → List (Int × Int)) (f each : Int) (t : List Int) (K : Nat) : rowG G f each t (K + 1) = rowG G f each t K ++ (if t.getD K 0 = 0 then [] else G (f + each * K) (t.getD K 0)) := by
 unfold rowG;rw [List.range_succ, List.flatMap_append]
 simp
def tabG (im : Img) (each : Int) (G : Int → Int → List (Int × Int)) (f p : Int) : List (Int × Int) := rowG G f each (ptrsTo (secI im p) 32) 32
def spI (im : Img) (z : List Int) : List (Int × Int) :=
 rowG (fun i p => [(i, p)]) 0 1 ((z.drop 4).take 12) 12 ++ (if z.getD 16 0 = 0 then [] else tabG im 1 (fun i p => [(i, p)]) 12 (z.getD 16 0)) ++ (if z.getD 17 0 = 0 then [] else tabG im 32 (tabG im 1 fun i p => [(i, p)]) 44 (z.getD 17 0))
end Go.Proofs.YtpmignilhoihnaaGreat

namespace Go.Proofs.YtpmignilhoihnaaGreat

def rdI (im : Img) (i : Int) : List Int × Int := rdIno (zTo (secI im i) 18) (secI im i)
def zI (im : Img) (i : Int) : List Int := (rdI im i).1
def kd (im : Img) (i : Int) : Int := (zI im i).getD 0 0
end Go.Proofs.YtpmignilhoihnaaGreat

namespace Go.Proofs.YtpmignilhoihnaaGreat

end Go.Proofs.YtpmignilhoihnaaGreat

namespace Go.Proofs.YtpmignilhoihnaaGreat

theorem slot_free {s : List Int} (h : (slotOf s).2.2 = 0) (h0 : (slotOf s).1 = 0) : (slotOf s).2.1.size = 0 := by
 unfold slotOf rdSlot at *
 split at h
 ·rename_i e
  rw [if_pos e] at h0 ⊢;have hb := e.2.1;unfold slotB at hb;rw [if_pos h0, ByteArray.toList_eq] at hb;have h2 := List.isEmpty_iff.1 hb;have h3 := congrArg List.length h2
  exact h3
 ·cases h

end Go.Proofs.YtpmignilhoihnaaGreat
