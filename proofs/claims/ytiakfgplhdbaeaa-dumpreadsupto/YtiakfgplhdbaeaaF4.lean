/-
  Bytes of nodes as they are answered; four rows of bytes side by side, two of which are written over and grow.
-/
import Derived.Test.YtiakfgplhdbaeaaTU
import Derived.Test.YtiakfgplhdbaeaaRB
import Derived.Test.YtiakfgplhdbaeaaWNothing
namespace Go.Proofs.Ytiakfgplhdbaeaa
open Go.RowKit

def bytesE (L : List Nod) : Int := if L.all fitsB then 0 else 170
def bytesL (L : List Nod) : List Int := if L.all fitsB then flatB L else []
theorem bytes_r (L : List Nod) (a : Option Addr) (cap : Nat) (w : World) (h : NAt w a L) (hI : ∀ i, i < L.length → I64 (L.getD i Nod.z).kind ∧ I64 (L.getD i Nod.z).made) (hl : L.length ≤ 5000000) :
    Calls Try.prog 10 #[.slice a L.length cap] w fun e w' => ∃ v, e = .returned (.tuple #[v, .int .i64 (bytesE L)]) ∧ BOw w' w.heap.size v (bytesL L) ∧ Chg w w' No := by
  refine (bytes_any L a cap w h hI hl).mono ?_
  rintro e w' ⟨⟨h1, v, rfl, h2⟩ | ⟨h1, rfl⟩, hc⟩
  · exact ⟨v, by unfold bytesE; rw [h1]; rfl, by unfold bytesL; rw [h1]; exact h2, hc⟩
  · exact ⟨.slice none 0 0, by unfold bytesE; rw [h1]; rfl, by unfold bytesL; rw [h1]; exact BOw.nil _ _, hc⟩
theorem rbytes_r (L : List Nod) (a : Option Addr) (cap : Nat) (w : World) (h : NAt w a L) (hl : L.length ≤ 5000000) :
    Calls Try.prog 12 #[.slice a L.length cap] w fun e w' => ∃ v, e = .returned (.tuple #[v, .int .i64 (bytesE L)]) ∧ BOw w' w.heap.size v (bytesL L) ∧ Chg w w' No := by
  refine (rbytes_any L a cap w h hl).mono ?_
  rintro e w' ⟨⟨h1, v, rfl, h2⟩ | ⟨h1, rfl⟩, hc⟩
  · exact ⟨v, by unfold bytesE; rw [h1]; rfl, by unfold bytesL; rw [h1]; exact h2, hc⟩
  · exact ⟨.slice none 0 0, by unfold bytesE; rw [h1]; rfl, by unfold bytesL; rw [h1]; exact BOw.nil _ _, hc⟩
theorem bytesE_lent {L : List Nod} {hs : List Nat} (h : hs.length = L.length) : bytesE (List.zipWith lentN L hs) = bytesE L := by unfold bytesE; rw [lent_fits h]
theorem bytesL_lent {L : List Nod} {hs : List Nat} (h : hs.length = L.length) : bytesL (List.zipWith lentN L hs) = bytesL L := by unfold bytesL; rw [lent_fits h, lent_flat h]
theorem bytesL_len {L : List Nod} (h : L.length ≤ 5000) : (bytesL L).length ≤ 700000000 := by
  unfold bytesL
  split
  · rename_i h1
    have := flat_len L h1
    omega
  · simp
/-- Two rows lie in blocks of their own. -/
def Ap (v u : Value) : Prop := ∀ k, v.ownBlock = some k → u.ownBlock ≠ some k
structure F4 (B : Nat) (w : World) (va vb vc vd : Value) (la lb lc : List Int) : Prop where
  a : BOw w B va la
  b : BOw w B vb lb
  c : BOw w B vc lc
  d : BOw w B vd lc
  ab : Ap va vb
  ac : Ap va vc
  ad : Ap va vd
  bc : Ap vb vc
  bd : Ap vb vd
section
variable {B : Nat} {w w' : World} {va vb vc vd : Value} {la lb lc : List Int}
theorem Ap.symm {v u : Value} (h : Ap v u) : Ap u v := fun k e f => h k f e
theorem F4.swap (h : F4 B w va vb vc vd la lb lc) : F4 B w vb va vc vd lb la lc := ⟨h.b, h.a, h.c, h.d, h.ab.symm, h.bc, h.bd, h.ac, h.ad⟩
theorem F4.call (h : F4 B w va vb vc vd la lb lc) (hc : Chg w w' No) : F4 B w' va vb vc vd la lb lc := ⟨h.a.call hc, h.b.call hc, h.c.call hc, h.d.call hc, h.ab, h.ac, h.ad, h.bc, h.bd⟩
theorem own_set8 {g n cp : Nat} {l : List Int} (h : BOw w B (.slice (some ⟨g, 0, none⟩) n cp) l) (k : Nat) (y : Int) : BOw (w.setCell ⟨g, k, none⟩ (.int .u8 y)) B (.slice (some ⟨g, 0, none⟩) n cp) (l.set k y) := by
  rcases h.2 with ⟨e, _⟩ | ⟨g', cap, cur, e, hb, hg, h1, h2, h3, h4⟩
  · cases e
  · injection e with e1 e2 e3
    cases e1
    subst e3
    refine ⟨by simp, .inr ⟨g, cp, cur.setIfInBounds k (.int .u8 y), ?_, hb, heap_setCell_same w g k cur _ _ hg, by rw [List.length_set]; exact h1, h2, by rw [Array.size_setIfInBounds]; exact h3, ?_⟩⟩
    · rw [e2, List.length_set]
    · rw [Array.toList_setIfInBounds, List.length_set, List.take_set, h4, List.map_set]
theorem F4.setA {g n cp : Nat} (h : F4 B w (.slice (some ⟨g, 0, none⟩) n cp) vb vc vd la lb lc) (k : Nat) (y : Int) : F4 B (w.setCell ⟨g, k, none⟩ (.int .u8 y)) (.slice (some ⟨g, 0, none⟩) n cp) vb vc vd (la.set k y) lb lc := by
  have hc : Chg w (w.setCell ⟨g, k, none⟩ (.int .u8 y)) (· = g) := Chg.setCell
  exact ⟨own_set8 h.a k y, h.b.keep hc (fun j e f => h.ab g rfl (f ▸ e)), h.c.keep hc (fun j e f => h.ac g rfl (f ▸ e)), h.d.keep hc (fun j e f => h.ad g rfl (f ▸ e)), h.ab, h.ac, h.ad, h.bc, h.bd⟩
theorem F4.appA {v' : Value} {l' : List Int} (h : F4 B w va vb vc vd la lb lc) (h1 : BOw w' B v' l') (hc : Chg w w' (fun k => va.ownBlock = some k)) (ho : v'.ownBlock = va.ownBlock ∨ v'.ownBlock = some w.heap.size) : F4 B w' v' vb vc vd l' lb lc := by
  have far : ∀ {u : Value} {l : List Int}, BOw w B u l → Ap va u → Ap v' u := fun {u l} hu hap k e f => by
    rcases ho with ho | ho
    · exact hap k (ho ▸ e) f
    · rw [ho] at e
      cases e
      obtain ⟨_, A, hA⟩ := hu.blk f
      exact absurd (slt hA) (Nat.lt_irrefl _)
  exact ⟨h1, h.b.keep hc (fun k e f => h.ab k f e), h.c.keep hc (fun k e f => h.ac k f e), h.d.keep hc (fun k e f => h.ad k f e), far h.b h.ab, far h.c h.ac, far h.d h.ad, h.bc, h.bd⟩
theorem BOw.some (h : BOw w B va la) (hl : 0 < la.length) : ∃ g cp, va = .slice (some ⟨g, 0, none⟩) la.length cp ∧ (∀ j, j < la.length → w.cell? ⟨g, j, none⟩ = some (.int .u8 (la.getD j 0))) ∧ ∀ j, w.frozen? ⟨g, j, none⟩ = false := by
  rcases h.2 with ⟨_, e⟩ | ⟨g, cap, cur, rfl, hg, hb, hc, hm, hs, ht⟩
  · omega
  · refine ⟨g, cap, rfl, fun j hj => ?_, fun j => frozen_of_row _ _ _ _ _ hb⟩
    rw [cell_of_row _ _ _ _ _ _ hb]
    have h1 : (cur.toList.take (la.length * 1))[j]? = some (.int .u8 (la.getD j 0)) := by rw [ht]; simp [hj]
    rw [List.getElem?_take, if_pos (by omega)] at h1
    rw [← Array.getElem?_toList]; exact h1
theorem BOw.ap {C : Nat} {u : Value} {l : List Int} {W : World} (h : BOw w B va la) (hs : w.heap.size ≤ C) (k : BOw W C u l) : Ap va u := fun j e f => by
  obtain ⟨_, A, hA⟩ := h.blk e
  have := slt hA
  have := (k.blk f).1
  omega
end
/-- A row of which the front is written over by one number. -/
def ones (y : Int) (l : List Int) (i : Nat) : List Int := List.replicate i y ++ l.drop i
theorem ones_len (y : Int) (l : List Int) {i : Nat} (h : i ≤ l.length) : (ones y l i).length = l.length := by simp [ones]; omega
theorem ones_set (y : Int) (l : List Int) {i : Nat} (h : i < l.length) : (ones y l i).set i y = ones y l (i + 1) := by
  unfold ones
  rw [List.set_append_right _ _ (by simp), List.length_replicate, Nat.sub_self, List.drop_eq_getElem_cons h, List.set_cons_zero, List.replicate_succ']
  simp
theorem ones_all (y : Int) (l : List Int) : ones y l l.length = List.replicate l.length y := by simp [ones]
theorem rep_more (y : Int) (n : Nat) : List.replicate n y ++ [y] = List.replicate (n + 1) y := List.replicate_succ'.symm
end Go.Proofs.Ytiakfgplhdbaeaa
