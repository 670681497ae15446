/-
  Lists of texts in memory; the statements' own helper sameTexts.
-/
import Derived.Test.YtfkmpbbemkkdaaaDoorPH
namespace Go.Proofs.YtfkmpbbemkkdaaaDoor
open Go.RowKit

/-- Texts that lie in memory, from some place on. -/
def TAt (w : World) (a : Option Addr) (ls : List ByteArray) : Prop := ls = [] ∨ ∃ ad, a = some ad ∧ ad.block < w.heap.size ∧ ∀ (j : Nat) x, ls[j]? = some x → w.cell? (ad.add j) = some (.string x)
/-- Texts that lie in memory, from a block's beginning on. -/
def LAt (w : World) (a : Option Addr) (ls : List ByteArray) : Prop := ls = [] ∨ ∃ g, a = some ⟨g, 0, none⟩ ∧ g < w.heap.size ∧ ∀ (j : Nat) x, ls[j]? = some x → w.cell? ⟨g, j, none⟩ = some (.string x)
theorem addr_add (b o j : Nat) : (⟨b, o, none⟩ : Addr).add j = ⟨b, o + j, none⟩ := by unfold Addr.add; split <;> simp_all
theorem cell_below {w w' : World} {a : Addr} {v : Value} (hb : Below w.heap.size w w') (ha : a.block < w.heap.size) (h : w.cell? a = some v) : w'.cell? a = some v := by
  unfold World.cell? at h ⊢
  rw [hb.block _ ha]; exact h
theorem TAt.below {w w' : World} {a : Option Addr} {ls : List ByteArray} (h : TAt w a ls) (hb : Below w.heap.size w w') : TAt w' a ls := by
  rcases h with h | ⟨ad, rfl, hg, h⟩
  · exact .inl h
  · refine .inr ⟨ad, rfl, Nat.lt_of_lt_of_le hg hb.size, fun j x hx => cell_below hb ?_ (h j x hx)⟩
    unfold Addr.add; split <;> exact hg
theorem LAt.below {w w' : World} {a : Option Addr} {ls : List ByteArray} (h : LAt w a ls) (hb : Below w.heap.size w w') : LAt w' a ls := by
  rcases h with h | ⟨g, rfl, hg, h⟩
  · exact .inl h
  · exact .inr ⟨g, rfl, Nat.lt_of_lt_of_le hg hb.size, fun j x hx => cell_below hb hg (h j x hx)⟩
theorem LAt.at {w : World} {a : Option Addr} {ls : List ByteArray} (h : LAt w a ls) : TAt w a ls := by
  rcases h with h | ⟨g, rfl, hg, h⟩
  · exact .inl h
  · exact .inr ⟨_, rfl, hg, fun j x hx => by rw [addr_add, Nat.zero_add]; exact h j x hx⟩
theorem getS {ls : List ByteArray} {k : Nat} (h : k < ls.length) : ls[k]? = some (ls.getD k ByteArray.empty) := by
  rw [List.getElem?_eq_getElem h]; simp [List.getD, List.getElem?_eq_getElem h]

def datas (ls : List ByteArray) : List (List UInt8) := ls.map fun s => s.data.toList
theorem datas_len (ls : List ByteArray) : (datas ls).length = ls.length := by simp [datas]
theorem data_inj {a b : ByteArray} (h : a.data.toList = b.data.toList) : a = b := by
  cases a; cases b
  simp only [Array.toList_inj] at h
  subst h; rfl
theorem datas_inj : ∀ {a b : List ByteArray}, datas a = datas b → a = b
  | [], [], _ => rfl
  | [], b :: bs, h => by simp [datas] at h
  | a :: r, [], h => by simp [datas] at h
  | a :: r, b :: bs, h => by
    simp only [datas, List.map_cons, List.cons.injEq] at h
    rw [data_inj h.1, datas_inj (show datas r = datas bs from h.2)]

theorem sames {a b : List ByteArray} {k : Nat} (hl : a.length = b.length) (h : ∀ j, j < k → a.getD j ByteArray.empty = b.getD j ByteArray.empty) (hk : a.length ≤ k) : a = b := by
  apply List.ext_getElem hl
  intro j h1 h2
  have := h j (by omega)
  simpa [List.getD, List.getElem?_eq_getElem h1, List.getElem?_eq_getElem h2] using this

set_option maxRecDepth 100000 in
set_option maxHeartbeats 1000000 in
theorem sameTexts_any (x y : List ByteArray) (a b : Option Addr) (ca cb : Nat) (w : World) (hx : x.length ≤ 1000000000000000000) (hy : y.length ≤ 1000000000000000000) (ha : TAt w a x) (hb : TAt w b y) :
    Calls Tryd.prog 6 #[.slice a x.length ca, .slice b y.length cb] w fun e w' => e = .returned (.bool (decide (x = y))) ∧ Below w.heap.size w w' := by
  have HA := hid ha
  have HBb := hid hb
  clear ha hb
  by_cases hl : x.length = y.length
  case neg =>
    have HV : Hid (decide (x = y) = false) := by show _ = _; exact decide_eq_false fun e => hl (by rw [e])
    have hne : ((x.length : Int) != (y.length : Int)) = true := by simp; omega
    generalize decide (x = y) = V at *
    generalize x.length = m at *
    generalize y.length = m2 at *
    go_enter Tryd.func6, Tryd.ntmps6
    go_wp2_with fail
    go_ret
    exact ⟨ret_bool HV.out.symm, Below.refl _ _⟩
  have HL := hid hl
  generalize hlen : x.length = m at *
  rw [← hl]
  have HLen := hid hlen
  clear hl hlen
  go_enter Tryd.func6, Tryd.ntmps6
  go_wp2_with fail
  go_loopw [5] (fun i wr => ∃ k n : Nat, k ≤ m ∧ i = .int .i64 k ∧ w.drewN n = wr ∧ Hid (∀ j, j < k → x.getD j ByteArray.empty = y.getD j ByteArray.empty)) (fun i _ => m - (intOf i).toNat)
  case atStart => exact ⟨0, 0, by omega, rfl, rfl, fun j hj => by omega⟩
  case round =>
    obtain ⟨k, n, hk, rfl, rfl, HE⟩ := hrel
    by_cases hlt : k < m
    · rcases HA.out with h0 | ⟨g1, rfl, hg1, h1⟩
      · have := HLen.out; rw [h0] at this; simp at this; omega
      · rcases HBb.out with h0 | ⟨g2, rfl, hg2, h2⟩
        · have := HL.out; rw [h0] at this; simp at this; omega
        have p1 := h1 k _ (getS (ls := x) (by have := HLen.out; omega))
        have p2 := h2 k _ (getS (ls := y) (by have := HL.out; omega))
        obtain ⟨u, hu⟩ : ∃ u, u = x.getD k ByteArray.empty := ⟨_, rfl⟩
        obtain ⟨v, hv⟩ : ∃ v, v = y.getD k ByteArray.empty := ⟨_, rfl⟩
        rw [← hu] at p1
        rw [← hv] at p2
        have HU := hid hu
        have HW := hid hv
        have hi0 : (0 : Int) ≤ (k : Int) := by omega
        have hi1 : (k : Int) < (m : Int) := by omega
        clear h1 h2 hu hv
        cases e : (u.toList == v.toList)
        · have HV : Hid (decide (x = y) = false) := by
            show _ = _
            refine decide_eq_false fun h => ?_
            have h1 := HU.out; have h2 := HW.out
            subst h
            rw [h1, h2] at e
            simp at e
          go_wp2_with fail
          go_quiet (fail)
          go_wp2_with fail
          go_ret
          exact ⟨ret_bool HV.out.symm, ⟨rfl, rfl, rfl, Nat.le_refl _, fun _ _ => rfl⟩⟩
        · have HQ : Hid (∀ j, j < k + 1 → x.getD j ByteArray.empty = y.getD j ByteArray.empty) := by
            intro j hj
            rcases Nat.lt_or_ge j k with g | g
            · exact HE.out j g
            · obtain rfl : j = k := by omega
              rw [← HU.out, ← HW.out]
              exact data_inj (by rw [← tl, ← tl]; exact eq_of_beq e)
          go_wp2_with fail
          go_quiet (fail)
          go_wp2_with fail
          exact ⟨⟨k + 1, _, by omega, by go_num, rfl, HQ⟩, by simp [intOf]; omega⟩
    · have HV : Hid (decide (x = y) = true) := by
        show _ = _
        have h1 := HLen.out; have h2 := HL.out
        exact decide_eq_true (sames (by omega) HE.out (by omega))
      go_wp2_with fail
      go_ret
      exact ⟨ret_bool HV.out.symm, ⟨rfl, rfl, rfl, Nat.le_refl _, fun _ _ => rfl⟩⟩

end Go.Proofs.YtfkmpbbemkkdaaaDoor
