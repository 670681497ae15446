/-
  The statements' helper turn: lent nodes become others, in their own memory.
-/
import Derived.Test.YtiakfgplhdbaeaaKP
namespace Go.Proofs.Ytiakfgplhdbaeaa
open Go.RowKit

def turnB (y : Int) : Int := bits .xor .u8 y 165
def turnN (n : Nod) : Nod := { n with made := bits .xor .i64 n.made 1, data := n.data.map turnB }
def partB (l : List Int) (k : Nat) : List Int := (l.take k).map turnB ++ l.drop k
theorem partB_len (l : List Int) (k : Nat) (h : k ≤ l.length) : (partB l k).length = l.length := by simp [partB]; omega
theorem partB_0 (l : List Int) : partB l 0 = l := by simp [partB]
theorem partB_all (l : List Int) : partB l l.length = l.map turnB := by simp [partB]
theorem partB_get (l : List Int) {k : Nat} (h : k < l.length) : (partB l k).getD k 0 = l.getD k 0 := by
  unfold partB
  rw [List.getD_eq_getElem?_getD, List.getElem?_append_right (by simp; omega), List.getElem?_drop, List.getD_eq_getElem?_getD]
  congr 2
  simp
  omega
theorem partB_set (l : List Int) {k : Nat} (h : k < l.length) : (partB l k).set k (turnB (l.getD k 0)) = partB l (k + 1) := by
  unfold partB
  rw [List.set_append_right _ _ (by simp; omega), List.length_map, List.length_take, Nat.min_eq_left (by omega), Nat.sub_self, List.take_add_one, List.getElem?_eq_getElem h, List.map_append, List.append_assoc]
  congr 1
  rw [List.drop_eq_getElem_cons h, List.set_cons_zero, List.getD_eq_getElem?_getD, List.getElem?_eq_getElem h]
  rfl
/-- Nodes of which some are turned. -/
def TLs (L : List Nod) (i : Nat) : List Nod := (L.take i).map turnN ++ L.drop i
theorem TLs_len (L : List Nod) (i : Nat) (h : i ≤ L.length) : (TLs L i).length = L.length := by simp [TLs]; omega
theorem TLs_get (L : List Nod) {i : Nat} (h : i < L.length) : (TLs L i).getD i Nod.z = L.getD i Nod.z := by
  unfold TLs
  rw [List.getD_eq_getElem?_getD, List.getElem?_append_right (by simp; omega), List.getElem?_drop, List.getD_eq_getElem?_getD]
  congr 2
  simp
  omega
theorem TLs_set (L : List Nod) {i : Nat} (h : i < L.length) : (TLs L i).set i (turnN (L.getD i Nod.z)) = TLs L (i + 1) := by
  unfold TLs
  rw [List.set_append_right _ _ (by simp; omega), List.length_map, List.length_take, Nat.min_eq_left (by omega), Nat.sub_self, List.take_add_one, List.getElem?_eq_getElem h, List.map_append, List.append_assoc]
  congr 1
  rw [List.drop_eq_getElem_cons h, List.set_cons_zero, List.getD_eq_getElem?_getD, List.getElem?_eq_getElem h]
  rfl
theorem TLs_0 (L : List Nod) : TLs L 0 = L := by simp [TLs]
theorem TLs_all (L : List Nod) : TLs L L.length = L.map turnN := by simp [TLs]
theorem getD_set {α : Type} {l : List α} {i j : Nat} {x d : α} (hi : i < l.length) : (l.set i x).getD j d = if i = j then x else l.getD j d := by
  rw [List.getD_eq_getElem?_getD, List.getElem?_set, List.getD_eq_getElem?_getD]
  by_cases e : i = j
  · rw [if_pos e, if_pos e, if_pos hi]; rfl
  · rw [if_neg e, if_neg e]
theorem zip_set {L : List Nod} {hs : List Nat} (h : hs.length = L.length) {i : Nat} (hi : i < L.length) (n : Nod) : List.zipWith lentN (L.set i n) hs = (List.zipWith lentN L hs).set i (lentN n (hs.getD i 0)) := by
  apply List.ext_getElem?
  intro j
  rw [List.getElem?_zipWith, List.getElem?_set, List.getElem?_set, List.getElem?_zipWith]
  by_cases e : i = j
  · subst e
    rw [if_pos rfl, if_pos hi, if_pos rfl, if_pos (by simp [h, hi]), List.getD_eq_getElem?_getD, List.getElem?_eq_getElem (by omega)]
    rfl
  · rw [if_neg e, if_neg e]
theorem rowsM_turn {L : List Nod} {hs : List Nat} {k z : Nat} (h : hs.length = L.length) {i : Nat} (hi : i < L.length) (n : Nod) : (rowsM L hs k z).set i (rowN (lentN n (hs.getD i 0))) = rowsM (L.set i n) hs k z := by
  unfold rowsM
  rw [List.set_append_left _ _ (by rw [zip_len h]; exact hi), zip_set h hi, List.map_set]
section
variable {w0 w w' : World} {gN : Nat} {L : List Nod} {hs : List Nat}
theorem LR.made (h : LR w0 w gN L hs) {i : Nat} (hi : i < L.length) (v : Int) : LR w0 (w.setCell ⟨gN, i * 5 + 2, none⟩ (.int .i64 v)) gN (L.set i { L.getD i Nod.z with made := v }) hs ∧ Chg w (w.setCell ⟨gN, i * 5 + 2, none⟩ (.int .i64 v)) (· = gN) := by
  obtain ⟨k1, k2, _⟩ := h.nr.cell (rowsM_get h.bb.len hi) (show 2 < 5 by decide) (.int .i64 v)
  obtain ⟨A, hA⟩ := h.nr.isRow
  refine ⟨⟨?_, ⟨by rw [List.length_set]; exact h.bb.len, fun j hj => ?_, fun j hj => ?_, fun j q hj hq => ?_⟩, h.nN⟩, k2⟩
  · rw [← rowsM_turn h.bb.len hi]
    exact k1
  · rw [List.length_set] at hj
    have h1 := k2.keep (h.bb.at_ j hj) (obj_ne (h.bb.at_ j hj) hA (cne (by decide)))
    rw [getD_set hi]
    by_cases e : i = j
    · subst e
      rw [if_pos rfl]
      exact h1
    · rw [if_neg e]
      exact h1
  · rw [List.length_set] at hj
    exact h.bb.new j hj
  · rw [List.length_set] at hj hq
    exact h.bb.ap j q hj hq
theorem LR.byte (h : LR w0 w gN L hs) {i : Nat} (hi : i < L.length) {k : Nat} (hk : k < (L.getD i Nod.z).data.length) (y : Int) : LR w0 (w.setCell ⟨hs.getD i 0, k, none⟩ (.int .u8 y)) gN (L.set i { L.getD i Nod.z with data := (L.getD i Nod.z).data.set k y }) hs ∧ Chg w (w.setCell ⟨hs.getD i 0, k, none⟩ (.int .u8 y)) (· = hs.getD i 0) := by
  obtain ⟨A, hA⟩ := h.nr.isRow
  have hc : Chg w (w.setCell ⟨hs.getD i 0, k, none⟩ (.int .u8 y)) (· = hs.getD i 0) := Chg.setCell
  refine ⟨⟨?_, ⟨by rw [List.length_set]; exact h.bb.len, fun j hj => ?_, fun j hj => ?_, fun j q hj hq => ?_⟩, h.nN⟩, hc⟩
  · have h1 := h.nr.keep hc (obj_ne hA (h.bb.at_ i hi) (cne (by decide)))
    have e : rowN (lentN { L.getD i Nod.z with data := (L.getD i Nod.z).data.set k y } (hs.getD i 0)) = rowN (lentN (L.getD i Nod.z) (hs.getD i 0)) := by simp [rowN, nodA, lentN]
    rw [← rowsM_turn h.bb.len hi, e]
    have e2 : (rowsM L hs 3 0).set i (rowN (lentN (L.getD i Nod.z) (hs.getD i 0))) = rowsM L hs 3 0 := by
      apply List.ext_getElem?
      intro j
      rw [List.getElem?_set]
      by_cases e : i = j
      · subst e
        rw [if_pos rfl, rowsM_get h.bb.len hi, if_pos (by rw [rowsM_len h.bb.len]; omega)]
      · rw [if_neg e]
    rw [e2]
    exact h1
  · rw [List.length_set] at hj
    rw [getD_set hi]
    by_cases e : i = j
    · subst e
      rw [if_pos rfl]
      have := setB (h.bb.at_ i hi) k y
      rw [List.set_append_left _ _ hk] at this
      exact this
    · rw [if_neg e]
      exact hc.keep (h.bb.at_ j hj) (fun e2 => h.bb.ap j i hj hi (fun e3 => e e3.symm) e2)
  · rw [List.length_set] at hj
    exact h.bb.new j hj
  · rw [List.length_set] at hj hq
    exact h.bb.ap j q hj hq
end
section
variable {ops : Array Oper} {Q : Exit → Act → World → Prop} {S : World → Prop} {fuel : Nat} {listed : Array Bool} {a : Act} {w : World}
theorem stSkip (i : Nat) {o : Oper} (hop : ops[i]? = some o) (hd : o.dst = none) (hw : Region.wanted o (yielded ops a.tmps) = true) (w' : World) (hrun : (execOp a.eval o).run Try.prog w = .ok .skip w')
    (h : S w' ∧ wpAnyH Try.prog .any ops Q S fuel (listed.setIfInBounds i true) a w') : St ops Q S fuel listed a w i := by
  refine wpOp_step hop (fun K hK => ?_)
  rw [if_pos hw]
  unfold Oper.wp
  rw [hrun]
  refine hK _ _ ?_
  unfold Act.put
  rw [hd]
  exact h
end
/-- The blocks that lent nodes lie in. -/
def LBlk (gN : Nat) (hs : List Nat) (k : Nat) : Prop := k = gN ∨ k ∈ hs

set_option maxHeartbeats 4000000 in
set_option maxRecDepth 100000 in
theorem turn_any (L : List Nod) (gN cap : Nat) (hs : List Nat) (w0 w : World) (h : LR w0 w gN L hs) (hl0 : L.length ≤ 5000) (hd0 : ∀ i, i < L.length → (L.getD i Nod.z).data.length ≤ 2097152) :
    Calls Try.prog 13 #[.slice (some ⟨gN, 0, none⟩) L.length cap] w fun e w' => e = .returned (.tuple #[]) ∧ LR w0 w' gN (L.map turnN) hs ∧ Chg w w' (LBlk gN hs) := by
  have HR := hid h
  have HD := hid hd0
  have HLh := hid h.bb.len
  obtain ⟨m, hm⟩ : ∃ y, y = L.length := ⟨_, rfl⟩
  rw [← hm] at hl0 ⊢
  have HM := hid hm
  clear h hd0 hm
  go_enter Try.func13, Try.ntmps13
  go_wp2_with fail
  go_loopw [2] (fun x2 wr => ∃ i : Nat, x2 = .int .i64 (i : Int) ∧ i ≤ m ∧ Hid (LR w0 wr gN (TLs L i) hs) ∧ Hid (Chg w wr (LBlk gN hs))) (fun x2 _ => m - (intOf x2).toNat)
  case atStart => exact ⟨0, rfl, Nat.zero_le _, hid (by rw [TLs_0]; exact HR.out), hid (Chg.refl _ _)⟩
  case round =>
    obtain ⟨i, rfl, hi, HL, HC⟩ := hrel
    clear HR
    by_cases e : i = m
    · subst e
      have HE : Hid (TLs L i = L.map turnN) := hid (by rw [HM.out]; exact TLs_all L)
      go_wp2_with fail
      go_end0
      exact ⟨rfl, by rw [← HE.out]; exact HL.out, HC.out⟩
    · have f1 : (i : Int) < (m : Int) := by omega
      have hil : i < L.length := by rw [← HM.out]; omega
      have hit : i < (TLs L i).length := by rw [TLs_len L i (by omega)]; exact hil
      obtain ⟨n, hn⟩ : ∃ y, y = L.getD i Nod.z := ⟨_, rfl⟩
      obtain ⟨h, hh⟩ : ∃ y, y = hs.getD i 0 := ⟨_, rfl⟩
      have hgt : (TLs L i).getD i Nod.z = n := by rw [TLs_get L hil, hn]
      have hdl : (n.data.length : Int) ≤ 2097152 := by have := HD.out i hil; rw [← hn] at this; omega
      have HHm : Hid (h ∈ hs) := hid (by rw [hh, List.getD_eq_getElem?_getD, List.getElem?_eq_getElem (by rw [HLh.out]; exact hil)]; exact List.getElem_mem _)
      have hrow := HL.out.nr.range (rowsM_get HL.out.bb.len hit)
      rw [hgt, ← hh] at hrow
      have c2 : wr.cell? ⟨gN, i * 5 + 2, none⟩ = some (.int .i64 n.made) := hrow 2 _ rfl
      obtain ⟨A0, hA0⟩ := HL.out.nr.isRow
      have fz := frozen_of_row wr gN (i * 5 + 2) _ _ hA0
      obtain ⟨hM1, hM2⟩ := HL.out.made hit (bits .xor .i64 n.made 1)
      rw [hgt] at hM1
      have HM1 := hid hM1
      have HM2 := hid (HC.out.trans hM2 (fun _ _ e => e) (fun _ _ e => .inl e))
      have HTs : Hid ((TLs L i).set i (turnN n) = TLs L (i + 1)) := hid (by rw [hn]; exact TLs_set L hil)
      have HIt := hid hit
      have HHh := hid hh
      clear hrow hA0 hM1 hM2 hgt hh hn hil hit
      go_wp2_with fail
      clear c2 fz
      obtain ⟨wi, hwi⟩ : ∃ y, y = wr.setCell ⟨gN, i * 5 + 2, none⟩ (.int .i64 (bits .xor .i64 n.made 1)) := ⟨_, rfl⟩
      rw [← hwi] at HM1 HM2 ⊢
      clear hwi
      obtain ⟨n1, hn1⟩ : ∃ y : Nod, y = { n with made := bits .xor .i64 n.made 1 } := ⟨_, rfl⟩
      rw [← hn1] at HM1
      go_loopw [3] (fun x3 wr => ∃ k : Nat, x3 = .int .i64 (k : Int) ∧ k ≤ n.data.length ∧ Hid (LR w0 wr gN ((TLs L i).set i { n1 with data := partB n.data k }) hs) ∧ Hid (Chg w wr (LBlk gN hs))) (fun x3 _ => n.data.length - (intOf x3).toNat)
      case atStart => exact ⟨0, rfl, Nat.zero_le _, hid (by
        have : ({ n1 with data := partB n.data 0 } : Nod) = n1 := by rw [partB_0, hn1]
        rw [this]
        exact HM1.out), HM2⟩
      case round =>
        obtain ⟨k, rfl, hk, HL3, HC3⟩ := hrel
        clear HM1 HM2
        obtain ⟨n2, hn2⟩ : ∃ y : Nod, y = { n1 with data := partB n.data k } := ⟨_, rfl⟩
        rw [← hn2] at HL3
        have hset : i < ((TLs L i).set i n2).length := by rw [List.length_set]; exact HIt.out
        have hgt2 : ((TLs L i).set i n2).getD i Nod.z = n2 := by rw [getD_set HIt.out, if_pos rfl]
        have hdl2 : n2.data.length = n.data.length := by rw [hn2]; exact partB_len _ _ hk
        have HRw : Hid (∀ W, Chg wr W (· = h) → W.cell? ⟨gN, i * 5 + 4, none⟩ = some (.slice (some ⟨h, 0, none⟩) n.data.length (n.data.length + 5))) := hid (fun W hW => by
          obtain ⟨A, hA⟩ := HL3.out.nr.isRow
          have hb := HL3.out.bb.at_ i hset
          rw [← HHh.out] at hb
          have h1 := (HL3.out.nr.keep hW (obj_ne hA hb (cne (by decide)))).range (rowsM_get HL3.out.bb.len hset) 4 (.slice (some ⟨h, 0, none⟩) n2.data.length (n2.data.length + 5)) (by rw [hgt2, ← HHh.out]; rfl)
          rw [hdl2] at h1
          exact h1)
        have c4 := HRw.out wr (Chg.refl _ _)
        by_cases ek : k = n.data.length
        · subst ek
          go_wp2_with fail
          refine ⟨⟨i + 1, by go_num, by omega, hid ?_, HC3⟩, by simp [intOf]; omega⟩
          have e3 : n2 = turnN n := by
            rw [hn2, hn1, partB_all]
            rfl
          rw [← HTs.out, ← e3]
          exact HL3.out
        · have g1 : (k : Int) < (n.data.length : Int) := by omega
          have hkl : k < n2.data.length := by omega
          have hby := HL3.out.byte hset (k := k) (by rw [hgt2]; exact hkl) (turnB (n.data.getD k 0))
          rw [hgt2, ← HHh.out] at hby
          have hcb : wr.cell? ⟨h, k, none⟩ = some (.int .u8 (n.data.getD k 0)) := by
            have hb := HL3.out.bb.at_ i hset
            rw [← HHh.out, hgt2] at hb
            rw [cell_of_row _ _ _ _ _ _ hb, SB_get _ _ (by rw [List.length_append]; omega), getD_left hkl, hn2, partB_get _ (by omega)]
          have hfb : wr.frozen? ⟨h, k, none⟩ = false := by
            have hb := HL3.out.bb.at_ i hset
            rw [← HHh.out] at hb
            exact frozen_of_row _ _ _ _ _ hb
          have HBy : Hid (LR w0 (wr.setCell ⟨h, k, none⟩ (.int .u8 (turnB (n.data.getD k 0)))) gN ((TLs L i).set i { n1 with data := partB n.data (k + 1) }) hs) := hid (by
            have h1 := hby.1
            rw [List.set_set] at h1
            have e3 : ({ n2 with data := n2.data.set k (turnB (n.data.getD k 0)) } : Nod) = { n1 with data := partB n.data (k + 1) } := by
              rw [hn2, ← partB_set n.data (show k < n.data.length by omega)]
            rw [e3] at h1
            exact h1)
          obtain ⟨y, hy⟩ : ∃ z, z = n.data.getD k 0 := ⟨_, rfl⟩
          rw [← hy] at hcb HBy
          clear hby hn2 hset hgt2 hdl2 hkl hy
          go_upto_region 7 with fail
          clear c4
          refine wp_region_noPanic ?_
          refine wp_region_held_drew (S := fun W => Chg wr W (· = h)) (by kernel_rfl) (Chg.refl _ _).drew (fun hHeld => ?_)
          have hcd : wr.drew.cell? ⟨h, k, none⟩ = some (.int .u8 y) := hcb
          have hfd : wr.drew.frozen? ⟨h, k, none⟩ = false := hfb
          refine takeVal 0 30 (.slice (some ⟨gN, 0, none⟩) m cap) rfl (by kernel_rfl) (by kernel_rfl) (by kernel_rfl) rfl (by rfl) (fun _ _ _ h => h) hHeld (fun W' hw' => rfl) ?_
          simp only [List.setIfInBounds_toArray, List.set_cons_zero, List.set_cons_succ]
          refine takeVal 1 31 (.int .i64 (i : Int)) rfl (by kernel_rfl) (by kernel_rfl) (by kernel_rfl) rfl (by rfl) (fun _ _ _ h => h) hHeld (fun W' hw' => rfl) ?_
          simp only [List.setIfInBounds_toArray, List.set_cons_zero, List.set_cons_succ]
          refine takeVal 2 32 (.pointer (some ⟨gN, i * 5, none⟩)) rfl (by kernel_rfl) (by kernel_rfl) (by kernel_rfl) rfl (by rfl) (fun _ _ _ h => h) hHeld (fun W' hw' => by go_simp) ?_
          simp only [List.setIfInBounds_toArray, List.set_cons_zero, List.set_cons_succ]
          refine takeVal 3 33 (.pointer (some ⟨gN, i * 5 + 4, none⟩)) rfl (by kernel_rfl) (by kernel_rfl) (by kernel_rfl) rfl (by rfl) (fun _ _ _ h => h) hHeld (fun W' hw' => by go_simp) ?_
          simp only [List.setIfInBounds_toArray, List.set_cons_zero, List.set_cons_succ]
          refine takeVal 4 34 (.slice (some ⟨h, 0, none⟩) n.data.length (n.data.length + 5)) rfl (by kernel_rfl) (by kernel_rfl) (by kernel_rfl) rfl (by rfl) (fun _ _ _ h => h) hHeld (fun W' hw' => by have hc := HRw.out W' hw'; go_simp) ?_
          simp only [List.setIfInBounds_toArray, List.set_cons_zero, List.set_cons_succ]
          refine takeVal 5 35 (.int .i64 (k : Int)) rfl (by kernel_rfl) (by kernel_rfl) (by kernel_rfl) rfl (by rfl) (fun _ _ _ h => h) hHeld (fun W' hw' => rfl) ?_
          simp only [List.setIfInBounds_toArray, List.set_cons_zero, List.set_cons_succ]
          refine takeVal 6 36 (.slice (some ⟨gN, 0, none⟩) m cap) rfl (by kernel_rfl) (by kernel_rfl) (by kernel_rfl) rfl (by rfl) (fun _ _ _ h => h) hHeld (fun W' hw' => rfl) ?_
          simp only [List.setIfInBounds_toArray, List.set_cons_zero, List.set_cons_succ]
          refine takeVal 7 37 (.int .i64 (i : Int)) rfl (by kernel_rfl) (by kernel_rfl) (by kernel_rfl) rfl (by rfl) (fun _ _ _ h => h) hHeld (fun W' hw' => rfl) ?_
          simp only [List.setIfInBounds_toArray, List.set_cons_zero, List.set_cons_succ]
          refine takeVal 8 38 (.pointer (some ⟨gN, i * 5, none⟩)) rfl (by kernel_rfl) (by kernel_rfl) (by kernel_rfl) rfl (by rfl) (fun _ _ _ h => h) hHeld (fun W' hw' => by go_simp) ?_
          simp only [List.setIfInBounds_toArray, List.set_cons_zero, List.set_cons_succ]
          refine takeVal 9 39 (.pointer (some ⟨gN, i * 5 + 4, none⟩)) rfl (by kernel_rfl) (by kernel_rfl) (by kernel_rfl) rfl (by rfl) (fun _ _ _ h => h) hHeld (fun W' hw' => by go_simp) ?_
          simp only [List.setIfInBounds_toArray, List.set_cons_zero, List.set_cons_succ]
          refine takeVal 10 40 (.slice (some ⟨h, 0, none⟩) n.data.length (n.data.length + 5)) rfl (by kernel_rfl) (by kernel_rfl) (by kernel_rfl) rfl (by rfl) (fun _ _ _ h => h) hHeld (fun W' hw' => by have hc := HRw.out W' hw'; go_simp) ?_
          simp only [List.setIfInBounds_toArray, List.set_cons_zero, List.set_cons_succ]
          refine takeVal 11 41 (.int .i64 (k : Int)) rfl (by kernel_rfl) (by kernel_rfl) (by kernel_rfl) rfl (by rfl) (fun _ _ _ h => h) hHeld (fun W' hw' => rfl) ?_
          simp only [List.setIfInBounds_toArray, List.set_cons_zero, List.set_cons_succ]
          refine takeVal 12 42 (.pointer (some ⟨h, k, none⟩)) rfl (by kernel_rfl) (by kernel_rfl) (by kernel_rfl) rfl (by rfl) (fun _ _ _ h => h) hHeld (fun W' hw' => by go_simp) ?_
          simp only [List.setIfInBounds_toArray, List.set_cons_zero, List.set_cons_succ]
          refine step1 13 (by kernel_rfl) ?_
          refine stVal 13 43 (.int .u8 y) rfl rfl (by rfl) (by go_simp) hHeld ?_
          simp only [List.setIfInBounds_toArray, List.set_cons_zero, List.set_cons_succ]
          refine takeVal 14 44 (.int .u8 (turnB y)) rfl (by kernel_rfl) (by kernel_rfl) (by kernel_rfl) rfl (by rfl) (fun _ _ _ h => h) hHeld (fun W' hw' => by go_simp; rfl) ?_
          simp only [List.setIfInBounds_toArray, List.set_cons_zero, List.set_cons_succ]
          refine takeVal 15 45 (.pointer (some ⟨h, k, none⟩)) rfl (by kernel_rfl) (by kernel_rfl) (by kernel_rfl) rfl (by rfl) (fun _ _ _ h => h) hHeld (fun W' hw' => by go_simp) ?_
          simp only [List.setIfInBounds_toArray, List.set_cons_zero, List.set_cons_succ]
          refine step1 16 (by kernel_rfl) ?_
          refine stSkip 16 rfl rfl (by rfl) (wr.drew.setCell ⟨h, k, none⟩ (.int .u8 (turnB y))) (by go_simp) ⟨(Chg.refl wr (· = h)).drew.trans Chg.setCell (fun _ _ e => e) (fun _ _ e => e), ?_⟩
          refine wpAnyH_done (by kernel_rfl) ?_ _
          refine NoPanic.normal ?_
          have hc5 : Chg wr (wr.drew.setCell ⟨h, k, none⟩ (.int .u8 (turnB y))) (· = h) := (Chg.refl wr (· = h)).drew.trans Chg.setCell (fun _ _ e => e) (fun _ _ e => e)
          have hL5 : LR w0 (wr.drew.setCell ⟨h, k, none⟩ (.int .u8 (turnB y))) gN ((TLs L i).set i { n1 with data := partB n.data (k + 1) }) hs := by
            have hd : Chg (wr.setCell ⟨h, k, none⟩ (.int .u8 (turnB y))) (wr.drew.setCell ⟨h, k, none⟩ (.int .u8 (turnB y))) No := ⟨rfl, rfl, rfl, Nat.le_refl _, fun _ _ _ => rfl⟩
            exact HBy.out.call hd
          have HL5 := hid hL5
          have HC5 := hid (HC3.out.trans hc5 (fun _ _ e => e) (fun j _ e => .inr (by rw [e]; exact HHm.out)))
          obtain ⟨w5, hw5⟩ : ∃ z, z = wr.drew.setCell ⟨h, k, none⟩ (.int .u8 (turnB y)) := ⟨_, rfl⟩
          rw [← hw5] at HL5 HC5 ⊢
          clear hHeld hcd hfd hcb hfb hc5 hL5 hw5 HBy
          go_wp2_with fail
          exact ⟨⟨k + 1, by go_num, by omega, HL5, HC5⟩, by simp [intOf]; omega⟩
end Go.Proofs.Ytiakfgplhdbaeaa
