/-
  The statements' helper same: two lists of nodes that are alike.
-/
import Derived.Test.YtiakfgplhdbaeaaRL
namespace Go.Proofs.Ytiakfgplhdbaeaa
open Go.RowKit

def alikeN (x y : Nod) : Prop := y.path = x.path ∧ y.kind = x.kind ∧ y.made = x.made ∧ y.same = x.same ∧ y.data = x.data
theorem nodA_alike {x y : Nod} (h : alikeN x y) : nodA y = #[.string x.path, .int .i64 x.kind, .int .i64 x.made, .string x.same, .slice y.da x.data.length y.dc] := by
  obtain ⟨h1, h2, h3, h4, h5⟩ := h
  unfold nodA
  rw [h1, h2, h3, h4, h5]

set_option maxHeartbeats 2000000 in
set_option maxRecDepth 100000 in
theorem same_any (L M : List Nod) (a b : Option Addr) (ca cb : Nat) (w : World) (h1 : NAt w a L) (h2 : NAt w b M) (hl : M.length = L.length) (hm0 : L.length ≤ 140737488355328) (ha : ∀ i, i < L.length → alikeN (L.getD i Nod.z) (M.getD i Nod.z)) :
    Calls Try.prog 16 #[.slice a L.length ca, .slice b M.length cb] w fun e w' => e = .returned (.bool true) ∧ Chg w w' No := by
  have HL := hid h1
  have HR := hid h2
  have HA := hid ha
  have HLn := hid hl
  rw [hl]
  obtain ⟨m, hm⟩ : ∃ y, y = L.length := ⟨_, rfl⟩
  rw [← hm] at hm0 ⊢
  have HM := hid hm
  clear h1 h2 hl ha hm
  go_enter Try.func16, Try.ntmps16
  go_wp2_with fail
  go_loopw [5] (fun x5 wr => ∃ j : Nat, x5 = .int .i64 (j : Int) ∧ j ≤ m ∧ Hid (Chg w wr No)) (fun x5 _ => m - (intOf x5).toNat)
  case atStart => exact ⟨0, rfl, Nat.zero_le _, hid (Chg.refl _ _)⟩
  case round =>
    obtain ⟨j, rfl, hj, HC⟩ := hrel
    by_cases e : j = m
    · subst e
      go_wp2_with fail
      go_ret
      exact ⟨rfl, HC.out⟩
    · have f1 : (j : Int) < (m : Int) := by omega
      have hjl : j < L.length := by rw [← HM.out]; omega
      have hjr : j < M.length := by rw [HLn.out]; exact hjl
      obtain ⟨b1, o1, rfl, _, hld1⟩ := (HL.out.call HC.out).load hjl
      obtain ⟨b2, o2, rfl, hb2, hld2⟩ := (HR.out.call HC.out).load hjr
      have hD1 := (HL.out.call HC.out).data j hjl
      have hD2 := (HR.out.call HC.out).data j hjr
      have hal := HA.out j hjl
      obtain ⟨x, hx⟩ : ∃ y, y = L.getD j Nod.z := ⟨_, rfl⟩
      obtain ⟨y, hy⟩ : ∃ z, z = M.getD j Nod.z := ⟨_, rfl⟩
      rw [← hx] at hld1 hD1 hal
      rw [← hy] at hld2 hD2 hal
      have HY : Hid (y.data = x.data) := hid hal.2.2.2.2
      have HNy := hid (nodA_alike hal)
      have HD1 := hid hD1
      have HD2 : Hid (BytesAt wr y.da x.data) := hid (by rw [← HY.out]; exact hD2)
      have HLd1 := hid hld1
      have HLd2 : Hid (∀ W, Chg wr W No → (loadVar 47 ⟨b2, o2 + j * 5, none⟩).run Try.prog W = .ok (.agg (nodA y)) W) := hid (fun W hW => by
        obtain ⟨b', o', e', _, hl'⟩ := ((HR.out.call HC.out).call hW).load hjr
        cases e'
        rw [← hy] at hl'
        exact hl')
      have sz1 := nodA_sz x
      have sz2 := nodA_sz y
      clear hx hy hD1 hD2 hal hld1 hld2 hjl hjr hb2
      go_upto_region 7 with (first
        | (refine load_of rfl 47 _ rfl ⟨b1, o1 + j * 5, none⟩ rfl _ HLd1.out ?_)
        | (refine store_R rfl 47 _ _ rfl wr.heap.size (nodA x) rfl rfl 47 _ (heap_alloc_new _ _) sz1 rfl (nodA_one x) ?_; intro w1 hw1)
        | fail)
      have hc1 : Chg wr w1 No := (Chg.alloc wr _ No).trans (kt_new hw1) (fun _ _ e => e) (fun k hk e => by omega)
      obtain ⟨g6, hg6⟩ : ∃ z, z = wr.heap.size := ⟨_, rfl⟩
      rw [← hg6]
      have HG1 : Hid (w1.heap[g6]? = some (.cells (nodA x) 47 (0, 0))) := hid (by rw [hg6]; exact hw1.here)
      have HC1 := hid hc1
      have hl2 := HLd2.out w1 hc1
      have HL2 := hid hl2
      clear hw1 hc1 hg6 hl2
      go_upto_region 8 with (first
        | (refine load_of rfl 47 _ rfl ⟨b2, o2 + j * 5, none⟩ rfl _ HL2.out ?_)
        | (refine store_R rfl 47 _ _ rfl w1.heap.size (nodA y) rfl rfl 47 _ (heap_alloc_new _ _) sz2 rfl (nodA_one y) ?_; intro w2 hw2)
        | fail)
      have hc2 : Chg w1 w2 No := (Chg.alloc w1 _ No).trans (kt_new hw2) (fun _ _ e => e) (fun k hk e => by omega)
      have h62 := hc2.keep HG1.out (fun e => e)
      have h72 := hw2.here
      rw [HNy.out] at h72
      obtain ⟨g7, hg7⟩ : ∃ z, z = w1.heap.size := ⟨_, rfl⟩
      rw [← hg7] at h72 ⊢
      have x0 : w2.cell? ⟨g6, 0, none⟩ = some (.string x.path) := (cell_of_row _ _ _ _ _ _ h62).trans rfl
      have x1 : w2.cell? ⟨g6, 1, none⟩ = some (.int .i64 x.kind) := (cell_of_row _ _ _ _ _ _ h62).trans rfl
      have x2 : w2.cell? ⟨g6, 2, none⟩ = some (.int .i64 x.made) := (cell_of_row _ _ _ _ _ _ h62).trans rfl
      have x3 : w2.cell? ⟨g6, 3, none⟩ = some (.string x.same) := (cell_of_row _ _ _ _ _ _ h62).trans rfl
      have x4 : w2.cell? ⟨g6, 4, none⟩ = some (.slice x.da x.data.length x.dc) := (cell_of_row _ _ _ _ _ _ h62).trans rfl
      have y0 : w2.cell? ⟨g7, 0, none⟩ = some (.string x.path) := (cell_of_row _ _ _ _ _ _ h72).trans rfl
      have y1 : w2.cell? ⟨g7, 1, none⟩ = some (.int .i64 x.kind) := (cell_of_row _ _ _ _ _ _ h72).trans rfl
      have y2 : w2.cell? ⟨g7, 2, none⟩ = some (.int .i64 x.made) := (cell_of_row _ _ _ _ _ _ h72).trans rfl
      have y3 : w2.cell? ⟨g7, 3, none⟩ = some (.string x.same) := (cell_of_row _ _ _ _ _ _ h72).trans rfl
      have y4 : w2.cell? ⟨g7, 4, none⟩ = some (.slice y.da x.data.length y.dc) := (cell_of_row _ _ _ _ _ _ h72).trans rfl
      have HV1 := hid (conv_at (HD1.out.call (HC1.out.tr hc2)) x.dc)
      have HV2 := hid (conv_at (HD2.out.call (HC1.out.tr hc2)) y.dc)
      have HC2 := hid (HC.out.tr (HC1.out.tr hc2))
      obtain ⟨xl, hxl⟩ : ∃ z, z = x.data.length := ⟨_, rfl⟩
      obtain ⟨xs, hxs⟩ : ∃ z, z = strOf x.data := ⟨_, rfl⟩
      rw [← hxl] at x4 y4 HV1 HV2
      rw [← hxs] at HV1 HV2
      clear hc2 hw2 h62 h72 hg7 hxl hxs
      go_wp2_with (first
        | (refine conv_G (by rfl) 29 9 _ rfl _ _ _ rfl HV1.out ?_)
        | (refine conv_G (by rfl) 29 9 _ rfl _ _ _ rfl HV2.out ?_)
        | fail)
      exact ⟨⟨j + 1, by go_num, by omega, HC2⟩, by simp [intOf]; omega⟩
end Go.Proofs.Ytiakfgplhdbaeaa
