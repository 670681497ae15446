/-
  sector.Cut returns the bytes as sectors, the last one filled up with zeros, in new memory, for every list of bytes.
-/
import Derived.Test.YtibneoajkbblaaaWJoin
import Derived.Laws.CopyOwn
import Derived.Deep.RegionLaw
namespace Go.Proofs.Ytibneoajkbblaaa
open Go.RowKit

/-- A list of bytes that lies in memory, in blocks that are there. -/
def BytesAt (w : World) (a : Option Addr) (zs : List Int) : Prop :=
  zs = [] ∨ ∃ b o, a = some ⟨b, o, none⟩ ∧ b < w.heap.size ∧ ∀ j, j < zs.length → w.cell? ⟨b, o + j, none⟩ = some (.int .u8 (zs.getD j 0))

def cutK (zs : List Int) (M j : Nat) : List Int := zs.take j ++ zl (M - min j zs.length)
def cutM (n : Nat) : Nat := (n + 127) / 128
theorem cutK_zero (zs : List Int) (M : Nat) : cutK zs M 0 = zl M := by simp [cutK]
theorem cutK_len (zs : List Int) (M j : Nat) (h : zs.length ≤ M) : (cutK zs M j).length = M := by
  simp [cutK, zl_len]; omega
theorem cutK_step (zs : List Int) (M k : Nat) (h : zs.length ≤ M) (hk : k * 128 < zs.length) (hM : k * 128 + 128 ≤ M) :
    splice ((cutK zs M (k * 128)).map (Value.int .u8)) (k * 128) (((zs.drop (k * 128)).take 128).map (Value.int .u8)) = (cutK zs M ((k + 1) * 128)).map (Value.int .u8) := by
  have e1 : (cutK zs M (k * 128)).take (k * 128) = zs.take (k * 128) := by
    unfold cutK
    rw [List.take_append_of_le_length (by simp; omega), List.take_take, Nat.min_self]
  have e2 : (cutK zs M (k * 128)).drop (k * 128 + ((zs.drop (k * 128)).take 128).length) = zl (M - min ((k + 1) * 128) zs.length) := by
    unfold cutK
    rw [List.drop_append, List.drop_eq_nil_of_le (by simp; omega), List.nil_append, zl, List.drop_replicate, zl]
    congr 1
    simp
    omega
  unfold splice
  rw [← List.map_take, e1, List.length_map, ← List.map_drop, e2, ← List.map_append, ← List.map_append]
  congr 1
  unfold cutK
  rw [← List.append_assoc, show (k + 1) * 128 = k * 128 + 128 by omega, List.take_add]

theorem one_cells (l : List Int) : ∀ v ∈ l.map (Value.int .u8), v.oneCell' = true := by
  intro v hv
  rw [List.mem_map] at hv
  obtain ⟨x, _, rfl⟩ := hv
  rfl
theorem sz5 : (Try.prog.info? 5).map (·.size) = some 1 := by kernel_rfl
theorem addr_add (b o j : Nat) : (⟨b, o, none⟩ : Addr).add j = ⟨b, o + j, none⟩ := by unfold Addr.add; split <;> simp_all

theorem cut_src {zs : List Int} {w wr : World} {b o k : Nat} (_hk : k * 128 < zs.length) (hb : b < w.heap.size) (h4 : Below w.heap.size w wr)
    (hc : ∀ j, j < zs.length → w.cell? ⟨b, o + j, none⟩ = some (.int .u8 (zs.getD j 0))) :
    ∀ j v, (((zs.drop (k * 128)).take 128).map (Value.int .u8))[j]? = some v → wr.drew.cell? ((⟨b, o + k * 128, none⟩ : Addr).add j) = some v := by
  intro j v hj
  rw [addr_add]
  show wr.cell? _ = _
  rw [h4.cell (p := ⟨b, o + k * 128 + j, none⟩) hb, Nat.add_assoc]
  simp only [List.getElem?_map, List.getElem?_take, List.getElem?_drop] at hj
  split at hj
  · cases hq : zs[k * 128 + j]? with
    | none => rw [hq] at hj; cases hj
    | some x =>
      rw [hq] at hj
      have hlt : k * 128 + j < zs.length := by
        rcases Nat.lt_or_ge (k * 128 + j) zs.length with h | h
        · exact h
        · rw [List.getElem?_eq_none h] at hq; cases hq
      rw [hc _ hlt, List.getD_eq_getElem?_getD, hq]
      simpa using hj
  · cases hj

set_option maxRecDepth 100000 in
set_option maxHeartbeats 400000 in
theorem cut_any (zs : List Int) (a : Option Addr) (cap : Nat) (w : World) (hl : zs.length ≤ cap) (hm : cap ≤ 140737488355328) (hr : BytesAt w a zs) :
    Calls Try.prog 12 #[.slice a zs.length cap] w fun e w' => e = .returned (.slice (some ⟨w.heap.size, 0, none⟩) (cutM zs.length) (cutM zs.length)) ∧ w'.heap[w.heap.size]? = some (.cells (SA (cutK zs (128 * cutM zs.length) (128 * cutM zs.length))) 26 (0, 0)) ∧ Below w.heap.size w w' := by
  generalize hL : zs.length = L at *
  have hmk := make_secs (((L : Int) + 128 - 1) / 128) (by omega) (by omega)
  rw [show (((L : Int) + 128 - 1) / 128).toNat = cutM L from by unfold cutM; omega] at hmk
  have hM1 : L ≤ 128 * cutM L := by unfold cutM; omega
  have hM2 : 128 * cutM L < L + 128 := by unfold cutM; omega
  have HL : Hid (zs.length = L) := hL
  clear hL
  go_enter Try.func12, Try.ntmps12
  go_wp2
  go_loopw [13] (fun i wr => ∃ k : Nat, k ≤ cutM L ∧ i = .int .i64 k ∧ wr.heap[w.heap.size]? = some (.cells (SA (cutK zs (128 * cutM L) (k * 128))) 26 (0, 0)) ∧ Below w.heap.size w wr) (fun i _ => cutM L - (intOf i).toNat)
  case atStart => exact ⟨0, by omega, rfl, by rw [Nat.zero_mul, cutK_zero]; exact heap_alloc_new _ _, (Below.refl _ _).alloc (Nat.le_refl _) _⟩
  case round =>
    obtain ⟨k, hk, rfl, h2, h4⟩ := hrel
    by_cases hlt : k < cutM L
    · have hl' := HL.out
      rcases hr with he | ⟨b, o, rfl, hb, hcell⟩
      · rw [he] at hl'; simp at hl'; unfold cutM at hlt; omega
      · have hkL : k * 128 < L := by omega
        have H2 : Hid (wr.heap[w.heap.size]? = some (.cells (SA (cutK zs (128 * cutM L) (k * 128))) 26 (0, 0))) := h2
        have HC : Hid (∀ j, j < zs.length → w.cell? ⟨b, o + j, none⟩ = some (.int .u8 (zs.getD j 0))) := hcell
        clear h2 hcell hl'
        have hsrc : ∀ j v, (((zs.drop (k * 128)).take 128).map (Value.int .u8))[j]? = some v → wr.drew.cell? ((⟨b, o + k * 128, none⟩ : Addr).add j) = some v := cut_src (by rw [HL.out]; exact hkL) hb h4 HC.out
        have hcn : (((zs.drop (k * 128)).take 128).map (Value.int .u8)).length = Nat.min (L - k * 128) 128 := by
          have := HL.out
          simp [this, Nat.min_comm]
        have hcf : k * 128 + (((zs.drop (k * 128)).take 128).map (Value.int .u8)).length ≤ ((cutK zs (128 * cutM L) (k * 128)).map (Value.int .u8)).length := by
          have := HL.out
          rw [List.length_map, List.length_map, cutK_len _ _ _ (by omega)]
          simp
          omega
        have HS : Hid (splice ((cutK zs (128 * cutM L) (k * 128)).map (Value.int .u8)) (k * 128) (((zs.drop (k * 128)).take 128).map (Value.int .u8)) = (cutK zs (128 * cutM L) ((k + 1) * 128)).map (Value.int .u8)) := cutK_step zs _ k (by rw [HL.out]; omega) (by rw [HL.out]; omega) (by omega)
        have HSRC := hid hsrc
        have HCN := hid hcn
        have HCF := hid hcf
        clear hsrc hcn hcf
        have hwr : IntKind.i64.wrap ((k : Int) * 128) = (k : Int) * 128 := by rw [IntKind.wrap_i64]; omega
        have ht : ((k : Int) * 128).toNat = k * 128 := by omega
        have hi0 : (0 : Int) ≤ (k : Int) * 128 := by omega
        have hi1 : (k : Int) * 128 ≤ (L : Int) := by omega
        have hcp : ¬ cap = k * 128 := by omega
        go_wp2
        go_region_law (refine step_copy_splice rfl (.tmp 19) (.tmp 23) 27 27 rfl 5 Try.underlying27 sz5 (some ⟨w.heap.size, k * 128, none⟩) (some ⟨b, o + k * 128, none⟩) 128 128 (L - k * 128) (cap - k * 128) ?_ ?_ w.heap.size (k * 128) ((cutK zs (128 * cutM L) (k * 128)).map (Value.int .u8)) 26 H2.out (((zs.drop (k * 128)).take 128).map (Value.int .u8)) HCN.out (fun _ => ⟨rfl, _, rfl, HSRC.out⟩) HCF.out (one_cells _) w.heap.size w h4.drew (Nat.le_refl _) ?_; go_simp; go_simp; intro w4 hg4 hb4)
        go_wp2
        have hg5 := hg4.out
        rw [HS.out] at hg5
        exact ⟨⟨k + 1, by omega, by go_num, hg5, hb4⟩, by simp [intOf]; omega⟩
    · have e : k = cutM L := by omega
      have E : Hid (k * 128 = 128 * cutM L) := by show _ = _; omega
      have H2 : Hid (wr.heap[w.heap.size]? = some (.cells (SA (cutK zs (128 * cutM L) (k * 128))) 26 (0, 0))) := h2
      clear e h2
      go_wp2
      go_ret
      exact ⟨rfl, by have h5 := H2.out; rw [E.out] at h5; exact h5, h4⟩

end Go.Proofs.Ytibneoajkbblaaa
