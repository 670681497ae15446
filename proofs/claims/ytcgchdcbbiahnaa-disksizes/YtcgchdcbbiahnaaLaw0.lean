/-
  The statements' own helpers: a sector made of bytes, two images held against each other.
-/
import Derived.Test.YtcgchdcbbiahnaaDisk2
namespace Go.Proofs.Ytcgchdcbbiahnaa
open Go.RowKit

/-- A sector that begins with these bytes. -/
def ofS (zs : List Int) : List Int := zs.take 128 ++ zl (128 - zs.length)
theorem ofS_len (zs : List Int) : (ofS zs).length = 128 := by simp [ofS, zl_len]; omega
theorem ofS_splice (zs : List Int) : splice (Zs.map (Value.int .u8)) 0 ((zs.take 128).map (Value.int .u8)) = (ofS zs).map (Value.int .u8) := by
  have e : Zs.drop (0 + (zs.take 128).length) = zl (128 - zs.length) := by
    unfold Zs zl
    rw [List.drop_replicate]
    congr 1
    simp
    omega
  unfold splice
  rw [List.length_map, ← List.map_drop, e, List.take_zero, List.nil_append, ← List.map_append]
  rfl

set_option maxRecDepth 100000 in
set_option maxHeartbeats 1000000 in
theorem of_any (zs : List Int) (L : Nat) (hL : Hid (zs.length = L)) (ad : Option Addr) (cap : Nat) (w : World) (HZ : Hid (BytesAt w ad zs)) :
    Calls Try.prog 22 #[.slice ad L cap] w fun e w' => e = .returned (.agg (SA (ofS zs))) ∧ Below w.heap.size w w' := by
  have hz := zero_sec
  have hb2 : Below w.heap.size w ((w.alloc (.cells (SA Zs) 41)).alloc (.cells (SA Zs) 41)) := ((Below.refl _ _).alloc (Nat.le_refl _) _).alloc (by simp) _
  have HQ0 := hid (show ((w.alloc (.cells (SA Zs) 41)).alloc (.cells (SA Zs) 41)).heap[w.heap.size]? = some (.cells (SA Zs) 41 (0, 0)) by rw [Below.heap_alloc _ _ _ (by simp)]; exact heap_alloc_new _ _)
  have HQ1 := hid (show ((w.alloc (.cells (SA Zs) 41)).alloc (.cells (SA Zs) 41)).heap[w.heap.size + 1]? = some (.cells (SA Zs) 41 (0, 0)) by
    have := heap_alloc_new (w.alloc (.cells (SA Zs) 41)) (.cells (SA Zs) 41)
    rw [show (w.alloc (.cells (SA Zs) 41)).heap.size = w.heap.size + 1 by simp] at this
    exact this)
  have HCN : Hid (((zs.take 128).map (Value.int .u8)).length = Nat.min L 128) := by show _ = _; rw [List.length_map, List.length_take, hL.out, Nat.min_comm]
  have HP : Hid (0 < ((zs.take 128).map (Value.int .u8)).length → some (⟨w.heap.size + 1, 0, none⟩ : Addr) = some ⟨w.heap.size + 1, 0, none⟩ ∧ ∃ a, ad = some a ∧ ∀ j v, ((zs.take 128).map (Value.int .u8))[j]? = some v → ((w.alloc (.cells (SA Zs) 41)).alloc (.cells (SA Zs) 41)).cell? (a.add j) = some v) := by
    intro h0
    refine ⟨rfl, ?_⟩
    have hb := bytes_take (bytes_below HZ.out hb2) 128
    rcases hb with h1 | ⟨b, o, rfl, _, _⟩
    · rw [h1] at h0; simp at h0
    · exact ⟨_, rfl, src_of (by
        rcases HZ.out with h2 | h2
        · rw [h2] at h0; simp at h0
        · exact bytes_take (bytes_below (.inr h2) hb2) 128)⟩
  have HFit : Hid (0 + ((zs.take 128).map (Value.int .u8)).length ≤ (Zs.map (Value.int .u8)).length) := by show _ ≤ _; rw [List.length_map, List.length_map, Zs_len, List.length_take]; omega
  have HS := hid (ofS_splice zs)
  have hlen := ofS_len zs
  go_enter Try.func22, Try.ntmps22
  go_wp2_with (first | (refine wpList_copy_splice rfl _ _ 43 43 rfl 5 Try.underlying43 sz5 (some ⟨w.heap.size + 1, 0, none⟩) ad 128 128 L cap rfl rfl (w.heap.size + 1) 0 (Zs.map (Value.int .u8)) 41 HQ1.out ((zs.take 128).map (Value.int .u8)) HCN.out HP.out HFit.out (one_cells _) (w.heap.size + 1) _ (Below.refl _ _) (Nat.le_refl _) ?_; intro w2 hw2 hbw) | (refine load_sec rfl _ rfl (w.heap.size + 1) rfl (ofS zs) hlen (by have := hw2.out; rw [HS.out] at this; exact this) ?_) | (refine store_sec rfl _ _ rfl w.heap.size rfl (ofS zs) rfl hlen Zs Zs_len (by rw [hbw.block w.heap.size (by omega)]; exact HQ0.out) ?_; intro w3 hw3))
  have hb3 : Below w.heap.size w w2 := hb2.trans (hbw.mono (by omega))
  exact bodyPost_ret (v := .agg (SA (ofS zs))) (results_sec1 Try.results22 _ _ w.heap.size (ofS zs) hlen rfl hw3.here) rfl ⟨rfl, hw3.below hb3 (Nat.le_refl _)⟩

end Go.Proofs.Ytcgchdcbbiahnaa
