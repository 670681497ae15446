/-
  The statements' own helpers: a sector made of bytes, two images held against each other.
-/
import Derived.Test.YtcgchdcbbiahnaaDisk2
import Derived.Lib.SmallJoins
namespace Go.Proofs.Ytcgchdcbbiahnaa
open Go.RowKit

theorem conv_same (w : World) (C : Array Value) (n c : Nat) : (convert 43 43 (.slice (some ⟨w.heap.size, 0, none⟩) n c)).run Try.prog (w.alloc (.cells C 5)) = .ok (.slice (some ⟨w.heap.size, 0, none⟩) n c) (w.alloc (.cells C 5 (C.size, C.size + 1))) :=
  Lib.run_convert_bytes_const w 43 5 C n c Try.underlying43 Try.underlying5
theorem row_bytesF {w : World} {g : Nat} {t : TypeId} {fr : Nat × Nat} {l : List Int} (h : w.heap[g]? = some (.cells (SA l) t fr)) : BytesAt w (some ⟨g, 0, none⟩) l :=
  .inr ⟨g, 0, rfl, slt h, fun j hj => by rw [Nat.zero_add, cell_of_row _ _ _ (SA l) t fr h]; exact SA_get l j hj⟩
section
variable {ops : Array Oper} {Q : Exit → Act → World → Prop} {S : World → Prop} {fuel : Nat} {listed : Array Bool} {a : Act} {w : World}
theorem stTo (i d : Nat) (v : Value) (w' : World) {o : Oper} (hop : ops[i]? = some o) (hd : o.dst = some d) (hw : Region.wanted o (yielded ops a.tmps) = true)
    (hrun : (execOp a.eval o).run Try.prog w = .ok (.value v) w')
    (h : S w' ∧ wpAnyH Try.prog .any ops Q S fuel (listed.setIfInBounds i true) { a with tmps := a.tmps.setIfInBounds d v } w') : St ops Q S fuel listed a w i := by
  refine wpOp_step hop (fun K hK => ?_)
  rw [if_pos hw]
  unfold Oper.wp
  rw [hrun]
  refine hK _ _ ⟨h.1, ?_⟩
  unfold Act.put
  rw [hd]
  exact h.2
end

/-- A sector that begins with these bytes. -/
def ofS (zs : List Int) : List Int := zs.take 128 ++ zl (128 - zs.length)
theorem ofS_len (zs : List Int) : (ofS zs).length = 128 := by simp [ofS, zl_len]; omega
theorem ofS_splice (zs : List Int) : splice (Zs.map (Value.int .u8)) 0 ((zs.take 128).map (Value.int .u8)) = (ofS zs).map (Value.int .u8) := by
  have e : Zs.drop (0 + (zs.take 128).length) = zl (128 - zs.length) := by
    unfold Zs zl
    rw [List.drop_replicate]
    congr 1
    simp
    omega
  unfold splice
  rw [List.length_map, ← List.map_drop, e, List.take_zero, List.nil_append, ← List.map_append]
  rfl

set_option maxRecDepth 100000 in
set_option maxHeartbeats 1000000 in
theorem of_any (zs : List Int) (L : Nat) (hL : Hid (zs.length = L)) (ad : Option Addr) (cap : Nat) (w : World) (HZ : Hid (BytesAt w ad zs)) :
    Calls Try.prog 22 #[.slice ad L cap] w fun e w' => e = .returned (.agg (SA (ofS zs))) ∧ Below w.heap.size w w' := by
  have hz := zero_sec
  have hb2 : Below w.heap.size w ((w.alloc (.cells (SA Zs) 41)).alloc (.cells (SA Zs) 41)) := ((Below.refl _ _).alloc (Nat.le_refl _) _).alloc (by simp) _
  have HQ0 := hid (show ((w.alloc (.cells (SA Zs) 41)).alloc (.cells (SA Zs) 41)).heap[w.heap.size]? = some (.cells (SA Zs) 41 (0, 0)) by rw [Below.heap_alloc _ _ _ (by simp)]; exact heap_alloc_new _ _)
  have HQ1 := hid (show ((w.alloc (.cells (SA Zs) 41)).alloc (.cells (SA Zs) 41)).heap[w.heap.size + 1]? = some (.cells (SA Zs) 41 (0, 0)) by
    have := heap_alloc_new (w.alloc (.cells (SA Zs) 41)) (.cells (SA Zs) 41)
    rw [show (w.alloc (.cells (SA Zs) 41)).heap.size = w.heap.size + 1 by simp] at this
    exact this)
  have HCN : Hid (((zs.take 128).map (Value.int .u8)).length = Nat.min L 128) := by show _ = _; rw [List.length_map, List.length_take, hL.out, Nat.min_comm]
  have HP : Hid (0 < ((zs.take 128).map (Value.int .u8)).length → some (⟨w.heap.size + 1, 0, none⟩ : Addr) = some ⟨w.heap.size + 1, 0, none⟩ ∧ ∃ a, ad = some a ∧ ∀ j v, ((zs.take 128).map (Value.int .u8))[j]? = some v → ((w.alloc (.cells (SA Zs) 41)).alloc (.cells (SA Zs) 41)).cell? (a.add j) = some v) := by
    intro h0
    refine ⟨rfl, ?_⟩
    have hb := bytes_take (bytes_below HZ.out hb2) 128
    rcases hb with h1 | ⟨b, o, rfl, _, _⟩
    · rw [h1] at h0; simp at h0
    · exact ⟨_, rfl, src_of (by
        rcases HZ.out with h2 | h2
        · rw [h2] at h0; simp at h0
        · exact bytes_take (bytes_below (.inr h2) hb2) 128)⟩
  have HFit : Hid (0 + ((zs.take 128).map (Value.int .u8)).length ≤ (Zs.map (Value.int .u8)).length) := by show _ ≤ _; rw [List.length_map, List.length_map, Zs_len, List.length_take]; omega
  have HS := hid (ofS_splice zs)
  have hlen := ofS_len zs
  go_enter Try.func22, Try.ntmps22
  go_wp2_with (first | (refine wpList_copy_splice rfl _ _ 43 43 rfl 5 Try.underlying43 sz5 (some ⟨w.heap.size + 1, 0, none⟩) ad 128 128 L cap rfl rfl (w.heap.size + 1) 0 (Zs.map (Value.int .u8)) 41 HQ1.out ((zs.take 128).map (Value.int .u8)) HCN.out HP.out HFit.out (one_cells _) (w.heap.size + 1) _ (Below.refl _ _) (Nat.le_refl _) ?_; intro w2 hw2 hbw) | (refine load_sec rfl _ rfl (w.heap.size + 1) rfl (ofS zs) hlen (by have := hw2.out; rw [HS.out] at this; exact this) ?_) | (refine store_sec rfl _ _ rfl w.heap.size rfl (ofS zs) rfl hlen Zs Zs_len (by rw [hbw.block w.heap.size (by omega)]; exact HQ0.out) ?_; intro w3 hw3))
  have hb3 : Below w.heap.size w w2 := hb2.trans (hbw.mono (by omega))
  exact bodyPost_ret (v := .agg (SA (ofS zs))) (results_sec1 Try.results22 _ _ w.heap.size (ofS zs) hlen rfl hw3.here) rfl ⟨rfl, hw3.below hb3 (Nat.le_refl _)⟩

end Go.Proofs.Ytcgchdcbbiahnaa
