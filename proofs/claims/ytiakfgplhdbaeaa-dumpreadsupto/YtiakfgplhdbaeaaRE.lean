/-
  package dump: a piece with its length ahead of it; a copy of bytes.
-/
import Derived.Test.YtiakfgplhdbaeaaRN
import Derived.Test.YtiakfgplhdbaeaaAP
namespace Go.Proofs.Ytiakfgplhdbaeaa
open Go.RowKit

theorem num_rng : ∀ (n : Nat) (x : Int), ∀ y ∈ numB x n, 0 ≤ y ∧ y ≤ 255
  | 0, _, y, h => by cases h
  | n + 1, x, y, h => by
    rcases List.mem_cons.1 h with rfl | h
    · omega
    · exact num_rng n (x / 256) y h
theorem number_num {gr b o cap n : Nat} {rest : List Int} {s : Bool} (x : Int) (w : World) (h : Rd w gr b o (numB x n ++ rest) cap s) (hn : n ≤ 8) (hx0 : 0 ≤ x) (hx1 : x < 256 ^ n) (hx2 : x < 4611686018427387904) :
    Calls Try.prog 29 #[.pointer (some ⟨gr, 0, none⟩), .int .i64 (n : Int)] w fun e w' => e = .returned (.int .i64 x) ∧ (∃ o' cap', Rd w' gr b o' rest cap' s) ∧ Chg w w' (· = gr) := by
  have hv := val_num n x hx0 hx1
  have := number_good w h (by rw [numB_len]; exact hn) (num_rng n x) (by rw [hv]; exact hx2)
  rw [numB_len, hv] at this
  exact this
set_option maxHeartbeats 1000000 in
set_option maxRecDepth 100000 in
theorem list_good {gr b o cap : Nat} {ds rest : List Int} {s : Bool} (w : World) (h : Rd w gr b o (numB (ds.length : Nat) 4 ++ (ds ++ rest)) cap s) (hd : ds.length ≤ 4000000) :
    Calls Try.prog 30 #[.pointer (some ⟨gr, 0, none⟩)] w fun e w' => (∃ o' cap', e = .returned (.slice (some ⟨b, o', none⟩) ds.length cap') ∧ At8 w' b o' ds) ∧ (∃ o' cap', Rd w' gr b o' rest cap' s) ∧ Chg w w' (· = gr) := by
  have hN := number_num (ds.length : Nat) w h (by decide) (by omega) (by have : (256 : Int) ^ 4 = 4294967296 := by decide
                                                                         omega) (by omega)
  have HT : Hid (∀ W o' cap', Rd W gr b o' (ds ++ rest) cap' s → Calls Try.prog 39 #[.pointer (some ⟨gr, 0, none⟩), .int .i64 (ds.length : Int)] W fun e w' => e = .returned (.slice (some ⟨b, o', none⟩) ds.length cap') ∧ (∃ o', Rd w' gr b o' rest (cap' - ds.length) s) ∧ At8 w' b o' ds ∧ Chg W w' (· = gr)) := hid (fun W o' cap' hW => by
    have := take_good ds.length W hW (by simp)
    rw [List.drop_left, List.take_left] at this
    exact this)
  obtain ⟨n, hn⟩ : ∃ y, y = ds.length := ⟨_, rfl⟩
  rw [← hn] at hN HT ⊢
  clear h hd hn
  go_enter Try.func30, Try.ntmps30
  go_wp2_with (first
    | (go_at_call 29; go_must (refine hN.mono ?_; rintro e w1 ⟨rfl, ⟨o1, cap1, hr1⟩, hc1⟩; have HC1 := hid hc1; have hT := HT.out w1 o1 cap1 hr1; clear hr1 hc1))
    | (go_at_call 39; go_must (refine hT.mono ?_; rintro e w2 ⟨rfl, ⟨o2, hr2⟩, ha2, hc2⟩; have HR2 := hid hr2; have HA2 := hid ha2; have HC2 := hid (HC1.out.trans hc2 (fun _ _ e => e) (fun _ _ e => e)); clear hr2 ha2 hc2))
    | fail)
  go_ret
  exact ⟨⟨o1, cap1, rfl, HA2.out⟩, ⟨o2, _, HR2.out⟩, HC2.out⟩
set_option maxHeartbeats 1000000 in
set_option maxRecDepth 100000 in
theorem clone_good {b o cap : Nat} {ds : List Int} (w : World) (h : At8 w b o ds) (hd : ds.length ≤ 4000000) :
    Calls Try.prog 31 #[.slice (some ⟨b, o, none⟩) ds.length cap] w fun e w' => (∃ v, e = .returned v ∧ BOw w' w.heap.size v ds) ∧ Chg w w' No := by
  have HA := hid h.bytes
  have HL := hid hd
  have heq : ∀ (W : World) (n : Nat), (binOp .eql 29 (.slice (some ⟨b, o, none⟩) n cap) (.slice none 0 0)).run Try.prog W = .ok (.bool false) W := fun W n => by kernel_rfl
  have hbs : (Instr.buildSlice 29 0 #[]).run Try.prog w = .ok (.slice (some ⟨w.heap.size, 0, none⟩) 0 0) (w.alloc (.cells #[] 5)) := by kernel_rfl
  obtain ⟨n, hn⟩ : ∃ y, y = ds.length := ⟨_, rfl⟩
  have HN := hid hn
  rw [← hn]
  have HB : Hid (BOw (w.alloc (.cells #[] 5)) w.heap.size (.slice (some ⟨w.heap.size, 0, none⟩) 0 0) []) := hid ⟨rfl, .inr ⟨w.heap.size, 0, #[], rfl, Nat.le_refl _, heap_alloc_new _ _, Nat.le_refl _, Nat.zero_le _, rfl, rfl⟩⟩
  clear h hd hn
  go_enter Try.func31, Try.ntmps31
  rw [HN.out]
  go_wp2_with (first
    | (refine wp_appB rfl _ _ rfl w.heap.size (.slice (some ⟨w.heap.size, 0, none⟩) 0 0) [] ds (some ⟨b, o, none⟩) cap rfl rfl HB.out (HA.out.call (Chg.alloc _ _ No)) (by have := HL.out; simp; omega) (by simp) ?_; intro v' w' h1 h2; have H1 := hid h1; have H2 := hid h2; clear h1 h2)
    | fail)
  go_ret
  exact ⟨⟨_, rfl, H1.out⟩, (Chg.alloc w (.cells #[] 5) No).trans H2.out (fun _ _ e => e) (fun k hk e => by have := (HB.out.blk e).1; omega)⟩
end Go.Proofs.Ytiakfgplhdbaeaa
