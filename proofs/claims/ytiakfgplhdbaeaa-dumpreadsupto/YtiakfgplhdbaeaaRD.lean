/-
  package dump: a reader in memory; take, number.
-/
import Derived.Test.YtiakfgplhdbaeaaCR
import Derived.Laws.BitsLemmas
namespace Go.Proofs.Ytiakfgplhdbaeaa
open Go.RowKit

/-- Bytes lie at a place. -/
def At8 (w : World) (b o : Nat) (zs : List Int) : Prop := b < w.heap.size ∧ ∀ j, j < zs.length → w.cell? ⟨b, o + j, none⟩ = some (.int .u8 (zs.getD j 0))
structure Rd (w : World) (gr b o : Nat) (zs : List Int) (cap : Nat) (s : Bool) : Prop where
  me : w.heap[gr]? = some (.cells #[.slice (some ⟨b, o, none⟩) zs.length cap, .bool s] 52 (0, 0))
  at_ : At8 w b o zs
  cp : zs.length ≤ cap
  ne : b ≠ gr
section
variable {w w' : World} {gr b o cap : Nat} {zs : List Int} {s : Bool} {ks : Nat → Prop}
theorem At8.keep (h : At8 w b o zs) (hc : Chg w w' ks) (hn : ¬ ks b) : At8 w' b o zs := ⟨Nat.lt_of_lt_of_le h.1 hc.size, fun j hj => by
  have := h.2 j hj
  unfold World.cell? at this ⊢
  rw [hc.block b h.1 hn]
  exact this⟩
theorem At8.drop (h : At8 w b o zs) (k : Nat) : At8 w b (o + k) (zs.drop k) := ⟨h.1, fun j hj => by
  have := h.2 (k + j) (by rw [List.length_drop] at hj; omega)
  rw [← Nat.add_assoc] at this
  rw [this]
  congr 2
  rw [List.getD_eq_getElem?_getD, List.getD_eq_getElem?_getD, List.getElem?_drop]⟩
theorem At8.take (h : At8 w b o zs) (k : Nat) : At8 w b o (zs.take k) := ⟨h.1, fun j hj => by
  rw [List.length_take] at hj
  rw [h.2 j (by omega)]
  congr 2
  rw [List.getD_eq_getElem?_getD, List.getD_eq_getElem?_getD, List.getElem?_take, if_pos (by omega)]⟩
theorem At8.bytes (h : At8 w b o zs) : BytesAt w (some ⟨b, o, none⟩) zs := .inr ⟨b, o, rfl, h.1, h.2⟩
theorem Rd.call (h : Rd w gr b o zs cap s) (hc : Chg w w' No) : Rd w' gr b o zs cap s := ⟨hc.keep h.me (fun e => e), h.at_.keep hc (fun e => e), h.cp, h.ne⟩
theorem Rd.c0 (h : Rd w gr b o zs cap s) : w.cell? ⟨gr, 0, none⟩ = some (.slice (some ⟨b, o, none⟩) zs.length cap) := (cell_of_row _ _ _ _ _ _ h.me).trans rfl
theorem Rd.c1 (h : Rd w gr b o zs cap s) : w.cell? ⟨gr, 1, none⟩ = some (.bool s) := (cell_of_row _ _ _ _ _ _ h.me).trans rfl
end
set_option maxHeartbeats 2000000 in
set_option maxRecDepth 100000 in
theorem take_good {gr b o cap : Nat} {zs : List Int} {s : Bool} (k : Nat) (w : World) (h : Rd w gr b o zs cap s) (hk : k ≤ zs.length) :
    Calls Try.prog 39 #[.pointer (some ⟨gr, 0, none⟩), .int .i64 (k : Int)] w fun e w' => e = .returned (.slice (some ⟨b, o, none⟩) k cap) ∧ (∃ o', Rd w' gr b o' (zs.drop k) (cap - k) s) ∧ At8 w' b o (zs.take k) ∧ Chg w w' (· = gr) := by
  have c0 := h.c0
  have HR := hid h
  have fz := frozen_of_row w gr 0 _ _ h.me
  have hcp := h.cp
  obtain ⟨n, hn⟩ : ∃ y, y = zs.length := ⟨_, rfl⟩
  rw [← hn] at hk hcp c0
  have HNn := hid hn
  have f1 : ¬ (n : Int) < (k : Int) := by omega
  have f2 : (k : Int) ≤ (cap : Int) := by omega
  have f3 : (k : Int) ≤ (n : Int) := by omega
  have HEnd : Hid (∀ o', (cap = k → o' = o) → (cap ≠ k → o' = o + k) → Rd (w.setCell ⟨gr, 0, none⟩ (.slice (some ⟨b, o', none⟩) (n - k) (cap - k))) gr b o' (zs.drop k) (cap - k) s ∧ At8 (w.setCell ⟨gr, 0, none⟩ (.slice (some ⟨b, o', none⟩) (n - k) (cap - k))) b o (zs.take k) ∧ Chg w (w.setCell ⟨gr, 0, none⟩ (.slice (some ⟨b, o', none⟩) (n - k) (cap - k))) (· = gr)) := hid (fun o' e1 e2 => by
    have hc : Chg w (w.setCell ⟨gr, 0, none⟩ (.slice (some ⟨b, o', none⟩) (n - k) (cap - k))) (· = gr) := Chg.setCell
    have hat := HR.out.at_.keep hc HR.out.ne
    refine ⟨⟨?_, ?_, by rw [List.length_drop]; have := HR.out.cp; omega, HR.out.ne⟩, hat.take k, hc⟩
    · rw [heap_setCell_same w gr 0 _ _ _ HR.out.me, List.length_drop, ← HNn.out]
      rfl
    · by_cases e : cap = k
      · have : zs.drop k = [] := List.drop_eq_nil_iff.2 (by have := HR.out.cp; omega)
        rw [this]
        exact ⟨hat.1, fun j hj => absurd hj (Nat.not_lt_zero _)⟩
      · have e3 := e2 e
        subst e3
        exact hat.drop k)
  clear h hn
  by_cases e : cap = k
  · subst e
    obtain ⟨h1, h2, h3⟩ := HEnd.out o (fun _ => rfl) (fun h => absurd rfl h)
    rw [Nat.sub_self, show n - cap = 0 by omega] at h1 h2 h3
    rw [Nat.sub_self]
    have H1 := hid h1
    have H2 := hid h2
    have H3 := hid h3
    clear h1 h2 h3
    go_enter Try.func39, Try.ntmps39
    go_wp2_with fail
    go_ret
    exact ⟨rfl, ⟨o, H1.out⟩, H2.out, H3.out⟩
  · obtain ⟨h1, h2, h3⟩ := HEnd.out (o + k) (fun h => absurd h e) (fun _ => rfl)
    have H1 := hid h1
    have H2 := hid h2
    have H3 := hid h3
    clear h1 h2 h3
    go_enter Try.func39, Try.ntmps39
    go_wp2_with fail
    go_ret
    exact ⟨rfl, ⟨o + k, H1.out⟩, H2.out, H3.out⟩
/-- The number that bytes say, the lowest first. -/
def valB : List Int → Int
  | [] => 0
  | y :: l => y + 256 * valB l
theorem val_num : ∀ (n : Nat) (x : Int), 0 ≤ x → x < 256 ^ n → valB (numB x n) = x
  | 0, x, h0, h1 => by
    have : x = 0 := by simp at h1; omega
    rw [this]
    rfl
  | n + 1, x, h0, h1 => by
    show x % 256 + 256 * valB (numB (x / 256) n) = x
    rw [val_num n (x / 256) (by omega) (by rw [Int.pow_succ] at h1; omega)]
    omega
theorem val_snoc (y : Int) : ∀ l : List Int, valB (l ++ [y]) = valB l + y * 256 ^ l.length
  | [] => by simp [valB]
  | z :: l => by
    show z + 256 * valB (l ++ [y]) = z + 256 * valB l + y * 256 ^ (l.length + 1)
    rw [val_snoc y l, Int.pow_succ, Int.mul_add]
    rw [Int.add_assoc, Int.mul_comm 256 (y * _), Int.mul_assoc]
theorem val_rng : ∀ l : List Int, (∀ y ∈ l, 0 ≤ y ∧ y ≤ 255) → 0 ≤ valB l ∧ valB l < 256 ^ l.length
  | [], _ => by simp [valB]
  | y :: l, h => by
    have h1 := val_rng l (fun z hz => h z (List.mem_cons_of_mem _ hz))
    have h2 := h y (List.mem_cons_self ..)
    show 0 ≤ y + 256 * valB l ∧ y + 256 * valB l < 256 ^ (l.length + 1)
    rw [Int.pow_succ]
    omega
end Go.Proofs.Ytiakfgplhdbaeaa
