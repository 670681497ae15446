/-
  Three disks and the document's are laid onto the desk; what Image told is as it was.
-/
import Derived.Test.YtcgchdcbbiahnaaStep3
namespace Go.Proofs.Ytcgchdcbbiahnaa
open Go.RowKit

def pb (m i : Nat) (P : Nat → Nat) : Value := if i < m then ptr (P i) else .pointer none
def deskB (m : Nat) (P R : Nat → Nat) : Array Value := #[pb m 0 P, pb m 1 P, pb m 2 P, pb m 0 R, pb m 1 R, pb m 2 R, .slice none 0 0, .slice none 0 0]
theorem deskB_zero (P R : Nat → Nat) : deskB 0 P R = #[.pointer none, .pointer none, .pointer none, .pointer none, .pointer none, .pointer none, .slice none 0 0, .slice none 0 0] := rfl
theorem deskB_set (P R : Nat → Nat) (m : Nat) (hm : m < 3) (p r : Nat) : ((deskB m P R).setIfInBounds m (.pointer (some ⟨p, 0, none⟩))).setIfInBounds (3 + m) (.pointer (some ⟨r, 0, none⟩)) = deskB (m + 1) (upd P m p) (upd R m r) := by
  match m, hm with
  | 0, _ => rfl
  | 1, _ => rfl
  | 2, _ => rfl
theorem deskB_cP (P R : Nat → Nat) (m : Nat) (hm : m < 3) : (deskB m P R)[m]? = some (.pointer none) := by
  match m, hm with
  | 0, _ => rfl
  | 1, _ => rfl
  | 2, _ => rfl
theorem deskB_cR (P R : Nat → Nat) (m : Nat) (hm : m < 3) (p : Nat) : ((deskB m P R).setIfInBounds m (.pointer (some ⟨p, 0, none⟩)))[3 + m]? = some (.pointer none) := by
  match m, hm with
  | 0, _ => rfl
  | 1, _ => rfl
  | 2, _ => rfl

/-- The desk with the disks of m places. -/
structure BInv (w0 w : World) (x n m : Nat) (P G R K C : Nat → Nat) (X : Nat → Array Value) : Prop where
  desk : w.heap[x]? = some (.cells (deskB m P R) 50 (0, 0))
  isd : ∀ k, k < m → IsD w (P k) (G k) n (D0 (zl (128 * n)))
  isq : ∀ k, k < m → IsQ w (R k) (K k) n (C k) (X k) (D0 (zl (128 * n)))
  pp : ∀ i k, i < m → k < m → i ≠ k → P i ≠ P k
  rr : ∀ i k, i < m → k < m → i ≠ k → R i ≠ R k
  gg : ∀ i k, i < m → k < m → i ≠ k → G i ≠ G k
  kk : ∀ i k, i < m → k < m → i ≠ k → K i ≠ K k
  gk : ∀ i k, i < m → k < m → G i ≠ K k
  old : Below w0.heap.size w0 w
  bx : w0.heap.size ≤ x
  bp : ∀ k, k < m → (w0.heap.size ≤ P k ∧ w0.heap.size ≤ G k) ∧ w0.heap.size ≤ R k ∧ w0.heap.size ≤ K k
theorem BInv.call {w0 w w' : World} {x n m : Nat} {P G R K C : Nat → Nat} {X : Nat → Array Value} (h : BInv w0 w x n m P G R K C X) (hb : Below w.heap.size w w') : BInv w0 w' x n m P G R K C X :=
  ⟨by rw [hb.block x (slt h.desk)]; exact h.desk, fun k hk => (h.isd k hk).call hb, fun k hk => (h.isq k hk).call hb, h.pp, h.rr, h.gg, h.kk, h.gk, h.old.trans (hb.mono h.old.size), h.bx, h.bp⟩

theorem BInv.next {w0 w w' : World} {x n m : Nat} {P G R K C : Nat → Nat} {X : Nat → Array Value} (h : BInv w0 w x n m P G R K C X) (hm3 : m < 3) (hm : Mod w w' [x]) {p g r k c : Nat} {Y : Array Value}
    (hx : w'.heap[x]? = some (.cells (deskB (m + 1) (upd P m p) (upd R m r)) 50 (0, 0)))
    (hd : IsD w' p g n (D0 (zl (128 * n)))) (hq : IsQ w' r k n c Y (D0 (zl (128 * n)))) (hp : w.heap.size ≤ p) (hg : w.heap.size ≤ g) (hr : w.heap.size ≤ r) (hk : w.heap.size ≤ k) (hgk : g ≠ k) :
    BInv w0 w' x n (m + 1) (upd P m p) (upd G m g) (upd R m r) (upd K m k) (upd C m c) (upd X m Y) := by
  have lP : ∀ i, i < m → P i < w.heap.size := fun i hi => slt (h.isd i hi).me
  have lG : ∀ i, i < m → G i < w.heap.size := fun i hi => slt (h.isd i hi).row
  have lR : ∀ i, i < m → R i < w.heap.size := fun i hi => slt (h.isq i hi).me
  have lK : ∀ i, i < m → K i < w.heap.size := fun i hi => slt (h.isq i hi).row
  have dist : ∀ (f : Nat → Nat) (v : Nat), (∀ i, i < m → f i < w.heap.size) → w.heap.size ≤ v → (∀ i k, i < m → k < m → i ≠ k → f i ≠ f k) → ∀ i k, i < m + 1 → k < m + 1 → i ≠ k → upd f m v i ≠ upd f m v k := by
    intro f v hf hv hff i k hi hk hne
    by_cases c1 : i = m
    · subst c1
      rw [upd_same, upd_ne _ _ (fun e => hne e.symm)]
      have := hf k (by omega)
      omega
    · rw [upd_ne _ _ c1]
      by_cases c2 : k = m
      · subst c2
        rw [upd_same]
        have := hf i (by omega)
        omega
      · rw [upd_ne _ _ c2]
        exact hff i k (by omega) (by omega) hne
  refine ⟨hx, fun i hi => ?_, fun i hi => ?_, dist P p lP hp h.pp, dist R r lR hr h.rr, dist G g lG hg h.gg, dist K k lK hk h.kk, fun i l hi hl => ?_, ?_, h.bx, fun i hi => ?_⟩
  · by_cases c : i = m
    · subst c
      rw [upd_same, upd_same]
      exact hd
    · have hi' : i < m := by omega
      rw [upd_ne _ _ c, upd_ne _ _ c]
      exact (h.isd i hi').keep hm (by simpa using (tne h.desk (h.isd i hi').me (by decide)).symm) (by simpa using (tne h.desk (h.isd i hi').row (by decide)).symm)
  · by_cases c' : i = m
    · subst c'
      rw [upd_same, upd_same, upd_same, upd_same]
      exact hq
    · have hi' : i < m := by omega
      rw [upd_ne _ _ c', upd_ne _ _ c', upd_ne _ _ c', upd_ne _ _ c']
      exact (h.isq i hi').keep hm (by simpa using (tne h.desk (h.isq i hi').me (by decide)).symm) (by simpa using (tne h.desk (h.isq i hi').row (by decide)).symm)
  · by_cases c1 : i = m
    · subst c1
      rw [upd_same]
      by_cases c2 : l = i
      · subst c2
        rw [upd_same]
        exact hgk
      · rw [upd_ne _ _ c2]
        have := lK l (by omega)
        omega
    · rw [upd_ne _ _ c1]
      by_cases c2 : l = m
      · subst c2
        rw [upd_same]
        have := lG i (by omega)
        omega
      · rw [upd_ne _ _ c2]
        exact h.gk i l (by omega) (by omega)
  · exact hm.to h.old h.old.size (by simpa using h.bx)
  · have := h.old.size
    by_cases c : i = m
    · subst c
      rw [upd_same, upd_same, upd_same, upd_same]
      omega
    · rw [upd_ne _ _ c, upd_ne _ _ c, upd_ne _ _ c, upd_ne _ _ c]
      exact h.bp i (by omega)

theorem row_nil (w : World) (base : Nat) (e : TypeId) : w.ownsRow base e 1 (.slice none 0 0) 0 [] := ⟨rfl, .inl ⟨rfl, rfl⟩⟩
theorem BInv.done {w0 w : World} {x n : Nat} {P G R K C : Nat → Nat} {X : Nat → Array Value} (h : BInv w0 w x n 3 P G R K C X) : DInv w0 w x ⟨P, G, fun _ => n, R, K, C, X, fun _ => D0 (zl (128 * n)), .slice none 0 0, .slice none 0 0, []⟩ 0 :=
  ⟨h.desk, h.isd, h.isq, h.pp, h.rr, h.gg, h.kk, h.gk, fun e he => (List.not_mem_nil he).elim, fun e he => (List.not_mem_nil he).elim, row_nil _ _ _, row_nil _ _ _, (fun b hb => by cases hb), Nat.zero_le _,
    fun k _ => ⟨Int.le_refl _, Int.le_refl _, Int.le_refl _, by show (0 : Int) ≤ _; omega⟩, h.old, h.bx, h.bp⟩

set_option maxRecDepth 100000 in
set_option maxHeartbeats 2000000 in
theorem begins_any {w0 : World} {x n : Nat} (w : World) (hx : w.heap[x]? = some (.cells (deskB 0 (fun _ => 0) (fun _ => 0)) 50 (0, 0))) (hb : Below w0.heap.size w0 w) (hbx : w0.heap.size ≤ x) (h0 : 1 ≤ n) (h1 : n ≤ 4096) :
    Calls Try.prog 23 #[.pointer (some ⟨x, 0, none⟩), .int .i64 n] w fun e w' => e = .returned (.bool true) ∧ ∃ s, DInv w0 w' x s 0 := by
  have HNo := hid fun w => new_ok n w h0 h1
  have HRo := hid fun w => rnew_ok n w h0 h1
  have HB0 : Hid (BInv w0 w x n 0 (fun _ => 0) (fun _ => 0) (fun _ => 0) (fun _ => 0) (fun _ => 0) (fun _ => #[])) := ⟨hx, fun k hk => absurd hk (Nat.not_lt_zero k), fun k hk => absurd hk (Nat.not_lt_zero k), fun i k hi => absurd hi (Nat.not_lt_zero i), fun i k hi => absurd hi (Nat.not_lt_zero i), fun i k hi => absurd hi (Nat.not_lt_zero i), fun i k hi => absurd hi (Nat.not_lt_zero i), fun i k hi => absurd hi (Nat.not_lt_zero i), hb, hbx, fun k hk => absurd hk (Nat.not_lt_zero k)⟩
  clear hx hb hbx
  go_enter Try.func23, Try.ntmps23
  go_wp2_with fail
  go_loopw [5] (fun i wr => ∃ (m : Nat) (P G R K C : Nat → Nat) (X : Nat → Array Value), m ≤ 3 ∧ i = .int .i64 m ∧ Hid (BInv w0 wr x n m P G R K C X)) (fun i _ => 3 - (intOf i).toNat)
  case atStart => exact ⟨0, _, _, _, _, _, _, by omega, rfl, HB0⟩
  case round =>
    clear HB0
    obtain ⟨m, P, G, R, K, C, X, hm, rfl, HB⟩ := hrel
    by_cases hlt : m < 3
    · have hml : (m : Int) < 3 := by omega
      go_wp2_with (first | (go_at_call 11; refine (HRo.out _).mono ?_; rintro e wB ⟨r, kk, rfl, hr, hkk, hqB, hbB⟩; have HBB := hid (HBA.out.call hbB); have HDB := hid (HDA.out.call hbB); obtain ⟨k2, cc, XX, hv, hQ⟩ := IsQ.of_isR hqB; cases hv; have HQB := hid hQ; have HMB := hid ((Mod.of_below HbA.out).trans (Mod.of_below hbB)); have HRB := hid (Nat.le_trans HbA.out.size hr); have HKB := hid (Nat.le_trans HbA.out.size hkk); have HGK : Hid (g ≠ kk) := Nat.ne_of_lt (Nat.lt_of_lt_of_le (slt HDA.out.row) hkk); have cPt : wB.cell? ⟨x, m, none⟩ = some (.pointer none) := (cell_of_row _ _ m _ _ _ HBB.out.desk).trans (deskB_cP P R m hlt); have fPt := frozen_of_row wB x m _ _ HBB.out.desk; have hx1 := heap_setCell_same wB x m _ 50 (.pointer (some ⟨p, 0, none⟩)) HBB.out.desk; have cRt : (wB.setCell ⟨x, m, none⟩ (.pointer (some ⟨p, 0, none⟩))).cell? ⟨x, 3 + m, none⟩ = some (.pointer none) := (cell_of_row _ _ (3 + m) _ _ _ hx1).trans (deskB_cR P R m hlt p); have fRt := frozen_of_row (wB.setCell ⟨x, m, none⟩ (.pointer (some ⟨p, 0, none⟩))) x (3 + m) _ _ hx1; have HX2 := hid (heap_setCell_same _ x (3 + m) _ 50 (.pointer (some ⟨r, 0, none⟩)) hx1); clear hqB hbB hr hkk hQ hx1) | (go_at_call 10; refine (HNo.out _).mono ?_; rintro e wA ⟨p, g, rfl, hp, hg, hdA, hbA⟩; have HBA := hid (HB.out.call hbA); have HDA := hid hdA; have HbA := hid hbA; have HPA := hid hp; have HGA := hid hg; clear hdA hbA hp hg))
      have hM1 := Mod.set (w := wB) (g := x) (j := m) (v := .pointer (some ⟨p, 0, none⟩))
      have hM2 := Mod.set (w := wB.setCell ⟨x, m, none⟩ (.pointer (some ⟨p, 0, none⟩))) (g := x) (j := 3 + m) (v := .pointer (some ⟨r, 0, none⟩))
      have hXL := slt HB.out.desk
      have hdE := (HDB.out.keep hM1 (apx HPA.out HGA.out hXL).1 (apx HPA.out HGA.out hXL).2).keep hM2 (apx HPA.out HGA.out hXL).1 (apx HPA.out HGA.out hXL).2
      have hqE := (HQB.out.keep hM1 (apx HRB.out HKB.out hXL).1 (apx HRB.out HKB.out hXL).2).keep hM2 (apx HRB.out HKB.out hXL).1 (apx HRB.out HKB.out hXL).2
      have hME := (HMB.out.trans hM1).trans hM2
      have hX2 := HX2.out
      rw [deskB_set P R m hlt p r] at hX2
      go_roundw
      case rel => exact ⟨m + 1, _, _, _, _, _, _, by omega, by go_num, hid (HB.out.next hlt (hME.mono (fun y hy _ => by simpa using hy)) hX2 hdE hqE HPA.out HGA.out HRB.out HKB.out HGK.out)⟩
      case measure => simp [intOf]; omega
    · have e : m = 3 := by omega
      subst e
      go_wp2_with fail
      go_ret
      exact ⟨rfl, _, HB.out.done⟩

end Go.Proofs.Ytcgchdcbbiahnaa
