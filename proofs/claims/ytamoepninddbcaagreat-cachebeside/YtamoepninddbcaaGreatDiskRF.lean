/-
  The document's From: what it answers, for every input.
-/
import Derived.Test.YtamoepninddbcaaGreatDisk2
namespace Go.Proofs.YtamoepninddbcaaGreat.D
open Go.RowKit
-- may lack

/-- The cells of the document's disk. -/
def RCv (v : Value) (wr : Int) (ar : Bool) (lf : Int) (dn : Bool) : Array Value := #[v, .int .i64 wr, .bool ar, .int .i64 lf, .bool dn]
/-- The document's disk lies at r, its sectors are the list v. -/
structure IsR (w : World) (r : Nat) (v : Value) (n : Nat) (d : St8) : Prop where
  me : w.heap[r]? = some (.cells (RCv v d.wr d.ar d.lf d.dn) 83 (0, 0))
  own : Own w 0 47 128 v n d.S
  pos : 1 ≤ n
  top : n ≤ 4096

theorem build_rdisk (v : Value) (a : Option Addr) (n c : Nat) (hv : v = .slice a n c) (w : World) : (Instr.build 83 #[(0, v)]).run Tryz.prog w = .ok (.agg #[v, .int .i64 0, .bool false, .int .i64 0, .bool false]) w := by
  subst hv
  kernel_rfl

set_option maxHeartbeats 400000 in
theorem rnew_bad (n : Int) (w : World) (h : ¬ (1 ≤ n ∧ n ≤ 4096)) : Calls Tryz.prog 14 #[.int .i64 n] w fun e w' => e = .returned (.tuple #[.pointer none, .int .i64 20]) ∧ w' = w := by
  by_cases h1 : n < 1
  · go_enter Tryz.func14, Tryz.ntmps14
    go_wp2
    go_ret2
    exact ⟨rfl, rfl⟩
  · have h2 : 4096 < n := by omega
    go_enter Tryz.func14, Tryz.ntmps14
    go_wp2
    go_ret2
    exact ⟨rfl, rfl⟩

set_option maxHeartbeats 400000 in
theorem rnew_ok (n : Nat) (w : World) (h0 : 1 ≤ n) (h1 : n ≤ 4096) : Calls Tryz.prog 14 #[.int .i64 n] w fun e w' => ∃ p g, e = .returned (.tuple #[.pointer (some ⟨p, 0, none⟩), .int .i64 0]) ∧ w.heap.size ≤ p ∧ w.heap.size ≤ g ∧ IsR w' p (.slice (some ⟨g, 0, none⟩) n n) n (D0 (zl (128 * n))) ∧ Below w.heap.size w w' := by
  have hmk := make_secs (n : Int) (by omega) (by omega)
  rw [Int.toNat_natCast] at hmk
  have hbd := fun g w => build_rdisk (.slice (some ⟨g, 0, none⟩) n n) _ _ _ rfl w
  go_enter Tryz.func14, Tryz.ntmps14
  go_wp2
  go_ret2
  refine ⟨w.heap.size + 1, w.heap.size, rfl, by omega, by omega, ⟨?_, ?_, h0, h1⟩, ((Below.refl _ _).alloc (Nat.le_refl _) _).alloc (by simp) _⟩
  · have := heap_alloc_new (w.alloc (.cells (SA (zl (128 * n))) 47)) (.cells (RCv (.slice (some ⟨w.heap.size, 0, none⟩) n n) 0 false 0 false) 83)
    rw [show (w.alloc (.cells (SA (zl (128 * n))) 47)).heap.size = w.heap.size + 1 by simp] at this
    exact this
  · refine own_row ?_ (Nat.zero_le _) (by rw [D0, zl_len, Nat.mul_comm]) (by unfold maxLen; omega)
    rw [Below.heap_alloc _ _ _ (by simp)]
    exact heap_alloc_new _ _

theorem IsR.call {w w' : World} {r n : Nat} {v : Value} {d : St8} (h : IsR w r v n d) (hb : Below w.heap.size w w') : IsR w' r v n d := ⟨by rw [hb.block r (slt h.me)]; exact h.me, h.own.call hb, h.pos, h.top⟩
theorem IsR.c0 {w : World} {r n : Nat} {v : Value} {d : St8} (h : IsR w r v n d) : w.cell? ⟨r, 0, none⟩ = some v := by rw [cell_of_row _ _ _ _ _ _ h.me]; rfl
theorem IsR.c1 {w : World} {r n : Nat} {v : Value} {d : St8} (h : IsR w r v n d) : w.cell? ⟨r, 1, none⟩ = some (.int .i64 d.wr) := by rw [cell_of_row _ _ _ _ _ _ h.me]; rfl
theorem IsR.c2 {w : World} {r n : Nat} {v : Value} {d : St8} (h : IsR w r v n d) : w.cell? ⟨r, 2, none⟩ = some (.bool d.ar) := by rw [cell_of_row _ _ _ _ _ _ h.me]; rfl
theorem IsR.c3 {w : World} {r n : Nat} {v : Value} {d : St8} (h : IsR w r v n d) : w.cell? ⟨r, 3, none⟩ = some (.int .i64 d.lf) := by rw [cell_of_row _ _ _ _ _ _ h.me]; rfl
theorem IsR.c4 {w : World} {r n : Nat} {v : Value} {d : St8} (h : IsR w r v n d) : w.cell? ⟨r, 4, none⟩ = some (.bool d.dn) := by rw [cell_of_row _ _ _ _ _ _ h.me]; rfl
theorem IsR.fz {w : World} {r n : Nat} {v : Value} {d : St8} (h : IsR w r v n d) (j : Nat) : w.frozen? ⟨r, j, none⟩ = false := frozen_of_row w r j _ _ h.me

set_option maxHeartbeats 400000 in
theorem rimage_any {r n : Nat} {v : Value} {d : St8} (w : World) (h : IsR w r v n d) : Calls Tryz.prog 52 #[.pointer (some ⟨r, 0, none⟩)] w fun e w' => ∃ u, e = .returned u ∧ Own w' w.heap.size 47 128 u n d.S ∧ Below w.heap.size w w' := by
  obtain ⟨ad, cap, rfl, hle, hby⟩ := h.own.at_
  have h0 := h.c0
  have HL := hid h.own.len
  have HBY := hid hby
  have hbd : (0 + n) * 128 ≤ 140737488355328 := by have := h.top; omega
  clear hby
  go_enter Tryz.func52, Tryz.ntmps52
  go_wp2_with (at_builtin; refine append_secs2 rfl _ _ rfl w.heap.size 0 n cap _ [] d.S ad rfl rfl (Own.nil _ _ _ _) HL.out HBY.out hbd (Nat.le_refl _) ?_; intro u w1 hu hg hat)
  go_ret
  rw [Nat.zero_add, List.nil_append] at hu
  have hg2 : w.grownBy w1 none := hg
  exact ⟨u, rfl, hu, (Below.refl _ _).grown hg2 (Nat.le_refl _) (by simp)⟩

end Go.Proofs.YtamoepninddbcaaGreat.D

namespace Go.Proofs.YtamoepninddbcaaGreat.D
open Go.RowKit
-- may lack

/-- The first j sectors, and zeros. -/
def rfill (fl : List Int) (m j : Nat) : List Int := fl.take (128 * j) ++ zl (128 * (m - j))
theorem rfill_len {fl : List Int} {m j : Nat} (h : fl.length = 128 * m) (hj : j ≤ m) : (rfill fl m j).length = 128 * m := by
  rw [rfill, List.length_append, List.length_take, zl_len]; omega
theorem rfill_step {fl : List Int} {m j : Nat} (h : fl.length = 128 * m) (hj : j < m) : over (rfill fl m j) (j * 128) (secK fl j) = rfill fl m (j + 1) := by
  have hc := secK_len h hj
  rw [over_eq _ _ _ (by rw [rfill_len h (by omega), hc]; omega), hc]
  unfold rfill
  have e1 : (fl.take (128 * j)).length = j * 128 := by rw [List.length_take]; omega
  rw [List.take_left' e1, List.drop_append, e1, List.drop_of_length_le (by rw [e1]; omega), List.nil_append]
  have e2 : fl.take (128 * (j + 1)) = fl.take (128 * j) ++ secK fl j := by
    unfold secK
    rw [show 128 * (j + 1) = 128 * j + 128 by omega, List.take_add, Nat.mul_comm j 128]
  rw [e2]
  congr 1
  unfold zl
  rw [List.drop_replicate]
  congr 1
  omega

end Go.Proofs.YtamoepninddbcaaGreat.D
