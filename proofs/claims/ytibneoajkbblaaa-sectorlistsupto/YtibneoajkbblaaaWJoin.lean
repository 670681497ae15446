/-
  sector.Join returns the first n bytes of the sectors, all of them where there are no more, in new memory, for every number and every list of sectors.
-/
import Derived.Test.YtibneoajkbblaaaLaws
namespace Go.Proofs.Ytibneoajkbblaaa
open Go.RowKit

def zl (n : Nat) : List Int := List.replicate n 0
theorem zl_len (n : Nat) : (zl n).length = n := by simp [zl]
theorem zl_get (n j : Nat) : (zl n).getD j 0 = 0 := by
  unfold zl
  by_cases h : j < n
  · simp [List.getD_eq_getElem?_getD, h]
  · simp [List.getD_eq_getElem?_getD, h]

theorem infoB : ∃ i, Try.prog.info? 5 = some i ∧ i.zero = some (.int .u8 0) ∧ i.size = 1 ∧ i.bytes = 1 := by
  have h : (Try.prog.info? 5).map (fun i => (i.zero, i.size, i.bytes)) = some (some (.int .u8 0), 1, 1) := by kernel_rfl
  cases hq : Try.prog.info? 5 with
  | none => rw [hq] at h; cases h
  | some i =>
    rw [hq] at h
    simp at h
    exact ⟨i, rfl, h.1, h.2.1, h.2.2⟩
theorem infoS : ∃ i, Try.prog.info? 26 = some i ∧ i.zero = some (.agg (SA Zs)) ∧ i.size = 128 ∧ i.bytes = 128 := by
  have h : (Try.prog.info? 26).map (fun i => (i.zero, i.size, i.bytes)) = some (some (.agg (SA Zs)), 128, 128) := by kernel_rfl
  cases hq : Try.prog.info? 26 with
  | none => rw [hq] at h; cases h
  | some i =>
    rw [hq] at h
    simp at h
    exact ⟨i, rfl, h.1, h.2.1, h.2.2⟩

theorem made_bytes (n : Nat) : madeCells #[Value.int .u8 0] n = SA (zl n) := by
  apply Array.ext
  · simp [size_madeCells, SA_size, zl_len]
  · intro i h1 h2
    have e : (#[Value.int .u8 0] : Array Value)[i % 1]! = Value.int .u8 0 := by rw [Nat.mod_one]; rfl
    simp only [madeCells, Array.getElem_map, Array.getElem_range]
    rw [show (#[Value.int .u8 0] : Array Value).size = 1 from rfl, e]
    simp [SA, zl]
theorem made_secs (n : Nat) : madeCells (SA Zs) n = SA (zl n) := by
  apply Array.ext
  · simp [size_madeCells, SA_size, zl_len]
  · intro i h1 h2
    have hs : (SA Zs).size = 128 := by rw [SA_size, Zs_len]
    have hi : i % 128 < 128 := Nat.mod_lt _ (by decide)
    have e : (SA Zs)[i % 128]! = Value.int .u8 0 := by
      rw [Array.getElem!_eq_getD, Array.getD_eq_getD_getElem?, SA_get Zs _ (by rw [Zs_len]; exact hi), show Zs.getD (i % 128) 0 = 0 from zl_get 128 _]
      rfl
    simp only [madeCells, Array.getElem_map, Array.getElem_range, hs, e]
    simp [SA, zl]

theorem make_bytes (n : Int) (h0 : 0 ≤ n) (h1 : n ≤ 281474976710656) (w : World) :
    (Instr.makeSlice 27 (.int .i64 n) (.int .i64 n)).run Try.prog w = .ok (.slice (some ⟨w.heap.size, 0, none⟩) n.toNat n.toNat) (w.alloc (.cells (SA (zl n.toNat)) 5)) := by
  obtain ⟨i, hi, hz, hs, hb⟩ := infoB
  rw [run_make w 27 5 i _ Try.underlying27 hi hz .i64 .i64 n n h0 (Int.le_refl _) (by rw [hb]; omega) (by omega), hs, Nat.mul_one]
  rw [show Value.cells (.int .u8 0) = #[Value.int .u8 0] from rfl, made_bytes]
theorem make_secs (n : Int) (h0 : 0 ≤ n) (h1 : 128 * n ≤ 281474976710656) (w : World) :
    (Instr.makeSlice 32 (.int .i64 n) (.int .i64 n)).run Try.prog w = .ok (.slice (some ⟨w.heap.size, 0, none⟩) n.toNat n.toNat) (w.alloc (.cells (SA (zl (128 * n.toNat))) 26)) := by
  obtain ⟨i, hi, hz, hs, hb⟩ := infoS
  rw [run_make w 32 26 i _ Try.underlying32 hi hz .i64 .i64 n n h0 (Int.le_refl _) (by rw [hb]; omega) (by omega), hs, Nat.mul_comm]
  rw [show Value.cells (.agg (SA Zs)) = SA Zs from rfl, made_secs]

def joinN (n : Int) (m : Nat) : Nat := (min (max n 0) (128 * m)).toNat

def fillN (fl : List Int) (N k : Nat) : List Int := fl.take k ++ zl (N - k)
theorem fillN_len (fl : List Int) (N k : Nat) (h : k ≤ N) (hN : N ≤ fl.length) : (fillN fl N k).length = N := by
  simp [fillN, zl_len]; omega
theorem fillN_zero (fl : List Int) (N : Nat) : fillN fl N 0 = zl N := by simp [fillN]
theorem fillN_full (fl : List Int) (N : Nat) : fillN fl N N = fl.take N := by simp [fillN, zl]
theorem fillN_set (fl : List Int) (N k : Nat) (h : k < N) (hN : N ≤ fl.length) : (fillN fl N k).set k (fl.getD k 0) = fillN fl N (k + 1) := by
  have hk : k < fl.length := by omega
  have e : N - k = (N - (k + 1)) + 1 := by omega
  unfold fillN
  rw [List.take_succ_eq_append_getElem hk, e, zl, List.replicate_succ, List.set_append_right _ _ (by simp; omega), List.append_assoc]
  simp [hk, zl, Nat.min_eq_left (Nat.le_of_lt hk)]

/-- One byte written into the row of bytes at block g. -/
structure WroteB (w : World) (g : Nat) (t : TypeId) (c : List Int) (w' : World) : Prop where
  here : w'.heap[g]? = some (.cells (SA c) t (0, 0))
  other : ∀ k, k ≠ g → w'.heap[k]? = w.heap[k]?
  size : w'.heap.size = w.heap.size
  os : w'.os = w.os
  tape : w'.tape = w.tape
  output : w'.output = w.output
theorem WroteB.below {B g : Nat} {t : TypeId} {w0 w w' : World} {c : List Int} (h : WroteB w g t c w') (hb : Below B w0 w) (hB : B ≤ g) : Below B w0 w' :=
  hb.trans ⟨h.os, h.tape, h.output, Nat.le_of_eq h.size.symm, fun k hk => h.other k (by omega)⟩
theorem row_setCell {w : World} {g : Nat} {t : TypeId} {c : List Int} (hg : w.heap[g]? = some (.cells (SA c) t (0, 0))) (j : Nat) (x : Int) : WroteB w g t (c.set j x) (w.setCell ⟨g, j, none⟩ (.int .u8 x)) := by
  refine ⟨?_, ?_, ?_, rfl, rfl, rfl⟩
  · rw [heap_setCell_same w g j (SA c) t _ hg, SA_set]
  · intro k hk
    exact heap_setCell_other w ⟨g, j, none⟩ k _ hk
  · simp [World.setCell]

set_option maxHeartbeats 400000 in
theorem join_mid (N : Nat) (a : Option Addr) (m cap : Nat) (fl : List Int) (w : World) (hl : fl.length = 128 * m) (hm : 128 * m ≤ 140737488355328)
    (hr : fl = [] ∨ ∃ b o, a = some ⟨b, o, none⟩ ∧ b < w.heap.size ∧ ∀ j, j < fl.length → w.cell? ⟨b, o + j, none⟩ = some (.int .u8 (fl.getD j 0))) (h1 : (N : Int) ≤ (m : Int) * 128) :
    Calls Try.prog 17 #[.int .i64 (N : Int), .slice a m cap] w fun e w' => e = .returned (.slice (some ⟨w.heap.size, 0, none⟩) N N) ∧ w'.heap[w.heap.size]? = some (.cells (SA (fl.take N)) 5 (0, 0)) ∧ w'.heap.size = w.heap.size + 1 ∧ Below w.heap.size w w' := by
  have hmk := make_bytes (N : Int) (by omega) (by omega)
  rw [Int.toNat_natCast] at hmk
  have HR : Hid (fl = [] ∨ ∃ b o, a = some ⟨b, o, none⟩ ∧ b < w.heap.size ∧ ∀ j, j < fl.length → w.cell? ⟨b, o + j, none⟩ = some (.int .u8 (fl.getD j 0))) := hr
  have HL : Hid (fl.length = 128 * m) := hl
  clear hr hl
  go_enter Try.func17, Try.ntmps17
  go_wp2
  go_loopw [16] (fun i wr => ∃ k : Nat, k ≤ N ∧ i = .int .i64 k ∧ wr.heap[w.heap.size]? = some (.cells (SA (fillN fl (N) k)) 5 (0, 0)) ∧ wr.heap.size = w.heap.size + 1 ∧ Below w.heap.size w wr) (fun i _ => N - (intOf i).toNat)
  case atStart => exact ⟨0, by omega, rfl, by rw [fillN_zero]; exact heap_alloc_new _ _, by simp, (Below.refl _ _).alloc (Nat.le_refl _) _⟩
  case round =>
    obtain ⟨k, hk, rfl, h2, h3, h4⟩ := hrel
    by_cases hlt : k < N
    · have hl := HL.out
      rcases HR.out with he | ⟨b, o, rfl, hb, hcell⟩
      · rw [he] at hl; simp at hl; omega
      · have hc := hcell k (by omega)
        have hlen : (fillN fl (N) k).length = N := fillN_len fl (N) k hk (by omega)
        have hc2 := sec_cell h2 k (by omega)
        have hf2 := sec_free h2 k
        rw [← h4.cell (p := ⟨b, o + k, none⟩) hb] at hc
        have e : o + k = o + k / 128 * 128 + k % 128 := by omega
        rw [e] at hc
        have H2 : Hid (wr.heap[w.heap.size]? = some (.cells (SA (fillN fl (N) k)) 5 (0, 0))) := h2
        have H3 : Hid (wr.heap.size = w.heap.size + 1) := h3
        have HS : Hid ((fillN fl (N) k).set k (fl.getD k 0) = fillN fl (N) (k + 1)) := fillN_set fl _ k hlt (by omega)
        clear h2 h3 e hl hcell hlen
        go_wp2
        have hw := row_setCell H2.out k (fl.getD k 0)
        rw [HS.out] at hw
        exact ⟨⟨k + 1, by omega, by go_num, hw.here, hw.size.trans H3.out, hw.below h4 (Nat.le_refl _)⟩, by simp [intOf]; omega⟩
    · have e : k = N := by omega
      have E : Hid (fillN fl (N) k = fl.take (N)) := by show _ = _; rw [e, fillN_full]
      have H3 : Hid (wr.heap.size = w.heap.size + 1) := h3
      have H2 : Hid (wr.heap[w.heap.size]? = some (.cells (SA (fillN fl (N) k)) 5 (0, 0))) := h2
      clear e h3 h2
      go_wp2
      go_ret
      exact ⟨rfl, by rw [← E.out]; exact H2.out, H3.out, h4⟩

set_option maxHeartbeats 400000 in
theorem join_over (n : Int) (a : Option Addr) (m cap : Nat) (fl : List Int) (w : World) (hl : fl.length = 128 * m) (hm : 128 * m ≤ 140737488355328)
    (hr : fl = [] ∨ ∃ b o, a = some ⟨b, o, none⟩ ∧ b < w.heap.size ∧ ∀ j, j < fl.length → w.cell? ⟨b, o + j, none⟩ = some (.int .u8 (fl.getD j 0))) (h1 : (m : Int) * 128 < n) :
    Calls Try.prog 17 #[.int .i64 n, .slice a m cap] w fun e w' => e = .returned (.slice (some ⟨w.heap.size, 0, none⟩) (m * 128) (m * 128)) ∧ w'.heap[w.heap.size]? = some (.cells (SA (fl.take (m * 128))) 5 (0, 0)) ∧ w'.heap.size = w.heap.size + 1 ∧ Below w.heap.size w w' := by
  have hmk := make_bytes ((m : Int) * 128) (by omega) (by omega)
  rw [show ((m : Int) * 128).toNat = m * 128 from by omega] at hmk
  have HR : Hid (fl = [] ∨ ∃ b o, a = some ⟨b, o, none⟩ ∧ b < w.heap.size ∧ ∀ j, j < fl.length → w.cell? ⟨b, o + j, none⟩ = some (.int .u8 (fl.getD j 0))) := hr
  have HL : Hid (fl.length = 128 * m) := hl
  clear hr hl
  go_enter Try.func17, Try.ntmps17
  go_wp2
  go_loopw [16] (fun i wr => ∃ k : Nat, k ≤ (m * 128) ∧ i = .int .i64 k ∧ wr.heap[w.heap.size]? = some (.cells (SA (fillN fl ((m * 128)) k)) 5 (0, 0)) ∧ wr.heap.size = w.heap.size + 1 ∧ Below w.heap.size w wr) (fun i _ => (m * 128) - (intOf i).toNat)
  case atStart => exact ⟨0, by omega, rfl, by rw [fillN_zero]; exact heap_alloc_new _ _, by simp, (Below.refl _ _).alloc (Nat.le_refl _) _⟩
  case round =>
    obtain ⟨k, hk, rfl, h2, h3, h4⟩ := hrel
    by_cases hlt : k < (m * 128)
    · have hl := HL.out
      rcases HR.out with he | ⟨b, o, rfl, hb, hcell⟩
      · rw [he] at hl; simp at hl; omega
      · have hc := hcell k (by omega)
        have hlen : (fillN fl ((m * 128)) k).length = (m * 128) := fillN_len fl ((m * 128)) k hk (by omega)
        have hc2 := sec_cell h2 k (by omega)
        have hf2 := sec_free h2 k
        rw [← h4.cell (p := ⟨b, o + k, none⟩) hb] at hc
        have e : o + k = o + k / 128 * 128 + k % 128 := by omega
        rw [e] at hc
        have H2 : Hid (wr.heap[w.heap.size]? = some (.cells (SA (fillN fl ((m * 128)) k)) 5 (0, 0))) := h2
        have H3 : Hid (wr.heap.size = w.heap.size + 1) := h3
        have HS : Hid ((fillN fl ((m * 128)) k).set k (fl.getD k 0) = fillN fl ((m * 128)) (k + 1)) := fillN_set fl _ k hlt (by omega)
        clear h2 h3 e hl hcell hlen
        go_wp2
        have hw := row_setCell H2.out k (fl.getD k 0)
        rw [HS.out] at hw
        exact ⟨⟨k + 1, by omega, by go_num, hw.here, hw.size.trans H3.out, hw.below h4 (Nat.le_refl _)⟩, by simp [intOf]; omega⟩
    · have e : k = (m * 128) := by omega
      have E : Hid (fillN fl ((m * 128)) k = fl.take ((m * 128))) := by show _ = _; rw [e, fillN_full]
      have H3 : Hid (wr.heap.size = w.heap.size + 1) := h3
      have H2 : Hid (wr.heap[w.heap.size]? = some (.cells (SA (fillN fl ((m * 128)) k)) 5 (0, 0))) := h2
      clear e h3 h2
      go_wp2
      go_ret
      exact ⟨rfl, by rw [← E.out]; exact H2.out, H3.out, h4⟩

set_option maxHeartbeats 400000 in
theorem join_neg (n : Int) (a : Option Addr) (m cap : Nat) (fl : List Int) (w : World) (hl : fl.length = 128 * m) (hm : 128 * m ≤ 140737488355328)
    (hr : fl = [] ∨ ∃ b o, a = some ⟨b, o, none⟩ ∧ b < w.heap.size ∧ ∀ j, j < fl.length → w.cell? ⟨b, o + j, none⟩ = some (.int .u8 (fl.getD j 0))) (h1 : n < 0) :
    Calls Try.prog 17 #[.int .i64 n, .slice a m cap] w fun e w' => e = .returned (.slice (some ⟨w.heap.size, 0, none⟩) 0 0) ∧ w'.heap[w.heap.size]? = some (.cells (SA (fl.take 0)) 5 (0, 0)) ∧ w'.heap.size = w.heap.size + 1 ∧ Below w.heap.size w w' := by
  have hmk := make_bytes 0 (by omega) (by omega)
  have HR : Hid (fl = [] ∨ ∃ b o, a = some ⟨b, o, none⟩ ∧ b < w.heap.size ∧ ∀ j, j < fl.length → w.cell? ⟨b, o + j, none⟩ = some (.int .u8 (fl.getD j 0))) := hr
  have HL : Hid (fl.length = 128 * m) := hl
  clear hr hl
  go_enter Try.func17, Try.ntmps17
  go_wp2
  go_loopw [16] (fun i wr => ∃ k : Nat, k ≤ 0 ∧ i = .int .i64 k ∧ wr.heap[w.heap.size]? = some (.cells (SA (fillN fl (0) k)) 5 (0, 0)) ∧ wr.heap.size = w.heap.size + 1 ∧ Below w.heap.size w wr) (fun i _ => 0 - (intOf i).toNat)
  case atStart => exact ⟨0, by omega, rfl, by rw [fillN_zero]; exact heap_alloc_new _ _, by simp, (Below.refl _ _).alloc (Nat.le_refl _) _⟩
  case round =>
    obtain ⟨k, hk, rfl, h2, h3, h4⟩ := hrel
    by_cases hlt : k < 0
    · omega
    · have e : k = 0 := by omega
      have E : Hid (fillN fl (0) k = fl.take (0)) := by show _ = _; rw [e, fillN_full]
      have H3 : Hid (wr.heap.size = w.heap.size + 1) := h3
      have H2 : Hid (wr.heap[w.heap.size]? = some (.cells (SA (fillN fl (0) k)) 5 (0, 0))) := h2
      clear e h3 h2
      go_wp2
      go_ret
      exact ⟨rfl, by rw [← E.out]; exact H2.out, H3.out, h4⟩

theorem join_any (n : Int) (a : Option Addr) (m cap : Nat) (fl : List Int) (w : World) (hl : fl.length = 128 * m) (hm : 128 * m ≤ 140737488355328)
    (hr : fl = [] ∨ ∃ b o, a = some ⟨b, o, none⟩ ∧ b < w.heap.size ∧ ∀ j, j < fl.length → w.cell? ⟨b, o + j, none⟩ = some (.int .u8 (fl.getD j 0))) :
    Calls Try.prog 17 #[.int .i64 n, .slice a m cap] w fun e w' => e = .returned (.slice (some ⟨w.heap.size, 0, none⟩) (joinN n m) (joinN n m)) ∧ w'.heap[w.heap.size]? = some (.cells (SA (fl.take (joinN n m))) 5 (0, 0)) ∧ w'.heap.size = w.heap.size + 1 ∧ Below w.heap.size w w' := by
  by_cases h0 : n < 0
  · rw [show joinN n m = 0 from by unfold joinN; omega]
    exact join_neg n a m cap fl w hl hm hr h0
  · by_cases h1 : (m : Int) * 128 < n
    · rw [show joinN n m = m * 128 from by unfold joinN; omega]
      exact join_over n a m cap fl w hl hm hr h1
    · obtain ⟨N, rfl⟩ := Int.eq_ofNat_of_zero_le (show 0 ≤ n by omega)
      rw [show joinN (N : Int) m = N from by unfold joinN; omega]
      exact join_mid N a m cap fl w hl hm hr (by omega)

end Go.Proofs.Ytibneoajkbblaaa
