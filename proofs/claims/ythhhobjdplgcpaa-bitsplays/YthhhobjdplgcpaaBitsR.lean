/-
  The document's row: a truth a place; what its calls answer, for every input.
-/
import Derived.Test.YthhhobjdplgcpaaBits2
namespace Go.Proofs.Ythhhobjdplgcpaa
open Go.RowKit

def BA (L : List Bool) : Array Value := (L.map Value.bool).toArray
theorem BA_size (L : List Bool) : (BA L).size = L.length := by simp [BA]
theorem BA_get (L : List Bool) (j : Nat) (h : j < L.length) : (BA L)[j]? = some (.bool (L.getD j false)) := by simp [BA, h]
theorem BA_set (L : List Bool) (j : Nat) (x : Bool) : (BA L).setIfInBounds j (.bool x) = BA (L.set j x) := by simp [BA, List.map_set]

/-- The document's row lies at p, its truths at g. -/
structure IsR (w : World) (p g : Nat) (L : List Bool) : Prop where
  me : w.heap[p]? = some (.cells #[.slice (some ⟨g, 0, none⟩) L.length L.length] 54 (0, 0))
  row : w.heap[g]? = some (.cells (BA L) 4 (0, 0))
  top : L.length ≤ 4096
theorem IsR.keep {w w' : World} {p g : Nat} {L : List Bool} {ks : Nat → Prop} (h : IsR w p g L) (hc : Chg w w' ks) (hp : ¬ ks p) (hg : ¬ ks g) : IsR w' p g L := ⟨hc.keep h.me hp, hc.keep h.row hg, h.top⟩
theorem IsR.call {w w' : World} {p g : Nat} {L : List Bool} (h : IsR w p g L) (hb : Below w.heap.size w w') : IsR w' p g L := h.keep (Chg.of_below hb No) (fun e => e) (fun e => e)
theorem IsR.drew {w : World} {p g : Nat} {L : List Bool} (h : IsR w p g L) : IsR w.drew p g L := ⟨h.me, h.row, h.top⟩
theorem IsR.ne {w : World} {p g : Nat} {L : List Bool} (h : IsR w p g L) : p ≠ g := by
  intro e
  have h1 := h.me
  rw [e, h.row] at h1
  injection h1 with h1
  injection h1 with _ h2
  revert h2
  decide
theorem IsR.c0 {w : World} {p g : Nat} {L : List Bool} (h : IsR w p g L) : w.cell? ⟨p, 0, none⟩ = some (.slice (some ⟨g, 0, none⟩) L.length L.length) := by rw [cell_of_row _ _ _ _ _ _ h.me]; rfl
theorem IsR.at {w : World} {p g : Nat} {L : List Bool} (h : IsR w p g L) (j : Nat) (hj : j < L.length) : w.cell? ⟨g, j, none⟩ = some (.bool (L.getD j false)) := by rw [cell_of_row _ _ _ _ _ _ h.row, BA_get L j hj]

theorem infoBo : ∃ i, Try.prog.info? 4 = some i ∧ i.zero = some (.bool false) ∧ i.size = 1 ∧ i.bytes = 1 := by
  have h : (Try.prog.info? 4).map (fun i => (i.zero, i.size, i.bytes)) = some (some (.bool false), 1, 1) := by kernel_rfl
  cases hq : Try.prog.info? 4 with
  | none => rw [hq] at h; cases h
  | some i =>
    rw [hq] at h
    simp at h
    exact ⟨i, rfl, h.1, h.2.1, h.2.2⟩
theorem made_bools (n : Nat) : madeCells #[Value.bool false] n = BA (noneL n) := by
  apply Array.ext
  · simp [size_madeCells, BA_size, noneL]
  · intro i h1 h2
    have e : (#[Value.bool false] : Array Value)[i % 1]! = Value.bool false := by rw [Nat.mod_one]; rfl
    simp only [madeCells, Array.getElem_map, Array.getElem_range]
    rw [show (#[Value.bool false] : Array Value).size = 1 from rfl, e]
    simp [BA, noneL]
theorem make_bools (n : Nat) (h1 : n ≤ 4096) (w : World) :
    (Instr.makeSlice 48 (.int .i64 (n : Int)) (.int .i64 (n : Int))).run Try.prog w = .ok (.slice (some ⟨w.heap.size, 0, none⟩) n n) (w.alloc (.cells (BA (noneL n)) 4)) := by
  obtain ⟨i, hi, hz, hs, hb⟩ := infoBo
  rw [run_make w 48 4 i _ Try.underlying48 hi hz .i64 .i64 n n (by omega) (Int.le_refl _) (by rw [hb]; omega) (by omega), hs, Nat.mul_one]
  rw [show Value.cells (.bool false) = #[Value.bool false] from rfl, made_bools, Int.toNat_natCast]
theorem build_rbits (v : Value) (a : Option Addr) (n c : Nat) (hv : v = .slice a n c) (w : World) : (Instr.build 54 #[(0, v)]).run Try.prog w = .ok (.agg #[v]) w := by
  subst hv
  kernel_rfl

set_option maxHeartbeats 400000 in
theorem rnew_bad (n : Int) (w : World) (h : ¬ (0 ≤ n ∧ n ≤ 4096)) : Calls Try.prog 11 #[.int .i64 n] w fun e w' => e = .returned (.tuple #[.pointer none, .int .i64 50]) ∧ w = w' := by
  by_cases h0 : n < 0
  · clear h
    go_enter Try.func11, Try.ntmps11
    go_wp2
    go_ret2
    exact ⟨rfl, rfl⟩
  · have h1 : 4096 < n := by omega
    clear h
    go_enter Try.func11, Try.ntmps11
    go_wp2
    go_ret2
    exact ⟨rfl, rfl⟩

set_option maxHeartbeats 400000 in
theorem rnew_ok (n : Nat) (w : World) (h1 : n ≤ 4096) : Calls Try.prog 11 #[.int .i64 (n : Int)] w fun e w' => ∃ p g, e = .returned (.tuple #[.pointer (some ⟨p, 0, none⟩), .int .i64 0]) ∧ w.heap.size ≤ p ∧ w.heap.size ≤ g ∧ IsR w' p g (noneL n) ∧ Below w.heap.size w w' := by
  have hmk := make_bools n h1
  have hbd := fun g w => build_rbits (.slice (some ⟨g, 0, none⟩) n n) _ _ _ rfl w
  go_enter Try.func11, Try.ntmps11
  go_wp2
  go_ret2
  refine ⟨w.heap.size + 1, w.heap.size, rfl, by omega, by omega, ⟨?_, ?_, by rw [noneL_len]; exact h1⟩, ((Below.refl _ _).alloc (Nat.le_refl _) _).alloc (by simp) _⟩
  · have := heap_alloc_new (w.alloc (.cells (BA (noneL n)) 4)) (.cells #[.slice (some ⟨w.heap.size, 0, none⟩) n n] 54)
    rw [show (w.alloc (.cells (BA (noneL n)) 4)).heap.size = w.heap.size + 1 by simp] at this
    rw [noneL_len]
    exact this
  · rw [Below.heap_alloc _ _ _ (by simp)]
    exact heap_alloc_new _ _

set_option maxHeartbeats 400000 in
theorem rput_any {p g : Nat} {L : List Bool} (i : Int) (b : Bool) (w : World) (h : IsR w p g L) : Calls Try.prog 26 #[.pointer (some ⟨p, 0, none⟩), .int .i64 i, .bool b] w fun e w' => e = .returned (.int .i64 (putE L i)) ∧ IsR w' p g (putL L i b) ∧ Chg w w' (· = g) := by
  have h0 := h.c0
  by_cases hi : 0 ≤ i ∧ i < L.length
  · have HE : Hid (putE L i = 0) := if_pos hi
    obtain ⟨I, rfl⟩ := Int.eq_ofNat_of_zero_le hi.1
    have hlt : I < L.length := by omega
    have hc := h.at I hlt
    have hf := frozen_of_row w g I _ _ h.row
    have hli : (I : Int) < (L.length : Int) := hi.2
    clear hlt hi
    generalize hN : L.length = N at *
    go_enter Try.func26, Try.ntmps26
    go_wp2
    go_ret
    refine ⟨ret_int HE.out.symm, ?_, Chg.setCell⟩
    rw [putL_in]
    refine ⟨?_, ?_, by simpa using h.top⟩
    · rw [heap_setCell_other w ⟨g, I, none⟩ p _ h.ne, List.length_set]; exact h.me
    · rw [heap_setCell_same w g I (BA L) 4 _ h.row, BA_set]
  · have HE : Hid (putE L i = 51) := if_neg hi
    have HL := hid (putL_out L i b hi)
    by_cases h1 : i < 0
    · clear hi
      go_enter Try.func26, Try.ntmps26
      go_wp2
      go_ret
      exact ⟨ret_int HE.out.symm, by rw [HL.out]; exact h, Chg.refl _ _⟩
    · have h2 : (L.length : Int) ≤ i := by omega
      clear hi
      go_enter Try.func26, Try.ntmps26
      go_wp2
      go_ret
      exact ⟨ret_int HE.out.symm, by rw [HL.out]; exact h, Chg.refl _ _⟩
set_option maxHeartbeats 400000 in
theorem rset_any {p g : Nat} {L : List Bool} (i : Int) (w : World) (h : IsR w p g L) : Calls Try.prog 18 #[.pointer (some ⟨p, 0, none⟩), .int .i64 i] w fun e w' => e = .returned (.int .i64 (putE L i)) ∧ IsR w' p g (putL L i true) ∧ Chg w w' (· = g) := by
  have HP := rput_any i true w h
  go_enter Try.func18, Try.ntmps18
  go_wp2_with (go_at_call 26; refine HP.mono ?_; rintro e w1 ⟨rfl, h1, h2⟩)
  go_ret
  exact ⟨rfl, h1, h2⟩
set_option maxHeartbeats 400000 in
theorem rclear_any {p g : Nat} {L : List Bool} (i : Int) (w : World) (h : IsR w p g L) : Calls Try.prog 20 #[.pointer (some ⟨p, 0, none⟩), .int .i64 i] w fun e w' => e = .returned (.int .i64 (putE L i)) ∧ IsR w' p g (putL L i false) ∧ Chg w w' (· = g) := by
  have HP := rput_any i false w h
  go_enter Try.func20, Try.ntmps20
  go_wp2_with (go_at_call 26; refine HP.mono ?_; rintro e w1 ⟨rfl, h1, h2⟩)
  go_ret
  exact ⟨rfl, h1, h2⟩

set_option maxHeartbeats 400000 in
theorem rhas_any {p g : Nat} {L : List Bool} (i : Int) (w : World) (h : IsR w p g L) : Calls Try.prog 21 #[.pointer (some ⟨p, 0, none⟩), .int .i64 i] w fun e w' => e = .returned (.bool (hasL L i)) ∧ w = w' := by
  have h0 := h.c0
  by_cases hi : 0 ≤ i ∧ i < L.length
  · obtain ⟨I, rfl⟩ := Int.eq_ofNat_of_zero_le hi.1
    have hlt : I < L.length := by omega
    have hc := h.at I hlt
    have HE := hid (hasL_nat L I)
    have hli : (I : Int) < (L.length : Int) := hi.2
    clear hlt hi
    generalize L.getD I false = X at *
    generalize hN : L.length = N at *
    go_enter Try.func21, Try.ntmps21
    go_wp2
    go_ret
    exact ⟨ret_bool HE.out.symm, rfl⟩
  · have HE := hid (hasL_out L i hi)
    by_cases h1 : i < 0
    · clear hi
      go_enter Try.func21, Try.ntmps21
      go_wp2
      go_ret
      exact ⟨ret_bool HE.out.symm, rfl⟩
    · have h2 : (L.length : Int) ≤ i := by omega
      clear hi
      go_enter Try.func21, Try.ntmps21
      go_wp2
      go_ret
      exact ⟨ret_bool HE.out.symm, rfl⟩

set_option maxHeartbeats 1000000 in
theorem rcount_any {p g : Nat} {L : List Bool} (w : World) (h : IsR w p g L) : Calls Try.prog 23 #[.pointer (some ⟨p, 0, none⟩)] w fun e w' => e = .returned (.int .i64 (L.count true : Nat)) ∧ w = w' := by
  have h0 := h.c0
  have HB := hid h
  have ht := h.top
  have HL : Hid (L.count true = cntL L L.length) := by show _ = _; rw [cntL, List.take_length]
  go_enter Try.func23, Try.ntmps23
  go_wp2
  go_loop [3, 4] (fun c i => ∃ k m : Nat, k ≤ L.length ∧ i = .int .i64 k ∧ c = .int .i64 m ∧ m ≤ k ∧ Hid (m = cntL L k)) (fun _ i => L.length - (intOf i).toNat)
  case atStart => exact ⟨0, 0, by omega, rfl, rfl, by omega, hid (by simp [cntL])⟩
  case round =>
    obtain ⟨k, m, hk, rfl, rfl, hm, HM⟩ := hrel
    by_cases hlt : k < L.length
    · have HS := hid (cntL_succ L k hlt)
      have hkl : (k : Int) < (L.length : Int) := by omega
      have hc := HB.out.at k hlt
      rw [← hasL_nat] at hc
      cases hh : hasL L (k : Int)
      · rw [hh] at hc HS
        go_wp2
        exact ⟨⟨k + 1, m, by omega, by go_num, rfl, by omega, hid (by rw [HS.out, HM.out]; rfl)⟩, by simp [intOf]; omega⟩
      · rw [hh] at hc HS
        go_wp2
        exact ⟨⟨k + 1, m + 1, by omega, by go_num, by go_num, by omega, hid (by rw [HS.out, HM.out]; rfl)⟩, by simp [intOf]; omega⟩
    · have e : k = L.length := by omega
      have HF : Hid ((L.count true : Nat) = m) := by show _ = _; rw [HL.out, HM.out, e]
      clear hk e
      go_wp2
      go_ret
      exact ⟨ret_int (by rw [HF.out]), rfl⟩

set_option maxHeartbeats 1000000 in
theorem rfirst_neg {p g : Nat} {L : List Bool} (k : Int) (hn : k < 0) (w : World) (h : IsR w p g L) : Calls Try.prog 22 #[.pointer (some ⟨p, 0, none⟩), .int .i64 k] w fun e w' => FirstEnd L k e ∧ w = w' := by
  have h0 := h.c0
  have HB := hid h
  have ht := h.top
  go_enter Try.func22, Try.ntmps22
  go_wp2
  go_loop [6] (fun i => ∃ q : Nat, 0 ≤ q ∧ (q ≤ L.length ∨ q = 0) ∧ i = .int .i64 q ∧ Hid (AllTo L k (q : Int))) (fun i => L.length - (intOf i).toNat)
  case atStart => exact ⟨0, by omega, .inr rfl, rfl, fun j j1 j2 j3 _ => by have := j2; omega⟩
  case round =>
    obtain ⟨q, hq, hql, rfl, HA⟩ := hrel
    by_cases hlt : q < L.length
    · have hli : (q : Int) < (L.length : Int) := by omega
      have hc := HB.out.at q hlt
      rw [← hasL_nat] at hc
      cases hh : hasL L (q : Int)
      · have HR : Hid (FirstIs L k (q : Int) true) := ⟨fun _ => ⟨by have := hn; omega, by omega, hli, hh, fun j j1 j2 j3 => HA.out j j1 j2 (by omega) (by omega)⟩, fun e => Bool.noConfusion e⟩
        rw [hh] at hc
        clear hql
        go_wp2
        go_ret2
        exact ⟨firstEnd HR.out, rfl⟩
      · have HA2 : Hid (AllTo L k ((q + 1 : Nat) : Int)) := by
          intro j j1 j2 j3 j4
          by_cases c : j < (q : Int)
          · exact HA.out j j1 j2 c j4
          · rw [show j = (q : Int) by omega]; exact hh
        rw [hh] at hc
        clear hql
        go_wp2
        exact ⟨⟨q + 1, by omega, .inl (by omega), by go_num, HA2⟩, by simp [intOf]; omega⟩
    · have HR : Hid (FirstIs L k 0 false) := ⟨fun e => Bool.noConfusion e, fun _ => ⟨rfl, fun j j1 j2 j3 => HA.out j j1 j2 (by omega) j3⟩⟩
      have hge : ¬ (q : Int) < (L.length : Int) := by omega
      clear hql
      go_wp2
      go_ret2
      exact ⟨firstEnd HR.out, rfl⟩
set_option maxHeartbeats 1000000 in
theorem rfirst_nat {p g : Nat} {L : List Bool} (K : Nat) (h63 : (K : Int) ≤ 9223372036854775807) (w : World) (h : IsR w p g L) : Calls Try.prog 22 #[.pointer (some ⟨p, 0, none⟩), .int .i64 (K : Int)] w fun e w' => FirstEnd L (K : Int) e ∧ w = w' := by
  have h0 := h.c0
  have HB := hid h
  have ht := h.top
  have hK0 : ¬ (K : Int) < 0 := by omega
  go_enter Try.func22, Try.ntmps22
  go_wp2
  go_loop [6] (fun i => ∃ q : Nat, K ≤ q ∧ (q ≤ L.length ∨ q = K) ∧ i = .int .i64 q ∧ Hid (AllTo L (K : Int) (q : Int))) (fun i => L.length - (intOf i).toNat)
  case atStart => exact ⟨K, by omega, .inr rfl, rfl, fun j j1 j2 j3 _ => by have := j1; omega⟩
  case round =>
    obtain ⟨q, hq, hql, rfl, HA⟩ := hrel
    by_cases hlt : q < L.length
    · have hli : (q : Int) < (L.length : Int) := by omega
      have hc := HB.out.at q hlt
      rw [← hasL_nat] at hc
      cases hh : hasL L (q : Int)
      · have HR : Hid (FirstIs L (K : Int) (q : Int) true) := ⟨fun _ => ⟨by have := h63; omega, by omega, hli, hh, fun j j1 j2 j3 => HA.out j j1 j2 (by omega) (by omega)⟩, fun e => Bool.noConfusion e⟩
        rw [hh] at hc
        clear hql
        go_wp2
        go_ret2
        exact ⟨firstEnd HR.out, rfl⟩
      · have HA2 : Hid (AllTo L (K : Int) ((q + 1 : Nat) : Int)) := by
          intro j j1 j2 j3 j4
          by_cases c : j < (q : Int)
          · exact HA.out j j1 j2 c j4
          · rw [show j = (q : Int) by omega]; exact hh
        rw [hh] at hc
        clear hql
        go_wp2
        exact ⟨⟨q + 1, by omega, .inl (by omega), by go_num, HA2⟩, by simp [intOf]; omega⟩
    · have HR : Hid (FirstIs L (K : Int) 0 false) := ⟨fun e => Bool.noConfusion e, fun _ => ⟨rfl, fun j j1 j2 j3 => HA.out j j1 j2 (by omega) j3⟩⟩
      have hge : ¬ (q : Int) < (L.length : Int) := by omega
      clear hql
      go_wp2
      go_ret2
      exact ⟨firstEnd HR.out, rfl⟩
theorem rfirst_any {p g : Nat} {L : List Bool} (k : Int) (w : World) (hk : I64 k) (h : IsR w p g L) : Calls Try.prog 22 #[.pointer (some ⟨p, 0, none⟩), .int .i64 k] w fun e w' => FirstEnd L k e ∧ w = w' := by
  by_cases hn : k < 0
  · exact rfirst_neg k hn w h
  · obtain ⟨K, rfl⟩ := Int.eq_ofNat_of_zero_le (show 0 ≤ k by omega)
    exact rfirst_nat K hk.2 w h

end Go.Proofs.Ythhhobjdplgcpaa
