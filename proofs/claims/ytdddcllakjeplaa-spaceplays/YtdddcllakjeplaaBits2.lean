/-
  New and First of package bits: what they answer, for every input.
-/
import Derived.Test.YtdddcllakjeplaaBits1
import Derived.WalkMore
namespace Go.Proofs.Ytdddcllakjeplaa
open Go.RowKit

def noneL (n : Nat) : List Bool := List.replicate n false
theorem noneL_len (n : Nat) : (noneL n).length = n := by simp [noneL]
theorem noneL_get (n i : Nat) : (noneL n).getD i false = false := by
  unfold noneL
  rw [List.getD_eq_getElem?_getD, List.getElem?_replicate]
  split <;> rfl
def zW (m : Nat) : List Nat := List.replicate m 0

theorem infoU : ∃ i, Try.prog.info? 72 = some i ∧ i.zero = some (.int .u64 0) ∧ i.size = 1 ∧ i.bytes = 8 := by
  have h : (Try.prog.info? 72).map (fun i => (i.zero, i.size, i.bytes)) = some (some (.int .u64 0), 1, 8) := by kernel_rfl
  cases hq : Try.prog.info? 72 with
  | none => rw [hq] at h; cases h
  | some i =>
    rw [hq] at h
    simp at h
    exact ⟨i, rfl, h.1, h.2.1, h.2.2⟩
theorem made_words (n : Nat) : madeCells #[Value.int .u64 0] n = UA (zW n) := by
  apply Array.ext
  · simp [size_madeCells, UA_size, zW]
  · intro i h1 h2
    have e : (#[Value.int .u64 0] : Array Value)[i % 1]! = Value.int .u64 0 := by rw [Nat.mod_one]; rfl
    simp only [madeCells, Array.getElem_map, Array.getElem_range]
    rw [show (#[Value.int .u64 0] : Array Value).size = 1 from rfl, e]
    simp [UA, zW]
theorem make_words (n : Int) (h0 : 0 ≤ n) (h1 : n ≤ 4096) (w : World) :
    (Instr.makeSlice 73 (.int .i64 n) (.int .i64 n)).run Try.prog w = .ok (.slice (some ⟨w.heap.size, 0, none⟩) n.toNat n.toNat) (w.alloc (.cells (UA (zW n.toNat)) 72)) := by
  obtain ⟨i, hi, hz, hs, hb⟩ := infoU
  rw [run_make w 73 72 i _ Try.underlying73 hi hz .i64 .i64 n n h0 (Int.le_refl _) (by rw [hb]; omega) (by omega), hs, Nat.mul_one]
  rw [show Value.cells (.int .u64 0) = #[Value.int .u64 0] from rfl, made_words]
theorem build_bits (k : Int) (v : Value) (a : Option Addr) (n c : Nat) (hv : v = .slice a n c) (w : World) : (Instr.build 75 #[(0, .int .i64 k), (1, v)]).run Try.prog w = .ok (.agg #[.int .i64 k, v]) w := by
  subst hv
  kernel_rfl

set_option maxHeartbeats 400000 in
theorem new_bad (n : Int) (w : World) (h : ¬ (0 ≤ n ∧ n ≤ 4096)) : Calls Try.prog 39 #[.int .i64 n] w fun e w' => e = .returned (.tuple #[.pointer none, .int .i64 50]) ∧ w = w' := by
  by_cases h0 : n < 0
  · clear h
    go_enter Try.func39, Try.ntmps39
    go_wp2
    go_ret2
    exact ⟨rfl, rfl⟩
  · have h1 : 4096 < n := by omega
    clear h
    go_enter Try.func39, Try.ntmps39
    go_wp2
    go_ret2
    exact ⟨rfl, rfl⟩

set_option maxHeartbeats 400000 in
theorem new_ok (n : Nat) (w : World) (h1 : n ≤ 4096) : Calls Try.prog 39 #[.int .i64 (n : Int)] w fun e w' => ∃ p g, e = .returned (.tuple #[.pointer (some ⟨p, 0, none⟩), .int .i64 0]) ∧ w.heap.size ≤ p ∧ w.heap.size ≤ g ∧ IsB w' p g (noneL n) ∧ Below w.heap.size w w' := by
  have HQ : Hid ((((n : Int) + 64 - 1) / 64).toNat = nb n) := by show _ = _; unfold nb; omega
  have hmk := make_words (((n : Int) + 64 - 1) / 64) (by omega) (by omega)
  rw [HQ.out] at hmk
  have hbd := fun g w => build_bits (n : Int) (.slice (some ⟨g, 0, none⟩) (nb n) (nb n)) _ _ _ rfl w
  go_enter Try.func39, Try.ntmps39
  go_wp2
  go_ret2
  refine ⟨w.heap.size + 1, w.heap.size, rfl, by omega, by omega, ⟨?_, ⟨zW (nb n), ?_, by rw [noneL_len]; simp [zW], ?_, ?_⟩, by rw [noneL_len]; exact h1⟩, ((Below.refl _ _).alloc (Nat.le_refl _) _).alloc (by simp) _⟩
  · have := heap_alloc_new (w.alloc (.cells (UA (zW (nb n))) 72)) (.cells #[.int .i64 (n : Int), .slice (some ⟨w.heap.size, 0, none⟩) (nb n) (nb n)] 75)
    rw [show (w.alloc (.cells (UA (zW (nb n))) 72)).heap.size = w.heap.size + 1 by simp] at this
    rw [noneL_len]
    exact this
  · rw [Below.heap_alloc _ _ _ (by simp)]
    exact heap_alloc_new _ _
  · intro x hx
    rw [List.eq_of_mem_replicate hx]
    decide
  · intro i hi
    rw [noneL_get]
    unfold bitW zW
    rw [List.getD_eq_getElem?_getD, List.getElem?_replicate]
    split <;> simp

/-- All from there on are set, up to a place. -/
def AllTo (L : List Bool) (k : Int) (b : Int) : Prop := ∀ j : Int, k ≤ j → 0 ≤ j → j < b → j < L.length → hasL L j = true
theorem IsB.word {w : World} {p g : Nat} {L : List Bool} (h : IsB w p g L) (q : Nat) (hq : q < nb L.length) :
    ∃ X : Nat, w.cell? ⟨g, q, none⟩ = some (.int .u64 (X : Int)) ∧ (X = 18446744073709551615 → ∀ i : Nat, i / 64 = q → i < L.length → hasL L (i : Int) = true) := by
  obtain ⟨W, hW, hl, hx, hb⟩ := h.words
  refine ⟨W.getD q 0, by rw [cell_of_row _ _ _ _ _ _ hW, UA_get W _ (by omega)], fun hf i hi hl => ?_⟩
  rw [hasL_nat, ← hb i hl]
  unfold bitW
  rw [hi, hf]
  exact full_bit (Nat.mod_lt _ (by decide))

def FirstEnd (L : List Bool) (k : Int) (e : Ending) : Prop := ∃ x b, e = .returned (.tuple #[.int .i64 x, .bool b]) ∧ FirstIs L k x b
theorem firstEnd {L : List Bool} {k x : Int} {b : Bool} (h : FirstIs L k x b) : FirstEnd L k (.returned (.tuple #[.int .i64 x, .bool b])) := ⟨x, b, rfl, h⟩
theorem ret_ib {a b : Int} {c d : Bool} (h : a = b) (h' : c = d) : Ending.returned (.tuple #[.int .i64 a, .bool c]) = .returned (.tuple #[.int .i64 b, .bool d]) := by rw [h, h']

set_option maxRecDepth 100000 in
set_option maxHeartbeats 2000000 in
theorem first_any {p g : Nat} {L : List Bool} (k : Int) (w : World) (h : IsB w p g L) : Calls Try.prog 43 #[.pointer (some ⟨p, 0, none⟩), .int .i64 k] w fun e w' => FirstEnd L k e ∧ w = w' := by
  have h1 := h.c1
  have HB := hid h
  have HM : Hid (L.length ≤ 64 * nb L.length) := by show _ ≤ _; unfold nb; omega
  have hM : nb L.length ≤ 65 := by have := h.top; unfold nb; omega
  have HW := hid h.word
  generalize nb L.length = M at *
  go_enter Try.func43, Try.ntmps43
  go_wp2
  go_step3
  go_wp2
  go_step3
  go_wp2
  go_loop [6, 7, 16] (fun a b i => ∃ q : Nat, q ≤ M ∧ i = .int .i64 q ∧ a = .int .i64 0 ∧ b = .bool false ∧ Hid (AllTo L k ((64 * q : Nat) : Int))) (fun _ _ i => M - (intOf i).toNat)
  case atStart => exact ⟨0, by omega, rfl, rfl, rfl, fun j _ h1 h2 => by omega⟩
  case round =>
    obtain ⟨q, hq, rfl, rfl, rfl, HA⟩ := hrel
    by_cases hlt : q < M
    · have hqM : (q : Int) < (M : Int) := by omega
      obtain ⟨X, hc, HF⟩ := HW.out q hlt
      replace HF := hid HF
      by_cases hf : X = 18446744073709551615
      · have HA2 : Hid (AllTo L k ((64 * (q + 1) : Nat) : Int)) := by
          intro j j1 j2 j3 j4
          by_cases c : j < ((64 * q : Nat) : Int)
          · exact HA.out j j1 j2 c j4
          · obtain ⟨J, rfl⟩ := Int.eq_ofNat_of_zero_le j2
            exact HF.out hf J (by omega) (by omega)
        have hfi : ((X : Int) == 18446744073709551615) = true := by rw [hf]; rfl
        clear hf
        go_wp2
        exact ⟨⟨q + 1, by omega, by go_num, rfl, rfl, HA2⟩, by simp [intOf]; omega⟩
      · have hfi : ((X : Int) == 18446744073709551615) = false := by simp; omega
        clear HF hf
        by_cases hb : ((q : Int) + 1) * 64 ≤ k
        · have HA2 : Hid (AllTo L k ((64 * (q + 1) : Nat) : Int)) := fun j j1 j2 j3 j4 => by omega
          go_wp2
          exact ⟨⟨q + 1, by omega, by go_num, rfl, rfl, HA2⟩, by simp [intOf]; omega⟩
        · go_wp2
          go_loop [6, 7, 34] (fun a b i => ∃ r : Nat, r ≤ 64 ∧ i = .int .i64 r ∧ a = .int .i64 0 ∧ b = .bool false ∧ Hid (AllTo L k ((64 * q + r : Nat) : Int))) (fun _ _ i => 64 - (intOf i).toNat)
          case atStart => exact ⟨0, by omega, rfl, rfl, rfl, HA⟩
          case round =>
            clear HA
            obtain ⟨r, hr, rfl, rfl, rfl, HA⟩ := hrel
            by_cases hr2 : r < 64
            · have hri : (r : Int) < 64 := by omega
              by_cases hk : k ≤ (q : Int) * 64 + (r : Int)
              · have HP := hid fun w h => isPlace_any (p := p) (g := g) (L := L) ((q : Int) * 64 + (r : Int)) w h
                have HH := hid fun w h => has_any (p := p) (g := g) (L := L) ((q : Int) * 64 + (r : Int)) w h
                by_cases hp : (q : Int) * 64 + (r : Int) < L.length
                · rw [show placeB L ((q : Int) * 64 + (r : Int)) = true from decide_eq_true ⟨by omega, hp⟩] at HP
                  cases hh : hasL L ((q : Int) * 64 + (r : Int))
                  · have HR : Hid (FirstIs L k ((q : Int) * 64 + (r : Int)) true) := ⟨fun _ => ⟨hk, by omega, hp, hh, fun j j1 j2 j3 => HA.out j j1 j2 (by omega) (by omega)⟩, fun e => by cases e⟩
                    rw [hh] at HH
                    clear hp hh
                    go_wp2_with (first | (go_at_call 40; refine (HP.out _ HB.out).mono ?_; rintro e w1 ⟨rfl, rfl⟩) | (go_at_call 33; refine (HH.out _ HB.out).mono ?_; rintro e w1 ⟨rfl, rfl⟩))
                    try rw [Exit.noGoto_ret]
                    go_ret2
                    exact ⟨firstEnd HR.out, rfl⟩
                  · have HA2 : Hid (AllTo L k ((64 * q + (r + 1) : Nat) : Int)) := by
                      intro j j1 j2 j3 j4
                      by_cases c : j < ((64 * q + r : Nat) : Int)
                      · exact HA.out j j1 j2 c j4
                      · rw [show j = (q : Int) * 64 + (r : Int) by omega]; exact hh
                    rw [hh] at HH
                    clear hp hh
                    go_wp2_with (first | (go_at_call 40; refine (HP.out _ HB.out).mono ?_; rintro e w1 ⟨rfl, rfl⟩) | (go_at_call 33; refine (HH.out _ HB.out).mono ?_; rintro e w1 ⟨rfl, rfl⟩))
                    exact ⟨⟨r + 1, by omega, by go_num, rfl, rfl, HA2⟩, by simp [intOf]; omega⟩
                · rw [show placeB L ((q : Int) * 64 + (r : Int)) = false from decide_eq_false (fun e => hp e.2)] at HP
                  have HA2 : Hid (AllTo L k ((64 * q + (r + 1) : Nat) : Int)) := fun j j1 j2 j3 j4 => HA.out j j1 j2 (by omega) j4
                  clear hp
                  go_wp2_with (first | (go_at_call 40; refine (HP.out _ HB.out).mono ?_; rintro e w1 ⟨rfl, rfl⟩) | (go_at_call 33; refine (HH.out _ HB.out).mono ?_; rintro e w1 ⟨rfl, rfl⟩))
                  exact ⟨⟨r + 1, by omega, by go_num, rfl, rfl, HA2⟩, by simp [intOf]; omega⟩
              · have HA2 : Hid (AllTo L k ((64 * q + (r + 1) : Nat) : Int)) := fun j j1 j2 j3 j4 => by omega
                go_wp2
                exact ⟨⟨r + 1, by omega, by go_num, rfl, rfl, HA2⟩, by simp [intOf]; omega⟩
            · have HA2 : Hid (AllTo L k ((64 * (q + 1) : Nat) : Int)) := fun j j1 j2 j3 j4 => HA.out j j1 j2 (by omega) j4
              clear hr
              go_wp2
              exact ⟨⟨q + 1, by omega, by go_num, rfl, rfl, HA2⟩, by simp [intOf]; omega⟩
    · have HR : Hid (FirstIs L k 0 false) := ⟨fun e => Bool.noConfusion e, fun _ => ⟨rfl, fun j j1 j2 j3 => HA.out j j1 j2 (by have := HM.out; omega) j3⟩⟩
      clear hq
      go_wp2
      try rw [Exit.noGoto_ret]
      go_ret2
      exact ⟨firstEnd HR.out, rfl⟩

end Go.Proofs.Ytdddcllakjeplaa
