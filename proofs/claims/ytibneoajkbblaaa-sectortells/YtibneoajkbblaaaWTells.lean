/-
  SectorTells returns true, for every list of steps: the walk.
-/
import Derived.Test.YtibneoajkbblaaaTold2
import Derived.Test.YtibneoajkbblaaaWKnown
namespace Go.Proofs.Ytibneoajkbblaaa
open Go.RowKit

theorem told_any (kd : Int) (s : List Int) (p n v : Int) (ad : Option Addr) (cap : Nat) (zs : List Int) (w : World) (hs : IsSec s) (hk : I64 kd) (hm : zs.length ≤ 140737488355328) (hz : BytesAt w ad zs) :
    Calls Try.prog 10 #[.agg (stepC kd s p n v ad zs.length cap)] w fun e w' => e = .returned (.bool true) ∧ Below w.heap.size w w' := by
  have hpk := fun w => pick_any kd 5 w hk (by decide) (by decide)
  have hb := pickN_bd kd (show (1 : Int) ≤ 5 by decide)
  generalize pickN kd 5 = j at *
  have c : j = 0 ∨ j = 1 ∨ j = 2 ∨ j = 3 ∨ j = 4 := by omega
  rcases c with rfl | rfl | rfl | rfl | rfl
  · exact told_0 kd s p n v ad zs.length cap w hs hpk
  · exact told_1 kd s p n v ad zs.length cap w hs hpk
  · exact told_2 kd s p n v ad zs.length cap w hs zs rfl hm hz hpk
  · exact told_3 kd s p n v ad zs.length cap w hs hpk
  · exact told_4 kd s p n v ad zs.length cap w hs hpk

/-- A step lies in memory from a place on. -/
def StepAt (w : World) (b o : Nat) (C : Array Value) : Prop :=
  ∃ (kd : Int) (s : List Int) (p n v : Int) (ad : Option Addr) (cap : Nat) (zs : List Int), C = stepC kd s p n v ad zs.length cap ∧ IsSec s ∧ I64 kd ∧ zs.length ≤ 140737488355328 ∧ BytesAt w ad zs ∧ w.rangeAt b o C.toList
theorem step_size (kd : Int) (s : List Int) (p n v : Int) (ad : Option Addr) (L cap : Nat) (hs : s.length = 128) : (stepC kd s p n v ad L cap).toList.length = 133 := by simp [stepC, hs]
theorem sz29 : (Try.prog.info? 29).map (·.size) = some 133 := by kernel_rfl

theorem load_step {ops : Array Oper} {rest : List Oper} {o : Oper} {a : Act} {w : World} {Q : Exit → Act → World → Prop} (hgd : o.guard = none) (x : Operand) (ho : o.op = .load 29 x)
    (g k : Nat) (hx : a.eval x = .pointer (some ⟨g, k, none⟩)) (C : Array Value) (hc : C.toList.length = 133) (hg : w.rangeAt g k C.toList)
    (h : wpList Try.prog ops Q rest (a.put o.dst (.agg C)) w) : wpList Try.prog ops Q (o :: rest) a w :=
  wpList_load_mid hgd 29 x ho g k hx C.toList _ hg Try.underlying29 rfl (by rw [sz29, hc]) h

set_option maxRecDepth 100000 in
set_option maxHeartbeats 1000000 in
theorem tells_walk (a : Option Addr) (len cap : Nat) (w : World) (hl : len ≤ 9223372036854775807)
    (h : len = 0 ∨ ∃ b o, a = some ⟨b, o, none⟩ ∧ b < w.heap.size ∧ ∀ i, i < len → ∃ C, StepAt w b (o + i * 133) C) :
    Calls Try.prog 4 #[.slice a len cap] w fun e w' => e = .returned (.bool true) ∧ Below w.heap.size w w' := by
  have H := hid h
  clear h
  go_enter Try.func4, Try.ntmps4
  go_wp2_with fail
  go_loopw [3] (fun i wr => ∃ k : Nat, k ≤ len ∧ i = .int .i64 k ∧ Below w.heap.size w wr) (fun i _ => len - (intOf i).toNat)
  case atStart => exact ⟨0, by omega, rfl, Below.refl _ _⟩
  case round =>
    obtain ⟨k, hk, rfl, hb⟩ := hrel
    by_cases hlt : k < len
    · rcases H.out with h0 | ⟨b, o, rfl, hbl, hst⟩
      · omega
      · obtain ⟨C, kd, s, p, n, v, ad, cp, zs, rfl, hs, hkd, hm, hz, hr⟩ := hst k hlt
        have hr' : wr.rangeAt b (o + k * 133) (stepC kd s p n v ad zs.length cp).toList := by
          intro j x hj
          rw [hb.cell (p := ⟨b, o + k * 133 + j, none⟩) hbl]
          exact hr j x hj
        have HT := hid fun w1 (h : Below w.heap.size w w1) => told_any kd s p n v ad cp zs w1 hs hkd hm (bytes_below hz h)
        have hsz := step_size kd s p n v ad zs.length cp hs.1
        have HRR := hid hr'
        have hkl : (k : Int) < (len : Int) := by omega
        generalize stepC kd s p n v ad zs.length cp = C at *
        clear hr hr' hst hz
        go_wp2_with (refine load_step rfl _ rfl b (o + k * 133) rfl C hsz HRR.out ?_)
        refine (HT.out _ hb).mono ?_
        rintro e w1 ⟨rfl, hb1⟩
        have b1 : Below w.heap.size w w1 := hb.trans (hb1.mono hb.size)
        clear hb1
        go_wp2_with fail
        exact ⟨⟨k + 1, by omega, by go_num, b1⟩, by simp [intOf]; omega⟩
    · clear hk
      go_wp2_with fail
      go_loopw [4] (fun i wr => ∃ c : Int, -1 ≤ c ∧ c < (len : Int) ∧ i = .int .i64 c ∧ Below w.heap.size w wr) (fun i _ => (intOf i + 1).toNat)
      case atStart => exact ⟨(len : Int) - 1, by omega, by omega, rfl, hb⟩
      case round =>
        obtain ⟨c, hc0, hc1, rfl, hb2⟩ := hrel
        by_cases hc : 0 ≤ c
        · rcases H.out with h0 | ⟨b, o, rfl, hbl, hst⟩
          · omega
          · obtain ⟨C, kd, s, p, n, v, ad, cp, zs, rfl, hs, hkd, hm, hz, hr⟩ := hst c.toNat (by omega)
            have hr' : wr.rangeAt b (o + c.toNat * 133) (stepC kd s p n v ad zs.length cp).toList := by
              intro j x hj
              rw [hb2.cell (p := ⟨b, o + c.toNat * 133 + j, none⟩) hbl]
              exact hr j x hj
            have HT := hid fun w1 (h : Below w.heap.size w w1) => told_any kd s p n v ad cp zs w1 hs hkd hm (bytes_below hz h)
            have hsz := step_size kd s p n v ad zs.length cp hs.1
            have HRR := hid hr'
            generalize stepC kd s p n v ad zs.length cp = C at *
            clear hr hr' hst hz
            go_wp2_with (refine load_step rfl _ rfl b (o + c.toNat * 133) rfl C hsz HRR.out ?_)
            refine (HT.out _ hb2).mono ?_
            rintro e w1 ⟨rfl, hb1⟩
            have b1 : Below w.heap.size w w1 := hb2.trans (hb1.mono hb2.size)
            clear hb1
            go_wp2_with fail
            exact ⟨⟨c - 1, by omega, by omega, by go_num, b1⟩, by simp [intOf]; omega⟩
        · go_wp2_with (go_at_call 9; refine (known_any _).mono ?_; rintro e w9 ⟨rfl, hb9⟩)
          go_ret
          exact ⟨rfl, hb2.trans (hb9.mono hb2.size)⟩

end Go.Proofs.Ytibneoajkbblaaa
