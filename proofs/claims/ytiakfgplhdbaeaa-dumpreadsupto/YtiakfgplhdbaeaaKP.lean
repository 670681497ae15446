/-
  The statements' helper kept: nodes that were lent are as they were.
-/
import Derived.Test.YtiakfgplhdbaeaaLK
namespace Go.Proofs.Ytiakfgplhdbaeaa
open Go.RowKit

theorem Lent.call {w0 w w' : World} {gN : Nat} {L : List Nod} {hs : List Nat} {vb : Value} (h : Lent w0 w gN L hs vb) (hc : Chg w w' No) : Lent w0 w' gN L hs vb :=
  ⟨h.nr.keep hc (fun e => e), h.bb.keep hc (fun _ _ e => e), rowV_keep h.vb hc (fun _ _ e => e), h.ch.tr hc, h.nN⟩
theorem rowV_at {w : World} {B n : Nat} {v : Value} {xs : List Value} (h : w.ownsRow B 29 1 v n xs) (hn : 0 < n) : ∃ g cap, v = .slice (some ⟨g, 0, none⟩) n cap ∧ n ≤ cap ∧ g < w.heap.size ∧ ∀ i x, xs[i]? = some x → w.cell? ⟨g, i, none⟩ = some x := by
  rcases h.2 with ⟨_, e⟩ | ⟨g, cap, cur, rfl, hg, hb, hc, hm, hs, ht⟩
  · omega
  · refine ⟨g, cap, rfl, hc, slt hb, fun i x hx => ?_⟩
    rw [cell_of_row _ _ _ _ _ _ hb, ← Array.getElem?_toList]
    rw [← ht] at hx
    rw [List.getElem?_take] at hx
    split at hx
    · exact hx
    · cases hx
theorem hv_get {L : List Nod} {hs : List Nat} (h : hs.length = L.length) {i : Nat} (hi : i < L.length) : (List.zipWith hv L hs)[i]? = some (hv (L.getD i Nod.z) (hs.getD i 0)) := by
  rw [List.getElem?_zipWith, List.getD_eq_getElem?_getD, List.getD_eq_getElem?_getD, List.getElem?_eq_getElem hi, List.getElem?_eq_getElem (by omega)]
  rfl
theorem F5_get {zs : List Int} {k : Nat} (h1 : zs.length ≤ k) (h2 : k < zs.length + 5) : (zs ++ F5).getD k 0 = 201 := by
  rw [List.getD_eq_getElem?_getD, List.getElem?_append_right h1]
  have c : k - zs.length = 0 ∨ k - zs.length = 1 ∨ k - zs.length = 2 ∨ k - zs.length = 3 ∨ k - zs.length = 4 := by omega
  rcases c with e | e | e | e | e <;> rw [e] <;> rfl

set_option maxHeartbeats 4000000 in
set_option maxRecDepth 100000 in
theorem kept_any (L : List Nod) (a : Option Addr) (cap gN : Nat) (hs : List Nat) (vb : Value) (w0 w : World) (h : Lent w0 w gN L hs vb) (hn : NAt w a L) (hd0 : ∀ i, i < L.length → (L.getD i Nod.z).data.length ≤ 2097152) (hl0 : L.length ≤ 5000) :
    Calls Try.prog 11 #[.agg #[.slice (some ⟨gN, 0, none⟩) (L.length + 3) (L.length + 3), vb], .slice a L.length cap] w fun e w' => e = .returned (.bool true) ∧ Chg w w' No := by

  obtain ⟨w1, hw1⟩ : ∃ y, y = w.alloc (.cells #[.slice (some ⟨gN, 0, none⟩) (L.length + 3) (L.length + 3), vb] 27) := ⟨_, rfl⟩
  have hc1 : Chg w w1 No := by rw [hw1]; exact Chg.alloc w _ No
  have hg1 : w1.heap[w.heap.size]? = some (.cells #[.slice (some ⟨gN, 0, none⟩) (L.length + 3) (L.length + 3), vb] 27 (0, 0)) := by rw [hw1]; exact heap_alloc_new w _
  have HS : Hid (∀ W, Chg w1 W No → Calls Try.prog 16 #[.slice (some ⟨gN, 0, none⟩) L.length (L.length + 3), .slice a L.length cap] W fun e w' => e = .returned (.bool true) ∧ Chg W w' No) := hid (fun W hW => by
    have hl := (h.call (hc1.tr hW)).lr.nat
    have hlen := lentL_len h.bb.len
    have := same_any (List.zipWith lentN L hs) L (some ⟨gN, 0, none⟩) a (L.length + 3) cap W hl (hn.call (hc1.tr hW)) hlen.symm (by omega) (fun i hi => by
      rw [hlen] at hi
      rw [lentL_get h.bb.len hi]
      exact ⟨rfl, rfl, rfl, rfl, rfl⟩)
    rw [hlen] at this
    exact this)
  obtain ⟨m, hm⟩ : ∃ y, y = L.length := ⟨_, rfl⟩
  have HLt := hid (fun W (hW : Chg w1 W No) => h.call (hc1.tr hW))
  have HN := hid (fun W (hW : Chg w1 W No) => hn.call (hc1.tr hW))
  have HB := hid (fun W (hW : Chg w1 W No) => hW.keep hg1 (fun e => e))
  have HD := hid hd0
  have HM := hid hm
  have HC1 := hid hc1
  rw [← hm] at HS hw1 HB hl0 ⊢
  clear h hn hd0 hm hc1 hg1
  go_enter Try.func11, Try.ntmps11
  go_upto_region 1 with fail
  rw [← hw1]
  clear hw1
  go_wp2_with fail
  go_loopw [5] (fun x5 wr => ∃ k : Nat, x5 = .int .i64 ((m : Int) + (k : Int)) ∧ k ≤ 3 ∧ wr = w1) (fun x5 _ => ((m : Int) + 3 - intOf x5).toNat)
  case atStart => exact ⟨0, by simp, Nat.zero_le _, rfl⟩
  case round =>
    obtain ⟨k, rfl, hk, rfl⟩ := hrel
    have b0 : wr.cell? ⟨w.heap.size, 0, none⟩ = some (.slice (some ⟨gN, 0, none⟩) (m + 3) (m + 3)) := (cell_of_row _ _ _ _ _ _ (HB.out wr (Chg.refl _ _))).trans rfl
    by_cases e : k = 3
    · subst e
      go_wp2_with fail
      clear b0
      obtain ⟨wb, hwb⟩ : ∃ y, y = wr := ⟨_, rfl⟩
      rw [← hwb] at HB HN HLt HS HC1 ⊢
      clear hwb
      go_loopw [6] (fun x6 wr => ∃ i : Nat, x6 = .int .i64 (i : Int) ∧ i ≤ m ∧ Hid (Chg wb wr No)) (fun x6 _ => m - (intOf x6).toNat)
      case atStart => exact ⟨0, rfl, Nat.zero_le _, hid (Chg.refl _ _)⟩
      case round =>
        obtain ⟨i, rfl, hi, HC2⟩ := hrel
        by_cases ei : i = m
        · subst ei
          have b0 : wr.cell? ⟨w.heap.size, 0, none⟩ = some (.slice (some ⟨gN, 0, none⟩) (i + 3) (i + 3)) := (cell_of_row _ _ _ _ _ _ (HB.out wr HC2.out)).trans rfl
          have hS := HS.out wr HC2.out
          have f1 : (i : Int) ≤ (i : Int) + 3 := by omega
          go_wp2_with (first
            | (go_at_call 16; go_must (refine hS.mono ?_; rintro e w4 ⟨rfl, hc4⟩; have HC4 := hid hc4; clear hc4))
            | fail)
          go_ret
          exact ⟨rfl, (HC1.out.tr HC2.out).tr HC4.out⟩
        · have f1 : (i : Int) < (m : Int) := by omega
          have hil : i < L.length := by rw [← HM.out]; omega
          obtain ⟨n, hn⟩ : ∃ y, y = L.getD i Nod.z := ⟨_, rfl⟩
          obtain ⟨h, hh⟩ : ∃ y, y = hs.getD i 0 := ⟨_, rfl⟩
          obtain ⟨b, o, rfl, hc4⟩ : ∃ b o, a = some ⟨b, o, none⟩ ∧ ∀ W, Chg wb W No → W.cell? ⟨b, o + i * 5 + 4, none⟩ = some (.slice n.da n.data.length n.dc) := by
            rcases (HN.out wr HC2.out).at_ with h | ⟨b, o, e, hb, hc⟩
            · rw [h] at hil; exact absurd hil (Nat.not_lt_zero _)
            · refine ⟨b, o, e, fun W hW => ?_⟩
              rcases (HN.out W hW).at_ with h | ⟨b', o', e', _, hc⟩
              · rw [h] at hil; exact absurd hil (Nat.not_lt_zero _)
              · rw [e] at e'
                cases e'
                exact hc i hil 4 _ (by rw [← hn]; rfl)
          have HC4 := hid hc4
          obtain ⟨gv, cv, rfl, hmc, _, _⟩ := rowV_at (HLt.out wr HC2.out).vb (by omega)
          have HVb : Hid (∀ W, Chg wb W No → W.cell? ⟨gv, i, none⟩ = some (.slice (some ⟨h, 0, none⟩) (n.data.length + 5) (n.data.length + 5))) := hid (fun W hW => by
            obtain ⟨g', c', e', _, _, hc⟩ := rowV_at (HLt.out W hW).vb (by omega)
            cases e'
            have := hc i _ (hv_get (HLt.out W hW).bb.len hil)
            rw [← hn, ← hh] at this
            exact this)
          have HBt : Hid (∀ W, Chg wb W No → ∀ k, k < n.data.length + 5 → W.cell? ⟨h, k, none⟩ = some (.int .u8 ((n.data ++ F5).getD k 0))) := hid (fun W hW k hk => by
            have := (HLt.out W hW).bb.at_ i hil
            rw [← hn, ← hh] at this
            rw [cell_of_row _ _ _ _ _ _ this]
            exact SB_get _ _ (by rw [List.length_append]; exact hk))
          have HDt : Hid (∀ W, Chg wb W No → BytesAt W n.da n.data) := hid (fun W hW => by rw [hn]; exact (HN.out W hW).data i hil)
          have hdl : (n.data.length : Int) ≤ 2097152 := by have := HD.out i hil; rw [← hn] at this; omega
          have c4 := HC4.out wr HC2.out
          have f2 : (i : Int) < (L.length : Int) := by omega
          rw [← HM.out] at hmc f2 HB
          rw [← HM.out]
          clear hn hh hc4 hil
          go_wp2_with fail
          clear c4
          obtain ⟨wi, hwi⟩ : ∃ y, y = wr := ⟨_, rfl⟩
          rw [← hwi] at HC2 ⊢
          clear hwi
          go_loopw [8] (fun x8 wr => ∃ k : Nat, x8 = .int .i64 (k : Int) ∧ k ≤ n.data.length + 5 ∧ Hid (Chg wb wr No)) (fun x8 _ => (n.data.length + 5) - (intOf x8).toNat)
          case atStart => exact ⟨0, rfl, Nat.zero_le _, HC2⟩
          case round =>
            obtain ⟨q, rfl, hq, HC3⟩ := hrel
            by_cases eq : q = n.data.length + 5
            · subst eq
              go_wp2_with fail
              exact ⟨⟨i + 1, by go_num, by omega, HC3⟩, by simp [intOf]; omega⟩
            · have g1 : (q : Int) < (n.data.length : Int) + 5 := by omega
              have b1 : wr.cell? ⟨w.heap.size, 1, none⟩ = some (.slice (some ⟨gv, 0, none⟩) m cv) := (cell_of_row _ _ _ _ _ _ (HB.out wr HC3.out)).trans rfl
              have v1 := HVb.out wr HC3.out
              have t1 := HBt.out wr HC3.out q (by omega)
              have c4 := HC4.out wr HC3.out
              by_cases eq2 : q < n.data.length
              · have g2 : (q : Int) < (n.data.length : Int) := by omega
                have g3 : decide (n.data.length ≤ q) = false := decide_eq_false (by omega)
                obtain ⟨b2, o2, e2, _, hcd⟩ : ∃ b o, n.da = some ⟨b, o, none⟩ ∧ b < wr.heap.size ∧ ∀ j, j < n.data.length → wr.cell? ⟨b, o + j, none⟩ = some (.int .u8 (n.data.getD j 0)) := by
                  rcases HDt.out wr HC3.out with h | h
                  · rw [h] at eq2; exact absurd eq2 (Nat.not_lt_zero _)
                  · exact h
                have d1 := hcd q eq2
                rw [getD_left eq2] at t1
                rw [e2] at c4
                generalize n.data.getD q 0 = y at *
                clear hcd
                go_wp2_with fail
                go_quiet (fail)
                go_wp2_with fail
                exact ⟨⟨q + 1, by go_num, by omega, hid (HC3.out.tr (chg_drewN wr _))⟩, by simp [intOf]; omega⟩
              · have g2 : decide (q < n.data.length) = false := decide_eq_false (by omega)
                have g4 : n.data.length ≤ q := by omega
                have g3 : (n.data.length : Int) ≤ (q : Int) := by omega
                rw [F5_get (by omega) (by omega)] at t1
                go_wp2_with fail
                go_quiet (fail)
                go_wp2_with fail
                exact ⟨⟨q + 1, by go_num, by omega, hid (HC3.out.tr (chg_drewN wr _))⟩, by simp [intOf]; omega⟩
    · have f1 : (m : Int) + (k : Int) < (m : Int) + 3 := by omega
      have f2 : (0 : Int) ≤ (m : Int) + (k : Int) := by omega
      have tN : ((m : Int) + (k : Int)).toNat = m + k := by omega
      have hrow := (HLt.out wr (Chg.refl _ _)).nr.range (rowsM_mark (z := 0) (HLt.out wr (Chg.refl _ _)).bb.len (show k < 3 by omega))
      rw [← HM.out] at hrow
      have p0 : wr.cell? ⟨gN, (m + k) * 5, none⟩ = some (.string ⟨#[109, 97, 114, 107]⟩) := hrow 0 _ rfl
      have p4 : wr.cell? ⟨gN, (m + k) * 5 + 4, none⟩ = some (.slice none 0 0) := hrow 4 _ rfl
      clear hrow
      go_wp2_with fail
      exact ⟨⟨k + 1, by go_num, by omega, trivial⟩, by simp [intOf]; omega⟩
end Go.Proofs.Ytiakfgplhdbaeaa
