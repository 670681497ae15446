/-
  GraphSwaps, walked: the same edges, added in another order, make the same graph.
-/
import Derived.Test.YtjnafcogdakbbabLawSw
import Derived.Test.YtjnafcogdakbbabIntsIn
namespace Go.Proofs.Ytjnafcogdakbbab
open Go.RowKit

theorem chg_drew1 (w : World) : Chg w w.drew No := (Chg.refl w No).drew
theorem edK_mem1 {l : List (Int × Int)} {k : Nat} (hk : k < l.length) : edK l k ∈ l := by
  have e : edK l k = l[k] := by simp [edK, hk]
  rw [e]
  exact List.getElem_mem _
theorem take_mem1 {l : List (Int × Int)} {k : Nat} (hk : k < l.length) (z : Int × Int) : z ∈ l.take (k + 1) ↔ z ∈ l.take k ∨ z = edK l k := by
  have e : edK l k = l[k] := by simp [edK, hk]
  rw [List.take_succ_eq_append_getElem hk, List.mem_append, List.mem_singleton, e]
theorem eat_of_row {w : World} {base n c : Nat} {a : Option Addr} {l : List (Int × Int)} (h : Edgs w base (.slice a n c) l) : EAt w a l := by
  obtain ⟨a', c', e, hE, _⟩ := h.at_
  cases e
  exact hE

set_option maxRecDepth 100000 in
set_option maxHeartbeats 8000000 in
theorem swaps_walk (ws : List StV) (ad : Option Addr) (cap : Nat) (ts : List Int) (at_ : Option Addr) (ct : Nat) (w : World) (hl : ws.length ≤ 140737488355328) (hz : ScriptAt w ad ws) (hok : ∀ s, s ∈ ws → s.OK)
    (hlt : ts.length ≤ 140737488355328) (hzt : IntsAt w at_ ts) (hokt : ∀ x, x ∈ ts → I64 x) :
    Calls Try.prog 4 #[.slice ad ws.length cap, .slice at_ ts.length ct] w fun e w' => e = .returned (.bool true) ∧ Below w.heap.size w w' := by
  have HK := known_any w
  have HZ := hid hz
  have HT := hid hzt
  clear hz hzt
  generalize hNt : ts.length = Nt at *
  go_enter Try.func4, Try.ntmps4
  go_wp2_with (first
    | (go_at_call 5; go_must (refine HK.mono ?_; rintro e w1 ⟨rfl, c1⟩; have HM := made_any ws ad cap w1 hl (HZ.out.keep c1) hok; clear HK))
    | (go_at_call 6; go_must (refine HM.mono ?_; rintro e w2 ⟨p, own, E, rfl, hG, ho, c2⟩; have HN := new_any w2; clear HM))
    | (go_at_call 13; go_must (refine HN.mono ?_; rintro e w3 ⟨q, ow, rfl, hH, ho2, c3⟩; have HE1 := edgesG_any (hG.call c3); clear HN))
    | (go_at_call 8; go_must (refine HE1.mono ?_; rintro e w4 ⟨v, l, rfl, hv, hL, c4⟩; obtain ⟨al, cl, rfl, hA, hAb⟩ := hv.at_; clear HE1; have hll := elist_len hL hG.sec; have hA' := hA.call (Chg.alloc w4 (.cells #[] 32) No); have hE0 : Edgs (w4.alloc (.cells #[] 32)) w4.heap.size (.slice (some ⟨w4.heap.size, 0, none⟩) 0 0) [] := ⟨rfl, .inr ⟨w4.heap.size, 0, #[], rfl, Nat.le_refl _, heap_alloc_new _ _, Nat.le_refl _, Nat.zero_le _, rfl, rfl⟩⟩))
    | (at_builtin; go_must (refine wp_copyE rfl _ _ rfl w4.heap.size cl (.slice (some ⟨w4.heap.size, 0, none⟩) 0 0) l al rfl rfl hE0 hA' (by omega) (by simp) ?_; intro v5 w5 h51 h52))
    | fail)
  have C4 : Chg w w4 No := ((c1.tr c2).tr c3).tr c4
  have c5 : Chg w4 w5 No := (Chg.alloc w4 (.cells #[] 32) No).trans h52 (fun _ _ e => e) (fun j hj e => by have h0 : w4.heap.size = j := (by simpa [Value.ownBlock] using e); omega)
  have hA5 := hA.call c5
  have hH5 := (hH.call c4).call c5
  have hNR := hG.ring
  have hSec := hG.sec
  have z1 := c1.size
  have z2 := c2.size
  have z3 := c3.size
  have z4 := c4.size
  have hoo : ∀ k, ow k → w.heap.size ≤ k ∧ k < w3.heap.size := fun k hk => by have := ho2 k hk; omega
  have hNt0 : (0 : Int) ≤ (Nt : Int) := by omega
  have HX := hid (And.intro (C4.tr c5) (And.intro hA5 (And.intro hH5 (And.intro hoo hAb))))
  have z5 := c5.size
  have hAl4 : ∀ g, al = some ⟨g, 0, none⟩ → g < w4.heap.size := fun g e => by
    subst e
    exact (row_ge hv rfl).2
  clear hv hA hA' hE0 hG hH c1 c2 c3 c4 C4 ho ho2 hAb h52 hA5 hH5 hoo
  obtain ⟨am, cm, rfl⟩ := row_shape h51
  generalize hN : l.length = N at *
  go_loopw [10] (fun i wr => ∃ (k : Nat) (m : List (Int × Int)) (wq : World), wq = wr ∧ k ≤ Nt ∧ i = .int .i64 k ∧ Edgs wq w4.heap.size (.slice am N cm) m ∧ m.Perm l ∧ Chg w5 wq (fun j => Value.ownBlock (.slice am N cm) = some j)) (fun i _ => Nt - (intOf i).toNat)
  case atStart => exact ⟨0, l, _, rfl, by omega, rfl, h51, List.Perm.refl _, Chg.refl _ _⟩
  case round =>
    obtain ⟨k, m, wA, rfl, hk, rfl, hrow, hperm, hc⟩ := hrel
    have hmN : m.length = N := by rw [hperm.length_eq, hN]
    by_cases hgo : k < Nt ∧ 0 < N
    · obtain ⟨hk1, hN0⟩ := hgo
      rcases HT.out.call (HX.out.1.trans hc (c := No) (fun _ _ e => e) (fun j hj e => by have := (row_ge hrow e).1; have := HX.out.1.size; omega)) with h0 | ⟨bt, ot, rfl, hbt, hct⟩
      · rw [h0] at hNt; simp at hNt; omega
      have hcell := hct k (by omega)
      have hI := hokt (ts.getD k 0) (by rw [List.getD_eq_getElem?_getD, List.getElem?_eq_getElem (by omega)]; exact List.getElem_mem _)
      generalize ts.getD k 0 = t at hcell hI
      have HP := fun w => pick_any t (N : Int) w hI (by omega) (by omega)
      obtain ⟨hp0, hp1⟩ := pickN_bd t (n := (N : Int)) (by omega)
      obtain ⟨j, hj⟩ : ∃ j : Nat, pickN t (N : Int) = (j : Int) := ⟨(pickN t (N : Int)).toNat, by omega⟩
      rw [hj] at HP
      have hjN : j < N := by omega
      have hrem : Int.tmod (k : Int) (N : Int) = ((k % N : Nat) : Int) := rfl
      have hiN : k % N < N := Nat.mod_lt _ hN0
      generalize k % N = i at hrem hiN
      have hn0 : ((N : Int) == 0) = false := by simp; omega
      obtain ⟨gm, cm', he, hgm, hgm2, hcm⟩ := row_cells hrow (by omega)
      rw [hmN] at he
      cases he
      obtain ⟨p1, q1⟩ := EAt.cells hcm (k := i) (by omega)
      obtain ⟨p2, q2⟩ := EAt.cells hcm (k := j) (by omega)
      have hsp : ((m.set i (edK m j)).set j (edK m i)).Perm m := by
        have e1 : edK m i = m[i]'(by omega) := by simp [edK, show i < m.length by omega]
        have e2 : edK m j = m[j]'(by omega) := by simp [edK, show j < m.length by omega]
        rw [e1, e2]
        exact List.set_set_perm (by omega) (by omega)
      generalize hxi : edK m i = xi at *
      generalize hxj : edK m j = xj at *
      have hi0 : (0 : Int) ≤ (i : Int) := by omega
      have hi1 : (i : Int) < (N : Int) := by omega
      have hj0 : (0 : Int) ≤ (j : Int) := by omega
      have hj1 : (j : Int) < (N : Int) := by omega
      have hk0 : (0 : Int) ≤ (k : Int) := by omega
      have hk2 : (k : Int) < (Nt : Int) := by omega
      have hNp : (0 : Int) < (N : Int) := by omega
      have hrow' : Edgs wA w4.heap.size (.slice (some ⟨gm, 0, none⟩) m.length cm) m := by rw [hmN]; exact hrow
      have hcX := Chg.alloc wA (.cells #[.int .i64 xi.1, .int .i64 xi.2] 32) No
      have hE1 : Edgs (wA.alloc (.cells #[.int .i64 xi.1, .int .i64 xi.2] 32)) w4.heap.size (.slice (some ⟨gm, 0, none⟩) m.length cm) m := row_keep hrow' hcX (fun _ _ e => e)
      have r2 := cell_keep p2 hcX hgm2 (fun e => e)
      have s2 := cell_keep q2 hcX hgm2 (fun e => e)
      have Hrow := hid (And.intro hrow hct)
      clear hrow hcm hct hxi hxj hp0 hp1 hj
      go_wp2_with (first
        | (go_at_call 7; go_must (refine (HP _).mono ?_; rintro e w6 ⟨rfl, rfl⟩))
        | (refine wp_storeE rfl _ _ rfl w4.heap.size gm cm i m xj rfl rfl hE1 (by omega) ?_; intro w7 h71 h72; have hxa := cell_keep (w := wA.alloc (.cells #[.int .i64 xi.1, .int .i64 xi.2] 32)) (g := wA.heap.size) (j := 0) (v := .int .i64 xi.1) (by rw [cell_of_row _ _ _ _ _ _ (heap_alloc_new _ _)]; rfl) h72 (by simp) (by omega); have hxb := cell_keep (w := wA.alloc (.cells #[.int .i64 xi.1, .int .i64 xi.2] 32)) (g := wA.heap.size) (j := 1) (v := .int .i64 xi.2) (by rw [cell_of_row _ _ _ _ _ _ (heap_alloc_new _ _)]; rfl) h72 (by simp) (by omega); have hE2 : Edgs w7 w4.heap.size (.slice (some ⟨gm, 0, none⟩) (m.set i xj).length cm) (m.set i xj) := (by rw [List.length_set]; exact h71))
        | (refine wp_storeE rfl _ _ rfl w4.heap.size gm cm j (m.set i xj) xi rfl rfl hE2 (by rw [List.length_set]; omega) ?_; intro w8 h81 h82)
        | fail)
      go_roundw
      case rel =>
        refine ⟨k + 1, (m.set i xj).set j xi, _, rfl, by omega, by go_num, ?_, hsp.trans hperm, ?_⟩
        · rw [List.length_set, hmN] at h81
          exact h81
        · exact hc.trans (hcX.trans (h72.trans h82 (c := (· = gm)) (fun _ _ e => e) (fun _ _ e => e)) (c := (· = gm)) (fun _ _ e => e.elim) (fun _ _ e => e)) (fun _ _ e => e) (fun j _ e => by rw [e]; rfl)
      case measure => simp [intOf]; omega
    · have hgmw : ∀ g, am = some ⟨g, 0, none⟩ → w4.heap.size ≤ g ∧ g < wA.heap.size := fun g e => by
        subst e
        exact row_ge hrow rfl
      have hcN : Chg w5 wA (fun j => w4.heap.size ≤ j) := hc.mono fun j _ e => (row_ge hrow e).1
      have hAlw : ∀ g, al = some ⟨g, 0, none⟩ → g < w4.heap.size := hAl4
      have hAlt : ∀ g, al = some ⟨g, 0, none⟩ → g < wA.heap.size := fun g e => by have := hAlw g e; have := hc.size; omega
      have HAm := hid (eat_of_row hrow)
      have HY := hid (And.intro (HX.out.2.2.1.keep hcN (fun k hk e => by have := HX.out.2.2.2.1 k hk; omega)) (And.intro (HX.out.2.1.keep hcN (fun g e k => by have := hAlw g e; omega)) (HX.out.1.trans hcN (c := No) (fun _ _ e => e) (fun j hj e => by omega))))
      have hszc := hc.size
      have hk0 : (0 : Int) ≤ (k : Int) := by omega
      clear hrow
      by_cases hk1 : k < Nt
      · have hNz : N = 0 := by
          rcases Nat.eq_zero_or_pos N with e | e
          · exact e
          · exact absurd ⟨hk1, e⟩ hgo
        have hk2 : (k : Int) < (Nt : Int) := by omega
        have hN00 : ¬ ((0 : Int) < (N : Int)) := by omega
        have HNz := hid hNz
        clear hNz
        have hmE : EAt wA am m := HAm.out
        go_wp2_with fail
        go_loopw [14] (fun i wr => ∃ (kk : Nat) (F : Int → Int → Prop) (o2 : Nat → Prop) (wq : World), wq = wr ∧ kk ≤ N ∧ i = .int .i64 kk ∧ IsG wq q o2 F ∧ (∀ x y, F x y ↔ (x, y) ∈ m.take kk) ∧ (∀ j, o2 j → w.heap.size ≤ j ∧ (j < w3.heap.size ∨ wA.heap.size ≤ j) ∧ j < wq.heap.size) ∧ EAt wq am m ∧ EAt wq al l ∧ Chg w wq No ∧ wA.heap.size ≤ wq.heap.size) (fun i _ => N - (intOf i).toNat)
        case atStart => exact ⟨0, _, ow, _, rfl, by omega, rfl, HY.out.1, fun x y => by simp, fun j hj => ⟨(HX.out.2.2.2.1 j hj).1, .inl (HX.out.2.2.2.1 j hj).2, by have := (HX.out.2.2.2.1 j hj).2; have := hc.size; omega⟩, hmE, HY.out.2.1, HY.out.2.2, Nat.le_refl _⟩
        case round =>
          obtain ⟨kk, F, o2, wB, rfl, hkk, rfl, hGB, hF, hoB, hmB, hlB, hcB, hzB⟩ := hrel
          by_cases hlt2 : kk < N
          · rcases hmB with h0 | ⟨gm, rfl, hgl, h1⟩
            · rw [h0] at hmN; simp at hmN; omega
            obtain ⟨p1, q1⟩ := EAt.cells h1 (k := kk) (by omega)
            have hmem : edK m kk ∈ m := edK_mem1 (by omega)
            have htk : ∀ z, z ∈ m.take (kk + 1) ↔ z ∈ m.take kk ∨ z = edK m kk := fun z => take_mem1 (by omega) z
            have hEy : E (edK m kk).1 (edK m kk).2 := (hL.2 _).1 (hperm.mem_iff.1 hmem)
            have hFE : ∀ a b, F a b → E a b := fun a b hab => (hL.2 (a, b)).1 (hperm.mem_iff.1 (List.mem_of_mem_take ((hF a b).1 hab)))
            obtain ⟨hs1, hs2⟩ := hSec _ _ hEy
            generalize edK m kk = y at *
            have hnr : ¬ Reach F y.2 y.1 := fun k => by
              rcases k with e | e
              · exact hNR _ (.one (e ▸ hEy))
              · exact hNR _ (.more hEy (e.mono hFE))
            have hgn : ¬ o2 gm := fun e => by
              have h2 := hoB gm e
              have h3 := hgmw gm rfl
              omega
            have hi0 : (0 : Int) ≤ (kk : Int) := by omega
            have hi1 : (kk : Int) < (N : Int) := by omega
            have hln : ∀ g, al = some ⟨g, 0, none⟩ → ¬ o2 g := fun g e k => by
              have h2 := hoB g k
              have h3 := HX.out.2.2.2.2 g e
              have h4 := hAlt g e
              omega
            have HQ := hid (And.intro hGB (And.intro hlB hcB))
            have H1 := hid h1
            clear hGB hlB hcB h1
            go_wp2_with fail
            refine wp_region_noPanic ?_
            refine wp_region_held_drew (S := fun w' => w'.cell? ⟨gm, kk * 2, none⟩ = some (.int .i64 y.1) ∧ w'.cell? ⟨gm, kk * 2 + 1, none⟩ = some (.int .i64 y.2)) (by kernel_rfl) ⟨p1, q1⟩ (fun hHeld => ?_)
            refine takeVal 0 79 (.pointer (some ⟨q, 0, none⟩)) rfl (by kernel_rfl) (by kernel_rfl) (by kernel_rfl) rfl (by rfl) (fun _ _ _ h => h) hHeld (fun _ hw' => rfl) ?_
            simp only [List.setIfInBounds_toArray, List.set_cons_zero, List.set_cons_succ]
            refine takeVal 1 80 (.slice (some ⟨gm, 0, none⟩) N cm) rfl (by kernel_rfl) (by kernel_rfl) (by kernel_rfl) rfl (by rfl) (fun _ _ _ h => h) hHeld (fun _ hw' => rfl) ?_
            simp only [List.setIfInBounds_toArray, List.set_cons_zero, List.set_cons_succ]
            refine takeVal 2 81 (.int .i64 (kk : Int)) rfl (by kernel_rfl) (by kernel_rfl) (by kernel_rfl) rfl (by rfl) (fun _ _ _ h => h) hHeld (fun _ hw' => rfl) ?_
            simp only [List.setIfInBounds_toArray, List.set_cons_zero, List.set_cons_succ]
            refine takeVal 3 82 (.pointer (some ⟨gm, kk * 2, none⟩)) rfl (by kernel_rfl) (by kernel_rfl) (by kernel_rfl) rfl (by rfl) (fun _ _ _ h => h) hHeld (fun _ hw' => by go_simp) ?_
            simp only [List.setIfInBounds_toArray, List.set_cons_zero, List.set_cons_succ]
            refine takeVal 4 83 (.pointer (some ⟨gm, kk * 2, none⟩)) rfl (by kernel_rfl) (by kernel_rfl) (by kernel_rfl) rfl (by rfl) (fun _ _ _ h => h) hHeld (fun _ hw' => by go_simp) ?_
            simp only [List.setIfInBounds_toArray, List.set_cons_zero, List.set_cons_succ]
            refine takeVal 5 84 (.int .i64 y.1) rfl (by kernel_rfl) (by kernel_rfl) (by kernel_rfl) rfl (by rfl) (fun _ _ _ h => h) hHeld (fun _ hw' => by obtain ⟨l1, l2⟩ := hw'; go_simp) ?_
            simp only [List.setIfInBounds_toArray, List.set_cons_zero, List.set_cons_succ]
            refine takeVal 6 85 (.slice (some ⟨gm, 0, none⟩) N cm) rfl (by kernel_rfl) (by kernel_rfl) (by kernel_rfl) rfl (by rfl) (fun _ _ _ h => h) hHeld (fun _ hw' => rfl) ?_
            simp only [List.setIfInBounds_toArray, List.set_cons_zero, List.set_cons_succ]
            refine takeVal 7 86 (.int .i64 (kk : Int)) rfl (by kernel_rfl) (by kernel_rfl) (by kernel_rfl) rfl (by rfl) (fun _ _ _ h => h) hHeld (fun _ hw' => rfl) ?_
            simp only [List.setIfInBounds_toArray, List.set_cons_zero, List.set_cons_succ]
            refine takeVal 8 87 (.pointer (some ⟨gm, kk * 2, none⟩)) rfl (by kernel_rfl) (by kernel_rfl) (by kernel_rfl) rfl (by rfl) (fun _ _ _ h => h) hHeld (fun _ hw' => by go_simp) ?_
            simp only [List.setIfInBounds_toArray, List.set_cons_zero, List.set_cons_succ]
            refine takeVal 9 88 (.pointer (some ⟨gm, kk * 2 + 1, none⟩)) rfl (by kernel_rfl) (by kernel_rfl) (by kernel_rfl) rfl (by rfl) (fun _ _ _ h => h) hHeld (fun _ hw' => by go_simp) ?_
            simp only [List.setIfInBounds_toArray, List.set_cons_zero, List.set_cons_succ]
            refine takeVal 10 89 (.int .i64 y.2) rfl (by kernel_rfl) (by kernel_rfl) (by kernel_rfl) rfl (by rfl) (fun _ _ _ h => h) hHeld (fun _ hw' => by obtain ⟨l1, l2⟩ := hw'; go_simp) ?_
            simp only [List.setIfInBounds_toArray, List.set_cons_zero, List.set_cons_succ]
            refine step1 11 (by kernel_rfl) ?_
            refine stCall 11 90 14 #[.pointer (some ⟨q, 0, none⟩), .int .i64 y.1, .int .i64 y.2] _ rfl rfl (by rfl) (by go_simp) (addG_any y.1 y.2 (HQ.out.1.call (chg_drew1 _)) hs1.i64 hs2.i64) ?_
            rintro e w9 ⟨cc, F', ow', rfl, hAd, hG9, s9, d9⟩
            obtain ⟨rfl, rfl⟩ := added_ok hAd hs1 hs2 hnr
            have hHeld := And.intro (cell_keep hHeld.1 d9 hgl hgn) (cell_keep hHeld.2 d9 hgl hgn)
            refine ⟨_, rfl, hHeld, ?_⟩
            simp only [List.setIfInBounds_toArray, List.set_cons_zero, List.set_cons_succ]
            refine takeVal 12 91 (.bool false) rfl (by kernel_rfl) (by kernel_rfl) (by kernel_rfl) rfl (by rfl) (fun _ _ _ h => h) hHeld (fun _ hw' => by go_simp) ?_
            simp only [List.setIfInBounds_toArray, List.set_cons_zero, List.set_cons_succ]
            refine wpAnyH_done (by kernel_rfl) ?_ _
            refine NoPanic.normal ?_
            obtain ⟨hGB, hlB, hcB⟩ := HQ.out
            have d9' : Chg wB w9 o2 := (chg_drew1 wB).trans d9 (fun _ _ e => e.elim) (fun _ _ e => e)
            have hz9 := d9'.size
            clear hHeld
            go_wp2_with fail
            go_roundw
            case rel =>
              refine ⟨kk + 1, addE F y.1 y.2, ow', _, rfl, by omega, by go_num, hG9, fun a b => ?_, fun j hj => ?_, .inr ⟨gm, rfl, by omega, fun j u hu => cell_keep (H1.out j u hu) d9' hgl hgn⟩, hlB.keep d9' hln, hcB.trans d9' (fun _ _ e => e) (fun j hj e => by have := (hoB j e).1; omega), by omega⟩
              · rw [htk]
                unfold addE
                rw [hF]
                constructor
                · rintro (⟨rfl, rfl⟩ | e)
                  · exact .inr rfl
                  · exact .inl e
                · rintro (e | e)
                  · exact .inr e
                  · cases e; exact .inl ⟨rfl, rfl⟩
              · rcases s9 j hj with e | e
                · have := hoB j e; omega
                · have e : wB.heap.size ≤ j ∧ j < w9.heap.size := e; have := HX.out.1.size; omega
            case measure => simp [intOf]; omega
          · obtain rfl : kk = N := by omega
            have hFF : ∀ a b, F a b ↔ E a b := fun a b => by rw [hF, ← hmN, List.take_length, hperm.mem_iff]; exact hL.2 (a, b)
            have HE2 := edgesG_any hGB
            have Hlb := hid (And.intro hlB hcB)
            clear hGB hlB hcB hmB
            go_wp2_with (first
              | (go_at_call 8; go_must (refine HE2.mono ?_; rintro e w10 ⟨v10, l10, rfl, hv10, hL10, c10⟩; obtain rfl : l10 = l := elist_eq hL10 hL.1 (fun x => (hL.2 x).trans (hFF _ _).symm); obtain ⟨a10, ca10, rfl, hA10, _⟩ := hv10.at_; have HQ2 := edges_any l10 a10 al ca10 cl w10 (by omega) hA10 (Hlb.out.1.call c10); rw [hN] at HQ2))
              | (go_at_call 10; go_must (refine HQ2.mono ?_; rintro e w11 ⟨rfl, n11, rfl⟩))
              | fail)
            go_ret
            exact ⟨rfl, ((Hlb.out.2.tr c10).tr (chg_drewN w10 n11)).below⟩
      · obtain rfl : k = Nt := by omega
        have hmE : EAt wA am m := HAm.out
        go_wp2_with fail
        go_loopw [14] (fun i wr => ∃ (kk : Nat) (F : Int → Int → Prop) (o2 : Nat → Prop) (wq : World), wq = wr ∧ kk ≤ N ∧ i = .int .i64 kk ∧ IsG wq q o2 F ∧ (∀ x y, F x y ↔ (x, y) ∈ m.take kk) ∧ (∀ j, o2 j → w.heap.size ≤ j ∧ (j < w3.heap.size ∨ wA.heap.size ≤ j) ∧ j < wq.heap.size) ∧ EAt wq am m ∧ EAt wq al l ∧ Chg w wq No ∧ wA.heap.size ≤ wq.heap.size) (fun i _ => N - (intOf i).toNat)
        case atStart => exact ⟨0, _, ow, _, rfl, by omega, rfl, HY.out.1, fun x y => by simp, fun j hj => ⟨(HX.out.2.2.2.1 j hj).1, .inl (HX.out.2.2.2.1 j hj).2, by have := (HX.out.2.2.2.1 j hj).2; have := hc.size; omega⟩, hmE, HY.out.2.1, HY.out.2.2, Nat.le_refl _⟩
        case round =>
          obtain ⟨kk, F, o2, wB, rfl, hkk, rfl, hGB, hF, hoB, hmB, hlB, hcB, hzB⟩ := hrel
          by_cases hlt2 : kk < N
          · rcases hmB with h0 | ⟨gm, rfl, hgl, h1⟩
            · rw [h0] at hmN; simp at hmN; omega
            obtain ⟨p1, q1⟩ := EAt.cells h1 (k := kk) (by omega)
            have hmem : edK m kk ∈ m := edK_mem1 (by omega)
            have htk : ∀ z, z ∈ m.take (kk + 1) ↔ z ∈ m.take kk ∨ z = edK m kk := fun z => take_mem1 (by omega) z
            have hEy : E (edK m kk).1 (edK m kk).2 := (hL.2 _).1 (hperm.mem_iff.1 hmem)
            have hFE : ∀ a b, F a b → E a b := fun a b hab => (hL.2 (a, b)).1 (hperm.mem_iff.1 (List.mem_of_mem_take ((hF a b).1 hab)))
            obtain ⟨hs1, hs2⟩ := hSec _ _ hEy
            generalize edK m kk = y at *
            have hnr : ¬ Reach F y.2 y.1 := fun k => by
              rcases k with e | e
              · exact hNR _ (.one (e ▸ hEy))
              · exact hNR _ (.more hEy (e.mono hFE))
            have hgn : ¬ o2 gm := fun e => by
              have h2 := hoB gm e
              have h3 := hgmw gm rfl
              omega
            have hi0 : (0 : Int) ≤ (kk : Int) := by omega
            have hi1 : (kk : Int) < (N : Int) := by omega
            have hln : ∀ g, al = some ⟨g, 0, none⟩ → ¬ o2 g := fun g e k => by
              have h2 := hoB g k
              have h3 := HX.out.2.2.2.2 g e
              have h4 := hAlt g e
              omega
            have HQ := hid (And.intro hGB (And.intro hlB hcB))
            have H1 := hid h1
            clear hGB hlB hcB h1
            go_wp2_with fail
            refine wp_region_noPanic ?_
            refine wp_region_held_drew (S := fun w' => w'.cell? ⟨gm, kk * 2, none⟩ = some (.int .i64 y.1) ∧ w'.cell? ⟨gm, kk * 2 + 1, none⟩ = some (.int .i64 y.2)) (by kernel_rfl) ⟨p1, q1⟩ (fun hHeld => ?_)
            refine takeVal 0 79 (.pointer (some ⟨q, 0, none⟩)) rfl (by kernel_rfl) (by kernel_rfl) (by kernel_rfl) rfl (by rfl) (fun _ _ _ h => h) hHeld (fun _ hw' => rfl) ?_
            simp only [List.setIfInBounds_toArray, List.set_cons_zero, List.set_cons_succ]
            refine takeVal 1 80 (.slice (some ⟨gm, 0, none⟩) N cm) rfl (by kernel_rfl) (by kernel_rfl) (by kernel_rfl) rfl (by rfl) (fun _ _ _ h => h) hHeld (fun _ hw' => rfl) ?_
            simp only [List.setIfInBounds_toArray, List.set_cons_zero, List.set_cons_succ]
            refine takeVal 2 81 (.int .i64 (kk : Int)) rfl (by kernel_rfl) (by kernel_rfl) (by kernel_rfl) rfl (by rfl) (fun _ _ _ h => h) hHeld (fun _ hw' => rfl) ?_
            simp only [List.setIfInBounds_toArray, List.set_cons_zero, List.set_cons_succ]
            refine takeVal 3 82 (.pointer (some ⟨gm, kk * 2, none⟩)) rfl (by kernel_rfl) (by kernel_rfl) (by kernel_rfl) rfl (by rfl) (fun _ _ _ h => h) hHeld (fun _ hw' => by go_simp) ?_
            simp only [List.setIfInBounds_toArray, List.set_cons_zero, List.set_cons_succ]
            refine takeVal 4 83 (.pointer (some ⟨gm, kk * 2, none⟩)) rfl (by kernel_rfl) (by kernel_rfl) (by kernel_rfl) rfl (by rfl) (fun _ _ _ h => h) hHeld (fun _ hw' => by go_simp) ?_
            simp only [List.setIfInBounds_toArray, List.set_cons_zero, List.set_cons_succ]
            refine takeVal 5 84 (.int .i64 y.1) rfl (by kernel_rfl) (by kernel_rfl) (by kernel_rfl) rfl (by rfl) (fun _ _ _ h => h) hHeld (fun _ hw' => by obtain ⟨l1, l2⟩ := hw'; go_simp) ?_
            simp only [List.setIfInBounds_toArray, List.set_cons_zero, List.set_cons_succ]
            refine takeVal 6 85 (.slice (some ⟨gm, 0, none⟩) N cm) rfl (by kernel_rfl) (by kernel_rfl) (by kernel_rfl) rfl (by rfl) (fun _ _ _ h => h) hHeld (fun _ hw' => rfl) ?_
            simp only [List.setIfInBounds_toArray, List.set_cons_zero, List.set_cons_succ]
            refine takeVal 7 86 (.int .i64 (kk : Int)) rfl (by kernel_rfl) (by kernel_rfl) (by kernel_rfl) rfl (by rfl) (fun _ _ _ h => h) hHeld (fun _ hw' => rfl) ?_
            simp only [List.setIfInBounds_toArray, List.set_cons_zero, List.set_cons_succ]
            refine takeVal 8 87 (.pointer (some ⟨gm, kk * 2, none⟩)) rfl (by kernel_rfl) (by kernel_rfl) (by kernel_rfl) rfl (by rfl) (fun _ _ _ h => h) hHeld (fun _ hw' => by go_simp) ?_
            simp only [List.setIfInBounds_toArray, List.set_cons_zero, List.set_cons_succ]
            refine takeVal 9 88 (.pointer (some ⟨gm, kk * 2 + 1, none⟩)) rfl (by kernel_rfl) (by kernel_rfl) (by kernel_rfl) rfl (by rfl) (fun _ _ _ h => h) hHeld (fun _ hw' => by go_simp) ?_
            simp only [List.setIfInBounds_toArray, List.set_cons_zero, List.set_cons_succ]
            refine takeVal 10 89 (.int .i64 y.2) rfl (by kernel_rfl) (by kernel_rfl) (by kernel_rfl) rfl (by rfl) (fun _ _ _ h => h) hHeld (fun _ hw' => by obtain ⟨l1, l2⟩ := hw'; go_simp) ?_
            simp only [List.setIfInBounds_toArray, List.set_cons_zero, List.set_cons_succ]
            refine step1 11 (by kernel_rfl) ?_
            refine stCall 11 90 14 #[.pointer (some ⟨q, 0, none⟩), .int .i64 y.1, .int .i64 y.2] _ rfl rfl (by rfl) (by go_simp) (addG_any y.1 y.2 (HQ.out.1.call (chg_drew1 _)) hs1.i64 hs2.i64) ?_
            rintro e w9 ⟨cc, F', ow', rfl, hAd, hG9, s9, d9⟩
            obtain ⟨rfl, rfl⟩ := added_ok hAd hs1 hs2 hnr
            have hHeld := And.intro (cell_keep hHeld.1 d9 hgl hgn) (cell_keep hHeld.2 d9 hgl hgn)
            refine ⟨_, rfl, hHeld, ?_⟩
            simp only [List.setIfInBounds_toArray, List.set_cons_zero, List.set_cons_succ]
            refine takeVal 12 91 (.bool false) rfl (by kernel_rfl) (by kernel_rfl) (by kernel_rfl) rfl (by rfl) (fun _ _ _ h => h) hHeld (fun _ hw' => by go_simp) ?_
            simp only [List.setIfInBounds_toArray, List.set_cons_zero, List.set_cons_succ]
            refine wpAnyH_done (by kernel_rfl) ?_ _
            refine NoPanic.normal ?_
            obtain ⟨hGB, hlB, hcB⟩ := HQ.out
            have d9' : Chg wB w9 o2 := (chg_drew1 wB).trans d9 (fun _ _ e => e.elim) (fun _ _ e => e)
            have hz9 := d9'.size
            clear hHeld
            go_wp2_with fail
            go_roundw
            case rel =>
              refine ⟨kk + 1, addE F y.1 y.2, ow', _, rfl, by omega, by go_num, hG9, fun a b => ?_, fun j hj => ?_, .inr ⟨gm, rfl, by omega, fun j u hu => cell_keep (H1.out j u hu) d9' hgl hgn⟩, hlB.keep d9' hln, hcB.trans d9' (fun _ _ e => e) (fun j hj e => by have := (hoB j e).1; omega), by omega⟩
              · rw [htk]
                unfold addE
                rw [hF]
                constructor
                · rintro (⟨rfl, rfl⟩ | e)
                  · exact .inr rfl
                  · exact .inl e
                · rintro (e | e)
                  · exact .inr e
                  · cases e; exact .inl ⟨rfl, rfl⟩
              · rcases s9 j hj with e | e
                · have := hoB j e; omega
                · have e : wB.heap.size ≤ j ∧ j < w9.heap.size := e; have := HX.out.1.size; omega
            case measure => simp [intOf]; omega
          · obtain rfl : kk = N := by omega
            have hFF : ∀ a b, F a b ↔ E a b := fun a b => by rw [hF, ← hmN, List.take_length, hperm.mem_iff]; exact hL.2 (a, b)
            have HE2 := edgesG_any hGB
            have Hlb := hid (And.intro hlB hcB)
            clear hGB hlB hcB hmB
            go_wp2_with (first
              | (go_at_call 8; go_must (refine HE2.mono ?_; rintro e w10 ⟨v10, l10, rfl, hv10, hL10, c10⟩; obtain rfl : l10 = l := elist_eq hL10 hL.1 (fun x => (hL.2 x).trans (hFF _ _).symm); obtain ⟨a10, ca10, rfl, hA10, _⟩ := hv10.at_; have HQ2 := edges_any l10 a10 al ca10 cl w10 (by omega) hA10 (Hlb.out.1.call c10); rw [hN] at HQ2))
              | (go_at_call 10; go_must (refine HQ2.mono ?_; rintro e w11 ⟨rfl, n11, rfl⟩))
              | fail)
            go_ret
            exact ⟨rfl, ((Hlb.out.2.tr c10).tr (chg_drewN w10 n11)).below⟩


end Go.Proofs.Ytjnafcogdakbbab
