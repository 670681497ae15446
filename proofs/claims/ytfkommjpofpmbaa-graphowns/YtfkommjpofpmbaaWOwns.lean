/-
  GraphOwns, walked: what Before and Edges answer is the caller's own.
-/
import Derived.Test.YtfkommjpofpmbaaK1
import Derived.Test.YtfkommjpofpmbaaK2
import Derived.Test.YtfkommjpofpmbaaK3
import Derived.Test.YtfkommjpofpmbaaLawK
namespace Go.Proofs.Ytfkommjpofpmbaa
open Go.RowKit

set_option maxRecDepth 100000 in
set_option maxHeartbeats 20000000 in
theorem gowns_walk (ws : List StV) (ad : Option Addr) (cap : Nat) (w : World) (hl : ws.length ≤ 140737488355328) (hz : ScriptAt w ad ws) (hok : ∀ s, s ∈ ws → s.OK) :
    Calls Try.prog 3 #[.slice ad ws.length cap] w fun e w' => e = .returned (.bool true) ∧ Below w.heap.size w w' := by
  have HK := known_any w
  have HZ := hid hz
  have HOK := hid hok
  clear hz hok
  go_enter Try.func3, Try.ntmps3
  go_upto_region 9 with (first
    | (go_at_call 4; go_must (refine HK.mono ?_; rintro e w1 ⟨rfl, c1⟩; have HM := made2_any ws ad cap w1 hl (HZ.out.keep c1) HOK.out; clear HK))
    | (go_at_call 5; go_must (refine HM.mono ?_; rintro e w2 ⟨p, own, E, rfl, hG, hR, ho, c2⟩; have HN := rnew_any w2; clear HM))
    | (go_at_call 6; go_must (refine HN.mono ?_; rintro e w3 ⟨r, own2, rfl, hR0, ho2, c3⟩; clear HN)))
  have C3 : Hid (Chg w w3 No) := hid ((c1.tr c2).tr c3)
  have HS12 : Hid (w.heap.size ≤ w2.heap.size) := hid (c1.tr c2).size
  have HG3 := hid (hG.call c3)
  have HR := hid hR
  have HO : Hid (∀ j, own j → j < w2.heap.size) := hid (fun j hj => (ho j hj).2)
  have HR0 := hid hR0
  have HO0 : Hid (∀ j, own2 j → w2.heap.size ≤ j ∧ j < w3.heap.size) := hid ho2
  clear hG hR ho c1 c2 c3 hR0 ho2
  generalize hn : ws.length = n at *
  have HN := hid hn
  clear hn
  go_loopw [6] (fun i wr => ∃ (k : Nat) (own2 : Nat → Prop) (F : Int → Int → Prop), k ≤ n ∧ i = .int .i64 k ∧ Hid (IsR wr r own2 F) ∧ Hid (Runs (ws.take k) E0 F) ∧ Hid (IsG wr p own E) ∧ Hid (∀ j, own2 j → w2.heap.size ≤ j ∧ j < wr.heap.size) ∧ Hid (Chg w wr No)) (fun i _ => n - (intOf i).toNat)
  case atStart => exact ⟨0, own2, _, by omega, rfl, HR0, hid rfl, HG3, HO0, C3⟩
  case round =>
    clear HR0 HG3 HO0 C3
    clear own2
    obtain ⟨k, own2, F, hk, rfl, HR1, HRU, HG1, HO2, HC⟩ := hrel
    by_cases hlt : k < n
    · as_aux_lemma =>
        rcases HZ.out.keep HC.out with h0 | ⟨b, o, rfl, hb, hcell⟩
        · have := HN.out; rw [h0] at this; simp at this; omega
        have hr := ScriptAt.range hcell (j := k) (by have := HN.out; omega)
        have hs : (ws.getD k StV.z).OK := HOK.out _ (by rw [List.getD_eq_getElem?_getD, List.getElem?_eq_getElem (by have := HN.out; omega)]; exact List.getElem_mem _)
        have HTK : Hid (ws.take (k + 1) = ws.take k ++ [ws.getD k StV.z]) := hid (take_more (by have := HN.out; omega))
        generalize ws.getD k StV.z = s at hr hs HTK
        have HW := wanted_any s hs HR1.out (fun k hk => (HO2.out k hk).2)
        have hi0 : (0 : Int) ≤ (k : Int) := by omega
        have hi1 : (k : Int) < (n : Int) := by omega
        clear hcell
        go_wp2_with (first
          | (refine wpList_load_mid rfl 35 _ rfl b (o + k * 4) rfl s.cells _ hr Try.underlying35 rfl (by rw [szS]; rfl) ?_)
          | (go_at_call 7; go_must (refine HW.mono ?_; rintro e w4 ⟨t, vl, ve, E', own', rfl, h31, h32, h33, h34, h35, h36⟩; clear HW)))
        have hsz := h36.size
        have HW2 : Hid (w2.heap.size ≤ wr.heap.size) := hid (by obtain ⟨a, c, l, h⟩ := HR1.out; have := HO2.out r h.o1; omega)
        refine ⟨⟨k + 1, own', E', by omega, by go_num, hid h34, hid (by rw [HTK.out]; exact HRU.out.more h31), hid (HG1.out.keep h36 (fun j hj e => ?_)), hid (fun j hj => ?_), hid (HC.out.trans h36 (fun _ _ e => e) (fun j hj e => ?_))⟩, by simp [intOf]; omega⟩
        · have := HO.out j hj; have := HO2.out j e; omega
        · have := HC.out.size
          have := HS12.out
          rcases h35 j hj with e | e
          · have := HO2.out j e; omega
          · skip
            exact ⟨Nat.le_trans HW2.out e.1, e.2⟩
        · have := HO2.out j e; have := HS12.out; omega
    · have hkn : ¬ ((k : Int) < (n : Int)) := by omega
      have hF : F = E := by
        have h1 := HRU.out
        have := HN.out
        rw [List.take_of_length_le (by omega)] at h1
        exact h1.one HR.out
      subst hF
      go_upto_region 15 with fail
      obtain ⟨x0, hx0⟩ : ∃ y, y = wr := ⟨_, rfl⟩
      subst hx0
      have HGX := hid (fun (X : World) (hX : Below x0.heap.size x0 X) => HG1.out.call (Chg.of_below hX No))
      have HRX := hid (fun (X : World) (hX : Below x0.heap.size x0 X) => HR1.out.keep (Chg.of_below hX No) (fun _ _ e => e))
      have HZX := hid (HZ.out.keep HC.out)
      have HWX := hid (fun (X : World) (hX : Below x0.heap.size x0 X) => (HC.out.tr (Chg.of_below hX No)).below)
      have hsec := hid HG1.out.sec
      clear HZ HRU HR HG1 HR1 HO HO2 HC HS12 hkn hlt hk
      go_loopw [7, 9] (fun v i wq => ∃ (k : Nat) (V : List Lst) (vv : Value), vv = v ∧ k ≤ n ∧ k ≤ 40 ∧ i = .int .i64 k ∧ V.length = 2 * k ∧ Hid (Lot x0.heap.size 29 3 1 vv V wq) ∧ Hid (BsIs F ws V) ∧ Hid (Below x0.heap.size x0 wq)) (fun _ i _ => n - (intOf i).toNat)
      case atStart => exact ⟨0, [], _, rfl, by omega, by omega, rfl, rfl, hid (Lot.nil _ _ _ _ _), hid (fun j x h => by simp at h), hid (Below.refl _ _)⟩
      case round =>
        obtain ⟨k, V, vv, rfl, hk, hk40, rfl, hVk, HL, HBs, HBq⟩ := hrel
        by_cases hlt : k < n
        · have i1 : (k : Int) < (n : Int) := by omega
          by_cases h40 : k < 40
          · as_aux_lemma =>
              have i0 : (0 : Int) ≤ (k : Int) := by omega
              have i2 : (k : Int) < 40 := by omega
              rcases HZX.out with h0 | ⟨b, o, rfl, hb, hcell⟩
              · have := HN.out; rw [h0] at this; simp at this; omega
              have hs : (ws.getD k StV.z).OK := HOK.out _ (by rw [List.getD_eq_getElem?_getD, List.getElem?_eq_getElem (by have := HN.out; omega)]; exact List.getElem_mem _)
              have hcs := hcell k (by have := HN.out; omega)
              have HMO := hid (fun (y z : Lst) (l m : List Int) => HBs.out.more (y := y) (z := z) (l := l) (m := m) hVk)
              generalize ws.getD k StV.z = s at hcs hs HMO
              have CA : Hid (∀ X, Below x0.heap.size x0 X → X.cell? ⟨b, o + k * 4 + 2, none⟩ = some (.int .i64 s.a)) := hid (fun X hX => by rw [hX.cell (p := ⟨b, o + k * 4 + 2, none⟩) hb]; exact hcs 2 _ rfl)
              have CB : Hid (∀ X, Below x0.heap.size x0 X → X.cell? ⟨b, o + k * 4 + 3, none⟩ = some (.int .i64 s.b)) := hid (fun X hX => by rw [hX.cell (p := ⟨b, o + k * 4 + 3, none⟩) hb]; exact hcs 3 _ rfl)
              have HSA := hid hs.2.2.1
              have HSB := hid hs.2.2.2
              clear hcell hcs hs
              go_upto_region 17 with fail
              have BD : Hid (Below wr.heap.size wr wr.drew) := hid ((Chg.refl wr No).drew.below)
              refine wp_region_noPanic ?_
              refine wp_region_held_drew (S := fun w' => Below x0.heap.size x0 w') (by kernel_rfl) (HBq.out.trans (BD.out.mono HBq.out.size)) (fun hHeld => ?_)
              refine takeVal 0 48 (vv) rfl (by kernel_rfl) (by kernel_rfl) (by kernel_rfl) rfl (by rfl) (fun _ _ _ h => h) hHeld (fun W' hw' => rfl) ?_
              simp only [List.setIfInBounds_toArray, List.set_cons_zero, List.set_cons_succ]
              refine takeVal 1 49 (.pointer (some ⟨p, 0, none⟩)) rfl (by kernel_rfl) (by kernel_rfl) (by kernel_rfl) rfl (by rfl) (fun _ _ _ h => h) hHeld (fun W' hw' => rfl) ?_
              simp only [List.setIfInBounds_toArray, List.set_cons_zero, List.set_cons_succ]
              refine takeVal 2 50 (.slice (some ⟨b, o, none⟩) n cap) rfl (by kernel_rfl) (by kernel_rfl) (by kernel_rfl) rfl (by rfl) (fun _ _ _ h => h) hHeld (fun W' hw' => rfl) ?_
              simp only [List.setIfInBounds_toArray, List.set_cons_zero, List.set_cons_succ]
              refine takeVal 3 51 (.int .i64 (k : Int)) rfl (by kernel_rfl) (by kernel_rfl) (by kernel_rfl) rfl (by rfl) (fun _ _ _ h => h) hHeld (fun W' hw' => rfl) ?_
              simp only [List.setIfInBounds_toArray, List.set_cons_zero, List.set_cons_succ]
              refine takeVal 4 52 (.pointer (some ⟨b, o + k * 4, none⟩)) rfl (by kernel_rfl) (by kernel_rfl) (by kernel_rfl) rfl (by rfl) (fun _ _ _ h => h) hHeld (fun W' hw' => by go_simp) ?_
              simp only [List.setIfInBounds_toArray, List.set_cons_zero, List.set_cons_succ]
              refine takeVal 5 53 (.pointer (some ⟨b, o + k * 4 + 2, none⟩)) rfl (by kernel_rfl) (by kernel_rfl) (by kernel_rfl) rfl (by rfl) (fun _ _ _ h => h) hHeld (fun W' hw' => by go_simp) ?_
              simp only [List.setIfInBounds_toArray, List.set_cons_zero, List.set_cons_succ]
              refine takeVal 6 54 (.int .i64 s.a) rfl (by kernel_rfl) (by kernel_rfl) (by kernel_rfl) rfl (by rfl) (fun _ _ _ h => h) hHeld (fun W' hw' => by have hc := CA.out W' hw'; go_simp) ?_
              simp only [List.setIfInBounds_toArray, List.set_cons_zero, List.set_cons_succ]
              refine takeVal 8 56 (.pointer (some ⟨p, 0, none⟩)) rfl (by kernel_rfl) (by kernel_rfl) (by kernel_rfl) rfl (by rfl) (fun _ _ _ h => h) hHeld (fun W' hw' => rfl) ?_
              simp only [List.setIfInBounds_toArray, List.set_cons_zero, List.set_cons_succ]
              refine takeVal 9 57 (.slice (some ⟨b, o, none⟩) n cap) rfl (by kernel_rfl) (by kernel_rfl) (by kernel_rfl) rfl (by rfl) (fun _ _ _ h => h) hHeld (fun W' hw' => rfl) ?_
              simp only [List.setIfInBounds_toArray, List.set_cons_zero, List.set_cons_succ]
              refine takeVal 10 58 (.int .i64 (k : Int)) rfl (by kernel_rfl) (by kernel_rfl) (by kernel_rfl) rfl (by rfl) (fun _ _ _ h => h) hHeld (fun W' hw' => rfl) ?_
              simp only [List.setIfInBounds_toArray, List.set_cons_zero, List.set_cons_succ]
              refine takeVal 11 59 (.pointer (some ⟨b, o + k * 4, none⟩)) rfl (by kernel_rfl) (by kernel_rfl) (by kernel_rfl) rfl (by rfl) (fun _ _ _ h => h) hHeld (fun W' hw' => by go_simp) ?_
              simp only [List.setIfInBounds_toArray, List.set_cons_zero, List.set_cons_succ]
              refine takeVal 12 60 (.pointer (some ⟨b, o + k * 4 + 3, none⟩)) rfl (by kernel_rfl) (by kernel_rfl) (by kernel_rfl) rfl (by rfl) (fun _ _ _ h => h) hHeld (fun W' hw' => by go_simp) ?_
              simp only [List.setIfInBounds_toArray, List.set_cons_zero, List.set_cons_succ]
              refine takeVal 13 61 (.int .i64 s.b) rfl (by kernel_rfl) (by kernel_rfl) (by kernel_rfl) rfl (by rfl) (fun _ _ _ h => h) hHeld (fun W' hw' => by have hc := CB.out W' hw'; go_simp) ?_
              simp only [List.setIfInBounds_toArray, List.set_cons_zero, List.set_cons_succ]
              refine step1 7 (by kernel_rfl) ?_
              refine stCall 7 55 8 #[.pointer (some ⟨p, 0, none⟩), .int .i64 s.a] _ rfl rfl (by rfl) (by go_simp) (before_any s.a (HGX.out _ hHeld) HSA.out) ?_
              rintro e y1 ⟨vA, lA, rfl, o1, blA, c1⟩
              have h1 : Below x0.heap.size x0 y1 := hHeld.trans (c1.below.mono hHeld.size)
              obtain ⟨avA, kvA, evA, z1, z2⟩ := row_shape9 o1
              subst evA
              clear z1 z2
              refine ⟨_, rfl, h1, ?_⟩
              simp only [List.setIfInBounds_toArray, List.set_cons_zero, List.set_cons_succ]
              refine step1 14 (by kernel_rfl) ?_
              refine stCall 14 62 8 #[.pointer (some ⟨p, 0, none⟩), .int .i64 s.b] _ rfl rfl (by rfl) (by go_simp) (before_any s.b (HGX.out _ h1) HSB.out) ?_
              rintro e y2 ⟨vB, lB, rfl, o2, blB, c2⟩
              have h2 : Below x0.heap.size x0 y2 := h1.trans (c2.below.mono h1.size)
              obtain ⟨avB, kvB, evB, z1, z2⟩ := row_shape9 o2
              subst evB
              clear z1 z2
              refine ⟨_, rfl, h2, ?_⟩
              simp only [List.setIfInBounds_toArray, List.set_cons_zero, List.set_cons_succ]
              refine step1 15 (by kernel_rfl) ?_
              refine stNew 15 63 (.slice (some ⟨y2.heap.size, 0, none⟩) 2 2) (.cells #[.slice avA lA.length kvA, .slice avB lB.length kvB] 29) rfl rfl (by rfl) (by go_simp) ?_
              have hal : Below y2.heap.size y2 (y2.alloc (.cells #[.slice avA lA.length kvA, .slice avB lB.length kvB] 29)) := below_alloc _ _
              have h3 : Below x0.heap.size x0 (y2.alloc (.cells #[.slice avA lA.length kvA, .slice avB lB.length kvB] 29)) := h2.trans (hal.mono h2.size)
              refine ⟨h3, ?_⟩
              simp only [List.setIfInBounds_toArray, List.set_cons_zero, List.set_cons_succ]
              have q1 : y2.ownsRow wr.heap.size 3 1 (.slice avA lA.length kvA) lA.length (lA.map (Value.int .i64)) := ownr_below o1 c2.below
              have q2 : y2.ownsRow y1.heap.size 3 1 (.slice avB lB.length kvB) lB.length (lB.map (Value.int .i64)) := o2
              have s1 : wr.heap.size ≤ y1.heap.size := c1.size
              have s2 : y1.heap.size ≤ y2.heap.size := c2.size
              have two := two_apart (w := wr) (w1 := y1) (w2 := y2) (y := ⟨.slice avA lA.length kvA, lA.length, lA.map (Value.int .i64)⟩) (z := ⟨.slice avB lB.length kvB, lB.length, lB.map (Value.int .i64)⟩) o1 o2
              have bx := HBq.out.size
              have LL : Lot x0.heap.size 29 3 1 vv V (y2.alloc (.cells #[.slice avA lA.length kvA, .slice avB lB.length kvB] 29)) := (((HL.out.below BD.out).below c1.below).below c2.below).below hal
              refine step1 16 (by kernel_rfl) ?_
              refine stAppL2 16 64 rfl rfl (by rfl) _ _ rfl x0.heap.size y2.heap.size 2 vv V ⟨.slice avA lA.length kvA, lA.length, lA.map (Value.int .i64)⟩ ⟨.slice avB lB.length kvB, lB.length, lB.map (Value.int .i64)⟩ rfl rfl LL (heap_alloc_new _ _) (ownr_below (ownr_mono q1 (by omega)) hal) (ownr_below (ownr_mono q2 (by omega)) hal) two (lot_newO HL.out (Nat.le_refl _) (ownr_mono q1 (by omega))) (lot_newO HL.out (Nat.le_refl _) (ownr_mono q2 (by omega))) (by omega) (by simp; omega) ?_
              intro v4 y4 hL4 hg4
              have h4 : Below x0.heap.size x0 y4 := h3.trans hg4.low
              refine ⟨h4, ?_⟩
              simp only [List.setIfInBounds_toArray, List.set_cons_zero, List.set_cons_succ]
              refine takeVal 17 7 (v4) rfl (by kernel_rfl) (by kernel_rfl) (by kernel_rfl) rfl (by rfl) (fun _ _ _ h => h) h4 (fun W' hw' => rfl) ?_
              simp only [List.setIfInBounds_toArray, List.set_cons_zero, List.set_cons_succ]
              refine wpAnyH_done (by kernel_rfl) ?_ _
              refine NoPanic.normal ?_
              have HL4 := hid hL4
              have HB4 := hid h4
              have HBs4 := hid (HMO.out ⟨.slice avA lA.length kvA, lA.length, lA.map (Value.int .i64)⟩ ⟨.slice avB lB.length kvB, lB.length, lB.map (Value.int .i64)⟩ lA lB blA blB (blist_small blA hsec.out) (blist_small blB hsec.out) ⟨rfl, rfl⟩ ⟨rfl, rfl⟩)
              clear hL4 hg4 h4 h3 h2 h1 hHeld two q1 q2 o1 o2 c1 c2 LL hal HMO HL HBs HBq s1 s2 bx
              go_wp2_with fail
              exact ⟨⟨k + 1, _, _, rfl, by omega, by omega, by go_num, by simp [hVk]; omega, HL4, HBs4, HB4⟩, by simp [intOf]; omega⟩
          · have i2 : ¬ ((k : Int) < 40) := by omega
            go_upto_region 19 with fail
            obtain ⟨xa, hxa⟩ : ∃ y, y = wr := ⟨_, rfl⟩
            subst hxa
            go_loopw [8, 10] (fun v i wq => ∃ (q : Nat) (R : List Lst) (rv : Value), rv = v ∧ q ≤ 4 ∧ i = .int .i64 q ∧ R.length = q ∧ Hid (Lot x0.heap.size 30 48 2 rv R wq) ∧ Hid (EsIs F R) ∧ Hid (Lot x0.heap.size 29 3 1 vv V wq) ∧ Hid (Below x0.heap.size x0 wq)) (fun _ i _ => 4 - (intOf i).toNat)
            case atStart => exact ⟨0, [], _, rfl, by omega, rfl, rfl, hid (Lot.nil _ _ _ _ _), hid (fun j x h => by simp at h), HL, HBq⟩
            case round =>
              clear HL HBq
              obtain ⟨q, R, rv, rfl, hq, rfl, hRq, HLR, HEs, HL, HBq⟩ := hrel
              by_cases hlq : q < 4
              · as_aux_lemma =>
                  have q1 : (q : Int) < 4 := by omega
                  have HE1 := edgesG_any (HGX.out wr HBq.out)
                  go_upto_region 20 with (first
                    | (go_at_call 9; go_must (refine HE1.mono ?_; rintro e y1 ⟨v1, l1, rfl, o1, e1, c1⟩; obtain ⟨a1, k1, hv1, z1, z2⟩ := row_shape9 o1; subst hv1; have O1 := hid o1; have C1 := hid c1.below; have EL1 := hid e1; clear z1 z2 o1 c1 e1 HE1))
                    | (at_builtin; go_must (refine wp_more rfl _ _ 37 30 rfl Try.underlying37 infoLs x0.heap.size 48 2 y1.heap.size 1 _ R ⟨.slice a1 l1.length k1, l1.length, cellsE l1⟩ (by decide) rfl rfl ((HLR.out.below C1.out).below (below_alloc _ _)) (by go_simp) (ownr_below (ownr_mono O1.out HBq.out.size) (below_alloc _ _)) (lot_newB HLR.out (Nat.le_refl _) O1.out) (by omega) (by have := HBq.out.size; have := C1.out.size; simp; omega) ?_; intro v3 y3 hl3 hg3)))
                  have L3 := hid hl3
                  have I3 := hid (((HL.out.below C1.out).below (below_alloc y1 (.cells #[.slice a1 l1.length k1] 30))).grow hg3 (by decide) (by decide))
                  have B3 : Hid (Below x0.heap.size x0 y3) := hid (((HBq.out.trans (C1.out.mono HBq.out.size)).alloc (Nat.le_trans HBq.out.size C1.out.size) _).trans hg3.low)
                  have E3 := hid (HEs.out.more (y := ⟨.slice a1 l1.length k1, l1.length, cellsE l1⟩) EL1.out (elist_len EL1.out hsec.out) ⟨rfl, rfl⟩)
                  clear hl3 hg3 HLR HL HBq HEs
                  go_wp2_with fail
                  exact ⟨⟨q + 1, _, _, rfl, by omega, by go_num, by simp [hRq], L3, E3, I3, B3⟩, by simp [intOf]; omega⟩
              · have q4 : q = 4 := by omega
                subst q4
                have hge : ¬ (((4 : Nat) : Int) < 4) := by decide
                obtain ⟨av, cv, hvv, z1, z2⟩ := row_shape9 HL.out.row
                clear z1 z2
                subst hvv
                obtain ⟨ar, cr, hrv, z1, z2⟩ := row_shape9 HLR.out.row
                rw [hRq] at hrv
                clear z1 z2
                subst hrv
                obtain ⟨NV, hNV⟩ : ∃ y, y = V.length := ⟨_, rfl⟩
                rw [← hNV]
                rw [← hNV] at HL
                have HVk2 : Hid (NV = 2 * k) := hid (by omega)
                have HVN : Hid (V.length = NV) := hid hNV.symm
                clear hNV hlq hq hVk
                go_upto_region 23 with fail
                obtain ⟨x2, hx2⟩ : ∃ y, y = wr := ⟨_, rfl⟩
                subst hx2
                go_loopw [11] (fun i wq => ∃ (j : Nat), j ≤ NV ∧ i = .int .i64 j ∧ Hid (Below x2.heap.size x2 wq)) (fun i _ => NV - (intOf i).toNat)
                case atStart => exact ⟨0, by omega, rfl, hid (Below.refl _ _)⟩
                case round =>
                  obtain ⟨j, hj, rfl, HJ⟩ := hrel
                  by_cases hlj : j < NV
                  · as_aux_lemma =>
                      have hVN := HVN.out
                      have hVk2 := HVk2.out
                      obtain ⟨gv, cv', hgv⟩ := HL.out.form (by omega)
                      injection hgv with e1 e2 e3
                      subst e1 e3
                      clear e2
                      obtain ⟨x, hx⟩ : ∃ x, V[j]? = some x := ⟨_, List.getElem?_eq_getElem (by omega)⟩
                      obtain ⟨l, hBL, hl9, hxn, hxs⟩ := HBs.out j x hx
                      obtain ⟨ax, cx, hxv, z1, z2⟩ := row_shape9 (HL.out.own j x hx)
                      clear z1 z2
                      have CX0 := HL.out.at hx
                      rw [hxv] at CX0
                      have ox := HL.out.own j x hx
                      have IX : Hid (∀ X, Below x2.heap.size x2 X → IAt X ax l) := hid (fun X hX => own_iat (ownr_below ox hX) hxn hxs hxv)
                      obtain ⟨N, hN⟩ : ∃ y, y = x.n := ⟨_, rfl⟩
                      rw [← hN] at CX0
                      have hNl : N = l.length := hN.trans hxn
                      have CX : Hid (∀ X, Below x2.heap.size x2 X → X.cell? ⟨gv, j, none⟩ = some (.slice ax N cx)) := hid (fun X hX => by rw [hX.cell (p := ⟨gv, j, none⟩) (World.block_lt_of_cell? _ _ CX0)]; exact CX0)
                      have HX2 := HBq
                      have HX0 : Hid (Below x0.heap.size x0 wr) := hid (HX2.out.trans (HJ.out.mono HX2.out.size))
                      rcases HZX.out with h0 | ⟨b, o, rfl, hb, hcell⟩
                      · have := HN.out; rw [h0] at this; simp at this; omega
                      obtain ⟨h, hh⟩ : ∃ h, j / 2 = h := ⟨_, rfl⟩
                      have hhn : h < n := by omega
                      have hcs := hcell h (by have := HN.out; omega)
                      have hdv : (j : Int).tdiv 2 = (h : Int) := by rw [Int.tdiv_eq_ediv_of_nonneg (by omega)]; omega
                      have j0 : (0 : Int) ≤ (j : Int) := by omega
                      have j1 : (j : Int) < (NV : Int) := by omega
                      have h0 : (0 : Int) ≤ (h : Int) := by omega
                      have h1 : (h : Int) < (n : Int) := by omega
                      have hj80 : (j : Int) ≤ 80 := by omega
                      clear hcell CX0 ox hxn hxs hxv hN hx HL HLR HEs hVN hVk2
                      by_cases hodd : j % 2 = 1
                      · have hr1 : (j : Int).tmod 2 = 1 := by rw [Int.tmod_eq_emod_of_nonneg (by omega)]; omega
                        have harg : argO ws j = (ws.getD h StV.z).b := by unfold argO; rw [if_pos (by omega), hh]
                        rw [harg] at hBL
                        have hca : wr.cell? ⟨b, o + h * 4 + 2, none⟩ = some (.int .i64 (ws.getD h StV.z).a) := by rw [HX0.out.cell (p := ⟨b, o + h * 4 + 2, none⟩) hb]; exact hcs 2 _ rfl
                        have hcb : wr.cell? ⟨b, o + h * 4 + 3, none⟩ = some (.int .i64 (ws.getD h StV.z).b) := by rw [HX0.out.cell (p := ⟨b, o + h * 4 + 3, none⟩) hb]; exact hcs 3 _ rfl
                        generalize ws.getD h StV.z = s at *
                        have HBL := hid hBL
                        clear hcs harg hBL
                        go_upto_region 28 with fail
                        clear hca hcb hr1
                        refine wp_region_noPanic ?_
                        refine wp_region_held_drew (S := fun w' => Below x2.heap.size x2 w') (by kernel_rfl) (HJ.out.trans (((Chg.refl wr No).drew.below).mono HJ.out.size)) (fun hHeld => ?_)
                        refine takeVal 0 95 (.slice (some ⟨gv, 0, none⟩) NV cv) rfl (by kernel_rfl) (by kernel_rfl) (by kernel_rfl) rfl (by rfl) (fun _ _ _ h => h) hHeld (fun W' hw' => rfl) ?_
                        simp only [List.setIfInBounds_toArray, List.set_cons_zero, List.set_cons_succ]
                        refine takeVal 1 96 (.int .i64 (j : Int)) rfl (by kernel_rfl) (by kernel_rfl) (by kernel_rfl) rfl (by rfl) (fun _ _ _ h => h) hHeld (fun W' hw' => rfl) ?_
                        simp only [List.setIfInBounds_toArray, List.set_cons_zero, List.set_cons_succ]
                        refine takeVal 2 97 (.pointer (some ⟨gv, j, none⟩)) rfl (by kernel_rfl) (by kernel_rfl) (by kernel_rfl) rfl (by rfl) (fun _ _ _ h => h) hHeld (fun W' hw' => by go_simp) ?_
                        simp only [List.setIfInBounds_toArray, List.set_cons_zero, List.set_cons_succ]
                        refine takeVal 3 98 (.slice ax N cx) rfl (by kernel_rfl) (by kernel_rfl) (by kernel_rfl) rfl (by rfl) (fun _ _ _ h => h) hHeld (fun W' hw' => by have hc := CX.out W' hw'; go_simp) ?_
                        simp only [List.setIfInBounds_toArray, List.set_cons_zero, List.set_cons_succ]
                        refine takeVal 4 99 (.pointer (some ⟨r, 0, none⟩)) rfl (by kernel_rfl) (by kernel_rfl) (by kernel_rfl) rfl (by rfl) (fun _ _ _ h => h) hHeld (fun W' hw' => rfl) ?_
                        simp only [List.setIfInBounds_toArray, List.set_cons_zero, List.set_cons_succ]
                        refine takeVal 5 100 (.int .i64 s.b) rfl (by kernel_rfl) (by kernel_rfl) (by kernel_rfl) rfl (by rfl) (fun _ _ _ h => h) hHeld (fun W' hw' => rfl) ?_
                        simp only [List.setIfInBounds_toArray, List.set_cons_zero, List.set_cons_succ]
                        refine step1 6 (by kernel_rfl) ?_
                        refine stCall 6 101 11 #[.pointer (some ⟨r, 0, none⟩), .int .i64 s.b] _ rfl rfl (by rfl) (by go_simp) (rbefore_any s.b (HRX.out _ (HX2.out.trans (hHeld.mono HX2.out.size)))) ?_
                        rintro e y1 ⟨v1, l1, rfl, o1, bl1, c1⟩
                        have hl1 : l1 = l := blist_one bl1 HBL.out
                        subst hl1
                        have h1 : Below x2.heap.size x2 y1 := hHeld.trans (c1.below.mono hHeld.size)
                        obtain ⟨a1, k1, e1, iat1, z2⟩ := Ints.at_ o1
                        subst e1
                        refine ⟨_, rfl, h1, ?_⟩
                        simp only [List.setIfInBounds_toArray, List.set_cons_zero, List.set_cons_succ]
                        refine step1 7 (by kernel_rfl) ?_
                        refine stCall 7 102 10 #[.slice ax N cx, .slice a1 l1.length k1] _ rfl rfl (by rfl) (by go_simp) (by rw [hNl]; exact ints_any l1 ax a1 cx k1 y1 (by omega) (IX.out y1 h1) iat1) ?_
                        rintro e y2 ⟨rfl, m2, rfl⟩
                        have h2 : Below x2.heap.size x2 (y1.drewN m2) := h1.trans ((chg_drewN y1 m2).below.mono h1.size)
                        refine ⟨_, rfl, h2, ?_⟩
                        simp only [List.setIfInBounds_toArray, List.set_cons_zero, List.set_cons_succ]
                        refine takeVal 8 103 (.bool false) rfl (by kernel_rfl) (by kernel_rfl) (by kernel_rfl) rfl (by rfl) (fun _ _ _ h => h) h2 (fun W' hw' => by go_simp) ?_
                        simp only [List.setIfInBounds_toArray, List.set_cons_zero, List.set_cons_succ]
                        refine wpAnyH_done (by kernel_rfl) ?_ _
                        refine NoPanic.normal ?_
                        have HJ2 := hid h2
                        clear h2 h1 hHeld c1 o1 iat1 z2
                        go_wp2_with fail
                        exact ⟨⟨j + 1, by omega, by go_num, HJ2⟩, by simp [intOf]; omega⟩
                      · have hr1 : (j : Int).tmod 2 = 0 := by rw [Int.tmod_eq_emod_of_nonneg (by omega)]; omega
                        have harg : argO ws j = (ws.getD h StV.z).a := by unfold argO; rw [if_neg (by omega), hh]
                        rw [harg] at hBL
                        have hca : wr.cell? ⟨b, o + h * 4 + 2, none⟩ = some (.int .i64 (ws.getD h StV.z).a) := by rw [HX0.out.cell (p := ⟨b, o + h * 4 + 2, none⟩) hb]; exact hcs 2 _ rfl
                        have hcb : wr.cell? ⟨b, o + h * 4 + 3, none⟩ = some (.int .i64 (ws.getD h StV.z).b) := by rw [HX0.out.cell (p := ⟨b, o + h * 4 + 3, none⟩) hb]; exact hcs 3 _ rfl
                        generalize ws.getD h StV.z = s at *
                        have HBL := hid hBL
                        clear hcs harg hBL
                        go_upto_region 28 with fail
                        clear hca hcb hr1
                        refine wp_region_noPanic ?_
                        refine wp_region_held_drew (S := fun w' => Below x2.heap.size x2 w') (by kernel_rfl) (HJ.out.trans (((Chg.refl wr No).drew.below).mono HJ.out.size)) (fun hHeld => ?_)
                        refine takeVal 0 95 (.slice (some ⟨gv, 0, none⟩) NV cv) rfl (by kernel_rfl) (by kernel_rfl) (by kernel_rfl) rfl (by rfl) (fun _ _ _ h => h) hHeld (fun W' hw' => rfl) ?_
                        simp only [List.setIfInBounds_toArray, List.set_cons_zero, List.set_cons_succ]
                        refine takeVal 1 96 (.int .i64 (j : Int)) rfl (by kernel_rfl) (by kernel_rfl) (by kernel_rfl) rfl (by rfl) (fun _ _ _ h => h) hHeld (fun W' hw' => rfl) ?_
                        simp only [List.setIfInBounds_toArray, List.set_cons_zero, List.set_cons_succ]
                        refine takeVal 2 97 (.pointer (some ⟨gv, j, none⟩)) rfl (by kernel_rfl) (by kernel_rfl) (by kernel_rfl) rfl (by rfl) (fun _ _ _ h => h) hHeld (fun W' hw' => by go_simp) ?_
                        simp only [List.setIfInBounds_toArray, List.set_cons_zero, List.set_cons_succ]
                        refine takeVal 3 98 (.slice ax N cx) rfl (by kernel_rfl) (by kernel_rfl) (by kernel_rfl) rfl (by rfl) (fun _ _ _ h => h) hHeld (fun W' hw' => by have hc := CX.out W' hw'; go_simp) ?_
                        simp only [List.setIfInBounds_toArray, List.set_cons_zero, List.set_cons_succ]
                        refine takeVal 4 99 (.pointer (some ⟨r, 0, none⟩)) rfl (by kernel_rfl) (by kernel_rfl) (by kernel_rfl) rfl (by rfl) (fun _ _ _ h => h) hHeld (fun W' hw' => rfl) ?_
                        simp only [List.setIfInBounds_toArray, List.set_cons_zero, List.set_cons_succ]
                        refine takeVal 5 100 (.int .i64 s.a) rfl (by kernel_rfl) (by kernel_rfl) (by kernel_rfl) rfl (by rfl) (fun _ _ _ h => h) hHeld (fun W' hw' => rfl) ?_
                        simp only [List.setIfInBounds_toArray, List.set_cons_zero, List.set_cons_succ]
                        refine step1 6 (by kernel_rfl) ?_
                        refine stCall 6 101 11 #[.pointer (some ⟨r, 0, none⟩), .int .i64 s.a] _ rfl rfl (by rfl) (by go_simp) (rbefore_any s.a (HRX.out _ (HX2.out.trans (hHeld.mono HX2.out.size)))) ?_
                        rintro e y1 ⟨v1, l1, rfl, o1, bl1, c1⟩
                        have hl1 : l1 = l := blist_one bl1 HBL.out
                        subst hl1
                        have h1 : Below x2.heap.size x2 y1 := hHeld.trans (c1.below.mono hHeld.size)
                        obtain ⟨a1, k1, e1, iat1, z2⟩ := Ints.at_ o1
                        subst e1
                        refine ⟨_, rfl, h1, ?_⟩
                        simp only [List.setIfInBounds_toArray, List.set_cons_zero, List.set_cons_succ]
                        refine step1 7 (by kernel_rfl) ?_
                        refine stCall 7 102 10 #[.slice ax N cx, .slice a1 l1.length k1] _ rfl rfl (by rfl) (by go_simp) (by rw [hNl]; exact ints_any l1 ax a1 cx k1 y1 (by omega) (IX.out y1 h1) iat1) ?_
                        rintro e y2 ⟨rfl, m2, rfl⟩
                        have h2 : Below x2.heap.size x2 (y1.drewN m2) := h1.trans ((chg_drewN y1 m2).below.mono h1.size)
                        refine ⟨_, rfl, h2, ?_⟩
                        simp only [List.setIfInBounds_toArray, List.set_cons_zero, List.set_cons_succ]
                        refine takeVal 8 103 (.bool false) rfl (by kernel_rfl) (by kernel_rfl) (by kernel_rfl) rfl (by rfl) (fun _ _ _ h => h) h2 (fun W' hw' => by go_simp) ?_
                        simp only [List.setIfInBounds_toArray, List.set_cons_zero, List.set_cons_succ]
                        refine wpAnyH_done (by kernel_rfl) ?_ _
                        refine NoPanic.normal ?_
                        have HJ2 := hid h2
                        clear h2 h1 hHeld c1 o1 iat1 z2
                        go_wp2_with fail
                        exact ⟨⟨j + 1, by omega, by go_num, HJ2⟩, by simp [intOf]; omega⟩
                  · have hjN : ¬ ((j : Int) < (NV : Int)) := by omega
                    go_upto_region 31 with fail
                    obtain ⟨x4, hx4⟩ : ∃ y, y = wr := ⟨_, rfl⟩
                    subst hx4
                    have L4 := hid (HL.out.below HJ.out)
                    have R4 := hid (HLR.out.below HJ.out)
                    have B4 : Hid (Below x0.heap.size x0 x4) := hid (HBq.out.trans (HJ.out.mono HBq.out.size))
                    clear HL HLR HBq HJ hjN hlj
                    go_loopw [13] (fun i wq => ∃ (j : Nat), j ≤ 4 ∧ i = .int .i64 j ∧ Hid (Below x4.heap.size x4 wq)) (fun i _ => 4 - (intOf i).toNat)
                    case atStart => exact ⟨0, by omega, rfl, hid (Below.refl _ _)⟩
                    case round =>
                      obtain ⟨j, hj, rfl, HJ⟩ := hrel
                      by_cases hlj : j < 4
                      · as_aux_lemma =>
                          obtain ⟨gr, cr', hgr⟩ := R4.out.form (by omega)
                          rw [hRq] at hgr
                          injection hgr with e1 e2 e3
                          subst e1 e3
                          clear e2
                          obtain ⟨x, hx⟩ : ∃ x, R[j]? = some x := ⟨_, List.getElem?_eq_getElem (by omega)⟩
                          obtain ⟨l, hBL, hl9, hxn, hxs⟩ := HEs.out j x hx
                          obtain ⟨ax, cx, hxv, z1, z2⟩ := row_shape9 (R4.out.own j x hx)
                          clear z1 z2
                          have CX0 := R4.out.at hx
                          rw [hxv] at CX0
                          have ox := R4.out.own j x hx
                          have IX : Hid (∀ X, Below x4.heap.size x4 X → EAt X ax l) := hid (fun X hX => own_eat (ownr_below ox hX) hxn hxs hxv)
                          obtain ⟨N, hN⟩ : ∃ y, y = x.n := ⟨_, rfl⟩
                          rw [← hN] at CX0
                          have hNl : N = l.length := hN.trans hxn
                          have CX : Hid (∀ X, Below x4.heap.size x4 X → X.cell? ⟨gr, j, none⟩ = some (.slice ax N cx)) := hid (fun X hX => by rw [hX.cell (p := ⟨gr, j, none⟩) (World.block_lt_of_cell? _ _ CX0)]; exact CX0)
                          have j0 : (0 : Int) ≤ (j : Int) := by omega
                          have j1 : (j : Int) < 4 := by omega
                          have HBL := hid hBL
                          clear CX0 ox hxn hxs hxv hN hx L4 R4 HEs hBL
                          go_upto_region 33 with fail
                          refine wp_region_noPanic ?_
                          refine wp_region_held_drew (S := fun w' => Below x4.heap.size x4 w') (by kernel_rfl) (HJ.out.trans (((Chg.refl wr No).drew.below).mono HJ.out.size)) (fun hHeld => ?_)
                          refine takeVal 0 110 (.slice (some ⟨gr, 0, none⟩) 4 cr) rfl (by kernel_rfl) (by kernel_rfl) (by kernel_rfl) rfl (by rfl) (fun _ _ _ h => h) hHeld (fun W' hw' => rfl) ?_
                          simp only [List.setIfInBounds_toArray, List.set_cons_zero, List.set_cons_succ]
                          refine takeVal 1 111 (.int .i64 (j : Int)) rfl (by kernel_rfl) (by kernel_rfl) (by kernel_rfl) rfl (by rfl) (fun _ _ _ h => h) hHeld (fun W' hw' => rfl) ?_
                          simp only [List.setIfInBounds_toArray, List.set_cons_zero, List.set_cons_succ]
                          refine takeVal 2 112 (.pointer (some ⟨gr, j, none⟩)) rfl (by kernel_rfl) (by kernel_rfl) (by kernel_rfl) rfl (by rfl) (fun _ _ _ h => h) hHeld (fun W' hw' => by go_simp) ?_
                          simp only [List.setIfInBounds_toArray, List.set_cons_zero, List.set_cons_succ]
                          refine takeVal 3 113 (.slice ax N cx) rfl (by kernel_rfl) (by kernel_rfl) (by kernel_rfl) rfl (by rfl) (fun _ _ _ h => h) hHeld (fun W' hw' => by have hc := CX.out W' hw'; go_simp) ?_
                          simp only [List.setIfInBounds_toArray, List.set_cons_zero, List.set_cons_succ]
                          refine takeVal 4 114 (.pointer (some ⟨r, 0, none⟩)) rfl (by kernel_rfl) (by kernel_rfl) (by kernel_rfl) rfl (by rfl) (fun _ _ _ h => h) hHeld (fun W' hw' => rfl) ?_
                          simp only [List.setIfInBounds_toArray, List.set_cons_zero, List.set_cons_succ]
                          refine step1 5 (by kernel_rfl) ?_
                          refine stCall 5 115 13 #[.pointer (some ⟨r, 0, none⟩)] _ rfl rfl (by rfl) (by go_simp) (redges_any (HRX.out _ (B4.out.trans (hHeld.mono B4.out.size)))) ?_
                          rintro e y1 ⟨v1, l1, rfl, o1, bl1, c1⟩
                          have hl1 : l1 = l := elist_one bl1 HBL.out
                          subst hl1
                          have h1 : Below x4.heap.size x4 y1 := hHeld.trans (c1.below.mono hHeld.size)
                          obtain ⟨a1, k1, e1, iat1, z2⟩ := Edgs.at_ o1
                          subst e1
                          refine ⟨_, rfl, h1, ?_⟩
                          simp only [List.setIfInBounds_toArray, List.set_cons_zero, List.set_cons_succ]
                          refine step1 6 (by kernel_rfl) ?_
                          refine stCall 6 116 12 #[.slice ax N cx, .slice a1 l1.length k1] _ rfl rfl (by rfl) (by go_simp) (by rw [hNl]; exact edges_any l1 ax a1 cx k1 y1 (by omega) (IX.out y1 h1) iat1) ?_
                          rintro e y2 ⟨rfl, m2, rfl⟩
                          have h2 : Below x4.heap.size x4 (y1.drewN m2) := h1.trans ((chg_drewN y1 m2).below.mono h1.size)
                          refine ⟨_, rfl, h2, ?_⟩
                          simp only [List.setIfInBounds_toArray, List.set_cons_zero, List.set_cons_succ]
                          refine takeVal 7 117 (.bool false) rfl (by kernel_rfl) (by kernel_rfl) (by kernel_rfl) rfl (by rfl) (fun _ _ _ h => h) h2 (fun W' hw' => by go_simp) ?_
                          simp only [List.setIfInBounds_toArray, List.set_cons_zero, List.set_cons_succ]
                          refine wpAnyH_done (by kernel_rfl) ?_ _
                          refine NoPanic.normal ?_
                          have HJ2 := hid h2
                          clear h2 h1 hHeld c1 o1 iat1 z2
                          go_wp2_with fail
                          exact ⟨⟨j + 1, by omega, by go_num, HJ2⟩, by simp [intOf]; omega⟩
                      · as_aux_lemma =>
                          have hjN : ¬ ((j : Int) < 4) := by omega
                          have L5 := hid (L4.out.below HJ.out)
                          have R5 := hid (R4.out.below HJ.out)
                          have B5 : Hid (Below x0.heap.size x0 wr) := hid (B4.out.trans (HJ.out.mono B4.out.size))
                          have HLo := hid (listsOwn_any av NV cv x0.heap.size V wr HVN.out (by have := HVk2.out; omega) B5.out.size L5.out (fun j x hx => by obtain ⟨l, _, h1, h2, _⟩ := HBs.out j x hx; omega))
                          clear L4 R4 B4 HJ hlj
                          go_wp2_with (first
                            | (go_at_call 14; go_must (refine HLo.out.mono ?_; rintro e y1 ⟨rfl, hk1⟩; have R6 := hid (Kps.lot R5.out hk1 (by decide) (by decide) (by decide) (by decide)); have B6 : Hid (Below x0.heap.size x0 y1) := hid (B5.out.trans hk1.low); clear hk1; have HRo := hid (rowsOwn_any ar 4 cr x0.heap.size R y1 hRq (by omega) B6.out.size R6.out (fun j x hx => by obtain ⟨l, _, h1, h2, _⟩ := HEs.out j x hx; omega))))
                            | (go_at_call 15; go_must (refine HRo.out.mono ?_; rintro e y2 ⟨rfl, hk2⟩; have B7 : Hid (Below x0.heap.size x0 y2) := hid (B6.out.trans hk2.low); clear hk2; have HE7 := edgesG_any (HGX.out y2 B7.out)))
                            | (go_at_call 9; go_must (refine HE7.mono ?_; rintro e y3 ⟨v3, l3, rfl, o3, e3, c3⟩; obtain ⟨a3, k3, hv3, at3, _⟩ := Edgs.at_ o3; subst hv3; have B8 : Hid (Below x0.heap.size x0 y3) := hid (B7.out.trans (c3.below.mono B7.out.size)); have HE8 := redges_any (HRX.out y3 B8.out); have AT3 := hid at3; have EL3 := hid e3; clear o3 c3 at3 e3 HE7))
                            | (go_at_call 13; go_must (refine HE8.mono ?_; rintro e y4 ⟨v4, l4, rfl, o4, e4, c4⟩; obtain ⟨a4, k4, hv4, at4, _⟩ := Edgs.at_ o4; subst hv4; have hl4 : l4 = l3 := elist_one e4 EL3.out; subst hl4; have B9 : Hid (Below x0.heap.size x0 y4) := hid (B8.out.trans (c4.below.mono B8.out.size)); have HE9 := edges_any l4 a3 a4 k3 k4 y4 (by have := elist_len EL3.out hsec.out; omega) (AT3.out.call c4) at4; clear o4 c4 at4 e4 HE8))
                            | (go_at_call 12; go_must (refine HE9.mono ?_; rintro e y5 ⟨rfl, m5, hy5⟩; have Y5 : Hid (Below x0.heap.size x0 y5) := hid (by rw [hy5]; exact B9.out.trans ((chg_drewN y4 m5).below.mono B9.out.size)); clear HE9 hy5)))
                          go_ret
                          exact ⟨rfl, HWX.out _ Y5.out⟩
        · have i1 : ¬ ((k : Int) < (n : Int)) := by omega
          go_upto_region 19 with fail
          obtain ⟨xa, hxa⟩ : ∃ y, y = wr := ⟨_, rfl⟩
          subst hxa
          go_loopw [8, 10] (fun v i wq => ∃ (q : Nat) (R : List Lst) (rv : Value), rv = v ∧ q ≤ 4 ∧ i = .int .i64 q ∧ R.length = q ∧ Hid (Lot x0.heap.size 30 48 2 rv R wq) ∧ Hid (EsIs F R) ∧ Hid (Lot x0.heap.size 29 3 1 vv V wq) ∧ Hid (Below x0.heap.size x0 wq)) (fun _ i _ => 4 - (intOf i).toNat)
          case atStart => exact ⟨0, [], _, rfl, by omega, rfl, rfl, hid (Lot.nil _ _ _ _ _), hid (fun j x h => by simp at h), HL, HBq⟩
          case round =>
            clear HL HBq
            obtain ⟨q, R, rv, rfl, hq, rfl, hRq, HLR, HEs, HL, HBq⟩ := hrel
            by_cases hlq : q < 4
            · as_aux_lemma =>
                have q1 : (q : Int) < 4 := by omega
                have HE1 := edgesG_any (HGX.out wr HBq.out)
                go_upto_region 20 with (first
                  | (go_at_call 9; go_must (refine HE1.mono ?_; rintro e y1 ⟨v1, l1, rfl, o1, e1, c1⟩; obtain ⟨a1, k1, hv1, z1, z2⟩ := row_shape9 o1; subst hv1; have O1 := hid o1; have C1 := hid c1.below; have EL1 := hid e1; clear z1 z2 o1 c1 e1 HE1))
                  | (at_builtin; go_must (refine wp_more rfl _ _ 37 30 rfl Try.underlying37 infoLs x0.heap.size 48 2 y1.heap.size 1 _ R ⟨.slice a1 l1.length k1, l1.length, cellsE l1⟩ (by decide) rfl rfl ((HLR.out.below C1.out).below (below_alloc _ _)) (by go_simp) (ownr_below (ownr_mono O1.out HBq.out.size) (below_alloc _ _)) (lot_newB HLR.out (Nat.le_refl _) O1.out) (by omega) (by have := HBq.out.size; have := C1.out.size; simp; omega) ?_; intro v3 y3 hl3 hg3)))
                have L3 := hid hl3
                have I3 := hid (((HL.out.below C1.out).below (below_alloc y1 (.cells #[.slice a1 l1.length k1] 30))).grow hg3 (by decide) (by decide))
                have B3 : Hid (Below x0.heap.size x0 y3) := hid (((HBq.out.trans (C1.out.mono HBq.out.size)).alloc (Nat.le_trans HBq.out.size C1.out.size) _).trans hg3.low)
                have E3 := hid (HEs.out.more (y := ⟨.slice a1 l1.length k1, l1.length, cellsE l1⟩) EL1.out (elist_len EL1.out hsec.out) ⟨rfl, rfl⟩)
                clear hl3 hg3 HLR HL HBq HEs
                go_wp2_with fail
                exact ⟨⟨q + 1, _, _, rfl, by omega, by go_num, by simp [hRq], L3, E3, I3, B3⟩, by simp [intOf]; omega⟩
            · have q4 : q = 4 := by omega
              subst q4
              have hge : ¬ (((4 : Nat) : Int) < 4) := by decide
              obtain ⟨av, cv, hvv, z1, z2⟩ := row_shape9 HL.out.row
              clear z1 z2
              subst hvv
              obtain ⟨ar, cr, hrv, z1, z2⟩ := row_shape9 HLR.out.row
              rw [hRq] at hrv
              clear z1 z2
              subst hrv
              obtain ⟨NV, hNV⟩ : ∃ y, y = V.length := ⟨_, rfl⟩
              rw [← hNV]
              rw [← hNV] at HL
              have HVk2 : Hid (NV = 2 * k) := hid (by omega)
              have HVN : Hid (V.length = NV) := hid hNV.symm
              clear hNV hlq hq hVk
              go_upto_region 23 with fail
              obtain ⟨x2, hx2⟩ : ∃ y, y = wr := ⟨_, rfl⟩
              subst hx2
              go_loopw [11] (fun i wq => ∃ (j : Nat), j ≤ NV ∧ i = .int .i64 j ∧ Hid (Below x2.heap.size x2 wq)) (fun i _ => NV - (intOf i).toNat)
              case atStart => exact ⟨0, by omega, rfl, hid (Below.refl _ _)⟩
              case round =>
                obtain ⟨j, hj, rfl, HJ⟩ := hrel
                by_cases hlj : j < NV
                · as_aux_lemma =>
                    have hVN := HVN.out
                    have hVk2 := HVk2.out
                    obtain ⟨gv, cv', hgv⟩ := HL.out.form (by omega)
                    injection hgv with e1 e2 e3
                    subst e1 e3
                    clear e2
                    obtain ⟨x, hx⟩ : ∃ x, V[j]? = some x := ⟨_, List.getElem?_eq_getElem (by omega)⟩
                    obtain ⟨l, hBL, hl9, hxn, hxs⟩ := HBs.out j x hx
                    obtain ⟨ax, cx, hxv, z1, z2⟩ := row_shape9 (HL.out.own j x hx)
                    clear z1 z2
                    have CX0 := HL.out.at hx
                    rw [hxv] at CX0
                    have ox := HL.out.own j x hx
                    have IX : Hid (∀ X, Below x2.heap.size x2 X → IAt X ax l) := hid (fun X hX => own_iat (ownr_below ox hX) hxn hxs hxv)
                    obtain ⟨N, hN⟩ : ∃ y, y = x.n := ⟨_, rfl⟩
                    rw [← hN] at CX0
                    have hNl : N = l.length := hN.trans hxn
                    have CX : Hid (∀ X, Below x2.heap.size x2 X → X.cell? ⟨gv, j, none⟩ = some (.slice ax N cx)) := hid (fun X hX => by rw [hX.cell (p := ⟨gv, j, none⟩) (World.block_lt_of_cell? _ _ CX0)]; exact CX0)
                    have HX2 := HBq
                    have HX0 : Hid (Below x0.heap.size x0 wr) := hid (HX2.out.trans (HJ.out.mono HX2.out.size))
                    rcases HZX.out with h0 | ⟨b, o, rfl, hb, hcell⟩
                    · have := HN.out; rw [h0] at this; simp at this; omega
                    obtain ⟨h, hh⟩ : ∃ h, j / 2 = h := ⟨_, rfl⟩
                    have hhn : h < n := by omega
                    have hcs := hcell h (by have := HN.out; omega)
                    have hdv : (j : Int).tdiv 2 = (h : Int) := by rw [Int.tdiv_eq_ediv_of_nonneg (by omega)]; omega
                    have j0 : (0 : Int) ≤ (j : Int) := by omega
                    have j1 : (j : Int) < (NV : Int) := by omega
                    have h0 : (0 : Int) ≤ (h : Int) := by omega
                    have h1 : (h : Int) < (n : Int) := by omega
                    have hj80 : (j : Int) ≤ 80 := by omega
                    clear hcell CX0 ox hxn hxs hxv hN hx HL HLR HEs hVN hVk2
                    by_cases hodd : j % 2 = 1
                    · have hr1 : (j : Int).tmod 2 = 1 := by rw [Int.tmod_eq_emod_of_nonneg (by omega)]; omega
                      have harg : argO ws j = (ws.getD h StV.z).b := by unfold argO; rw [if_pos (by omega), hh]
                      rw [harg] at hBL
                      have hca : wr.cell? ⟨b, o + h * 4 + 2, none⟩ = some (.int .i64 (ws.getD h StV.z).a) := by rw [HX0.out.cell (p := ⟨b, o + h * 4 + 2, none⟩) hb]; exact hcs 2 _ rfl
                      have hcb : wr.cell? ⟨b, o + h * 4 + 3, none⟩ = some (.int .i64 (ws.getD h StV.z).b) := by rw [HX0.out.cell (p := ⟨b, o + h * 4 + 3, none⟩) hb]; exact hcs 3 _ rfl
                      generalize ws.getD h StV.z = s at *
                      have HBL := hid hBL
                      clear hcs harg hBL
                      go_upto_region 28 with fail
                      clear hca hcb hr1
                      refine wp_region_noPanic ?_
                      refine wp_region_held_drew (S := fun w' => Below x2.heap.size x2 w') (by kernel_rfl) (HJ.out.trans (((Chg.refl wr No).drew.below).mono HJ.out.size)) (fun hHeld => ?_)
                      refine takeVal 0 95 (.slice (some ⟨gv, 0, none⟩) NV cv) rfl (by kernel_rfl) (by kernel_rfl) (by kernel_rfl) rfl (by rfl) (fun _ _ _ h => h) hHeld (fun W' hw' => rfl) ?_
                      simp only [List.setIfInBounds_toArray, List.set_cons_zero, List.set_cons_succ]
                      refine takeVal 1 96 (.int .i64 (j : Int)) rfl (by kernel_rfl) (by kernel_rfl) (by kernel_rfl) rfl (by rfl) (fun _ _ _ h => h) hHeld (fun W' hw' => rfl) ?_
                      simp only [List.setIfInBounds_toArray, List.set_cons_zero, List.set_cons_succ]
                      refine takeVal 2 97 (.pointer (some ⟨gv, j, none⟩)) rfl (by kernel_rfl) (by kernel_rfl) (by kernel_rfl) rfl (by rfl) (fun _ _ _ h => h) hHeld (fun W' hw' => by go_simp) ?_
                      simp only [List.setIfInBounds_toArray, List.set_cons_zero, List.set_cons_succ]
                      refine takeVal 3 98 (.slice ax N cx) rfl (by kernel_rfl) (by kernel_rfl) (by kernel_rfl) rfl (by rfl) (fun _ _ _ h => h) hHeld (fun W' hw' => by have hc := CX.out W' hw'; go_simp) ?_
                      simp only [List.setIfInBounds_toArray, List.set_cons_zero, List.set_cons_succ]
                      refine takeVal 4 99 (.pointer (some ⟨r, 0, none⟩)) rfl (by kernel_rfl) (by kernel_rfl) (by kernel_rfl) rfl (by rfl) (fun _ _ _ h => h) hHeld (fun W' hw' => rfl) ?_
                      simp only [List.setIfInBounds_toArray, List.set_cons_zero, List.set_cons_succ]
                      refine takeVal 5 100 (.int .i64 s.b) rfl (by kernel_rfl) (by kernel_rfl) (by kernel_rfl) rfl (by rfl) (fun _ _ _ h => h) hHeld (fun W' hw' => rfl) ?_
                      simp only [List.setIfInBounds_toArray, List.set_cons_zero, List.set_cons_succ]
                      refine step1 6 (by kernel_rfl) ?_
                      refine stCall 6 101 11 #[.pointer (some ⟨r, 0, none⟩), .int .i64 s.b] _ rfl rfl (by rfl) (by go_simp) (rbefore_any s.b (HRX.out _ (HX2.out.trans (hHeld.mono HX2.out.size)))) ?_
                      rintro e y1 ⟨v1, l1, rfl, o1, bl1, c1⟩
                      have hl1 : l1 = l := blist_one bl1 HBL.out
                      subst hl1
                      have h1 : Below x2.heap.size x2 y1 := hHeld.trans (c1.below.mono hHeld.size)
                      obtain ⟨a1, k1, e1, iat1, z2⟩ := Ints.at_ o1
                      subst e1
                      refine ⟨_, rfl, h1, ?_⟩
                      simp only [List.setIfInBounds_toArray, List.set_cons_zero, List.set_cons_succ]
                      refine step1 7 (by kernel_rfl) ?_
                      refine stCall 7 102 10 #[.slice ax N cx, .slice a1 l1.length k1] _ rfl rfl (by rfl) (by go_simp) (by rw [hNl]; exact ints_any l1 ax a1 cx k1 y1 (by omega) (IX.out y1 h1) iat1) ?_
                      rintro e y2 ⟨rfl, m2, rfl⟩
                      have h2 : Below x2.heap.size x2 (y1.drewN m2) := h1.trans ((chg_drewN y1 m2).below.mono h1.size)
                      refine ⟨_, rfl, h2, ?_⟩
                      simp only [List.setIfInBounds_toArray, List.set_cons_zero, List.set_cons_succ]
                      refine takeVal 8 103 (.bool false) rfl (by kernel_rfl) (by kernel_rfl) (by kernel_rfl) rfl (by rfl) (fun _ _ _ h => h) h2 (fun W' hw' => by go_simp) ?_
                      simp only [List.setIfInBounds_toArray, List.set_cons_zero, List.set_cons_succ]
                      refine wpAnyH_done (by kernel_rfl) ?_ _
                      refine NoPanic.normal ?_
                      have HJ2 := hid h2
                      clear h2 h1 hHeld c1 o1 iat1 z2
                      go_wp2_with fail
                      exact ⟨⟨j + 1, by omega, by go_num, HJ2⟩, by simp [intOf]; omega⟩
                    · have hr1 : (j : Int).tmod 2 = 0 := by rw [Int.tmod_eq_emod_of_nonneg (by omega)]; omega
                      have harg : argO ws j = (ws.getD h StV.z).a := by unfold argO; rw [if_neg (by omega), hh]
                      rw [harg] at hBL
                      have hca : wr.cell? ⟨b, o + h * 4 + 2, none⟩ = some (.int .i64 (ws.getD h StV.z).a) := by rw [HX0.out.cell (p := ⟨b, o + h * 4 + 2, none⟩) hb]; exact hcs 2 _ rfl
                      have hcb : wr.cell? ⟨b, o + h * 4 + 3, none⟩ = some (.int .i64 (ws.getD h StV.z).b) := by rw [HX0.out.cell (p := ⟨b, o + h * 4 + 3, none⟩) hb]; exact hcs 3 _ rfl
                      generalize ws.getD h StV.z = s at *
                      have HBL := hid hBL
                      clear hcs harg hBL
                      go_upto_region 28 with fail
                      clear hca hcb hr1
                      refine wp_region_noPanic ?_
                      refine wp_region_held_drew (S := fun w' => Below x2.heap.size x2 w') (by kernel_rfl) (HJ.out.trans (((Chg.refl wr No).drew.below).mono HJ.out.size)) (fun hHeld => ?_)
                      refine takeVal 0 95 (.slice (some ⟨gv, 0, none⟩) NV cv) rfl (by kernel_rfl) (by kernel_rfl) (by kernel_rfl) rfl (by rfl) (fun _ _ _ h => h) hHeld (fun W' hw' => rfl) ?_
                      simp only [List.setIfInBounds_toArray, List.set_cons_zero, List.set_cons_succ]
                      refine takeVal 1 96 (.int .i64 (j : Int)) rfl (by kernel_rfl) (by kernel_rfl) (by kernel_rfl) rfl (by rfl) (fun _ _ _ h => h) hHeld (fun W' hw' => rfl) ?_
                      simp only [List.setIfInBounds_toArray, List.set_cons_zero, List.set_cons_succ]
                      refine takeVal 2 97 (.pointer (some ⟨gv, j, none⟩)) rfl (by kernel_rfl) (by kernel_rfl) (by kernel_rfl) rfl (by rfl) (fun _ _ _ h => h) hHeld (fun W' hw' => by go_simp) ?_
                      simp only [List.setIfInBounds_toArray, List.set_cons_zero, List.set_cons_succ]
                      refine takeVal 3 98 (.slice ax N cx) rfl (by kernel_rfl) (by kernel_rfl) (by kernel_rfl) rfl (by rfl) (fun _ _ _ h => h) hHeld (fun W' hw' => by have hc := CX.out W' hw'; go_simp) ?_
                      simp only [List.setIfInBounds_toArray, List.set_cons_zero, List.set_cons_succ]
                      refine takeVal 4 99 (.pointer (some ⟨r, 0, none⟩)) rfl (by kernel_rfl) (by kernel_rfl) (by kernel_rfl) rfl (by rfl) (fun _ _ _ h => h) hHeld (fun W' hw' => rfl) ?_
                      simp only [List.setIfInBounds_toArray, List.set_cons_zero, List.set_cons_succ]
                      refine takeVal 5 100 (.int .i64 s.a) rfl (by kernel_rfl) (by kernel_rfl) (by kernel_rfl) rfl (by rfl) (fun _ _ _ h => h) hHeld (fun W' hw' => rfl) ?_
                      simp only [List.setIfInBounds_toArray, List.set_cons_zero, List.set_cons_succ]
                      refine step1 6 (by kernel_rfl) ?_
                      refine stCall 6 101 11 #[.pointer (some ⟨r, 0, none⟩), .int .i64 s.a] _ rfl rfl (by rfl) (by go_simp) (rbefore_any s.a (HRX.out _ (HX2.out.trans (hHeld.mono HX2.out.size)))) ?_
                      rintro e y1 ⟨v1, l1, rfl, o1, bl1, c1⟩
                      have hl1 : l1 = l := blist_one bl1 HBL.out
                      subst hl1
                      have h1 : Below x2.heap.size x2 y1 := hHeld.trans (c1.below.mono hHeld.size)
                      obtain ⟨a1, k1, e1, iat1, z2⟩ := Ints.at_ o1
                      subst e1
                      refine ⟨_, rfl, h1, ?_⟩
                      simp only [List.setIfInBounds_toArray, List.set_cons_zero, List.set_cons_succ]
                      refine step1 7 (by kernel_rfl) ?_
                      refine stCall 7 102 10 #[.slice ax N cx, .slice a1 l1.length k1] _ rfl rfl (by rfl) (by go_simp) (by rw [hNl]; exact ints_any l1 ax a1 cx k1 y1 (by omega) (IX.out y1 h1) iat1) ?_
                      rintro e y2 ⟨rfl, m2, rfl⟩
                      have h2 : Below x2.heap.size x2 (y1.drewN m2) := h1.trans ((chg_drewN y1 m2).below.mono h1.size)
                      refine ⟨_, rfl, h2, ?_⟩
                      simp only [List.setIfInBounds_toArray, List.set_cons_zero, List.set_cons_succ]
                      refine takeVal 8 103 (.bool false) rfl (by kernel_rfl) (by kernel_rfl) (by kernel_rfl) rfl (by rfl) (fun _ _ _ h => h) h2 (fun W' hw' => by go_simp) ?_
                      simp only [List.setIfInBounds_toArray, List.set_cons_zero, List.set_cons_succ]
                      refine wpAnyH_done (by kernel_rfl) ?_ _
                      refine NoPanic.normal ?_
                      have HJ2 := hid h2
                      clear h2 h1 hHeld c1 o1 iat1 z2
                      go_wp2_with fail
                      exact ⟨⟨j + 1, by omega, by go_num, HJ2⟩, by simp [intOf]; omega⟩
                · have hjN : ¬ ((j : Int) < (NV : Int)) := by omega
                  go_upto_region 31 with fail
                  obtain ⟨x4, hx4⟩ : ∃ y, y = wr := ⟨_, rfl⟩
                  subst hx4
                  have L4 := hid (HL.out.below HJ.out)
                  have R4 := hid (HLR.out.below HJ.out)
                  have B4 : Hid (Below x0.heap.size x0 x4) := hid (HBq.out.trans (HJ.out.mono HBq.out.size))
                  clear HL HLR HBq HJ hjN hlj
                  go_loopw [13] (fun i wq => ∃ (j : Nat), j ≤ 4 ∧ i = .int .i64 j ∧ Hid (Below x4.heap.size x4 wq)) (fun i _ => 4 - (intOf i).toNat)
                  case atStart => exact ⟨0, by omega, rfl, hid (Below.refl _ _)⟩
                  case round =>
                    obtain ⟨j, hj, rfl, HJ⟩ := hrel
                    by_cases hlj : j < 4
                    · as_aux_lemma =>
                        obtain ⟨gr, cr', hgr⟩ := R4.out.form (by omega)
                        rw [hRq] at hgr
                        injection hgr with e1 e2 e3
                        subst e1 e3
                        clear e2
                        obtain ⟨x, hx⟩ : ∃ x, R[j]? = some x := ⟨_, List.getElem?_eq_getElem (by omega)⟩
                        obtain ⟨l, hBL, hl9, hxn, hxs⟩ := HEs.out j x hx
                        obtain ⟨ax, cx, hxv, z1, z2⟩ := row_shape9 (R4.out.own j x hx)
                        clear z1 z2
                        have CX0 := R4.out.at hx
                        rw [hxv] at CX0
                        have ox := R4.out.own j x hx
                        have IX : Hid (∀ X, Below x4.heap.size x4 X → EAt X ax l) := hid (fun X hX => own_eat (ownr_below ox hX) hxn hxs hxv)
                        obtain ⟨N, hN⟩ : ∃ y, y = x.n := ⟨_, rfl⟩
                        rw [← hN] at CX0
                        have hNl : N = l.length := hN.trans hxn
                        have CX : Hid (∀ X, Below x4.heap.size x4 X → X.cell? ⟨gr, j, none⟩ = some (.slice ax N cx)) := hid (fun X hX => by rw [hX.cell (p := ⟨gr, j, none⟩) (World.block_lt_of_cell? _ _ CX0)]; exact CX0)
                        have j0 : (0 : Int) ≤ (j : Int) := by omega
                        have j1 : (j : Int) < 4 := by omega
                        have HBL := hid hBL
                        clear CX0 ox hxn hxs hxv hN hx L4 R4 HEs hBL
                        go_upto_region 33 with fail
                        refine wp_region_noPanic ?_
                        refine wp_region_held_drew (S := fun w' => Below x4.heap.size x4 w') (by kernel_rfl) (HJ.out.trans (((Chg.refl wr No).drew.below).mono HJ.out.size)) (fun hHeld => ?_)
                        refine takeVal 0 110 (.slice (some ⟨gr, 0, none⟩) 4 cr) rfl (by kernel_rfl) (by kernel_rfl) (by kernel_rfl) rfl (by rfl) (fun _ _ _ h => h) hHeld (fun W' hw' => rfl) ?_
                        simp only [List.setIfInBounds_toArray, List.set_cons_zero, List.set_cons_succ]
                        refine takeVal 1 111 (.int .i64 (j : Int)) rfl (by kernel_rfl) (by kernel_rfl) (by kernel_rfl) rfl (by rfl) (fun _ _ _ h => h) hHeld (fun W' hw' => rfl) ?_
                        simp only [List.setIfInBounds_toArray, List.set_cons_zero, List.set_cons_succ]
                        refine takeVal 2 112 (.pointer (some ⟨gr, j, none⟩)) rfl (by kernel_rfl) (by kernel_rfl) (by kernel_rfl) rfl (by rfl) (fun _ _ _ h => h) hHeld (fun W' hw' => by go_simp) ?_
                        simp only [List.setIfInBounds_toArray, List.set_cons_zero, List.set_cons_succ]
                        refine takeVal 3 113 (.slice ax N cx) rfl (by kernel_rfl) (by kernel_rfl) (by kernel_rfl) rfl (by rfl) (fun _ _ _ h => h) hHeld (fun W' hw' => by have hc := CX.out W' hw'; go_simp) ?_
                        simp only [List.setIfInBounds_toArray, List.set_cons_zero, List.set_cons_succ]
                        refine takeVal 4 114 (.pointer (some ⟨r, 0, none⟩)) rfl (by kernel_rfl) (by kernel_rfl) (by kernel_rfl) rfl (by rfl) (fun _ _ _ h => h) hHeld (fun W' hw' => rfl) ?_
                        simp only [List.setIfInBounds_toArray, List.set_cons_zero, List.set_cons_succ]
                        refine step1 5 (by kernel_rfl) ?_
                        refine stCall 5 115 13 #[.pointer (some ⟨r, 0, none⟩)] _ rfl rfl (by rfl) (by go_simp) (redges_any (HRX.out _ (B4.out.trans (hHeld.mono B4.out.size)))) ?_
                        rintro e y1 ⟨v1, l1, rfl, o1, bl1, c1⟩
                        have hl1 : l1 = l := elist_one bl1 HBL.out
                        subst hl1
                        have h1 : Below x4.heap.size x4 y1 := hHeld.trans (c1.below.mono hHeld.size)
                        obtain ⟨a1, k1, e1, iat1, z2⟩ := Edgs.at_ o1
                        subst e1
                        refine ⟨_, rfl, h1, ?_⟩
                        simp only [List.setIfInBounds_toArray, List.set_cons_zero, List.set_cons_succ]
                        refine step1 6 (by kernel_rfl) ?_
                        refine stCall 6 116 12 #[.slice ax N cx, .slice a1 l1.length k1] _ rfl rfl (by rfl) (by go_simp) (by rw [hNl]; exact edges_any l1 ax a1 cx k1 y1 (by omega) (IX.out y1 h1) iat1) ?_
                        rintro e y2 ⟨rfl, m2, rfl⟩
                        have h2 : Below x4.heap.size x4 (y1.drewN m2) := h1.trans ((chg_drewN y1 m2).below.mono h1.size)
                        refine ⟨_, rfl, h2, ?_⟩
                        simp only [List.setIfInBounds_toArray, List.set_cons_zero, List.set_cons_succ]
                        refine takeVal 7 117 (.bool false) rfl (by kernel_rfl) (by kernel_rfl) (by kernel_rfl) rfl (by rfl) (fun _ _ _ h => h) h2 (fun W' hw' => by go_simp) ?_
                        simp only [List.setIfInBounds_toArray, List.set_cons_zero, List.set_cons_succ]
                        refine wpAnyH_done (by kernel_rfl) ?_ _
                        refine NoPanic.normal ?_
                        have HJ2 := hid h2
                        clear h2 h1 hHeld c1 o1 iat1 z2
                        go_wp2_with fail
                        exact ⟨⟨j + 1, by omega, by go_num, HJ2⟩, by simp [intOf]; omega⟩
                    · as_aux_lemma =>
                        have hjN : ¬ ((j : Int) < 4) := by omega
                        have L5 := hid (L4.out.below HJ.out)
                        have R5 := hid (R4.out.below HJ.out)
                        have B5 : Hid (Below x0.heap.size x0 wr) := hid (B4.out.trans (HJ.out.mono B4.out.size))
                        have HLo := hid (listsOwn_any av NV cv x0.heap.size V wr HVN.out (by have := HVk2.out; omega) B5.out.size L5.out (fun j x hx => by obtain ⟨l, _, h1, h2, _⟩ := HBs.out j x hx; omega))
                        clear L4 R4 B4 HJ hlj
                        go_wp2_with (first
                          | (go_at_call 14; go_must (refine HLo.out.mono ?_; rintro e y1 ⟨rfl, hk1⟩; have R6 := hid (Kps.lot R5.out hk1 (by decide) (by decide) (by decide) (by decide)); have B6 : Hid (Below x0.heap.size x0 y1) := hid (B5.out.trans hk1.low); clear hk1; have HRo := hid (rowsOwn_any ar 4 cr x0.heap.size R y1 hRq (by omega) B6.out.size R6.out (fun j x hx => by obtain ⟨l, _, h1, h2, _⟩ := HEs.out j x hx; omega))))
                          | (go_at_call 15; go_must (refine HRo.out.mono ?_; rintro e y2 ⟨rfl, hk2⟩; have B7 : Hid (Below x0.heap.size x0 y2) := hid (B6.out.trans hk2.low); clear hk2; have HE7 := edgesG_any (HGX.out y2 B7.out)))
                          | (go_at_call 9; go_must (refine HE7.mono ?_; rintro e y3 ⟨v3, l3, rfl, o3, e3, c3⟩; obtain ⟨a3, k3, hv3, at3, _⟩ := Edgs.at_ o3; subst hv3; have B8 : Hid (Below x0.heap.size x0 y3) := hid (B7.out.trans (c3.below.mono B7.out.size)); have HE8 := redges_any (HRX.out y3 B8.out); have AT3 := hid at3; have EL3 := hid e3; clear o3 c3 at3 e3 HE7))
                          | (go_at_call 13; go_must (refine HE8.mono ?_; rintro e y4 ⟨v4, l4, rfl, o4, e4, c4⟩; obtain ⟨a4, k4, hv4, at4, _⟩ := Edgs.at_ o4; subst hv4; have hl4 : l4 = l3 := elist_one e4 EL3.out; subst hl4; have B9 : Hid (Below x0.heap.size x0 y4) := hid (B8.out.trans (c4.below.mono B8.out.size)); have HE9 := edges_any l4 a3 a4 k3 k4 y4 (by have := elist_len EL3.out hsec.out; omega) (AT3.out.call c4) at4; clear o4 c4 at4 e4 HE8))
                          | (go_at_call 12; go_must (refine HE9.mono ?_; rintro e y5 ⟨rfl, m5, hy5⟩; have Y5 : Hid (Below x0.heap.size x0 y5) := hid (by rw [hy5]; exact B9.out.trans ((chg_drewN y4 m5).below.mono B9.out.size)); clear HE9 hy5)))
                        go_ret
                        exact ⟨rfl, HWX.out _ Y5.out⟩

end Go.Proofs.Ytfkommjpofpmbaa
