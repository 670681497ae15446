/-
  PlainQuiet, walked.
-/
import Derived.Test.YthpngfmckkfipaaGreatDoorVQ
import Derived.Test.YthpngfmckkfipaaGreatDoorVS
import Derived.Test.YthpngfmckkfipaaGreatDoorVN
namespace Go.Proofs.YthpngfmckkfipaaGreatDoor
open Go.RowKit

/-- While nodes are copied: those that were, in the new map. -/
structure CP (w wr : World) (gm r : Nat) (q : PC) (s : PSt) (left : Int → Prop) (qc : Int → Option NC) : Prop where
  mp : MapV wr gm (fun i => (qc i).map ptrN)
  nd : ∀ i c, qc i = some c → ∃ x, s.nd i = some x ∧ IsN wr c x
  iff : ∀ i, qc i ≠ none ↔ (q.nc i ≠ none ∧ ¬ left i)
  ap : ∀ i j c d, qc i = some c → qc j = some d → i ≠ j → ∀ k, BlkN c k → ¬ BlkN d k
  hi : ∀ i c, qc i = some c → c.B = 0 ∧ ∀ k, BlkN c k → r < k
  chg : Chg w wr No
theorem CP.more {w wr w3 w4 w5 : World} {gm r : Nat} {q : PC} {s : PSt} {left : Int → Prop} {qc : Int → Option NC} {y : Int} {c' : NC} {x : Nd} (h : CP w wr gm r q s left qc) (hw : w.heap.size ≤ gm) (hg : gm < r) (hrw : r < wr.heap.size) (hc3 : Chg wr w3 (· = r)) (hsx : s.nd y = some x) (hq : q.nc y ≠ none) (hN : IsN w4 c' x) (hc4 : Chg w3 w4 No) (hb : ∀ k, BlkN c' k → w3.heap.size ≤ k) (hB : c'.B = 0) (hc5 : Chg w4 w5 (· = gm)) (hm : MapV w5 gm (fun i => if i = y then some (ptrN c') else (qc i).map ptrN)) :
    CP w w5 gm r q s (fun i => left i ∧ i ≠ y) (fun i => if i = y then some c' else qc i) := by
  have hz3 := hc3.size
  refine ⟨hm.cong (fun i => ?_), fun i c e => ?_, fun i => ?_, fun i j c d ei ej hij k hk => ?_, fun i c e => ?_, ?_⟩
  · by_cases e : i = y
    · rw [if_pos e, if_pos e]; rfl
    · rw [if_neg e, if_neg e]
  · by_cases e0 : i = y
    · rw [if_pos e0] at e
      cases e
      rw [e0]
      exact ⟨x, hsx, hN.keep hc5 (fun k hk e => by have := hb k hk; omega)⟩
    · rw [if_neg e0] at e
      obtain ⟨x2, h1, h2⟩ := h.nd i c e
      have hh := (h.hi i c e).2
      exact ⟨x2, h1, ((h2.keep hc3 (fun k hk e => by have := hh k hk; omega)).call hc4).keep hc5 (fun k hk e => by have := hh k hk; omega)⟩
  · by_cases e : i = y
    · rw [if_pos e, e]
      exact ⟨fun _ => ⟨hq, fun c => c.2 rfl⟩, fun _ c => by cases c⟩
    · rw [if_neg e, h.iff i]
      exact ⟨fun c => ⟨c.1, fun d => c.2 d.1⟩, fun c => ⟨c.1, fun d => c.2 ⟨d, e⟩⟩⟩
  · by_cases e : i = y
    · rw [if_pos e] at ei
      cases ei
      rw [if_neg (fun e2 => hij (e.trans e2.symm))] at ej
      obtain ⟨_, _, hNd⟩ := h.nd j d ej
      intro hd
      have := hNd.lt hd
      have := hb k hk
      omega
    · rw [if_neg e] at ei
      by_cases e2 : j = y
      · rw [if_pos e2] at ej
        cases ej
        obtain ⟨_, _, hNc⟩ := h.nd i c ei
        intro hd
        have := hNc.lt hk
        have := hb k hd
        omega
      · rw [if_neg e2] at ej
        exact h.ap i j c d ei ej hij k hk
  · by_cases e0 : i = y
    · rw [if_pos e0] at e
      cases e
      exact ⟨hB, fun k hk => by have := hb k hk; omega⟩
    · rw [if_neg e0] at e
      exact h.hi i c e
  · exact ((h.chg.trans hc3 (fun _ _ e => e) (fun j hj e => by omega)).tr hc4).trans hc5 (fun _ _ e => e) (fun j hj e => by omega)
set_option maxHeartbeats 4000000 in
set_option maxRecDepth 100000 in
theorem pcopy_any {q : PC} {s : PSt} (w : World) (h : IsPl w q s) : Calls Tryz.prog 13 #[.pointer (some ⟨q.p, 0, none⟩)] w fun e w' => ∃ q' : PC, e = .returned (.pointer (some ⟨q'.p, 0, none⟩)) ∧ IsPl w' q' s ∧ Chg w w' No ∧ ∀ j, PBlk q' j → w.heap.size ≤ j := by
  have hmm := @run_makeMap Tryz.prog
  have HP := hid h
  obtain ⟨w1, hw1⟩ : ∃ y, y = w.alloc (.map #[] 0) := ⟨_, rfl⟩
  have hc1 : Chg w w1 No := by rw [hw1]; exact Chg.alloc _ _ No
  have hs1 : w1.heap.size = w.heap.size + 1 := by rw [hw1]; simp
  have hm1 : MapV w1 w.heap.size (fun _ => none) := by rw [hw1]; exact MapV.made w
  have c2 := (h.call hc1).c2
  obtain ⟨fm, hfm⟩ : ∃ y, y = (fun i => (q.nc i).map ptrN) := ⟨_, rfl⟩
  have HM : Hid (MapV w1 q.mb fm) := hid (by rw [hfm]; exact (h.call hc1).mp)
  have HFm := hid hfm
  have HC1 := hid hc1
  have HS1 := hid hs1
  have HM1 := hid hm1
  rw [hw1] at c2
  have HW1 := hid hw1
  clear h hfm hc1 hs1 hm1
  go_enter Tryz.func13, Tryz.ntmps13
  rw [← HW1.out] at c2
  go_upto_region 2 with fail
  rw [← HW1.out]
  clear hw1
  go_wp2_with (first
    | (at_range; go_must (refine wp_rangeV 56 73 Tryz.underlying56 rfl _ rfl q.mb _ rfl HM.out ?_; intro w2 cnt0 hr0 hc0 hz0))
    | fail)
  go_frame
  obtain ⟨gm, hgm⟩ : ∃ y, y = w.heap.size := ⟨_, rfl⟩
  obtain ⟨r, hrr⟩ : ∃ y, y = w1.heap.size := ⟨_, rfl⟩
  rw [← hrr] at hr0 ⊢
  rw [← hgm] at HM1 ⊢
  have HG : Hid (w.heap.size ≤ gm ∧ gm < r) := hid (by have := HS1.out; omega)
  have HR0 := hid hr0
  have HRz : Hid (r < w2.heap.size) := hid (by omega)
  have HBr : Hid (q.mb ≠ r ∧ q.mb ≠ gm) := hid (by have := HP.out.mp.lt; have := HS1.out; omega)
  have HCP0 : Hid (CP w w2 gm r q s (fun x => (fm x).isSome = true) (fun _ => none)) := hid ⟨(HM1.out.keep hc0 (fun e => e)).cong (fun _ => rfl), (fun _ _ e => by cases e), fun i => ⟨fun e => absurd rfl e, fun ⟨e1, e2⟩ => by
      refine absurd ?_ e2
      rw [HFm.out]
      obtain ⟨c, hc⟩ := Option.ne_none_iff_exists'.1 e1
      show ((q.nc i).map ptrN).isSome = true
      rw [hc]
      rfl⟩, (fun _ _ _ _ e => by cases e), (fun _ _ e => by cases e), HC1.out.tr hc0⟩
  clear hr0 hc0 hz0 hgm hrr c2 HM HM1 HC1 HS1 HW1
  go_loopw [4] (fun _ wr => ∃ (left : Int → Prop) (cnt : Nat), Hid (RangeV wr q.mb r fm left cnt) ∧ Hid (∃ qc, CP w wr gm r q s left qc) ∧ Hid (r < wr.heap.size)) (fun _ wr => wr.rangeLeft q.mb r)
  case atStart => exact ⟨_, _, HR0, hid ⟨_, HCP0.out⟩, HRz⟩
  case round =>
    obtain ⟨left, cnt, HR, HC, HZ⟩ := hrel
    clear HR0 HCP0 HRz
    have HCn := hid HR.out.leftN
    go_wp2_with (first
      | (at_next; go_must (refine wp_nextV rfl _ rfl q.mb r _ left cnt rfl HR.out ?_ ?_))
      | fail)
    · intro hl
      obtain ⟨qc, hcp⟩ := HC.out
      have HCP := hid hcp
      have HL : Hid (∀ x, ¬ left x) := hid hl
      have HD : Hid (∀ W, Chg w W No → W.cell? ⟨q.p, 0, none⟩ = some (.int .i64 s.data) ∧ W.cell? ⟨q.p, 1, none⟩ = some (.int .i64 s.ino)) := hid (fun W hW => ⟨(HP.out.call hW).c0, (HP.out.call hW).c1⟩)
      obtain ⟨dt, hdt⟩ : ∃ y, y = s.data := ⟨_, rfl⟩
      obtain ⟨im, him⟩ : ∃ y, y = s.ino := ⟨_, rfl⟩
      rw [← hdt, ← him] at HD
      have HDt := hid hdt
      have HIm := hid him
      clear hl hcp HR HCn HC hdt him
      go_upto_region 6 with fail
      refine wp_region_noPanic ?_
      refine wp_region_held_drew (S := fun w' => Chg w w' No) (by kernel_rfl) HCP.out.chg.drew (fun hHeld => ?_)
      refine takeVal 0 21 (.pointer (some ⟨q.p, 0, none⟩)) rfl (by kernel_rfl) (by kernel_rfl) (by kernel_rfl) rfl (by rfl) (fun _ _ _ h => h) hHeld (fun W' hw' => rfl) ?_
      simp only [List.setIfInBounds_toArray, List.set_cons_zero, List.set_cons_succ]
      refine takeVal 1 22 (.pointer (some ⟨q.p, 0, none⟩)) rfl (by kernel_rfl) (by kernel_rfl) (by kernel_rfl) rfl (by rfl) (fun _ _ _ h => h) hHeld (fun W' hw' => by go_simp) ?_
      simp only [List.setIfInBounds_toArray, List.set_cons_zero, List.set_cons_succ]
      refine takeVal 2 23 (.pointer (some ⟨q.p, 0, none⟩)) rfl (by kernel_rfl) (by kernel_rfl) (by kernel_rfl) rfl (by rfl) (fun _ _ _ h => h) hHeld (fun W' hw' => by go_simp) ?_
      simp only [List.setIfInBounds_toArray, List.set_cons_zero, List.set_cons_succ]
      refine takeVal 3 24 (.int .i64 dt) rfl (by kernel_rfl) (by kernel_rfl) (by kernel_rfl) rfl (by rfl) (fun _ _ _ h => h) hHeld (fun W' hw' => by have hc := (HD.out W' hw').1; go_simp) ?_
      simp only [List.setIfInBounds_toArray, List.set_cons_zero, List.set_cons_succ]
      refine takeVal 4 25 (.pointer (some ⟨q.p, 0, none⟩)) rfl (by kernel_rfl) (by kernel_rfl) (by kernel_rfl) rfl (by rfl) (fun _ _ _ h => h) hHeld (fun W' hw' => rfl) ?_
      simp only [List.setIfInBounds_toArray, List.set_cons_zero, List.set_cons_succ]
      refine takeVal 5 26 (.pointer (some ⟨q.p, 0, none⟩)) rfl (by kernel_rfl) (by kernel_rfl) (by kernel_rfl) rfl (by rfl) (fun _ _ _ h => h) hHeld (fun W' hw' => by go_simp) ?_
      simp only [List.setIfInBounds_toArray, List.set_cons_zero, List.set_cons_succ]
      refine takeVal 6 27 (.pointer (some ⟨q.p, 1, none⟩)) rfl (by kernel_rfl) (by kernel_rfl) (by kernel_rfl) rfl (by rfl) (fun _ _ _ h => h) hHeld (fun W' hw' => by go_simp) ?_
      simp only [List.setIfInBounds_toArray, List.set_cons_zero, List.set_cons_succ]
      refine takeVal 7 28 (.int .i64 im) rfl (by kernel_rfl) (by kernel_rfl) (by kernel_rfl) rfl (by rfl) (fun _ _ _ h => h) hHeld (fun W' hw' => by have hc := (HD.out W' hw').2; go_simp) ?_
      simp only [List.setIfInBounds_toArray, List.set_cons_zero, List.set_cons_succ]
      refine takeVal 8 29 (.map (some gm)) rfl (by kernel_rfl) (by kernel_rfl) (by kernel_rfl) rfl (by rfl) (fun _ _ _ h => h) hHeld (fun W' hw' => rfl) ?_
      simp only [List.setIfInBounds_toArray, List.set_cons_zero, List.set_cons_succ]
      refine takeVal 9 30 (.agg #[.int .i64 dt, .int .i64 im, .map (some gm)]) rfl (by kernel_rfl) (by kernel_rfl) (by kernel_rfl) rfl (by rfl) (fun _ _ _ h => h) hHeld (fun W' hw' => by go_simp) ?_
      simp only [List.setIfInBounds_toArray, List.set_cons_zero, List.set_cons_succ]
      have hca : Chg w (wr.drew.alloc (.cells #[.int .i64 dt, .int .i64 im, .map (some gm)] 58)) No := hHeld.tr (Chg.alloc _ _ No)
      have hcb : Chg wr (wr.drew.alloc (.cells #[.int .i64 dt, .int .i64 im, .map (some gm)] 58)) No := ((Chg.refl wr No).drew).tr (Chg.alloc _ _ No)
      have hgn := heap_alloc_new wr.drew (.cells #[.int .i64 dt, .int .i64 im, .map (some gm)] 58)
      refine step1 10 (by kernel_rfl) ?_
      refine stNew 10 31 (.pointer (some ⟨wr.drew.heap.size, 0, none⟩)) (.cells #[.int .i64 dt, .int .i64 im, .map (some gm)] 58) rfl rfl (by rfl) (by go_simp) ⟨hca, ?_⟩
      simp only [List.setIfInBounds_toArray, List.set_cons_zero, List.set_cons_succ]
      refine takeVal 11 2 (.pointer (some ⟨wr.drew.heap.size, 0, none⟩)) rfl (by kernel_rfl) (by kernel_rfl) (by kernel_rfl) rfl (by rfl) (fun _ _ _ h => h) hca (fun W' hw' => rfl) ?_
      simp only [List.setIfInBounds_toArray, List.set_cons_zero, List.set_cons_succ]
      refine wpAnyH_done (by kernel_rfl) ?_ _
      refine NoPanic.normal ?_
      have HFin : Hid (IsPl (wr.drew.alloc (.cells #[.int .i64 dt, .int .i64 im, .map (some gm)] 58)) ⟨wr.drew.heap.size, gm, qc⟩ s ∧ ∀ j, PBlk ⟨wr.drew.heap.size, gm, qc⟩ j → w.heap.size ≤ j) := hid (by
        have hcp := HCP.out
        have hg := HG.out
        have hr : ∀ i, qc i ≠ none ↔ q.nc i ≠ none := fun i => (hcp.iff i).trans ⟨fun c => c.1, fun c => ⟨c, HL.out i⟩⟩
        refine ⟨⟨by rw [hgn, HDt.out, HIm.out], hcp.mp.keep hcb (fun e => e), fun i c e => ?_, fun i e => ?_, fun i e => HP.out.rng i ((hr i).1 e), hcp.ap, fun i c e => ?_, fun i c e => (hcp.hi i c e).1⟩, fun j hj => ?_⟩
        · obtain ⟨x, h1, h2⟩ := hcp.nd i c e
          exact ⟨x, h1, h2.call hcb⟩
        · refine HP.out.dom i ?_
          cases hq : q.nc i with
          | none => rfl
          | some c => exact absurd e ((hr i).2 (by rw [hq]; exact fun e => by cases e))
        · have := (hcp.hi i c e).2
          have h1 := this c.bb (.inr (.inl rfl))
          have h2 := this c.nb (.inr (.inr (.inl rfl)))
          exact ⟨by show c.bb ≠ gm; omega, by show c.nb ≠ gm; omega⟩
        · rcases hj with e | e | ⟨i, c, e1, e2⟩
          · have e : j = wr.drew.heap.size := e
            have := hHeld.size
            omega
          · have e : j = gm := e
            omega
          · have := (hcp.hi i c e1).2 j e2
            omega)
      have HCa := hid hca
      clear hHeld hca hcb hgn
      go_wp2_with fail
      go_ret
      exact ⟨⟨wr.drew.heap.size, gm, qc⟩, rfl, HFin.out.1, HCa.out, HFin.out.2⟩
    · intro y d w3 cnt3 hl hx hIy hr3 hlt hc3 hz3 hen
      have hx2 : (q.nc y).map ptrN = some d := by rw [HFm.out] at hx; exact hx
      obtain ⟨c, hqc, rfl⟩ : ∃ c, q.nc y = some c ∧ ptrN c = d := by
        cases hq : q.nc y with
        | none => rw [hq] at hx2; cases hx2
        | some c => rw [hq] at hx2; exact ⟨c, rfl, Option.some.inj hx2⟩
      obtain ⟨x, hsx, hN⟩ := HP.out.nd _ c hqc
      obtain ⟨qc, hcp⟩ := HC.out
      have HCP := hid hcp
      have hC3 : Chg w w3 No := hcp.chg.trans hc3 (fun _ _ e => e) (fun j hj e => by have := HG.out; omega)
      have hCo := copy_any w3 (hN.call hC3) (HP.out.bs y c hqc)
      have HMc : Hid (∀ w4, Chg w3 w4 No → MapV w4 gm (fun i => (qc i).map ptrN)) := hid (fun w4 h4 => (hcp.mp.keep hc3 (by have := HG.out; omega)).keep h4 (fun e => e))
      have HSm : Hid (∃ L : List Int, L.length ≤ 5000 ∧ ∀ x, ((qc x).map ptrN).isSome = true → x ∈ L) := hid (by
        obtain ⟨L, h1, h2⟩ := HP.out.small
        refine ⟨L, h1, fun z hz => h2 z ?_⟩
        have : qc z ≠ none := fun e => by rw [e] at hz; cases hz
        obtain ⟨c2, hc2⟩ := Option.ne_none_iff_exists'.1 ((hcp.iff z).1 this).1
        rw [hc2]
        rfl)
      have HX := hid (And.intro hsx (And.intro hqc hl))
      have HR3 := hid hr3
      have HLt := hid hlt
      have HC3 := hid hc3
      have HZ3 := hid hz3
      clear hr3 hlt hc3 hz3 hl hx hx2 hqc hsx hN hcp hC3 HC
      unfold ptrN at hen ⊢
      go_wp2_with (first
        | (go_at_call 30; go_must (refine hCo.mono ?_; rintro e w4 ⟨c', rfl, hN4, hc4, hb4, hB4⟩; have HN4 := hid hN4; have HC4 := hid hc4; have HB4 := hid (And.intro hb4 hB4); clear hN4 hc4 hb4 hB4))
        | (refine wp_storeVN rfl _ _ _ rfl gm (fun i => (qc i).map ptrN) y (ptrN c') rfl rfl rfl (HMc.out w4 HC4.out) hIy HSm.out ?_; intro w5 hm5 hc5 hz5; have HM5 := hid hm5; have HC5 := hid hc5; have HZ5 := hid hz5; clear hm5 hc5 hz5)
        | fail)
      have hR5 := (HR3.out.keep HC4.out (fun e => e) (fun e => e)).keep HC5.out HBr.out.2 (by have := HG.out; omega)
      have hcp5 := HCP.out.more HG.out.1 HG.out.2 HZ.out HC3.out HX.out.1 (by rw [HX.out.2.1]; exact fun e => by cases e) HN4.out HC4.out HB4.out.1 HB4.out.2 HC5.out HM5.out
      refine ⟨⟨_, _, _, _, _, _, _, _, _, _, _, ⟨_, _, hid hR5, hid ⟨_, hcp5⟩, hid (by have := HZ.out; have := HC3.out.size; have := HC4.out.size; have := HC5.out.size; omega)⟩, rfl⟩, ?_⟩
      rw [hR5.leftN, HCn.out]
      exact HLt.out
end Go.Proofs.YthpngfmckkfipaaGreatDoor

namespace Go.Proofs.YthpngfmckkfipaaGreatDoor
open Go.RowKit

def BytesAt (w : World) (a : Option Addr) (zs : List Int) : Prop := zs = [] ∨ ∃ b o, a = some ⟨b, o, none⟩ ∧ b < w.heap.size ∧ ∀ j, j < zs.length → w.cell? ⟨b, o + j, none⟩ = some (.int .u8 (zs.getD j 0))
theorem BytesAt.call {w w' : World} {a : Option Addr} {l : List Int} (h : BytesAt w a l) (hc : Chg w w' No) : BytesAt w' a l := by
  rcases h with h | ⟨b, o, e, hb, h⟩
  · exact .inl h
  · exact .inr ⟨b, o, e, Nat.lt_of_lt_of_le hb hc.size, fun j hj => by
      have := h j hj
      unfold World.cell? at this ⊢
      rw [hc.block b hb (fun e => e)]
      exact this⟩
/-- Bytes that are read are an operation's. -/
theorem BytesAt.dat {w W : World} {a : Option Addr} {l : List Int} {q : PC} (h : BytesAt w a l) (hq : ∀ j, PBlk q j → w.heap.size ≤ j) (hc : Chg w W No) (n dc : Nat) (hn : n ≤ l.length) (hdc : l.length ≤ dc) : DatAt W q a dc (l.take n) := by
  refine ⟨by rw [List.length_take]; omega, fun hne => ?_⟩
  rcases h with e | ⟨b, o, e, hb, h⟩
  · rw [e] at hne; simp at hne
  · refine ⟨b, o, e, Nat.lt_of_lt_of_le hb hc.size, fun hp => by have := hq b hp; omega, fun j v hj => ?_⟩
    rw [List.getElem?_map] at hj
    have hjl : j < (l.take n).length := by
      rcases Nat.lt_or_ge j (l.take n).length with k | k
      · exact k
      · rw [List.getElem?_eq_none k] at hj; cases hj
    rw [List.length_take] at hjl
    rw [List.getElem?_take, if_pos (by omega), List.getElem?_eq_getElem (by omega)] at hj
    cases hj
    have := h j (by omega)
    rw [List.getD_eq_getElem?_getD, List.getElem?_eq_getElem (by omega)] at this
    rw [addr_add]
    unfold World.cell? at this ⊢
    rw [hc.block b hb (fun e => e)]
    exact this
/-- A deed, and an operation, as they are handed in. -/
structure Dd where
  kd : Int
  a : Int
  b : Int
  off : Int
  n : Int
  da : Option Addr
  data : List Int
  dc : Nat
structure Od where
  kind : Int
  path : ByteArray
  tto : ByteArray
  off : Int
  len : Int
  da : Option Addr
  data : List Int
  dc : Nat
  made : Int
  pick : Int
def Dd.A (x : Dd) : Array Value := deedA x.kd x.a x.b x.off x.n x.da x.data.length x.dc
def Od.A (x : Od) : Array Value := opA x.kind x.path x.tto x.off x.len x.da x.data.length x.dc x.made x.pick
def Dd.z : Dd := ⟨0, 0, 0, 0, 0, none, [], 0⟩
def Od.z : Od := ⟨0, ⟨#[]⟩, ⟨#[]⟩, 0, 0, none, [], 0, 0, 0⟩
structure Dd.Ok (x : Dd) : Prop where
  i1 : I64 x.kd
  i2 : I64 x.a
  i3 : I64 x.b
  i4 : I64 x.off
  i5 : I64 x.n
  len : x.data.length ≤ x.dc
  cap : x.dc ≤ maxLen
  nil : x.da = none → x.data.length = 0
  by_ : ∀ c ∈ x.data, 0 ≤ c ∧ c ≤ 255
structure Od.Ok (x : Od) : Prop where
  i1 : I64 x.kind
  len : x.data.length ≤ x.dc
  by_ : ∀ c ∈ x.data, 0 ≤ c ∧ c ≤ 255
structure RAt {α : Type} (w : World) (a : Option Addr) (L : List α) (z : α) (A : α → Array Value) (sz : Nat) (da : α → Option Addr) (data : α → List Int) : Prop where
  at_ : L = [] ∨ ∃ b o, a = some ⟨b, o, none⟩ ∧ b < w.heap.size ∧ ∀ i, i < L.length → ∀ j v, (A (L.getD i z)).toList[j]? = some v → w.cell? ⟨b, o + i * sz + j, none⟩ = some v
  data : ∀ i, i < L.length → BytesAt w (da (L.getD i z)) (data (L.getD i z))
theorem RAt.call {α : Type} {w w' : World} {a : Option Addr} {L : List α} {z : α} {A : α → Array Value} {sz : Nat} {da : α → Option Addr} {data : α → List Int} (h : RAt w a L z A sz da data) (hc : Chg w w' No) : RAt w' a L z A sz da data := by
  refine ⟨?_, fun i hi => (h.data i hi).call hc⟩
  rcases h.at_ with e | ⟨b, o, e, hb, h1⟩
  · exact .inl e
  · exact .inr ⟨b, o, e, Nat.lt_of_lt_of_le hb hc.size, fun i hi j v hv => by
      have := h1 i hi j v hv
      unfold World.cell? at this ⊢
      rw [hc.block b hb (fun e => e)]
      exact this⟩
def DdAt (w : World) (a : Option Addr) (L : List Dd) : Prop := RAt w a L Dd.z Dd.A 6 Dd.da Dd.data
def OdAt (w : World) (a : Option Addr) (L : List Od) : Prop := RAt w a L Od.z Od.A 8 Od.da Od.data
theorem szDe : (Tryz.prog.info? 31).map (·.size) = some 6 := by kernel_rfl
theorem DdAt.load {w : World} {a : Option Addr} {L : List Dd} (h : DdAt w a L) {i : Nat} (hi : i < L.length) : ∃ b o, a = some ⟨b, o, none⟩ ∧ ∀ W, Chg w W No → (loadVar 31 ⟨b, o + i * 6, none⟩).run Tryz.prog W = .ok (.agg (L.getD i Dd.z).A) W := by
  rcases h.at_ with e | ⟨b, o, e, hb, h1⟩
  · rw [e] at hi; exact absurd hi (Nat.not_lt_zero _)
  · refine ⟨b, o, e, fun W hW => ?_⟩
    have h := run_loadVar_mid (P := Tryz.prog) W b (o + i * 6) 31 (L.getD i Dd.z).A.toList _ (fun j v hv => by
      have := h1 i hi j v hv
      unfold World.cell? at this ⊢
      rw [hW.block b hb (fun e => e)]
      exact this) Tryz.underlying31 rfl (by rw [Array.length_toList]; exact szDe)
    simpa using h
theorem OdAt.load {w : World} {a : Option Addr} {L : List Od} (h : OdAt w a L) {i : Nat} (hi : i < L.length) : ∃ b o, a = some ⟨b, o, none⟩ ∧ (∀ W, Chg w W No → W.cell? ⟨b, o + i * 8, none⟩ = some (.int .i64 (L.getD i Od.z).kind)) ∧ ∀ W, Chg w W No → (loadVar 29 ⟨b, o + i * 8, none⟩).run Tryz.prog W = .ok (.agg (L.getD i Od.z).A) W := by
  rcases h.at_ with e | ⟨b, o, e, hb, h1⟩
  · rw [e] at hi; exact absurd hi (Nat.not_lt_zero _)
  · have hk : ∀ W, Chg w W No → ∀ j v, (L.getD i Od.z).A.toList[j]? = some v → W.cell? ⟨b, o + i * 8 + j, none⟩ = some v := fun W hW j v hv => by
      have := h1 i hi j v hv
      unfold World.cell? at this ⊢
      rw [hW.block b hb (fun e => e)]
      exact this
    refine ⟨b, o, e, fun W hW => hk W hW 0 _ rfl, fun W hW => ?_⟩
    have h := run_loadVar_mid (P := Tryz.prog) W b (o + i * 8) 29 (L.getD i Od.z).A.toList _ (hk W hW) Tryz.underlying29 rfl (by rw [Array.length_toList]; exact szOp)
    simpa using h
section
variable {ops : Array Oper} {rest : List Oper} {o : Oper} {a : Act} {w : World} {Q : Exit → Act → World → Prop}
theorem load_of (hgd : o.guard = none) (t : TypeId) (x : Operand) (ho : o.op = .load t x) (ad : Addr) (hx : a.eval x = .pointer (some ad)) (v : Value) (hr : (loadVar t ad).run Tryz.prog w = .ok v w)
    (h : wpList Tryz.prog ops Q rest (a.put o.dst v) w) : wpList Tryz.prog ops Q (o :: rest) a w :=
  wpList_plain hgd fun _ hK => by
    unfold Oper.wp execOp
    simp only [ho, hx, Instr.loadAt, Instr.sureAddr, Sem.run_bind, Sem.run_pure, Result.andThen_ok, hr]
    exact hK _ _ h
end
/-- A file system in memory that is new since w, and well. -/
def Now (w wr : World) (p : Nat) : Prop := ∃ q s, q.p = p ∧ IsPl wr q s ∧ Inv s ∧ (∀ j, PBlk q j → w.heap.size ≤ j) ∧ Chg w wr No
theorem Left.new {q : PC} {s' : PSt} {w wr w' : World} (h : Left q s' wr w') (hc : Chg w wr No) (hq : ∀ j, PBlk q j → w.heap.size ≤ j) : ∃ q', q'.p = q.p ∧ IsPl w' q' s' ∧ (∀ j, PBlk q' j → w.heap.size ≤ j) ∧ Chg w w' No := by
  obtain ⟨⟨q', h1, h2⟩, h3⟩ := h
  refine ⟨q', h2.p, h1, fun j hj => ?_, hc.trans h3 (fun _ _ e => e) (fun j hj e => by have := hq j e; omega)⟩
  rcases h2.blk j hj with e | e
  · exact hq j e
  · have := hc.size
    omega
/-- A deed is done. -/
theorem deed_does {w W : World} {p : Nat} {x : Dd} {A : Array Value} (hN : Now w W p) (hx : x.Ok) (hb : BytesAt w x.da x.data) (hA : OpOf x.da x.data.length x.dc A) (hu : UB w) (hm : ML w) :
    Calls Tryz.prog 10 #[.pointer (some ⟨p, 0, none⟩), .agg A] W fun e w' => ∃ B, e = .returned (.agg B) ∧ Now w w' p := by
  obtain ⟨q, s, rfl, h1, h2, h3, h4⟩ := hN
  obtain ⟨k, made, off, path, tto, da', dl', dc', rfl, hd⟩ := hA
  have key : ∃ ds : List Int, ds.length = dl' ∧ DatAt W q da' dc' ds ∧ ∀ c ∈ ds, 0 ≤ c ∧ c ≤ 255 := by
    rcases hd with ⟨rfl, rfl⟩ | ⟨rfl, e2, rfl⟩
    · exact ⟨[], rfl, ⟨Nat.zero_le _, fun e => absurd rfl e⟩, fun c hc => by cases hc⟩
    · exact ⟨x.data.take dl', by rw [List.length_take]; omega, hb.dat h3 h4 dl' x.dc e2 hx.len, fun c hc => hx.by_ c (List.mem_of_mem_take hc)⟩
  obtain ⟨ds, e1, e2, e3⟩ := key
  have hD := do_any (⟨k, path, tto, off, 0, ds, made, 0⟩ : OpS) da' dc' W h1 h2 (hu.keep h4 (fun e => e)) (hm.call h4) e2
  rw [← e1]
  refine hD.mono ?_
  rintro e w' ⟨B, rfl, _, hL⟩
  obtain ⟨q', g1, g2, g3, g4⟩ := hL.new h4 h3
  exact ⟨B, rfl, q', _, g1, g2, Inv.doS h2 e3, g3, g4⟩
end Go.Proofs.YthpngfmckkfipaaGreatDoor
