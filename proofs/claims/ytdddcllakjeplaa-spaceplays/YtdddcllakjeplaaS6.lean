/-
  newStock of package space: what it answers, for every list.
-/
import Derived.Test.YtdddcllakjeplaaS5
namespace Go.Proofs.Ytdddcllakjeplaa
open Go.RowKit

/-- Numbers are taken one by one; each must be one of these, and not yet taken. -/
def stock1 (f : Int) (L : List Bool) (x : Int) : Option (List Bool) := if isB f L.length x = true ∧ hasL L x = false then some (putL L x true) else none
def stockL (f : Int) : List Bool → List Int → Option (List Bool)
  | L, [] => some L
  | L, x :: l => (stock1 f L x).bind fun L' => stockL f L' l
theorem stockL_snoc (f : Int) : ∀ (l : List Int) (L : List Bool) (x : Int), stockL f L (l ++ [x]) = (stockL f L l).bind fun L' => stock1 f L' x
  | [], L, x => by
    show (stock1 f L x).bind (fun L' => some L') = stock1 f L x
    cases stock1 f L x <;> rfl
  | c :: l, L, x => by
    show (stock1 f L c).bind (fun L' => stockL f L' (l ++ [x])) = ((stock1 f L c).bind fun L' => stockL f L' l).bind fun L' => stock1 f L' x
    cases stock1 f L c with
    | none => rfl
    | some L' => exact stockL_snoc f l L' x
theorem stockL_app_none (f : Int) (l m : List Int) (L : List Bool) (h : stockL f L l = none) : stockL f L (l ++ m) = none := by
  induction l generalizing L with
  | nil => cases h
  | cons c l ih =>
    have h : (stock1 f L c).bind (fun L' => stockL f L' l) = none := h
    show (stock1 f L c).bind (fun L' => stockL f L' (l ++ m)) = none
    cases hq : stock1 f L c with
    | none => rfl
    | some L' => rw [hq] at h; exact ih L' h
theorem stock1_inv {f : Int} {L L' : List Bool} {x : Int} (h : stock1 f L x = some L') : L'.length = L.length ∧ (∀ i, i < f → hasL L' i = hasL L i) := by
  unfold stock1 at h
  split at h
  · next c =>
    injection h with h
    subst h
    have hb : f ≤ x ∧ x < L.length := of_decide_eq_true c.1
    refine ⟨putL_len _ _ _, fun i hi => ?_⟩
    by_cases h0 : 0 ≤ x
    · rw [hasL_put _ _ _ _ ⟨h0, hb.2⟩, if_neg (by omega)]
    · unfold putL; rw [if_neg h0]
  · cases h
theorem stockL_inv {f : Int} : ∀ {l : List Int} {L L' : List Bool}, stockL f L l = some L' → L'.length = L.length ∧ (∀ i, i < f → hasL L' i = hasL L i)
  | [], L, L', h => by injection h with h; subst h; exact ⟨rfl, fun _ _ => rfl⟩
  | c :: l, L, L', h => by
    have h : (stock1 f L c).bind (fun L' => stockL f L' l) = some L' := h
    cases hq : stock1 f L c with
    | none => rw [hq] at h; cases h
    | some M =>
      rw [hq] at h
      obtain ⟨a1, a2⟩ := stock1_inv hq
      obtain ⟨b1, b2⟩ := stockL_inv (l := l) (L := M) h
      exact ⟨b1.trans a1, fun i hi => (b2 i hi).trans (a2 i hi)⟩
theorem stockL_take {f : Int} {xs : List Int} {k : Nat} {L M : List Bool} (hk : k < xs.length) (h : stockL f L (xs.take k) = some M) : stockL f L (xs.take (k + 1)) = stock1 f M (xs.getD k 0) := by
  rw [take_succ hk, stockL_snoc, h]
  rfl
theorem stockL_bad {f : Int} {xs : List Int} {k : Nat} {L M : List Bool} (hk : k < xs.length) (h : stockL f L (xs.take k) = some M) (hn : stock1 f M (xs.getD k 0) = none) : stockL f L xs = none := by
  have := stockL_app_none f (xs.take (k + 1)) (xs.drop (k + 1)) L (by rw [stockL_take hk h]; exact hn)
  rwa [List.take_append_drop] at this

def stkZ : Array Value := #[.pointer none, .int .i64 0]
theorem szSt : (Try.prog.info? 58).map (·.size) = some 2 := by kernel_rfl
/-- What newStock tells. -/
def StockEnd (w : World) (f : Int) (r : Option (List Bool)) (e : Ending) (w' : World) : Prop :=
  match r with
  | some L => ∃ p g, e = .returned (.tuple #[.agg #[.pointer (some ⟨p, 0, none⟩), .int .i64 f], .int .i64 0]) ∧ w.heap.size ≤ p ∧ w.heap.size ≤ g ∧ IsB w' p g L ∧ Below w.heap.size w w'
  | none => e = .returned (.tuple #[.agg stkZ, .int .i64 82]) ∧ Below w.heap.size w w'
theorem stockEnd_some {w : World} {f : Int} {r : Option (List Bool)} {e : Ending} {w' : World} {L : List Bool} (hr : r = some L) (p g : Nat) (h : e = .returned (.tuple #[.agg #[.pointer (some ⟨p, 0, none⟩), .int .i64 f], .int .i64 0]) ∧ w.heap.size ≤ p ∧ w.heap.size ≤ g ∧ IsB w' p g L ∧ Below w.heap.size w w') : StockEnd w f r e w' := by subst hr; exact ⟨p, g, h⟩
theorem stockEnd_none {w : World} {f : Int} {r : Option (List Bool)} {e : Ending} {w' : World} (hr : r = none) (h : e = .returned (.tuple #[.agg stkZ, .int .i64 82]) ∧ Below w.heap.size w w') : StockEnd w f r e w' := by subst hr; exact h

set_option maxRecDepth 100000 in
set_option maxHeartbeats 1000000 in
theorem newStock_any (f : Int) (N : Nat) (hN : N ≤ 4096) (xs : List Int) (a : Option Addr) (len cap : Nat) (w : World) (hlen : Hid (xs.length = len)) (hl : len ≤ 140737488355328) (HX : Hid (IntsAt w a xs)) :
    Calls Try.prog 28 #[.int .i64 f, .int .i64 (N : Int), .slice a len cap] w fun e w' => StockEnd w f (stockL f (noneL N) xs) e w' := by
  have HN := hid fun w => new_ok N w hN
  go_enter Try.func28, Try.ntmps28
  go_upto_region 5 with (go_at_call 39; refine (HN.out _).mono ?_; rintro e w1 ⟨p, g, rfl, hp, hg, h1, hb1⟩; have H1 := hid h1; have B1 := hid hb1; have hp0 := hid hp; have hg0 := hid hg; clear h1 hb1 hp hg)
  have hb2 := below_box w1 (.cells #[.pointer (some ⟨p, 0, none⟩), .int .i64 f] 58)
  have hz0 := (B1.out.block w.heap.size (by simp)).trans (heap_alloc_new w (.cells stkZ 58))
  have HZ : Hid ((w1.alloc (.cells #[.pointer (some ⟨p, 0, none⟩), .int .i64 f] 58)).heap[w.heap.size]? = some (.cells stkZ 58 (0, 0))) := (Chg.of_below hb2 No).keep hz0 (fun e => e)
  have HX2 : Hid ((w1.alloc (.cells #[.pointer (some ⟨p, 0, none⟩), .int .i64 f] 58)).heap[w1.heap.size]? = some (.cells #[.pointer (some ⟨p, 0, none⟩), .int .i64 f] 58 (0, 0))) := heap_alloc_new _ _
  have HB2 := hid (H1.out.boxed (.cells #[.pointer (some ⟨p, 0, none⟩), .int .i64 f] 58))
  have HW2 : Hid (Below w.heap.size w (w1.alloc (.cells #[.pointer (some ⟨p, 0, none⟩), .int .i64 f] 58))) := ((below_box w _).trans (B1.out.mono (by simp))).trans (hb2.mono (Nat.le_of_lt (slt hz0)))
  have HP : Hid (w.heap.size < p ∧ w.heap.size < g) := ⟨by have := hp0.out; simp at this; omega, by have := hg0.out; simp at this; omega⟩
  have HG : Hid (g < w1.heap.size ∧ w.heap.size < w1.heap.size) := by
    obtain ⟨W, hW, _⟩ := H1.out.words
    exact ⟨slt hW, slt hz0⟩
  clear hb2 hz0 H1 B1 hp0 hg0
  generalize w1.alloc (.cells #[.pointer (some ⟨p, 0, none⟩), .int .i64 f] 58) = w2 at *
  generalize w1.heap.size = Bx at *
  generalize hA : w.heap.size = A at *
  go_wp2
  go_loopw [27] (fun i wr => ∃ (k : Nat) (M : List Bool), k ≤ len ∧ i = .int .i64 k ∧ Hid (stockL f (noneL N) (xs.take k) = some M) ∧ Hid (IsB wr p g M) ∧ Hid (wr.heap[A]? = some (.cells stkZ 58 (0, 0))) ∧ Hid (wr.heap[Bx]? = some (.cells #[.pointer (some ⟨p, 0, none⟩), .int .i64 f] 58 (0, 0))) ∧ Hid (Below A w wr)) (fun i _ => len - (intOf i).toNat)
  case atStart => exact ⟨0, noneL N, by omega, rfl, rfl, HB2, HZ, HX2, HW2⟩
  case round =>
    clear HB2 HZ HX2 HW2
    obtain ⟨k, M, hk, rfl, HM, HB, HZ, HX2, HW⟩ := hrel
    by_cases hlt : k < len
    · have HW' : Hid (Below w.heap.size w wr) := by rw [hA]; exact HW
      obtain ⟨b, o, rfl, hcell⟩ := HX.out.get HW'.out k (by rw [hlen.out]; exact hlt)
      clear HW'
      have hkl : (k : Int) < (len : Int) := by omega
      have HK : Hid (k < xs.length) := by show _; rw [hlen.out]; exact hlt
      have HT := hid (stockL_take HK.out HM.out)
      have HBad := hid (stockL_bad HK.out HM.out)
      generalize xs.getD k 0 = x at *
      have hc0 : wr.cell? ⟨Bx, 0, none⟩ = some (.pointer (some ⟨p, 0, none⟩)) := (cell_of_row _ _ _ _ _ _ HX2.out).trans rfl
      have hc1 : wr.cell? ⟨Bx, 1, none⟩ = some (.int .i64 f) := (cell_of_row _ _ _ _ _ _ HX2.out).trans rfl
      have HI := hid fun w h => is_any (p := p) (g := g) (L := M) f x w h
      clear hlt
      cases hb : isB f M.length x
      · rw [hb] at HI
        have HNo : Hid (stockL f (noneL N) xs = none) := HBad.out (by unfold stock1; rw [if_neg (fun e => by rw [hb] at e; cases e.1)])
        clear hb HBad HT
        go_upto_region 9 with (go_at_call 38; refine (HI.out _ HB.out).mono ?_; rintro e w3 ⟨rfl, b3⟩; have B3 := hid b3; clear b3)
        have HZ3 := hid ((Chg.of_below B3.out No).keep HZ.out (fun e => e))
        go_wp2_with (refine store_R rfl 58 (.tmp 6) _ rfl A stkZ rfl rfl 58 _ HZ3.out (by rw [szSt]; rfl) rfl (by simp [stkZ, Value.oneCell']) ?_; intro w4 h4; have H4 := hid h4; clear h4)
        exact bodyPost_ret (v := .tuple #[.agg stkZ, .int .i64 82]) (results_R Try.results28 _ _ A _ 58 _ _ Try.underlying58 rfl (by rw [szSt]; rfl) rfl rfl H4.out.here) rfl (stockEnd_none HNo.out ⟨rfl, by rw [hA]; exact H4.out.below (HW.out.trans (B3.out.mono (Nat.le_of_lt (slt HZ.out)))) (Nat.le_refl _)⟩)
      · rw [hb] at HI
        cases hh : hasL M x
        · have HS1 : Hid (stock1 f M x = some (putL M x true)) := if_pos ⟨hb, hh⟩
          have HE : Hid (stockL f (noneL N) (xs.take (k + 1)) = some (putL M x true)) := HT.out.trans HS1.out
          have hi := of_decide_eq_true hb
          have HPE : Hid (putE M x = putE M x) := rfl
          have HH := hid hh
          clear hb HBad HT hh hi
          go_upto_region 10 with (first | (go_at_call 38; refine (HI.out _ HB.out).mono ?_; rintro e w3 ⟨rfl, b3⟩; have B3 := hid b3; have HB3 := hid (HB.out.call b3); have HZ3 := hid ((Chg.of_below b3 No).keep HZ.out (fun e => e)); have HX3 := hid ((Chg.of_below b3 No).keep HX2.out (fun e => e)); have hd0 : w3.cell? ⟨Bx, 0, none⟩ = some (.pointer (some ⟨p, 0, none⟩)) := (cell_of_row _ _ _ _ _ _ HX3.out).trans rfl; clear b3) | (go_at_call 33; refine (has_any _ _ HB3.out).mono ?_; rintro e w4 ⟨rfl, rfl⟩; rw [HH.out]))
          go_wp2_with (go_at_call 29; refine (set_any x _ HB3.out).mono ?_; rintro e w4 ⟨rfl, h4, c4⟩; have H4 := hid h4; have C4 := hid c4; clear h4 c4)
          refine ⟨⟨k + 1, putL M x true, by omega, by go_num, HE, H4, hid (C4.out.keep HZ3.out (fun e => by have := HP.out; omega)), hid (C4.out.keep HX3.out (fun e => by have := HG.out; omega)), hid ?_⟩, by simp [intOf]; omega⟩
          exact C4.out.to (HW.out.trans (B3.out.mono (Nat.le_of_lt (slt HZ.out)))) (by have := slt HZ3.out; omega) (fun k e => by have := HP.out; omega)
        · have HNo : Hid (stockL f (noneL N) xs = none) := HBad.out (by unfold stock1; rw [if_neg (fun e => by rw [hh] at e; cases e.2)])
          have HH := hid hh
          clear hb HBad HT hh
          go_upto_region 9 with (first | (go_at_call 38; refine (HI.out _ HB.out).mono ?_; rintro e w3 ⟨rfl, b3⟩; have B3 := hid b3; have HB3 := hid (HB.out.call b3); have HZ3 := hid ((Chg.of_below b3 No).keep HZ.out (fun e => e)); have HX3 := hid ((Chg.of_below b3 No).keep HX2.out (fun e => e)); have hd0 : w3.cell? ⟨Bx, 0, none⟩ = some (.pointer (some ⟨p, 0, none⟩)) := (cell_of_row _ _ _ _ _ _ HX3.out).trans rfl; clear b3) | (go_at_call 33; refine (has_any _ _ HB3.out).mono ?_; rintro e w4 ⟨rfl, rfl⟩; rw [HH.out]))
          go_wp2_with (refine store_R rfl 58 (.tmp 6) _ rfl A stkZ rfl rfl 58 _ HZ3.out (by rw [szSt]; rfl) rfl (by simp [stkZ, Value.oneCell']) ?_; intro w4 h4; have H4 := hid h4; clear h4)
          exact bodyPost_ret (v := .tuple #[.agg stkZ, .int .i64 82]) (results_R Try.results28 _ _ A _ 58 _ _ Try.underlying58 rfl (by rw [szSt]; rfl) rfl rfl H4.out.here) rfl (stockEnd_none HNo.out ⟨rfl, by rw [hA]; exact H4.out.below (HW.out.trans (B3.out.mono (Nat.le_of_lt (slt HZ.out)))) (Nat.le_refl _)⟩)
    · have HE : Hid (stockL f (noneL N) xs = some M) := by
        have e := HM.out
        rw [List.take_of_length_le (by rw [hlen.out]; omega)] at e
        exact e
      have hc0 : wr.cell? ⟨Bx, 0, none⟩ = some (.pointer (some ⟨p, 0, none⟩)) := (cell_of_row _ _ _ _ _ _ HX2.out).trans rfl
      have hc1 : wr.cell? ⟨Bx, 1, none⟩ = some (.int .i64 f) := (cell_of_row _ _ _ _ _ _ HX2.out).trans rfl
      clear hk HM
      go_wp2_with (refine store_R rfl 58 (.tmp 6) _ rfl A #[.pointer (some ⟨p, 0, none⟩), .int .i64 f] rfl rfl 58 _ HZ.out (by rw [szSt]; rfl) rfl (by simp [Value.oneCell']) ?_; intro w4 h4; have H4 := hid h4; clear h4)
      have hP := HP.out
      exact bodyPost_ret (v := .tuple #[.agg #[.pointer (some ⟨p, 0, none⟩), .int .i64 f], .int .i64 0]) (results_R Try.results28 _ _ A _ 58 _ _ Try.underlying58 rfl (by rw [szSt]; rfl) rfl rfl H4.out.here) rfl (stockEnd_some HE.out p g ⟨rfl, by omega, by omega, HB.out.keep (ks := fun k => k = A) ⟨H4.out.os, H4.out.tape, H4.out.output, Nat.le_of_eq H4.out.size.symm, fun k _ hk => H4.out.other k hk⟩ (fun e => by omega) (fun e => by omega), by rw [hA]; exact H4.out.below HW.out (Nat.le_refl _)⟩)

end Go.Proofs.Ytdddcllakjeplaa
