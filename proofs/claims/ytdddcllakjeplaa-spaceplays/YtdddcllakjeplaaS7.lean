/-
  New of package space: what it answers, for every super and lists.
-/
import Derived.Test.YtdddcllakjeplaaS6
namespace Go.Proofs.Ytdddcllakjeplaa
open Go.RowKit

def tOf (B : List Bool) : List Nat := B.map fun b => if b = true then 1 else 0
theorem tOf_bt (B : List Bool) : bt (tOf B) = B := by
  unfold bt tOf
  rw [List.map_map]
  conv => rhs; rw [← List.map_id B]
  apply List.map_congr_left
  intro b _
  cases b <;> rfl
theorem tOf_at (B : List Bool) (i : Int) : atT (tOf B) i = if hasL B i = true then 1 else 0 := by
  unfold atT tOf hasL
  by_cases h : 0 ≤ i
  · rw [if_pos h, decide_eq_true h, Bool.true_and, List.getD_eq_getElem?_getD, List.getElem?_map, List.getD_eq_getElem?_getD]
    cases B[i.toNat]? with
    | none => rfl
    | some b => cases b <;> rfl
  · rw [if_neg h, decide_eq_false h, Bool.false_and]; rfl
theorem tOf_late (B : List Bool) (i : Int) : ¬ Late (tOf B) i := by
  unfold Late
  rw [tOf_at]
  split <;> decide
def newS (a b : Nat) (xs ys : List Int) : Option SS :=
  (stockL 1 (noneL (b + 1)) xs).bind fun I => (stockL ((b : Int) + 1) (noneL a) ys).map fun B => ⟨a, b, putL I 1 true, tOf B⟩
theorem ok_of {a b : Nat} {xs ys : List Int} {I B : List Bool} (h1 : 8 ≤ a) (h2 : a ≤ 4096) (h3 : 1 ≤ b) (h4 : b ≤ 512) (h5 : b + 2 ≤ a) (hI : stockL 1 (noneL (b + 1)) xs = some I) (hB : stockL ((b : Int) + 1) (noneL a) ys = some B) : SS.Ok ⟨a, b, putL I 1 true, tOf B⟩ := by
  obtain ⟨i1, i2⟩ := stockL_inv hI
  obtain ⟨b1, b2⟩ := stockL_inv hB
  rw [noneL_len] at i1 b1
  have hl : (0 : Int) ≤ 1 ∧ (1 : Int) < (I.length : Nat) := ⟨by decide, by omega⟩
  refine ⟨h1, h2, h3, h4, h5, by show (putL I 1 true).length = b + 1; rw [putL_len]; exact i1, by simp [tOf, b1], ?_, ?_, fun k hk => ?_, fun x hx => ?_⟩
  · show hasL (putL I 1 true) 0 = false
    rw [hasL_put _ _ _ _ hl, if_neg (by decide), i2 0 (by decide), noneL_has]
  · show hasL (putL I 1 true) 1 = true
    rw [hasL_put _ _ _ _ hl, if_pos rfl]
  · show (tOf B).getD k 0 = 0
    have hk : k ≤ b := hk
    rw [← atT_nat, tOf_at, b2 k (by omega), noneL_has]
    rfl
  · unfold tOf at hx
    obtain ⟨y, _, rfl⟩ := List.mem_map.1 hx
    cases y <;> simp

/-- What New tells. -/
def NewEnd (w : World) (r : Option SS) (e : Ending) (w' : World) : Prop :=
  match r with
  | some s => ∃ p, e = .returned (.tuple #[.pointer (some ⟨p, 0, none⟩), .int .i64 0]) ∧ IsS w' w.heap.size w'.heap.size p s ∧ Below w.heap.size w w'
  | none => e = .returned (.tuple #[.pointer none, .int .i64 82]) ∧ Below w.heap.size w w'

set_option maxHeartbeats 400000 in
theorem sNew_bad (x y : Int) (h : mayB x y = false) (v1 v2 : Value) (w : World) :
    Calls Try.prog 7 #[.agg #[.int .i64 x, .int .i64 y], v1, v2] w fun e w' => e = .returned (.tuple #[.pointer none, .int .i64 1]) ∧ Below w.heap.size w w' := by
  have HM := hid fun w => may_any x y w
  rw [h] at HM
  have HW := hid (below_box w (.cells #[.int .i64 x, .int .i64 y] 23))
  clear h
  go_enter Try.func7, Try.ntmps7
  go_wp2_with (go_at_call 27; refine (HM.out _).mono ?_; rintro e w1 ⟨rfl, b1⟩; have B1 := hid b1; clear b1)
  go_ret2
  exact ⟨rfl, HW.out.trans (B1.out.mono HW.out.size)⟩

theorem box2 {w w1 : World} {v0 v1 : Value} {t : TypeId} (hb : Below (w.alloc (.cells #[v0, v1] t)).heap.size (w.alloc (.cells #[v0, v1] t)) w1) :
    w1.heap[w.heap.size]? = some (.cells #[v0, v1] t (0, 0)) := (hb.block w.heap.size (by simp)).trans (heap_alloc_new w _)
theorem cells2 {w : World} {g : Nat} {v0 v1 : Value} {t : TypeId} (h : w.heap[g]? = some (.cells #[v0, v1] t (0, 0))) : w.cell? ⟨g, 0, none⟩ = some v0 ∧ w.cell? ⟨g, 1, none⟩ = some v1 := ⟨(cell_of_row _ _ _ _ _ _ h).trans rfl, (cell_of_row _ _ _ _ _ _ h).trans rfl⟩

set_option maxRecDepth 100000 in
set_option maxHeartbeats 1000000 in
theorem sNew_no1 (a b : Nat) (h : mayB a b = true) (xs : List Int) (ax : Option Addr) (lx cx : Nat) (v2 : Value) (w : World) (hlx : Hid (xs.length = lx)) (hl : lx ≤ 140737488355328) (HX : Hid (IntsAt w ax xs)) (hn : stockL 1 (noneL (b + 1)) xs = none) :
    Calls Try.prog 7 #[.agg #[.int .i64 (a : Int), .int .i64 (b : Int)], .slice ax lx cx, v2] w fun e w' => e = .returned (.tuple #[.pointer none, .int .i64 82]) ∧ Below w.heap.size w w' := by
  have HM := hid fun w => may_any a b w
  rw [h] at HM
  have hm := of_decide_eq_true h
  have HS1 := hid fun w hX => newStock_any 1 (b + 1) (by omega) xs ax lx cx w hlx hl hX
  rw [hn] at HS1
  have hb : b ≤ 512 := by omega
  clear h hm hn
  have hcast : ((b + 1 : Nat) : Int) = (b : Int) + 1 := by omega
  rw [hcast] at HS1
  clear hcast
  have HW := hid (below_box w (.cells #[.int .i64 (a : Int), .int .i64 (b : Int)] 23))
  go_enter Try.func7, Try.ntmps7
  go_upto_region 3 with (go_at_call 27; refine (HM.out _).mono ?_; rintro e w1 ⟨rfl, b1⟩; have B1 := hid b1; clear b1)
  have hbx := box2 B1.out
  obtain ⟨c0, c1⟩ := cells2 hbx
  have BW := hid (HW.out.trans (B1.out.mono HW.out.size))
  have HL := hid (slt hbx)
  clear hbx
  go_wp2_with (go_at_call 28; refine (HS1.out _ (hid (HX.out.call BW.out))).mono ?_; rintro e w2 h2; obtain ⟨rfl, b2⟩ : e = .returned (.tuple #[.agg #[.pointer none, .int .i64 0], .int .i64 82]) ∧ Below _ _ _ := h2; have B2 := hid b2; clear b2)
  go_ret2
  refine ⟨rfl, ?_⟩
  exact (BW.out.trans (B2.out.mono (Nat.le_of_lt HL.out))).alloc (by have := HL.out; have := B2.out.size; omega) _

set_option maxRecDepth 100000 in
set_option maxHeartbeats 1000000 in
theorem sNew_two (a b : Nat) (h : mayB a b = true) (xs ys : List Int) (ax ay : Option Addr) (lx cx ly cy : Nat) (w : World) (hlx : Hid (xs.length = lx)) (hl : lx ≤ 140737488355328) (HX : Hid (IntsAt w ax xs)) (hly : Hid (ys.length = ly)) (hl2 : ly ≤ 140737488355328) (HY : Hid (IntsAt w ay ys)) (I : List Bool) (hn : stockL 1 (noneL (b + 1)) xs = some I) :
    Calls Try.prog 7 #[.agg #[.int .i64 (a : Int), .int .i64 (b : Int)], .slice ax lx cx, .slice ay ly cy] w fun e w' => NewEnd w (newS a b xs ys) e w' := by
  have HM := hid fun w => may_any a b w
  rw [h] at HM
  have hm := of_decide_eq_true h
  have HS1 := hid fun w hX => newStock_any 1 (b + 1) (by omega) xs ax lx cx w hlx hl hX
  have HS2 := hid fun w hX => newStock_any ((b : Int) + 1) a (by omega) ys ay ly cy w hly hl2 hX
  rw [hn] at HS1
  have HK := hid hn
  have hb : b ≤ 512 := by omega
  have HM5 : Hid (8 ≤ a ∧ a ≤ 4096 ∧ 1 ≤ b ∧ b ≤ 512 ∧ b + 2 ≤ a) := ⟨by omega, by omega, by omega, by omega, by omega⟩
  clear h hm hn
  have hcast : ((b + 1 : Nat) : Int) = (b : Int) + 1 := by omega
  rw [hcast] at HS1
  clear hcast
  have HW := hid (below_box w (.cells #[.int .i64 (a : Int), .int .i64 (b : Int)] 23))
  go_enter Try.func7, Try.ntmps7
  go_upto_region 3 with (go_at_call 27; refine (HM.out _).mono ?_; rintro e w1 ⟨rfl, b1⟩; have B1 := hid b1; clear b1)
  have hbx := box2 B1.out
  obtain ⟨c0, c1⟩ := cells2 hbx
  have BW := hid (HW.out.trans (B1.out.mono HW.out.size))
  have HL := hid (slt hbx)
  have HBX := hid hbx
  clear hbx
  go_upto_region 4 with (go_at_call 28; refine (HS1.out _ (hid (HX.out.call BW.out))).mono ?_; rintro e w2 ⟨pi, gi, rfl, p1, p2, h2, b2⟩; have P1 := hid p1; have P2 := hid p2; have H2 := hid h2; have B2 := hid b2; clear p1 p2 h2 b2)
  have HI3 := hid (H2.out.boxed (.cells #[.pointer (some ⟨pi, 0, none⟩), .int .i64 1] 58))
  have BW3 := hid ((BW.out.trans (B2.out.mono (Nat.le_of_lt HL.out))).alloc (show w.heap.size ≤ w2.heap.size by have := HL.out; have := B2.out.size; omega) (.cells #[.pointer (some ⟨pi, 0, none⟩), .int .i64 1] 58))
  have HBX3 := hid ((Chg.alloc w2 (.cells #[.pointer (some ⟨pi, 0, none⟩), .int .i64 1] 58) No).keep ((Chg.of_below B2.out No).keep HBX.out (fun e => e)) (fun e => e))
  have HST3 : Hid ((w2.alloc (.cells #[.pointer (some ⟨pi, 0, none⟩), .int .i64 1] 58)).heap[w2.heap.size]? = some (.cells #[.pointer (some ⟨pi, 0, none⟩), .int .i64 1] 58 (0, 0))) := heap_alloc_new _ _
  have hpg : Hid (w.heap.size < pi ∧ w.heap.size < gi ∧ pi < w2.heap.size ∧ gi < w2.heap.size) := by
    obtain ⟨W, hW, _⟩ := H2.out.words
    have := slt hW
    have := slt H2.out.me
    have := P1.out
    have := P2.out
    have := HL.out
    exact ⟨by omega, by omega, by omega, by omega⟩
  clear c0 c1 H2 B2 P1 P2 BW B1 HL HBX HW
  generalize w2.alloc (.cells #[.pointer (some ⟨pi, 0, none⟩), .int .i64 1] 58) = w3 at *
  generalize w2.heap.size = Q1 at *
  obtain ⟨d0, d1⟩ := cells2 HST3.out
  go_upto_region 7 with (go_at_call 29; refine (set_any 1 _ HI3.out).mono ?_; rintro e w4 ⟨rfl, h4, c4⟩; have H4 := hid h4; have C4 := hid c4; clear h4 c4)
  have BW4 := hid (C4.out.to BW3.out BW3.out.size (fun k e => by have := hpg.out; omega))
  have HBX4 := hid (C4.out.keep HBX3.out (fun e => by have := hpg.out; omega))
  have HST4 := hid (C4.out.keep HST3.out (fun e => by have := hpg.out; omega))
  obtain ⟨e0, e1⟩ := cells2 HBX4.out
  clear d0 d1 HI3 BW3 HBX3 HST3
  have HL4 := hid (slt HST4.out)
  clear C4
  cases hB : stockL ((b : Int) + 1) (noneL a) ys with
  | none =>
    rw [hB] at HS2
    have HR : Hid (newS a b xs ys = none) := by show _ = _; unfold newS; rw [HK.out, hB]; rfl
    clear hB
    go_wp2_with (go_at_call 28; refine (HS2.out _ (hid (HY.out.call BW4.out))).mono ?_; rintro e w5 h5; obtain ⟨rfl, b5⟩ : e = .returned (.tuple #[.agg #[.pointer none, .int .i64 0], .int .i64 82]) ∧ Below _ _ _ := h5; have B5 := hid b5; clear b5)
    go_ret2
    rw [HR.out]
    exact ⟨rfl, (BW4.out.trans (B5.out.mono BW4.out.size)).alloc (Nat.le_trans BW4.out.size B5.out.size) _⟩
  | some B =>
    rw [hB] at HS2
    have HR : Hid (newS a b xs ys = some ⟨a, b, putL I 1 true, tOf B⟩) := by show _ = _; unfold newS; rw [HK.out, hB]; rfl
    have HOk := hid (ok_of HM5.out.1 HM5.out.2.1 HM5.out.2.2.1 HM5.out.2.2.2.1 HM5.out.2.2.2.2 HK.out hB)
    clear hB
    go_upto_region 8 with (go_at_call 28; refine (HS2.out _ (hid (HY.out.call BW4.out))).mono ?_; rintro e w5 ⟨pb, gb, rfl, p1, p2, h5, b5⟩; have P1 := hid p1; have P2 := hid p2; have H5 := hid h5; have B5 := hid b5; clear p1 p2 h5 b5)
    have hb6 := below_box w5 (.cells #[.pointer (some ⟨pb, 0, none⟩), .int .i64 ((b : Int) + 1)] 58)
    have HI6 := hid ((H4.out.call B5.out).call hb6)
    have HB6 := hid (H5.out.call hb6)
    have BW6 := hid ((BW4.out.trans (B5.out.mono BW4.out.size)).trans (hb6.mono (Nat.le_trans BW4.out.size B5.out.size)))
    have HS6 := hid ((Chg.of_below hb6 No).keep ((Chg.of_below B5.out No).keep HST4.out (fun e => e)) (fun e => e))
    have HT6 : Hid ((w5.alloc (.cells #[.pointer (some ⟨pb, 0, none⟩), .int .i64 ((b : Int) + 1)] 58)).heap[w5.heap.size]? = some (.cells #[.pointer (some ⟨pb, 0, none⟩), .int .i64 ((b : Int) + 1)] 58 (0, 0))) := heap_alloc_new _ _
    have hpb : Hid (Q1 < pb ∧ Q1 < gb ∧ pb < w5.heap.size ∧ gb < w5.heap.size) := by
      obtain ⟨W, hW, _⟩ := H5.out.words
      have := slt hW
      have := slt H5.out.me
      have := P1.out
      have := P2.out
      have := HL4.out
      exact ⟨by omega, by omega, by omega, by omega⟩
    clear e0 e1 H4 B5 P1 P2 H5 BW4 HBX4 HST4 HL4 hb6
    generalize w5.alloc (.cells #[.pointer (some ⟨pb, 0, none⟩), .int .i64 ((b : Int) + 1)] 58) = w6 at *
    generalize w5.heap.size = Q2 at *
    obtain ⟨d0, d1⟩ := cells2 HS6.out
    obtain ⟨e0, e1⟩ := cells2 HT6.out
    have hmm := @run_makeMap Try.prog
    go_wp2
    go_ret2
    rw [HR.out]
    have hs7 : (w6.alloc (.map #[] 0)).heap.size = w6.heap.size + 1 := by simp
    have hc7 := Chg.alloc w6 (.map #[] 0) No
    have hc8 := Chg.alloc (w6.alloc (.map #[] 0)) (.cells (spC pi pb w6.heap.size ((b : Int) + 1)) 63) No
    have hc := hc7.trans hc8 (c := No) (fun _ _ e => e) (fun _ _ e => e)
    have hs8 : ((w6.alloc (.map #[] 0)).alloc (.cells (spC pi pb w6.heap.size ((b : Int) + 1)) 63)).heap.size = w6.heap.size + 2 := by simp
    have k1 := hpg.out
    have k2 := hpb.out
    have k3 := slt HT6.out
    have k4 := slt HS6.out
    refine ⟨w6.heap.size + 1, rfl, ⟨pi, gi, pb, gb, w6.heap.size, ?_⟩, ?_⟩
    · refine ⟨?_, HI6.out.keep hc (fun e => e) (fun e => e), ?_, ?_, HOk.out, ?_, ?_, ?_, ?_, ?_, ?_, Nat.le_refl _, ⟨⟨by omega, by omega, by omega⟩, ⟨by omega, by omega, by omega, by omega⟩, by omega, by omega, by omega⟩⟩
      · have := heap_alloc_new (w6.alloc (.map #[] 0)) (.cells (spC pi pb w6.heap.size ((b : Int) + 1)) 63)
        rw [hs7] at this
        exact this
      · show IsB _ pb gb (bt (tOf B))
        rw [tOf_bt]
        exact HB6.out.keep hc (fun e => e) (fun e => e)
      · refine ((SetAt.made w6).keep hc8 (fun e => e)).cong fun x => ?_
        exact ⟨fun e => e.elim, fun e => absurd e (tOf_late B x)⟩
      all_goals exact ⟨by omega, by show _ < ((w6.alloc (.map #[] 0)).alloc (.cells (spC pi pb w6.heap.size ((b : Int) + 1)) 63)).heap.size; rw [hs8]; omega⟩
    · exact BW6.out.trans (hc.below.mono BW6.out.size)

theorem sNew_any (x y : Int) (xs ys : List Int) (ax ay : Option Addr) (lx cx ly cy : Nat) (w : World) (hlx : Hid (xs.length = lx)) (hl : lx ≤ 140737488355328) (HX : Hid (IntsAt w ax xs)) (hly : Hid (ys.length = ly)) (hl2 : ly ≤ 140737488355328) (HY : Hid (IntsAt w ay ys)) (a b : Nat) (ha : x = a) (hb : y = b) (h : mayB x y = true) :
    Calls Try.prog 7 #[.agg #[.int .i64 x, .int .i64 y], .slice ax lx cx, .slice ay ly cy] w fun e w' => NewEnd w (newS a b xs ys) e w' := by
  subst ha hb
  cases hn : stockL 1 (noneL (b + 1)) xs with
  | none =>
    rw [show newS a b xs ys = none by unfold newS; rw [hn]; rfl]
    exact sNew_no1 a b h xs ax lx cx _ w hlx hl HX hn
  | some I => exact sNew_two a b h xs ys ax ay lx cx ly cy w hlx hl HX hly hl2 HY I hn
/-- A new one of which nothing is in use. -/
theorem newS_nil (a b : Nat) : newS a b [] [] = some (nil0 a b) := by
  unfold newS nil0 stockL tOf noneL
  simp
theorem IntsAt.nil (w : World) : IntsAt w none [] := .inl rfl
theorem sNew_nil (a b : Nat) (h : mayB a b = true) (w : World) : Calls Try.prog 7 #[.agg #[.int .i64 (a : Int), .int .i64 (b : Int)], .slice none 0 0, .slice none 0 0] w fun e w' =>
    ∃ p, e = .returned (.tuple #[.pointer (some ⟨p, 0, none⟩), .int .i64 0]) ∧ IsS w' w.heap.size w'.heap.size p (nil0 a b) ∧ Below w.heap.size w w' := by
  have := sNew_any a b [] [] none none 0 0 0 0 w rfl (by decide) (IntsAt.nil _) rfl (by decide) (IntsAt.nil _) a b rfl rfl h
  rw [newS_nil] at this
  exact this

end Go.Proofs.Ytdddcllakjeplaa
