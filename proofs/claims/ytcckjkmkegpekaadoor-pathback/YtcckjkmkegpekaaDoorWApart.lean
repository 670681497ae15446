/-
  The walk of PathApart.
-/
import Derived.Test.YtcckjkmkegpekaaDoorPF
namespace Go.Proofs.YtcckjkmkegpekaaDoor
open Go.RowKit Go.Shelf

/-- Join of names that may be. -/
theorem join_few (ls : List ByteArray) (a : Option Addr) (n c : Nat) (w : World) (h : LAt w a ls) (hn : n = ls.length) (hc : ls.length ≤ c) (h1 : (datas ls).all okName = true) (h2 : sizes (datas ls) ≤ 400) :
    Calls Tryd.prog 11 #[.slice a n c] w fun e w' => ∃ p : ByteArray, e = .returned (.tuple #[.string p, .int .i64 0]) ∧ p.data.toList = pathOf (datas ls) ∧ Below w.heap.size w w' := by
  subst hn
  have hl := sizes_len (datas ls)
  rw [datas_len] at hl
  refine (join_any ls a c w h hc (by omega)).mono ?_
  rintro e w' ⟨p, rfl, hp, hb⟩
  rw [join_ok h1 h2] at hp ⊢
  exact ⟨p, rfl, hp, hb⟩
/-- few, with all that is known of it. -/
theorem few_is (ls : List ByteArray) (a : Option Addr) (c : Nat) (w : World) (hN : ls.length ≤ 9223372036854775807) (h : TAt w a ls) :
    Calls Tryd.prog 17 #[.slice a ls.length c] w fun e w' => ∃ (b : Option Addr) (d : Nat) (xs : List ByteArray), e = .returned (.slice b xs.length d) ∧ datas xs = fewL (datas ls) ∧ (datas xs).all okName = true ∧ sizes (datas xs) ≤ 400 ∧ xs.length ≤ 400 ∧ xs.length ≤ d ∧ LAt w' b xs ∧ Below w.heap.size w w' := by
  refine (few_any ls a c w hN h).mono ?_
  rintro e w' ⟨v, xs, rfl, hx, ho, hb⟩
  obtain ⟨b, d, rfl, hd, hl⟩ := ho.at
  have h2 := few_size (datas ls)
  rw [← hx] at h2
  have h3 := sizes_len (datas xs)
  rw [datas_len] at h3
  exact ⟨b, d, xs, rfl, hx, by rw [hx]; exact few_ok _, h2, by omega, hd, hl, hb⟩

set_option maxRecDepth 100000 in
set_option maxHeartbeats 2000000 in
theorem apart_walk (x y : List ByteArray) (a b : Option Addr) (ca cb : Nat) (w : World) (hm : ML w) (hx : ca ≤ maxLen) (hy : cb ≤ maxLen) (lx : x.length ≤ ca) (ly : y.length ≤ cb) (ha : TAt w a x) (hb : TAt w b y) :
    Calls Tryd.prog 8 #[.slice a x.length ca, .slice b y.length cb] w fun e w' => e = .returned (.bool true) ∧ Below w.heap.size w w' := by
  have hF1 := few_is x a ca w (by unfold maxLen at hx; omega) ha
  have hF2 := fun w' (hb' : Below w.heap.size w w') => few_is y b cb w' (by unfold maxLen at hy; omega) (hb.below hb')
  have hK := fun w' hm' => known_any w' hm'
  have HM := hid hm
  clear ha hb hm hx hy lx ly
  go_enter Tryd.func8, Tryd.ntmps8
  go_wp2_with (first
    | (go_at_call 17; go_must (first
        | (refine hF1.mono ?_; rintro e w2 ⟨b2, d2, xs, rfl, hxs, ok2, sz2, ln2, le2, at2, hb2⟩; have HA2 := hid at2; have HOK2 := hid ok2; have HSZ2 := hid sz2; clear hF1 at2 hxs ok2 sz2)
        | (refine (hF2 _ hb2).mono ?_; rintro e w3 ⟨b3, d3, ys, rfl, hys, ok3, sz3, ln3, le3, at3, hb3⟩; have HA3 := hid at3; have HA23 := hid (HA2.out.below hb3); have HB3 := hid (btr hb2 hb3 hb2.size); have HOK3 := hid ok3; have HSZ3 := hid sz3; clear hF2 at3 hys ok3 sz3)))
    | (go_at_call 11; go_must (first
        | (refine (join_few xs b2 _ d2 _ HA23.out rfl le2 HOK2.out HSZ2.out).mono ?_; rintro e w4 ⟨p, rfl, hp, hb4⟩; have HP := hid hp; have HB4 := hid (btr HB3.out hb4 HB3.out.size); have HA4 := hid (HA3.out.below hb4); have HA24 := hid (HA23.out.below hb4); clear hp HA23)
        | (refine (join_few ys b3 _ d3 _ HA4.out rfl le3 HOK3.out HSZ3.out).mono ?_; rintro e w5 ⟨q, rfl, hq, hb5⟩; have hEq : (p.toList == q.toList) = decide (xs = ys) := (by
              rw [tl, tl, HP.out, hq, Bool.eq_iff_iff, beq_iff_eq, path_inj HOK2.out HOK3.out HSZ2.out HSZ3.out, decide_eq_true_iff]
              exact ⟨fun h => datas_inj h, fun h => by rw [h]⟩); have HB5 := hid (btr HB4.out hb5 HB4.out.size); have HA5 := hid (HA4.out.below hb5); have HA25 := hid (HA24.out.below hb5); clear hq)))
    | (go_at_call 13; go_must (refine (same_is xs ys _ b2 b3 _ _ d2 d3 _ rfl rfl (by omega) (by omega) HA25.out.at HA5.out.at rfl).mono ?_; rintro e w6 ⟨rfl, hb6⟩; have HB6 := hid (btr HB5.out hb6 HB5.out.size); clear hb6))
    | (go_at_call 9; go_must (refine (hK _ (HM.out.below HB6.out)).mono ?_; rintro e w7 ⟨rfl, hb7⟩))
    | fail)
  go_ret
  exact ⟨rfl, btr HB6.out hb7 HB6.out.size⟩

end Go.Proofs.YtcckjkmkegpekaaDoor
