/-
  The statements' own examples (known), and the contracts in plain values.
-/
import Derived.Test.YtfkmpbbemkkdaaaDoorPJ
namespace Go.Proofs.YtfkmpbbemkkdaaaDoor
open Go.RowKit Go.Shelf

theorem new_list (W : World) (ls : List ByteArray) : LAt (W.alloc (.cells (ls.map Value.string).toArray 9)) (some ⟨W.heap.size, 0, none⟩) ls :=
  (Own.at (B := 0) (.inr ⟨_, rfl, Nat.zero_le _, heap_alloc_new _ _⟩))
theorem below_new (W : World) (o : Obj) : Below W.heap.size W (W.alloc o) := (Below.refl _ _).alloc (Nat.le_refl _) _

theorem split_is (s : ByteArray) (ls : List ByteArray) (c : Int) (w : World) (hm : ML w) (h : splitR s.data.toList = (datas ls, c)) :
    Calls Tryd.prog 7 #[.string s] w fun e w' => ∃ a : Option Addr, e = .returned (.tuple #[.slice a ls.length ls.length, .int .i64 c]) ∧ Own w.heap.size w' a ls ∧ Below w.heap.size w w' ∧ ML w' := by
  refine (split_any s w hm).mono ?_
  rintro e w' ⟨a, l2, rfl, h2, h3, h4⟩
  rw [h] at h2 ⊢
  obtain rfl := datas_inj h2
  exact ⟨a, rfl, h3, h4, hm.below h4⟩
theorem join_is (ls : List ByteArray) (a : Option Addr) (n c : Nat) (p : ByteArray) (d : Int) (w : World) (h : LAt w a ls) (hn : n = ls.length) (hc : ls.length ≤ c) (hN : ls.length ≤ 140737488355328) (hj : joinR (datas ls) = (p.data.toList, d)) :
    Calls Tryd.prog 4 #[.slice a n c] w fun e w' => e = .returned (.tuple #[.string p, .int .i64 d]) ∧ Below w.heap.size w w' := by
  subst hn
  refine (join_any ls a c w h hc hN).mono ?_
  rintro e w' ⟨q, rfl, h2, h3⟩
  rw [hj] at h2 ⊢
  obtain rfl := data_inj h2
  exact ⟨rfl, h3⟩
theorem check_is (s : ByteArray) (b : Bool) (w : World) (h : okName s.data.toList = b) :
    Calls Tryd.prog 11 #[.string s] w fun e w' => e = .returned (.int .i64 (if b = true then 0 else 71)) ∧ Below w.heap.size w w' := by
  subst h; exact check_any s w
theorem same_is (x y : List ByteArray) (b : Bool) (a a' : Option Addr) (n m ca cb : Nat) (w : World) (hn : n = x.length) (hm : m = y.length) (hx : x.length ≤ 1000000000000000000) (hy : y.length ≤ 1000000000000000000) (ha : TAt w a x) (hb : TAt w a' y) (h : decide (x = y) = b) :
    Calls Tryd.prog 6 #[.slice a n ca, .slice a' m cb] w fun e w' => e = .returned (.bool b) ∧ Below w.heap.size w w' := by
  subst hn hm h; exact sameTexts_any x y a a' ca cb w hx hy ha hb

def xa : ByteArray := ⟨#[97]⟩
def xb : ByteArray := ⟨#[98]⟩
def xbc : ByteArray := ⟨#[98, 46, 99]⟩

set_option maxRecDepth 100000 in
set_option maxHeartbeats 1000000 in
theorem known_any (w : World) (hm : ML w) : Calls Tryd.prog 10 #[] w fun e w' => e = .returned (.bool true) ∧ Below w.heap.size w w' := by
  have HM := hid hm
  have hS1 := fun w' hm' => split_is ⟨#[47, 97, 47, 98, 46, 99]⟩ [xa, xbc] 0 w' hm' (by decide)
  have hS2 := fun w' hm' => split_is ⟨#[47, 97, 47]⟩ [] 70 w' hm' (by decide)
  have hJ := fun W => join_is [xa, xb] (some ⟨W.heap.size, 0, none⟩) 2 2 ⟨#[47, 97, 47, 98]⟩ 0 (W.alloc (.cells #[.string ⟨#[97]⟩, .string ⟨#[98]⟩] 9)) (new_list W [xa, xb]) rfl (by decide) (by decide) (by decide)
  have hC1 := fun w' => check_is ⟨#[46, 46]⟩ false w' (by decide)
  have hC2 := fun w' => check_is ⟨#[46, 46, 46]⟩ true w' (by decide)
  have hT := fun (W : World) a (ha : LAt W a [xa, xbc]) => same_is [xa, xbc] [xa, xbc] true a (some ⟨W.heap.size, 0, none⟩) 2 2 2 2 (W.alloc (.cells #[.string ⟨#[97]⟩, .string ⟨#[98, 46, 99]⟩] 9)) rfl rfl (by decide) (by decide) ((ha.below (below_new _ _)).at) (new_list W [xa, xbc]).at (by decide)
  rw [if_neg (by decide)] at hC1
  rw [if_pos rfl] at hC2
  have hT' := hid hT
  clear hm hT
  go_enter Tryd.func10, Tryd.ntmps10
  go_wp2_with (first
    | (go_at_call 7; go_must (first
        | (refine (hS1 _ HM.out).mono ?_; rintro e w2 ⟨a, rfl, ho2, hb2, hm2⟩; have HO := hid ho2; have HM2 := hid hm2; clear hS1 ho2 hm2)
        | (refine (hS2 _ HM3.out).mono ?_; rintro e w4 ⟨a4, rfl, -, hb4, -⟩; have HB4 := hid (btr HB3.out hb4 HB3.out.size); have HO4 := hid (HO3.out.below hb4); clear hS2 hb4)))
    | (go_at_call 4; go_must (refine (hJ _).mono ?_; rintro e w3 ⟨rfl, hb3⟩; have HB23 := hid (btr (below_new _ _) hb3 (by simp)); have HB3 := hid (btr hb2 HB23.out hb2.size); have HM3 := hid (HM2.out.below HB23.out); have HO3 := hid (HO.out.below HB23.out); clear hJ hb3))
    | (go_at_call 6; go_must (refine (hT'.out _ _ HO4.out.at).mono ?_; rintro e w5 ⟨rfl, hb5⟩; have HB5 := hid (btr HB4.out (btr (below_new _ _) hb5 (by simp)) HB4.out.size); clear hb5 hT'))
    | (go_at_call 11; go_must (first
        | (refine (hC1 _).mono ?_; rintro e w6 ⟨rfl, hb6⟩; have HB6 := hid (btr HB5.out hb6 HB5.out.size); clear hb6 hC1)
        | (refine (hC2 _).mono ?_; rintro e w7 ⟨rfl, hb7⟩; have HB7 := hid (btr HB6.out hb7 HB6.out.size); clear hb7 hC2)))
    | fail)
  go_ret
  exact ⟨rfl, HB7.out⟩

end Go.Proofs.YtfkmpbbemkkdaaaDoor
