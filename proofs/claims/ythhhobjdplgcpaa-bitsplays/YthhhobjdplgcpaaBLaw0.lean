/-
  The statements' own helpers awake and row.
-/
import Derived.Test.YthhhobjdplgcpaaBitsR
namespace Go.Proofs.Ythhhobjdplgcpaa
open Go.RowKit

def L3 : List Bool := (((noneL 70).set 0 true).set 1 true).set 64 true
theorem L3_put : putL (putL (putL (noneL 70) 0 true) 1 true) 64 true = L3 := rfl
theorem L3_first : FirstIs L3 64 65 true := ⟨fun _ => ⟨by decide, by decide, by decide, by decide, fun j h1 h2 h3 => by
  have e : j = 64 := by omega
  subst e
  decide⟩, fun e => Bool.noConfusion e⟩
theorem L3_count : L3.count true = 3 := by decide
theorem L3_64 : hasL L3 64 = true := by decide
theorem L3_2 : hasL L3 2 = false := by decide

set_option maxRecDepth 100000 in
set_option maxHeartbeats 1000000 in
theorem awake_any (w : World) : Calls Try.prog 9 #[] w fun e w' => e = .returned (.bool true) ∧ Below w.heap.size w w' := by
  have HN := hid fun w => new_ok 70 w (by decide)
  have E0 : Hid (putE (noneL 70) 0 = 0) := by show _ = _; decide
  have E1 : Hid (putE (putL (noneL 70) 0 true) 1 = 0) := by show _ = _; decide
  have E2 : Hid (putE (putL (putL (noneL 70) 0 true) 1 true) 64 = 0) := by show _ = _; decide
  go_enter Try.func9, Try.ntmps9
  go_wp2_with (first | (go_at_call 10; refine (HN.out _).mono ?_; rintro e w1 ⟨p, g, rfl, hp, hg, h1, hb1⟩; have H1 := hid h1; have B1 := hid hb1; have hg0 := hid hg; clear h1 hb1 hp hg) | (go_at_call 17; refine (set_any 0 _ H1.out).mono ?_; rintro e w2 ⟨rfl, h2, c2⟩; have H2 := hid h2; have B2 := hid (c2.to B1.out B1.out.size (fun k e => by rw [e]; exact hg0.out)); clear h2 c2 H1 B1; rw [E0.out]) | (go_at_call 17; refine (set_any 1 _ H2.out).mono ?_; rintro e w3 ⟨rfl, h3, c3⟩; have H3 := hid h3; have B3 := hid (c3.to B2.out B2.out.size (fun k e => by rw [e]; exact hg0.out)); clear h3 c3 H2 B2; rw [E1.out]) | (go_at_call 17; refine (set_any 64 _ H3.out).mono ?_; rintro e w4 ⟨rfl, h4, c4⟩; rw [L3_put] at h4; have H4 := hid h4; have B4 := hid (c4.to B3.out B3.out.size (fun k e => by rw [e]; exact hg0.out)); clear h4 c4 H3 B3; rw [E2.out]) | (go_at_call 12; refine (first_any 64 _ H4.out).mono ?_; rintro e w5 ⟨⟨x, b, rfl, hf⟩, rfl⟩; obtain ⟨rfl, rfl⟩ := hf.one L3_first; clear hf) | (go_at_call 14; refine (count_any _ H4.out).mono ?_; rintro e w5 ⟨rfl, rfl⟩; rw [L3_count]) | (go_at_call 15; refine (has_any _ _ H4.out).mono ?_; rintro e w5 ⟨rfl, rfl⟩; first | rw [L3_64] | rw [L3_2]))
  go_ret
  exact ⟨rfl, B4.out⟩

/-- A list of ints that lies in memory. -/
def IntsAt (w : World) (a : Option Addr) (xs : List Int) : Prop :=
  xs = [] ∨ ∃ b o, a = some ⟨b, o, none⟩ ∧ b < w.heap.size ∧ ∀ j, j < xs.length → w.cell? ⟨b, o + j, none⟩ = some (.int .i64 (xs.getD j 0))
theorem IntsAt.get {w w' : World} {a : Option Addr} {xs : List Int} (h : IntsAt w a xs) (hb : Below w.heap.size w w') (k : Nat) (hk : k < xs.length) :
    ∃ b o, a = some ⟨b, o, none⟩ ∧ w'.cell? ⟨b, o + k, none⟩ = some (.int .i64 (xs.getD k 0)) := by
  rcases h with h | ⟨b, o, h1, h2, h3⟩
  · rw [h] at hk; exact absurd hk (Nat.not_lt_zero _)
  · exact ⟨b, o, h1, by rw [hb.cell (p := ⟨b, o + k, none⟩) h2]; exact h3 k hk⟩
theorem IntsAt.call {w w' : World} {a : Option Addr} {xs : List Int} (h : IntsAt w a xs) (hb : Below w.heap.size w w') : IntsAt w' a xs := by
  rcases h with h | ⟨b, o, h1, h2, h3⟩
  · exact .inl h
  · exact .inr ⟨b, o, h1, Nat.lt_of_lt_of_le h2 hb.size, fun j hj => by rw [hb.cell (p := ⟨b, o + j, none⟩) h2]; exact h3 j hj⟩
theorem all64 {xs : List Int} (h : ∀ x, x ∈ xs → I64 x) (k : Nat) (hk : k < xs.length) : I64 (xs.getD k 0) := by
  rw [List.getD_eq_getElem?_getD, List.getElem?_eq_getElem hk]
  exact h _ (List.getElem_mem hk)

/-- What row tells. -/
def RowEnd (w : World) (n : Nat) (e : Ending) (w' : World) : Prop :=
  ∃ p g L, e = .returned (.pointer (some ⟨p, 0, none⟩)) ∧ w.heap.size ≤ p ∧ w.heap.size ≤ g ∧ L.length = n ∧ IsB w' p g L ∧ Below w.heap.size w w'

set_option maxRecDepth 100000 in
set_option maxHeartbeats 2000000 in
theorem row_any (n : Nat) (xs ys : List Int) (a c : Option Addr) (cap cap' lx ly : Nat) (w : World) (hn : n ≤ 4096) (hlx : Hid (xs.length = lx)) (hly : Hid (ys.length = ly)) (hl : lx ≤ 140737488355328) (hl' : ly ≤ 140737488355328) (HX : Hid (IntsAt w a xs)) (HY : Hid (IntsAt w c ys)) (H64 : Hid (∀ x, x ∈ xs → I64 x)) (K64 : Hid (∀ x, x ∈ ys → I64 x)) :
    Calls Try.prog 24 #[.int .i64 (n : Int), .slice a lx cap, .slice c ly cap'] w fun e w' => RowEnd w n e w' := by
  have HN := hid fun w => new_ok n w hn
  by_cases hn0 : n = 0
  · subst hn0
    go_enter Try.func24, Try.ntmps24
    go_wp2_with (go_at_call 10; refine (HN.out _).mono ?_; rintro e w1 ⟨p, g, rfl, hp, hg, h1, hb1⟩; have H1 := hid h1; have B1 := hid hb1; have hp0 := hid hp; have hg0 := hid hg; clear h1 hb1 hp hg)
    go_loopw [9] (fun i wr => i = .int .i64 0 ∧ w1 = wr) (fun _ _ => 0)
    case atStart => exact ⟨rfl, rfl⟩
    case round =>
      obtain ⟨rfl, rfl⟩ := hrel
      go_wp2
      all_goals
        go_loopw [10] (fun i wr => i = .int .i64 0 ∧ w1 = wr) (fun _ _ => 0)
        case atStart => exact ⟨rfl, rfl⟩
        case round =>
          obtain ⟨rfl, rfl⟩ := hrel
          go_wp2
          all_goals
            go_ret
            exact ⟨p, g, _, rfl, hp0.out, hg0.out, noneL_len 0, H1.out, B1.out⟩
  · have hnI : (0 : Int) < (n : Int) := by omega
    clear hn0
    go_enter Try.func24, Try.ntmps24
    go_wp2_with (go_at_call 10; refine (HN.out _).mono ?_; rintro e w1 ⟨p, g, rfl, hp, hg, h1, hb1⟩; have H1 := hid h1; have B1 := hid hb1; have hp0 := hid hp; have hg0 := hid hg; clear h1 hb1 hp hg)
    go_loopw [9] (fun i wr => ∃ (k : Nat) (L : List Bool), k ≤ lx ∧ i = .int .i64 k ∧ Hid (L.length = n) ∧ Hid (IsB wr p g L) ∧ Hid (Below w.heap.size w wr)) (fun i _ => lx - (intOf i).toNat)
    case atStart => exact ⟨0, _, by omega, rfl, noneL_len n, H1, B1⟩
    case round =>
      clear H1 B1
      obtain ⟨k, L, hk, rfl, HL, HB, HW⟩ := hrel
      by_cases hlt : k < lx
      · obtain ⟨b, o, rfl, hcell⟩ := HX.out.get HW.out k (by rw [hlx.out]; exact hlt)
        have hx64 := all64 H64.out k (by rw [hlx.out]; exact hlt)
        generalize xs.getD k 0 = x at *
        have hkl : (k : Int) < (lx : Int) := by omega
        have HP := hid fun w => pick_any x n w hx64 (by omega) (by omega)
        have hpb := pickN_bd x (show (1 : Int) ≤ (n : Int) by omega)
        generalize pickN x n = P at *
        have HE : Hid (putE L P = 0) := if_pos ⟨hpb.1, by rw [HL.out]; exact hpb.2⟩
        clear hlt
        go_wp2_with (first | (go_at_call 16; refine (HP.out _).mono ?_; rintro e w2 ⟨rfl, rfl⟩) | (go_at_call 17; refine (set_any P _ HB.out).mono ?_; rintro e w2 ⟨rfl, h2, c2⟩; have H2 := hid h2; have B2 := hid (c2.to HW.out HW.out.size (fun k e => by rw [e]; exact hg0.out)); clear h2 c2; rw [HE.out]))
        exact ⟨⟨k + 1, _, by omega, by go_num, hid (by rw [putL_len]; exact HL.out), H2, B2⟩, by simp [intOf]; omega⟩
      · clear hk
        go_wp2
        go_loopw [10] (fun i wr => ∃ (k : Nat) (L : List Bool), k ≤ ly ∧ i = .int .i64 k ∧ Hid (L.length = n) ∧ Hid (IsB wr p g L) ∧ Hid (Below w.heap.size w wr)) (fun i _ => ly - (intOf i).toNat)
        case atStart => exact ⟨0, _, by omega, rfl, HL, HB, HW⟩
        case round =>
          clear HL HB HW hlt
          obtain ⟨k, L, hk, rfl, HL, HB, HW⟩ := hrel
          by_cases hlt : k < ly
          · obtain ⟨b, o, rfl, hcell⟩ := HY.out.get HW.out k (by rw [hly.out]; exact hlt)
            have hx64 := all64 K64.out k (by rw [hly.out]; exact hlt)
            generalize ys.getD k 0 = x at *
            have hkl : (k : Int) < (ly : Int) := by omega
            have HP := hid fun w => pick_any x n w hx64 (by omega) (by omega)
            have hpb := pickN_bd x (show (1 : Int) ≤ (n : Int) by omega)
            generalize pickN x n = P at *
            have HE : Hid (putE L P = 0) := if_pos ⟨hpb.1, by rw [HL.out]; exact hpb.2⟩
            clear hlt
            go_wp2_with (first | (go_at_call 16; refine (HP.out _).mono ?_; rintro e w2 ⟨rfl, rfl⟩) | (go_at_call 19; refine (clear_any P _ HB.out).mono ?_; rintro e w2 ⟨rfl, h2, c2⟩; have H2 := hid h2; have B2 := hid (c2.to HW.out HW.out.size (fun k e => by rw [e]; exact hg0.out)); clear h2 c2; rw [HE.out]))
            exact ⟨⟨k + 1, _, by omega, by go_num, hid (by rw [putL_len]; exact HL.out), H2, B2⟩, by simp [intOf]; omega⟩
          · clear hk
            go_wp2
            go_ret
            exact ⟨p, g, L, rfl, hp0.out, hg0.out, HL.out, HB.out, HW.out⟩

end Go.Proofs.Ythhhobjdplgcpaa
