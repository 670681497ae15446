/-
  GraphAdds, walked: an Add is refused just where the post leads to the pre; else that edge is there, and all others stay.
-/
import Derived.Test.YtjnafcogdakbbaaLaw1
import Derived.Test.YtjnafcogdakbbaaLawW
namespace Go.Proofs.Ytjnafcogdakbbaa
open Go.RowKit

theorem dir_way {E : Int → Int → Prop} {l : List (Int × Int)} (h : EList E l) (x y : Int) : Way (dirF l false) x y ↔ Way E x y :=
  Way.congr fun a b => by unfold dirF; simp; exact h.2 (a, b)
theorem dir_back {E : Int → Int → Prop} {l : List (Int × Int)} (h : EList E l) (x y : Int) : Way (dirF l true) x y ↔ Way E y x := by
  have : Way (dirF l true) x y ↔ Way (rev E) x y := Way.congr fun a b => by unfold dirF rev; simp; exact h.2 (b, a)
  rw [this]
  exact ⟨fun k => k.of_rev, fun k => k.rev⟩
theorem elist_sec {E : Int → Int → Prop} {l : List (Int × Int)} (h : EList E l) (hs : InSec E) : ∀ x, x ∈ l → Sec x.1 ∧ Sec x.2 := fun x hx => hs _ _ ((h.2 x).1 hx)
/-- The edges but one. -/
def bu (e : Int × Int) (l : List (Int × Int)) : List (Int × Int) := l.filter fun x => !(x.1 == e.1 && x.2 == e.2)
theorem bu_take {l : List (Int × Int)} {k : Nat} (hk : k < l.length) (e : Int × Int) : bu e (l.take (k + 1)) = if ((edK l k).1 == e.1 && (edK l k).2 == e.2) = true then bu e (l.take k) else bu e (l.take k) ++ [edK l k] := by
  have ee : edK l k = l[k] := by simp [edK, hk]
  unfold bu
  rw [List.take_succ_eq_append_getElem hk, List.filter_append, ee]
  have hf : ∀ b : Bool, ((l[k]).1 == e.1 && (l[k]).2 == e.2) = b → [l[k]].filter (fun x => !(x.1 == e.1 && x.2 == e.2)) = if b = true then [] else [l[k]] := fun b hb => by
    rw [List.filter_cons, hb]
    cases b <;> simp
  rw [hf _ rfl]
  split
  · exact List.append_nil _
  · rfl
/-- Was the edge met? -/
def met (e : Int × Int) (l : List (Int × Int)) (k : Nat) : Bool := (l.take k).any fun x => x.1 == e.1 && x.2 == e.2
theorem met_take {l : List (Int × Int)} {k : Nat} (hk : k < l.length) (e : Int × Int) : met e l (k + 1) = (met e l k || ((edK l k).1 == e.1 && (edK l k).2 == e.2)) := by
  have ee : edK l k = l[k] := by simp [edK, hk]
  unfold met
  rw [List.take_succ_eq_append_getElem hk, List.any_append, ee]
  simp
theorem met_all {l : List (Int × Int)} {e : Int × Int} (h : e ∈ l) : met e l l.length = true := by
  unfold met
  rw [List.take_length, List.any_eq_true]
  exact ⟨e, h, by simp⟩
theorem bu_len (e : Int × Int) (l : List (Int × Int)) : (bu e l).length ≤ l.length := List.length_filter_le _ _
theorem bu_mem (e : Int × Int) (l : List (Int × Int)) (x : Int × Int) : x ∈ bu e l ↔ x ∈ l ∧ x ≠ e := by
  unfold bu
  rw [List.mem_filter]
  refine and_congr_right fun _ => ?_
  rw [Bool.not_eq_true', Bool.and_eq_false_iff]
  simp only [beq_eq_false_iff_ne, ne_eq, Prod.ext_iff, not_and]
  constructor
  · rintro (h | h) k
    · exact absurd k h
    · exact h
  · intro h
    by_cases k : x.1 = e.1
    · exact .inr (h k)
    · exact .inl k
theorem bu_add {E : Int → Int → Prop} {l m : List (Int × Int)} {a b : Int} (h : EList E l) (k : EList (addE E a b) m) : bu (a, b) m = bu (a, b) l := by
  refine eq_of_up (R := ltE) (fun a => by unfold ltE; omega) (fun a b h => by unfold ltE at *; omega) _ _ (k.1.filter _) (h.1.filter _) fun x => ?_
  rw [bu_mem, bu_mem, k.2, h.2]
  unfold addE
  constructor
  · rintro ⟨⟨h1, h2⟩ | h1, h3⟩
    · exact absurd (Prod.ext h1 h2) h3
    · exact ⟨h1, h3⟩
  · exact fun ⟨h1, h2⟩ => ⟨.inr h1, h2⟩

set_option maxRecDepth 100000 in
set_option maxHeartbeats 4000000 in
theorem adds_walk (ws : List StV) (ad : Option Addr) (cap : Nat) (x y : Int) (w : World) (hl : ws.length ≤ 140737488355328) (hz : ScriptAt w ad ws) (hok : ∀ s, s ∈ ws → s.OK) (hx : I64 x) (hy : I64 y) :
    Calls Try.prog 8 #[.slice ad ws.length cap, .int .i64 x, .int .i64 y] w fun e w' => e = .returned (.bool true) ∧ Below w.heap.size w w' := by
  have HK := known_any w
  have HPa := fun w => pick_any x 4096 w hx (by omega) (by omega)
  have HPb := fun w => pick_any y 4096 w hy (by omega) (by omega)
  have hsa := pickN_sec x
  have hsb := pickN_sec y
  generalize pickN x 4096 = a at *
  generalize pickN y 4096 = b at *
  have hIa := hsa.i64
  have hIb := hsb.i64
  have ha0 := hsa.1
  have ha1 := hsa.2
  have HZ := hid hz
  clear hz
  by_cases hab : a = b
  · subst hab
    go_enter Try.func8, Try.ntmps8
    go_wp2_with (first
      | (go_at_call 9; go_must (refine HK.mono ?_; rintro e w1 ⟨rfl, c1⟩; have HM := made_any ws ad cap w1 hl (HZ.out.keep c1) hok; clear HK))
      | (go_at_call 19; go_must (refine HM.mono ?_; rintro e w2 ⟨p, own, E, rfl, hG, ho, c2⟩; have HE1 := edgesG_any hG; clear HM))
      | (go_at_call 12; go_must (first | (refine (HPa _).mono ?_; rintro e w2 ⟨rfl, rfl⟩; clear HPa) | (refine (HPb _).mono ?_; rintro e w2 ⟨rfl, rfl⟩)))
      | (go_at_call 17; go_must (first
          | (refine HE1.mono ?_; rintro e w3 ⟨v, l, rfl, hv, hL, c3⟩; obtain ⟨al, cl, rfl, hA, hAb⟩ := hv.at_; have HA := addG_any a a (hG.call c3) hIa hIa; clear HE1)
          | (refine HE2.mono ?_; rintro e w5 ⟨v2, l2, rfl, hv2, hL2, c5⟩; obtain rfl := elist_one hL2 hL; obtain ⟨a2, ca2, rfl, hA2, hA2b⟩ := hv2.at_; have hA5 : EAt w5 al l2 := (hA.keep d4 (fun g e k => by have := hAb g e; have := (ho g k).2; omega)).call c5; have HQ := edges_any l2 al a2 cl ca2 w5 (by have := elist_len hL hG.sec; omega) hA5 hA2; clear HE2)))
      | (go_at_call 29; go_must (refine HA.mono ?_; rintro e w4 ⟨cc, E', own', rfl, hAd, hG4, s4, d4⟩; obtain ⟨rfl, rfl⟩ := added_ring hAd hsa hsa (.inl rfl); have HE2 := edgesG_any hG4; clear HA))
      | (go_at_call 16; go_must (refine HQ.mono ?_; rintro e w7 ⟨rfl, n7, rfl⟩))
      | fail)
    go_ret
    have z1 := c1.size
    exact ⟨rfl, ((((c1.tr c2).tr c3).to_own d4 (fun j e => by have := (ho j e).1; omega)).tr (c5.tr (chg_drewN w5 n7))).below⟩
  · have hbe : (a == b) = false := by simp [hab]
    go_enter Try.func8, Try.ntmps8
    go_wp2_with (first
      | (go_at_call 9; go_must (refine HK.mono ?_; rintro e w1 ⟨rfl, c1⟩; have HM := made_any ws ad cap w1 hl (HZ.out.keep c1) hok; clear HK))
      | (go_at_call 19; go_must (refine HM.mono ?_; rintro e w2 ⟨p, own, E, rfl, hG, ho, c2⟩; have HE1 := edgesG_any hG; clear HM))
      | (go_at_call 12; go_must (first | (refine (HPa _).mono ?_; rintro e w2 ⟨rfl, rfl⟩; clear HPa) | (refine (HPb _).mono ?_; rintro e w2 ⟨rfl, rfl⟩)))
      | (go_at_call 17; go_must (refine HE1.mono ?_; rintro e w3 ⟨v, l, rfl, hv, hL, c3⟩; obtain ⟨al, cl, rfl, hA, hAb⟩ := hv.at_; have HW := ways_forth l al cl b w3 (elist_len hL hG.sec) hA (elist_sec hL hG.sec); clear HE1))
      | (go_at_call 25; go_must (refine HW.mono ?_; rintro e w4 ⟨gs, s, rfl, hgs, hbs, hway, c4⟩; have hsc := hbs.cell (j := a.toNat) (by omega); have hrb := (hway a hsa).trans (dir_way hL b a); generalize s.getD a.toNat false = rb at hsc hrb; clear HW hway))
      | fail)
    have hG4 := (hG.call c3).call c4
    have hll := elist_len hL hG.sec
    have z1 := c1.size
    have z3 := c3.size
    have z4 := c4.size
    have C4 : Chg w w4 No := ((c1.tr c2).tr c3).tr c4
    have hA4 := hA.call c4
    refine (addG_any a b hG4 hIa hIb).mono ?_
    rintro e w5 ⟨cc, E', own', rfl, hAd, hG5, s5, d5⟩
    have hA5 : EAt w5 al l := hA4.keep d5 (fun g e k => by have := hAb g e; have := (ho g k).2; omega)
    have C5 := C4.to_own d5 (fun j e => by have := (ho j e).1; omega)
    have HE2 := edgesG_any hG5
    by_cases hr : Reach E b a
    · obtain ⟨rfl, rfl⟩ := added_ring hAd hsa hsb hr
      obtain rfl : rb = true := hrb.2 (hr.elim (fun e => absurd e.symm hab) (fun e => e))
      clear hA hA4 hrb
      go_wp2_with (first
        | (go_at_call 17; go_must (refine HE2.mono ?_; rintro e w6 ⟨v2, l2, rfl, hv2, hL2, c6⟩; obtain rfl := elist_one hL2 hL; obtain ⟨a2, ca2, rfl, hA2, hA2b⟩ := hv2.at_; have HQ := edges_any l2 al a2 cl ca2 w6 (by omega) (hA5.call c6) hA2; clear HE2))
        | (go_at_call 16; go_must (refine HQ.mono ?_; rintro e w7 ⟨rfl, n7, rfl⟩))
        | fail)
      go_ret
      exact ⟨rfl, (C5.tr (c6.tr (chg_drewN w6 n7))).below⟩
    · obtain ⟨rfl, rfl⟩ := added_ok hAd hsa hsb hr
      obtain rfl : rb = false := by
        cases rb
        · rfl
        · exact absurd (.inr (hrb.1 rfl)) hr
      clear hA hA4 hrb
      go_wp2_with (first
        | (go_at_call 17; go_must (refine HE2.mono ?_; rintro e w6 ⟨v2, l2, rfl, hv2, hL2, c6⟩; obtain ⟨a2, ca2, rfl, hA2, hA2b⟩ := hv2.at_; clear HE2))
        | fail)
      have hsecA : InSec (addE E a b) := inSec_add hG.sec hsa hsb
      have hll2 := elist_len hL2 hsecA
      have hbu := bu_add hL hL2
      have hmem : (a, b) ∈ l2 := (hL2.2 (a, b)).2 (.inl ⟨rfl, rfl⟩)
      have hmet := met_all hmem
      have hA6 := hA5.call c6
      have C6 := C5.tr c6
      have hgd := guardE
      have HX := hid (And.intro C6 (And.intro hbu (And.intro hmet (And.intro hL hL2))))
      clear hv hv2 hL hL2 hA5 hG hG4 hG5 C4 C5 C6 hbu hmet hmem c1 c2 c3 c4 d5 c6 ho s5 hAd hbs hsc hAb hA2b HPb
      generalize hN2 : l2.length = N2 at *
      generalize hN1 : l.length = N1 at *
      go_loopw [13, 14, 15] (fun t v i wr => ∃ (k : Nat) (wq : World), wq = wr ∧ k ≤ N2 ∧ t = .bool (met (a, b) l2 k) ∧ i = .int .i64 k ∧ Edgs wq w6.heap.size v (bu (a, b) (l2.take k)) ∧ Chg w6 wq No) (fun _ _ i _ => N2 - (intOf i).toNat)
      case atStart => exact ⟨0, _, rfl, by omega, by simp [met], rfl, edgs_nil _ _, Chg.refl _ _⟩
      case round =>
        obtain ⟨k, wA, rfl, hk, rfl, rfl, hrow, hc⟩ := hrel
        have hwl : (bu (a, b) (l2.take k)).length ≤ 16777216 := Nat.le_trans (bu_len _ _) (by simp; omega)
        have hsz := hc.size
        by_cases hlt : k < N2
        · rcases hA2.call hc with h0 | ⟨g1, rfl, hg1, h1⟩
          · rw [h0] at hN2; simp at hN2; omega
          obtain ⟨p1, q1⟩ := EAt.cells h1 (k := k) (by omega)
          have htk := bu_take (l := l2) (k := k) (by omega) (a, b)
          have hmt := met_take (l := l2) (k := k) (by omega) (a, b)
          generalize edK l2 k = u at *
          have hi0 : (0 : Int) ≤ (k : Int) := by omega
          have hi1 : (k : Int) < (N2 : Int) := by omega
          have hrowA := row_keep hrow (Chg.alloc wA (.cells #[.int .i64 u.1, .int .i64 u.2] 52) No) (fun _ _ e => e)
          have hca : (wA.alloc (.cells #[.int .i64 u.1, .int .i64 u.2] 52)).cell? ⟨wA.heap.size, 0, none⟩ = some (.int .i64 u.1) := by rw [cell_of_row _ _ _ _ _ _ (heap_alloc_new _ _)]; rfl
          have hcb : (wA.alloc (.cells #[.int .i64 u.1, .int .i64 u.2] 52)).cell? ⟨wA.heap.size, 1, none⟩ = some (.int .i64 u.2) := by rw [cell_of_row _ _ _ _ _ _ (heap_alloc_new _ _)]; rfl
          have heq := eqE u.1 u.2 a b
          have Hrow := hid hrow
          clear h1 hrow
          generalize met (a, b) l2 k = mk at *
          change bu (a, b) (l2.take (k + 1)) = if (u.1 == a && u.2 == b) = true then _ else _ at htk
          change met (a, b) l2 (k + 1) = (mk || (u.1 == a && u.2 == b)) at hmt
          cases hB : (u.1 == a && u.2 == b) with
          | true =>
            rw [hB] at heq htk hmt
            clear hB
            go_wp2_with fail
            go_roundw
            case rel => exact ⟨k + 1, _, rfl, by omega, by rw [hmt]; simp, by go_num, by rw [htk]; exact Hrow.out, hc⟩
            case measure => simp [intOf]; omega
          | false =>
            rw [hB] at heq htk hmt
            clear hB
            go_wp2_with (first
              | (at_builtin; go_must (refine wp_appE rfl _ _ rfl w6.heap.size wA.heap.size 1 _ _ u rfl rfl hrowA hca hcb (by omega) (by simp; omega) ?_; intro v8 w8 h81 h82 h83))
              | fail)
            have hc8 : Chg w6 w8 No := hc.trans ((Chg.alloc wA (.cells #[.int .i64 u.1, .int .i64 u.2] 52) No).trans h82 (c := fun k => w6.heap.size ≤ k) (fun _ _ e => e.elim) (fun j _ e => (row_ge hrowA e).1)) (fun _ _ e => e) (fun j hj e => by omega)
            go_roundw
            case rel => exact ⟨k + 1, _, rfl, by omega, by rw [hmt]; simp, by go_num, by rw [htk]; exact h81, hc8⟩
            case measure => simp [intOf]; omega
        · obtain rfl : k = N2 := by omega
          rw [← hN2, List.take_length] at hrow hwl
          obtain ⟨a3, ca3, rfl, hA3, _⟩ := hrow.at_
          have hmet := HX.out.2.2.1
          rw [hmet]
          have hA7 := hA6.call hc
          clear hrow hA6 hA2
          go_wp2_with fail
          go_loopw [16, 17] (fun v i wr => ∃ (k : Nat) (wq : World), wq = wr ∧ k ≤ N1 ∧ i = .int .i64 k ∧ Edgs wq wA.heap.size v (bu (a, b) (l.take k)) ∧ Chg wA wq No) (fun _ i _ => N1 - (intOf i).toNat)
          case atStart => exact ⟨0, _, rfl, by omega, rfl, edgs_nil _ _, Chg.refl _ _⟩
          case round =>
            obtain ⟨j, wB, rfl, hj, rfl, hrow, hcB⟩ := hrel
            have hwl1 : (bu (a, b) (l.take j)).length ≤ 16777216 := Nat.le_trans (bu_len _ _) (by simp; omega)
            have hszB := hcB.size
            by_cases hltj : j < N1
            · rcases hA7.call hcB with h0 | ⟨g1, rfl, hg1, h1⟩
              · rw [h0] at hN1; simp at hN1; omega
              obtain ⟨p1, q1⟩ := EAt.cells h1 (k := j) (by omega)
              have htk := bu_take (l := l) (k := j) (by omega) (a, b)
              generalize edK l j = u at *
              have hi0 : (0 : Int) ≤ (j : Int) := by omega
              have hi1 : (j : Int) < (N1 : Int) := by omega
              have hrowA := row_keep hrow (Chg.alloc wB (.cells #[.int .i64 u.1, .int .i64 u.2] 52) No) (fun _ _ e => e)
              have hca : (wB.alloc (.cells #[.int .i64 u.1, .int .i64 u.2] 52)).cell? ⟨wB.heap.size, 0, none⟩ = some (.int .i64 u.1) := by rw [cell_of_row _ _ _ _ _ _ (heap_alloc_new _ _)]; rfl
              have hcb : (wB.alloc (.cells #[.int .i64 u.1, .int .i64 u.2] 52)).cell? ⟨wB.heap.size, 1, none⟩ = some (.int .i64 u.2) := by rw [cell_of_row _ _ _ _ _ _ (heap_alloc_new _ _)]; rfl
              have heq := eqE u.1 u.2 a b
              have Hrow := hid hrow
              clear h1 hrow
              change bu (a, b) (l.take (j + 1)) = if (u.1 == a && u.2 == b) = true then _ else _ at htk
              cases hB : (u.1 == a && u.2 == b) with
              | true =>
                rw [hB] at heq htk
                clear hB
                go_wp2_with fail
                go_roundw
                case rel => exact ⟨j + 1, _, rfl, by omega, by go_num, by rw [htk]; exact Hrow.out, hcB⟩
                case measure => simp [intOf]; omega
              | false =>
                rw [hB] at heq htk
                clear hB
                go_wp2_with (first
                  | (at_builtin; go_must (refine wp_appE rfl _ _ rfl wA.heap.size wB.heap.size 1 _ _ u rfl rfl hrowA hca hcb (by omega) (by simp; omega) ?_; intro v8 w8 h81 h82 h83))
                  | fail)
                have hc8 : Chg wA w8 No := hcB.trans ((Chg.alloc wB (.cells #[.int .i64 u.1, .int .i64 u.2] 52) No).trans h82 (c := fun k => wA.heap.size ≤ k) (fun _ _ e => e.elim) (fun j _ e => (row_ge hrowA e).1)) (fun _ _ e => e) (fun j hj e => by omega)
                go_roundw
                case rel => exact ⟨j + 1, _, rfl, by omega, by go_num, by rw [htk]; exact h81, hc8⟩
                case measure => simp [intOf]; omega
            · obtain rfl : j = N1 := by omega
              rw [← hN1, List.take_length, ← HX.out.2.1] at hrow
              obtain ⟨a4, ca4, rfl, hA4, _⟩ := hrow.at_
              have HQ := edges_any (bu (a, b) l2) a3 a4 ca3 ca4 wB (by omega) (hA3.call hcB) hA4
              clear hrow hA4 hA3 hA7
              go_wp2_with (first
                | (go_at_call 16; go_must (refine HQ.mono ?_; rintro e w9 ⟨rfl, n9, rfl⟩))
                | fail)
              go_ret
              exact ⟨rfl, (((HX.out.1.tr hc).tr hcB).tr (chg_drewN wB n9)).below⟩

end Go.Proofs.Ytjnafcogdakbbaa
