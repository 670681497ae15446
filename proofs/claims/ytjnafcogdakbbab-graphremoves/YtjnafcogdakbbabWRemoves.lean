/-
  GraphRemoves, walked: Remove takes just the edges of that sector.
-/
import Derived.Test.YtjnafcogdakbbabLawK
import Derived.Test.YtjnafcogdakbbabLawM
import Derived.Test.YtjnafcogdakbbabLawE
namespace Go.Proofs.Ytjnafcogdakbbab
open Go.RowKit

theorem pickN_sec (n : Int) : Sec (pickN n 4096) := pickN_bd n (by omega)
theorem removed_ok {E E' : Int → Int → Prop} {n c : Int} (h : Removed E n c E') (hn : Sec n) : c = 0 ∧ E' = delE E n := by
  rcases h with ⟨k, _⟩ | ⟨_, h1, h2⟩
  · exact absurd hn k
  · exact ⟨h1, h2⟩
/-- The edges that have nothing to do with m. -/
def wo (m : Int) (l : List (Int × Int)) : List (Int × Int) := l.filter fun x => decide (x.1 ≠ m) && decide (x.2 ≠ m)
theorem wo_list {E : Int → Int → Prop} {l : List (Int × Int)} (h : EList E l) (m : Int) : EList (delE E m) (wo m l) := by
  refine ⟨h.1.filter _, fun x => ?_⟩
  unfold wo delE
  rw [List.mem_filter, h.2]
  simp
theorem wo_take {l : List (Int × Int)} {k : Nat} (hk : k < l.length) (m : Int) : wo m (l.take (k + 1)) = if (edK l k).1 ≠ m ∧ (edK l k).2 ≠ m then wo m (l.take k) ++ [edK l k] else wo m (l.take k) := by
  have e : edK l k = l[k] := by simp [edK, hk]
  unfold wo
  rw [List.take_succ_eq_append_getElem hk, List.filter_append, e]
  by_cases h : (l[k]).1 ≠ m ∧ (l[k]).2 ≠ m
  · rw [if_pos h]
    simp [h.1, h.2]
  · rw [if_neg h]
    simp
    intro k1
    exact Classical.byContradiction fun k2 => h ⟨k1, k2⟩
theorem len0 (a : Option Addr) (c : Nat) (w : World) : (Builtin.len_ #[35] 3 #[.slice a 0 c]).run Try.prog w = .ok (.int .i64 0) w := by
  simp [Builtin.len_, run_underlying Try.underlying35, goInt]
theorem wo_len (m : Int) (l : List (Int × Int)) : (wo m l).length ≤ l.length := List.length_filter_le _ _
theorem elist_len {E : Int → Int → Prop} {l : List (Int × Int)} (h : EList E l) (hs : InSec E) : l.length ≤ 16777216 :=
  edges_len l (h.1.imp fun {a b} k e => by subst e; unfold ltE at k; omega) fun x hx => hs _ _ ((h.2 x).1 hx)

set_option maxRecDepth 100000 in
set_option maxHeartbeats 4000000 in
theorem removes_walk (ws : List StV) (ad : Option Addr) (cap : Nat) (n : Int) (w : World) (hl : ws.length ≤ 140737488355328) (hz : ScriptAt w ad ws) (hok : ∀ s, s ∈ ws → s.OK) (hn : I64 n) :
    Calls Try.prog 3 #[.slice ad ws.length cap, .int .i64 n] w fun e w' => e = .returned (.bool true) ∧ Below w.heap.size w w' := by
  have HK := known_any w
  have HP := fun w => pick_any n 4096 w hn (by omega) (by omega)
  have hsm := pickN_sec n
  generalize pickN n 4096 = m at *
  have hIm := hsm.i64
  have hm0 := hsm.1
  have hm1 := hsm.2
  have HZ := hid hz
  clear hz
  go_enter Try.func3, Try.ntmps3
  go_wp2_with (first
    | (go_at_call 5; go_must (refine HK.mono ?_; rintro e w1 ⟨rfl, c1⟩; have HM := made_any ws ad cap w1 hl (HZ.out.keep c1) hok; clear HK))
    | (go_at_call 6; go_must (refine HM.mono ?_; rintro e w2 ⟨p, own, E, rfl, hG, ho, c2⟩; have HE1 := edgesG_any hG; clear HM))
    | (go_at_call 7; go_must (refine (HP _).mono ?_; rintro e w2 ⟨rfl, rfl⟩))
    | (go_at_call 8; go_must (first
        | (refine HE1.mono ?_; rintro e w3 ⟨v, l, rfl, hv, hL, c3⟩; obtain ⟨a, ca, rfl, hA, hAb⟩ := hv.at_; have HR := removeG_any m (hG.call c3); clear HE1)
        | (refine HE2.mono ?_; rintro e w5 ⟨v2, l2, rfl, hv2, hL2, c5⟩; obtain ⟨a2, ca2, rfl, hA2, hA2b⟩ := hv2.at_; clear HE2)))
    | (go_at_call 9; go_must (refine HR.mono ?_; rintro e w4 ⟨cc, E', rfl, hRm, hG4, c4⟩; obtain ⟨rfl, rfl⟩ := removed_ok hRm hsm; have HE2 := edgesG_any hG4; clear HR))
    | go_in)
  have z1 := c1.size
  have z2 := c2.size
  have z3 := c3.size
  have z4 := c4.size
  have z5 := c5.size
  have C5 : Chg w w5 No := (((c1.trans c2 (c := No) (fun _ _ e => e) (fun _ _ e => e)).trans c3 (c := No) (fun _ _ e => e) (fun _ _ e => e)).trans c4 (c := No) (fun _ _ e => e) (fun j hj e => by have := (ho j e).1; omega)).trans c5 (fun _ _ e => e) (fun _ _ e => e)
  have hAA : EAt w5 a l := (hA.keep c4 (fun g e k => by have := hAb g e; have := (ho g k).2; omega)).call c5
  have hG5 := hG4.call c5
  have hll := elist_len hL hG.sec
  have hWL := wo_list hL m
  obtain rfl := elist_one hL2 hWL
  have HX := hid (And.intro hG5 (And.intro hA2 (And.intro hL (And.intro hG (And.intro ho (And.intro C5 hAb))))))
  clear hA hG hG4 hG5 hA2 hL hL2 hv hv2 ho c1 c2 c3 c4 c5 C5 hWL hA2b hAb hRm
  generalize hLL : l.length = N at *
  go_loopw [10, 11] (fun v i wr => ∃ (k : Nat) (wq : World), wq = wr ∧ k ≤ N ∧ i = .int .i64 k ∧ Edgs wq w5.heap.size v (wo m (l.take k)) ∧ Chg w5 wq No) (fun _ i _ => N - (intOf i).toNat)
  case atStart => exact ⟨0, _, rfl, by omega, rfl, edgs_nil _ _, Chg.refl _ _⟩
  case round =>
    obtain ⟨k, wA, rfl, hk, rfl, hrow, hc⟩ := hrel
    have hwl : (wo m (l.take k)).length ≤ 16777216 := Nat.le_trans (wo_len _ _) (by simp; omega)
    have hsz := hc.size
    by_cases hlt : k < N
    · rcases hAA.call hc with h0 | ⟨g1, rfl, hg1, h1⟩
      · rw [h0] at hLL; simp at hLL; omega
      obtain ⟨p1, q1⟩ := EAt.cells h1 (k := k) (by omega)
      have htk := wo_take (l := l) (k := k) (by omega) m
      generalize edK l k = y at *
      have hi0 : (0 : Int) ≤ (k : Int) := by omega
      have hi1 : (k : Int) < (N : Int) := by omega
      have hrowA := row_keep hrow (Chg.alloc wA (.cells #[.int .i64 y.1, .int .i64 y.2] 32) No) (fun _ _ e => e)
      have hca : (wA.alloc (.cells #[.int .i64 y.1, .int .i64 y.2] 32)).cell? ⟨wA.heap.size, 0, none⟩ = some (.int .i64 y.1) := by rw [cell_of_row _ _ _ _ _ _ (heap_alloc_new _ _)]; rfl
      have hcb : (wA.alloc (.cells #[.int .i64 y.1, .int .i64 y.2] 32)).cell? ⟨wA.heap.size, 1, none⟩ = some (.int .i64 y.2) := by rw [cell_of_row _ _ _ _ _ _ (heap_alloc_new _ _)]; rfl
      have Hrow := hid hrow
      clear h1 hrow
      by_cases hy : y.1 ≠ m ∧ y.2 ≠ m
      · rw [if_pos hy] at htk
        obtain ⟨hy1, hy2⟩ := hy
        have hb1 : (y.1 == m) = false := by simp [hy1]
        have hb2 : (y.2 == m) = false := by simp [hy2]
        have hb3 : (y.1 != m) = true := by simp [hy1]
        have hb4 : (y.2 != m) = true := by simp [hy2]
        go_wp2_with (first
          | (at_builtin; go_must (refine wp_appE rfl _ _ rfl w5.heap.size wA.heap.size 1 _ _ y rfl rfl hrowA hca hcb (by omega) (by simp; omega) ?_; intro v6 w6 h61 h62 h63))
          | go_in)
        have hc6 : Chg w5 w6 No := hc.trans ((Chg.alloc wA (.cells #[.int .i64 y.1, .int .i64 y.2] 32) No).trans h62 (c := fun k => w5.heap.size ≤ k) (fun _ _ e => e.elim) (fun j _ e => (row_ge hrowA e).1)) (fun _ _ e => e) (fun j hj e => by omega)
        go_roundw
        case rel => exact ⟨k + 1, _, rfl, by omega, by go_num, by rw [htk]; exact h61, hc6⟩
        case measure => simp [intOf]; omega
      · rw [if_neg hy] at htk
        by_cases hy1 : y.1 = m
        · go_wp2_with fail
          go_roundw
          case rel => exact ⟨k + 1, _, rfl, by omega, by go_num, by rw [htk]; exact Hrow.out, hc⟩
          case measure => simp [intOf]; omega
        · have hy2 : y.2 = m := Classical.byContradiction fun e => hy ⟨hy1, e⟩
          go_wp2_with fail
          go_roundw
          case rel => exact ⟨k + 1, _, rfl, by omega, by go_num, by rw [htk]; exact Hrow.out, hc⟩
          case measure => simp [intOf]; omega
    · obtain rfl : k = N := by omega
      rw [← hLL, List.take_length] at hrow hwl
      obtain ⟨a3, ca3, rfl, hA3, _⟩ := hrow.at_
      obtain ⟨hG5, hA2, hL, hG, ho, C5, hAb⟩ := HX.out
      have HQ := edges_any (wo m l) a2 a3 ca2 ca3 wA (by omega) (hA2.call hc) hA3
      have HF := fun n => free_any m ((hG5.call hc).call (chg_drewN wA n)) hIm
      have HB := fun n => before_any m ((hG5.call hc).call (chg_drewN wA n)) hIm
      have hl0 := len0
      clear hrow hAA hA3 hA2 hL hG ho hG5
      go_wp2_with (first
        | (go_at_call 10; go_must (refine HQ.mono ?_; rintro e w7 ⟨rfl, n7, rfl⟩))
        | (go_at_call 11; go_must (refine (HF _).mono ?_; rintro e w8 ⟨r8, rfl, q8, rfl⟩; obtain rfl : r8 = true := q8.2 (fun a h => h.2.2 rfl)))
        | (go_at_call 12; go_must (refine (HB _).mono ?_; rintro e w9 ⟨v9, l9, rfl, hv9, hb9, c9⟩; obtain rfl : l9 = [] := blist_eq hb9 List.Pairwise.nil (fun x => by simp; exact fun hx hr => hr.elim hx (fun k => by obtain ⟨_, k⟩ := k.last; exact k.2.2 rfl)); obtain ⟨a9, ca9, rfl⟩ := row_shape hv9))
        | go_in)
      go_ret
      exact ⟨rfl, (((C5.trans hc (c := No) (fun _ _ e => e) (fun _ _ e => e)).trans (chg_drewN wA n7) (c := No) (fun _ _ e => e) (fun _ _ e => e)).trans c9 (c := No) (fun _ _ e => e) (fun _ _ e => e)).below⟩

end Go.Proofs.Ytjnafcogdakbbab
