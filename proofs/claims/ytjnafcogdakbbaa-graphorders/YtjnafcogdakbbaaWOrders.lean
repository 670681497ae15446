/-
  GraphOrders, walked: free ones removed again and again, all edges go, each sector behind all that reached it.
-/
import Derived.Test.YtjnafcogdakbbaaWWays
import Derived.Test.YtjnafcogdakbbaaIntsIn
namespace Go.Proofs.Ytjnafcogdakbbaa
open Go.RowKit

/-- The edges that have nothing to do with m. -/
def but (m : Int) (l : List (Int × Int)) : List (Int × Int) := l.filter fun x => decide (x.1 ≠ m) && decide (x.2 ≠ m)
theorem but_list {E : Int → Int → Prop} {l : List (Int × Int)} (h : EList E l) (m : Int) : EList (delE E m) (but m l) := by
  refine ⟨h.1.filter _, fun x => ?_⟩
  unfold but delE
  rw [List.mem_filter, h.2]
  simp
theorem but_lt {l : List (Int × Int)} {m d : Int} (h : (m, d) ∈ l) : (but m l).length < l.length := by
  unfold but
  exact List.length_filter_lt_length_iff_exists.2 ⟨(m, d), h, by simp⟩
/-- What is left when some were removed. -/
def Left (E0 : Int → Int → Prop) (gone : List Int) (E : Int → Int → Prop) : Prop := (∀ x y, E x y ↔ E0 x y ∧ x ∉ gone ∧ y ∉ gone) ∧ ∀ g, g ∈ gone → ∀ x, Way E0 x g → x ∈ gone
theorem Left.before {E0 E : Int → Int → Prop} {gone : List Int} {n : Int} (h : Left E0 gone E) (hn : n ∉ gone) (hf : ∀ x, ¬ E x n) {x : Int} (hx : Way E0 x n) : x ∈ gone := by
  have key : ∀ c, E0 c n → c ∈ gone := fun c hc => Classical.byContradiction fun k => hf c ((h.1 c n).2 ⟨hc, k, hn⟩)
  have : ∀ a b, Way E0 a b → b = n → a ∈ gone := fun a b hab => by
    induction hab with
    | one h1 => intro e; subst e; exact key _ h1
    | more h1 h2 ih => intro e; exact h.2 _ (ih e) _ (.one h1)
  exact this x n hx rfl
theorem Left.next {E0 E : Int → Int → Prop} {gone : List Int} {n : Int} (h : Left E0 gone E) (hb : ∀ x, Way E0 x n → x ∈ gone) : Left E0 (gone ++ [n]) (delE E n) := by
  refine ⟨fun x y => ?_, fun g hg x hx => ?_⟩
  · unfold delE
    rw [h.1]
    simp only [List.mem_append, List.mem_singleton, not_or]
    constructor
    · rintro ⟨⟨h1, h2, h3⟩, h4, h5⟩
      exact ⟨h1, ⟨h2, h4⟩, h3, h5⟩
    · rintro ⟨h1, ⟨h2, h4⟩, h3, h5⟩
      exact ⟨⟨h1, h2, h3⟩, h4, h5⟩
  · rw [List.mem_append, List.mem_singleton] at hg
    rw [List.mem_append]
    rcases hg with k | rfl
    · exact .inl (h.2 g k x hx)
    · exact .inl (hb x hx)

set_option maxRecDepth 100000 in
set_option maxHeartbeats 4000000 in
theorem orders_walk (ws : List StV) (ad : Option Addr) (cap : Nat) (ts : List Int) (at_ : Option Addr) (ct : Nat) (w : World) (hl : ws.length ≤ 140737488355328) (hz : ScriptAt w ad ws) (hok : ∀ s, s ∈ ws → s.OK)
    (hlt : ts.length ≤ 140737488355328) (hzt : IntsAt w at_ ts) (hokt : ∀ x, x ∈ ts → I64 x) :
    Calls Try.prog 6 #[.slice ad ws.length cap, .slice at_ ts.length ct] w fun e w' => e = .returned (.bool true) ∧ Below w.heap.size w w' := by
  have HK := known_any w
  have HZ := hid hz
  have HT := hid hzt
  clear hz hzt
  generalize hNt : ts.length = Nt at *
  go_enter Try.func6, Try.ntmps6
  go_wp2_with (first
    | (go_at_call 9; go_must (refine HK.mono ?_; rintro e w1 ⟨rfl, c1⟩; have HM := made_any ws ad cap w1 hl (HZ.out.keep c1) hok; clear HK))
    | (go_at_call 19; go_must (refine HM.mono ?_; rintro e w2 ⟨p, own, E0, rfl, hG, ho, c2⟩; have HE1 := edgesG_any hG; clear HM))
    | (go_at_call 17; go_must (refine HE1.mono ?_; rintro e w3 ⟨v, l0, rfl, hv, hL0, c3⟩; obtain ⟨al, cl, rfl, hA, hAb⟩ := hv.at_; clear HE1))
    | fail)
  have C3 : Chg w w3 No := (c1.tr c2).tr c3
  have hG3 := hG.call c3
  have hll := elist_len hL0 hG.sec
  have hSec0 := hG.sec
  have z1 := c1.size
  have z2 := c2.size
  have z3 := c3.size
  have how : ∀ k, own k → w.heap.size ≤ k ∧ k < w2.heap.size := fun k hk => by have := ho k hk; omega
  have HX := hid (And.intro how hAb)
  have hAl3 : ∀ g, al = some ⟨g, 0, none⟩ → g < w3.heap.size := fun g e => by
    subst e
    exact (row_ge hv rfl).2
  have HS := hid (And.intro C3 (And.intro hG3 hA))
  clear hv hA hG hG3 c1 c2 c3 C3 ho hAb
  generalize hN : l0.length = N at *
  go_loopw [8, 9] (fun v i wr => ∃ (t : Nat) (gone : List Int) (Et : Int → Int → Prop) (lt : List (Int × Int)) (wq : World), wq = wr ∧ i = .int .i64 t ∧ Ints wq w3.heap.size v gone ∧ IsG wq p own Et ∧ EAt wq al l0 ∧ Left E0 gone Et ∧ EList Et lt ∧ lt.length + t ≤ N ∧ Chg w wq No ∧ (∀ x, x ∈ gone → Sec x) ∧ gone.length = t ∧ w3.heap.size ≤ wq.heap.size) (fun _ i _ => N + 1 - (intOf i).toNat)
  case atStart => exact ⟨0, [], E0, l0, _, rfl, rfl, ints_nil _ _, HS.out.2.1, HS.out.2.2, ⟨fun x y => by simp, fun g hg => by simp at hg⟩, hL0, by omega, HS.out.1, fun x hx => by simp at hx, rfl, Nat.le_refl _⟩
  case round =>
    obtain ⟨t, gone, Et, lt, wA, rfl, rfl, hrow, hG, hA, hLe, hLt, htN, hc, hgs, hgl, hzA⟩ := hrel
    have HE := edgesG_any hG
    have hSec := hG.sec
    have hNR := hG.ring
    have hLl := elist_len hLt hSec
    have ht0 : (t : Int) ≤ (N : Int) := by omega
    by_cases hemp : lt.length = 0
    · have hlE0 := lenE0
      have HH := hid (And.intro hrow (And.intro hG hA))
      clear hrow hG hA
      go_wp2_with (first
        | (go_at_call 17; go_must (refine HE.mono ?_; rintro e w4 ⟨v4, l4, rfl, hv4, hL4, c4⟩; obtain rfl := elist_one hL4 hLt; obtain ⟨a4, ca4, rfl, hA4, _⟩ := hv4.at_; rw [hemp]))
        | fail)
      go_ret
      exact ⟨rfl, (hc.tr c4).below⟩
    · have hne : ((lt.length : Int) == 0) = false := by rw [beq_eq_false_iff_ne]; omega
      have HH := hid (And.intro hrow (And.intro hG (And.intro hA hc)))
      clear hrow hG hA hc
      go_wp2_with (first
        | (go_at_call 17; go_must (refine HE.mono ?_; rintro e w4 ⟨v4, l4, rfl, hv4, hL4, c4⟩; obtain rfl := elist_one hL4 hLt; obtain ⟨a4, ca4, rfl, hA4, _⟩ := hv4.at_))
        | fail)
      have HV := hid (And.intro hA4 c4)
      have z4 := c4.size
      clear hA4 c4 hv4 hL4 HE
      generalize hMl : l4.length = Ml at *
      have hG4 := HH.out.2.1.call HV.out.2
      go_loopw [11, 12] (fun v i wr => ∃ (k : Nat) (can : List Int) (wq : World), wq = wr ∧ k ≤ Ml ∧ i = .int .i64 k ∧ Ints wq w4.heap.size v can ∧ (∀ x, x ∈ can → (∃ y, Et x y) ∧ ∀ z, ¬ Et z x) ∧ (∀ j, j < k → (∀ z, ¬ Et z (edK l4 j).1) → (edK l4 j).1 ∈ can) ∧ can.length ≤ k ∧ Chg w4 wq No) (fun _ i _ => Ml - (intOf i).toNat)
      case atStart => exact ⟨0, [], _, rfl, by omega, rfl, ints_nil _ _, fun x hx => by simp at hx, fun j hj => by omega, by simp, Chg.refl _ _⟩
      case round =>
        obtain ⟨k, can, wB, rfl, hk, rfl, hcan, hc1, hc2, hcl, hcB⟩ := hrel
        have hzB := hcB.size
        by_cases hltk : k < Ml
        · rcases HV.out.1.call hcB with h0 | ⟨g1, rfl, hg1, h1⟩
          · rw [h0] at hMl; simp at hMl; omega
          obtain ⟨p1, q1⟩ := EAt.cells h1 (k := k) (by omega)
          have hmem : edK l4 k ∈ l4 := by
            have e : edK l4 k = l4[k]'(by omega) := by simp [edK, show k < l4.length by omega]
            rw [e]; exact List.getElem_mem _
          have hEy : Et (edK l4 k).1 (edK l4 k).2 := (hLt.2 _).1 hmem
          have hsy := (hSec _ _ hEy).1
          have hstep : ∀ (can' : List Int), (∀ z, z ∈ can → z ∈ can') → ((∀ z, ¬ Et z (edK l4 k).1) → (edK l4 k).1 ∈ can') → ∀ j, j < k + 1 → (∀ z, ¬ Et z (edK l4 j).1) → (edK l4 j).1 ∈ can' := fun can' s1 s2 j hj hf => by
            rcases Nat.lt_or_ge j k with c | c
            · exact s1 _ (hc2 j c hf)
            · obtain rfl : j = k := by omega
              exact s2 hf
          generalize edK l4 k = y at *
          have HF := free_any y.1 (hG4.call hcB) hsy.i64
          have hi0 : (0 : Int) ≤ (k : Int) := by omega
          have hi1 : (k : Int) < (Ml : Int) := by omega
          have hrowA := row_keep hcan (Chg.alloc wB (.cells #[.int .i64 y.1] 3) No) (fun _ _ e => e)
          have hcell := cell0 (heap_alloc_new wB (.cells #[.int .i64 y.1] 3))
          have Hcan := hid hcan
          have H1 := hid h1
          clear hcan h1
          go_wp2_with fail
          refine HF.mono ?_
          rintro e w5 ⟨r5, rfl, q5, rfl⟩
          have hi0 : (0 : Int) ≤ (k : Int) := by omega
          have hi1 : (k : Int) < (Ml : Int) := by omega
          cases r5 with
          | true =>
            have HFr := hid (q5.1 rfl)
            clear q5
            go_wp2_with (first
              | (at_builtin; go_must (refine wp_appI rfl _ _ rfl w4.heap.size wB.heap.size 1 _ can y.1 rfl rfl hrowA hcell (by omega) (by simp; omega) ?_; intro v6 w6 h61 h62 h63))
              | fail)
            have hc6 : Chg w4 w6 No := hcB.trans ((Chg.alloc wB (.cells #[.int .i64 y.1] 3) No).trans h62 (c := fun k => w4.heap.size ≤ k) (fun _ _ e => e.elim) (fun j _ e => (row_ge hrowA e).1)) (fun _ _ e => e) (fun j hj e => by omega)
            go_roundw
            case rel =>
              refine ⟨k + 1, can ++ [y.1], _, rfl, by omega, by go_num, h61, fun x hx => ?_, hstep _ (fun z hz => by simp [hz]) (fun _ => by simp), by simp; omega, hc6⟩
              rw [List.mem_append, List.mem_singleton] at hx
              rcases hx with e | rfl
              · exact hc1 x e
              · exact ⟨⟨_, hEy⟩, HFr.out⟩
            case measure => simp [intOf]; omega
          | false =>
            have HFr := hid (fun h => absurd (q5.2 h) (by simp) : ¬ ∀ z, ¬ Et z y.1)
            clear q5
            go_wp2_with fail
            go_roundw
            case rel => exact ⟨k + 1, can, _, rfl, by omega, by go_num, Hcan.out, hc1, hstep _ (fun z hz => hz) (fun hf => absurd hf HFr.out), by omega, hcB⟩
            case measure => simp [intOf]; omega
        · obtain rfl : k = Ml := by omega
          have hpos : 0 < can.length := by
            have hE00 : Et (edK l4 0).1 (edK l4 0).2 := (hLt.2 _).1 (by
              have e : edK l4 0 = l4[0]'(by omega) := by simp [edK, show 0 < l4.length by omega]
              rw [e]; exact List.getElem_mem _)
            obtain ⟨c, d, hcd, hfree, _⟩ := free_one hNR hSec hE00
            obtain ⟨j, hj, e⟩ := List.mem_iff_getElem.1 ((hLt.2 (c, d)).2 hcd)
            have ee : edK l4 j = (c, d) := by simp [edK, hj, e]
            have := hc2 j (by omega) (by rw [ee]; exact hfree)
            exact List.length_pos_of_mem this
          obtain ⟨gc, cc, rfl, hgc, hgc2, hcells⟩ := row_cells hcan hpos
          generalize hLC : can.length = LC at *
          have hcn : ∀ j, j < LC → wB.cell? ⟨gc, j, none⟩ = some (.int .i64 (can.getD j 0)) := fun j hj => hcells j _ (by rw [List.getElem?_map, List.getElem?_eq_getElem (by omega), getD_lt (by omega)]; rfl)
          have hLC0 : ((LC : Int) == 0) = false := by rw [beq_eq_false_iff_ne]; omega
          have hGB := hG4.call hcB
          have CB : Chg w wB No := (HH.out.2.2.2.tr HV.out.2).tr hcB
          have hABl := (HH.out.2.2.1.call HV.out.2).call hcB
          have hgoneB := row_keep (row_keep HH.out.1 HV.out.2 (fun _ _ e => e)) hcB (fun _ _ e => e)
          have HCN := hid hcn
          clear hcan hcells hG4 hcn
          by_cases htw : t < Nt
          · have htw' : (t : Int) < (Nt : Int) := by omega
            rcases HT.out.call CB with h0 | ⟨bt, ot, rfl, hbt, hct⟩
            · rw [h0] at hNt; simp at hNt; omega
            have hcw := hct t (by omega)
            have hIw := hokt (ts.getD t 0) (by rw [getD_lt (by omega)]; exact List.getElem_mem _)
            generalize ts.getD t 0 = cv at hcw hIw
            have hti0 : (0 : Int) ≤ (t : Int) := by omega
            clear hct
            go_wp2_with fail
            obtain ⟨hp0, hp1⟩ := pickN_bd cv (n := (LC : Int)) (by omega)
            obtain ⟨jj, hjj⟩ : ∃ j : Nat, pickN cv (LC : Int) = (j : Int) := ⟨(pickN cv (LC : Int)).toNat, by omega⟩
            have HP := pick_any cv (LC : Int) wB hIw (by omega) (by omega)
            rw [hjj] at HP
            have hj1 : jj < LC := by omega
            refine HP.mono ?_
            rintro e w5 ⟨rfl, rfl⟩
            have hcj := HCN.out jj hj1
            have hnm : can.getD jj 0 ∈ can := by rw [getD_lt (by omega)]; exact List.getElem_mem _
            generalize can.getD jj 0 = n at hcj hnm
            obtain ⟨⟨nd, hnd⟩, hfree⟩ := hc1 n hnm
            have hsn := (hSec _ _ hnd).1
            have hn0 : 0 ≤ n := hsn.1
            have hn1 : n < 4096 := hsn.2
            have hji0 : (0 : Int) ≤ (jj : Int) := by omega
            have hji1 : (jj : Int) < (LC : Int) := by omega
            have hng : n ∉ gone := ((hLe.1 n nd).1 hnd).2.1
            have hbef : ∀ x, Way E0 x n → x ∈ gone := fun x hx => hLe.before hng hfree hx
            have HW := ways_back l0 al cl n wB (by omega) hABl (elist_sec hL0 hSec0)
            rw [hN] at HW
            clear HP hp0 hp1 hjj
            go_wp2_with (first
              | (go_at_call 25; go_must (refine HW.mono ?_; rintro e w6 ⟨g6, s6, rfl, hg6, hb6, hw6, c6⟩))
              | fail)
            obtain ⟨ag, cg, hvg⟩ := row_shape hgoneB
            subst hvg
            rw [hgl]
            have hz6 := c6.size
            have hgone6 := row_keep hgoneB c6 (fun _ _ e => e)
            have H6 := hid (And.intro (hGB.call c6) (And.intro (hABl.call c6) (And.intro (CB.tr c6) hgone6)))
            have hway6 : ∀ x, Sec x → (s6.getD x.toNat false = true ↔ Way E0 x n) := fun x hx => (hw6 x hx).trans (dir_back hL0 n x)
            clear hgone6 hGB hABl CB hgoneB HW hw6
            go_loopw [16] (fun i wr => ∃ (k : Nat) (s : List Bool) (wq : World), wq = wr ∧ k ≤ t ∧ i = .int .i64 k ∧ BoolsAt wq g6 s ∧ (∀ x, Sec x → (s.getD x.toNat false = true ↔ Way E0 x n ∧ x ∉ gone.take k)) ∧ Chg w6 wq (· = g6)) (fun i _ => t - (intOf i).toNat)
            case atStart => exact ⟨0, s6, _, rfl, by omega, rfl, hb6, fun x hx => by rw [hway6 x hx]; simp, Chg.refl _ _⟩
            case round =>
              obtain ⟨k, s, wC, rfl, hk3, rfl, hbC, hsC, hcC⟩ := hrel
              by_cases hlt3 : k < t
              · obtain ⟨gg, cgg, he, hgg, hgg2, hggc⟩ := row_cells H6.out.2.2.2 (by omega)
                rw [hgl] at he
                cases he
                have hgk : w6.cell? ⟨gg, k, none⟩ = some (.int .i64 (gone.getD k 0)) := hggc k _ (by rw [List.getElem?_map, List.getElem?_eq_getElem (by omega), getD_lt (by omega)]; rfl)
                have hggn : gg ≠ g6 := fun e => by
                  obtain ⟨cur, hcur⟩ := row_kind H6.out.2.2.2 (j := gg) rfl
                  rw [e, hb6.1] at hcur
                  cases hcur
                have hgkC := cell_keep hgk hcC hgg2 hggn
                have hxs : Sec (gone.getD k 0) := hgs _ (by rw [getD_lt (by omega)]; exact List.getElem_mem _)
                have htake : ∀ z, z ∈ gone.take (k + 1) ↔ z ∈ gone.take k ∨ z = gone.getD k 0 := fun z => by
                  rw [List.take_succ_eq_append_getElem (by omega), List.mem_append, List.mem_singleton, getD_lt (by omega)]
                generalize gone.getD k 0 = gx at *
                have hx0 : 0 ≤ gx := hxs.1
                have hx1 : gx < 4096 := hxs.2
                have hsc := hbC.cell (j := gx.toNat) (by omega)
                have hsf := hbC.free gx.toNat
                have hi0 : (0 : Int) ≤ (k : Int) := by omega
                have hi1 : (k : Int) < (t : Int) := by omega
                have HbC := hid hbC
                clear hbC hgk hggc
                go_wp2_with fail
                have hb9 := HbC.out.set gx.toNat false
                have hc9 : Chg wC (wC.setCell ⟨g6, gx.toNat, none⟩ (.bool false)) (· = g6) := Chg.setCell
                go_roundw
                case rel =>
                  refine ⟨k + 1, s.set gx.toNat false, _, rfl, by omega, by go_num, hb9, fun x hx => ?_, hcC.trans hc9 (fun _ _ e => e) (fun _ _ e => e)⟩
                  rw [htake]
                  by_cases e : x = gx
                  · subst e
                    rw [List.getD_eq_getElem?_getD, List.getElem?_set_self (by rw [HbC.out.2]; omega)]
                    simp
                  · have hne : gx.toNat ≠ x.toNat := by have := hx.1; omega
                    rw [List.getD_eq_getElem?_getD, List.getElem?_set_ne hne, ← List.getD_eq_getElem?_getD, hsC x hx]
                    simp [e]
                case measure => simp [intOf]; omega
              · obtain rfl : k = t := by omega
                have hall : ∀ j : Nat, j < 4096 → s.getD j false = false := fun j hj => by
                  have h1 := hsC (j : Int) ⟨by omega, by omega⟩
                  rw [Int.toNat_natCast] at h1
                  cases hv : s.getD j false
                  · rfl
                  · obtain ⟨h2, h3⟩ := h1.1 hv
                    rw [← hgl, List.take_length] at h3
                    exact absurd (hbef _ h2) h3
                obtain ⟨hG6, hA6, C6, hgone6⟩ := H6.out
                have hGC := hG6.keep hcC (fun j hj e => by have h2 := HX.out.1 j hj; omega)
                have hAC := hA6.keep hcC (fun g e k2 => by have h5 := hAl3 g e; omega)
                have hgoneC := row_keep hgone6 hcC (fun j hj e => by
                  obtain ⟨cur, hcur⟩ := row_kind hgone6 hj
                  rw [e, hb6.1] at hcur
                  cases hcur)
                have CC : Chg w wC No := C6.trans hcC (fun _ _ e => e) (fun j hj e => by omega)
                have HR := removeG_any n hGC
                have HbC := hid hbC
                have HCC := hid (And.intro hAC (And.intro hgoneC CC))
                have hzC := hcC.size
                clear hbC hG6 hA6 C6 hgone6 hGC hAC hgoneC CC
                go_wp2_with fail
                go_loopw [17] (fun i wr => ∃ (j : Nat), j ≤ 4096 ∧ i = .int .i64 j ∧ wC = wr) (fun i _ => 4096 - (intOf i).toNat)
                case atStart => exact ⟨0, by omega, rfl, rfl⟩
                case round =>
                  obtain ⟨j, hj4, rfl, rfl⟩ := hrel
                  by_cases hlt4 : j < 4096
                  · have hcell := HbC.out.cell (j := j) hlt4
                    rw [hall j hlt4] at hcell
                    have hi0 : (0 : Int) ≤ (j : Int) := by omega
                    have hi1 : (j : Int) < 4096 := by omega
                    go_wp2_with fail
                    go_roundw
                    case rel => exact ⟨j + 1, by omega, by go_num, by first | rfl | trivial⟩
                    case measure => simp [intOf]; omega
                  · obtain rfl : j = 4096 := by omega
                    obtain ⟨hAC, hgoneC, CC⟩ := HCC.out
                    go_wp2_with fail
                    refine HR.mono ?_
                    rintro e w8 ⟨c8, E8, rfl, hR8, hG8, d8⟩
                    obtain ⟨rfl, rfl⟩ := removed_ok hR8 hsn
                    have hgone8 := row_keep hgoneC d8 (fun j hj e => by have h2 := (row_ge hgoneC hj).1; have h3 := HX.out.1 j e; omega)
                    have hrowA := row_keep hgone8 (Chg.alloc w8 (.cells #[.int .i64 n] 3) No) (fun _ _ e => e)
                    have hrowB : Ints (w8.alloc (.cells #[.int .i64 n] 3)) w3.heap.size (.slice ag gone.length cg) gone := hrowA
                    rw [hgl] at hrowB
                    have hcellA := cell0 (heap_alloc_new w8 (.cells #[.int .i64 n] 3))
                    have hz8 := d8.size
                    have hA8 := hAC.keep d8 (fun g e k2 => by have h2 := HX.out.2 g e; have h3 := HX.out.1 g k2; omega)
                    have C8 := CC.to_own d8 (fun j e => (HX.out.1 j e).1)
                    clear hAC hgoneC CC hgone8
                    go_wp2_with (first
                      | (at_builtin; go_must (refine wp_appI rfl _ _ rfl w3.heap.size w8.heap.size 1 _ gone n rfl rfl hrowB hcellA (by omega) (by simp; omega) ?_; intro v10 w10 h101 h102 h103))
                      | fail)
                    have hc10 : Chg w8 w10 (fun j => w3.heap.size ≤ j) := (Chg.alloc w8 (.cells #[.int .i64 n] 3) No).trans h102 (fun _ _ e => e.elim) (fun j hj e => (row_ge hrowB e).1)
                    go_roundw
                    case rel =>
                      refine ⟨k + 1, gone ++ [n], delE Et n, but n l4, _, rfl, by go_num, h101, hG8.keep hc10 (fun k hk e => by have h2 := HX.out.1 k hk; omega), ?_, hLe.next hbef, but_list hLt n, ?_, C8.trans hc10 (fun _ _ e => e) (fun j hj e => by omega), fun x hx => ?_, by simp [hgl], by have := hc10.size; omega⟩
                      · exact hA8.keep hc10 (fun g e k2 => by have h2 := hAl3 g e; omega)
                      · have := but_lt ((hLt.2 (n, nd)).2 hnd)
                        omega
                      · rw [List.mem_append, List.mem_singleton] at hx
                        rcases hx with e | rfl
                        · exact hgs x e
                        · exact hsn
                    case measure => simp [intOf]; omega
          · have htw' : ¬ (t : Int) < (Nt : Int) := by omega
            have hIw : I64 (t : Int) := ⟨by omega, by omega⟩
            obtain ⟨cv, hcv⟩ : ∃ c : Int, c = (t : Int) := ⟨_, rfl⟩
            rw [← hcv] at hIw
            go_wp2_with fail
            rw [← hcv]
            obtain ⟨hp0, hp1⟩ := pickN_bd cv (n := (LC : Int)) (by omega)
            obtain ⟨jj, hjj⟩ : ∃ j : Nat, pickN cv (LC : Int) = (j : Int) := ⟨(pickN cv (LC : Int)).toNat, by omega⟩
            have HP := pick_any cv (LC : Int) wB hIw (by omega) (by omega)
            rw [hjj] at HP
            have hj1 : jj < LC := by omega
            refine HP.mono ?_
            rintro e w5 ⟨rfl, rfl⟩
            have hcj := HCN.out jj hj1
            have hnm : can.getD jj 0 ∈ can := by rw [getD_lt (by omega)]; exact List.getElem_mem _
            generalize can.getD jj 0 = n at hcj hnm
            obtain ⟨⟨nd, hnd⟩, hfree⟩ := hc1 n hnm
            have hsn := (hSec _ _ hnd).1
            have hn0 : 0 ≤ n := hsn.1
            have hn1 : n < 4096 := hsn.2
            have hji0 : (0 : Int) ≤ (jj : Int) := by omega
            have hji1 : (jj : Int) < (LC : Int) := by omega
            have hng : n ∉ gone := ((hLe.1 n nd).1 hnd).2.1
            have hbef : ∀ x, Way E0 x n → x ∈ gone := fun x hx => hLe.before hng hfree hx
            have HW := ways_back l0 al cl n wB (by omega) hABl (elist_sec hL0 hSec0)
            rw [hN] at HW
            clear HP hp0 hp1 hjj
            go_wp2_with (first
              | (go_at_call 25; go_must (refine HW.mono ?_; rintro e w6 ⟨g6, s6, rfl, hg6, hb6, hw6, c6⟩))
              | fail)
            obtain ⟨ag, cg, hvg⟩ := row_shape hgoneB
            subst hvg
            rw [hgl]
            have hz6 := c6.size
            have hgone6 := row_keep hgoneB c6 (fun _ _ e => e)
            have H6 := hid (And.intro (hGB.call c6) (And.intro (hABl.call c6) (And.intro (CB.tr c6) hgone6)))
            have hway6 : ∀ x, Sec x → (s6.getD x.toNat false = true ↔ Way E0 x n) := fun x hx => (hw6 x hx).trans (dir_back hL0 n x)
            clear hgone6 hGB hABl CB hgoneB HW hw6
            go_loopw [16] (fun i wr => ∃ (k : Nat) (s : List Bool) (wq : World), wq = wr ∧ k ≤ t ∧ i = .int .i64 k ∧ BoolsAt wq g6 s ∧ (∀ x, Sec x → (s.getD x.toNat false = true ↔ Way E0 x n ∧ x ∉ gone.take k)) ∧ Chg w6 wq (· = g6)) (fun i _ => t - (intOf i).toNat)
            case atStart => exact ⟨0, s6, _, rfl, by omega, rfl, hb6, fun x hx => by rw [hway6 x hx]; simp, Chg.refl _ _⟩
            case round =>
              obtain ⟨k, s, wC, rfl, hk3, rfl, hbC, hsC, hcC⟩ := hrel
              by_cases hlt3 : k < t
              · obtain ⟨gg, cgg, he, hgg, hgg2, hggc⟩ := row_cells H6.out.2.2.2 (by omega)
                rw [hgl] at he
                cases he
                have hgk : w6.cell? ⟨gg, k, none⟩ = some (.int .i64 (gone.getD k 0)) := hggc k _ (by rw [List.getElem?_map, List.getElem?_eq_getElem (by omega), getD_lt (by omega)]; rfl)
                have hggn : gg ≠ g6 := fun e => by
                  obtain ⟨cur, hcur⟩ := row_kind H6.out.2.2.2 (j := gg) rfl
                  rw [e, hb6.1] at hcur
                  cases hcur
                have hgkC := cell_keep hgk hcC hgg2 hggn
                have hxs : Sec (gone.getD k 0) := hgs _ (by rw [getD_lt (by omega)]; exact List.getElem_mem _)
                have htake : ∀ z, z ∈ gone.take (k + 1) ↔ z ∈ gone.take k ∨ z = gone.getD k 0 := fun z => by
                  rw [List.take_succ_eq_append_getElem (by omega), List.mem_append, List.mem_singleton, getD_lt (by omega)]
                generalize gone.getD k 0 = gx at *
                have hx0 : 0 ≤ gx := hxs.1
                have hx1 : gx < 4096 := hxs.2
                have hsc := hbC.cell (j := gx.toNat) (by omega)
                have hsf := hbC.free gx.toNat
                have hi0 : (0 : Int) ≤ (k : Int) := by omega
                have hi1 : (k : Int) < (t : Int) := by omega
                have HbC := hid hbC
                clear hbC hgk hggc
                go_wp2_with fail
                have hb9 := HbC.out.set gx.toNat false
                have hc9 : Chg wC (wC.setCell ⟨g6, gx.toNat, none⟩ (.bool false)) (· = g6) := Chg.setCell
                go_roundw
                case rel =>
                  refine ⟨k + 1, s.set gx.toNat false, _, rfl, by omega, by go_num, hb9, fun x hx => ?_, hcC.trans hc9 (fun _ _ e => e) (fun _ _ e => e)⟩
                  rw [htake]
                  by_cases e : x = gx
                  · subst e
                    rw [List.getD_eq_getElem?_getD, List.getElem?_set_self (by rw [HbC.out.2]; omega)]
                    simp
                  · have hne : gx.toNat ≠ x.toNat := by have := hx.1; omega
                    rw [List.getD_eq_getElem?_getD, List.getElem?_set_ne hne, ← List.getD_eq_getElem?_getD, hsC x hx]
                    simp [e]
                case measure => simp [intOf]; omega
              · obtain rfl : k = t := by omega
                have hall : ∀ j : Nat, j < 4096 → s.getD j false = false := fun j hj => by
                  have h1 := hsC (j : Int) ⟨by omega, by omega⟩
                  rw [Int.toNat_natCast] at h1
                  cases hv : s.getD j false
                  · rfl
                  · obtain ⟨h2, h3⟩ := h1.1 hv
                    rw [← hgl, List.take_length] at h3
                    exact absurd (hbef _ h2) h3
                obtain ⟨hG6, hA6, C6, hgone6⟩ := H6.out
                have hGC := hG6.keep hcC (fun j hj e => by have h2 := HX.out.1 j hj; omega)
                have hAC := hA6.keep hcC (fun g e k2 => by have h5 := hAl3 g e; omega)
                have hgoneC := row_keep hgone6 hcC (fun j hj e => by
                  obtain ⟨cur, hcur⟩ := row_kind hgone6 hj
                  rw [e, hb6.1] at hcur
                  cases hcur)
                have CC : Chg w wC No := C6.trans hcC (fun _ _ e => e) (fun j hj e => by omega)
                have HR := removeG_any n hGC
                have HbC := hid hbC
                have HCC := hid (And.intro hAC (And.intro hgoneC CC))
                have hzC := hcC.size
                clear hbC hG6 hA6 C6 hgone6 hGC hAC hgoneC CC
                go_wp2_with fail
                go_loopw [17] (fun i wr => ∃ (j : Nat), j ≤ 4096 ∧ i = .int .i64 j ∧ wC = wr) (fun i _ => 4096 - (intOf i).toNat)
                case atStart => exact ⟨0, by omega, rfl, rfl⟩
                case round =>
                  obtain ⟨j, hj4, rfl, rfl⟩ := hrel
                  by_cases hlt4 : j < 4096
                  · have hcell := HbC.out.cell (j := j) hlt4
                    rw [hall j hlt4] at hcell
                    have hi0 : (0 : Int) ≤ (j : Int) := by omega
                    have hi1 : (j : Int) < 4096 := by omega
                    go_wp2_with fail
                    go_roundw
                    case rel => exact ⟨j + 1, by omega, by go_num, by first | rfl | trivial⟩
                    case measure => simp [intOf]; omega
                  · obtain rfl : j = 4096 := by omega
                    obtain ⟨hAC, hgoneC, CC⟩ := HCC.out
                    go_wp2_with fail
                    refine HR.mono ?_
                    rintro e w8 ⟨c8, E8, rfl, hR8, hG8, d8⟩
                    obtain ⟨rfl, rfl⟩ := removed_ok hR8 hsn
                    have hgone8 := row_keep hgoneC d8 (fun j hj e => by have h2 := (row_ge hgoneC hj).1; have h3 := HX.out.1 j e; omega)
                    have hrowA := row_keep hgone8 (Chg.alloc w8 (.cells #[.int .i64 n] 3) No) (fun _ _ e => e)
                    have hrowB : Ints (w8.alloc (.cells #[.int .i64 n] 3)) w3.heap.size (.slice ag gone.length cg) gone := hrowA
                    rw [hgl] at hrowB
                    have hcellA := cell0 (heap_alloc_new w8 (.cells #[.int .i64 n] 3))
                    have hz8 := d8.size
                    have hA8 := hAC.keep d8 (fun g e k2 => by have h2 := HX.out.2 g e; have h3 := HX.out.1 g k2; omega)
                    have C8 := CC.to_own d8 (fun j e => (HX.out.1 j e).1)
                    clear hAC hgoneC CC hgone8
                    go_wp2_with (first
                      | (at_builtin; go_must (refine wp_appI rfl _ _ rfl w3.heap.size w8.heap.size 1 _ gone n rfl rfl hrowB hcellA (by omega) (by simp; omega) ?_; intro v10 w10 h101 h102 h103))
                      | fail)
                    have hc10 : Chg w8 w10 (fun j => w3.heap.size ≤ j) := (Chg.alloc w8 (.cells #[.int .i64 n] 3) No).trans h102 (fun _ _ e => e.elim) (fun j hj e => (row_ge hrowB e).1)
                    go_roundw
                    case rel =>
                      refine ⟨k + 1, gone ++ [n], delE Et n, but n l4, _, rfl, by go_num, h101, hG8.keep hc10 (fun k hk e => by have h2 := HX.out.1 k hk; omega), ?_, hLe.next hbef, but_list hLt n, ?_, C8.trans hc10 (fun _ _ e => e) (fun j hj e => by omega), fun x hx => ?_, by simp [hgl], by have := hc10.size; omega⟩
                      · exact hA8.keep hc10 (fun g e k2 => by have h2 := hAl3 g e; omega)
                      · have := but_lt ((hLt.2 (n, nd)).2 hnd)
                        omega
                      · rw [List.mem_append, List.mem_singleton] at hx
                        rcases hx with e | rfl
                        · exact hgs x e
                        · exact hsn
                    case measure => simp [intOf]; omega

end Go.Proofs.Ytjnafcogdakbbaa
