/-
  The document's graph: an edge that Add takes.
-/
import Derived.Test.YtfkommjpofpmbaaRef3
namespace Go.Proofs.Ytfkommjpofpmbaa
open Go.RowKit

variable {w : World} {r : Nat} {own : Nat → Prop} {E : Int → Int → Prop}

theorem eqE' (y : Int × Int) (p q : Int) (b : Bool) (h : (y.1 == p && y.2 == q) = b) : ∀ w : World, (Op.equalIn 10000 48 (.agg #[.int .i64 y.1, .int .i64 y.2]) (.agg #[.int .i64 p, .int .i64 q])).run Try.prog w = .ok b w := fun w => by rw [eqE, h]

set_option maxRecDepth 100000 in
set_option maxHeartbeats 4000000 in
theorem radd_ok (p q : Int) (h : IsR w r own E) (hp : Sec p) (hq : Sec q) (hR : ¬ Reach E q p) : Calls Try.prog 22 #[.pointer (some ⟨r, 0, none⟩), .int .i64 p, .int .i64 q] w (RPost w r own (Added E p q)) := by
  have HS := fun w => risSector_any p w
  have HT := fun w => risSector_any q w
  rw [(isSec_iff p).2 hp] at HS
  rw [(isSec_iff q).2 hq] at HT
  have HC := rreaches_any q p h
  obtain ⟨a, ca, l, h⟩ := h
  have hlen := elist_len h.list h.sec
  have hrl := slt h.me
  have HH := hid h
  have HP := hid (And.intro hp (And.intro hq hR))
  have hgd := guardE
  clear h
  generalize hN : l.length = N at *
  go_enter Try.func22, Try.ntmps22
  go_wp2_with (first
    | (go_at_call 34; go_must (first | (refine (HS _).mono ?_; rintro e w1 ⟨rfl, rfl⟩; clear HS) | (refine (HT _).mono ?_; rintro e w1 ⟨rfl, rfl⟩; clear HT)))
    | (go_at_call 23; go_must (refine HC.mono ?_; rintro e w2 ⟨b, rfl, hb, c2⟩; obtain rfl : b = false := (by cases b; (· rfl); (· exact absurd (hb.1 rfl) HP.out.2.2)); clear hb HC))
    | go_in)
  have e0 := At2.new w2 (p, q)
  have c3 := c2.tr (Chg.alloc w2 (.cells #[.int .i64 p, .int .i64 q] 48) No)
  have z3 : (w2.alloc (.cells #[.int .i64 p, .int .i64 q] 48)).heap.size = w2.heap.size + 1 := by simp
  have z2 := c2.size
  change At2 (w2.alloc (.cells #[.int .i64 p, .int .i64 q] 48)) _ _ at e0
  generalize w2.alloc (.cells #[.int .i64 p, .int .i64 q] 48) = w3 at *
  generalize hge : w2.heap.size = ge at *
  clear hp hq hR c2
  go_loopw [8, 9, 10] (fun v d i wr => ∃ (k : Nat) (A B : List (Int × Int)) (dn : Bool) (wq : World), wq = wr ∧ k ≤ N ∧ d = .bool dn ∧ i = .int .i64 k ∧ Ins (p, q) l k A B dn ∧ Edgs wq w3.heap.size v (insL (p, q) A B dn) ∧ Chg w3 wq No) (fun _ _ i _ => N - (intOf i).toNat)
  case atStart => exact ⟨0, [], [], false, _, rfl, by omega, rfl, rfl, Ins.start _ _, edgs_nil _ _, Chg.refl _ _⟩
  case round =>
    obtain ⟨k, A, B, dn, wA, rfl, hk, rfl, rfl, hI, hrow, hc⟩ := hrel
    have hil := hI.len
    have hsz := hc.size
    have hHA := HH.out.keep (c3.tr hc) (fun _ _ e => e)
    have hc0 : wA.cell? ⟨r, 0, none⟩ = some (.slice a N ca) := by rw [← hN]; exact hHA.c0
    have eA := e0.keep hc (fun e => e)
    by_cases hlt : k < N
    · rcases hHA.at_ with h0 | ⟨g1, rfl, hg1, h1⟩
      · rw [h0] at hN; simp at hN; omega
      obtain ⟨p1, q1⟩ := EAt.cells h1 (k := k) (by omega)
      have hyl : edK l k ∈ l := by
        have e : edK l k = l[k]'(by omega) := by simp [edK, show k < l.length by omega]
        rw [e]; exact List.getElem_mem _
      obtain ⟨y, hy⟩ : ∃ y, edK l k = y := ⟨_, rfl⟩
      rw [hy] at p1 q1 hyl
      have HY := hid hy
      have hi0 : (0 : Int) ≤ (k : Int) := by omega
      have hi1 : (k : Int) < (N : Int) := by omega
      have cX := Chg.alloc wA (.cells #[.int .i64 y.1, .int .i64 y.2] 48) No
      have xX := At2.new wA y
      have eX := eA.keep cX (fun e => e)
      have zX : (wA.alloc (.cells #[.int .i64 y.1, .int .i64 y.2] 48)).heap.size = wA.heap.size + 1 := by simp
      have rX := row_keep hrow cX (fun _ _ e => e)
      have hcX := hc.tr cX
      clear hy h1 hHA hc
      obtain ⟨e1, e2, e3⟩ := eX
      obtain ⟨x1, x2, x3⟩ := xX
      have HX := hid (And.intro hI (And.intro hcX (And.intro rX hrow)))
      clear hI hcX cX eA hrow
      cases hB : (y.1 == p && y.2 == q) with
      | true =>
        have heq := eqE' y p q _ hB
        have HB := hid hB
        clear hB rX
        go_wp2_with fail
        go_ret
        obtain ⟨hI, hcX, _, _⟩ := HX.out
        have hyq : y = (p, q) := by
          have := HB.out
          simp at this
          exact Prod.ext this.1 this.2
        have hE : E p q := by have := (HH.out.list.2 y).1 hyl; rw [hyq] at this; exact this
        refine ⟨0, E, own, rfl, .inr (.inr ⟨HP.out.1, HP.out.2.1, HP.out.2.2, rfl, ?_⟩), ⟨_, _, _, HH.out.keep (c3.tr hcX) (fun _ _ e => e)⟩, fun _ k => .inl k, (c3.tr hcX).mono (fun _ _ e => e.elim)⟩
        funext u v
        refine propext ⟨.inr, fun k => k.elim (fun k => ?_) (fun k => k)⟩
        rw [k.1, k.2]
        exact hE
      | false =>
        have heq := eqE' y p q _ hB
        have HB := hid hB
        clear hB
        cases dn with
        | true =>
          have r2 := row_keep rX (Chg.alloc (wA.alloc (.cells #[.int .i64 y.1, .int .i64 y.2] 48)) (.cells #[.int .i64 y.1, .int .i64 y.2] 48) No) (fun _ _ e => e)
          have x4 := At2.new (wA.alloc (.cells #[.int .i64 y.1, .int .i64 y.2] 48)) y
          rw [zX] at x4
          obtain ⟨x5, x6, _⟩ := x4
          clear rX
          go_wp2_with (first
            | (at_builtin; go_must (refine wp_appE rfl _ _ rfl w3.heap.size (wA.heap.size + 1) 1 _ _ y rfl rfl r2 x5 x6 (by omega) (by simp; omega) ?_; intro v6 w6 h61 h62 h63))
            | fail)
          obtain ⟨hI, hcX, rX, hrow⟩ := HX.out
          have hc6 : Chg w3 w6 No := hcX.trans ((Chg.alloc (wA.alloc (.cells #[.int .i64 y.1, .int .i64 y.2] 48)) (.cells #[.int .i64 y.1, .int .i64 y.2] 48) No).trans h62 (c := fun k => w3.heap.size ≤ k) (fun _ _ e => e.elim) (fun j _ e => (row_ge r2 e).1)) (fun _ _ e => e) (fun j hj e => by omega)
          have hI2 := hI.more HH.out.list.1 (by omega)
          rw [HY.out] at hI2
          go_roundw
          case rel => exact ⟨k + 1, A, B ++ [y], true, _, rfl, by omega, rfl, by go_num, hI2, by (show Edgs w6 _ _ (A ++ [(p, q)] ++ (B ++ [y]))); rw [← List.append_assoc]; exact h61, hc6⟩
          case measure => simp [intOf]; omega
        | false =>
          have hB0 := HX.out.1.no rfl
          subst hB0
          by_cases hgt : ltE (p, q) y
          · have HG := hid hgt
            rcases hgt with hg1' | ⟨hg1', hg2'⟩
            · change p < y.1 at hg1'
              have r2 := row_keep rX (Chg.alloc (wA.alloc (.cells #[.int .i64 y.1, .int .i64 y.2] 48)) (.cells #[.int .i64 p, .int .i64 q] 48) No) (fun _ _ e => e)
              have x4 := At2.new (wA.alloc (.cells #[.int .i64 y.1, .int .i64 y.2] 48)) (p, q)
              have xk := (show At2 (wA.alloc (.cells #[.int .i64 y.1, .int .i64 y.2] 48)) wA.heap.size y from ⟨x1, x2, x3⟩).keep (Chg.alloc (wA.alloc (.cells #[.int .i64 y.1, .int .i64 y.2] 48)) (.cells #[.int .i64 p, .int .i64 q] 48) No) (fun e => e)
              rw [zX] at x4
              obtain ⟨x5, x6, x7⟩ := x4
              have HK := hid xk
              have R2 := hid r2
              have zE : (World.alloc (wA.alloc (.cells #[.int .i64 y.1, .int .i64 y.2] 48)) (.cells #[.int .i64 p, .int .i64 q] 48)).heap.size = wA.heap.size + 2 := by simp
              clear rX xk
              go_wp2_with (first
                | (at_builtin; go_must (first
                  | (refine wp_appE rfl _ _ rfl w3.heap.size (wA.heap.size + 1) 1 _ _ (p, q) rfl rfl r2 x5 x6 (by omega) (by simp; omega) ?_; intro v6 w6 h61 h62 h63; obtain ⟨k1, k2, k3⟩ := HK.out.keep h62 (fun e => by have := (row_ge HX.out.2.2.2 e).2; omega); have z6 := h62.size; have r7 := row_keep h61 (Chg.alloc w6 (.cells #[.int .i64 y.1, .int .i64 y.2] 48) No) (fun _ _ e => e); obtain ⟨x8, x9, _⟩ := At2.new w6 y; have H61 := hid h61; clear r2 h61)
                  | (refine wp_appE rfl _ _ rfl w3.heap.size w6.heap.size 1 _ _ y rfl rfl r7 x8 x9 (by simp; omega) (by simp; omega) ?_; intro v8 w8 h81 h82 h83)))
                | fail)
              obtain ⟨hI, hcX, rX, hrow⟩ := HX.out
              have hc6 : Chg w3 w6 No := hcX.trans ((Chg.alloc (wA.alloc (.cells #[.int .i64 y.1, .int .i64 y.2] 48)) (.cells #[.int .i64 p, .int .i64 q] 48) No).trans h62 (c := fun k => w3.heap.size ≤ k) (fun _ _ e => e.elim) (fun j _ e => (row_ge R2.out e).1)) (fun _ _ e => e) (fun j hj e => by omega)
              have hc8 : Chg w3 w8 No := hc6.trans ((Chg.alloc w6 (.cells #[.int .i64 y.1, .int .i64 y.2] 48) No).trans h82 (c := fun k => w3.heap.size ≤ k) (fun _ _ e => e.elim) (fun j _ e => (row_ge r7 e).1)) (fun _ _ e => e) (fun j hj e => by omega)
              have hI2 := hI.first (by omega) (by rw [HY.out]; exact HG.out)
              rw [HY.out] at hI2
              go_roundw
              case rel => exact ⟨k + 1, A, [y], true, _, rfl, by omega, rfl, by go_num, hI2, by simpa [insL] using h81, hc8⟩
              case measure => simp [intOf]; omega
            · change p = y.1 at hg1'
              change q < y.2 at hg2'
              have hbq : (y.1 == p) = true := by simp [hg1']
              have hle : y.1 ≤ p := by omega
              have HG1 := hid hg1'
              clear hg1'
              have r2 := row_keep rX (Chg.alloc (wA.alloc (.cells #[.int .i64 y.1, .int .i64 y.2] 48)) (.cells #[.int .i64 p, .int .i64 q] 48) No) (fun _ _ e => e)
              have x4 := At2.new (wA.alloc (.cells #[.int .i64 y.1, .int .i64 y.2] 48)) (p, q)
              have xk := (show At2 (wA.alloc (.cells #[.int .i64 y.1, .int .i64 y.2] 48)) wA.heap.size y from ⟨x1, x2, x3⟩).keep (Chg.alloc (wA.alloc (.cells #[.int .i64 y.1, .int .i64 y.2] 48)) (.cells #[.int .i64 p, .int .i64 q] 48) No) (fun e => e)
              rw [zX] at x4
              obtain ⟨x5, x6, x7⟩ := x4
              have HK := hid xk
              have R2 := hid r2
              have zE : (World.alloc (wA.alloc (.cells #[.int .i64 y.1, .int .i64 y.2] 48)) (.cells #[.int .i64 p, .int .i64 q] 48)).heap.size = wA.heap.size + 2 := by simp
              clear rX xk
              go_wp2_with (first
                | (at_builtin; go_must (first
                  | (refine wp_appE rfl _ _ rfl w3.heap.size (wA.heap.size + 1) 1 _ _ (p, q) rfl rfl r2 x5 x6 (by omega) (by simp; omega) ?_; intro v6 w6 h61 h62 h63; obtain ⟨k1, k2, k3⟩ := HK.out.keep h62 (fun e => by have := (row_ge HX.out.2.2.2 e).2; omega); have z6 := h62.size; have r7 := row_keep h61 (Chg.alloc w6 (.cells #[.int .i64 y.1, .int .i64 y.2] 48) No) (fun _ _ e => e); obtain ⟨x8, x9, _⟩ := At2.new w6 y; have H61 := hid h61; clear r2 h61)
                  | (refine wp_appE rfl _ _ rfl w3.heap.size w6.heap.size 1 _ _ y rfl rfl r7 x8 x9 (by simp; omega) (by simp; omega) ?_; intro v8 w8 h81 h82 h83)))
                | fail)
              obtain ⟨hI, hcX, rX, hrow⟩ := HX.out
              have hc6 : Chg w3 w6 No := hcX.trans ((Chg.alloc (wA.alloc (.cells #[.int .i64 y.1, .int .i64 y.2] 48)) (.cells #[.int .i64 p, .int .i64 q] 48) No).trans h62 (c := fun k => w3.heap.size ≤ k) (fun _ _ e => e.elim) (fun j _ e => (row_ge R2.out e).1)) (fun _ _ e => e) (fun j hj e => by omega)
              have hc8 : Chg w3 w8 No := hc6.trans ((Chg.alloc w6 (.cells #[.int .i64 y.1, .int .i64 y.2] 48) No).trans h82 (c := fun k => w3.heap.size ≤ k) (fun _ _ e => e.elim) (fun j _ e => (row_ge r7 e).1)) (fun _ _ e => e) (fun j hj e => by omega)
              have hI2 := hI.first (by omega) (by rw [HY.out]; exact HG.out)
              rw [HY.out] at hI2
              go_roundw
              case rel => exact ⟨k + 1, A, [y], true, _, rfl, by omega, rfl, by go_num, hI2, by simpa [insL] using h81, hc8⟩
              case measure => simp [intOf]; omega
          · have hlt2 : ltE y (p, q) := ltE_or (fun e => by have := HB.out; rw [show y.1 = p from e.1, show y.2 = q from e.2] at this; simp at this) hgt
            have HG := hid hlt2
            clear hgt
            rcases hlt2 with hg1' | ⟨hg1', hg2'⟩
            · change y.1 < p at hg1'
              have hbq : (y.1 == p) = false := by simp; omega
              have r2 := row_keep rX (Chg.alloc (wA.alloc (.cells #[.int .i64 y.1, .int .i64 y.2] 48)) (.cells #[.int .i64 y.1, .int .i64 y.2] 48) No) (fun _ _ e => e)
              have x4 := At2.new (wA.alloc (.cells #[.int .i64 y.1, .int .i64 y.2] 48)) y
              rw [zX] at x4
              obtain ⟨x5, x6, _⟩ := x4
              clear rX
              go_wp2_with (first
                | (at_builtin; go_must (refine wp_appE rfl _ _ rfl w3.heap.size (wA.heap.size + 1) 1 _ _ y rfl rfl r2 x5 x6 (by omega) (by simp; omega) ?_; intro v6 w6 h61 h62 h63))
                | fail)
              obtain ⟨hI, hcX, rX, hrow⟩ := HX.out
              have hc6 : Chg w3 w6 No := hcX.trans ((Chg.alloc (wA.alloc (.cells #[.int .i64 y.1, .int .i64 y.2] 48)) (.cells #[.int .i64 y.1, .int .i64 y.2] 48) No).trans h62 (c := fun k => w3.heap.size ≤ k) (fun _ _ e => e.elim) (fun j _ e => (row_ge r2 e).1)) (fun _ _ e => e) (fun j hj e => by omega)
              have hI2 := hI.less (by omega) (by rw [HY.out]; exact HG.out)
              rw [HY.out] at hI2
              go_roundw
              case rel => exact ⟨k + 1, A ++ [y], [], false, _, rfl, by omega, rfl, by go_num, hI2, by simpa [insL] using h61, hc6⟩
              case measure => simp [intOf]; omega
            · change y.1 = p at hg1'
              change y.2 < q at hg2'
              have hbq : (y.1 == p) = true := by simp [hg1']
              have hle : y.1 ≤ p := by omega
              have HG1 := hid hg1'
              clear hg1'
              have r2 := row_keep rX (Chg.alloc (wA.alloc (.cells #[.int .i64 y.1, .int .i64 y.2] 48)) (.cells #[.int .i64 y.1, .int .i64 y.2] 48) No) (fun _ _ e => e)
              have x4 := At2.new (wA.alloc (.cells #[.int .i64 y.1, .int .i64 y.2] 48)) y
              rw [zX] at x4
              obtain ⟨x5, x6, _⟩ := x4
              clear rX
              go_wp2_with (first
                | (at_builtin; go_must (refine wp_appE rfl _ _ rfl w3.heap.size (wA.heap.size + 1) 1 _ _ y rfl rfl r2 x5 x6 (by omega) (by simp; omega) ?_; intro v6 w6 h61 h62 h63))
                | fail)
              obtain ⟨hI, hcX, rX, hrow⟩ := HX.out
              have hc6 : Chg w3 w6 No := hcX.trans ((Chg.alloc (wA.alloc (.cells #[.int .i64 y.1, .int .i64 y.2] 48)) (.cells #[.int .i64 y.1, .int .i64 y.2] 48) No).trans h62 (c := fun k => w3.heap.size ≤ k) (fun _ _ e => e.elim) (fun j _ e => (row_ge r2 e).1)) (fun _ _ e => e) (fun j hj e => by omega)
              have hI2 := hI.less (by omega) (by rw [HY.out]; exact HG.out)
              rw [HY.out] at hI2
              go_roundw
              case rel => exact ⟨k + 1, A ++ [y], [], false, _, rfl, by omega, rfl, by go_num, hI2, by simpa [insL] using h61, hc6⟩
              case measure => simp [intOf]; omega
    · obtain rfl : k = N := by omega
      have hfz := frozen_of_row wA r 0 _ _ hHA.me
      rw [← hN] at hI
      have hL2 := hid (hI.end_ HH.out.list)
      have hS2 := hid (inSec_add HH.out.sec HP.out.1 HP.out.2.1)
      have hR2 := hid (noRing_add HH.out.ring HP.out.2.2)
      obtain ⟨e1, e2, e3⟩ := eA
      cases dn with
      | true =>
        obtain ⟨a3, ca3, rfl⟩ := row_shape hrow
        have HX := hid (And.intro hrow hc)
        clear hrow hHA hc hI
        go_wp2_with fail
        go_ret
        obtain ⟨hrow, hc⟩ := HX.out
        have hst := r_store HH.out (by have := c3.size; omega) (c3.tr hc) hrow hL2.out hS2.out hR2.out
        exact ⟨0, addE E p q, _, rfl, .inr (.inr ⟨HP.out.1, HP.out.2.1, HP.out.2.2, rfl, rfl⟩), hst.1, fun k e => by simpa [World.setCell] using e, hst.2⟩
      | false =>
        have hB0 := hI.no rfl
        subst hB0
        have r2 := row_keep hrow (Chg.alloc wA (.cells #[.int .i64 p, .int .i64 q] 48) No) (fun _ _ e => e)
        obtain ⟨x5, x6, x7⟩ := At2.new wA (p, q)
        have HX := hid (And.intro hrow hc)
        clear hrow hHA hc hI
        go_wp2_with (first
          | (at_builtin; go_must (refine wp_appE rfl _ _ rfl w3.heap.size wA.heap.size 1 _ _ (p, q) rfl rfl r2 x5 x6 (by omega) (by simp; omega) ?_; intro v6 w6 h61 h62 h63; obtain ⟨a6, c6, rfl⟩ := row_shape h61; have hc6 : Chg w3 w6 No := HX.out.2.trans ((Chg.alloc wA (.cells #[.int .i64 p, .int .i64 q] 48) No).trans h62 (c := fun k => w3.heap.size ≤ k) (fun _ _ e => e.elim) (fun j _ e => (row_ge r2 e).1)) (fun _ _ e => e) (fun j hj e => by omega); have hH6 := HH.out.keep (c3.tr hc6) (fun _ _ e => e); have hc06 := hH6.c0; have hfz6 := frozen_of_row w6 r 0 _ _ hH6.me; have H6 := hid (And.intro h61 hc6); clear hH6 h61 hc6))
          | fail)
        go_ret
        obtain ⟨hrow, hc⟩ := H6.out
        have hL3 : EList (addE E p q) (insL (p, q) A [] false ++ [(p, q)]) := by have := hL2.out; simpa [insL] using this
        have hst := r_store HH.out (by have := c3.size; omega) (c3.tr hc) hrow hL3 hS2.out hR2.out
        rw [List.length_append] at hst
        exact ⟨0, addE E p q, _, rfl, .inr (.inr ⟨HP.out.1, HP.out.2.1, HP.out.2.2, rfl, rfl⟩), hst.1, fun k e => by simpa [World.setCell] using e, hst.2⟩

theorem radd_any (p q : Int) (h : IsR w r own E) : Calls Try.prog 22 #[.pointer (some ⟨r, 0, none⟩), .int .i64 p, .int .i64 q] w (RPost w r own (Added E p q)) := by
  by_cases hs : Sec p ∧ Sec q
  · by_cases hR : Reach E q p
    · exact radd_ring p q h hs.1 hs.2 hR
    · exact radd_ok p q h hs.1 hs.2 hR
  · exact radd_arg p q h hs

end Go.Proofs.Ytfkommjpofpmbaa
