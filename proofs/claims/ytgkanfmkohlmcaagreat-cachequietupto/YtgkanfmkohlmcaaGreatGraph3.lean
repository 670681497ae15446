/-
  Remove: the edges of a sector go, all others stay.
-/
import Derived.Test.YtgkanfmkohlmcaaGreatGraph2
namespace Go.Proofs.YtgkanfmkohlmcaaGreat
open Go.RowKit

variable {w : World} {b : Nat} {f : Int → Option Nat} {E : Int → Int → Prop} {p bp bq : Nat} {g : Int → Option Nat} {own : Nat → Prop}

theorem StepsAt.delKey {w' : World} {n : Int} (h : StepsAt w b f E) (hM : MapAt w' b (fun y => if y = n then Option.none else f y)) (hc : Chg w w' (· = b)) : StepsAt w' b (fun y => if y = n then Option.none else f y) (fun x y => E x y ∧ x ≠ n) := by
  refine ⟨hM, fun x => ?_, fun x d hx => ?_, fun x y c hx hy => ?_, fun x c hx => ?_⟩
  · by_cases e : x = n
    · simp [e]
    · simp only [e, if_false]
      rw [h.dom x]
      simp [e]
  · by_cases e : x = n
    · simp [e] at hx
    · simp only [e, if_false] at hx
      refine ((h.sets x d hx).keep hc (h.ne x d hx)).cong fun y => ?_
      simp [e]
  · by_cases e : x = n
    · simp [e] at hx
    · by_cases e' : y = n
      · simp [e'] at hy
      · simp only [e, if_false] at hx
        simp only [e', if_false] at hy
        exact h.inj x y c hx hy
  · by_cases e : x = n
    · simp [e] at hx
    · simp only [e, if_false] at hx
      exact h.ne x c hx
theorem SB.del {n : Int} {k : Nat} (h : SB b (fun y => if y = n then Option.none else f y) k) : SB b f k := by
  rcases h with rfl | ⟨x, hx⟩
  · exact .inl rfl
  · by_cases e : x = n
    · simp [e] at hx
    · simp only [e, if_false] at hx
      exact .inr ⟨x, hx⟩

/-- What Remove answers, and what edges there are behind it. -/
def Removed (E : Int → Int → Prop) (n c : Int) (E' : Int → Int → Prop) : Prop := (¬ Sec n ∧ c = 1 ∧ E' = E) ∨ (Sec n ∧ c = 0 ∧ E' = delE E n)

/-- The steps back, those from n as long as they are to come. -/
def Fb (E : Int → Int → Prop) (n : Int) (left : Int → Prop) (y x : Int) : Prop := E x y ∧ (x = n → left y)
/-- The steps, those to n as long as they are to come. -/
def Fp (E : Int → Int → Prop) (n : Int) (left : Int → Prop) (x y : Int) : Prop := E x y ∧ (y = n → left x)

set_option maxRecDepth 100000 in
set_option maxHeartbeats 2000000 in
theorem removeG_any (n : Int) (h : IsG w p own E) : Calls Tryz.prog 70 #[.pointer (some ⟨p, 0, none⟩), .int .i64 n] w fun e w' =>
    ∃ c E', e = .returned (.int .i64 c) ∧ Removed E n c E' ∧ IsG w' p own E' ∧ Chg w w' own := by
  have HS := fun w => isSector_any n w
  have HH := hid h
  cases hq : isSec n with
  | false =>
    have hn : ¬ Sec n := fun e => by rw [(isSec_iff n).2 e] at hq; cases hq
    rw [hq] at HS
    clear h
    go_enter Tryz.func70, Tryz.ntmps70
    go_wp2_with (first
      | (go_at_call 67; go_must (refine (HS _).mono ?_; rintro e w1 ⟨rfl, rfl⟩))
      | go_in)
    go_ret
    exact ⟨_, E, rfl, .inl ⟨hn, rfl, rfl⟩, HH.out, Chg.refl _ _⟩
  | true =>
    rw [hq] at HS
    have sn := (isSec_iff n).1 hq
    have In := sn.i64
    obtain ⟨bp, bq, f, g, h, hp, ho⟩ := h
    have k0 := h.c0
    have k1 := h.c1
    have HM := h.po.map
    obtain ⟨c, hc⟩ : ∃ c, f n = c := ⟨_, rfl⟩
    generalize hEn : E n = En
    have HF := hid (show ∀ d, c = some d → SetAt w d En by rw [← hEn]; exact fun d e => h.po.sets n d (by rw [hc, e]))
    have HF0 := hid (show c = none → ∀ x, ¬ En x by rw [← hEn]; exact fun e => h.po.none (by rw [hc, e]))
    have hcn : ∀ d, c = some d → ¬ SB bq g d := fun d e => h.ap d (.inr ⟨n, by rw [hc, e]⟩)
    have HG := hid h
    clear h
    go_enter Tryz.func70, Tryz.ntmps70
    go_wp2_with (first
      | (go_at_call 67; go_must (refine (HS _).mono ?_; rintro e w1 ⟨rfl, rfl⟩))
      | (at_lookup; go_must (refine wp_look rfl _ _ rfl bp f n c hc rfl rfl HM In ?_))
      | (at_range; go_must (refine wp_rangeS rfl _ rfl c En rfl HF.out HF0.out ?_; intro w2 cnt0 hr0 hc0 hz0))
      | go_in)
    go_frame
    clear hz0
    generalize hrr : w.heap.size = r at *
    go_loopw [5] (fun _ wr => ∃ (left : Int → Prop) (cnt : Nat) (g1 : Int → Option Nat) (wq : World), wq = wr ∧ RangeS wq c r En left cnt ∧ StepsAt wq bq g1 (Fb E n left) ∧ Chg w wq (SB bq g) ∧ ∀ k, SB bq g1 k → SB bq g k) (fun _ wr => leftN wr c r)
    case atStart =>
      refine ⟨En, cnt0, g, _, rfl, hr0, (HG.out.pr.keep hc0 (fun _ _ e => e)).cong fun y x => ?_, hc0.mono fun _ _ e => e.elim, fun _ k => k⟩
      show E x y ↔ E x y ∧ (x = n → En y)
      exact ⟨fun e => ⟨e, fun ex => by rw [← hEn, ← ex]; exact e⟩, fun e => e.1⟩
    case round =>
      obtain ⟨left, cnt, g1, wA, rfl, hr, hT, hW, hsub⟩ := hrel
      have hgr : ∀ k, SB bq g1 k → k ≠ r := fun k hk e => by
        have := HG.out.pr.lt (hsub k hk)
        omega
      go_wp2_with (first
        | (at_next; go_must (refine wp_nextS rfl _ rfl c r En left cnt rfl hr ?_ ?_))
        | fail)
      · intro hl
        clear hr
        have hG := HG.out
        have kA0 : wA.cell? ⟨p, 0, none⟩ = some (.map (some bp)) := by rw [cell_of_row _ _ _ _ _ _ (hW.keep hG.me hG.np.2)]; rfl
        have kA1 : wA.cell? ⟨p, 1, none⟩ = some (.map (some bq)) := by rw [cell_of_row _ _ _ _ _ _ (hW.keep hG.me hG.np.2)]; rfl
        have hT1 : StepsAt wA bq g1 (fun y x => E x y ∧ x ≠ n) := hT.cong fun y x => ⟨fun e => ⟨e.1, fun ex => hl y (e.2 ex)⟩, fun e => ⟨e.1, fun ex => absurd ex e.2⟩⟩
        have hP1 : StepsAt wA bp f E := hG.po.keep hW fun k hk => hG.ap k hk
        obtain ⟨c2, hc2⟩ : ∃ c2, g1 n = c2 := ⟨_, rfl⟩
        generalize hE2 : (fun x => E x n ∧ x ≠ n) = E2
        have HF2 := hid (show ∀ d, c2 = some d → SetAt wA d E2 by rw [← hE2]; exact fun d e => hT1.sets n d (by rw [hc2, e]))
        have HF20 := hid (show c2 = none → ∀ x, ¬ E2 x by rw [← hE2]; exact fun e => hT1.none (by rw [hc2, e]))
        have hcn2 : ∀ d, c2 = some d → ¬ SB bp f d := fun d e k => hG.ap d k (hsub d (.inr ⟨n, by rw [hc2, e]⟩))
        have HM1 := hT1.map
        have HX := hid (And.intro hT1 (And.intro hP1 hG))
        clear hT1 hP1 hG hT k0 k1
        go_wp2_with (first
          | (at_lookup; go_must (refine wp_look rfl _ _ rfl bq g1 n c2 hc2 rfl rfl HM1 In ?_))
          | (at_range; go_must (refine wp_rangeS rfl _ rfl c2 E2 rfl HF2.out HF20.out ?_; intro wB cnt1 hrB hcB hzB))
          | go_in)
        go_frame
        clear hzB
        have hrA : w.heap.size ≤ wA.heap.size := hW.size
        generalize hrr2 : wA.heap.size = r2 at *
        go_loopw [6] (fun _ wr => ∃ (left : Int → Prop) (cnt : Nat) (f2 : Int → Option Nat) (wq : World), wq = wr ∧ RangeS wq c2 r2 E2 left cnt ∧ StepsAt wq bp f2 (Fp E n left) ∧ Chg wA wq (SB bp f) ∧ ∀ k, SB bp f2 k → SB bp f k) (fun _ wr => leftN wr c2 r2)
        case atStart =>
          refine ⟨E2, cnt1, f, _, rfl, hrB, (HX.out.2.1.keep hcB (fun _ _ e => e)).cong fun x y => ?_, hcB.mono fun _ _ e => e.elim, fun _ k => k⟩
          show E x y ↔ E x y ∧ (y = n → E2 x)
          rw [← hE2]
          refine ⟨fun e => ⟨e, fun ey => ⟨ey ▸ e, fun ex => ?_⟩⟩, fun e => e.1⟩
          subst ex ey
          exact HX.out.2.2.ring _ (.one e)
        case round =>
          obtain ⟨left2, cnt2, f2, wC, rfl, hr2, hT2, hW2, hsub2⟩ := hrel
          have hgr2 : ∀ k, SB bp f2 k → k ≠ r2 := fun k hk e => by
            have := HX.out.2.2.po.lt (hsub2 k hk)
            omega
          go_wp2_with (first
            | (at_next; go_must (refine wp_nextS rfl _ rfl c2 r2 E2 left2 cnt2 rfl hr2 ?_ ?_))
            | fail)
          · intro hl2
            clear hr2
            have hP2 : StepsAt wC bp f2 (fun x y => E x y ∧ y ≠ n) := hT2.cong fun x y => ⟨fun e => ⟨e.1, fun ey => hl2 x (e.2 ey)⟩, fun e => ⟨e.1, fun ey => absurd ey e.2⟩⟩
            have hQ2 : StepsAt wC bq g1 (fun y x => E x y ∧ x ≠ n) := HX.out.1.keep hW2 fun k hk hk' => HX.out.2.2.ap k hk' (hsub k hk)
            have hmeC := hW2.keep (hW.keep HX.out.2.2.me HX.out.2.2.np.2) HX.out.2.2.np.1
            have kC0 : wC.cell? ⟨p, 0, none⟩ = some (.map (some bp)) := by rw [cell_of_row _ _ _ _ _ _ hmeC]; rfl
            have HMp := hP2.map
            have hbpq : bp ≠ bq := fun e => HX.out.2.2.ap bp (.inl rfl) (.inl e)
            have hpb : p ≠ bp := fun e => HX.out.2.2.np.1 (.inl e)
            have hpb2 : p ≠ bq := fun e => HX.out.2.2.np.2 (.inl e)
            have HY := hid (And.intro hP2 hQ2)
            have HMq := hQ2.map
            clear hP2 hQ2 hT2
            go_wp2_with (first
              | (at_delete; go_must (first
                  | (refine wp_delM rfl _ _ rfl bp f2 n rfl rfl HMp In ?_; intro wD d1 d2 d3; have kD1 : wD.cell? ⟨p, 1, none⟩ = some (.map (some bq)) := (by rw [cell_of_row _ _ _ _ _ _ (d2.keep hmeC hpb)]; rfl); have HMq1 := HMq.keep d2 (fun e => hbpq e.symm))
                  | (refine wp_delM rfl _ _ rfl bq g1 n rfl rfl HMq1 In ?_; intro wE e1 e2 e3)))
              | go_in)
            go_ret
            obtain ⟨hP2, hQ2⟩ := HY.out
            have hG := HX.out.2.2
            have hP3 := (hP2.delKey d1 d2).keep e2 (fun k hk e => hG.ap k (hsub2 k hk.del) (.inl e))
            have hQ3 := (hQ2.keep d2 (fun k hk e => hG.ap k (.inl e) (hsub k hk))).delKey e1 e2
            refine ⟨_, delE E n, rfl, .inr ⟨sn, rfl, rfl⟩, ⟨bp, bq, _, _, ⟨e2.keep (d2.keep hmeC hpb) hpb2, hP3.cong fun x y => ?_, hQ3.cong fun y x => ?_, fun k hk hk' => hG.ap k (hsub2 k hk.del) (hsub k hk'.del), inSec_del n hG.sec, noRing_del n hG.ring⟩, hp, fun k hk => ?_⟩, ?_⟩
            · unfold delE
              exact ⟨fun e => ⟨e.1.1, e.2, e.1.2⟩, fun e => ⟨⟨e.1, e.2.2⟩, e.2.1⟩⟩
            · show _ ↔ delE E n x y
              unfold delE
              exact ⟨fun e => ⟨e.1.1, e.1.2, e.2⟩, fun e => ⟨⟨e.1, e.2.1⟩, e.2.2⟩⟩
            · rcases hk with hk | hk
              · exact ho k (.inl (hsub2 k hk.del))
              · exact ho k (.inr (hsub k hk.del))
            · refine (hW.trans hW2 (c := own) (fun j _ e => ho j (.inr e)) (fun j _ e => ho j (.inl e))).trans (d2.trans e2 (c := own) (fun j _ e => ho j (.inl (.inl e))) (fun j _ e => ho j (.inr (.inl e)))) (fun _ _ e => e) (fun _ _ e => e)
          · intro x w3 cnt3 hl2 hx hIx hr3 hlt hc3 hz3 hen
            clear hz3
            have hW3 : Chg wA w3 (SB bp f) := hW2.trans hc3 (fun _ _ e => e) (fun j hj e => by omega)
            have hT3 := hT2.keep hc3 hgr2
            have hmeC := hW3.keep (hW.keep HX.out.2.2.me HX.out.2.2.np.2) HX.out.2.2.np.1
            have kC0 : w3.cell? ⟨p, 0, none⟩ = some (.map (some bp)) := by rw [cell_of_row _ _ _ _ _ _ hmeC]; rfl
            have hEx : E x n := by rw [← hE2] at hx; exact hx.1
            have HC := remove_any x n hT3 (fun a b e => HX.out.2.2.sec a b e.1) ⟨hEx, fun _ => hl2⟩
            have HR := hid (And.intro hr3 (And.intro hlt (And.intro hr2 hT3)))
            clear hr3 hlt hr2 hT3 hT2
            go_wp2_with (go_at_call 78; go_must (refine HC.mono ?_; rintro e w4 ⟨rfl, f3, hf3, hc4, hs4⟩))
            obtain ⟨hr3, hlt, hr2, hT3⟩ := HR.out
            have hr4 := hr3.keep hc4 (fun d e k => hcn2 d e (hsub2 d k)) (fun k => hgr2 r2 k rfl)
            go_roundw
            case rel =>
              refine ⟨_, cnt3, f3, _, rfl, hr4, hf3.cong fun a b => ?_, hW3.trans hc4 (fun _ _ e => e) (fun j _ e => hsub2 j e), fun k hk => hsub2 k (hs4 k hk)⟩
              unfold cutE Fp
              constructor
              · rintro ⟨⟨e1, e2⟩, e3⟩
                exact ⟨e1, fun eb => ⟨e2 eb, fun ea => e3 ⟨ea, eb⟩⟩⟩
              · rintro ⟨e1, e2⟩
                exact ⟨⟨e1, fun eb => (e2 eb).1⟩, fun e => (e2 e.2).2 e.1⟩
            case measure => rw [hr4.leftN, hr2.leftN]; exact hlt
      · intro x w3 cnt3 hl hx hIx hr3 hlt hc3 hz3 hen
        clear hz3
        have hG := HG.out
        have hW3 : Chg w w3 (SB bq g) := hW.trans hc3 (fun _ _ e => e) (fun j hj e => by omega)
        have hT3 := hT.keep hc3 hgr
        have kC1 : w3.cell? ⟨p, 1, none⟩ = some (.map (some bq)) := by rw [cell_of_row _ _ _ _ _ _ (hW3.keep hG.me hG.np.2)]; rfl
        have hEx : E n x := by rw [hEn]; exact hx
        have HC := remove_any x n hT3 (fun a b e => (hG.sec b a e.1).symm) ⟨hEx, fun _ => hl⟩
        have HR := hid (And.intro hr3 (And.intro hlt (And.intro hr hT3)))
        clear hr3 hlt hr hT3 hT hG
        go_wp2_with (go_at_call 78; go_must (refine HC.mono ?_; rintro e w4 ⟨rfl, g3, hg3, hc4, hs4⟩))
        obtain ⟨hr3, hlt, hr, hT3⟩ := HR.out
        have hr4 := hr3.keep hc4 (fun d e k => hcn d e (hsub d k)) (fun k => hgr r k rfl)
        go_roundw
        case rel =>
          refine ⟨_, cnt3, g3, _, rfl, hr4, hg3.cong fun a b => ?_, hW3.trans hc4 (fun _ _ e => e) (fun j _ e => hsub j e), fun k hk => hsub k (hs4 k hk)⟩
          unfold cutE Fb
          constructor
          · rintro ⟨⟨e1, e2⟩, e3⟩
            exact ⟨e1, fun eb => ⟨e2 eb, fun ea => e3 ⟨ea, eb⟩⟩⟩
          · rintro ⟨e1, e2⟩
            exact ⟨⟨e1, fun eb => (e2 eb).1⟩, fun e => (e2 e.2).2 e.1⟩
        case measure => rw [hr4.leftN, hr.leftN]; exact hlt

end Go.Proofs.YtgkanfmkohlmcaaGreat
