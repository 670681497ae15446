/-
  TakeBlock, TakeInode, FreeInode, Later of package space: what they answer, for every input.
-/
import Derived.Test.YtdddcllakjeplaaS2
namespace Go.Proofs.Ytdddcllakjeplaa
open Go.RowKit

variable {w : World} {lo hi p : Nat} {s : SS}
theorem Rg.eq {a b : Nat} (h : Rg lo hi a) (e : b = a) : Rg lo hi b := e ▸ h

set_option maxHeartbeats 400000 in
theorem takeBlock_any (x : Int) (b : Bool) (w : World) (h : IsS w lo hi p s) (hF : Hid (FirstIs (bt s.T) ((s.ni : Int) + 1) x b)) : Calls Try.prog 15 #[.pointer (some ⟨p, 0, none⟩)] w fun e w' =>
    e = .returned (.tuple #[.int .i64 x, .int .i64 (errN b 80)]) ∧ IsS w' lo hi p (s.takeS x b) ∧ Chg w w' (Rg lo hi) := by
  obtain ⟨pi, gi, pb, gb, m, h⟩ := h
  have h2 := h.c2
  have h3 := h.c3
  have HB := hid h.bb
  have HS := hid h
  have HT := hid fun w h => take_any (p := pb) (g := gb) (L := bt s.T) ((s.ni : Int) + 1) 80 x b w h hF
  go_enter Try.func15, Try.ntmps15
  go_wp2_with (go_at_call 35; refine (HT.out _ HB.out).mono ?_; rintro e w1 ⟨rfl, h1, c1⟩)
  go_ret2
  refine ⟨rfl, ?_, c1.mono fun k _ e => HS.out.rgb.eq e⟩
  obtain ⟨⟨a1, a2, a3⟩, ⟨b1, b2, b3, b4⟩, d1, d2, d3⟩ := HS.out.ap
  cases b
  · refine ⟨pi, gi, pb, gb, m, ?_⟩
    exact ⟨c1.keep HS.out.me (fun e => by omega), HS.out.bi.keep c1 (fun e => by omega) (fun e => by omega), h1, HS.out.lt.keep c1 (fun e => by omega), HS.out.ok, HS.out.rp, HS.out.rgi, HS.out.rgb, HS.out.rm, HS.out.rpi, HS.out.rpb, Nat.le_trans HS.out.top c1.size, HS.out.ap⟩
  · obtain ⟨f1, f2, f3, f4, _⟩ := hF.out.yes rfl
    rw [bt_len, HS.out.ok.lT] at f3
    have hd : s.dat x := ⟨by omega, f3⟩
    have h0 : atT s.T x = 0 := by rw [bt_has] at f4; simpa using f4
    refine ⟨pi, gi, pb, gb, m, ?_⟩
    refine HS.out.setT hd (by decide) (c1.mono fun _ _ e => .inl e) (by rw [bt_put _ _ _ f2]; exact h1) ?_
    refine (HS.out.lt.keep c1 (fun e => by omega)).cong fun y => ?_
    unfold Late
    rw [atT_put _ _ _ _ ⟨f2, by rw [HS.out.ok.lT]; exact f3⟩]
    by_cases e : y = x
    · subst e; rw [if_pos rfl, h0]; simp
    · rw [if_neg e]

set_option maxHeartbeats 400000 in
theorem takeInode_any (x : Int) (b : Bool) (w : World) (h : IsS w lo hi p s) (hF : Hid (FirstIs s.I 1 x b)) : Calls Try.prog 19 #[.pointer (some ⟨p, 0, none⟩)] w fun e w' =>
    e = .returned (.tuple #[.int .i64 x, .int .i64 (errN b 81)]) ∧ IsS w' lo hi p (s.takeI x b) ∧ Chg w w' (Rg lo hi) := by
  obtain ⟨pi, gi, pb, gb, m, h⟩ := h
  have h0 := h.c0
  have h1 := h.c1
  have HB := hid h.bi
  have HS := hid h
  have HT := hid fun w h => take_any (p := pi) (g := gi) (L := s.I) 1 81 x b w h hF
  go_enter Try.func19, Try.ntmps19
  go_wp2_with (go_at_call 35; refine (HT.out _ HB.out).mono ?_; rintro e w1 ⟨rfl, h1, c1⟩)
  go_ret2
  refine ⟨rfl, ?_, c1.mono fun k _ e => HS.out.rgi.eq e⟩
  obtain ⟨⟨a1, a2, a3⟩, ⟨b1, b2, b3, b4⟩, d1, d2, d3⟩ := HS.out.ap
  cases b
  · refine ⟨pi, gi, pb, gb, m, ?_⟩
    exact ⟨c1.keep HS.out.me (fun e => by omega), h1, HS.out.bb.keep c1 (fun e => by omega) (fun e => by omega), HS.out.lt.keep c1 (fun e => by omega), HS.out.ok, HS.out.rp, HS.out.rgi, HS.out.rgb, HS.out.rm, HS.out.rpi, HS.out.rpb, Nat.le_trans HS.out.top c1.size, HS.out.ap⟩
  · obtain ⟨f1, f2, f3, f4, _⟩ := hF.out.yes rfl
    rw [HS.out.ok.lI] at f3
    have hx : x ≠ 1 := fun e => by rw [e, HS.out.ok.I1] at f4; cases f4
    exact ⟨pi, gi, pb, gb, m, HS.out.setI (by omega) (by omega) c1 h1⟩

set_option maxHeartbeats 400000 in
theorem freeInode_any (i : Int) (w : World) (h : IsS w lo hi p s) : Calls Try.prog 21 #[.pointer (some ⟨p, 0, none⟩), .int .i64 i] w fun e w' =>
    e = .returned (.int .i64 (s.freeE i)) ∧ IsS w' lo hi p (s.freeS i) ∧ Chg w w' (Rg lo hi) := by
  obtain ⟨pi, gi, pb, gb, m, h⟩ := h
  have h0 := h.c0
  have HB := hid h.bi
  have HS := hid h
  by_cases c : i = 1
  · have HE : Hid (s.freeE i = 82) := if_pos (.inl c)
    have HF : Hid (s.freeS i = s) := if_pos (.inl c)
    have hi1 : (i == 1) = true := by rw [c]; rfl
    clear c
    go_enter Try.func21, Try.ntmps21
    go_wp2
    go_ret
    exact ⟨ret_int HE.out.symm, by rw [HF.out]; exact ⟨pi, gi, pb, gb, m, HS.out⟩, Chg.refl _ _⟩
  · have hi1 : (i == 1) = false := by simpa using c
    cases hh : hasL s.I i
    · have HE : Hid (s.freeE i = 82) := if_pos (.inr hh)
      have HF : Hid (s.freeS i = s) := if_pos (.inr hh)
      have HH := hid hh
      clear c hh
      go_enter Try.func21, Try.ntmps21
      go_wp2_with (go_at_call 33; refine (has_any _ _ HB.out).mono ?_; rintro e w1 ⟨rfl, rfl⟩; rw [HH.out])
      go_ret
      exact ⟨ret_int HE.out.symm, by rw [HF.out]; exact ⟨pi, gi, pb, gb, m, HS.out⟩, Chg.refl _ _⟩
    · have hn : ¬ (i = 1 ∨ hasL s.I i = false) := fun e => by rcases e with e | e; exact c e; rw [hh] at e; cases e
      have HE : Hid (s.freeE i = 0) := if_neg hn
      have HF : Hid (s.freeS i = s.setI i false) := if_neg hn
      have hr := HS.out.ok.ino_of hh
      have HR : Hid (2 ≤ i ∧ i ≤ s.ni) := ⟨by omega, hr.2⟩
      have HP : Hid (putE s.I i = 0) := if_pos ⟨by omega, by rw [HS.out.ok.lI]; omega⟩
      have HH := hid hh
      clear c hh hn hr
      go_enter Try.func21, Try.ntmps21
      go_wp2_with (first | (go_at_call 33; refine (has_any _ _ HB.out).mono ?_; rintro e w1 ⟨rfl, rfl⟩; rw [HH.out]) | (go_at_call 36; refine (clear_any i _ HB.out).mono ?_; rintro e w1 ⟨rfl, h1, c1⟩; rw [HP.out]))
      go_ret
      exact ⟨ret_int HE.out.symm, by rw [HF.out]; exact ⟨pi, gi, pb, gb, m, HS.out.setI HR.out.1 HR.out.2 c1 h1⟩, c1.mono fun k _ e => HS.out.rgi.eq e⟩

set_option maxHeartbeats 400000 in
theorem freeInode_no (i : Int) (hn : i = 1 ∨ hasL s.I i = false) (w : World) (h : IsS w lo hi p s) : Calls Try.prog 21 #[.pointer (some ⟨p, 0, none⟩), .int .i64 i] w fun e w' =>
    e = .returned (.int .i64 82) ∧ w = w' := by
  obtain ⟨pi, gi, pb, gb, m, h⟩ := h
  have h0 := h.c0
  have HB := hid h.bi
  by_cases c : i = 1
  · have hi1 : (i == 1) = true := by rw [c]; rfl
    clear c hn
    go_enter Try.func21, Try.ntmps21
    go_wp2
    go_ret
    exact ⟨rfl, rfl⟩
  · have hi1 : (i == 1) = false := by simpa using c
    have HH : Hid (hasL s.I i = false) := hn.resolve_left c
    clear c hn
    go_enter Try.func21, Try.ntmps21
    go_wp2_with (go_at_call 33; refine (has_any _ _ HB.out).mono ?_; rintro e w1 ⟨rfl, rfl⟩; rw [HH.out])
    go_ret
    exact ⟨rfl, rfl⟩

theorem late_few {s : SS} (h : s.Ok) : ∃ L : List Int, L.length ≤ 5000 ∧ ∀ x, Late s.T x → x ∈ L :=
  ⟨lateL 0 s.T, by rw [lateL_len]; have := count_le_len s.T 2; rw [h.lT] at this; have := h.n2; omega, fun x hx => (late_mem _ _).2 hx⟩

set_option maxHeartbeats 400000 in
theorem later_any (i : Int) (hi64 : I64 i) (w : World) (h : IsS w lo hi p s) : Calls Try.prog 23 #[.pointer (some ⟨p, 0, none⟩), .int .i64 i] w fun e w' =>
    e = .returned (.int .i64 (s.laterE i)) ∧ IsS w' lo hi p (s.laterS i) ∧ Chg w w' (Rg lo hi) := by
  have HSS := hid h
  obtain ⟨pi, gi, pb, gb, m, h⟩ := h
  have h2 := h.c2
  have h4 := h.c4
  have HB := hid h.bb
  have HS := hid h
  have H64 := hid hi64
  have HH : Hid (hasL (bt s.T) i = !(atT s.T i == 0)) := bt_has _ _
  have HL : Hid (lateB s.T i = (atT s.T i == 2)) := rfl
  have hle := atT_le h.ok.t2 i
  clear hi64
  by_cases c0 : atT s.T i = 0
  · have HE : Hid (s.laterE i = 82) := if_neg (by omega)
    have HF : Hid (s.laterS i = s) := if_neg (by omega)
    rw [c0] at HH
    clear c0 hle
    go_enter Try.func23, Try.ntmps23
    go_wp2_with (go_at_call 33; refine (has_any _ _ HB.out).mono ?_; rintro e w1 ⟨rfl, rfl⟩; rw [HH.out])
    go_ret
    exact ⟨ret_int HE.out.symm, by rw [HF.out]; exact HSS.out, Chg.refl _ _⟩
  · by_cases c2 : atT s.T i = 2
    · have HE : Hid (s.laterE i = 82) := if_neg (by omega)
      have HF : Hid (s.laterS i = s) := if_neg (by omega)
      rw [c2] at HH HL
      clear c0 c2 hle
      go_enter Try.func23, Try.ntmps23
      go_wp2_with (first | (go_at_call 33; refine (has_any _ _ HB.out).mono ?_; rintro e w1 ⟨rfl, rfl⟩; rw [HH.out]) | (go_at_call 37; refine (isLater_any i H64.out _ HSS.out).mono ?_; rintro e w1 ⟨rfl, b1⟩; have B1 := hid b1; clear b1; rw [HL.out]))
      go_ret
      exact ⟨ret_int HE.out.symm, by rw [HF.out]; exact HSS.out.call B1.out, Chg.of_below B1.out _⟩
    · have c1 : atT s.T i = 1 := by omega
      have HE : Hid (s.laterE i = 0) := if_pos c1
      have HF : Hid (s.laterS i = s.setT i 2) := if_pos c1
      have HD := hid (HS.out.ok.dat_of (i := i) (by omega))
      have HA := hid c1
      rw [c1] at HH HL
      clear c0 c1 c2 hle
      go_enter Try.func23, Try.ntmps23
      go_upto_region 3 with (first | (go_at_call 33; refine (has_any _ _ HB.out).mono ?_; rintro e w1 ⟨rfl, rfl⟩; rw [HH.out]) | (go_at_call 37; refine (isLater_any i H64.out _ HSS.out).mono ?_; rintro e w1 ⟨rfl, b1⟩; have B1 := hid b1; clear b1; rw [HL.out]))
      have HS1 := hid (HS.out.keep (Chg.of_below B1.out No) (fun _ _ e => e))
      have h41 := HS1.out.c4
      go_wp2_with (at_mapUpdate; go_must (refine wp_storeS rfl _ _ _ rfl m (Late s.T) i rfl rfl rfl HS1.out.lt H64.out (late_few HS1.out.ok) ?_; intro w2 r1 r2 r3; have R1 := hid r1; have R2 := hid r2; clear r1 r2 r3))
      go_ret
      obtain ⟨⟨a1, a2, a3⟩, ⟨b1, b2, b3, b4⟩, d1, d2, d3⟩ := HS.out.ap
      refine ⟨ret_int HE.out.symm, ?_, (Chg.of_below B1.out _).trans R2.out (fun _ _ e => e) (fun k _ e => HS.out.rm.eq e)⟩
      rw [HF.out]
      have hin : 0 ≤ i ∧ i < s.T.length := ⟨by have := HD.out.1; omega, by rw [HS.out.ok.lT]; exact HD.out.2⟩
      refine ⟨pi, gi, pb, gb, m, HS1.out.setT HD.out (by decide) (R2.out.mono fun _ _ e => .inr e) ?_ ?_⟩
      · have e : bt (putT s.T i 2) = bt s.T := by
          rw [bt_put _ _ _ hin.1]
          unfold putL
          rw [if_pos hin.1]
          have : (bt s.T)[i.toNat]? = some true := by
            have := bt_has s.T i
            unfold hasL at this
            rw [HA.out, decide_eq_true hin.1, Bool.true_and, List.getD_eq_getElem?_getD] at this
            cases hq : (bt s.T)[i.toNat]? with
            | none => rw [hq] at this; cases this
            | some v => rw [hq] at this; simpa using this
          apply List.ext_getElem?
          intro j
          rw [List.getElem?_set]
          by_cases e : i.toNat = j
          · rw [if_pos e, ← e, this, if_pos (by rw [bt_len]; omega)]; rfl
          · rw [if_neg e]
        rw [e]
        exact HS1.out.bb.keep R2.out (fun e => by omega) (fun e => by omega)
      · refine R1.out.cong fun y => ?_
        unfold Late
        rw [atT_put _ _ _ _ hin]
        by_cases e : y = i
        · rw [if_pos e]; simp [e]
        · rw [if_neg e]; simp [e]

end Go.Proofs.Ytdddcllakjeplaa
