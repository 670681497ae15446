/-
  Landed of package space: what it answers, for every list.
-/
import Derived.Test.YtdddcllakjeplaaS3
namespace Go.Proofs.Ytdddcllakjeplaa
open Go.RowKit

variable {w : World} {lo hi p : Nat} {s : SS}
def land1 (T : List Nat) (b : Int) : List Nat := if atT T b = 2 then putT T b 0 else T
theorem landL_cons (T : List Nat) (b : Int) (l : List Int) : landL T (b :: l) = landL (land1 T b) l := rfl
theorem landL_snoc : ∀ (l : List Int) (T : List Nat) (b : Int), landL T (l ++ [b]) = land1 (landL T l) b
  | [], _, _ => rfl
  | c :: l, T, b => by
    rw [List.cons_append, landL_cons, landL_cons]
    exact landL_snoc l _ b
theorem take_succ {xs : List Int} {k : Nat} (hk : k < xs.length) : xs.take (k + 1) = xs.take k ++ [xs.getD k 0] := by
  rw [List.take_add_one, List.getElem?_eq_getElem hk, List.getD_eq_getElem?_getD, List.getElem?_eq_getElem hk]
  rfl
theorem landL_take {xs : List Int} {k : Nat} (hk : k < xs.length) (T : List Nat) : landL T (xs.take (k + 1)) = land1 (landL T (xs.take k)) (xs.getD k 0) := by
  rw [take_succ hk, landL_snoc]
/-- Are all of them data sectors? -/
def SS.landOk (s : SS) (xs : List Int) : Bool := xs.all fun b => isB ((s.ni : Int) + 1) s.ns b
def SS.landE (s : SS) (xs : List Int) : Int := errN (s.landOk xs) 82
def SS.landS (s : SS) (xs : List Int) : SS := if s.landOk xs = true then { s with T := landL s.T xs } else s
theorem landOk_no {xs : List Int} {k : Nat} (hk : k < xs.length) (h : isB ((s.ni : Int) + 1) s.ns (xs.getD k 0) = false) : s.landOk xs = false := by
  unfold SS.landOk
  rw [Bool.eq_false_iff]
  intro e
  rw [List.all_eq_true] at e
  have := e (xs.getD k 0) (by rw [List.getD_eq_getElem?_getD, List.getElem?_eq_getElem hk]; exact List.getElem_mem hk)
  rw [h] at this
  cases this
theorem landOk_yes {xs : List Int} (h : ∀ k, k < xs.length → isB ((s.ni : Int) + 1) s.ns (xs.getD k 0) = true) : s.landOk xs = true := by
  unfold SS.landOk
  rw [List.all_eq_true]
  intro o ho
  obtain ⟨k, hk, rfl⟩ := List.getElem_of_mem ho
  have := h k hk
  rw [List.getD_eq_getElem?_getD, List.getElem?_eq_getElem hk] at this
  exact this

/-- A list lies apart from a range of blocks. -/
def Off (a : Option Addr) (lo hi : Nat) : Prop := ∀ b o, a = some ⟨b, o, none⟩ → ¬ Rg lo hi b
theorem IntsAt.off {w w' : World} {a : Option Addr} {xs : List Int} (h : IntsAt w a xs) (ho : Off a lo hi) (hc : Chg w w' (Rg lo hi)) : IntsAt w' a xs := by
  rcases h with h | ⟨b, o, h1, h2, h3⟩
  · exact .inl h
  · refine .inr ⟨b, o, h1, Nat.lt_of_lt_of_le h2 hc.size, fun j hj => ?_⟩
    rw [← h3 j hj]
    unfold World.cell?
    rw [show (⟨b, o + j, none⟩ : Addr).block = b from rfl, hc.block b h2 (ho b o h1)]
theorem IntsAt.here {w : World} {a : Option Addr} {xs : List Int} (h : IntsAt w a xs) (k : Nat) (hk : k < xs.length) : ∃ b o, a = some ⟨b, o, none⟩ ∧ w.cell? ⟨b, o + k, none⟩ = some (.int .i64 (xs.getD k 0)) := h.get (Below.refl _ _) k hk

set_option maxHeartbeats 400000 in
theorem land_step (b : Int) (w : World) (hl : Late s.T b) (w1 w2 : World) {pi gi pb gb m : Nat} (h0 : IsS0 w lo hi p pi gi pb gb m s) (R1 : SetAt w1 m (fun y => Late s.T y ∧ y ≠ b)) (R2 : Chg w w1 (· = m)) (R3 : IsB w2 pb gb (putL (bt s.T) b false)) (R4 : Chg w1 w2 (· = gb)) : IsS w2 lo hi p (s.setT b 0) ∧ Chg w w2 (Rg lo hi) := by
  obtain ⟨⟨a1, a2, a3⟩, ⟨b1, b2, b3, b4⟩, d1, d2, d3⟩ := h0.ap
  have hne : atT s.T b ≠ 0 := by rw [hl]; decide
  have hin := atT_in hne
  have hc : Chg w w2 (fun k => k = gb ∨ k = m) := R2.trans R4 (fun _ _ e => .inr e) (fun _ _ e => .inl e)
  refine ⟨⟨pi, gi, pb, gb, m, h0.setT (h0.ok.dat_of hne) (by decide) hc (by rw [bt_put _ _ _ hin.1]; exact R3) ?_⟩, hc.mono fun k _ e => ?_⟩
  · refine (R1.keep R4 (fun e => by omega)).cong fun y => ?_
    unfold Late
    rw [atT_put _ _ _ _ hin]
    by_cases e : y = b
    · rw [if_pos e]; simp [e]
    · rw [if_neg e]; simp [e]
  · rcases e with e | e
    · exact h0.rgb.eq e
    · exact h0.rm.eq e

set_option maxRecDepth 100000 in
set_option maxHeartbeats 1000000 in
theorem landed_any (xs : List Int) (a : Option Addr) (len cap : Nat) (w : World) (h : IsS w lo hi p s) (hlen : Hid (xs.length = len)) (hl : len ≤ 140737488355328) (HX : Hid (IntsAt w a xs)) (H64 : Hid (∀ x, x ∈ xs → I64 x)) (HO : Hid (Off a lo hi)) :
    Calls Try.prog 25 #[.pointer (some ⟨p, 0, none⟩), .slice a len cap] w fun e w' => e = .returned (.int .i64 (s.landE xs)) ∧ IsS w' lo hi p (s.landS xs) ∧ Chg w w' (Rg lo hi) := by
  have HS := hid h
  go_enter Try.func25, Try.ntmps25
  go_wp2
  go_loopw [11] (fun i wr => ∃ k : Nat, k ≤ len ∧ i = .int .i64 k ∧ Hid (∀ j, j < k → isB ((s.ni : Int) + 1) s.ns (xs.getD j 0) = true) ∧ Hid (Below w.heap.size w wr)) (fun i _ => len - (intOf i).toNat)
  case atStart => exact ⟨0, by omega, rfl, hid (fun j hj => by omega), hid (Below.refl _ _)⟩
  case round =>
    obtain ⟨k, hk, rfl, HA, HW⟩ := hrel
    by_cases hlt : k < len
    · obtain ⟨b, o, rfl, hcell⟩ := HX.out.get HW.out k (by rw [hlen.out]; exact hlt)
      have hkl : (k : Int) < (len : Int) := by omega
      have HK : Hid (k < xs.length) := by show _; rw [hlen.out]; exact hlt
      have HSr := hid (HS.out.call HW.out)
      obtain ⟨pi, gi, pb, gb, m, HSr0⟩ := HSr.out
      replace HSr0 := hid HSr0
      have h2 := HSr0.out.c2
      have h3 := HSr0.out.c3
      generalize hx : xs.getD k 0 = x at *
      replace hx := hid hx
      have HI := hid fun w h => is_any (p := pb) (g := gb) (L := bt s.T) ((s.ni : Int) + 1) x w h
      rw [bt_len, HS.out.ok.lT] at HI
      clear hlt
      cases hb : isB ((s.ni : Int) + 1) s.ns x
      · rw [hb] at HI
        have HN : Hid (s.landOk xs = false) := landOk_no HK.out (by rw [hx.out]; exact hb)
        clear hb
        go_wp2_with (go_at_call 38; refine (HI.out _ HSr0.out.bb).mono ?_; rintro e w1 ⟨rfl, b1⟩; have B1 := hid b1; clear b1)
        go_ret
        refine ⟨ret_int (by unfold SS.landE; rw [HN.out]; rfl), ?_, Chg.of_below (HW.out.trans (B1.out.mono HW.out.size)) _⟩
        unfold SS.landS
        rw [HN.out]
        exact HSr.out.call B1.out
      · rw [hb] at HI
        have HA2 : Hid (∀ j, j < k + 1 → isB ((s.ni : Int) + 1) s.ns (xs.getD j 0) = true) := fun j hj => by
          rcases Nat.lt_or_ge j k with c | c
          · exact HA.out j c
          · rw [show j = k by omega, hx.out]; exact hb
        clear hb
        go_wp2_with (go_at_call 38; refine (HI.out _ HSr0.out.bb).mono ?_; rintro e w1 ⟨rfl, b1⟩; have B1 := hid b1; clear b1)
        exact ⟨⟨k + 1, by omega, by go_num, HA2, hid (HW.out.trans (B1.out.mono HW.out.size))⟩, by simp [intOf]; omega⟩
    · have HN : Hid (s.landOk xs = true) := landOk_yes (fun j hj => HA.out j (by rw [hlen.out] at hj; omega))
      clear hk HA
      go_wp2
      go_loopw [25] (fun i wr => ∃ k : Nat, k ≤ len ∧ i = .int .i64 k ∧ Hid (IsS wr lo hi p { s with T := landL s.T (xs.take k) }) ∧ Hid (Chg w wr (Rg lo hi))) (fun i _ => len - (intOf i).toNat)
      case atStart => exact ⟨0, by omega, rfl, hid (HS.out.call HW.out), hid (Chg.of_below HW.out _)⟩
      case round =>
        clear HW hlt
        obtain ⟨k, hk, rfl, HT, HC⟩ := hrel
        by_cases hlt : k < len
        · obtain ⟨b, o, rfl, hcell⟩ := (HX.out.off HO.out HC.out).here k (by rw [hlen.out]; exact hlt)
          have hkl : (k : Int) < (len : Int) := by omega
          have HK : Hid (k < xs.length) := by show _; rw [hlen.out]; exact hlt
          have hx64 := hid (all64 H64.out k HK.out)
          have HLt := hid (landL_take HK.out s.T)
          generalize hx : xs.getD k 0 = x at *
          clear hx
          generalize hS : ({ s with T := landL s.T (xs.take k) } : SS) = S at HT
          have hST : Hid (landL s.T (xs.take k) = S.T) := by show _ = _; rw [← hS]
          have hSs : Hid (∀ v, ({ s with T := putT S.T x v } : SS) = S.setT x v) := fun v => by rw [← hS]; rfl
          replace hS := hid hS
          rw [hST.out] at HLt
          clear hlt
          cases hb : lateB S.T x
          · have HE : Hid (landL s.T (xs.take (k + 1)) = S.T) := by
              show _ = _
              rw [HLt.out]
              unfold land1
              rw [if_neg (fun e => by rw [lateB_yes e] at hb; cases hb)]
            have HB := hid hb
            clear hb
            go_wp2_with (go_at_call 37; refine (isLater_any x hx64.out _ HT.out).mono ?_; rintro e w1 ⟨rfl, b1⟩; have B1 := hid b1; clear b1; rw [HB.out])
            exact ⟨⟨k + 1, by omega, by go_num, hid (by rw [HE.out, ← hST.out, hS.out]; exact HT.out.call B1.out), hid (HC.out.trans (Chg.of_below B1.out No) (fun _ _ e => e) (fun _ _ e => False.elim e))⟩, by simp [intOf]; omega⟩
          · have HL : Hid (Late S.T x) := by
              show atT S.T x = 2
              unfold lateB at hb
              simpa using hb
            have HE : Hid (landL s.T (xs.take (k + 1)) = putT S.T x 0) := by
              show _ = _
              rw [HLt.out]
              unfold land1
              rw [if_pos (show atT S.T x = 2 from HL.out)]
            have HB := hid hb
            clear hb
            go_upto_region 11 with (go_at_call 37; refine (isLater_any x hx64.out _ HT.out).mono ?_; rintro e w1 ⟨rfl, b1⟩; have B1 := hid b1; clear b1; rw [HB.out])
            have HT1 := hid (HT.out.call B1.out)
            obtain ⟨pi, gi, pb, gb, m, h1⟩ := HT1.out
            have H1 := hid h1
            have h4 := h1.c4
            have HP : Hid (putE (bt S.T) x = 0) := if_pos (by rw [bt_len]; exact atT_in (T := S.T) (by rw [HL.out]; decide))
            clear h1
            go_upto_region 12 with (at_delete; go_must (refine wp_delS rfl _ _ rfl m (Late S.T) x rfl rfl H1.out.lt hx64.out ?_; intro w2 r1 r2 r3; have R1 := hid r1; have R2 := hid r2; clear r1 r2 r3))
            obtain ⟨⟨a1, a2, a3⟩, ⟨b1, b2, b3, b4⟩, d1, d2, d3⟩ := H1.out.ap
            have hc2 : w2.cell? ⟨p, 2, none⟩ = some (.pointer (some ⟨pb, 0, none⟩)) := by rw [cell_of_row _ _ _ _ _ _ (R2.out.keep H1.out.me a3)]; rfl
            have HB2 := hid (H1.out.bb.keep R2.out b4 d3)
            clear a1 a2 a3 b1 b2 b3 b4 d1 d2 d3
            go_wp2_with (go_at_call 36; refine (clear_any x _ HB2.out).mono ?_; rintro e w3 ⟨rfl, r3, r4⟩; have R3 := hid r3; have R4 := hid r4; clear r3 r4; rw [HP.out])
            have HF := land_step x w1 HL.out w2 w3 H1.out R1.out R2.out R3.out R4.out
            exact ⟨⟨k + 1, by omega, by go_num, hid (by rw [HE.out, hSs.out]; exact HF.1), hid ((HC.out.trans (Chg.of_below B1.out No) (fun _ _ e => e) (fun _ _ e => False.elim e)).trans HF.2 (fun _ _ e => e) (fun _ _ e => e))⟩, by simp [intOf]; omega⟩
        · have e : Hid (xs.take k = xs) := by show _ = _; rw [List.take_of_length_le (by rw [hlen.out]; omega)]
          clear hk
          go_wp2
          go_ret
          refine ⟨ret_int (by unfold SS.landE; rw [HN.out]; rfl), ?_, HC.out⟩
          unfold SS.landS
          rw [HN.out, if_pos rfl]
          have := HT.out
          rw [e.out] at this
          exact this

end Go.Proofs.Ytdddcllakjeplaa
