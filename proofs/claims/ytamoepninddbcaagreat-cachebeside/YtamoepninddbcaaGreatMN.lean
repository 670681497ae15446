/-
  Both caches, begun on disks that have something.
-/
import Derived.Test.YtamoepninddbcaaGreatMM
namespace Go.Proofs.YtamoepninddbcaaGreat
open Go.RowKit

structure Dn (d : D.St8) (i : Nat) : Prop where
  dn : d.dn = false
  ar : d.ar = false
  wr : d.wr = (i : Int)
  lf : d.lf = 0
theorem Dn.write {d : D.St8} {i n : Nat} {x : Int} (h : Dn d i) (hx : 0 ≤ x ∧ x < n) (s : List Int) : D.writeE d n x = 0 ∧ Dn (D.writeD d n x s) (i + 1) := by
  have hr : D.refE d n x = 0 := by
    unfold D.refE
    rw [if_neg (by rw [h.dn]; decide), if_neg (by omega)]
  have hn : ¬ (d.ar = true ∧ d.lf = 0) := fun e => by rw [h.ar] at e; cases e.1
  unfold D.writeE D.writeD
  rw [if_pos hr, if_neg hn, if_pos hr, if_neg hn]
  refine ⟨rfl, ⟨h.dn, h.ar, ?_, ?_⟩⟩
  · show d.wr + 1 = _
    rw [h.wr]
    push_cast
    rfl
  · show (if d.ar = true then d.lf - 1 else d.lf) = 0
    rw [if_neg (by rw [h.ar]; decide)]
    exact h.lf
def sizeP (x : Int) : Int := 8 + D.pickN x 25
theorem sizeP_bd (x : Int) : 8 ≤ sizeP x ∧ sizeP x ≤ 32 := by
  have := D.pickN_bd x (show (1 : Int) ≤ 25 by decide)
  unfold sizeP
  omega
set_option maxRecDepth 100000 in
set_option maxHeartbeats 1000000 in
theorem size_anyP (x : Int) (hx : I64 x) (w : World) : Calls Tryz.prog 12 #[.int .i64 x] w fun e w' => e = .returned (.int .i64 (sizeP x)) ∧ w' = w := by
  have HP := D.pick_any x 25 w hx (by decide) (by decide)
  have hb := D.pickN_bd x (show (1 : Int) ≤ 25 by decide)
  have HE : Hid (sizeP x = 8 + D.pickN x 25) := hid rfl
  generalize D.pickN x 25 = q at *
  generalize sizeP x = y at *
  obtain ⟨h0, h1⟩ := hb
  go_enter Tryz.func12, Tryz.ntmps12
  go_wp2_with (first
    | (go_at_call 26; go_must (refine HP.mono ?_; rintro e w' ⟨rfl, hw⟩; have hw := hw.symm; subst hw))
    | fail)
  go_ret
  exact ⟨ret_int HE.out.symm, rfl⟩
theorem sum_zeroM : ∀ l : List Nat, (l.map fun _ => 0).sum = 0
  | [] => rfl
  | _ :: l => by rw [List.map_cons, List.sum_cons, sum_zeroM l]
theorem tsum_none : tsum (fun _ => none) = 0 := by
  unfold tsum
  exact sum_zeroM _
theorem newZ_tc (d : D.St8) : tc (newZ d) = 0 := by
  unfold tc newZ
  simp only [List.length_nil]
  rw [tsum_none]
theorem lotB_none {k : Nat} : ¬ LotB (.slice none 0 0) [] k := fun hk => by
  rcases hk with e | ⟨j, x, e, _⟩
  · cases e
  · cases e
theorem none_at {P : Lst → Prop} (j : Nat) (x : Lst) (e : ([] : List Lst)[j]? = some x) : P x := by cases e
theorem bk_none {w : World} {ok : Nat} (h : w.heap[ok]? = some (.cells (BkC (.slice none 0 0) (.slice none 0 0) (.slice none 0 0)) 57 (0, 0))) : IsBk w ok (.slice none 0 0) (.slice none 0 0) (.slice none 0 0) [] [] [] :=
  ⟨h, Lot.nil _ _ _ _ _, Lot.nil _ _ _ _ _, Lot.nil _ _ _ _ _, fun _ hk => absurd hk lotB_none, rfl, Nat.zero_le _, Nat.zero_le _, fun j x e => none_at (P := fun x => x.n ≤ 17592186044000) j x e, fun j x e => none_at (P := fun x => x.n ≤ 17592186044000) j x e, fun j x e => none_at (P := fun x => x.n ≤ 100000000) j x e⟩
theorem bkB_none {ok k : Nat} (h : BkB ok (.slice none 0 0) (.slice none 0 0) (.slice none 0 0) [] [] [] k) : k = ok := by
  rcases h with e | e | e | e
  · exact e
  · exact absurd e lotB_none
  · exact absurd e lotB_none
  · exact absurd e lotB_none
open Classical in
/-- A new pair. -/
theorem pf_new {w0 w : World} {A : PA} {ρ : Nat → Option Role} {ρ' : Nat → Option RRole} {z : CSt} (hme : w.heap[A.pp]? = some (.cells (PrC A false) 36 (0, 0))) (hc : IsC w A.c A.p A.g A.n ρ z) (hr : IsRC w A.r A.rd A.n ρ' z) (hb : w.heap[A.ok]? = some (.cells (BkC (.slice none 0 0) (.slice none 0 0) (.slice none 0 0)) 57 (0, 0)))
    (h1 : ∀ k, Own ρ k → k ≠ A.pp ∧ k ≠ A.ok ∧ ¬ OwnR ρ' k) (h2 : ∀ k, OwnR ρ' k → k ≠ A.pp ∧ k ≠ A.ok) (h3 : A.ok ≠ A.pp) (hn : ∀ k, (k = A.pp ∨ k = A.ok ∨ Own ρ k ∨ OwnR ρ' k) → w0.heap.size ≤ k) (hch : Chg w0 w No) : PF w0 w A N0 z z false [] [] [] := by
  refine ⟨fun k => if k = A.pp then some .me else if k = A.ok then some .bk else if Own ρ k then some .pc else if OwnR ρ' k then some .pd else none, ⟨ρ, ρ', _, _, _, hme, hc, hr, bk_none hb, if_pos rfl, fun k hk => ?_, fun k hk => ?_, fun k hk => ?_, fun k q hk => ?_⟩, fun k hk => ?_, hch.mono fun _ _ e => e.elim⟩
  · obtain ⟨a, b, _⟩ := h1 k hk
    rw [if_neg a, if_neg b, if_pos hk]
  · obtain ⟨a, b⟩ := h2 k hk
    rw [if_neg a, if_neg b, if_neg (fun e => (h1 k e).2.2 hk), if_pos hk]
  · have e := bkB_none hk
    subst e
    rw [if_neg h3, if_pos rfl]
  · try simp only at hk
    split at hk
    · rename_i e
      rw [e]
      exact slt hme
    · split at hk
      · rename_i e
        rw [e]
        exact slt hb
      · split at hk
        · rename_i e
          exact hc.lt e
        · split at hk
          · rename_i e
            exact IsRC.lt hr e
          · cases hk
  · obtain ⟨q, hk⟩ := hk
    refine .inr (hn k ?_)
    try simp only at hk
    split at hk
    · rename_i e; exact .inl e
    · split at hk
      · rename_i e; exact .inr (.inl e)
      · split at hk
        · rename_i e; exact .inr (.inr (.inl e))
        · split at hk
          · rename_i e; exact .inr (.inr (.inr e))
          · cases hk
set_option maxRecDepth 100000 in
set_option maxHeartbeats 8000000 in
theorem begun_any (x : Int) (hx : I64 x) (w : World) : Calls Tryz.prog 5 #[.int .i64 x] w fun e w' => ∃ A z, e = .returned (.pointer (some ⟨A.pp, 0, none⟩)) ∧ PF w w' A N0 z z false [] [] [] ∧ AL z ∧ tc z = 0 ∧ z.d.wr ≤ 100 := by
  have HS := size_anyP x hx w
  obtain ⟨hb0, hb1⟩ := sizeP_bd x
  obtain ⟨n, hn⟩ : ∃ n : Nat, sizeP x = (n : Int) := ⟨(sizeP x).toNat, by omega⟩
  rw [hn] at HS hb0 hb1
  have HN1 := D.new_ok n w (by omega) (by omega)
  have HN2 := hid (fun W : World => D.rnew_ok n W (by omega) (by omega))
  have HBn : Hid (8 ≤ n ∧ n ≤ 32) := hid (by omega)
  have HZN := hid (fun w' : World => heap_alloc_new w' (.cells (D.SA D.Zs) 47))
  have HFull := hid (fun (m : Int) (w : World) => full_any m w)
  clear hn hx
  go_enter Tryz.func5, Tryz.ntmps5
  go_wp2_with (first
    | (go_at_call 12; go_must (refine HS.mono ?_; rintro e w' ⟨rfl, hw⟩; have hw := hw.symm; subst hw; clear HS))
    | (go_at_call 13; go_must (refine HN1.mono ?_; rintro e w1 ⟨p, g, rfl, hp0, hg0, hd1, hB1⟩; have HP0 := hid (And.intro hp0 hg0); have HD1 := hid hd1; have HC1 := hid (Chg.of_below hB1 No); have HR := HN2.out w1; clear HN1 hp0 hg0 hd1 hB1))
    | (go_at_call 14; go_must (refine HR.mono ?_; rintro e w2 ⟨rd, rk, rfl, hr0, hk0, hr1, hB2⟩; have HR0 := hid (And.intro hr0 hk0); have HR1 := hid hr1; have HC2 := hid (Chg.of_below hB2 No); clear HR hr0 hk0 hr1 hB2))
    | fail)
  obtain ⟨k9, c, X, hv9, hq9⟩ := D.IsQ.of_isR HR1.out
  have e9 := (Addr.mk.inj (Option.some.inj (Value.slice.inj hv9).1)).1
  subst e9
  have HQ2 := hid hq9
  have HD2 : Hid (D.IsD w2 p g n (D.D0 (D.zl (128 * n)))) := hid (isD_keep HD1.out HC2.out (fun e => e) (fun e => e))
  have HSep : Hid (p < w1.heap.size ∧ g < w1.heap.size ∧ w1.heap.size ≤ rd ∧ w1.heap.size ≤ rk) := hid ⟨slt HD1.out.me, slt HD1.out.row, HR0.out.1, HR0.out.2⟩
  have HCw2 : Hid (Chg w w2 No) := hid (HC1.out.tr HC2.out)
  have HDn0 : Hid (Dn (D.D0 (D.zl (128 * n))) 0) := hid ⟨rfl, rfl, rfl, rfl⟩
  clear hv9 hq9
  have n0 : (0 : Int) ≤ (n : Int) := by omega
  go_loopw [8] (fun x8 wr => ∃ (i : Nat) (d : D.St8), x8 = .int .i64 (i : Int) ∧ i ≤ n ∧ Hid (Dn d i) ∧ Hid (D.IsD wr p g n d) ∧ Hid (D.IsQ wr rd rk n c X d) ∧ Hid (Chg w wr No) ∧ Hid (w2.heap.size ≤ wr.heap.size)) (fun x8 _ => n - (intOf x8).toNat)
  case atStart => exact ⟨0, _, rfl, Nat.zero_le _, HDn0, HD2, HQ2, HCw2, hid (Nat.le_refl _)⟩
  case round =>
    obtain ⟨i, d, rfl, hi, HDn, HDd, HQd, HCw, HSz⟩ := hrel
    have i0 : (0 : Int) ≤ (i : Int) := by omega
    by_cases hlt : i < n
    · have i1 : (i : Int) < (n : Int) := by omega
      have HF := HFull.out (100 + (i : Int)) wr
      obtain ⟨hw0, hdn1⟩ := HDn.out.write (n := n) (x := (i : Int)) ⟨i0, i1⟩ (fullS (100 + (i : Int)))
      have HD1' := hid hdn1
      have HE0 := hid hw0
      have HWr : Hid (0 ≤ d.wr ∧ d.wr < 4611686018427387904 ∧ 0 ≤ d.lf ∧ d.lf ≤ 9223372036854775807) := hid (by
        have h1 := HDn.out.wr
        have h2 := HDn.out.lf
        have := HBn.out
        omega)
      clear hw0 hdn1
      go_wp2_with (first
        | (go_at_call 15; go_must (refine HF.mono ?_; rintro e w3 ⟨rfl, hc3⟩; have HC3 := hid hc3; clear HF hc3))
        | (refine D.store_sec rfl _ _ rfl w3.heap.size rfl (fullS (100 + (i : Int))) rfl (fullS_len _) D.Zs D.Zs_len (HZN.out w3) ?_; intro w4 hw4; have HB4 := hid hw4.here; have HC4 : Hid (Chg wr w4 No) := hid (HC3.out.trans ((Chg.alloc w3 (.cells (D.SA D.Zs) 47) No).trans (wrote_chg hw4) (c := No) (fun _ _ e => e) (fun j hj e => by omega)) (fun _ _ e => e) (fun _ _ e => e)); have HS3 := hid HC3.out.size; have HW1 := D.write_any (i : Int) (fullS (100 + (i : Int))) w4 (isD_keep HDd.out HC4.out (fun e => e) (fun e => e)) (fullS_len _) HWr.out.1 HWr.out.2.1 HWr.out.2.2; rw [HE0.out] at HW1; clear hw4)
        | (refine D.load_sec rfl _ rfl w3.heap.size rfl (fullS (100 + (i : Int))) (fullS_len _) HB4.out ?_)
        | (refine D.load_sec_g _ rfl w3.heap.size rfl (fullS (100 + (i : Int))) (fullS_len _) HB5.out (by rfl) ?_)
        | (go_at_call 16; go_must (refine HW1.mono ?_; rintro e w5 ⟨rfl, hd5, hm5⟩; have HD5 := hid hd5; have HC5 : Hid (Chg w4 w5 (fun k => k = p ∨ k = g)) := hid ((Chg.of_mod hm5).mono fun j _ e => by simpa using e); have HB5 := hid (HC5.out.keep HB4.out (fun e => by have := HSep.out; have := HC2.out.size; have := HSz.out; have := HS3.out; omega)); have HW2 := D.rwrite_any (i : Int) (fullS (100 + (i : Int))) w5 (isQ_keep (HQd.out) (HC4.out.trans HC5.out (fun _ _ e => e.elim) (fun _ _ e => e)) (fun e => by have := HSep.out; omega) (fun e => by have := HSep.out; omega)) (fullS_len _) HWr.out.1 HWr.out.2.1 HWr.out.2.2; rw [HE0.out] at HW2; clear HW1 hd5 hm5))
        | (go_at_call 17; go_must (refine HW2.mono ?_; rintro e w6 ⟨rfl, hq6, hm6⟩; have HQ6 := hid hq6; have HC6 : Hid (Chg w5 w6 (fun k => k = rd ∨ k = rk)) := hid ((Chg.of_mod hm6).mono fun j _ e => by simpa using e); clear HW2 hq6 hm6))
        | fail)
      have HD6 : Hid (D.IsD w6 p g n (D.writeD d n (i : Int) (fullS (100 + (i : Int))))) := hid (isD_keep HD5.out HC6.out (fun e => by have := HSep.out; omega) (fun e => by have := HSep.out; omega))
      have HCw6 : Hid (Chg w w6 No) := hid (by
        have hs0 := HP0.out
        have hs1 := HR0.out
        have hs2 := HC1.out.size
        exact ((HCw.out.tr HC4.out).trans HC5.out (fun _ _ e => e) (fun j hj e => by omega)).trans HC6.out (fun _ _ e => e) (fun j hj e => by omega))
      exact ⟨⟨i + 1, _, by go_num, by omega, HD1', HD6, HQ6, HCw6, hid (by have := HSz.out; have := HC4.out.size; have := HC5.out.size; have := HC6.out.size; omega)⟩, by simp [intOf]; omega⟩
    · have i1 : ¬ (i : Int) < (n : Int) := by omega
      have hin : i = n := by omega
      have hw0 : 0 ≤ d.wr := by have := HDn.out.wr; omega
      have hlf : 0 ≤ d.lf ∧ d.lf ≤ 9223372036854775807 := by have := HDn.out.lf; omega
      have HX := hid (And.intro hw0 hlf)
      have HNC := newC_any HDd.out hw0 hlf
      have HWn : Hid (d.wr ≤ 100 ∧ d.dn = false) := hid ⟨by have := HDn.out.wr; have := HBn.out; omega, HDn.out.dn⟩
      clear hw0 hlf hin
      go_wp2_with (first
        | (go_at_call 18; go_must (refine HNC.mono ?_; rintro e w7 ⟨cc, ρ, rfl, hc7, ho7, hs7, hg7⟩; have HC7 := hid hc7; have HO7 := hid ho7; have HS7 := hid hs7; have HG7 := hid hg7; have HNR := rnewC_any (isQ_keep HQd.out hg7 (fun e => e) (fun e => e)) HX.out.1 HX.out.2; clear HNC hc7 ho7 hs7 hg7))
        | (go_at_call 19; go_must (refine HNR.mono ?_; rintro e w8 ⟨rr, ρ', rfl, hr8, ho8, hs8, hg8⟩; have HR8 := hid hr8; have HO8 := hid ho8; have HS8 := hid hs8; have HG8 := hid hg8; clear HNR hr8 ho8 hs8 hg8))
        | fail)
      go_ret
      have hsz := HSz.out
      have hsep := HSep.out
      have hs2 := HC2.out.size
      have hs7 := HG7.out.size
      have hs8 := HG8.out.size
      have hp0 := HP0.out
      have hq1 := HC1.out.size
      have hrk : rk < w2.heap.size := slt HQ2.out.row
      have hrd : rd < w2.heap.size := slt HQ2.out.me
      have hch : Chg w8 ((w8.alloc (.cells #[.slice none 0 0, .slice none 0 0, .slice none 0 0] 57)).alloc (.cells #[.pointer (some ⟨p, 0, none⟩), .pointer (some ⟨cc, 0, none⟩), .pointer (some ⟨rd, 0, none⟩), .pointer (some ⟨rr, 0, none⟩), .bool false, .pointer (some ⟨w8.heap.size, 0, none⟩)] 36)) No := (Chg.alloc _ _ No).tr (Chg.alloc _ _ No)
      have ho7 : ∀ k, Own ρ k → (k < w1.heap.size ∧ w.heap.size ≤ k ∨ wr.heap.size ≤ k ∧ w.heap.size ≤ k) ∧ k < w7.heap.size := fun k hk => by
        refine ⟨?_, HC7.out.lt hk⟩
        rcases HO7.out k hk with e | e | e
        · exact .inl (by omega)
        · exact .inl (by omega)
        · exact .inr (by omega)
      have ho8 : ∀ k, OwnR ρ' k → (w1.heap.size ≤ k ∧ k < w2.heap.size ∨ w7.heap.size ≤ k) ∧ k < w8.heap.size := fun k hk => by
        refine ⟨?_, IsRC.lt HR8.out hk⟩
        rcases HO8.out k hk with e | e | e
        · exact .inl (by omega)
        · exact .inl (by omega)
        · exact .inr e
      refine ⟨⟨w8.heap.size + 1, p, cc, g, n, rd, rr, w8.heap.size⟩, newZ d, by simp, pf_new (w0 := w) (ρ := ρ) (ρ' := ρ') ?_ ?_ ?_ ?_ (fun k hk => ?_) (fun k hk => ?_) (by show w8.heap.size ≠ w8.heap.size + 1; omega) (fun k hk => ?_) ?_, ⟨rfl, HWn.out.2⟩, newZ_tc d, HWn.out.1⟩
      · show (World.alloc _ _).heap[w8.heap.size + 1]? = _
        rw [heap_alloc_if, if_pos (by simp)]
        rfl
      · exact (HC7.out.call HG8.out).call hch
      · exact HR8.out.call hch
      · show (World.alloc _ _).heap[w8.heap.size]? = _
        rw [heap_alloc_if, if_neg (by simp), heap_alloc_if, if_pos rfl]
        rfl
      · obtain ⟨h1, h2⟩ := ho7 k hk
        refine ⟨by show k ≠ w8.heap.size + 1; omega, by show k ≠ w8.heap.size; omega, fun e => ?_⟩
        obtain ⟨h3, h4⟩ := ho8 k e
        omega
      · obtain ⟨h3, h4⟩ := ho8 k hk
        exact ⟨by show k ≠ w8.heap.size + 1; omega, by show k ≠ w8.heap.size; omega⟩
      · rcases hk with e | e | e | e
        · have e : k = w8.heap.size + 1 := e
          omega
        · have e : k = w8.heap.size := e
          omega
        · have := ho7 k e
          omega
        · have := ho8 k e
          omega
      · exact ((HCw.out.tr HG7.out).tr HG8.out).tr hch
end Go.Proofs.YtamoepninddbcaaGreat
