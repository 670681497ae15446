/-
  The document's cache: what all writes is what the program's list does; Drain, Flush, Sync, Drop.
-/
import Derived.Test.YtamoepninddbcaaGreatKH
namespace Go.Proofs.YtamoepninddbcaaGreat
open Go.RowKit

open Classical in
/-- Of some numbers the first one that is in a list and may land; below 0: none. -/
noncomputable def lstN (z : CSt) (l L : List Int) : Int := match L.find? (fun y => decide (y ∈ l ∧ FreeE z.E y)) with | some x => x | none => -1
open Classical in
theorem lstN_snoc {z : CSt} {l L : List Int} (h0 : ∀ x ∈ L, (0 : Int) ≤ x) (y : Int) : lstN z l (L ++ [y]) = if lstN z l L < 0 ∧ y ∈ l ∧ FreeE z.E y then y else lstN z l L := by
  unfold lstN
  rw [List.find?_append]
  cases hf : L.find? (fun y => decide (y ∈ l ∧ FreeE z.E y)) with
  | some x =>
    have := h0 x (List.mem_of_find?_eq_some hf)
    simp only [Option.some_or]
    rw [if_neg (by omega)]
  | none =>
    simp only [Option.none_or]
    by_cases h : y ∈ l ∧ FreeE z.E y
    · rw [List.find?_cons_of_pos (by simpa using h), if_pos ⟨by decide, h⟩]
    · rw [List.find?_cons_of_neg (by simpa using h), if_neg (fun e => h e.2)]
      rfl
open Classical in
theorem lstN_in {z : CSt} {l L : List Int} (h : ¬ lstN z l L < 0) : L.find? (fun y => decide (y ∈ l ∧ FreeE z.E y)) = some (lstN z l L) ∧ lstN z l L ∈ L ∧ lstN z l L ∈ l ∧ FreeE z.E (lstN z l L) := by
  unfold lstN at h ⊢
  cases hf : L.find? (fun y => decide (y ∈ l ∧ FreeE z.E y)) with
  | some x =>
    have := List.find?_some hf
    simp only [decide_eq_true_eq] at this
    exact ⟨rfl, List.mem_of_find?_eq_some hf, this⟩
  | none => rw [hf] at h; exact absurd (by decide) h
open Classical in
theorem lstN_out {z : CSt} {l L : List Int} (h0 : ∀ x ∈ L, (0 : Int) ≤ x) (h : lstN z l L < 0) : L.find? (fun y => decide (y ∈ l ∧ FreeE z.E y)) = none := by
  unfold lstN at h
  cases hf : L.find? (fun y => decide (y ∈ l ∧ FreeE z.E y)) with
  | some x =>
    rw [hf] at h
    have := h0 x (List.mem_of_find?_eq_some hf)
    have h : x < 0 := h
    omega
  | none => rfl
open Classical in
/-- Of a list all that are dirty are written, the least one that may land first. -/
inductive RAll (n : Nat) (l : List Int) : CSt → CSt × Int → Prop
  | stop (z : CSt) : (secs z.dirty).find? (fun y => decide (y ∈ l ∧ FreeE z.E y)) = none → RAll n l z (z, 0)
  | bad (z : CSt) (x : Int) : (secs z.dirty).find? (fun y => decide (y ∈ l ∧ FreeE z.E y)) = some x → (wrC n z x).2 ≠ 0 → RAll n l z (wrC n z x)
  | go (z : CSt) (x : Int) (r : CSt × Int) : (secs z.dirty).find? (fun y => decide (y ∈ l ∧ FreeE z.E y)) = some x → (wrC n z x).2 = 0 → RAll n l (wrC n z x).1 r → RAll n l z r
def lenP (w : World) (r : Nat) : Nat := match w.cell? ⟨r, 1, none⟩ with | some (.slice _ m _) => m | _ => 0
theorem secs_pos {p : Int → Prop} : ∀ x ∈ secs p, (0 : Int) ≤ x := fun _ hx => (secs_mem.1 hx).1.1
section
variable {r rd n : Nat} {ρ : Nat → Option RRole} {z : CSt}
theorem IsRC0.lenP {w : World} {rk rc : Nat} {X : Array Value} {v0 v1 lv : Value} {tv : Int → Value} {W : List (Int × Int)} (h : IsRC0 w r rd rk n rc X v0 v1 lv tv W ρ z) : lenP w r = (secs z.dirty).length := by
  obtain ⟨a, cp, hv⟩ := row_shK h.it
  unfold Go.Proofs.YtamoepninddbcaaGreat.lenP
  rw [h.c1, hv]
theorem wrC_less {x : Int} (hi : CInv n z) (hx : z.dirty x) (h0 : (wrC n z x).2 = 0) : (secs (wrC n z x).1.dirty).length < (secs z.dirty).length := by
  obtain ⟨q, hq, hlo, e⟩ := wrC_zero h0 hx (hi.ok x hx)
  rw [e]
  have h1 : secs (forC ⟨D.writeD z.d n x q.1, z.E, z.P, z.ld ++ q.2, z.lost⟩ x).dirty = flK x (secs z.dirty) := (secs_for ⟨D.writeD z.d n x q.1, z.E, z.P, z.ld ++ q.2, z.lost⟩ x).symm
  rw [h1]
  unfold flK
  exact List.length_filter_lt_length_iff_exists.2 ⟨x, secs_mem.2 ⟨hi.sec hx, hx⟩, by simp⟩
open Classical in
set_option maxHeartbeats 8000000 in
set_option maxRecDepth 100000 in
theorem rall_any (l : List Int) (a : Option Addr) (ca : Nat) (w : World) (h : IsRC w r rd n ρ z) (hla : LAt w a l) (hll : l.length ≤ 17592186044000) (hln : ∀ g, a = some ⟨g, 0, none⟩ → ¬ OwnR ρ g) (ht : TB z) (hw : z.d.wr < 4611686018427380000) :
    Calls Tryz.prog 72 #[.pointer (some ⟨r, 0, none⟩), .slice a l.length ca] w fun e w' => ∃ res, RAll n l z res ∧ e = .returned (.int .i64 res.2) ∧ RPost w w' r rd n ρ res.1 := by
  have HLa := hid hla
  have HLl := hid hll
  have HLn := hid hln
  have H := hid h
  obtain ⟨nl, hnl⟩ : ∃ y, y = l.length := ⟨_, rfl⟩
  rw [← hnl]
  have HNl := hid hnl
  have HT := hid ht
  have HW := hid hw
  clear h hla hll hln hnl ht hw
  go_enter Tryz.func72, Tryz.ntmps72
  go_wp2_with fail
  go_loopw [5, 6, 7] (fun _ _ _ wr => Hid (∃ z', RPost w wr r rd n ρ z' ∧ (∀ res, RAll n l z' res → RAll n l z res) ∧ TB z' ∧ z'.d.wr + (secs z'.dirty).length ≤ z.d.wr + (secs z.dirty).length)) (fun _ _ _ wr => lenP wr r)
  case atStart => exact hid ⟨z, RPost.same H.out (Chg.refl w No), fun _ e => e, HT.out, Int.le_refl _⟩
  case round =>
    obtain ⟨z', ⟨ρ', hI, ho, hg⟩, hAl, htb, hwr⟩ := hrel.out
    clear hrel
    have HO := hid ho
    have HG := hid hg
    have HAl := hid hAl
    have HTb := hid htb
    have HWr := hid hwr
    have HI := hid hI
    have HLd : Hid (∀ x, Calls Tryz.prog 75 #[.pointer (some ⟨r, 0, none⟩), .int .i64 x] wr fun e w' => e = .returned (.bool (decide (¬ FreeE z'.E x))) ∧ w' = wr) := hid (fun x => rled_any x wr hI)
    have HAm : Hid (∀ x, Calls Tryz.prog 101 #[.slice a nl ca, .int .i64 x] wr fun e w' => e = .returned (.bool (decide (x ∈ l))) ∧ w' = wr) := hid (fun x => by
      have := ramong_any l a ca x wr (HLa.out.keep hg HLn.out) HLl.out
      rw [← HNl.out] at this
      exact this)
    obtain ⟨rk, rc, X, v0, v1, lv, tv, W, hI0⟩ := hI
    have hn4 := secs_len z'.dirty
    obtain ⟨m, hm⟩ : ∃ y, y = (secs z'.dirty).length := ⟨_, rfl⟩
    obtain ⟨ai, cp, hpv⟩ := row_shK hI0.it
    have q1 := hI0.c1
    rw [hpv, ← hm] at q1
    have n1 : (m : Int) ≤ 4096 := by omega
    have HM := hid hm
    have HI0 := hid hI0
    have HPv := hid hpv
    have HLp := hid hI0.lenP
    clear ho hg hAl htb hwr hm hI0 hpv hn4
    go_wp2_with fail
    go_loopw [5, 6] (fun x5 x6 w2 => ∃ (i : Nat), x5 = .int .i64 (lstN z' l ((secs z'.dirty).take i)) ∧ x6 = .int .i64 (i : Int) ∧ i ≤ m ∧ w2 = wr) (fun _ x6 _ => m - (intOf x6).toNat)
    case atStart => exact ⟨0, by rw [List.take_zero]; rfl, rfl, Nat.zero_le _, rfl⟩
    case round =>
      obtain ⟨i, rfl, rfl, hi, rfl⟩ := hrel
      have i0 : (0 : Int) ≤ (i : Int) := by omega
      by_cases hlt : i < m
      · have i1 : (i : Int) < (m : Int) := by omega
        obtain ⟨y, he⟩ : ∃ e, (secs z'.dirty)[i]? = some e := ⟨_, List.getElem?_eq_getElem (by rw [← HM.out]; exact hlt)⟩
        obtain ⟨ga, cp2, h1, _, p1, _⟩ := HI0.out.item he
        rw [HPv.out, ← HM.out] at h1
        cases h1
        have HS := lstN_snoc (z := z') (l := l) (L := (secs z'.dirty).take i) (fun x hx => secs_pos x (List.mem_of_mem_take hx)) y
        rw [← take_one he] at HS
        have HS := hid HS
        clear he
        generalize hv : lstN z' l ((secs z'.dirty).take i) = v at *
        have hAm := HAm.out y
        have hLd := HLd.out y
        by_cases hv0 : v < 0
        · by_cases hin : y ∈ l
          · rw [decide_eq_true hin] at hAm
            by_cases hf : FreeE z'.E y
            · rw [decide_eq_false (fun c => c hf)] at hLd
              have HS2 := hid (HS.out.trans (if_pos ⟨hv0, hin, hf⟩))
              clear hin hf
              go_wp2_with (first
                | (go_at_call 101; go_must (refine hAm.mono ?_; rintro e w' ⟨rfl, hw⟩; have hw := hw.symm; subst hw))
                | (go_at_call 75; go_must (refine hLd.mono ?_; rintro e w' ⟨rfl, hw⟩; have hw := hw.symm; subst hw))
                | fail)
              exact ⟨⟨i + 1, by rw [HS2.out], by go_num, by omega, trivial⟩, by simp [intOf]; omega⟩
            · rw [decide_eq_true (show ¬ FreeE z'.E y from hf)] at hLd
              have HS2 := hid (HS.out.trans (if_neg (fun e => hf e.2.2)))
              clear hin hf
              go_wp2_with (first
                | (go_at_call 101; go_must (refine hAm.mono ?_; rintro e w' ⟨rfl, hw⟩; have hw := hw.symm; subst hw))
                | (go_at_call 75; go_must (refine hLd.mono ?_; rintro e w' ⟨rfl, hw⟩; have hw := hw.symm; subst hw))
                | fail)
              exact ⟨⟨i + 1, by rw [HS2.out], by go_num, by omega, trivial⟩, by simp [intOf]; omega⟩
          · rw [decide_eq_false hin] at hAm
            have HS2 := hid (HS.out.trans (if_neg (fun e => hin e.2.1)))
            clear hin
            go_wp2_with (first
              | (go_at_call 101; go_must (refine hAm.mono ?_; rintro e w' ⟨rfl, hw⟩; have hw := hw.symm; subst hw))
              | fail)
            exact ⟨⟨i + 1, by rw [HS2.out], by go_num, by omega, trivial⟩, by simp [intOf]; omega⟩
        · have HS2 := hid (HS.out.trans (if_neg (fun e => hv0 e.1)))
          go_wp2_with fail
          exact ⟨⟨i + 1, by rw [HS2.out], by go_num, by omega, trivial⟩, by simp [intOf]; omega⟩
      · have i1 : ¬ (i : Int) < (m : Int) := by omega
        have HTk : Hid ((secs z'.dirty).take i = secs z'.dirty) := hid (List.take_of_length_le (by rw [← HM.out]; omega))
        rw [HTk.out]
        generalize hv : lstN z' l (secs z'.dirty) = v at *
        by_cases hv0 : v < 0
        · have hst := lstN_out (z := z') (l := l) secs_pos (by rw [hv]; exact hv0)
          have HSt := hid (HAl.out _ (RAll.stop z' hst))
          clear hst
          go_wp2_with fail
          go_ret
          exact ⟨_, _, HSt.out, rfl, ρ', HI.out, HO.out, HG.out⟩
        · obtain ⟨hf1, hf2, hf3, hf4⟩ := lstN_in (z := z') (l := l) (by rw [hv]; exact hv0)
          rw [hv] at hf1 hf2 hf3 hf4
          have hdv : z'.dirty v := (secs_mem.1 hf2).2
          have hWb : z'.d.wr < 4611686018427387904 := by
            have := HW.out
            have h1 := HWr.out
            have h2 := secs_len z.dirty
            omega
          have hWrt := rwrite_any v _ HI.out hdv HTb.out hWb
          have HDv := hid hdv
          have HF1 := hid hf1
          clear hf1 hf2 hf3 hf4 hdv hWb
          rcases wrC_code HI.out.inv HDv.out with h0 | ⟨h0, _⟩
          · rw [h0] at hWrt
            have H0 := hid h0
            clear h0
            go_wp2_with (first
              | (go_at_call 76; go_must (refine hWrt.mono ?_; rintro e w5 ⟨rfl, hP5⟩; have HP5 := hid hP5; clear hP5))
              | fail)
            obtain ⟨ρ5, hI5, ho5, hg5⟩ := HP5.out
            have hls := wrC_less HI.out.inv HDv.out H0.out
            refine ⟨hid ⟨(wrC n z' v).1, RPost.and HO.out HG.out HP5.out, fun res hr => HAl.out res (RAll.go z' v res HF1.out H0.out hr), wrC_tb HI.out.inv v HTb.out, ?_⟩, ?_⟩
            · have := (wrC_wr (n := n) (z := z') v).2
              have := HWr.out
              omega
            · obtain ⟨_, _, _, _, _, _, _, _, h9⟩ := hI5
              rw [h9.lenP, HLp.out]
              exact hls
          · rw [h0] at hWrt
            have HSt := hid (HAl.out _ (RAll.bad z' v HF1.out (by rw [h0]; decide)))
            have H0 := hid h0
            clear h0
            go_wp2_with (first
              | (go_at_call 76; go_must (refine hWrt.mono ?_; rintro e w5 ⟨rfl, hP5⟩; have HP5 := hid hP5; clear hP5))
              | fail)
            go_ret
            exact ⟨_, HSt.out, congrArg (fun c => Ending.returned (Value.int IntKind.i64 c)) H0.out.symm, RPost.and HO.out HG.out HP5.out⟩
end
end Go.Proofs.YtamoepninddbcaaGreat

namespace Go.Proofs.YtamoepninddbcaaGreat
open Go.RowKit

theorem find_min {p : Int → Bool} : ∀ {L : List Int} {x : Int}, L.Pairwise (· < ·) → L.find? p = some x → ∀ y ∈ L, y < x → p y = false
  | [], _, _, h, _, _, _ => by cases h
  | a :: L, x, hu, h, y, hy, hlt => by
    obtain ⟨h1, h2⟩ := List.pairwise_cons.1 hu
    cases hp : p a with
    | true =>
      rw [List.find?_cons_of_pos hp] at h
      cases h
      rcases List.mem_cons.1 hy with e | e
      · omega
      · have := h1 y e; omega
    | false =>
      rw [List.find?_cons_of_neg (by rw [hp]; decide)] at h
      rcases List.mem_cons.1 hy with e | e
      · rw [e]; exact hp
      · exact find_min h2 h y e hlt
theorem find_is {p : Int → Bool} : ∀ {L : List Int} {x : Int}, L.Pairwise (· < ·) → x ∈ L → p x = true → (∀ y ∈ L, y < x → p y = false) → L.find? p = some x
  | [], _, _, h, _, _ => by cases h
  | a :: L, x, hu, h, hp, hm => by
    obtain ⟨h1, h2⟩ := List.pairwise_cons.1 hu
    rcases List.mem_cons.1 h with e | e
    · subst e
      exact List.find?_cons_of_pos hp
    · rw [List.find?_cons_of_neg (by rw [hm a (List.mem_cons_self ..) (h1 x e)]; decide)]
      exact find_is h2 e hp fun y hy => hm y (List.mem_cons_of_mem _ hy)
theorem way_del {E : Int → Int → Prop} {y a b : Int} (hf : FreeE E y) (h : Way E a b) (ha : a ≠ y) : Way (delE E y) a b := by
  induction h with
  | @one a b e => exact .one ⟨e, ha, fun c => hf a (by rw [← c]; exact e)⟩
  | @more a b c e _ ih =>
    have hb : b ≠ y := fun c => hf a (by rw [← c]; exact e)
    exact .more ⟨e, ha, hb⟩ (ih hb)
theorem wAll_none {n : Nat} {z : CSt} {L : List Int} (h : ∀ y ∈ L, ¬ FreeE z.E y) : ∀ k, wAll n k z L = (z, 0)
  | 0 => rfl
  | k + 1 => by
    unfold wAll
    rw [List.find?_eq_none.2 (fun y hy => by simpa using h y hy)]
theorem wrC_dirty {n : Nat} {z : CSt} {x : Int} (hi : CInv n z) (hx : z.dirty x) (h0 : (wrC n z x).2 = 0) : (∀ y, (wrC n z x).1.dirty y ↔ z.dirty y ∧ y ≠ x) ∧ (wrC n z x).1.E = delE z.E x := by
  obtain ⟨q, hq, hlo, e⟩ := wrC_zero h0 hx (hi.ok x hx)
  rw [e]
  refine ⟨fun y => ?_, rfl⟩
  unfold CSt.dirty forC
  simp only
  by_cases h : y = x
  · rw [if_pos h]; simp [h]
  · rw [if_neg h]; simp [h]
theorem RAll.is {n : Nat} {l : List Int} {z : CSt} {res : CSt × Int} (h : RAll n l z res) : ∀ R T : List Int, R.Pairwise (· < ·) → (∀ y, (y ∈ l ∧ z.dirty y) ↔ (y ∈ R ∨ y ∈ T)) → (T = [] ∨ ∃ x, T = [x] ∧ ∀ a ∈ R, a ≠ x ∧ Way z.E a x) → CInv n z → res = wAll n (R ++ T).length z (R ++ T) := by
  classical
  have key : ∀ (z : CSt) (x : Int) (R T : List Int), (secs z.dirty).find? (fun y => decide (y ∈ l ∧ FreeE z.E y)) = some x → R.Pairwise (· < ·) → (∀ y, (y ∈ l ∧ z.dirty y) ↔ (y ∈ R ∨ y ∈ T)) → (T = [] ∨ ∃ x, T = [x] ∧ ∀ a ∈ R, a ≠ x ∧ Way z.E a x) → CInv n z →
      z.dirty x ∧ FreeE z.E x ∧ (R ++ T).find? (fun y => decide (FreeE z.E y)) = some x ∧ (x ∈ R ∨ R = [] ∧ T = [x]) := by
    intro z x R T hf hu hm hT hi
    have h1 := List.find?_some hf
    simp only [decide_eq_true_eq] at h1
    have h2 := (secs_mem.1 (List.mem_of_find?_eq_some hf)).2
    have hmin := find_min (secs_up z.dirty) hf
    refine ⟨h2, h1.2, ?_⟩
    rcases (hm x).1 ⟨h1.1, h2⟩ with hR | hTx
    · refine ⟨?_, .inl hR⟩
      rw [List.find?_append, find_is hu hR (by simpa using h1.2) (fun y hy hlt => ?_)]
      · rfl
      · have h3 := (hm y).2 (.inl hy)
        have h4 := hmin y (secs_mem.2 ⟨hi.sec h3.2, h3.2⟩) hlt
        simp only [decide_eq_false_iff_not] at h4 ⊢
        exact fun c => h4 ⟨h3.1, c⟩
    · rcases hT with e | ⟨x0, e, hw⟩
      · rw [e] at hTx; cases hTx
      · rw [e] at hTx
        have ex := List.mem_singleton.1 hTx
        subst ex
        have hR : R = [] := by
          cases R with
          | nil => rfl
          | cons a R =>
            obtain ⟨c, hc⟩ := ((hw a (List.mem_cons_self ..)).2).last
            exact absurd hc (h1.2 c)
        subst hR
        subst e
        exact ⟨List.find?_cons_of_pos (by simpa using h1.2), .inr ⟨rfl, rfl⟩⟩
  induction h with
  | stop z hf =>
    intro R T hu hm hT hi
    rw [wAll_none (fun y hy hfr => ?_)]
    have h3 := (hm y).2 (List.mem_append.1 hy)
    have := List.find?_eq_none.1 hf y (secs_mem.2 ⟨hi.sec h3.2, h3.2⟩)
    simp only [decide_eq_true_eq] at this
    exact this ⟨h3.1, hfr⟩
  | bad z x hf hb =>
    intro R T hu hm hT hi
    obtain ⟨_, _, h3, h4⟩ := key z x R T hf hu hm hT hi
    obtain ⟨k, hk⟩ : ∃ k, (R ++ T).length = k + 1 := ⟨(R ++ T).length - 1, by
      have := List.length_pos_of_mem (List.mem_of_find?_eq_some h3)
      omega⟩
    rw [hk]
    unfold wAll
    rw [h3]
    simp only
    rw [if_neg hb]
  | go z x r hf h0 _ ih =>
    intro R T hu hm hT hi
    obtain ⟨hd, hfr, h3, h4⟩ := key z x R T hf hu hm hT hi
    have hmem := List.mem_of_find?_eq_some h3
    obtain ⟨k, hk⟩ : ∃ k, (R ++ T).length = k + 1 := ⟨(R ++ T).length - 1, by
      have := List.length_pos_of_mem hmem
      omega⟩
    have hle := List.length_erase_of_mem hmem
    obtain ⟨hD, hE⟩ := wrC_dirty hi hd h0
    rw [hk]
    unfold wAll
    rw [h3]
    simp only
    rw [if_pos h0]
    have hnd : R.Nodup := hu.imp fun {a b} e => by omega
    rcases h4 with hR | ⟨hR, hTx⟩
    · have hxT : x ∉ T := fun hxT => by
        rcases hT with e | ⟨x0, e, hw⟩
        · rw [e] at hxT; cases hxT
        · rw [e] at hxT
          exact (hw x hR).1 (List.mem_singleton.1 hxT)
      have ea : (R ++ T).erase x = R.erase x ++ T := List.erase_append_left T hR
      rw [ea] at hle ⊢
      have := ih (R.erase x) T (List.Pairwise.sublist List.erase_sublist hu) (fun y => ?_) ?_ (wrC_inv hi x)
      · rw [this, show (R.erase x ++ T).length = k by omega]
      · rw [hD, ← and_assoc, hm, hnd.mem_erase_iff]
        constructor
        · rintro ⟨e | e, e2⟩
          · exact .inl ⟨e2, e⟩
          · exact .inr e
        · rintro (⟨e2, e⟩ | e)
          · exact ⟨.inl e, e2⟩
          · exact ⟨.inr e, fun c => hxT (c ▸ e)⟩
      · rcases hT with e | ⟨x0, e, hw⟩
        · exact .inl e
        · refine .inr ⟨x0, e, fun a ha => ?_⟩
          have ha := hnd.mem_erase_iff.1 ha
          have := hw a ha.2
          exact ⟨this.1, by rw [hE]; exact way_del hfr this.2 ha.1⟩
    · subst hR
      subst hTx
      have ea : ([] ++ [x] : List Int).erase x = [] ++ [] := by simp
      rw [ea] at hle ⊢
      have := ih [] [] List.Pairwise.nil (fun y => ?_) (.inl rfl) (wrC_inv hi x)
      · rw [this, show ([] ++ [] : List Int).length = k by have h9 : 1 = k + 1 := hk; show 0 = k; omega]
      · rw [hD, ← and_assoc, hm]
        simp only [List.not_mem_nil, false_or, List.mem_singleton, or_self, iff_false]
        rintro ⟨e1, e2⟩
        exact e2 e1
end Go.Proofs.YtamoepninddbcaaGreat
