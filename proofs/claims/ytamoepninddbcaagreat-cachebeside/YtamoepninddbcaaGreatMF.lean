/-
  A question for the edges to both caches; whatever is asked: one answer.
-/
import Derived.Test.YtamoepninddbcaaGreatME
namespace Go.Proofs.YtamoepninddbcaaGreat
open Go.RowKit

section
variable {w w1 w5 : World} {ok : Nat} {lv mv ev v5 : Value} {V M E : List Lst} {x : Lst}
theorem bk_e (h : IsBk w ok lv mv ev V M E) (hc1 : Chg w w1 No) (hL : Lot 0 64 73 2 v5 (E ++ [x]) w5) (hc : Chg w1 w5 (fun j => ev.ownBlock = some j)) (h4 : v5.ownBlock = ev.ownBlock ∨ v5.ownBlock = some w1.heap.size) (hxn : x.n ≤ 100000000) (hn : E.length < 1000) :
    IsBk (w5.setCell ⟨ok, 2, none⟩ v5) ok lv mv v5 V M (E ++ [x]) ∧ (∀ k, BkB ok lv mv v5 V M (E ++ [x]) k → BkB ok lv mv ev V M E k ∨ w.heap.size ≤ k ∨ x.v.ownBlock = some k) ∧ Chg w (w5.setCell ⟨ok, 2, none⟩ v5) (BkB ok lv mv ev V M E) := by
  have h1 := h.call hc1
  have hs : Chg w5 (w5.setCell ⟨ok, 2, none⟩ v5) (· = ok) := Chg.setCell
  have me5 : w5.heap[ok]? = some (.cells (BkC lv mv ev) 57 (0, 0)) := hc.keep h1.me fun e => h1.oke (.inl e)
  have hc5 : Chg w w5 (BkB ok lv mv ev V M E) := hc1.trans hc (fun _ _ e => e.elim) fun j _ e => .inr (.inr (.inr (.inl e)))
  have l5 := h1.l.kept hc fun g hg e => h.le_ hg (.inl e)
  have m5 := h1.m.kept hc fun g hg e => h.me_ hg (.inl e)
  refine ⟨⟨?_, l5.kept hs fun g hg e => h.okl (e ▸ hg), m5.kept hs fun g hg e => h.okm (e ▸ hg), hL.kept hs fun g hg e => ?_, h.lm, h.len, h.vn, by simp; omega, h.vs, h.ms, fun j u hu => ?_⟩, fun k hk => ?_, hc5.trans hs (fun _ _ e => e) fun j _ e => .inl e⟩
  · rw [heap_setCell_same w5 ok 2 _ _ _ me5]
    rfl
  · obtain ⟨cu, t, q1, q2⟩ := hL.type hg
    rw [e, me5] at q1
    cases q1
    rcases q2 with e | e <;> cases e
  · rcases get_more hu with ⟨q, _⟩ | ⟨rfl, _⟩
    · exact h.es j u q
    · exact hxn
  · rcases hk with e | e | e | e
    · exact .inl (.inl e)
    · exact .inl (.inr (.inl e))
    · exact .inl (.inr (.inr (.inl e)))
    · rcases lotB_more h4 e with q | q | q
      · exact .inl (.inr (.inr (.inr q)))
      · exact .inr (.inl (by have := hc1.size; omega))
      · exact .inr (.inr q)
end
theorem pr5 {w : World} {A : PA} {lo : Bool} {f : Nat × Nat} (h : w.heap[A.pp]? = some (.cells (PrC A lo) 36 f)) : w.cell? ⟨A.pp, 5, none⟩ = some (.pointer (some ⟨A.ok, 0, none⟩)) := by rw [cell_of_row _ _ _ _ _ _ h]; rfl
theorem erow_mono0 {w : World} {B : Nat} {v : Value} {l : List (Int × Int)} (h : Edgs w B v l) : w.ownsRow 0 73 2 v l.length (cellsE l) := row_mono0 h
section
variable {w w0 : World} {A : PA} {σ0 : Nat → Option PRole} {z : CSt} {lo : Bool} {V M E : List Lst}
set_option maxRecDepth 100000 in
set_option maxHeartbeats 8000000 in
theorem asks_5 (k x : Int) (hk : k ≠ 0 ∧ k ≠ 1 ∧ k ≠ 2 ∧ k ≠ 3 ∧ k ≠ 4) (h : PF w0 w A σ0 z z lo V M E) : Calls Tryz.prog 39 #[.pointer (some ⟨A.pp, 0, none⟩), .int .i64 k, .int .i64 x] w fun e w' => e = .returned (.bool true) ∧ ∃ E', PF w0 w' A σ0 z z lo V M E' := by
  obtain ⟨σ, ⟨ρ, ρ', lv, mv, ev, h0⟩, ho, hc⟩ := h
  obtain ⟨n0', n1', n2', n3', n4'⟩ := hk
  have n0 : (k == 0) = false := by simpa using n0'
  have n1 : (k == 1) = false := by simpa using n1'
  have n2 : (k == 2) = false := by simpa using n2'
  have n3 : (k == 3) = false := by simpa using n3'
  have n4 : (k == 4) = false := by simpa using n4'
  clear n0' n1' n2' n3' n4'
  have k1 : w.cell? ⟨A.pp, 1, none⟩ = some (.pointer (some ⟨A.c, 0, none⟩)) := h0.c 1
  have HP := edgesC_any h0.ca
  have H0 := hid h0
  have HO := hid ho
  have HC := hid hc
  obtain ⟨ae, ce, hev⟩ := row_shK h0.bk.e.row
  have hEn := h0.bk.en
  obtain ⟨nE, hnE⟩ : ∃ q, q = E.length := ⟨_, rfl⟩
  have HNE := hid hnE
  have HEV : Hid (ev = .slice ae nE ce) := hid (by rw [hnE]; exact hev)
  rw [← hnE] at hEn
  have HIS := hid h0.ca.inv.inSec
  clear h0 ho hc hev hnE
  have hcs : nE < 1000 ∨ ¬ nE < 1000 := by omega
  rcases hcs with hlt | hlt
  all_goals
    have hltI := hlt
    go_enter Tryz.func39, Tryz.ntmps39
    go_upto_if 172 with (first
      | (go_at_call 24; go_must (refine HP.mono ?_; rintro e w1 ⟨v1, l, rfl, hv1, hl1, hc1⟩; have HV1 := hid hv1; have HC1 := hid hc1; have HEl := hid hl1; have hlen := elist_lenM hl1 HIS.out; obtain ⟨a1, c1, hw1, hA1, _⟩ := hv1.edat; obtain ⟨m, hm⟩ : ∃ m, m = l.length := ⟨_, rfl⟩; have HM := hid hm; rw [← hm] at hw1 hlen; subst hw1; have HA1 := hid hA1; have k3 : w1.cell? ⟨A.pp, 3, none⟩ = some (.pointer (some ⟨A.r, 0, none⟩)) := (H0.out.call hc1).c 3; have HE := redges_any w1 (H0.out.call hc1).rc; clear HP hv1 hl1 hc1 hA1 hm))
      | (go_at_call 87; go_must (refine HE.mono ?_; rintro e w2 ⟨v2, l2, rfl, hv2, hl2, hc2⟩; have el := elist_oneM hl2 HEl.out; subst el; have HC2 := hid hc2; obtain ⟨a2, c2, hw2, hA2, _⟩ := hv2.edat; subst hw2; have HS := sameEdges_same l2 a1 a2 c1 c2 w2 (by have := HM.out; omega) (HA1.out.call hc2) hA2; rw [← HM.out] at HS ⊢; clear HE hv2 hl2 hc2 hA2))
      | (go_at_call 86; go_must (refine HS.mono ?_; rintro e w3 ⟨rfl, hn⟩; obtain ⟨nn, hnn⟩ := hn; have hcc : Chg w2 w3 No := (by rw [hnn]; exact chg_drewN _ _); have HX : Hid (Chg w w3 No) := hid ((HC1.out.tr HC2.out).tr hcc); have k5 : w3.cell? ⟨A.pp, 5, none⟩ = some (.pointer (some ⟨A.ok, 0, none⟩)) := (H0.out.call HX.out).c 5; have q2 := (H0.out.call HX.out).bk.c2; rw [HEV.out] at q2; have HRow : Hid (w3.ownsRow 0 73 2 (.slice a1 m c1) m (cellsE l2)) := hid (by have := erow_mono0 (row_keep HV1.out (HC2.out.tr hcc) (fun _ _ e => e)); rw [← HM.out] at this; exact this); clear HS hnn hcc))
      | fail)
  · obtain ⟨w4, hw4⟩ : ∃ q, q = w3 := ⟨_, rfl⟩
    subst hw4
    go_upto_region 31 with fail
    clear k5 q2
    obtain ⟨wD, hwD⟩ : ∃ q, q = w4.drew := ⟨_, rfl⟩
    have HCD : Hid (Chg w4 wD No) := hid (by rw [hwD]; exact (Chg.refl w4 No).drew)
    have HSD : Hid (wD.heap.size = w4.heap.size) := hid (by rw [hwD]; rfl)
    have H4 := hid (H0.out.call HX.out)
    have HK : Hid (∀ W, Chg w4 W No → W.cell? ⟨A.ok, 2, none⟩ = some (.slice ae nE ce)) := hid (fun W hW => by
      have := (H4.out.bk.call hW).c2
      rw [this, HEV.out])
    have HPo : Hid (¬ A.pp = A.ok) := hid (fun e => by
      have h1 := H4.out.sm
      have h2 := H4.out.sb A.ok (.inl rfl)
      rw [e, h2] at h1
      cases h1)
    have HPe : Hid (¬ ev.ownBlock = some A.pp) := hid (fun e => by
      have h1 := H4.out.sm
      have h2 := H4.out.sb A.pp (.inr (.inr (.inr (.inl e))))
      rw [h2] at h1
      cases h1)
    refine wp_region_noPanic ?_
    refine wp_region_held_drew (S := fun W => W.heap[A.pp]? = some (.cells (PrC A lo) 36 (0, 0))) (by kernel_rfl) H4.out.me (fun hHeld => ?_)
    rw [← hwD] at hHeld ⊢
    clear hwD
    refine takeVal 0 173 (.pointer (some ⟨A.pp, 0, none⟩)) rfl (by kernel_rfl) (by kernel_rfl) (by kernel_rfl) rfl (by rfl) (fun _ _ _ h => h) hHeld (fun _ hw' => rfl) ?_
    simp only [List.setIfInBounds_toArray, List.set_cons_zero, List.set_cons_succ]
    refine takeVal 1 174 (.pointer (some ⟨A.pp, 0, none⟩)) rfl (by kernel_rfl) (by kernel_rfl) (by kernel_rfl) rfl (by rfl) (fun _ _ _ h => h) hHeld (fun _ hw' => by go_simp) ?_
    simp only [List.setIfInBounds_toArray, List.set_cons_zero, List.set_cons_succ]
    refine takeVal 2 175 (.pointer (some ⟨A.pp, 5, none⟩)) rfl (by kernel_rfl) (by kernel_rfl) (by kernel_rfl) rfl (by rfl) (fun _ _ _ h => h) hHeld (fun _ hw' => by go_simp) ?_
    simp only [List.setIfInBounds_toArray, List.set_cons_zero, List.set_cons_succ]
    refine takeVal 3 176 (.pointer (some ⟨A.ok, 0, none⟩)) rfl (by kernel_rfl) (by kernel_rfl) (by kernel_rfl) rfl (by rfl) (fun _ _ _ h => h) hHeld (fun _ hw' => by have hc := pr5 hw'; go_simp) ?_
    simp only [List.setIfInBounds_toArray, List.set_cons_zero, List.set_cons_succ]
    refine takeVal 4 177 (.pointer (some ⟨A.pp, 0, none⟩)) rfl (by kernel_rfl) (by kernel_rfl) (by kernel_rfl) rfl (by rfl) (fun _ _ _ h => h) hHeld (fun _ hw' => rfl) ?_
    simp only [List.setIfInBounds_toArray, List.set_cons_zero, List.set_cons_succ]
    refine takeVal 5 178 (.pointer (some ⟨A.pp, 0, none⟩)) rfl (by kernel_rfl) (by kernel_rfl) (by kernel_rfl) rfl (by rfl) (fun _ _ _ h => h) hHeld (fun _ hw' => by go_simp) ?_
    simp only [List.setIfInBounds_toArray, List.set_cons_zero, List.set_cons_succ]
    refine takeVal 6 179 (.pointer (some ⟨A.pp, 5, none⟩)) rfl (by kernel_rfl) (by kernel_rfl) (by kernel_rfl) rfl (by rfl) (fun _ _ _ h => h) hHeld (fun _ hw' => by go_simp) ?_
    simp only [List.setIfInBounds_toArray, List.set_cons_zero, List.set_cons_succ]
    refine takeVal 7 180 (.pointer (some ⟨A.ok, 0, none⟩)) rfl (by kernel_rfl) (by kernel_rfl) (by kernel_rfl) rfl (by rfl) (fun _ _ _ h => h) hHeld (fun _ hw' => by have hc := pr5 hw'; go_simp) ?_
    simp only [List.setIfInBounds_toArray, List.set_cons_zero, List.set_cons_succ]
    refine takeVal 8 181 (.pointer (some ⟨A.ok, 0, none⟩)) rfl (by kernel_rfl) (by kernel_rfl) (by kernel_rfl) rfl (by rfl) (fun _ _ _ h => h) hHeld (fun _ hw' => by go_simp) ?_
    simp only [List.setIfInBounds_toArray, List.set_cons_zero, List.set_cons_succ]
    refine takeVal 9 182 (.pointer (some ⟨A.ok, 2, none⟩)) rfl (by kernel_rfl) (by kernel_rfl) (by kernel_rfl) rfl (by rfl) (fun _ _ _ h => h) hHeld (fun _ hw' => by go_simp) ?_
    simp only [List.setIfInBounds_toArray, List.set_cons_zero, List.set_cons_succ]
    refine takeVal 11 184 (.slice a1 m c1) rfl (by kernel_rfl) (by kernel_rfl) (by kernel_rfl) rfl (by rfl) (fun _ _ _ h => h) hHeld (fun _ hw' => rfl) ?_
    simp only [List.setIfInBounds_toArray, List.set_cons_zero, List.set_cons_succ]
    have hcut : ∀ {T G : Prop}, (T → G) → T → G := fun f t => f t
    apply hcut
    · intro hE
      refine step2 10 12 (by kernel_rfl) ?_ ?_
      ·
        refine stVal 10 183 (.slice ae nE ce) rfl rfl (by rfl) (by have hc := HK.out wD (HCD.out); go_simp) hHeld ?_
        simp only [List.setIfInBounds_toArray, List.set_cons_zero, List.set_cons_succ]
        refine step1 12 (by kernel_rfl) ?_
        refine stNew 12 185 (.slice (some ⟨wD.heap.size, 0, none⟩) 1 1) (.cells #[.slice a1 m c1] 64) rfl rfl (by rfl) (by go_simp) ⟨(Chg.alloc wD _ No).keep hHeld (fun e => e), ?_⟩
        have hHeld : (wD.alloc (.cells #[.slice a1 m c1] 64)).heap[A.pp]? = some (.cells (PrC A lo) 36 (0, 0)) := (Chg.alloc wD _ No).keep hHeld (fun e => e)
        simp only [List.setIfInBounds_toArray, List.set_cons_zero, List.set_cons_succ]
        exact hE
      ·
        refine stNew 12 185 (.slice (some ⟨wD.heap.size, 0, none⟩) 1 1) (.cells #[.slice a1 m c1] 64) rfl rfl (by rfl) (by go_simp) ⟨(Chg.alloc wD _ No).keep hHeld (fun e => e), ?_⟩
        have hHeld : (wD.alloc (.cells #[.slice a1 m c1] 64)).heap[A.pp]? = some (.cells (PrC A lo) 36 (0, 0)) := (Chg.alloc wD _ No).keep hHeld (fun e => e)
        simp only [List.setIfInBounds_toArray, List.set_cons_zero, List.set_cons_succ]
        refine step1 10 (by kernel_rfl) ?_
        refine stVal 10 183 (.slice ae nE ce) rfl rfl (by rfl) (by have hc := HK.out (wD.alloc (.cells #[.slice a1 m c1] 64)) (HCD.out.tr (Chg.alloc _ _ _)); go_simp) hHeld ?_
        simp only [List.setIfInBounds_toArray, List.set_cons_zero, List.set_cons_succ]
        exact hE
    have HC9 : Hid (Chg w4 (wD.alloc (.cells #[.slice a1 m c1] 64)) No) := hid (HCD.out.tr (Chg.alloc _ _ _))
    have hHeld : (wD.alloc (.cells #[.slice a1 m c1] 64)).heap[A.pp]? = some (.cells (PrC A lo) 36 (0, 0)) := HC9.out.keep H4.out.me (fun e => e)
    refine step1 13 (by kernel_rfl) ?_
    refine stMore 13 186 rfl rfl (by rfl) _ _ 55 64 rfl Tryz.underlying55 infoLs 0 73 2 wD.heap.size 1 ev E ⟨.slice a1 m c1, m, cellsE l2⟩ (by decide) (by rw [HEV.out]; rfl) rfl (H4.out.bk.e.kept HC9.out (fun _ _ e => e)) ((cell_of_row _ _ _ _ _ _ (heap_alloc_new _ _)).trans rfl) (row_keep HRow.out HC9.out (fun _ _ e => e)) (fun j u g hu hg e => by
      have h9 := (row_ge HV1.out hg).1
      have := H0.out.bk.e.blk_lt (.inr ⟨j, u, hu, e⟩)
      omega) (by have h9 := HNE.out; omega) (Nat.zero_le _) ?_
    intro v10 w10 h101 h102 h103
    have hp10 := h102.keep hHeld HPe.out
    refine ⟨hp10, ?_⟩
    have hHeld := hp10
    clear hp10
    simp only [List.setIfInBounds_toArray, List.set_cons_zero, List.set_cons_succ]
    have me10 := h102.keep (HC9.out.keep H4.out.bk.me (fun e => e)) (fun e => H4.out.bk.oke (.inl e))
    have q10 : w10.cell? ⟨A.ok, 2, none⟩ = some ev := (cell_of_row _ _ 2 _ _ _ me10).trans rfl
    have f10 := frozen_of_row (j := 2) _ _ _ _ me10
    obtain ⟨b10, c10, hv10⟩ := row_shK h101.row
    refine takeVal 14 187 (.pointer (some ⟨A.ok, 0, none⟩)) rfl (by kernel_rfl) (by kernel_rfl) (by kernel_rfl) rfl (by rfl) (fun _ _ _ h => h) hHeld (fun _ hw' => by go_simp) ?_
    simp only [List.setIfInBounds_toArray, List.set_cons_zero, List.set_cons_succ]
    refine takeVal 15 188 (.pointer (some ⟨A.ok, 2, none⟩)) rfl (by kernel_rfl) (by kernel_rfl) (by kernel_rfl) rfl (by rfl) (fun _ _ _ h => h) hHeld (fun _ hw' => by go_simp) ?_
    simp only [List.setIfInBounds_toArray, List.set_cons_zero, List.set_cons_succ]
    refine step1 16 (by kernel_rfl) ?_
    refine stCell 16 (w10.setCell ⟨A.ok, 2, none⟩ v10) rfl rfl (by rfl) (by rw [hv10]; clear hv10; go_simp) ⟨(heap_setCell_other w10 ⟨A.ok, 2, none⟩ A.pp _ HPo.out).trans hHeld, ?_⟩
    refine wpAnyH_done (by kernel_rfl) ?_ _
    refine NoPanic.normal ?_
    have HF := hid (bk_e (x := ⟨.slice a1 m c1, m, cellsE l2⟩) H4.out.bk HC9.out h101 h102 h103 (by show m ≤ _; omega) (by have := HNE.out; omega))
    clear hv10 me10 q10 f10 h101 h102 h103 hHeld
    go_wp2_with fail
    go_ret
    obtain ⟨q1, q2, q3⟩ := HF.out
    have hs := HC.out.size
    have hs3 := HX.out.size
    refine ⟨rfl, _, H4.out.bookC HO.out (HC.out.trans HX.out (fun _ _ e => e) (fun _ _ e => e.elim)) q1 (fun k hk => ?_) q3⟩
    rcases q2 k hk with e | e | e
    · exact .inl e
    · exact .inr ⟨H4.out.fresh e, .inr (by omega)⟩
    · have := (row_ge HV1.out e).1
      exact .inr ⟨H0.out.fresh this, .inr (by omega)⟩
  · go_wp2_with fail
    go_ret
    exact ⟨rfl, E, PF.and HO.out (HC.out.trans HX.out (fun _ _ e => e) (fun _ _ e => e.elim)) (PF.start ⟨_, _, _, _, _, H0.out.call HX.out⟩)⟩
/-- Whatever is asked. -/
theorem asks_any (k x : Int) (h : PF w0 w A σ0 z z lo V M E) (ha : AL z) (ht : TB z) : Calls Tryz.prog 39 #[.pointer (some ⟨A.pp, 0, none⟩), .int .i64 k, .int .i64 x] w fun e w' => e = .returned (.bool true) ∧ ∃ V' M' E', PF w0 w' A σ0 (askZ k z) (askZ k z) lo V' M' E' ∧ (BkEq V M → BkEq V' M') := by
  have hz : k ≠ 2 → askZ k z = z := fun e => if_neg e
  by_cases h0 : k = 0
  · subst h0
    rw [hz (by decide)]
    exact (asks_0 x h ha).mono fun e w' hh => ⟨hh.1, V, M, E, hh.2, fun e => e⟩
  by_cases h1 : k = 1
  · subst h1
    rw [hz (by decide)]
    exact (asks_1 x h ha).mono fun e w' hh => ⟨hh.1, V, M, E, hh.2, fun e => e⟩
  by_cases h2 : k = 2
  · subst h2
    rw [show askZ 2 z = toldC z from if_pos rfl]
    exact (asks_2 x h ht).mono fun e w' ⟨h1, V', M', h2, h3⟩ => ⟨h1, V', M', E, h2, h3⟩
  by_cases h3 : k = 3
  · subst h3
    rw [hz (by decide)]
    exact (asks_3 x h).mono fun e w' ⟨h1, V', M', h2, h3⟩ => ⟨h1, V', M', E, h2, h3⟩
  by_cases h4 : k = 4
  · subst h4
    rw [hz (by decide)]
    exact (asks_4 x h).mono fun e w' ⟨h1, V', M', h2, h3⟩ => ⟨h1, V', M', E, h2, h3⟩
  rw [hz h2]
  exact (asks_5 k x ⟨h0, h1, h2, h3, h4⟩ h).mono fun e w' ⟨h1, E', h2⟩ => ⟨h1, V, M, E', h2, fun e => e⟩
end
end Go.Proofs.YtamoepninddbcaaGreat
