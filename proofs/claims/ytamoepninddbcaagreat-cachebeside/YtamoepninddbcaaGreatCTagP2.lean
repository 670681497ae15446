/-
  Mark and Landed: the tags of a cache.
-/
import Derived.Test.YtamoepninddbcaaGreatCLawK
namespace Go.Proofs.YtamoepninddbcaaGreat
open Go.RowKit

variable {w : World} {c p g n : Nat} {ρ : Nat → Option Role} {z : CSt}

/-- A tag is to land with a sector. -/
def markC (z : CSt) (x t : Int) : CSt := match z.P x with
  | none => ⟨z.d, z.E, z.P, z.ld ++ [t], z.lost⟩
  | some q => ⟨z.d, z.E, fun y => if y = x then some (q.1, q.2 ++ [t]) else z.P y, z.ld, z.lost⟩
/-- What has landed was told. -/
def toldC (z : CSt) : CSt := ⟨z.d, z.E, z.P, [], z.lost⟩
theorem markC_none {x t : Int} (h : z.P x = none) : markC z x t = ⟨z.d, z.E, z.P, z.ld ++ [t], z.lost⟩ := by unfold markC; rw [h]
theorem markC_some {x t : Int} {q : List Int × List Int} (h : z.P x = some q) : markC z x t = ⟨z.d, z.E, fun y => if y = x then some (q.1, q.2 ++ [t]) else z.P y, z.ld, z.lost⟩ := by unfold markC; rw [h]

set_option maxHeartbeats 1000000 in
set_option maxRecDepth 100000 in
theorem sameInts_same (l : List Int) (a b : Option Addr) (ca cb : Nat) (w : World) (hl : l.length ≤ 17592186044000) (hA : LAt w a l) (hB : LAt w b l) : Calls Tryz.prog 40 #[.slice a l.length ca, .slice b l.length cb] w fun e w' => e = .returned (.bool true) ∧ Chg w w' No := by
  have HA := hid hA
  have HB := hid hB
  clear hA hB
  generalize hm : l.length = m at *
  have HM := hid hm
  clear hm
  go_enter Tryz.func40, Tryz.ntmps40
  go_wp2_with fail
  go_loopw [5] (fun i wr => ∃ (k : Nat) (wq : World), wq = wr ∧ i = .int .i64 k ∧ k ≤ m ∧ Hid (Chg w wq No)) (fun i _ => m - (intOf i).toNat)
  case atStart => exact ⟨0, w, rfl, rfl, by omega, Chg.refl _ _⟩
  case round =>
    obtain ⟨k, wq, rfl, rfl, hk, HC⟩ := hrel
    by_cases hlt : k < m
    · have hki : (k : Int) < (m : Int) := by omega
      obtain ⟨ga, rfl, hga, hca⟩ : ∃ ga, a = some ⟨ga, 0, none⟩ ∧ ga < wq.heap.size ∧ ∀ k, k < l.length → wq.cell? ⟨ga, k, none⟩ = some (.int .i64 (l.getD k 0)) := by
        rcases HA.out.call HC.out with h | h
        · have := HM.out; rw [h] at this; simp at this; omega
        · exact h
      obtain ⟨gb, rfl, hgb, hcb⟩ : ∃ gb, b = some ⟨gb, 0, none⟩ ∧ gb < wq.heap.size ∧ ∀ k, k < l.length → wq.cell? ⟨gb, k, none⟩ = some (.int .i64 (l.getD k 0)) := by
        rcases HB.out.call HC.out with h | h
        · have := HM.out; rw [h] at this; simp at this; omega
        · exact h
      have c1 := hca k (by rw [HM.out]; exact hlt)
      have c2 := hcb k (by rw [HM.out]; exact hlt)
      generalize l.getD k 0 = y at *
      clear hca hcb hga hgb hlt
      go_wp2_with fail
      go_quiet (fail)
      go_wp2_with fail
      exact ⟨⟨k + 1, _, rfl, by go_num, by omega, hid (HC.out.tr (chg_drewN wq _))⟩, by simp [intOf]; omega⟩
    · clear hk
      go_wp2_with fail
      go_ret
      exact ⟨rfl, HC.out⟩


set_option maxRecDepth 100000 in
set_option maxHeartbeats 2000000 in
theorem landed_any (h : IsC w c p g n ρ z) : Calls Tryz.prog 45 #[.pointer (some ⟨c, 0, none⟩)] w fun e w' =>
    ∃ (a : Option Addr) (cc : Nat) (ρ' : Nat → Option Role), e = .returned (.slice a z.ld.length cc) ∧ LAt w' a z.ld ∧ (∀ k, a = some ⟨k, 0, none⟩ → ¬ Own ρ' k ∧ k < w.heap.size ∧ Own ρ k) ∧ IsC w' c p g n ρ' (toldC z) ∧ (∀ k, Own ρ' k → Own ρ k) ∧ Chg w w' (· = c) := by
  obtain ⟨gp, mb, go, tv, lv, h⟩ := h
  obtain ⟨a, cc, rfl, hLA, _⟩ := h.ld.lat
  have hnc := h.ld.nilcap
  have k3 := h.c3
  have kz := h.fz 3
  have HH := hid h
  have HLA := hid hLA
  have HNC := hid hnc
  clear h hLA hnc
  generalize hN : z.ld.length = N at *
  go_enter Tryz.func45, Tryz.ntmps45
  go_wp2
  go_ret
  have h := HH.out
  have hc : Chg w (w.setCell ⟨c, 3, none⟩ (.slice none 0 0)) (· = c) := Chg.setCell
  obtain ⟨q1, q2, q3, q4, q5, q6, q7⟩ := h.parts hc (· = .c) (fun k e r hr => by subst e; rw [h.rc] at hr; cases hr; rfl)
  have hown : ∀ k, a = some ⟨k, 0, none⟩ → (Value.slice a N cc).ownBlock = some k := fun k e => by
    have := (HNC.out.2 _ e).2
    exact this
  have hld : ∀ k, (Value.slice a N cc).ownBlock = some k → ρ k = some .ld := h.rl
  have hne : ∀ k r, ρ k = some r → r ≠ .ld → ¬ (Value.slice a N cc).ownBlock = some k := fun k r hr hn e => by
    have := hld k e
    rw [hr] at this
    cases this
    exact hn rfl
  refine ⟨a, cc, fun k => if (Value.slice a N cc).ownBlock = some k then none else ρ k, rfl, HLA.out.keep hc (fun k e e2 => ?_), fun k e => ⟨?_, h.lt k _ (hld k (hown k e)), ⟨_, hld k (hown k e)⟩⟩, ⟨gp, mb, go, tv, .slice none 0 0, ⟨?_, q2 (by simp) (by simp), q3 (by simp), q4 (by simp), fun x q hx => q5 x q (by simp) hx, ?_, ?_, ?_, ?_, ?_, ?_, ?_, ?_, ?_, ?_⟩⟩, ?_, hc⟩
  · subst e2
    exact hne _ _ h.rc (by simp) (hown _ e)
  · rintro ⟨r, hr⟩
    simp only [if_pos (hown k e)] at hr
    cases hr
  · rw [heap_setCell_same w c 3 _ _ _ h.me, CC_ld]
    rfl
  · exact World.ownsRow_nil _ _ _ _
  · rw [if_neg (hne _ _ h.rc (by simp))]; exact h.rc
  · rw [if_neg (hne _ _ h.rp (by simp))]; exact h.rp
  · rw [if_neg (hne _ _ h.rg (by simp))]; exact h.rg
  · intro k hk
    rw [if_neg (hne _ _ (h.rr k hk) (by simp))]; exact h.rr k hk
  · rw [if_neg (hne _ _ h.rm (by simp))]; exact h.rm
  · intro x k hx hk
    rw [if_neg (hne _ _ (h.rt x k hx hk) (by simp))]; exact h.rt x k hx hk
  · intro k hk
    cases hk
  · intro k r hr
    split at hr
    · cases hr
    · exact q7 k r hr
  · exact inv_d h.inv h.inv.w0 h.inv.lf
  · rintro k ⟨r, hr⟩
    simp only at hr
    split at hr
    · cases hr
    · exact ⟨r, hr⟩

set_option maxRecDepth 100000 in
set_option maxHeartbeats 4000000 in
theorem mark_none (x t : Int) (h : IsC w c p g n ρ z) (hx : 0 ≤ x ∧ x < n) (hlo : z.lost = false) (hd : z.P x = none) (hll : z.ld.length ≤ 17592186044000) :
    Calls Tryz.prog 35 #[.pointer (some ⟨c, 0, none⟩), .int .i64 x, .int .i64 t] w fun e w' => e = .returned (.int .i64 0) ∧ CPost w w' c p g n ρ (markC z x t) := by
  have hn4 := h.inv.top
  have hI : I64 x := ⟨by omega, by omega⟩
  have hc1 : Chg w (w.alloc (.cells #[.int .i64 x] 3)) No := Chg.alloc _ _ _
  have HR := refusalC_any [x] (some ⟨w.heap.size, 0, none⟩) 1 (h.call hc1) (lat_one w x) (by simp)
  rw [refC_one hx.1 hx.2, hlo] at HR
  simp only [List.length_singleton, Bool.false_eq_true, if_false] at HR
  obtain ⟨gp, mb, go, tv, lv, h⟩ := h
  have h1 := h.call hc1
  have k2 := h1.c2
  have HM := h1.mp
  have hzp := zeroP
  have hp0s := pend0_size
  have HQ := hid (heap_alloc_new (w.alloc (.cells #[.int .i64 x] 3)) (.cells pend0 95))
  have hton : pend0.all (·.oneCell') = true := pend_one rfl
  have hval : (match (z.P x).map fun q => Value.agg (pend q.1 (tv x)) with | some v => v | none => .agg pend0) = .agg pend0 := by rw [hd]; rfl
  have hdm : ((z.P x).map fun q => Value.agg (pend q.1 (tv x))).isSome = false := by rw [hd]; rfl
  have HVAL := hid hval
  have HH := hid h
  have HC1 := hid hc1
  have HMK := hid (markC_none (t := t) hd)
  have HLL := hid hll
  rw [HMK.out]
  clear h h1 hc1 hd hx hval hll
  go_enter Tryz.func35, Tryz.ntmps35
  go_upto_region 6 with (first
    | (go_at_call 58; go_must (refine HR.mono ?_; rintro e w1 ⟨rfl, rfl⟩; clear HR))
    | (at_lookup; go_must (refine wp_okV rfl _ _ rfl mb _ x (.agg pend0) false HVAL.out hdm rfl rfl HM hI ?_))
    | (refine D.store_row rfl 95 _ _ rfl (w.heap.size + 1) rfl pend0 rfl pend0 (by have := HQ.out; rw [World.size_alloc] at this; exact this) (by rw [szP, hp0s]) rfl hton ?_; intro w3 hw3; have hc3 : Chg w w3 No := (HC1.out.tr (Chg.alloc _ (.cells pend0 95) No)).trans (put_chg hw3) (fun _ _ e => e) (fun j hj e => by omega); have HC3 := hid hc3; clear hw3 hc3)
    | fail)
  have h3 := HH.out.call HC3.out
  have hc4 := HC3.out.tr (Chg.alloc w3 (.cells #[.int .i64 t] 3) No)
  have h4 := HH.out.call hc4
  obtain ⟨al, cl, hlv, _, _⟩ := h3.ld.lat
  have HI4 := hid h4.ld
  have hcl : ¬ lv.ownBlock = some c := fun e => by
    have := h3.rl c e
    rw [h3.rc] at this
    cases this
  have k3 := h3.c3
  have HL4 := hid (lat_one w3 t)
  have H4 := hid h4
  have HC4 := hid hc4
  rw [hlv] at k3
  have HLV := hid hlv
  have HCL := hid hcl
  clear h3 h4 hc4 k2 HM hcl hlv
  go_upto_region 7 with (first
    | (at_builtin; go_must (refine wp_appL rfl _ _ rfl 0 lv z.ld [t] (some ⟨w3.heap.size, 0, none⟩) 1 (by rw [HLV.out]; rfl) rfl HI4.out HL4.out (fun e => by cases e) (by have := HLL.out; simp only [List.length_singleton]; omega) (Nat.zero_le _) ?_; intro v5 w5 h51 h52 h53; obtain ⟨a5, c5, hv5, _, _⟩ := h51.lat; have HI5 := hid h51; have HO5 := hid h53; have HC5 := hid h52; have k53 : w5.cell? ⟨c, 3, none⟩ = some lv := (by rw [cell_of_row _ _ _ _ _ _ (h52.keep H4.out.me HCL.out)]; rfl); have kf5 : w5.frozen? ⟨c, 3, none⟩ = false := frozen_of_row w5 c 3 _ _ (h52.keep H4.out.me HCL.out); rw [HLV.out] at k53; clear h51 h52 h53; subst hv5; generalize hM : (z.ld ++ [t]).length = M at *; have HMM := hid hM; clear hM))
    | fail)
  have hdn := isC_done HH.out (isD_keep HH.out.dk HC4.out (fun e => e) (fun e => e)) (HC4.out.mono fun _ _ e => e.elim) HH.out.inv.w0 HH.out.inv.lf HI5.out HC5.out HO5.out
  have HDN := hid hdn
  clear hdn
  go_wp2_with fail
  go_ret
  obtain ⟨ρ', d1, d2, d3⟩ := HDN.out
  refine ⟨rfl, ρ', d1, fun k hk => ?_, d3⟩
  rcases d2 k hk with e | e
  · exact .inl e
  · exact .inr (Nat.le_trans HC4.out.size e)

theorem pend_set {s : List Int} {u v : Value} (hs : s.length = 128) : (pend s u).setIfInBounds 128 v = pend s v := by
  unfold pend
  rw [List.setIfInBounds_toArray, List.set_append_right _ _ (by simp [hs])]
  simp [hs]
/-- The tags of one sector are others. -/
theorem isC_tag {w w8 : World} {gp mb : Nat} {go : Nat → Prop} {tv : Int → Value} {lv v5 : Value} {x t : Int} {q : List Int × List Int} (h : IsC0 w c p g n gp mb go tv lv ρ z) (hq : z.P x = some q) (hc : Chg w w8 (fun k => (tv x).ownBlock = some k ∨ k = mb))
    (hm : MapV w8 mb (fun y => if y = x then some (.agg (pend q.1 v5)) else (z.P y).map fun q => .agg (pend q.1 (tv y)))) (h5 : Ints w8 0 v5 (q.2 ++ [t])) (ho : ∀ k, v5.ownBlock = some k → (tv x).ownBlock = some k ∨ w.heap.size ≤ k) :
    CPost w w8 c p g n ρ ⟨z.d, z.E, fun y => if y = x then some (q.1, q.2 ++ [t]) else z.P y, z.ld, z.lost⟩ := by
  have hdx : z.dirty x := by unfold CSt.dirty; rw [hq]; rfl
  have htx : ∀ k, (tv x).ownBlock = some k → ρ k = some (.tag x) := fun k => h.rt x k hdx
  obtain ⟨q1, q2, q3, q4, q5, q6, q7⟩ := h.parts hc (fun r => r = .tag x ∨ r = .mb) (fun k e r hr => by
    rcases e with e | rfl
    · rw [htx k e] at hr; cases hr; exact .inl rfl
    · rw [h.rm] at hr; cases hr; exact .inr rfl)
  have key : ∀ k r, ρ k = some r → r ≠ .tag x → ¬ v5.ownBlock = some k := fun k r hr hn e => by
    rcases ho k e with e | e
    · have := htx k e
      rw [hr] at this
      cases this
      exact hn rfl
    · have := h.lt k r hr
      omega
  refine ⟨fun k => if v5.ownBlock = some k then some (.tag x) else ρ k, ⟨gp, mb, go, fun y => if y = x then v5 else tv y, lv, ⟨q1 (by simp), q2 (by simp) (by simp), q3 (by simp), hm.cong fun y => ?_, fun y r hy => ?_, q6 (by simp), ?_, ?_, ?_, ?_, ?_, ?_, ?_, ?_, ?_⟩⟩, ?_, hc.mono fun k _ e => ?_⟩
  · by_cases e : y = x
    · simp [e]
    · simp [e]
  · simp only at hy
    by_cases e : y = x
    · rw [if_pos e] at hy
      cases hy
      simp only [if_pos e]
      exact h5
    · rw [if_neg e] at hy
      simp only [if_neg e]
      exact q5 y r (by simp [e]) hy
  · rw [if_neg (key _ _ h.rc (by simp))]; exact h.rc
  · rw [if_neg (key _ _ h.rp (by simp))]; exact h.rp
  · rw [if_neg (key _ _ h.rg (by simp))]; exact h.rg
  · intro k hk
    rw [if_neg (key _ _ (h.rr k hk) (by simp))]; exact h.rr k hk
  · rw [if_neg (key _ _ h.rm (by simp))]; exact h.rm
  · intro y k hy hk
    by_cases e : y = x
    · rw [if_pos e] at hk
      rw [if_pos hk, e]
    · rw [if_neg e] at hk
      have hdy : z.dirty y := by
        unfold CSt.dirty at hy ⊢
        simpa [e] using hy
      rw [if_neg (key _ _ (h.rt y k hdy hk) (by simp [e]))]
      exact h.rt y k hdy hk
  · intro k hk
    rw [if_neg (key _ _ (h.rl k hk) (by simp))]; exact h.rl k hk
  · intro k r hr
    by_cases e : v5.ownBlock = some k
    · exact (row_ge h5 e).2
    · simp only [if_neg e] at hr
      exact q7 k r hr
  · have hi := h.inv
    have hdd : ∀ y, (CSt.dirty ⟨z.d, z.E, fun y => if y = x then some (q.1, q.2 ++ [t]) else z.P y, z.ld, z.lost⟩ y ↔ z.dirty y) := fun y => by
      unfold CSt.dirty
      by_cases e : y = x
      · subst e; simp [hq]
      · simp [e]
    refine ⟨fun a b e => ⟨(hdd a).2 (hi.ed a b e).1, (hdd b).2 (hi.ed a b e).2⟩, fun y hy => hi.ok y ((hdd y).1 hy), fun y r hy => ?_, hi.ring, hi.top, hi.w0, hi.lf⟩
    simp only at hy
    by_cases e : y = x
    · rw [if_pos e] at hy
      cases hy
      exact hi.ln x q hq
    · rw [if_neg e] at hy
      exact hi.ln y r hy
  · rintro k ⟨r, hr⟩
    by_cases e : v5.ownBlock = some k
    · rcases ho k e with e2 | e2
      · exact .inl ⟨_, htx k e2⟩
      · exact .inr e2
    · simp only [if_neg e] at hr
      exact .inl ⟨r, hr⟩
  · rcases e with e | rfl
    · exact ⟨_, htx k e⟩
    · exact ⟨_, h.rm⟩

set_option maxRecDepth 100000 in
set_option maxHeartbeats 4000000 in
theorem mark_some (x t : Int) (q : List Int × List Int) (h : IsC w c p g n ρ z) (hx : 0 ≤ x ∧ x < n) (hlo : z.lost = false) (hq : z.P x = some q) (hll : q.2.length ≤ 17592186044000) :
    Calls Tryz.prog 35 #[.pointer (some ⟨c, 0, none⟩), .int .i64 x, .int .i64 t] w fun e w' => e = .returned (.int .i64 0) ∧ CPost w w' c p g n ρ (markC z x t) := by
  have hn4 := h.inv.top
  have hI : I64 x := ⟨by omega, by omega⟩
  have hc1 : Chg w (w.alloc (.cells #[.int .i64 x] 3)) No := Chg.alloc _ _ _
  have HR := refusalC_any [x] (some ⟨w.heap.size, 0, none⟩) 1 (h.call hc1) (lat_one w x) (by simp)
  rw [refC_one hx.1 hx.2, hlo] at HR
  simp only [List.length_singleton, Bool.false_eq_true, if_false] at HR
  obtain ⟨gp, mb, go, tv, lv, h⟩ := h
  have h1 := h.call hc1
  have k2 := h1.c2
  have HM := h1.mp
  have hzp := zeroP
  have hs := h.inv.ln x q hq
  have hdx : z.dirty x := by unfold CSt.dirty; rw [hq]; rfl
  have hton := pend_one (s := q.1) (ints_one (h.tg x q hq))
  have HQ := hid (heap_alloc_new (w.alloc (.cells #[.int .i64 x] 3)) (.cells pend0 95))
  have hval : (match (z.P x).map fun q => Value.agg (pend q.1 (tv x)) with | some v => v | none => .agg pend0) = .agg (pend q.1 (tv x)) := by rw [hq]; rfl
  have hdm : ((z.P x).map fun q => Value.agg (pend q.1 (tv x))).isSome = true := by rw [hq]; rfl
  obtain ⟨at_, ct, htv, _, _⟩ := (h.tg x q hq).lat
  have HTV := hid htv
  have HVAL := hid hval
  have HH := hid h
  have HC1 := hid hc1
  have HMK := hid (markC_some (t := t) hq)
  have HLL := hid hll
  have HQQ := hid hq
  have HDX := hid hdx
  rw [HMK.out]
  clear h h1 hc1 hq hx hval hll htv hdx
  go_enter Tryz.func35, Tryz.ntmps35
  go_upto_region 8 with (first
    | (go_at_call 58; go_must (refine HR.mono ?_; rintro e w1 ⟨rfl, rfl⟩; clear HR))
    | (at_lookup; go_must (refine wp_okV rfl _ _ rfl mb _ x (.agg (pend q.1 (tv x))) true HVAL.out hdm rfl rfl HM hI ?_))
    | (refine D.store_row rfl 95 _ _ rfl (w.heap.size + 1) rfl (pend q.1 (tv x)) rfl pend0 (by have := HQ.out; rw [World.size_alloc] at this; exact this) (by rw [szP, pend_size, hs]) (by rw [pend_size, hs, pend0_size]) hton ?_; intro w3 hw3; have hc3 : Chg w w3 No := (HC1.out.tr (Chg.alloc _ (.cells pend0 95) No)).trans (put_chg hw3) (fun _ _ e => e) (fun j hj e => by omega); have HC3 := hid hc3; have HP3 := hid hw3.here; clear hw3 hc3)
    | fail)
  have hpt := pend_tag hs HP3.out
  have hc4 := HC3.out.tr (Chg.alloc w3 (.cells #[.int .i64 t] 3) No)
  have h4 := HH.out.call hc4
  have HI4 := hid (h4.tg x q HQQ.out)
  have HP4 : Hid ((w3.alloc (.cells #[.int .i64 t] 3)).heap[w.heap.size + 1]? = some (.cells (pend q.1 (tv x)) 95 (0, 0))) := hid ((Chg.alloc w3 _ No).keep HP3.out (fun e => e))
  have HL4 := hid (lat_one w3 t)
  have H4 := hid h4
  have HC4 := hid hc4
  have HNT : Hid (¬ (tv x).ownBlock = some (w.heap.size + 1)) := hid (fun e => by
    have := HH.out.lt _ _ (HH.out.rt x _ HDX.out e)
    omega)
  rw [HTV.out] at hpt
  clear h4 hc4 k2 HM
  go_upto_region 9 with (first
    | (at_builtin; go_must (refine wp_appL rfl _ _ rfl 0 (tv x) q.2 [t] (some ⟨w3.heap.size, 0, none⟩) 1 (by rw [HTV.out]; rfl) rfl HI4.out HL4.out (fun e => by cases e) (by have := HLL.out; simp only [List.length_singleton]; omega) (Nat.zero_le _) ?_; intro v5 w5 h51 h52 h53; obtain ⟨a5, c5, hv5, _, _⟩ := h51.lat; have HI5 := hid h51; have HO5 := hid h53; have HC5 := hid h52; have HP5 := hid (h52.keep HP4.out HNT.out); have k5 : w5.cell? ⟨w.heap.size + 1, 128, none⟩ = some (tv x) := pend_tag hs HP5.out; have kf5 : w5.frozen? ⟨w.heap.size + 1, 128, none⟩ = false := frozen_of_row w5 _ 128 _ _ HP5.out; rw [HTV.out] at k5; clear h51 h52 h53; subst hv5; generalize hM : (q.2 ++ [t]).length = M at *; have HMM := hid hM; clear hM))
    | fail)
  obtain ⟨w6, hw6⟩ : ∃ y, y = w5.setCell ⟨w.heap.size + 1, 128, none⟩ (.slice a5 M c5) := ⟨_, rfl⟩
  have HP6 : Hid (w6.heap[w.heap.size + 1]? = some (.cells (pend q.1 (.slice a5 M c5)) 95 (0, 0))) := hid (by rw [hw6, heap_setCell_same w5 _ 128 _ _ _ HP5.out, pend_set hs])
  have HC6 : Hid (Chg w5 w6 (· = w.heap.size + 1)) := hid (by rw [hw6]; exact Chg.setCell)
  rw [← hw6]
  clear hw6 k5 kf5 hpt
  have hc46 : Chg w w6 (fun k => (tv x).ownBlock = some k) := HC4.out.trans (HC5.out.trans HC6.out (c := fun k => (tv x).ownBlock = some k ∨ k = w.heap.size + 1) (fun _ _ e => .inl e) (fun _ _ e => .inr e)) (fun _ _ e => e.elim) (fun j hj e => by
    rcases e with e | e
    · exact e
    · omega)
  have hcm : ¬ (tv x).ownBlock = some mb := fun e => by
    have := HH.out.rt x _ HDX.out e
    rw [HH.out.rm] at this
    cases this
  have hcc : ¬ (tv x).ownBlock = some c := fun e => by
    have := HH.out.rt x _ HDX.out e
    rw [HH.out.rc] at this
    cases this
  have HME6 := hid (hc46.keep HH.out.me hcc)
  have HM6 := hid (HH.out.mp.keep (hc46.trans (Chg.refl w6 No).drew (c := fun k => (tv x).ownBlock = some k) (fun _ _ e => e) (fun _ _ e => e.elim)) hcm)
  have K6 : Hid (w6.cell? ⟨c, 2, none⟩ = some (.map (some mb))) := hid (by rw [cell_of_row _ _ _ _ _ _ HME6.out]; rfl)
  have HC46 := hid hc46
  have HFEW := hid HH.out.few
  have HPM : Hid (¬ w.heap.size + 1 = mb) := hid (fun e => by
    have := HH.out.lt _ _ HH.out.rm
    omega)
  have HCM : Hid (¬ c = mb) := hid (own_not HH.out.rc HH.out.rm (by simp))
  have HI6 := hid (row_keep HI5.out HC6.out (fun k hk e => by
    subst e
    rcases HO5.out with e2 | e2
    · exact HNT.out (by rw [← e2]; exact hk)
    · rw [e2] at hk
      have := Option.some.inj hk
      have := HC3.out.size
      have := slt HP3.out
      simp at *
      omega))
  clear hc46 hcm hcc
  refine wp_region_noPanic ?_
  refine wp_region_held_drew (S := fun w' => w'.cell? ⟨c, 2, none⟩ = some (.map (some mb)) ∧ w'.heap[w.heap.size + 1]? = some (.cells (pend q.1 (.slice a5 M c5)) 95 (0, 0))) (by kernel_rfl) ⟨K6.out, HP6.out⟩ (fun hHeld => ?_)
  refine takeVal 0 44 (.pointer (some ⟨c, 0, none⟩)) rfl (by kernel_rfl) (by kernel_rfl) (by kernel_rfl) rfl (by rfl) (fun _ _ _ h => h) hHeld (fun _ hw' => rfl) ?_
  simp only [List.setIfInBounds_toArray, List.set_cons_zero, List.set_cons_succ]
  refine takeVal 1 45 (.pointer (some ⟨c, 0, none⟩)) rfl (by kernel_rfl) (by kernel_rfl) (by kernel_rfl) rfl (by rfl) (fun _ _ _ h => h) hHeld (fun _ hw' => by go_simp) ?_
  simp only [List.setIfInBounds_toArray, List.set_cons_zero, List.set_cons_succ]
  refine takeVal 2 46 (.pointer (some ⟨c, 2, none⟩)) rfl (by kernel_rfl) (by kernel_rfl) (by kernel_rfl) rfl (by rfl) (fun _ _ _ h => h) hHeld (fun _ hw' => by go_simp) ?_
  simp only [List.setIfInBounds_toArray, List.set_cons_zero, List.set_cons_succ]
  refine takeVal 3 47 (.map (some mb)) rfl (by kernel_rfl) (by kernel_rfl) (by kernel_rfl) rfl (by rfl) (fun _ _ _ h => h) hHeld (fun _ hw' => by have hq' := hw'.1; go_simp) ?_
  simp only [List.setIfInBounds_toArray, List.set_cons_zero, List.set_cons_succ]
  refine takeVal 4 48 (.int .i64 x) rfl (by kernel_rfl) (by kernel_rfl) (by kernel_rfl) rfl (by rfl) (fun _ _ _ h => h) hHeld (fun _ hw' => rfl) ?_
  simp only [List.setIfInBounds_toArray, List.set_cons_zero, List.set_cons_succ]
  refine takeVal 5 49 (.agg (pend q.1 (.slice a5 M c5))) rfl (by kernel_rfl) (by kernel_rfl) (by kernel_rfl) rfl (by rfl) (fun _ _ _ h => h) hHeld (fun _ hw' => load_opP rfl rfl hs hw'.2) ?_
  simp only [List.setIfInBounds_toArray, List.set_cons_zero, List.set_cons_succ]
  refine step1 6 (by kernel_rfl) ?_
  refine stPutV 6 rfl rfl (by rfl) _ _ _ rfl mb _ x (.agg (pend q.1 (.slice a5 M c5))) rfl rfl rfl HM6.out hI HFEW.out ?_
  intro w8 hM8 hc8 hz8
  have hk8 := hc8.keep (show w6.drew.heap[c]? = _ from HME6.out) HCM.out
  have hp8 := hc8.keep (show w6.drew.heap[w.heap.size + 1]? = _ from HP6.out) HPM.out
  refine ⟨⟨by rw [cell_of_row _ _ _ _ _ _ hk8]; rfl, hp8⟩, ?_⟩
  refine wpAnyH_done (by kernel_rfl) ?_ _
  refine NoPanic.normal ?_
  have hc68 : Chg w6 w8 (· = mb) := ⟨hc8.os, hc8.tape, hc8.output, hc8.size, hc8.block⟩
  have hc08 : Chg w w8 (fun k => (tv x).ownBlock = some k ∨ k = mb) := HC46.out.trans hc68 (fun _ _ e => .inl e) (fun _ _ e => .inr e)
  have hI8 := row_keep HI6.out hc68 (fun k hk e => by
    subst e
    rcases HO5.out with e2 | e2
    · rw [e2] at hk
      have := HH.out.rt x _ HDX.out hk
      rw [HH.out.rm] at this
      cases this
    · rw [e2] at hk
      have := Option.some.inj hk
      have := HH.out.lt _ _ HH.out.rm
      have := HC4.out.size
      omega)
  have HPO := hid (isC_tag HH.out HQQ.out hc08 hM8 hI8 (fun k hk => by
    rcases HO5.out with e2 | e2
    · exact .inl (by rw [← e2]; exact hk)
    · rw [e2] at hk
      have := Option.some.inj hk
      have := HC4.out.size
      exact .inr (by omega)))
  clear hc8 hM8 hI8 hc08 hc68 hk8 hp8 hHeld
  go_wp2_with fail
  go_ret
  exact ⟨rfl, HPO.out⟩
theorem le_sum {l : List Nat} {a : Nat} (h : a ∈ l) : a ≤ l.sum := by
  induction l with
  | nil => cases h
  | cons b l ih =>
    rw [List.sum_cons]
    rcases List.mem_cons.1 h with e | e
    · omega
    · have := ih e; omega
theorem tl_tsum {P : Int → Option (List Int × List Int)} {x : Int} {q : List Int × List Int} (hx : Sec x) (h : P x = some q) : q.2.length ≤ tsum P := by
  unfold tsum
  have hm : tl (P (Int.ofNat x.toNat)) ∈ (List.range 4096).map fun i => tl (P (Int.ofNat i)) := List.mem_map.2 ⟨x.toNat, List.mem_range.2 (by have := hx.2; have := hx.1; omega), rfl⟩
  have e : Int.ofNat x.toNat = x := by have := hx.1; simp; omega
  rw [e, h] at hm
  exact le_sum hm
theorem mark_any (x t : Int) (h : IsC w c p g n ρ z) (hx : 0 ≤ x ∧ x < n) (hlo : z.lost = false) (ht : TB z) :
    Calls Tryz.prog 35 #[.pointer (some ⟨c, 0, none⟩), .int .i64 x, .int .i64 t] w fun e w' => e = .returned (.int .i64 0) ∧ CPost w w' c p g n ρ (markC z x t) := by
  unfold TB at ht
  cases hq : z.P x with
  | none => exact mark_none x t h hx hlo hq (by omega)
  | some q =>
    have := tl_tsum (h.inv.sec (by unfold CSt.dirty; rw [hq]; rfl)) hq
    exact mark_some x t q h hx hlo hq (by omega)

end Go.Proofs.YtamoepninddbcaaGreat
