/-
  The document's cache: an item that is changed in its place; Landed.
-/
import Derived.Test.YtamoepninddbcaaGreatKJ
namespace Go.Proofs.YtamoepninddbcaaGreat
open Go.RowKit

theorem drain_all {n : Nat} {z : CSt} {x : Int} {l : List Int} {res : CSt × Int} (hi : CInv n z) (ha : Ahead z x l) (h : RAll n l z res) : res = drainC n z x := by
  unfold drainC
  by_cases hx : z.dirty x
  · rw [if_pos hx]
    have hb : ∀ a, a ∈ befC z x ↔ a ≠ x ∧ Way z.E a x := fun a => by
      unfold befC
      rw [secs_mem]
      constructor
      · rintro ⟨_, e1, e2⟩
        exact ⟨e1, e2.resolve_left e1⟩
      · rintro ⟨e1, e2⟩
        exact ⟨(e2.sec hi.inSec).1, e1, .inr e2⟩
    have := h.is (befC z x) [x] (secs_up _) (fun y => ?_) (.inr ⟨x, rfl, fun a h9 => (hb a).1 h9⟩) hi
    · rw [this, List.length_append, List.length_singleton]
    · rw [hb, ha.is, List.mem_singleton]
      constructor
      · rintro ⟨e1, e2⟩
        by_cases e : y = x
        · exact .inr e
        · exact .inl ⟨e, e1.resolve_left e⟩
      · rintro (⟨e1, e2⟩ | e)
        · exact ⟨.inr e2, reach_dirty hi (.inr e2) (fun c => e1 c.symm)⟩
        · rw [e]; exact ⟨.inl rfl, hx⟩
  · rw [if_neg hx]
    have := h.is [] [] List.Pairwise.nil (fun y => ?_) (.inl rfl) hi
    · rw [this]; rfl
    · rw [ha.is]
      simp only [List.not_mem_nil, or_self, iff_false]
      rintro ⟨e1, e2⟩
      rcases e1 with e | e
      · exact hx (e ▸ e2)
      · obtain ⟨c, hc⟩ := e.last
        exact hx (hi.ed _ _ hc).2
theorem sync_all {n : Nat} {z : CSt} {res : CSt × Int} (hi : CInv n z) (h : RAll n (secs z.dirty) z res) : res = syncC n z := by
  have := h.is (secs z.dirty) [] (secs_up _) (fun y => ?_) (.inl rfl) hi
  · rw [this, List.append_nil]; rfl
  · simp only [List.not_mem_nil, or_false]
    exact ⟨fun e => e.1, fun e => ⟨e, (secs_mem.1 e).2⟩⟩
theorem ref_in {n : Nat} {z : CSt} {x : Int} (hx : okN n x = true) (hlo : z.lost = false) : refC n z [x] = 0 := by
  obtain ⟨h0, h1⟩ := okN_iff.1 hx
  rw [refC_one h0 h1, hlo]; rfl
theorem ref_out {n : Nat} {z : CSt} {x : Int} (hx : okN n x = false) : refC n z [x] = 40 := refC_bad (k := 0) (by simp) (by simpa using hx)
section
variable {r rd n : Nat} {ρ : Nat → Option RRole} {z : CSt}
theorem IsRC.lt {w : World} (h : IsRC w r rd n ρ z) {k : Nat} (hk : OwnR ρ k) : k < w.heap.size := by
  obtain ⟨_, _, _, _, _, _, _, _, h⟩ := h
  obtain ⟨q, hq⟩ := hk
  exact h.lt k q hq
theorem RPost.step {w w1 w2 : World} (hc : Chg w w1 No) (h : RPost w1 w2 r rd n ρ z) : RPost w w2 r rd n ρ z := RPost.pre (hc.mono fun _ _ e => e.elim) h
set_option maxHeartbeats 4000000 in
set_option maxRecDepth 100000 in
theorem rdrain_any (x : Int) (w : World) (h : IsRC w r rd n ρ z) (hlo : z.lost = false) (ht : TB z) (hw : z.d.wr < 4611686018427380000) : Calls Tryz.prog 29 #[.pointer (some ⟨r, 0, none⟩), .int .i64 x] w fun e w' => e = .returned (.int .i64 (DrainC n z x).2) ∧ RPost w w' r rd n ρ (DrainC n z x).1 := by
  have hT := rthere_any x w h
  have hA := rahead_any x w h
  have H := hid h
  unfold DrainC
  cases hx : okN n x with
  | true =>
    rw [hx] at hT
    rw [if_pos (ref_in hx hlo)]
    have HAll : Hid (∀ (l : List Int) (w2 : World) (v : Value), Ints w2 w.heap.size v l → Ahead z x l → Chg w w2 No → ∃ a ca, v = .slice a l.length ca ∧ Calls Tryz.prog 72 #[.pointer (some ⟨r, 0, none⟩), .slice a l.length ca] w2 fun e w' => e = .returned (.int .i64 (drainC n z x).2) ∧ RPost w2 w' r rd n ρ (drainC n z x).1) := hid (fun l w2 v hI hAh hc => by
      obtain ⟨a, ca, hv, hla, hge⟩ := hI.lat
      refine ⟨a, ca, hv, (rall_any l a ca w2 (h.call hc) hla (by have := hAh.len; omega) (fun g hg ho => ?_) ht hw).mono ?_⟩
      · have := hge g hg
        have := h.lt ho
        omega
      · rintro e w' ⟨res, h1, h2, h3⟩
        rw [← drain_all h.inv hAh h1]
        exact ⟨h2, h3⟩)
    clear h hlo ht hw hx
    go_enter Tryz.func29, Tryz.ntmps29
    go_wp2_with (first
      | (go_at_call 71; go_must (refine hT.mono ?_; rintro e w' ⟨rfl, hw⟩; have hw := hw.symm; subst hw))
      | (go_at_call 73; go_must (refine hA.mono ?_; rintro e w2 ⟨v, l, rfl, hI, hAh, hc⟩; obtain ⟨a, ca, hv, hCl⟩ := HAll.out l w2 v hI hAh hc; subst hv; have HC2 := hid hc; clear hI hAh hc))
      | (go_at_call 72; go_must (refine hCl.mono ?_; rintro e w3 ⟨rfl, hP3⟩; have HP3 := hid hP3; clear hP3))
      | fail)
    go_ret
    exact ⟨rfl, RPost.step HC2.out HP3.out⟩
  | false =>
    rw [hx] at hT
    rw [ref_out hx, if_neg (by decide)]
    clear h hlo ht hw hx hA
    go_enter Tryz.func29, Tryz.ntmps29
    go_wp2_with (first
      | (go_at_call 71; go_must (refine hT.mono ?_; rintro e w' ⟨rfl, hw⟩; have hw := hw.symm; subst hw))
      | fail)
    go_ret
    exact ⟨rfl, RPost.same H.out (Chg.refl w No)⟩
set_option maxHeartbeats 4000000 in
set_option maxRecDepth 100000 in
theorem rsync_any (w : World) (h : IsRC w r rd n ρ z) (ht : TB z) (hw : z.d.wr < 4611686018427380000) : Calls Tryz.prog 32 #[.pointer (some ⟨r, 0, none⟩)] w fun e w' => e = .returned (.int .i64 (syncC n z).2) ∧ RPost w w' r rd n ρ (syncC n z).1 := by
  have hD := rdirty_any w h
  have HAll : Hid (∀ (w2 : World) (v : Value), Ints w2 w.heap.size v (secs z.dirty) → Chg w w2 No → ∃ a ca, v = .slice a (secs z.dirty).length ca ∧ Calls Tryz.prog 72 #[.pointer (some ⟨r, 0, none⟩), .slice a (secs z.dirty).length ca] w2 fun e w' => e = .returned (.int .i64 (syncC n z).2) ∧ RPost w2 w' r rd n ρ (syncC n z).1) := hid (fun w2 v hI hc => by
    obtain ⟨a, ca, hv, hla, hge⟩ := hI.lat
    refine ⟨a, ca, hv, (rall_any _ a ca w2 (h.call hc) hla (by have := secs_len z.dirty; omega) (fun g hg ho => ?_) ht hw).mono ?_⟩
    · have := hge g hg
      have := h.lt ho
      omega
    · rintro e w' ⟨res, h1, h2, h3⟩
      rw [← sync_all h.inv h1]
      exact ⟨h2, h3⟩)
  clear h ht hw
  go_enter Tryz.func32, Tryz.ntmps32
  go_wp2_with (first
    | (go_at_call 78; go_must (refine hD.mono ?_; rintro e w2 ⟨v, rfl, hI, hc⟩; obtain ⟨a, ca, hv, hCl⟩ := HAll.out w2 v hI hc; subst hv; have HC2 := hid hc; clear hI hc))
    | (go_at_call 72; go_must (refine hCl.mono ?_; rintro e w3 ⟨rfl, hP3⟩; have HP3 := hid hP3; clear hP3))
    | fail)
  go_ret
  exact ⟨rfl, RPost.step HC2.out HP3.out⟩
set_option maxHeartbeats 4000000 in
set_option maxRecDepth 100000 in
theorem rdrop_any (x : Int) (w : World) (h : IsRC w r rd n ρ z) (hlo : z.lost = false) : Calls Tryz.prog 34 #[.pointer (some ⟨r, 0, none⟩), .int .i64 x] w fun e w' => e = .returned (.int .i64 (DropC n z x).2) ∧ RPost w w' r rd n ρ (DropC n z x).1 := by
  have hT := rthere_any x w h
  have hF := rforget_any x w h
  have H := hid h
  unfold DropC
  cases hx : okN n x with
  | true =>
    rw [hx] at hT
    rw [if_pos (ref_in hx hlo)]
    clear h hlo hx
    go_enter Tryz.func34, Tryz.ntmps34
    go_wp2_with (first
      | (go_at_call 71; go_must (refine hT.mono ?_; rintro e w' ⟨rfl, hw⟩; have hw := hw.symm; subst hw))
      | (go_at_call 80; go_must (refine hF.mono ?_; rintro e w3 ⟨rfl, hP3⟩; have HP3 := hid hP3; clear hP3))
      | fail)
    go_ret
    exact ⟨rfl, HP3.out⟩
  | false =>
    rw [hx] at hT
    rw [ref_out hx, if_neg (by decide)]
    clear h hlo hx hF
    go_enter Tryz.func34, Tryz.ntmps34
    go_wp2_with (first
      | (go_at_call 71; go_must (refine hT.mono ?_; rintro e w' ⟨rfl, hw⟩; have hw := hw.symm; subst hw))
      | fail)
    go_ret
    exact ⟨rfl, RPost.same H.out (Chg.refl w No)⟩
open Classical in
set_option maxHeartbeats 4000000 in
set_option maxRecDepth 100000 in
theorem rflush_any (x : Int) (w : World) (h : IsRC w r rd n ρ z) (hlo : z.lost = false) (ht : TB z) (hw : z.d.wr < 4611686018427380000) : Calls Tryz.prog 30 #[.pointer (some ⟨r, 0, none⟩), .int .i64 x] w fun e w' => e = .returned (.tuple #[.bool (flushC n z x).2.1, .int .i64 (flushC n z x).2.2]) ∧ RPost w w' r rd n ρ (flushC n z x).1 := by
  have hT := rthere_any x w h
  have hP := rplace_any x w h
  have hL := rled_any x w h
  have H := hid h
  unfold flushC
  cases hx : okN n x with
  | true =>
    rw [hx] at hT
    rw [if_pos (ref_in hx hlo)]
    by_cases hd : z.dirty x
    · obtain ⟨j, _, hpl⟩ := flat_secs h.inv hd
      rw [hpl] at hP
      have hj0 : ¬ (j : Int) < 0 := by omega
      by_cases hf : FreeE z.E x
      · rw [if_pos ⟨hd, hf⟩]
        rw [decide_eq_false (fun c => c hf)] at hL
        have hW := rwrite_any x w h hd ht (by omega)
        obtain ⟨c, hc⟩ : ∃ c, c = (wrC n z x).2 := ⟨_, rfl⟩
        rw [← hc] at hW ⊢
        obtain ⟨zz, hz⟩ : ∃ y, y = (wrC n z x).1 := ⟨_, rfl⟩
        rw [← hz] at hW
        simp only [← hz]
        by_cases h0 : c = 0
        · subst h0
          clear h hlo hx hpl hd hf hc hz ht hw
          go_enter Tryz.func30, Tryz.ntmps30
          go_wp2_with (first
            | (go_at_call 71; go_must (refine hT.mono ?_; rintro e w' ⟨rfl, hw⟩; have hw := hw.symm; subst hw))
            | (go_at_call 74; go_must (refine hP.mono ?_; rintro e w' ⟨rfl, hw⟩; have hw := hw.symm; subst hw))
            | (go_at_call 75; go_must (refine hL.mono ?_; rintro e w' ⟨rfl, hw⟩; have hw := hw.symm; subst hw))
            | (go_at_call 76; go_must (refine hW.mono ?_; rintro e w3 ⟨rfl, hP3⟩; have HP3 := hid hP3; clear hP3))
            | fail)
          refine bodyPost_ret (v := .tuple #[.bool true, .int .i64 0]) (by simp [results, Tryz.results30, go_sem]) rfl ⟨rfl, HP3.out⟩
        · have hb : (c == 0) = false := beq_eq_false_iff_ne.2 h0
          rw [decide_eq_false h0]
          clear h hlo hx hpl hd hf hc hz ht hw
          go_enter Tryz.func30, Tryz.ntmps30
          go_wp2_with (first
            | (go_at_call 71; go_must (refine hT.mono ?_; rintro e w' ⟨rfl, hw⟩; have hw := hw.symm; subst hw))
            | (go_at_call 74; go_must (refine hP.mono ?_; rintro e w' ⟨rfl, hw⟩; have hw := hw.symm; subst hw))
            | (go_at_call 75; go_must (refine hL.mono ?_; rintro e w' ⟨rfl, hw⟩; have hw := hw.symm; subst hw))
            | (go_at_call 76; go_must (refine hW.mono ?_; rintro e w3 ⟨rfl, hP3⟩; have HP3 := hid hP3; clear hP3))
            | fail)
          refine bodyPost_ret (v := .tuple #[.bool false, .int .i64 c]) (by simp [results, Tryz.results30, go_sem]) rfl ⟨rfl, HP3.out⟩
      · rw [if_neg (fun e => hf e.2)]
        rw [decide_eq_true (show ¬ FreeE z.E x from hf)] at hL
        clear h hlo hx hpl hd hf ht hw
        go_enter Tryz.func30, Tryz.ntmps30
        go_wp2_with (first
          | (go_at_call 71; go_must (refine hT.mono ?_; rintro e w' ⟨rfl, hw⟩; have hw := hw.symm; subst hw))
          | (go_at_call 74; go_must (refine hP.mono ?_; rintro e w' ⟨rfl, hw⟩; have hw := hw.symm; subst hw))
          | (go_at_call 75; go_must (refine hL.mono ?_; rintro e w' ⟨rfl, hw⟩; have hw := hw.symm; subst hw))
          | fail)
        refine bodyPost_ret (v := .tuple #[.bool false, .int .i64 0]) (by simp [results, Tryz.results30, go_sem]) rfl ⟨rfl, RPost.same H.out (Chg.refl w No)⟩
    · rw [if_neg (fun e => hd e.1)]
      rw [out_secs hd] at hP
      clear h hlo hx hd hL ht hw
      go_enter Tryz.func30, Tryz.ntmps30
      go_wp2_with (first
        | (go_at_call 71; go_must (refine hT.mono ?_; rintro e w' ⟨rfl, hw⟩; have hw := hw.symm; subst hw))
        | (go_at_call 74; go_must (refine hP.mono ?_; rintro e w' ⟨rfl, hw⟩; have hw := hw.symm; subst hw))
        | fail)
      refine bodyPost_ret (v := .tuple #[.bool false, .int .i64 0]) (by simp [results, Tryz.results30, go_sem]) rfl ⟨rfl, RPost.same H.out (Chg.refl w No)⟩
  | false =>
    rw [hx] at hT
    rw [ref_out hx, if_neg (by decide)]
    clear h hlo ht hw hx hP hL
    go_enter Tryz.func30, Tryz.ntmps30
    go_wp2_with (first
      | (go_at_call 71; go_must (refine hT.mono ?_; rintro e w' ⟨rfl, hw⟩; have hw := hw.symm; subst hw))
      | fail)
    refine bodyPost_ret (v := .tuple #[.bool false, .int .i64 40]) (by simp [results, Tryz.results30, go_sem]) rfl ⟨rfl, RPost.same H.out (Chg.refl w No)⟩
end
end Go.Proofs.YtamoepninddbcaaGreat

namespace Go.Proofs.YtamoepninddbcaaGreat
open Go.RowKit

theorem flat_setK {α : Type} [DecidableEq α] (f : α → List Value) (k i : Nat) (u : Value) (hk : ∀ x, (f x).length = k) (hi : i < k) : ∀ {l : List α} {j : Nat} {x : α}, l.Nodup → l[j]? = some x → (l.flatMap f).set (j * k + i) u = l.flatMap fun y => if y = x then (f y).set i u else f y
  | [], _, _, _, h => by cases h
  | e :: l, 0, x, hn, h => by
    cases h
    obtain ⟨h1, h2⟩ := List.nodup_cons.1 hn
    rw [List.flatMap_cons, List.flatMap_cons, if_pos rfl, Nat.zero_mul, Nat.zero_add, List.set_append_left _ _ (by rw [hk]; exact hi)]
    congr 1
    rw [List.flatMap_def, List.flatMap_def]
    refine congrArg List.flatten (List.map_congr_left fun y hy => ?_)
    have hye : y ≠ e := fun c => h1 (by rw [← c]; exact hy)
    rw [if_neg hye]
  | e :: l, j + 1, x, hn, h => by
    obtain ⟨h1, h2⟩ := List.nodup_cons.1 hn
    have hx : e ≠ x := fun c => h1 (by rw [c]; exact List.mem_of_getElem? h)
    rw [List.flatMap_cons, List.flatMap_cons, if_neg hx, List.set_append_right _ _ (by rw [hk, Nat.add_mul]; omega), hk, show (j + 1) * k + i - k = j * k + i by rw [Nat.add_mul]; omega]
    rw [flat_setK f k i u hk hi h2 h]
/-- Some cells of a list written over. -/
def ovrK : List Value → Nat → List Value → List Value
  | l, _, [] => l
  | l, o, x :: r => ovrK (l.set o x) (o + 1) r
theorem flat_ovrK {α : Type} [DecidableEq α] (k : Nat) {l : List α} {j : Nat} {x : α} (hn : l.Nodup) (hj : l[j]? = some x) : ∀ (vs : List Value) (f : α → List Value) (i : Nat), (∀ x, (f x).length = k) → i + vs.length ≤ k → ovrK (l.flatMap f) (j * k + i) vs = l.flatMap fun y => if y = x then ovrK (f y) i vs else f y
  | [], f, i, _, _ => by
    show l.flatMap f = _
    rw [List.flatMap_def, List.flatMap_def]
    refine congrArg List.flatten (List.map_congr_left fun y _ => ?_)
    by_cases h : y = x
    · rw [if_pos h]; rfl
    · rw [if_neg h]
  | v :: vs, f, i, hk, hi => by
    rw [List.length_cons] at hi
    show ovrK ((l.flatMap f).set (j * k + i) v) (j * k + i + 1) vs = _
    rw [flat_setK f k i v hk (by omega) hn hj, Nat.add_assoc, flat_ovrK k hn hj vs _ (i + 1) (fun y => by
      by_cases h : y = x
      · rw [if_pos h, List.length_set, hk]
      · rw [if_neg h, hk]) (by omega)]
    rw [List.flatMap_def, List.flatMap_def]
    refine congrArg List.flatten (List.map_congr_left fun y _ => ?_)
    by_cases h : y = x
    · rw [if_pos h, if_pos h, if_pos h]; rfl
    · rw [if_neg h, if_neg h, if_neg h]
theorem ovrK_at : ∀ (r a b c : List Value), b.length = r.length → ovrK (a ++ (b ++ c)) a.length r = a ++ (r ++ c)
  | [], a, b, c, h => by
    rw [List.length_eq_zero_iff.1 h]
    rfl
  | x :: r, a, b, c, h => by
    cases b with
    | nil => cases h
    | cons y b =>
      show ovrK ((a ++ (y :: b ++ c)).set a.length x) (a.length + 1) r = _
      have e : (a ++ (y :: b ++ c)).set a.length x = (a ++ [x]) ++ (b ++ c) := by
        rw [List.set_append_right _ _ (Nat.le_refl _), Nat.sub_self]
        simp
      have e2 : a.length + 1 = (a ++ [x]).length := by simp
      rw [e, e2, ovrK_at r (a ++ [x]) b c (by simpa using h)]
      simp
theorem row_cellsK {B : Nat} {e : TypeId} {size g n cap : Nat} : ∀ (vs : List Value) (o : Nat) (xs : List Value) (w : World), w.ownsRow B e size (.slice (some ⟨g, 0, none⟩) n cap) n xs → (w.setCells g o vs).ownsRow B e size (.slice (some ⟨g, 0, none⟩) n cap) n (ovrK xs o vs)
  | [], _, _, _, h => h
  | v :: vs, o, xs, _, h => row_cellsK vs (o + 1) (xs.set o v) _ (h.stored o v).1
theorem secs_nodup (p : Int → Prop) : (secs p).Nodup := (secs_up p).imp fun {a b} e => by omega
section
variable {w w' : World} {r rd rk n rc : Nat} {X : Array Value} {v0 v1 lv : Value} {tv : Int → Value} {W : List (Int × Int)} {ρ ρ1 : Nat → Option RRole} {z : CSt}
/-- With another content and other tags. -/
def CSt.re (z : CSt) (x : Int) (q : List Int × List Int) : CSt := ⟨z.d, z.E, fun y => if y = x then some q else z.P y, z.ld, z.lost⟩
theorem re_dirty {x : Int} {q q' : List Int × List Int} (hq : z.P x = some q) (y : Int) : (z.re x q').dirty y ↔ z.dirty y := by
  unfold CSt.dirty CSt.re
  simp only
  by_cases h : y = x
  · rw [if_pos h, h, hq]; simp
  · rw [if_neg h]
theorem IsRC0.reitem (h : IsRC0 w r rd rk n rc X v0 v1 lv tv W ρ z) {x : Int} {q q' : List Int × List Int} (hq : z.P x = some q) {v6 : Value} (hc : Chg w w' (fun k => (tv x).ownBlock = some k ∨ v0.ownBlock = some k))
    (hit : w'.ownsRow 0 109 130 v0 (secs z.dirty).length ((secs z.dirty).flatMap (itC (z.re x q') fun y => if y = x then v6 else tv y))) (hi : Ints w' 0 v6 q'.2) (hb : v6.ownBlock = (tv x).ownBlock ∨ ∀ k, v6.ownBlock = some k → w.heap.size ≤ k) (hl : q'.1.length = 128) : RPost w w' r rd n ρ (z.re x q') := by
  have hd : z.dirty x := by unfold CSt.dirty; rw [hq]; rfl
  have hse : secs (z.re x q').dirty = secs z.dirty := secs_cong fun y => re_dirty hq y
  have hne : ∀ {k : Nat} {s : RRole}, ρ k = some s → s ≠ .tag x → s ≠ .it → ¬ ((tv x).ownBlock = some k ∨ v0.ownBlock = some k) := fun hk hs hs2 e => e.elim (fun e => by
    have := h.rt x _ hd e
    rw [hk] at this
    cases this
    exact hs rfl) (fun e => by
    have := h.ri _ e
    rw [hk] at this
    cases this
    exact hs2 rfl)
  have hold : ∀ {k : Nat} {s : RRole}, ρ k = some s → (if v6.ownBlock = some k then some (RRole.tag x) else ρ k) = some s := fun {k s} hk => by
    by_cases e : v6.ownBlock = some k
    · rw [if_pos e]
      rcases hb with e2 | e2
      · rw [e2] at e
        rw [← h.rt x k hd e, hk]
      · have := e2 k e
        have := h.lt _ _ hk
        omega
    · rw [if_neg e]; exact hk
  refine ⟨fun k => if v6.ownBlock = some k then some (.tag x) else ρ k, ⟨rk, rc, X, v0, v1, lv, fun y => if y = x then v6 else tv y, W, ?_⟩, ?_, hc.mono fun k _ e => ?_⟩
  · refine ⟨hc.keep h.me (hne h.rm (by intro e; cases e) (by intro e; cases e)), isQ_keep h.dk hc (hne h.rd_ (by intro e; cases e) (by intro e; cases e)) (hne h.rs (by intro e; cases e) (by intro e; cases e)), by rw [hse]; exact hit, row_keep h.wy hc fun k hk => hne (h.rw_ k hk) (by intro e; cases e) (by intro e; cases e),
      fun y s hy => ?_, row_keep h.ld hc fun k hk => hne (h.rl k hk) (by intro e; cases e) (by intro e; cases e),
      h.wd, h.we, hold h.rm, hold h.rd_, hold h.rs, fun k hk => hold (h.ri k hk), fun k hk => hold (h.rw_ k hk), fun y k hy hk => ?_, fun k hk => hold (h.rl k hk), fun k s hk => ?_, ⟨fun a b e => ?_, fun y hy => h.inv.ok y ((re_dirty hq y).1 hy), fun y s hy => ?_, h.inv.ring, h.inv.top, h.inv.w0, h.inv.lf⟩⟩
    · unfold CSt.re at hy
      simp only at hy
      show Ints w' 0 (if y = x then v6 else tv y) s.2
      by_cases e : y = x
      · rw [if_pos e] at hy ⊢
        cases hy
        exact hi
      · rw [if_neg e] at hy ⊢
        exact row_keep (h.tg y s hy) hc fun k hk => hne (h.rt y k (by unfold CSt.dirty; rw [hy]; rfl) hk) (by intro c; cases c; exact e rfl) (by intro e; cases e)
    · have hk : (if y = x then v6 else tv y).ownBlock = some k := hk
      show (if v6.ownBlock = some k then some (RRole.tag x) else ρ k) = some (.tag y)
      by_cases e : y = x
      · rw [if_pos e] at hk
        rw [if_pos hk, e]
      · rw [if_neg e] at hk
        exact hold (h.rt y k ((re_dirty hq y).1 hy) hk)
    · by_cases e : v6.ownBlock = some k
      · exact (row_ge hi e).2
      · simp only [if_neg e] at hk
        exact Nat.lt_of_lt_of_le (h.lt _ _ hk) hc.size
    · have := h.inv.ed a b e
      exact ⟨(re_dirty hq a).2 this.1, (re_dirty hq b).2 this.2⟩
    · unfold CSt.re at hy
      simp only at hy
      by_cases e : y = x
      · rw [if_pos e] at hy
        cases hy
        exact hl
      · rw [if_neg e] at hy
        exact h.inv.ln y s hy
  · rintro k ⟨s, hk⟩
    by_cases e : v6.ownBlock = some k
    · rcases hb with e2 | e2
      · rw [e2] at e
        exact .inl ⟨_, h.rt x k hd e⟩
      · exact .inr (e2 k e)
    · simp only [if_neg e] at hk
      exact .inl ⟨s, hk⟩
  · rcases e with e | e
    · exact ⟨_, h.rt x k hd e⟩
    · exact ⟨_, h.ri k e⟩
end
section
variable {r rd n : Nat} {ρ : Nat → Option RRole} {z : CSt}
set_option maxHeartbeats 4000000 in
set_option maxRecDepth 100000 in
theorem rlanded_any (w : World) (h : IsRC w r rd n ρ z) : Calls Tryz.prog 83 #[.pointer (some ⟨r, 0, none⟩)] w fun e w' =>
    ∃ (a : Option Addr) (cc : Nat) (ρ' : Nat → Option RRole), e = .returned (.slice a z.ld.length cc) ∧ LAt w' a z.ld ∧ (∀ k, a = some ⟨k, 0, none⟩ → ¬ OwnR ρ' k ∧ k < w.heap.size ∧ OwnR ρ k) ∧ IsRC w' r rd n ρ' (toldC z) ∧ (∀ k, OwnR ρ' k → OwnR ρ k) ∧ Chg w w' (· = r) ∧ (a = none → cc = 0) := by
  obtain ⟨rk, rc, X, v0, v1, lv, tv, W, h⟩ := h
  obtain ⟨a, cc, rfl, hLA, _⟩ := h.ld.lat
  have hnc := h.ld.nilcap
  have k3 := h.c3
  have kz := frozen_of_row (j := 3) _ _ _ _ h.me
  have HH := hid h
  have HLA := hid hLA
  have HNC := hid hnc
  clear h hLA hnc
  generalize hN : z.ld.length = N at *
  go_enter Tryz.func83, Tryz.ntmps83
  go_wp2_with fail
  go_ret
  have h := HH.out
  have hc : Chg w (w.setCell ⟨r, 3, none⟩ (.slice none 0 0)) (· = r) := Chg.setCell
  have hown : ∀ k, a = some ⟨k, 0, none⟩ → (Value.slice a N cc).ownBlock = some k := fun k e => (HNC.out.2 _ e).2
  have hld : ∀ k, (Value.slice a N cc).ownBlock = some k → ρ k = some .tg := h.rl
  have hne : ∀ k s, ρ k = some s → s ≠ .tg → ¬ (Value.slice a N cc).ownBlock = some k := fun k s hr hn e => by
    have := hld k e
    rw [hr] at this
    cases this
    exact hn rfl
  have hr : ∀ {k : Nat} {s : RRole}, ρ k = some s → s ≠ .me → ¬ k = r := fun hk hq e => ownR_not hk h.rm hq e
  have hk : ∀ {k : Nat} {s : RRole}, ρ k = some s → s ≠ .tg → (if (Value.slice a N cc).ownBlock = some k then none else ρ k) = some s := fun hk hq => by
    rw [if_neg (hne _ _ hk hq)]; exact hk
  refine ⟨a, cc, fun k => if (Value.slice a N cc).ownBlock = some k then none else ρ k, rfl, HLA.out.keep hc (fun k e e2 => ?_), fun k e => ⟨?_, h.lt k _ (hld k (hown k e)), ⟨_, hld k (hown k e)⟩⟩, ⟨rk, rc, X, v0, v1, .slice none 0 0, tv, W, ?_⟩, ?_, hc, HNC.out.1⟩
  · subst e2
    exact hne _ _ h.rm (by intro e; cases e) (hown _ e)
  · rintro ⟨s, hs⟩
    simp only [if_pos (hown k e)] at hs
    cases hs
  · refine ⟨heap_setCell_same w r 3 _ _ _ h.me, isQ_keep h.dk hc (hr h.rd_ (by intro e; cases e)) (hr h.rs (by intro e; cases e)), row_keep h.it hc fun k hk => hr (h.ri k hk) (by intro e; cases e), row_keep h.wy hc fun k hk => hr (h.rw_ k hk) (by intro e; cases e),
      fun x q hx => row_keep (h.tg x q hx) hc fun k hk => hr (h.rt x k (by unfold CSt.dirty; rw [show z.P x = some q from hx]; rfl) hk) (by intro e; cases e), World.ownsRow_nil _ _ _ _,
      h.wd, h.we, hk h.rm (by intro e; cases e), hk h.rd_ (by intro e; cases e), hk h.rs (by intro e; cases e), fun k h9 => hk (h.ri k h9) (by intro e; cases e), fun k h9 => hk (h.rw_ k h9) (by intro e; cases e), fun y k hy h9 => hk (h.rt y k hy h9) (by intro e; cases e), fun k h9 => (by cases h9), fun k s hs => ?_, inv_d h.inv h.inv.w0 h.inv.lf⟩
    split at hs
    · cases hs
    · exact Nat.lt_of_lt_of_le (h.lt k s hs) hc.size
  · rintro k ⟨s, hs⟩
    simp only at hs
    split at hs
    · cases hs
    · exact ⟨s, hs⟩
end
end Go.Proofs.YtamoepninddbcaaGreat
