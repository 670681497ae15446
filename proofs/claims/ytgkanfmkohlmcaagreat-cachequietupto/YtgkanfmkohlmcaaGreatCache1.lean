/-
  Small parts of package cache: refusal, markLoss, forget; the first free one of a list.
-/
import Derived.Test.YtgkanfmkohlmcaaGreatCache0
import Derived.Defers
import Derived.Deep.CutRange
import Derived.Deep.DeepCutAuto
namespace Go.Proofs.YtgkanfmkohlmcaaGreat
open Go.RowKit

theorem Chg.tr {w w1 w2 : World} (h : Chg w w1 No) (k : Chg w1 w2 No) : Chg w w2 No := h.trans k (fun _ _ e => e) (fun _ _ e => e)
theorem chg_drewN (w : World) (n : Nat) : Chg w (w.drewN n) No := ⟨rfl, rfl, rfl, Nat.le_refl _, fun _ _ _ => rfl⟩
theorem cell_keep {w w' : World} {g j : Nat} {v : Value} {ks : Nat → Prop} (h : w.cell? ⟨g, j, none⟩ = some v) (hc : Chg w w' ks) (hg : g < w.heap.size) (hn : ¬ ks g) : w'.cell? ⟨g, j, none⟩ = some v := by
  rw [World.cell?_of_block (hc.block g hg hn)]
  exact h
/-- Numbers that lie in memory. -/
def LAt (w : World) (a : Option Addr) (l : List Int) : Prop := l = [] ∨ ∃ g, a = some ⟨g, 0, none⟩ ∧ g < w.heap.size ∧ ∀ k, k < l.length → w.cell? ⟨g, k, none⟩ = some (.int .i64 (l.getD k 0))
theorem LAt.keep {w w' : World} {a : Option Addr} {l : List Int} {ks : Nat → Prop} (h : LAt w a l) (hc : Chg w w' ks) (hn : ∀ g, a = some ⟨g, 0, none⟩ → ¬ ks g) : LAt w' a l := by
  rcases h with h | ⟨g, rfl, hg, h⟩
  · exact .inl h
  · exact .inr ⟨g, rfl, Nat.lt_of_lt_of_le hg hc.size, fun j hj => cell_keep (h j hj) hc hg (hn g rfl)⟩
theorem LAt.call {w w' : World} {a : Option Addr} {l : List Int} (h : LAt w a l) (hc : Chg w w' No) : LAt w' a l := h.keep hc fun _ _ e => e
theorem Ints.lat {w : World} {base : Nat} {v : Value} {l : List Int} (h : Ints w base v l) : ∃ a c, v = .slice a l.length c ∧ LAt w a l ∧ ∀ g, a = some ⟨g, 0, none⟩ → base ≤ g := by
  rcases h.2 with ⟨rfl, h0⟩ | ⟨g, cap, cur, rfl, hge, hb, h1, h2, h3, h4⟩
  · have : l = [] := List.eq_nil_of_length_eq_zero h0
    subst this
    exact ⟨none, 0, rfl, .inl rfl, fun g e => by cases e⟩
  · refine ⟨_, cap, rfl, .inr ⟨g, rfl, slt hb, fun k hk => ?_⟩, fun g' e => by cases e; exact hge⟩
    rw [cell_of_row _ _ _ _ _ _ hb, ← Array.getElem?_toList]
    have e := congrArg (fun t => t[k]?) h4
    simp only [Nat.mul_one] at e
    rw [List.getElem?_take_of_lt hk] at e
    rw [e]
    simp [hk]

section
variable {n : Nat} {z : CSt} {l : List Int}
theorem refC_bad {k : Nat} (hk : k < l.length) (hb : okN n (l.getD k 0) = false) : refC n z l = 40 := by
  unfold refC
  rw [if_neg]
  intro h
  rw [List.all_eq_true] at h
  have := h (l.getD k 0) (by rw [List.getD_eq_getElem?_getD, List.getElem?_eq_getElem hk]; exact List.getElem_mem hk)
  rw [hb] at this
  cases this
theorem refC_ok (h : ∀ k, k < l.length → okN n (l.getD k 0) = true) : refC n z l = if z.lost = true then 22 else 0 := by
  unfold refC
  rw [if_pos]
  rw [List.all_eq_true]
  intro x hx
  obtain ⟨k, hk, rfl⟩ := List.getElem_of_mem hx
  have := h k hk
  rw [List.getD_eq_getElem?_getD, List.getElem?_eq_getElem hk] at this
  exact this
theorem refC_zero (h : refC n z l = 0) : z.lost = false ∧ ∀ x, x ∈ l → 0 ≤ x ∧ x < n := by
  unfold refC at h
  split at h
  · rename_i h1
    rw [List.all_eq_true] at h1
    split at h
    · cases h
    · rename_i h2
      exact ⟨by simpa using h2, fun x hx => okN_iff.1 (h1 x hx)⟩
  · cases h
end

variable {w : World} {c p g n : Nat} {ρ : Nat → Option Role} {z : CSt}

set_option maxRecDepth 100000 in
set_option maxHeartbeats 1000000 in
theorem refusalC_any (l : List Int) (a : Option Addr) (ca : Nat) (h : IsC w c p g n ρ z) (hl : LAt w a l) (hm : l.length ≤ 1000000000000) :
    Calls Tryz.prog 32 #[.pointer (some ⟨c, 0, none⟩), .slice a l.length ca] w fun e w' => e = .returned (.int .i64 (refC n z l)) ∧ w = w' := by
  obtain ⟨gp, mb, go, tv, lv, h⟩ := h
  have k0 := h.c0
  have k4 := h.c4
  have HL := D.len_any w h.dk
  have HA := hid hl
  have htop := h.inv.top
  clear h hl
  generalize hlen : l.length = m at *
  go_enter Tryz.func32, Tryz.ntmps32
  go_wp2_with fail
  go_loopw [6, 9] (fun _ i wr => ∃ k : Nat, k ≤ m ∧ i = .int .i64 k ∧ w = wr ∧ Hid (∀ j, j < k → okN n (l.getD j 0) = true)) (fun _ i _ => m - (intOf i).toNat)
  case atStart => exact ⟨0, by omega, rfl, rfl, fun j hj => absurd hj (by omega)⟩
  case round =>
    obtain ⟨k, hk, rfl, rfl, hall⟩ := hrel
    by_cases hlt : k < m
    · rcases HA.out with h0 | ⟨g1, rfl, hg1, h1⟩
      · rw [h0] at hlen; simp at hlen; omega
      · have p1 := h1 k (by omega)
        have HX : Hid (∀ v, okN n (l.getD k 0) = v → okN n (l.getD k 0) = v) := fun _ e => e
        generalize hx : l.getD k 0 = x at *
        have HXe := hid hx
        have hi0 : (0 : Int) ≤ (k : Int) := by omega
        have hi1 : (k : Int) < (m : Int) := by omega
        clear h1 hx HX
        by_cases hx0 : x < 0
        · go_wp2_with fail
          go_ret
          exact ⟨ret_int (refC_bad (k := k) (by omega) (by rw [HXe.out]; simp [okN]; omega)).symm, rfl⟩
        · by_cases hx1 : (n : Int) ≤ x
          · go_wp2_with (first
              | (go_at_call 58; go_must (refine HL.mono ?_; rintro e w1 ⟨rfl, rfl⟩))
              | fail)
            go_ret
            exact ⟨ret_int (refC_bad (k := k) (by omega) (by rw [HXe.out]; simp [okN]; omega)).symm, rfl⟩
          · go_wp2_with (first
              | (go_at_call 58; go_must (refine HL.mono ?_; rintro e w1 ⟨rfl, rfl⟩))
              | fail)
            refine ⟨⟨k + 1, by omega, by go_num, trivial, fun j hj => ?_⟩, by simp [intOf]; omega⟩
            by_cases e : j = k
            · subst e
              rw [HXe.out]
              simp [okN]
              omega
            · exact hall.out j (by omega)
    · have hkm : k = m := by omega
      have HR := hid (refC_ok (n := n) (z := z) (l := l) (fun j hj => hall.out j (by omega)))
      cases hlo : z.lost
      · rw [hlo] at k4
        go_wp2_with fail
        go_ret
        exact ⟨ret_int (by rw [HR.out, hlo]; rfl), rfl⟩
      · rw [hlo] at k4
        go_wp2_with fail
        go_ret
        exact ⟨ret_int (by rw [HR.out, hlo]; rfl), rfl⟩

/-- What a change of some parts of a cache leaves of the others. -/
theorem IsC0.parts {w w' : World} {c p g n gp mb : Nat} {go : Nat → Prop} {tv : Int → Value} {lv : Value} {ρ : Nat → Option Role} {z : CSt} {ks : Nat → Prop} (h : IsC0 w c p g n gp mb go tv lv ρ z) (hc : Chg w w' ks) (A : Role → Prop) (hA : ∀ k, ks k → ∀ r, ρ k = some r → A r) :
    (¬ A .c → w'.heap[c]? = some (.cells (CC p gp mb lv z.lost) 71 (0, 0))) ∧ (¬ A .p → ¬ A .g → D.IsD w' p g n z.d) ∧ (¬ A .gr → IsG w' gp go z.E) ∧ (¬ A .mb → MapV w' mb (fun x => (z.P x).map fun q => .agg (pend q.1 (tv x)))) ∧
      (∀ x q, ¬ A (.tag x) → z.P x = some q → Ints w' 0 (tv x) q.2) ∧ (¬ A .ld → Ints w' 0 lv z.ld) ∧ ∀ k r, ρ k = some r → k < w'.heap.size :=
  ⟨fun e => hc.keep h.me fun k => e (hA _ k _ h.rc), fun e f => isD_keep h.dk hc (fun k => e (hA _ k _ h.rp)) (fun k => f (hA _ k _ h.rg)), fun e => h.gr.keep hc fun k hk k2 => e (hA _ k2 _ (h.rr k hk)), fun e => h.mp.keep hc fun k => e (hA _ k _ h.rm),
    fun x q e hx => row_keep (h.tg x q hx) hc fun k hk k2 => e (hA _ k2 _ (h.rt x k (by unfold CSt.dirty; rw [hx]; rfl) hk)), fun e => row_keep h.ld hc fun k hk k2 => e (hA _ k2 _ (h.rl k hk)), fun k r hk => Nat.lt_of_lt_of_le (h.lt k r hk) hc.size⟩

set_option maxRecDepth 100000 in
set_option maxHeartbeats 1000000 in
theorem markLoss_d (b : Nat) (v : Int) (u : FrameMode) (w : World) (c : Nat) (hb : w.cell? ⟨b, 0, none⟩ = some (.int .i64 v)) (lo : Bool) (hc : w.cell? ⟨c, 4, none⟩ = some (.bool lo)) (hz : w.frozen? ⟨c, 4, none⟩ = false) :
    CallsD Tryz.prog 40 #[.pointer (some ⟨c, 0, none⟩), .pointer (some ⟨b, 0, none⟩)] u w fun e u' w' => u' = u ∧ (e = .returned (.tuple #[]) ∧ w' = if v = 22 then w.setCell ⟨c, 4, none⟩ (.bool true) else w) := by
  by_cases hv : v = 22
  · subst hv
    go_enter_d Tryz.func40, Tryz.ntmps40
    go_wp2
    go_end0
    exact ⟨rfl, rfl⟩
  · have hv2 : (v == 22) = false := by simpa using hv
    go_enter_d Tryz.func40, Tryz.ntmps40
    go_wp2
    go_end0
    exact ⟨rfl, rfl⟩

set_option maxRecDepth 100000 in
set_option maxHeartbeats 1000000 in
theorem forget_any (x : Int) (h : IsC w c p g n ρ z) (hx : Sec x) : Calls Tryz.prog 46 #[.pointer (some ⟨c, 0, none⟩), .int .i64 x] w fun e w' => e = .returned (.tuple #[]) ∧ CPost w w' c p g n ρ (forC z x) := by
  obtain ⟨gp, mb, go, tv, lv, h⟩ := h
  have hI : I64 x := ⟨by have := hx.1; omega, by have := hx.2; omega⟩
  have k1 := h.c1
  have k2 := h.c2
  have HM := h.mp
  have HH := hid h
  clear h
  go_enter Tryz.func46, Tryz.ntmps46
  go_wp2_with (first
    | (at_delete; go_must (refine wp_delV rfl _ _ rfl mb _ x rfl rfl HM hI ?_; intro w1 hM1 hc1 hz1; have HP1 := HH.out.parts hc1 (· = .mb) (fun k e r hr => by subst e; rw [HH.out.rm] at hr; cases hr; rfl); have HG := removeG_any x (HP1.2.2.1 (by simp)); have k11 : w1.cell? ⟨c, 1, none⟩ = some (.pointer (some ⟨gp, 0, none⟩)) := (by rw [cell_of_row _ _ _ _ _ _ (HP1.1 (by simp))]; rfl); have HP1 := hid HP1; have HM1 := hid hM1; clear hM1))
    | (go_at_call 70; go_must (refine HG.mono ?_; rintro e w2 ⟨cc, E', rfl, hR, hG2, hc2⟩))
    | go_in)
  go_end0
  have h := HH.out
  have hE : E' = delE z.E x := by
    rcases hR with ⟨hn, _⟩ | ⟨_, _, e⟩
    · exact absurd hx hn
    · exact e
  subst hE
  have hgo : ∀ k, go k → ¬ k = mb := fun k hk e => by
    subst e
    have := h.rr _ hk
    rw [h.rm] at this
    cases this
  have hc12 : Chg w w2 (fun k => k = mb ∨ go k) := hc1.trans hc2 (fun _ _ e => .inl e) (fun _ _ e => .inr e)
  have HP := h.parts hc12 (fun r => r = .mb ∨ r = .gr) (fun k e r hr => by
    rcases e with rfl | e
    · rw [h.rm] at hr; cases hr; exact .inl rfl
    · rw [h.rr k e] at hr; cases hr; exact .inr rfl)
  obtain ⟨q1, q2, _, _, q5, q6, q7⟩ := HP
  have hM2 : MapV w2 mb _ := HM1.out.keep hc2 (fun e => hgo _ e rfl)
  refine ⟨rfl, ρ, ⟨gp, mb, go, tv, lv, ⟨q1 (by simp), q2 (by simp) (by simp), hG2, hM2.cong fun y => ?_, fun y q hy => ?_, q6 (by simp), h.rc, h.rp, h.rg, h.rr, h.rm, fun y k hy hk => ?_, h.rl, q7, ?_⟩⟩, fun _ k => .inl k, hc12.mono fun k _ e => ?_⟩
  · simp only [forC]
    by_cases e : y = x
    · simp [e]
    · simp [e]
  · simp only [forC] at hy
    by_cases e : y = x
    · rw [if_pos e] at hy; cases hy
    · rw [if_neg e] at hy
      exact q5 y q (by simp) hy
  · refine h.rt y k ?_ hk
    unfold CSt.dirty forC at hy
    simp only at hy
    unfold CSt.dirty
    by_cases e : y = x
    · rw [if_pos e] at hy; cases hy
    · rw [if_neg e] at hy; exact hy
  · exact forC_inv h.inv x
  · rcases e with rfl | e
    · exact ⟨_, h.rm⟩
    · exact ⟨_, h.rr k e⟩

end Go.Proofs.YtgkanfmkohlmcaaGreat
