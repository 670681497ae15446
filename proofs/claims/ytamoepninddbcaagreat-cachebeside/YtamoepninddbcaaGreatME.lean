/-
  A question to both caches: one answer.
-/
import Derived.Test.YtamoepninddbcaaGreatMD
namespace Go.Proofs.YtamoepninddbcaaGreat
open Go.RowKit

theorem up_eqM {α : Type} {R : α → α → Prop} (hi : ∀ a, ¬ R a a) (ha : ∀ a b, R a b → ¬ R b a) : ∀ (l m : List α), l.Pairwise R → m.Pairwise R → (∀ x, x ∈ l ↔ x ∈ m) → l = m
  | [], [], _, _, _ => rfl
  | [], b :: m, _, _, h => absurd ((h b).2 (by simp)) (by simp)
  | a :: l, [], _, _, h => absurd ((h a).1 (by simp)) (by simp)
  | a :: l, b :: m, hl, hm, h => by
    obtain ⟨l1, l2⟩ := List.pairwise_cons.1 hl
    obtain ⟨m1, m2⟩ := List.pairwise_cons.1 hm
    have hab : a = b := by
      rcases List.mem_cons.1 ((h a).1 (by simp)) with e | e
      · exact e
      · rcases List.mem_cons.1 ((h b).2 (by simp)) with k | k
        · exact k.symm
        · exact absurd (m1 a e) (ha _ _ (l1 b k))
    subst hab
    rw [up_eqM hi ha l m l2 m2 fun z => ?_]
    constructor
    · intro hz
      rcases List.mem_cons.1 ((h z).1 (by simp [hz])) with e | e
      · subst e; exact absurd (l1 z hz) (hi z)
      · exact e
    · intro hz
      rcases List.mem_cons.1 ((h z).2 (by simp [hz])) with e | e
      · subst e; exact absurd (m1 z hz) (hi z)
      · exact e
theorem elist_oneM {E : Int → Int → Prop} {l m : List (Int × Int)} (h : EList E l) (k : EList E m) : l = m :=
  up_eqM (R := ltE) (fun a => by unfold ltE; omega) (fun a b h => by unfold ltE at *; omega) l m h.1 k.1 fun x => (h.2 x).trans (k.2 x).symm
theorem elist_lenM {E : Int → Int → Prop} {l : List (Int × Int)} (h : EList E l) (hs : InSec E) : l.length ≤ 16777216 :=
  edges_len l (h.1.imp fun {a b} e k => by subst k; unfold ltE at e; omega) fun x hx => hs _ _ ((h.2 x).1 hx)
theorem RPost.of_r {w w' : World} {r rd n : Nat} {ρ : Nat → Option RRole} {z z' : CSt} (h0 : IsRC w r rd n ρ z) (h : IsRC w' r rd n ρ z') (hc : Chg w w' (· = r)) : RPost w w' r rd n ρ z' := by
  obtain ⟨rk, rc, X, v0, v1, lv, tv, W, h0⟩ := h0
  exact ⟨ρ, h, fun _ e => .inl e, hc.mono fun k _ e => ⟨.me, by rw [e]; exact h0.rm⟩⟩
theorem rdC_len {w : World} {c p g n : Nat} {ρ : Nat → Option Role} {z : CSt} (h : IsC w c p g n ρ z) (x : Int) : (rdC n z x).2.1.length = 128 := by
  obtain ⟨gp, mb, go, tv, lv, h⟩ := h
  unfold rdC
  split
  · split
    · rename_i q hq
      exact h.inv.ln x q hq
    · exact readS_lenC h x
  · exact D.Zs_len
theorem standC_lenM {w : World} {c p g n : Nat} {ρ : Nat → Option Role} {z : CSt} (h : IsC w c p g n ρ z) (x : Int) : (standC n z x).2.1.length = 128 := by
  obtain ⟨gp, mb, go, tv, lv, h⟩ := h
  exact readS_lenC h x
section
variable {w w' w0 w1 w2 w3 : World} {A : PA} {ρ : Nat → Option Role} {ρ' : Nat → Option RRole} {lv mv ev : Value} {σ σ0 : Nat → Option PRole} {zc zr z : CSt} {lo : Bool} {V M E : List Lst}
theorem IsP0.call (h : IsP0 w A ρ ρ' lv mv ev σ zc zr lo V M E) (hc : Chg w w' No) : IsP0 w' A ρ ρ' lv mv ev σ zc zr lo V M E := h.keep hc fun _ _ e => e
/-- A block that is not the pair's stays. -/
theorem PF.kept {zc1 zr1 : CSt} {lo1 : Bool} {V1 M1 E1 : List Lst} (h : PF w2 w3 A σ zc1 zr1 lo1 V1 M1 E1) {b : Nat} (hI : ¬ OwnP σ b) {o : Obj} (hb : w2.heap[b]? = some o) : w3.heap[b]? = some o := by
  obtain ⟨σ2, _, _, h3⟩ := h
  exact h3.keep hb hI
/-- Landed: the list becomes the caller's. -/
theorem IsP0.loseR {z' : CSt} {ρ2 : Nat → Option RRole} (h : IsP0 w A ρ ρ' lv mv ev σ zc zr lo V M E) (D : Nat → Prop) (hD : ∀ k, D k → OwnR ρ' k ∧ ¬ OwnR ρ2 k) (k1 : IsRC w' A.r A.rd A.n ρ2 z') (k2 : ∀ k, OwnR ρ2 k → OwnR ρ' k) (k3 : Chg w w' (OwnR ρ')) :
    ∃ σ2, IsP0 w' A ρ ρ2 lv mv ev σ2 zc z' lo V M E ∧ (∀ k, D k → σ2 k = none) ∧ (∀ k, σ k = none → σ2 k = none) ∧ (∀ k, OwnP σ2 k → OwnP σ k) ∧ Chg w w' (OwnP σ) := by
  classical
  have hne : ∀ k q, σ k = some q → q ≠ .pd → ¬ OwnR ρ' k := fun k q hq hn ho => role_ne hq (h.sr k ho) hn
  have hk : ∀ k q, σ k = some q → ¬ D k → (if D k then none else σ k) = some q := fun k q hq hn => by rw [if_neg hn]; exact hq
  refine ⟨fun k => if D k then none else σ k, ⟨k3.keep h.me (hne _ _ h.sm (by simp)), h.ca.keep k3 fun k hk => hne k _ (h.sc k hk) (by simp), k1, h.bk.keep k3 fun k hk => hne k _ (h.sb k hk) (by simp),
    hk _ _ h.sm fun e => hne _ _ h.sm (by simp) (hD _ e).1, fun k ho => hk _ _ (h.sc k ho) fun e => hne _ _ (h.sc k ho) (by simp) (hD _ e).1, fun k ho => hk _ _ (h.sr k (k2 k ho)) fun e => (hD k e).2 ho, fun k ho => hk _ _ (h.sb k ho) fun e => hne _ _ (h.sb k ho) (by simp) (hD _ e).1, fun k q hq => ?_⟩, fun k e => if_pos e, fun k e => ?_, ?_, k3.mono fun j _ e => ⟨_, h.sr j e⟩⟩
  · split at hq
    · cases hq
    · exact Nat.lt_of_lt_of_le (h.lt k q hq) k3.size
  · show (if D k then none else σ k) = none
    split
    · rfl
    · exact e
  · rintro k ⟨q, hq⟩
    simp only at hq
    split at hq
    · cases hq
    · exact ⟨q, hq⟩
end
section
variable {w : World} {c p g n : Nat} {ρ : Nat → Option Role} {z : CSt}
set_option maxRecDepth 100000 in
set_option maxHeartbeats 2000000 in
theorem landed2_any (h : IsC w c p g n ρ z) : Calls Tryz.prog 45 #[.pointer (some ⟨c, 0, none⟩)] w fun e w' =>
    ∃ (v : Value) (ρ' : Nat → Option Role), e = .returned v ∧ Ints w' 0 v z.ld ∧ (∀ k, v.ownBlock = some k → Own ρ k ∧ ¬ Own ρ' k) ∧ IsC w' c p g n ρ' (toldC z) ∧ (∀ k, Own ρ' k → Own ρ k) ∧ Chg w w' (Own ρ) := by
  obtain ⟨gp, mb, go, tv, lv, h⟩ := h
  have hld0 := hid h.ld
  obtain ⟨a, cc, rfl, hLA, _⟩ := h.ld.lat
  have hnc := h.ld.nilcap
  have k3 := h.c3
  have kz := h.fz 3
  have HH := hid h
  clear h hLA hnc
  generalize hN : z.ld.length = N at *
  go_enter Tryz.func45, Tryz.ntmps45
  go_wp2
  go_ret
  have h := HH.out
  have hc : Chg w (w.setCell ⟨c, 3, none⟩ (.slice none 0 0)) (· = c) := Chg.setCell
  obtain ⟨q1, q2, q3, q4, q5, q6, q7⟩ := h.parts hc (· = .c) (fun k e r hr => by subst e; rw [h.rc] at hr; cases hr; rfl)
  have hld : ∀ k, (Value.slice a N cc).ownBlock = some k → ρ k = some .ld := h.rl
  have hne : ∀ k r, ρ k = some r → r ≠ .ld → ¬ (Value.slice a N cc).ownBlock = some k := fun k r hr hn e => by
    have := hld k e
    rw [hr] at this
    cases this
    exact hn rfl
  refine ⟨.slice a N cc, fun k => if (Value.slice a N cc).ownBlock = some k then none else ρ k, rfl, row_keep hld0.out hc (fun k e e2 => ?_), fun k e => ⟨⟨_, hld k e⟩, ?_⟩, ⟨gp, mb, go, tv, .slice none 0 0, ⟨?_, q2 (by simp) (by simp), q3 (by simp), q4 (by simp), fun x q hx => q5 x q (by simp) hx, ?_, ?_, ?_, ?_, ?_, ?_, ?_, ?_, ?_, ?_⟩⟩, ?_, hc.mono fun j _ e => ⟨.c, by rw [e]; exact h.rc⟩⟩
  · subst e2
    exact hne _ _ h.rc (by simp) e
  · rintro ⟨r, hr⟩
    simp only [if_pos e] at hr
    cases hr
  · rw [heap_setCell_same w c 3 _ _ _ h.me, CC_ld]
    rfl
  · exact World.ownsRow_nil _ _ _ _
  · rw [if_neg (hne _ _ h.rc (by simp))]; exact h.rc
  · rw [if_neg (hne _ _ h.rp (by simp))]; exact h.rp
  · rw [if_neg (hne _ _ h.rg (by simp))]; exact h.rg
  · intro k hk
    rw [if_neg (hne _ _ (h.rr k hk) (by simp))]; exact h.rr k hk
  · rw [if_neg (hne _ _ h.rm (by simp))]; exact h.rm
  · intro x k hx hk
    rw [if_neg (hne _ _ (h.rt x k hx hk) (by simp))]; exact h.rt x k hx hk
  · intro k hk
    cases hk
  · intro k r hr
    split at hr
    · cases hr
    · exact q7 k r hr
  · exact inv_d h.inv h.inv.w0 h.inv.lf
  · rintro k ⟨r, hr⟩
    simp only at hr
    split at hr
    · cases hr
    · exact ⟨r, hr⟩
end
section
variable {w w0 : World} {A : PA} {σ0 : Nat → Option PRole} {z : CSt} {lo : Bool} {V M E : List Lst}
set_option maxRecDepth 100000 in
set_option maxHeartbeats 8000000 in
theorem asks_0 (x : Int) (h : PF w0 w A σ0 z z lo V M E) (ha : AL z) : Calls Tryz.prog 39 #[.pointer (some ⟨A.pp, 0, none⟩), .int .i64 0, .int .i64 x] w fun e w' => e = .returned (.bool true) ∧ PF w0 w' A σ0 z z lo V M E := by
  obtain ⟨hi, _⟩ := h.inv
  obtain ⟨E1, E2⟩ := rrd_is (n := A.n) hi ha x
  have k1 : w.cell? ⟨A.pp, 1, none⟩ = some (.pointer (some ⟨A.c, 0, none⟩)) := h.cell 1
  obtain ⟨⟨z5, s, e5⟩, hr⟩ : ∃ r, rdC A.n z x = r := ⟨_, rfl⟩
  rw [hr] at E2
  have E2 : z5 = z := E2
  subst E2
  have hs : s.length = 128 := by
    obtain ⟨σ, ⟨ρ, ρ', lv, mv, ev, h1⟩, _, _⟩ := h
    have := rdC_len h1.ca x
    rw [hr] at this
    exact this
  have HP := h.prog (f := 46) (args := #[.pointer (some ⟨A.c, 0, none⟩), .int .i64 x]) (R := fun e => e = .returned (.tuple #[.agg (D.SA s), .int .i64 e5])) (z' := z5) (fun ρ hc => (read_anyC x hc).mono fun e w' hh => by rw [hr] at hh; exact hh)
  have HD : Hid (∀ (σ : Nat → Option PRole) (wa wb : World), PF wa wb A σ z5 z5 lo V M E → Calls Tryz.prog 81 #[.pointer (some ⟨A.r, 0, none⟩), .int .i64 x] wb fun e w' => e = .returned (.tuple #[.agg (D.SA s), .int .i64 e5]) ∧ PF wa w' A σ z5 z5 lo V M E) := hid (fun σ wa wb hp => hp.doc (f := 81) (args := #[.pointer (some ⟨A.r, 0, none⟩), .int .i64 x]) (R := fun e => e = .returned (.tuple #[.agg (D.SA s), .int .i64 e5])) (z' := z5) (fun ρ hc => (rread_anyC x wb hc).mono fun e w' hh => by
    rw [E1, hr] at hh
    exact ⟨hh.1, RPost.of_r hc hh.2.1 hh.2.2⟩))
  have HZN := hid (fun w' : World => heap_alloc_new w' (.cells (D.SA D.Zs) 47))
  have HS := hid hs
  have heq := fun w => D.eq_sec s s hs hs w
  simp only [decide_true] at heq
  have hgs := D.guard_sec
  have H0 := hid h
  clear h hi ha E1 hr hs
  go_enter Tryz.func39, Tryz.ntmps39
  go_wp2_with (first
    | (go_at_call 46; go_must (refine HP.mono ?_; rintro e w1 ⟨rfl, σ, hI1, ho1, hc1⟩; have HO1 := hid ho1; have HG1 := hid hc1; have HI1 := hid hI1; clear HP hI1 ho1 hc1))
    | (go_at_call 81; go_must (refine HQ.mono ?_; rintro e w3 ⟨rfl, hP3⟩; have HP3 := hid hP3; have HB3 := hid (hP3.kept (fun e => by have := HI1.out.lt e; omega) HB2.out); clear HQ hP3))
    | (refine D.store_sec rfl _ _ rfl w1.heap.size rfl s rfl HS.out D.Zs D.Zs_len (HZN.out w1) ?_; intro w2 hw2; have HB2 := hid hw2.here; have hC2 : Chg w1 w2 No := (Chg.alloc w1 (.cells (D.SA D.Zs) 47) No).trans (wrote_chg hw2) (fun _ _ e => e) (fun j hj e => by omega); have HC2 := hid hC2; have hI2 := HI1.out.call hC2; have k3 : w2.cell? ⟨A.pp, 3, none⟩ = some (.pointer (some ⟨A.r, 0, none⟩)) := (PF.start hI2).cell 3; have HQ := HD.out σ w2 w2 (PF.start hI2); clear hw2 hC2 hI2)
    | (refine D.store_sec rfl _ _ rfl w3.heap.size rfl s rfl HS.out D.Zs D.Zs_len (HZN.out w3) ?_; intro w4 hw4; have HB4 := hid hw4.here; have hC4 : Chg w3 w4 No := (Chg.alloc w3 (.cells (D.SA D.Zs) 47) No).trans (wrote_chg hw4) (fun _ _ e => e) (fun j hj e => by omega); have HC4 := hid hC4; have HB5 := hid (hC4.keep HB3.out (fun e => e)); clear hw4 hC4)
    | (refine D.load_sec rfl _ rfl w1.heap.size rfl s HS.out HB5.out ?_)
    | (refine D.load_sec rfl _ rfl w3.heap.size rfl s HS.out HB4.out ?_)
    | fail)
  go_ret
  exact ⟨rfl, PF.and HO1.out (HG1.out.trans HC2.out (fun _ _ e => e) (fun _ _ e => e.elim)) (HP3.out.call HC4.out)⟩
set_option maxRecDepth 100000 in
set_option maxHeartbeats 8000000 in
theorem asks_1 (x : Int) (h : PF w0 w A σ0 z z lo V M E) (ha : AL z) : Calls Tryz.prog 39 #[.pointer (some ⟨A.pp, 0, none⟩), .int .i64 1, .int .i64 x] w fun e w' => e = .returned (.bool true) ∧ PF w0 w' A σ0 z z lo V M E := by
  obtain ⟨hi, _⟩ := h.inv
  have E1 : rstC A.n z x = standC A.n z x := rstC_is (fun e => by rw [ha.1] at e; cases e)
  have E2 := stand_is (n := A.n) ha x
  have k1 : w.cell? ⟨A.pp, 1, none⟩ = some (.pointer (some ⟨A.c, 0, none⟩)) := h.cell 1
  obtain ⟨⟨z5, s, e5⟩, hr⟩ : ∃ r, standC A.n z x = r := ⟨_, rfl⟩
  rw [hr] at E2
  have E2 : z5 = z := E2
  subst E2
  have hs : s.length = 128 := by
    obtain ⟨σ, ⟨ρ, ρ', lv, mv, ev, h1⟩, _, _⟩ := h
    have := standC_lenM h1.ca x
    rw [hr] at this
    exact this
  have HP := h.prog (f := 23) (args := #[.pointer (some ⟨A.c, 0, none⟩), .int .i64 x]) (R := fun e => e = .returned (.tuple #[.agg (D.SA s), .int .i64 e5])) (z' := z5) (fun ρ hc => (standC_any x hc).mono fun e w' hh => by rw [hr] at hh; exact hh)
  have HD : Hid (∀ (σ : Nat → Option PRole) (wa wb : World), PF wa wb A σ z5 z5 lo V M E → Calls Tryz.prog 82 #[.pointer (some ⟨A.r, 0, none⟩), .int .i64 x] wb fun e w' => e = .returned (.tuple #[.agg (D.SA s), .int .i64 e5]) ∧ PF wa w' A σ z5 z5 lo V M E) := hid (fun σ wa wb hp => hp.doc (f := 82) (args := #[.pointer (some ⟨A.r, 0, none⟩), .int .i64 x]) (R := fun e => e = .returned (.tuple #[.agg (D.SA s), .int .i64 e5])) (z' := z5) (fun ρ hc => (rstands_any x wb hc).mono fun e w' hh => by
    rw [E1, hr] at hh
    exact ⟨hh.1, RPost.of_r hc hh.2.1 hh.2.2⟩))
  have HZN := hid (fun w' : World => heap_alloc_new w' (.cells (D.SA D.Zs) 47))
  have HS := hid hs
  have heq := fun w => D.eq_sec s s hs hs w
  simp only [decide_true] at heq
  have hgs := D.guard_sec
  have H0 := hid h
  clear h hi ha E1 hr hs
  go_enter Tryz.func39, Tryz.ntmps39
  go_wp2_with (first
    | (go_at_call 23; go_must (refine HP.mono ?_; rintro e w1 ⟨rfl, σ, hI1, ho1, hc1⟩; have HO1 := hid ho1; have HG1 := hid hc1; have HI1 := hid hI1; clear HP hI1 ho1 hc1))
    | (go_at_call 82; go_must (refine HQ.mono ?_; rintro e w3 ⟨rfl, hP3⟩; have HP3 := hid hP3; have HB3 := hid (hP3.kept (fun e => by have := HI1.out.lt e; omega) HB2.out); clear HQ hP3))
    | (refine D.store_sec rfl _ _ rfl w1.heap.size rfl s rfl HS.out D.Zs D.Zs_len (HZN.out w1) ?_; intro w2 hw2; have HB2 := hid hw2.here; have hC2 : Chg w1 w2 No := (Chg.alloc w1 (.cells (D.SA D.Zs) 47) No).trans (wrote_chg hw2) (fun _ _ e => e) (fun j hj e => by omega); have HC2 := hid hC2; have hI2 := HI1.out.call hC2; have k3 : w2.cell? ⟨A.pp, 3, none⟩ = some (.pointer (some ⟨A.r, 0, none⟩)) := (PF.start hI2).cell 3; have HQ := HD.out σ w2 w2 (PF.start hI2); clear hw2 hC2 hI2)
    | (refine D.store_sec rfl _ _ rfl w3.heap.size rfl s rfl HS.out D.Zs D.Zs_len (HZN.out w3) ?_; intro w4 hw4; have HB4 := hid hw4.here; have hC4 : Chg w3 w4 No := (Chg.alloc w3 (.cells (D.SA D.Zs) 47) No).trans (wrote_chg hw4) (fun _ _ e => e) (fun j hj e => by omega); have HC4 := hid hC4; have HB5 := hid (hC4.keep HB3.out (fun e => e)); clear hw4 hC4)
    | (refine D.load_sec rfl _ rfl w1.heap.size rfl s HS.out HB5.out ?_)
    | (refine D.load_sec rfl _ rfl w3.heap.size rfl s HS.out HB4.out ?_)
    | fail)
  go_ret
  exact ⟨rfl, PF.and HO1.out (HG1.out.trans HC2.out (fun _ _ e => e) (fun _ _ e => e.elim)) (HP3.out.call HC4.out)⟩
set_option maxRecDepth 100000 in
set_option maxHeartbeats 8000000 in
theorem asks_3 (x : Int) (h : PF w0 w A σ0 z z lo V M E) : Calls Tryz.prog 39 #[.pointer (some ⟨A.pp, 0, none⟩), .int .i64 3, .int .i64 x] w fun e w' => e = .returned (.bool true) ∧ ∃ V' M', PF w0 w' A σ0 z z lo V' M' E ∧ (BkEq V M → BkEq V' M') := by
  obtain ⟨σ, ⟨ρ, ρ', lv, mv, ev, h0⟩, ho, hc⟩ := h
  have k1 : w.cell? ⟨A.pp, 1, none⟩ = some (.pointer (some ⟨A.c, 0, none⟩)) := h0.c 1
  have HP := dirty_any h0.ca
  have HD : Hid (∀ W, IsRC W A.r A.rd A.n ρ' z → Calls Tryz.prog 78 #[.pointer (some ⟨A.r, 0, none⟩)] W fun e w' => ∃ v, e = .returned v ∧ Ints w' W.heap.size v (secs z.dirty) ∧ Chg W w' No) := hid (fun W hW => rdirty_any W hW)
  have hL : ((secs z.dirty)).length ≤ 4096 := secs_len _
  generalize (secs z.dirty) = L at *
  obtain ⟨m, hm⟩ : ∃ m, m = L.length := ⟨_, rfl⟩
  have HM := hid hm
  have HL := hid hL
  have H0 := hid h0
  have HO := hid ho
  have HC := hid hc
  clear h0 ho hc hL hm
  go_enter Tryz.func39, Tryz.ntmps39
  go_wp2_with (first
    | (go_at_call 22; go_must (refine HP.mono ?_; rintro e w1 ⟨v1, rfl, hv1, hc1⟩; have HV1 := hid hv1; have HC1 := hid hc1; obtain ⟨a1, c1, hw1, hl1, _⟩ := hv1.lat; rw [← HM.out] at hw1; subst hw1; have HL1 := hid hl1; have k3 : w1.cell? ⟨A.pp, 3, none⟩ = some (.pointer (some ⟨A.r, 0, none⟩)) := (H0.out.call hc1).c 3; have HE := HD.out w1 (H0.out.call hc1).rc; clear HP hv1 hc1 hl1))
    | (go_at_call 78; go_must (refine HE.mono ?_; rintro e w2 ⟨v2, rfl, hv2, hc2⟩; have HV2 := hid hv2; have HC2 := hid hc2; obtain ⟨a2, c2, hw2, hl2, hg2⟩ := hv2.lat; have HG2 := hid hg2; have HL2 := hid hl2; subst hw2; have HN2 := hid hv2.nilcap.1; have HS := sameInts_same L a1 a2 c1 c2 w2 (by have := HL.out; omega) (HL1.out.call hc2) hl2; rw [← HM.out] at HS ⊢; clear HE hv2 hc2 hl2 hg2))
    | (go_at_call 40; go_must (refine HS.mono ?_; rintro e w3 ⟨rfl, hc3⟩; have HC3 := hid hc3; have HX := hid ((HC1.out.tr HC2.out).tr hc3); have k5 : w3.cell? ⟨A.pp, 5, none⟩ = some (.pointer (some ⟨A.ok, 0, none⟩)) := (H0.out.call HX.out).c 5; have HK := keeps_any (H0.out.call HX.out).bk L (.slice a1 m c1) a2 c2 (row_mono0 (row_keep HV1.out (HC2.out.tr hc3) (fun _ _ e => e))) (fun k hk e => by have := (row_ge HV1.out hk).1; have := H0.out.bk.lt e; omega) (HL2.out.call hc3) HN2.out (fun g hg e => by have := HG2.out g hg; have := (H0.out.call HC1.out).bk.lt e; omega) (by have := HL.out; omega); rw [← HM.out] at HK; clear HS hc3))
    | (go_at_call 84; go_must (refine HK.mono ?_; rintro e w4 ⟨rfl, lv', mv', V', M', q1, q2, q3, q4⟩; have HF := hid (And.intro q1 (And.intro q2 (And.intro q3 q4))); clear HK q1 q2 q3 q4))
    | fail)
  go_ret
  obtain ⟨q1, q2, q3, q4⟩ := HF.out
  have hs := HC.out.size
  have hs3 := HX.out.size
  have h3 := H0.out.call HX.out
  refine ⟨rfl, V', M', h3.bookC HO.out (HC.out.trans HX.out (fun _ _ e => e) (fun _ _ e => e.elim)) q1 (fun k hk => ?_) q3, q4⟩
  rcases q2 k hk with e | e | e
  · exact .inl e
  · exact .inr ⟨h3.fresh e, .inr (by omega)⟩
  · have := (row_ge HV1.out e).1
    exact .inr ⟨H0.out.fresh this, .inr (by omega)⟩
set_option maxRecDepth 100000 in
set_option maxHeartbeats 8000000 in
theorem asks_4 (x : Int) (h : PF w0 w A σ0 z z lo V M E) : Calls Tryz.prog 39 #[.pointer (some ⟨A.pp, 0, none⟩), .int .i64 4, .int .i64 x] w fun e w' => e = .returned (.bool true) ∧ ∃ V' M', PF w0 w' A σ0 z z lo V' M' E ∧ (BkEq V M → BkEq V' M') := by
  obtain ⟨σ, ⟨ρ, ρ', lv, mv, ev, h0⟩, ho, hc⟩ := h
  have k1 : w.cell? ⟨A.pp, 1, none⟩ = some (.pointer (some ⟨A.c, 0, none⟩)) := h0.c 1
  have HP := elig_any h0.ca
  have HD : Hid (∀ W, IsRC W A.r A.rd A.n ρ' z → Calls Tryz.prog 85 #[.pointer (some ⟨A.r, 0, none⟩)] W fun e w' => ∃ v, e = .returned v ∧ Ints w' W.heap.size v (secs fun x => z.dirty x ∧ FreeE z.E x) ∧ Chg W w' No) := hid (fun W hW => relig_any W hW)
  have hL : ((secs fun x => z.dirty x ∧ FreeE z.E x)).length ≤ 4096 := secs_len _
  generalize (secs fun x => z.dirty x ∧ FreeE z.E x) = L at *
  obtain ⟨m, hm⟩ : ∃ m, m = L.length := ⟨_, rfl⟩
  have HM := hid hm
  have HL := hid hL
  have H0 := hid h0
  have HO := hid ho
  have HC := hid hc
  clear h0 ho hc hL hm
  go_enter Tryz.func39, Tryz.ntmps39
  go_wp2_with (first
    | (go_at_call 47; go_must (refine HP.mono ?_; rintro e w1 ⟨v1, rfl, hv1, hc1⟩; have HV1 := hid hv1; have HC1 := hid hc1; obtain ⟨a1, c1, hw1, hl1, _⟩ := hv1.lat; rw [← HM.out] at hw1; subst hw1; have HL1 := hid hl1; have k3 : w1.cell? ⟨A.pp, 3, none⟩ = some (.pointer (some ⟨A.r, 0, none⟩)) := (H0.out.call hc1).c 3; have HE := HD.out w1 (H0.out.call hc1).rc; clear HP hv1 hc1 hl1))
    | (go_at_call 85; go_must (refine HE.mono ?_; rintro e w2 ⟨v2, rfl, hv2, hc2⟩; have HV2 := hid hv2; have HC2 := hid hc2; obtain ⟨a2, c2, hw2, hl2, hg2⟩ := hv2.lat; have HG2 := hid hg2; have HL2 := hid hl2; subst hw2; have HN2 := hid hv2.nilcap.1; have HS := sameInts_same L a1 a2 c1 c2 w2 (by have := HL.out; omega) (HL1.out.call hc2) hl2; rw [← HM.out] at HS ⊢; clear HE hv2 hc2 hl2 hg2))
    | (go_at_call 40; go_must (refine HS.mono ?_; rintro e w3 ⟨rfl, hc3⟩; have HC3 := hid hc3; have HX := hid ((HC1.out.tr HC2.out).tr hc3); have k5 : w3.cell? ⟨A.pp, 5, none⟩ = some (.pointer (some ⟨A.ok, 0, none⟩)) := (H0.out.call HX.out).c 5; have HK := keeps_any (H0.out.call HX.out).bk L (.slice a1 m c1) a2 c2 (row_mono0 (row_keep HV1.out (HC2.out.tr hc3) (fun _ _ e => e))) (fun k hk e => by have := (row_ge HV1.out hk).1; have := H0.out.bk.lt e; omega) (HL2.out.call hc3) HN2.out (fun g hg e => by have := HG2.out g hg; have := (H0.out.call HC1.out).bk.lt e; omega) (by have := HL.out; omega); rw [← HM.out] at HK; clear HS hc3))
    | (go_at_call 84; go_must (refine HK.mono ?_; rintro e w4 ⟨rfl, lv', mv', V', M', q1, q2, q3, q4⟩; have HF := hid (And.intro q1 (And.intro q2 (And.intro q3 q4))); clear HK q1 q2 q3 q4))
    | fail)
  go_ret
  obtain ⟨q1, q2, q3, q4⟩ := HF.out
  have hs := HC.out.size
  have hs3 := HX.out.size
  have h3 := H0.out.call HX.out
  refine ⟨rfl, V', M', h3.bookC HO.out (HC.out.trans HX.out (fun _ _ e => e) (fun _ _ e => e.elim)) q1 (fun k hk => ?_) q3, q4⟩
  rcases q2 k hk with e | e | e
  · exact .inl e
  · exact .inr ⟨h3.fresh e, .inr (by omega)⟩
  · have := (row_ge HV1.out e).1
    exact .inr ⟨H0.out.fresh this, .inr (by omega)⟩
set_option maxRecDepth 100000 in
set_option maxHeartbeats 8000000 in
theorem asks_2 (x : Int) (h : PF w0 w A σ0 z z lo V M E) (ht : TB z) : Calls Tryz.prog 39 #[.pointer (some ⟨A.pp, 0, none⟩), .int .i64 2, .int .i64 x] w fun e w' => e = .returned (.bool true) ∧ ∃ V' M', PF w0 w' A σ0 (toldC z) (toldC z) lo V' M' E ∧ (BkEq V M → BkEq V' M') := by
  obtain ⟨σ, ⟨ρ, ρ', lv, mv, ev, h0⟩, ho, hc⟩ := h
  have k1 : w.cell? ⟨A.pp, 1, none⟩ = some (.pointer (some ⟨A.c, 0, none⟩)) := h0.c 1
  have HP := landed2_any h0.ca
  have hL : z.ld.length ≤ 17592186044000 := by unfold TB at ht; omega
  have HD : Hid (∀ W ρ', IsRC W A.r A.rd A.n ρ' z → Calls Tryz.prog 83 #[.pointer (some ⟨A.r, 0, none⟩)] W fun e w' => ∃ (a : Option Addr) (cc : Nat) (ρ2 : Nat → Option RRole), e = .returned (.slice a z.ld.length cc) ∧ LAt w' a z.ld ∧ (∀ k, a = some ⟨k, 0, none⟩ → ¬ OwnR ρ2 k ∧ k < W.heap.size ∧ OwnR ρ' k) ∧ IsRC w' A.r A.rd A.n ρ2 (toldC z) ∧ (∀ k, OwnR ρ2 k → OwnR ρ' k) ∧ Chg W w' (· = A.r) ∧ (a = none → cc = 0)) := hid (fun W ρ' hW => rlanded_any W hW)
  generalize hLL : z.ld = L at *
  obtain ⟨m, hm⟩ : ∃ m, m = L.length := ⟨_, rfl⟩
  have HM := hid hm
  have HL := hid hL
  have H0 := hid h0
  have HO := hid ho
  have HC := hid hc
  clear h0 ho hc hL hm ht hLL
  go_enter Tryz.func39, Tryz.ntmps39
  go_wp2_with (first
    | (go_at_call 45; go_must (refine HP.mono ?_; rintro e w1 ⟨v1, ρ2, rfl, hv1, hd1, hi1, hs1, hc1⟩; obtain ⟨σ2, h1, n1, g1, f1⟩ := H0.out.loseC (fun k => v1.ownBlock = some k) hd1 hi1 hs1 hc1; have HV1 := hid hv1; have H1 := hid h1; have HN1 := hid n1; have HOW : Hid (∀ k, v1.ownBlock = some k → OwnP σ k) := hid (fun k hk => ⟨_, H0.out.sc k (hd1 k hk).1⟩); have HG1 := hid g1; have HF1 := hid f1; obtain ⟨a1, c1, hw1, hl1, _⟩ := hv1.lat; rw [← HM.out] at hw1; subst hw1; have HL1 := hid hl1; have k3 : w1.cell? ⟨A.pp, 3, none⟩ = some (.pointer (some ⟨A.r, 0, none⟩)) := h1.c 3; have HE := HD.out w1 _ h1.rc; clear HP hv1 hd1 hi1 hs1 hc1 h1 n1 g1 f1 hl1))
    | (go_at_call 83; go_must (refine HE.mono ?_; rintro e w2 ⟨a2, c2, ρ3, rfl, hl2, hd2, hi2, hs2, hc2, hn2⟩; obtain ⟨σ3, h2, n2, kn2, g2, f2⟩ := H1.out.loseR (fun k => a2 = some ⟨k, 0, none⟩) (fun k e => ⟨(hd2 k e).2.2, (hd2 k e).1⟩) hi2 hs2 (hc2.mono fun j _ e => by rw [e]; exact (by obtain ⟨rk, rc, X, v0, v1, lv, tv, W, h9⟩ := H1.out.rc; exact ⟨_, h9.rm⟩)); have H2 := hid h2; have HN2 := hid n2; have HKN := hid kn2; have HG2 := hid g2; have HF2 := hid f2; have HL2 := hid hl2; have HNC := hid hn2; have HV2 : Hid (Ints w2 0 (.slice a1 m c1) L) := hid (row_keep HV1.out f2 (fun k hk (e : OwnP σ2 k) => by have ⟨q, e⟩ := e; rw [HN1.out k hk] at e; cases e)); have hl3 : LAt w2 a1 L := (by obtain ⟨a3, c3, hw3, hl3, _⟩ := HV2.out.lat; rw [(Value.slice.inj hw3).1]; exact hl3); have HS := sameInts_same L a1 a2 c1 c2 w2 HL.out hl3 hl2; rw [← HM.out] at HS ⊢; clear HE hl2 hd2 hi2 hs2 hc2 hn2 h2 n2 kn2 g2 f2 hl3))
    | (go_at_call 40; go_must (refine HS.mono ?_; rintro e w3 ⟨rfl, hc3⟩; have HC3 := hid hc3; have k5 : w3.cell? ⟨A.pp, 5, none⟩ = some (.pointer (some ⟨A.ok, 0, none⟩)) := (H2.out.call hc3).c 5; have HK := keeps_any (H2.out.call hc3).bk L (.slice a1 m c1) a2 c2 (row_keep HV2.out hc3 (fun _ _ e => e)) (fun k hk e => by have := H2.out.sb k e; rw [HKN.out k (HN1.out k hk)] at this; cases this) (HL2.out.call hc3) HNC.out (fun g hg e => by have := H2.out.sb g e; rw [HN2.out g hg] at this; cases this) HL.out; rw [← HM.out] at HK; clear HS hc3))
    | (go_at_call 84; go_must (refine HK.mono ?_; rintro e w4 ⟨rfl, lv', mv', V', M', q1, q2, q3, q4⟩; have HF := hid (And.intro q1 (And.intro q2 (And.intro q3 q4))); clear HK q1 q2 q3 q4))
    | fail)
  go_ret
  obtain ⟨q1, q2, q3, q4⟩ := HF.out
  have h3 := H2.out.call HC3.out
  have hg3 : ∀ k, OwnP σ3 k → OwnP σ k := fun k hk => HG1.out k (HG2.out k hk)
  have hcw : Chg w w3 (OwnP σ) := (HF1.out.trans HF2.out (fun _ _ e => e) (fun j _ e => HG1.out j e)).trans HC3.out (fun _ _ e => e) (fun _ _ e => e.elim)
  have hs := HC.out.size
  have hs3 := hcw.size
  refine ⟨rfl, V', M', h3.bookC (fun k hk => HO.out k (hg3 k hk)) (HC.out.trans hcw (fun _ _ e => e) (fun j hj e => ?_)) q1 (fun k hk => ?_) q3, q4⟩
  · rcases HO.out j e with e | e
    · exact e
    · omega
  · rcases q2 k hk with e | e | e
    · exact .inl e
    · exact .inr ⟨h3.fresh e, .inr (by omega)⟩
    · exact .inr ⟨HKN.out k (HN1.out k e), HO.out k (HOW.out k e)⟩
end
end Go.Proofs.YtamoepninddbcaaGreat
