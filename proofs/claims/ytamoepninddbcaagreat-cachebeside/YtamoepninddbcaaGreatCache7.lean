/-
  Put: a sector is put, to land behind others.
-/
import Derived.Test.YtamoepninddbcaaGreatCache5
namespace Go.Proofs.YtamoepninddbcaaGreat

variable {n : Nat} {z : CSt}

/-- What holds behind a list was written. -/
structure Wrote (n : Nat) (z : CSt) (l : List Int) (r : CSt × Int) : Prop where
  inv : CInv n r.1
  tb : TB r.1
  wr : z.d.wr ≤ r.1.d.wr ∧ r.1.d.wr ≤ z.d.wr + l.length
  sub : ∀ y, r.1.dirty y → z.dirty y ∧ r.1.P y = z.P y
  ed : ∀ a b, r.1.E a b ↔ z.E a b ∧ r.1.dirty a ∧ r.1.dirty b
  ok : r.2 = 0 → z.lost = r.1.lost ∧ ∀ y, r.1.dirty y ↔ z.dirty y ∧ y ∉ l
  rest : ∀ y, z.dirty y → y ∉ l → r.1.dirty y
  code : r.2 = 0 ∨ r.2 = 22 ∧ r.1.lost = true

theorem wrC_code (hi : CInv n z) {x : Int} (hx : z.dirty x) : (wrC n z x).2 = 0 ∨ (wrC n z x).2 = 22 ∧ (wrC n z x).1.lost = true ∧ (wrC n z x).1.P = z.P ∧ (wrC n z x).1.E = z.E := by
  obtain ⟨q, hq⟩ := Option.isSome_iff_exists.1 hx
  have hok := hi.ok x hx
  cases hlo : z.lost with
  | true =>
    have e : wrC n z x = (z, 22) := by unfold wrC; rw [if_pos hlo]
    rw [e]
    exact .inr ⟨rfl, hlo, rfl, rfl⟩
  | false =>
    rcases writeE_cases z.d n x hok.1 hok.2 with he | he
    · rw [wrC_done hlo hq he]
      exact .inl rfl
    · rw [wrC_down hlo hq he]
      exact .inr ⟨rfl, rfl, rfl, rfl⟩

theorem Wrote.nothing (h : CInv n z) (ht : TB z) : Wrote n z [] (z, 0) :=
  ⟨h, ht, by simp, fun y hy => ⟨hy, rfl⟩, fun a b => ⟨fun e => ⟨e, h.ed a b e⟩, fun e => e.1⟩, fun _ => ⟨rfl, fun y => by simp⟩, fun y hy _ => hy, .inl rfl⟩

theorem wAll_wrote : ∀ (k : Nat) (l : List Int) (z : CSt), l.length = k → CInv n z → ToDo n z l → Wrote n z l (wAll n l.length z l)
  | 0, l, z, hk, hi, ht => by
    have : l = [] := List.eq_nil_of_length_eq_zero hk
    subst this
    exact Wrote.nothing hi ht.tb
  | k + 1, l, z, hk, hi, ht => by
    obtain ⟨k0, hk0, hf0⟩ := ht.free hi (fun e => by rw [e] at hk; simp at hk)
    -- the first free one
    have hex : ∃ k1, FirstFree z.E l k1 := by
      have : ∀ (m : Nat), (∃ j, j < m ∧ j < l.length ∧ FreeE z.E (l.getD j 0)) → ∃ k1, FirstFree z.E l k1 := by
        intro m
        induction m with
        | zero => rintro ⟨j, hj, _⟩; omega
        | succ m ih =>
          intro ⟨j, hj, hjl, hf⟩
          by_cases hc : ∃ i, i < m ∧ i < l.length ∧ FreeE z.E (l.getD i 0)
          · exact ih hc
          · have hjm : j = m := by
              by_cases e : j = m
              · exact e
              · exact absurd ⟨j, by omega, hjl, hf⟩ hc
            subst hjm
            exact ⟨j, hjl, hf, fun i hi hfi => hc ⟨i, hi, by omega, hfi⟩⟩
      exact this (k0 + 1) ⟨k0, by omega, hk0, hf0⟩
    obtain ⟨k1, hk1⟩ := hex
    rw [wAll_step hk1]
    have hm := getD_mem hk1.1
    generalize hx : l.getD k1 0 = x at *
    have hdx := ht.di x hm
    have hlen := List.length_erase_of_mem hm
    have hwr := wrC_wr (n := n) (z := z) x
    by_cases h0 : (wrC n z x).2 = 0
    · rw [if_pos h0]
      have hnx := ht.next hi hm h0
      have ih := wAll_wrote k (l.erase x) (wrC n z x).1 (by omega) (wrC_inv hi x) hnx
      obtain ⟨q, hq, hlo, e⟩ := wrC_zero h0 hdx (hi.ok x hdx)
      have hP : ∀ y, (wrC n z x).1.P y = if y = x then none else z.P y := fun y => by rw [e]; rfl
      have hE : ∀ a b, (wrC n z x).1.E a b ↔ z.E a b ∧ a ≠ x ∧ b ≠ x := fun a b => by rw [e]; exact Iff.rfl
      have hD : ∀ y, (wrC n z x).1.dirty y ↔ z.dirty y ∧ y ≠ x := fun y => by
        unfold CSt.dirty
        rw [hP]
        by_cases hy : y = x
        · simp [hy]
        · simp [hy]
      refine ⟨ih.inv, ih.tb, ?_, fun y hy => ?_, fun a b => ?_, fun hz => ?_, fun y hy hn => ?_, ih.code⟩
      · have := ih.wr
        omega
      · obtain ⟨h1, h2⟩ := ih.sub y hy
        have h1 := (hD y).1 h1
        rw [hP, if_neg h1.2] at h2
        exact ⟨h1.1, h2⟩
      · rw [ih.ed, hE]
        constructor
        · exact fun k => ⟨k.1.1, k.2⟩
        · exact fun k => ⟨⟨k.1, ((hD a).1 (ih.sub a k.2.1).1).2, ((hD b).1 (ih.sub b k.2.2).1).2⟩, k.2⟩
      · obtain ⟨h1, h2⟩ := ih.ok hz
        refine ⟨?_, fun y => ?_⟩
        · rw [← h1, e]
          rfl
        · rw [h2, hD, nodup_mem_erase ht.nd]
          constructor
          · rintro ⟨⟨a, b⟩, c⟩
            exact ⟨a, fun k => c ⟨b, k⟩⟩
          · rintro ⟨a, b⟩
            exact ⟨⟨a, fun k => b (k ▸ hm)⟩, fun k => b k.2⟩
      · refine ih.rest y ?_ (fun k => hn ((nodup_mem_erase ht.nd).1 k).2)
        rw [hD]
        exact ⟨hy, fun k => hn (k ▸ hm)⟩
    · rw [if_neg h0]
      rcases wrC_code hi hdx with e | ⟨e1, e2, e3, e4⟩
      · exact absurd e h0
      · refine ⟨wrC_inv hi x, wrC_tb hi x ht.tb, ?_, fun y hy => ?_, fun a b => ?_, fun hz => absurd hz h0, fun y hy _ => ?_, .inr ⟨e1, e2⟩⟩
        · have := List.length_pos_of_mem hm
          omega
        · unfold CSt.dirty at hy ⊢
          rw [e3] at hy ⊢
          exact ⟨hy, rfl⟩
        · unfold CSt.dirty
          rw [e3, e4]
          exact ⟨fun k => ⟨k, hi.ed a b k⟩, fun k => k.1⟩
        · unfold CSt.dirty at hy ⊢
          rw [e3]
          exact hy

open Classical in
/-- A drain. -/
theorem drainC_wrote (hi : CInv n z) (x : Int) (ht : TB z) (hw : z.d.wr < 4611686018427380000) : Wrote n z (if z.dirty x then befC z x ++ [x] else []) (drainC n z x) := by
  unfold drainC
  by_cases hx : z.dirty x
  · rw [if_pos hx, if_pos hx]
    have := wAll_wrote _ (befC z x ++ [x]) z rfl hi (drain_todo hi hx ht hw)
    simpa using this
  · rw [if_neg hx, if_neg hx]
    exact Wrote.nothing hi ht
open Classical in
/-- What is written when the way is cleared. -/
noncomputable def clearL (z : CSt) (x : Int) (l : List Int) : List Int := if (∃ a, a ∈ l ∧ z.dirty a ∧ a ≠ x ∧ Reach z.E x a) ∧ z.dirty x then befC z x ++ [x] else []
theorem clearC_wrote (hi : CInv n z) (x : Int) (l : List Int) (ht : TB z) (hw : z.d.wr < 4611686018427380000) : Wrote n z (clearL z x l) (clearC n z x l) := by
  unfold clearC clearL
  by_cases hc : ∃ a, a ∈ l ∧ z.dirty a ∧ a ≠ x ∧ Reach z.E x a
  · rw [if_pos hc]
    have := drainC_wrote hi x ht hw
    by_cases hx : z.dirty x
    · rw [if_pos hx] at this
      rw [if_pos ⟨hc, hx⟩]
      exact this
    · rw [if_neg hx] at this
      rw [if_neg (fun e => hx e.2)]
      exact this
  · rw [if_neg hc, if_neg (fun e => hc e.1)]
    exact Wrote.nothing hi ht
theorem reach_dirty (hi : CInv n z) {x a : Int} (h : Reach z.E x a) (hne : a ≠ x) : z.dirty x := by
  rcases h with h | h
  · exact absurd h.symm hne
  · obtain ⟨d, hd⟩ := h.first
    exact (hi.ed _ _ hd).1
/-- Where the way is cleared, none of those that it is to land behind is reached. -/
theorem clearC_free (hi : CInv n z) (x : Int) (l : List Int) (ht : TB z) (hw : z.d.wr < 4611686018427380000) (h0 : (clearC n z x l).2 = 0) {a : Int} (ha : a ∈ l) (hd : (clearC n z x l).1.dirty a) (hne : a ≠ x) : ¬ Reach (clearC n z x l).1.E x a := by
  intro hr
  have hW := clearC_wrote hi x l ht hw
  by_cases hc : ∃ a, a ∈ l ∧ z.dirty a ∧ a ≠ x ∧ Reach z.E x a
  · have hx : z.dirty x := by
      obtain ⟨b, _, _, h1, h2⟩ := hc
      exact reach_dirty hi h2 h1
    have hL : clearL z x l = befC z x ++ [x] := by unfold clearL; rw [if_pos ⟨hc, hx⟩]
    have hdx := reach_dirty hW.inv hr hne
    have := ((hW.ok h0).2 x).1 hdx
    rw [hL] at this
    exact this.2 (by simp)
  · have e : clearC n z x l = (z, 0) := by unfold clearC; rw [if_neg hc]
    rw [e] at hr hd
    exact hc ⟨a, ha, hd, hne, hr⟩

/-- Edges to a sector from those of a list, too. -/
def layE (E : Int → Int → Prop) (x : Int) (m : List Int) (a b : Int) : Prop := (b = x ∧ a ∈ m) ∨ E a b
theorem layE_nil (E : Int → Int → Prop) (x : Int) : layE E x [] = E := by
  funext a b
  simp [layE]
theorem layE_snoc (E : Int → Int → Prop) (x : Int) (m : List Int) (y : Int) : layE E x (m ++ [y]) = addE (layE E x m) y x := by
  funext a b
  refine propext ?_
  unfold layE addE
  simp only [List.mem_append, List.mem_singleton]
  constructor
  · rintro (⟨h1, h2 | h2⟩ | h)
    · exact .inr (.inl ⟨h1, h2⟩)
    · exact .inl ⟨h2, h1⟩
    · exact .inr (.inr h)
  · rintro (⟨h1, h2⟩ | ⟨h1, h2⟩ | h)
    · exact .inl ⟨h2, .inr h1⟩
    · exact .inl ⟨h1, .inl h2⟩
    · exact .inr h
theorem layE_reach {E : Int → Int → Prop} {x : Int} : ∀ (k : Nat) (m : List Int), m.length = k → (∀ a, a ∈ m → ¬ Reach E x a) → ∀ {y : Int}, Reach (layE E x m) x y → Reach E x y
  | 0, m, hk, _, y, h => by
    have : m = [] := List.eq_nil_of_length_eq_zero hk
    subst this
    rw [layE_nil] at h
    exact h
  | k + 1, m, hk, hm, y, h => by
    obtain ⟨m', b, rfl⟩ : ∃ m' b, m = m' ++ [b] := by
      rcases List.eq_nil_or_concat m with e | ⟨m', b, e⟩
      · rw [e] at hk; simp at hk
      · exact ⟨m', b, by simpa using e⟩
    rw [layE_snoc] at h
    have ih := fun {y} => layE_reach k m' (by simp at hk; exact hk) (fun a ha => hm a (by simp [ha])) (y := y)
    rcases h with h | h
    · exact .inl h
    · rcases way_add h with h | ⟨h1, _⟩
      · exact ih (.inr h)
      · exact absurd (ih h1) (hm b (by simp))
theorem layE_ring {E : Int → Int → Prop} {x : Int} (hr : NoRing E) : ∀ (k : Nat) (m : List Int), m.length = k → (∀ a, a ∈ m → ¬ Reach E x a) → NoRing (layE E x m)
  | 0, m, hk, _ => by
    have : m = [] := List.eq_nil_of_length_eq_zero hk
    subst this
    rw [layE_nil]
    exact hr
  | k + 1, m, hk, hm => by
    obtain ⟨m', b, rfl⟩ : ∃ m' b, m = m' ++ [b] := by
      rcases List.eq_nil_or_concat m with e | ⟨m', b, e⟩
      · rw [e] at hk; simp at hk
      · exact ⟨m', b, by simpa using e⟩
    rw [layE_snoc]
    have hm' : ∀ a, a ∈ m' → ¬ Reach E x a := fun a ha => hm a (by simp [ha])
    refine noRing_add (layE_ring hr k m' (by simp at hk; exact hk) hm') (fun e => ?_)
    exact hm b (by simp) (layE_reach _ m' rfl hm' e)

/-- What may be laid behind a list. -/
structure Lay (n : Nat) (z : CSt) (x : Int) (m : List Int) : Prop where
  di : ∀ a, a ∈ m → z.dirty a ∧ a ≠ x
  no : ∀ a, a ∈ m → ¬ Reach z.E x a
theorem layC_E (s m : List Int) (x : Int) : (layC z x s m).E = layE z.E x m := rfl
theorem layC_P (s m : List Int) (x y : Int) : (layC z x s m).P y = if y = x then some (s, match z.P x with | some q => q.2 | none => []) else z.P y := rfl
theorem layC_dirty (s m : List Int) (x y : Int) : (layC z x s m).dirty y ↔ z.dirty y ∨ y = x := by
  unfold CSt.dirty
  rw [layC_P]
  by_cases hy : y = x
  · simp [hy]
  · simp [hy]
theorem layC_inv (hi : CInv n z) {x : Int} {s m : List Int} (hx : 0 ≤ x ∧ x < n) (hs : s.length = 128) (hl : Lay n z x m) : CInv n (layC z x s m) := by
  refine ⟨fun a b e => ?_, fun y hy => ?_, fun y q hy => ?_, ?_, hi.top, hi.w0, hi.lf⟩
  · rw [layC_dirty, layC_dirty]
    rcases e with ⟨e1, e2⟩ | e
    · exact ⟨.inl (hl.di a e2).1, .inr e1⟩
    · exact ⟨.inl (hi.ed a b e).1, .inl (hi.ed a b e).2⟩
  · rw [layC_dirty] at hy
    rcases hy with hy | hy
    · exact hi.ok y hy
    · rw [hy]; exact hx
  · rw [layC_P] at hy
    split at hy
    · cases hy; exact hs
    · exact hi.ln y q hy
  · rw [layC_E]
    exact layE_ring hi.ring _ m rfl hl.no
theorem Lay.sub {x : Int} {m m' : List Int} (h : Lay n z x m) (hs : ∀ a, a ∈ m' → a ∈ m) : Lay n z x m' := ⟨fun a ha => h.di a (hs a ha), fun a ha => h.no a (hs a ha)⟩
theorem layC_tb (hi : CInv n z) {x : Int} {s m : List Int} (hx : 0 ≤ x ∧ x < n) (ht : TB z) : TB (layC z x s m) := by
  have hsx : Sec x := ⟨hx.1, by have := hi.top; omega⟩
  have h := tsum_upd z.P x hsx (some (s, match z.P x with | some q => q.2 | none => []))
  unfold TB at ht ⊢
  have e : tsum (layC z x s m).P = tsum (fun y => if y = x then some (s, match z.P x with | some q => q.2 | none => []) else z.P y) := rfl
  have e2 : (layC z x s m).ld = z.ld := rfl
  rw [e, e2]
  have : tl (some (s, match z.P x with | some q => q.2 | none => [])) = tl (z.P x) := by
    cases z.P x with
    | none => rfl
    | some q => rfl
  rw [this] at h
  omega
theorem lay_of_clear (hi : CInv n z) (x : Int) (l : List Int) (ht : TB z) (hw : z.d.wr < 4611686018427380000) (h0 : (clearC n z x l).2 = 0) : Lay n (clearC n z x l).1 x (dofC (clearC n z x l).1 l x) := by
  refine ⟨fun a ha => ?_, fun a ha => ?_⟩
  · unfold dofC at ha
    rw [secs_mem] at ha
    exact ha.2.2
  · unfold dofC at ha
    rw [secs_mem] at ha
    exact clearC_free hi x l ht hw h0 ha.2.1 ha.2.2.1 ha.2.2.2

end Go.Proofs.YtamoepninddbcaaGreat

namespace Go.Proofs.YtamoepninddbcaaGreat
open Go.RowKit Go.Sort Go.Lib

variable {w : World} {c p g n : Nat} {ρ : Nat → Option Role} {z : CSt}

theorem dofC_mem (hi : CInv n z) {l : List Int} {x a : Int} : a ∈ dofC z l x ↔ a ∈ l ∧ z.dirty a ∧ a ≠ x := by
  unfold dofC
  rw [secs_mem]
  exact ⟨fun h => h.2, fun h => ⟨hi.sec h.2.1, h⟩⟩
theorem Ints.len_le {w : World} {base : Nat} {v : Value} {l : List Int} (h : Ints w base v l) : ∃ a ca, v = .slice a l.length ca := by
  obtain ⟨a, ca, e, _⟩ := h.lat
  exact ⟨a, ca, e⟩

set_option maxRecDepth 100000 in
set_option maxHeartbeats 2000000 in
theorem clearWay_any (x : Int) (l : List Int) (a : Option Addr) (ca : Nat) (h : IsC w c p g n ρ z) (hx : 0 ≤ x ∧ x < n) (hl : LAt w a l) (hm : l.length ≤ 17592186044000) (hI : ∀ k, k < l.length → I64 (l.getD k 0)) (ht : TB z) (hw : z.d.wr < 4611686018427380000) :
    Calls Tryz.prog 59 #[.pointer (some ⟨c, 0, none⟩), .int .i64 x, .slice a l.length ca] w fun e w' => e = .returned (.int .i64 (clearC n z x l).2) ∧ CPost w w' c p g n ρ (clearC n z x l).1 := by
  have HD := dirtyOf_any l a ca x h hl hm hI
  have HH := hid h
  have HINV := hid h.inv
  have hIx : I64 x := ⟨by omega, by have := h.inv.top; omega⟩
  have HT := hid (And.intro ht hw)
  have HX := hid hx
  have HMEM := hid (fun a => dofC_mem h.inv (l := l) (x := x) (a := a))
  clear h hl hI ht hw hx
  generalize hr : clearC n z x l = R at *
  have HR := hid hr
  clear hr
  generalize hdd : dofC z l x = dl at *
  have hdl : dl.length ≤ 4096 := by rw [← hdd]; exact secs_len _
  clear hdd
  go_enter Tryz.func59, Tryz.ntmps59
  go_wp2_with (first
    | (go_at_call 60; go_must (refine HD.mono ?_; rintro e w1 ⟨v1, rfl, hv1, hc1⟩; obtain ⟨a1, ca1, rfl, hlat1, hge1⟩ := hv1.lat; clear HD))
    | fail)
  have HLat := hid hlat1
  have HC1 := hid hc1
  clear hlat1 hc1 hge1 hv1
  generalize hlen : dl.length = m at *
  go_loopw [8, 14] (fun _ i wr => ∃ (k : Nat) (wq : World), wq = wr ∧ k ≤ m ∧ i = .int .i64 k ∧ Chg w1 wq No ∧ Hid (∀ j, j < k → ¬ Reach z.E x (dl.getD j 0))) (fun _ i _ => m - (intOf i).toNat)
  case atStart => exact ⟨0, w1, rfl, by omega, rfl, Chg.refl _ _, fun j hj => absurd hj (by omega)⟩
  case round =>
    obtain ⟨k, wA, rfl, hk, rfl, hcA, hall⟩ := hrel
    by_cases hlt : k < m
    · obtain ⟨gp, mb, go, tv, lv, hA⟩ := HH.out.call (HC1.out.tr hcA)
      rcases (HLat.out.call hcA) with h0 | ⟨g1, rfl, hg1, h1⟩
      · rw [h0] at hlen; simp at hlen; omega
      have p1 := h1 k (by omega)
      have hmem := getD_mem (l := dl) (k := k) (by omega)
      generalize hy : dl.getD k 0 = y at *
      have hy2 := (HMEM.out y).1 hmem
      have hIy := hA.i64 hy2.2.1
      have hi0 : (0 : Int) ≤ (k : Int) := by omega
      have hi1 : (k : Int) < (m : Int) := by omega
      have k1 := hA.c1
      have HRE := reaches_any x y hA.gr hIx hIy
      have HY := hid (And.intro hy hy2)
      have HA := hid hA
      clear hA h1 hy hy2 hmem
      go_wp2_with (first
        | (go_at_call 92; go_must (refine HRE.mono ?_; rintro e w2 ⟨r, rfl, hr, hc2⟩; have HDR := drain_any x ((HH.out.call (HC1.out.tr hcA)).call hc2) HX.out HT.out.1 HT.out.2; clear HRE))
        | (go_at_call 70; go_must (refine HDR.mono ?_; rintro e w3 ⟨rfl, hP3⟩))
        | fail)
      · go_ret
        have hre := hr.1 (by assumption)
        have hc : ∃ a, a ∈ l ∧ z.dirty a ∧ a ≠ x ∧ Reach z.E x a := ⟨y, HY.out.2.1, HY.out.2.2.1, HY.out.2.2.2, hre⟩
        have e : R = drainC n z x := by rw [← HR.out]; unfold clearC; rw [if_pos hc]
        rw [e]
        exact ⟨rfl, CPost.step (fun _ k => k) ((HC1.out.tr hcA).tr hc2) hP3⟩
      · have hrf : ¬ Reach z.E x y := fun e => by
          have := hr.2 e
          simp_all
        refine ⟨⟨k + 1, w2, rfl, by omega, by go_num, hcA.tr hc2, fun j hj => ?_⟩, by simp [intOf]; omega⟩
        by_cases e : j = k
        · subst e
          rw [HY.out.1]
          exact hrf
        · exact hall.out j (by omega)
    · have hkm : k = m := by omega
      have hno : ¬ ∃ a, a ∈ l ∧ z.dirty a ∧ a ≠ x ∧ Reach z.E x a := by
        rintro ⟨y, h1, h2, h3, h4⟩
        have hmem := (HMEM.out y).2 ⟨h1, h2, h3⟩
        obtain ⟨j, hj, e⟩ := List.getElem_of_mem hmem
        refine hall.out j (by omega) ?_
        rw [List.getD_eq_getElem?_getD, List.getElem?_eq_getElem hj, e]
        exact h4
      have e : R = (z, 0) := by rw [← HR.out]; unfold clearC; rw [if_neg hno]
      have HE := hid e
      clear hno e
      go_wp2_with fail
      go_ret
      rw [HE.out]
      exact ⟨rfl, CPost.same HH.out (HC1.out.tr hcA)⟩

end Go.Proofs.YtamoepninddbcaaGreat

namespace Go.Proofs.YtamoepninddbcaaGreat
open Go.RowKit Go.Sort Go.Lib

variable {w : World} {c p g n : Nat} {ρ : Nat → Option Role} {z : CSt}

def ovrL : List Value → Nat → List Value → List Value
  | l, _, [] => l
  | l, o, x :: r => ovrL (l.set o x) (o + 1) r
theorem ovrL_eq : ∀ (r l : List Value) (o : Nat), o + r.length ≤ l.length → ovrL l o r = l.take o ++ r ++ l.drop (o + r.length)
  | [], l, o, _ => by simp [ovrL]
  | x :: r, l, o, h => by
    simp only [List.length_cons] at h
    rw [ovrL, ovrL_eq r (l.set o x) (o + 1) (by rw [List.length_set]; omega)]
    have e1 : (l.set o x).take (o + 1) = l.take o ++ [x] := by
      rw [List.take_add_one, List.take_set_of_le (Nat.le_refl _), List.getElem?_set_self (by omega)]
      rfl
    have e2 : (l.set o x).drop (o + 1 + r.length) = l.drop (o + (r.length + 1)) := by
      rw [List.drop_set_of_lt (by omega), show o + 1 + r.length = o + (r.length + 1) by omega]
    rw [e1, e2]
    simp
theorem Put.trans' {w w1 w2 : World} {g : Nat} {o1 o2 : Obj} (h : D.Put w g o1 w1) (k : D.Put w1 g o2 w2) : D.Put w g o2 w2 :=
  ⟨k.here, fun j hj => (k.other j hj).trans (h.other j hj), k.size.trans h.size, k.os.trans h.os, k.tape.trans h.tape, k.output.trans h.output⟩
theorem setCells_put {g : Nat} {t : TypeId} : ∀ (r l : List Value) (o : Nat) (w : World), w.heap[g]? = some (.cells l.toArray t (0, 0)) → D.Put w g (.cells (ovrL l o r).toArray t (0, 0)) (w.setCells g o r)
  | [], l, o, w, h => ⟨h, fun _ _ => rfl, rfl, rfl, rfl, rfl⟩
  | x :: r, l, o, w, h => by
    have h1 := D.put_cell (j := o) x h
    have e : (l.toArray.setIfInBounds o x) = (l.set o x).toArray := by simp
    rw [e] at h1
    exact Put.trans' h1 (setCells_put r (l.set o x) (o + 1) _ h1.here)
section
variable {ops : Array Oper} {Q : Exit → Act → World → Prop} {S : World → Prop} {fuel : Nat} {listed : Array Bool} {a : Act} {w : World} {rest : List Oper} {o : Oper}
/-- The content is written over. -/
theorem store_cont (hgd : o.guard = none) (x y : Operand) (ho : o.op = .store 47 x y) (g : Nat) (hx : a.eval x = .pointer (some ⟨g, 0, none⟩)) (s s0 : List Int) (t : Value) (hy : a.eval y = .agg (D.SA s)) (hs : s.length = 128) (hs0 : s0.length = 128)
    (hg : w.heap[g]? = some (.cells (pend s0 t) 95 (0, 0))) (h : ∀ w', D.Put w g (.cells (pend s t) 95 (0, 0)) w' → wpList Tryz.prog ops Q rest (a.put o.dst undef) w') : wpList Tryz.prog ops Q (o :: rest) a w := by
  refine wpList_store_mid hgd 47 x y ho g 0 (D.SA s) hx hy (fun j hj => ?_) (by rw [D.sz26, D.SA_size, hs]) (D.SA_one s) (h _ ?_)
  · rw [D.SA_size, hs] at hj
    rw [cell_of_row _ _ _ _ _ _ hg]
    refine ⟨?_, frozen_of_row _ _ _ _ _ hg⟩
    rw [Array.getElem?_eq_getElem (by rw [pend_size]; omega)]
    rfl
  · have h1 := setCells_put (s.map (Value.int .u8)) (s0.map (Value.int .u8) ++ [t]) 0 w hg
    rw [ovrL_eq _ _ _ (by simp; omega)] at h1
    have e : List.take 0 (s0.map (Value.int .u8) ++ [t]) ++ s.map (Value.int .u8) ++ List.drop (0 + (s.map (Value.int .u8)).length) (s0.map (Value.int .u8) ++ [t]) = s.map (Value.int .u8) ++ [t] := by
      rw [List.drop_append_of_le_length (by simp; omega), List.drop_of_length_le (by simp; omega)]
      simp
    rw [e] at h1
    have e2 : (D.SA s).toList = s.map (Value.int .u8) := by simp [D.SA]
    rw [e2]
    exact h1
theorem stPutV (i : Nat) {o : Oper} (hop : ops[i]? = some o) (hd : o.dst = none) (hw : Region.wanted o (yielded ops a.tmps) = true) (m x v : Operand) (ho : o.op = Op.mapUpdate 86 m x v) (b : Nat) (f : Int → Option Value) (k : Int) (d : Value) (hm : a.eval m = .map (some b)) (hx : a.eval x = .int .i64 k) (hv : a.eval v = d)
    (h : MapV w b f) (hk : I64 k) (hf : ∃ L : List Int, L.length ≤ 5000 ∧ ∀ x, (f x).isSome = true → x ∈ L)
    (hK : ∀ w', MapV w' b (fun y => if y = k then some d else f y) → Chg w w' (· = b) → w'.heap.size = w.heap.size → S w' ∧ wpAnyH Tryz.prog .any ops Q S fuel (listed.setIfInBounds i true) a w') : St ops Q S fuel listed a w i := by
  obtain ⟨w', hrun, r1, r2, r3⟩ := h.store hk d hf
  have hh := hK w' r1 r2 r3
  refine wpOp_step hop (fun K hK' => ?_)
  rw [if_pos hw]
  unfold Oper.wp
  simp [execOp, ho, hm, hx, hv, hrun, Result.andThen]
  refine hK' _ _ ⟨hh.1, ?_⟩
  unfold Act.put
  rw [hd]
  exact hh.2
end
theorem load_pend {w : World} {b : Nat} {s : List Int} {t : Value} (hs : s.length = 128) (h : w.heap[b]? = some (.cells (pend s t) 95 (0, 0))) : (Instr.loadAt 95 (.pointer (some ⟨b, 0, none⟩))).run Tryz.prog w = .ok (.agg (pend s t)) w :=
  run_loadAt_mid w b 0 95 (s.map (Value.int .u8) ++ [t]) _ (fun j v hj => by
    rw [cell_of_row _ _ _ _ _ _ h, Nat.zero_add]
    simp only [pend, List.getElem?_toArray]
    exact hj) Tryz.underlying95 rfl (by rw [szP]; simp [hs])
theorem ints_new (w : World) (x : Int) : Ints (w.alloc (.cells #[.int .i64 x] 3)) w.heap.size (.slice (some ⟨w.heap.size, 0, none⟩) 1 1) [x] :=
  ⟨by simp, .inr ⟨w.heap.size, 1, _, rfl, Nat.le_refl _, heap_alloc_new _ _, Nat.le_refl _, by unfold maxLen; omega, rfl, rfl⟩⟩
/-- The tags' list that a sector has behind a Put. -/
def tagV (z : CSt) (tv : Int → Value) (x : Int) : Value := match z.P x with | some _ => tv x | none => .slice none 0 0
theorem pend_look (z : CSt) (tv : Int → Value) (x : Int) (hi : CInv n z) : ∃ s0 : List Int, s0.length = 128 ∧ (match (z.P x).map (fun q => Value.agg (pend q.1 (tv x))) with | some v => v | none => Value.agg pend0) = .agg (pend s0 (tagV z tv x)) := by
  unfold tagV
  cases h : z.P x with
  | none => exact ⟨D.Zs, D.Zs_len, rfl⟩
  | some q => exact ⟨q.1, hi.ln x q h, rfl⟩
/-- The map has the new content. -/
theorem isC_lay {w w' : World} {gp mb : Nat} {go : Nat → Prop} {tv : Int → Value} {lv : Value} {s : List Int} {x : Int} (h : IsC0 w c p g n gp mb go tv lv ρ z) (hx : 0 ≤ x ∧ x < n) (hs : s.length = 128)
    (hM : MapV w' mb (fun y => if y = x then some (.agg (pend s (tagV z tv x))) else (z.P y).map fun q => .agg (pend q.1 (tv y)))) (hc : Chg w w' (· = mb)) :
    IsC0 w' c p g n gp mb go (fun y => if y = x then tagV z tv x else tv y) lv ρ (layC z x s []) := by
  obtain ⟨q1, q2, q3, q4, q5, q6, q7⟩ := h.parts hc (fun r => r = .mb) (fun k e r hr => by
    subst e
    rw [h.rm] at hr; cases hr; rfl)
  refine ⟨q1 (by simp), q2 (by simp) (by simp), ?_, hM.cong fun y => ?_, fun y q hy => ?_, q6 (by simp), h.rc, h.rp, h.rg, h.rr, h.rm, fun y k hy hk => ?_, h.rl, q7, layC_inv h.inv hx hs ⟨fun a ha => (by cases ha), fun a ha => (by cases ha)⟩⟩
  · rw [layC_E, layE_nil]
    exact q3 (by simp)
  · rw [layC_P]
    by_cases e : y = x
    · simp [e]
    · simp [e]
  · rw [layC_P] at hy
    by_cases e : y = x
    · subst e
      rw [if_pos rfl] at hy ⊢
      cases hy
      unfold tagV
      cases hz : z.P y with
      | none => exact World.ownsRow_nil _ _ _ _
      | some q => exact q5 y q (by simp) hz
    · rw [if_neg e] at hy ⊢
      exact q5 y q (by simp) hy
  · by_cases e : y = x
    · subst e
      rw [if_pos rfl] at hk
      unfold tagV at hk
      cases hz : z.P y with
      | none => rw [hz] at hk; simp [Value.ownBlock] at hk
      | some q => rw [hz] at hk; exact h.rt y k (by unfold CSt.dirty; rw [hz]; rfl) hk
    · rw [if_neg e] at hk
      rw [layC_dirty] at hy
      exact h.rt y k (hy.resolve_right e) hk
/-- One edge more. -/
theorem isC_edge {w w' : World} {gp mb : Nat} {go go' : Nat → Prop} {tv : Int → Value} {lv : Value} {s m : List Int} {x y : Int} (h : IsC0 w c p g n gp mb go tv lv ρ (layC z x s m)) (hi : CInv n (layC z x s (m ++ [y])))
    (hG : IsG w' gp go' (layC z x s (m ++ [y])).E) (ho : ∀ k, go' k → go k ∨ (w.heap.size ≤ k ∧ k < w'.heap.size)) (hc : Chg w w' go) : CPost w w' c p g n ρ (layC z x s (m ++ [y])) := by
  obtain ⟨q1, q2, q3, q4, q5, q6, q7⟩ := h.parts hc (fun r => r = .gr) (fun k e r hr => by
    rw [h.rr k e] at hr; cases hr; rfl)
  have old : ∀ k r, ρ k = some r → ¬ (w.heap.size ≤ k ∧ k < w'.heap.size) := fun k r hr e => by
    have := h.lt k r hr
    omega
  refine ⟨fun k => if w.heap.size ≤ k ∧ k < w'.heap.size then some .gr else ρ k, ⟨gp, mb, go', tv, lv, ⟨q1 (by simp), q2 (by simp) (by simp), hG, q4 (by simp), fun y q hy => q5 y q (by simp) hy, q6 (by simp), ?_, ?_, ?_, ?_, ?_, ?_, ?_, ?_, hi⟩⟩, ?_, hc.mono fun k _ e => ⟨_, h.rr k e⟩⟩
  · simp only [if_neg (old _ _ h.rc)]; exact h.rc
  · simp only [if_neg (old _ _ h.rp)]; exact h.rp
  · simp only [if_neg (old _ _ h.rg)]; exact h.rg
  · intro k hk
    by_cases e : w.heap.size ≤ k ∧ k < w'.heap.size
    · simp only [if_pos e]
    · simp only [if_neg e]
      rcases ho k hk with e2 | e2
      · exact h.rr k e2
      · exact absurd e2 e
  · simp only [if_neg (old _ _ h.rm)]; exact h.rm
  · intro y k hy hk
    simp only [if_neg (old _ _ (h.rt y k hy hk))]; exact h.rt y k hy hk
  · intro k hk
    simp only [if_neg (old _ _ (h.rl k hk))]; exact h.rl k hk
  · intro k r hr
    by_cases e : w.heap.size ≤ k ∧ k < w'.heap.size
    · exact e.2
    · simp only [if_neg e] at hr
      exact q7 k r hr
  · rintro k ⟨r, hr⟩
    by_cases e : w.heap.size ≤ k ∧ k < w'.heap.size
    · exact .inr e.1
    · simp only [if_neg e] at hr
      exact .inl ⟨r, hr⟩

end Go.Proofs.YtamoepninddbcaaGreat
