/-
  What is kept by drains, syncs, puts and drops, without a program.
-/
import Derived.Test.YtgkanfmkohlmcaaGreatT5
namespace Go.Proofs.YtgkanfmkohlmcaaGreat

/-- The version that stands on the disk. -/
def dvz (z : CSt) (i : Int) : Int := verS (D.secK z.d.S i.toNat)
/-- An order is kept, or its edge waits. -/
def OrdOK (n : Nat) (z : CSt) (L : Int → Int) (o : Int × Int × Int × Int) : Prop :=
  (0 ≤ o.1 ∧ o.1 < n) ∧ (0 ≤ o.2.2.1 ∧ o.2.2.1 < n) ∧
    (o.2.2.2 ≤ dvz z o.2.2.1 ∨ (z.dirty o.2.2.1 ∧ z.dirty o.1 ∧ z.E o.2.2.1 o.1 ∧ o.2.2.2 ≤ L o.2.2.1 ∧ dvz z o.1 < o.2.1))
/-- What holds of a cache, the versions that were put last, and the orders. -/
structure Core (n : Nat) (z : CSt) (L : Int → Int) (nx : Int) (od : List (Int × Int × Int × Int)) : Prop where
  inv : CInv n z
  sl : z.d.S.length = 128 * n
  nb : nx ≤ 16777216
  ld : z.ld = []
  cn : ∀ x q, z.P x = some q → q.1 = verL (L x) ∧ 0 ≤ L x ∧ L x < nx ∧ q.2 = []
  dk : ∀ i : Nat, i < n → ∃ v, 0 ≤ v ∧ v < nx ∧ D.secK z.d.S i = verL v ∧ (¬ z.dirty i → L i = v)
  ol : ∀ x, z.dirty x → dvz z x ≤ L x
  od : ∀ o, o ∈ od → OrdOK n z L o

variable {n : Nat} {z : CSt} {L : Int → Int} {nx : Int} {od : List (Int × Int × Int × Int)}

theorem tsum_zero {P : Int → Option (List Int × List Int)} (h : ∀ x q, P x = some q → q.2 = []) : tsum P = 0 := by
  have e : (fun i : Nat => tl (P (Int.ofNat i))) = fun _ => 0 := by
    funext i
    unfold tl
    cases hq : P (Int.ofNat i) with
    | none => rfl
    | some q => simp [h _ q hq]
  unfold tsum
  rw [e]
  exact sum_zero _
theorem Core.tb (h : Core n z L nx od) : TB z := by
  unfold TB
  rw [tsum_zero (fun x q hq => (h.cn x q hq).2.2.2), h.ld]
  simp
theorem Core.dv (h : Core n z L nx od) {i : Nat} (hi : i < n) : 0 ≤ dvz z i ∧ dvz z i < nx ∧ D.secK z.d.S i = verL (dvz z i) ∧ (¬ z.dirty i → L i = dvz z i) := by
  obtain ⟨v, h0, h1, h2, h3⟩ := h.dk i hi
  have e : dvz z i = v := by
    unfold dvz
    rw [show (i : Int).toNat = i by simp, h2]
    exact verS_verL h0 (by have := h.nb; omega)
  rw [e]
  exact ⟨h0, h1, h2, h3⟩
theorem over_get : ∀ (r l : List Int) (o j : Nat), (j < o ∨ o + r.length ≤ j) → (D.over l o r)[j]? = l[j]?
  | [], _, _, _, _ => rfl
  | x :: r, l, o, j, h => by
    simp only [List.length_cons] at h
    rw [D.over, over_get r _ _ _ (by omega), List.getElem?_set_ne (by omega)]
theorem secK_other {l s : List Int} {k i : Nat} (hs : s.length = 128) (hne : k ≠ i) : D.secK (D.over l (k * 128) s) i = D.secK l i := by
  refine List.ext_getElem? fun j => ?_
  unfold D.secK
  rw [List.getElem?_take, List.getElem?_take]
  split
  · rw [List.getElem?_drop, List.getElem?_drop, over_get _ _ _ _ (by rw [hs]; omega)]
  · rfl
theorem writeD_S {d : D.St8} {x : Int} {s : List Int} (h : D.writeE d n x = 0) : (D.writeD d n x s).S = D.over d.S (x.toNat * 128) s ∧ (D.writeD d n x s).dn = d.dn := by
  unfold D.writeE at h
  unfold D.writeD
  split at h
  · rename_i h1
    rw [if_pos h1]
    split at h
    · cases h
    · rename_i h2
      rw [if_neg h2]
      exact ⟨rfl, rfl⟩
  · rename_i h1
    exact absurd h h1
theorem writeD_no {d : D.St8} {x : Int} {s : List Int} (h : ¬ D.writeE d n x = 0) : (D.writeD d n x s).S = d.S := by
  unfold D.writeE at h
  unfold D.writeD
  split at h
  · rename_i h1
    rw [if_pos h1]
    split at h
    · rename_i h2
      rw [if_pos h2]
    · exact absurd rfl h
  · rename_i h1
    rw [if_neg h1]

/-- A free one is written. -/
theorem Core.wr (h : Core n z L nx od) {x : Int} (hx : z.dirty x) (hf : FreeE z.E x) : Core n (wrC n z x).1 L nx od := by
  have hinv := wrC_inv h.inv x
  obtain ⟨q, hq⟩ := Option.isSome_iff_exists.1 hx
  have hok := h.inv.ok x hx
  have hxe : ((x.toNat : Nat) : Int) = x := by omega
  cases hlo : z.lost with
  | true =>
    have e : wrC n z x = (z, 22) := by unfold wrC; rw [if_pos hlo]
    rw [e]
    exact h
  | false =>
    rcases writeE_cases z.d n x hok.1 hok.2 with he | he
    · rw [wrC_done hlo hq he] at hinv ⊢
      simp only at hinv ⊢
      obtain ⟨hc1, hc2, hc3, hc4⟩ := h.cn x q hq
      have hS := (writeD_S (s := q.1) he).1
      have hln := h.inv.ln x q hq
      have hP : ∀ y, (forC ⟨D.writeD z.d n x q.1, z.E, z.P, z.ld ++ q.2, z.lost⟩ x).P y = if y = x then none else z.P y := fun _ => rfl
      have hD : ∀ y, (forC ⟨D.writeD z.d n x q.1, z.E, z.P, z.ld ++ q.2, z.lost⟩ x).dirty y ↔ z.dirty y ∧ y ≠ x := fun y => by
        unfold CSt.dirty
        rw [hP]
        by_cases hy : y = x
        · simp [hy]
        · simp [hy]
      have hdS : (forC ⟨D.writeD z.d n x q.1, z.E, z.P, z.ld ++ q.2, z.lost⟩ x).d.S = D.over z.d.S (x.toNat * 128) q.1 := hS

      have hsame : D.secK (D.over z.d.S (x.toNat * 128) q.1) x.toNat = q.1 := secK_over (n := n) h.sl (by omega) hln
      have hoth : ∀ i : Nat, i ≠ x.toNat → D.secK (D.over z.d.S (x.toNat * 128) q.1) i = D.secK z.d.S i := fun i hi => secK_other hln (fun e => hi e.symm)
      have hdx : dvz (forC ⟨D.writeD z.d n x q.1, z.E, z.P, z.ld ++ q.2, z.lost⟩ x) x = L x := by
        unfold dvz
        rw [hdS, hsame, hc1]
        exact verS_verL hc2 (by have := h.nb; omega)
      have hdy : ∀ y : Int, 0 ≤ y → y ≠ x → dvz (forC ⟨D.writeD z.d n x q.1, z.E, z.P, z.ld ++ q.2, z.lost⟩ x) y = dvz z y := fun y h0 hy => by
        unfold dvz
        rw [hdS, hoth y.toNat (by omega)]
      refine ⟨hinv, ?_, h.nb, ?_, fun y r hy => ?_, fun i hi => ?_, fun y hy => ?_, fun o ho => ?_⟩
      · rw [hdS, D.over_len]
        exact h.sl
      · show z.ld ++ q.2 = []
        rw [h.ld, hc4]
        rfl
      · rw [hP] at hy
        split at hy
        · cases hy
        · exact h.cn y r hy
      · by_cases hix : i = x.toNat
        · subst hix
          refine ⟨L x, hc2, hc3, by rw [hdS, hsame, hc1], fun _ => by rw [hxe]⟩
        · obtain ⟨v, v0, v1, v2, v3⟩ := h.dk i hi
          refine ⟨v, v0, v1, by rw [hdS, hoth i hix]; exact v2, fun hd => v3 (fun k => hd ((hD i).2 ⟨k, by omega⟩))⟩
      · have hy2 := (hD y).1 hy
        rw [hdy y (h.inv.ok y hy2.1).1 hy2.2]
        exact h.ol y hy2.1
      · obtain ⟨o1, o2, o3⟩ := h.od o ho
        refine ⟨o1, o2, ?_⟩
        rcases o3 with e | ⟨e1, e2, e3, e4, e5⟩
        · by_cases hp : o.2.2.1 = x
          · left
            rw [hp, hdx]
            rw [hp] at e
            exact Int.le_trans e (h.ol x hx)
          · left
            rw [hdy _ o2.1 hp]
            exact e
        · by_cases hp : o.2.2.1 = x
          · left
            rw [hp, hdx]
            rw [hp] at e4
            exact e4
          · have ha : o.1 ≠ x := fun e => by
              rw [e] at e3
              exact hf _ e3
            right
            refine ⟨(hD _).2 ⟨e1, hp⟩, (hD _).2 ⟨e2, ha⟩, ⟨e3, hp, ha⟩, e4, ?_⟩
            rw [hdy _ o1.1 ha]
            exact e5
    · rw [wrC_down hlo hq he] at hinv ⊢
      simp only at hinv ⊢
      have hS := writeD_no (n := n) (d := z.d) (x := x) (s := q.1) (by rw [he]; decide)
      refine ⟨hinv, by rw [hS]; exact h.sl, h.nb, h.ld, h.cn, fun i hi => ?_, fun y hy => ?_, fun o ho => ?_⟩
      · rw [hS]
        exact h.dk i hi
      · have e : dvz ⟨D.writeD z.d n x q.1, z.E, z.P, z.ld, true⟩ y = dvz z y := by
          unfold dvz
          simp only
          rw [hS]
        rw [e]
        exact h.ol y hy
      · have e : ∀ y, dvz ⟨D.writeD z.d n x q.1, z.E, z.P, z.ld, true⟩ y = dvz z y := fun y => by
          unfold dvz
          simp only
          rw [hS]
        obtain ⟨o1, o2, o3⟩ := h.od o ho
        refine ⟨o1, o2, ?_⟩
        rw [e, e]
        exact o3

end Go.Proofs.YtgkanfmkohlmcaaGreat

namespace Go.Proofs.YtgkanfmkohlmcaaGreat

variable {n : Nat} {z : CSt} {L : Int → Int} {nx : Int} {od : List (Int × Int × Int × Int)}

/-- The disk has power. -/
def Alive (z : CSt) : Prop := z.lost = false ∧ z.d.dn = false
/-- Done, or the power went. -/
def Went (r : CSt × Int) : Prop := (r.2 = 0 ∧ Alive r.1) ∨ (r.2 = 22 ∧ r.1.d.dn = true)

theorem wrC_went (hi : CInv n z) (ha : Alive z) {x : Int} (hx : z.dirty x) : Went (wrC n z x) := by
  obtain ⟨q, hq⟩ := Option.isSome_iff_exists.1 hx
  have hok := hi.ok x hx
  have hr : D.refE z.d n x = 0 := by
    unfold D.refE
    rw [if_neg (by rw [ha.2]; decide), if_neg (by omega)]
  rcases writeE_cases z.d n x hok.1 hok.2 with he | he
  · rw [wrC_done ha.1 hq he]
    exact .inl ⟨rfl, ha.1, (writeD_S he).2.trans ha.2⟩
  · rw [wrC_down ha.1 hq he]
    refine .inr ⟨rfl, ?_⟩
    simp only
    unfold D.writeE at he
    rw [if_pos hr] at he
    unfold D.writeD
    rw [if_pos hr]
    split at he
    · rename_i h1
      rw [if_pos h1]
    · cases he

theorem wrC_left {l : List Int} {x : Int} (hi : CInv n z) (hnd : l.Pairwise (· ≠ ·)) (hdi : ∀ y, y ∈ l → z.dirty y) (hm : x ∈ l) (h0 : (wrC n z x).2 = 0) : ∀ y, y ∈ l.erase x → (wrC n z x).1.dirty y := fun y hy => by
  obtain ⟨hne, hy2⟩ := (nodup_mem_erase hnd).1 hy
  obtain ⟨q, hq, hlo, e⟩ := wrC_zero h0 (hdi x hm) (hi.ok x (hdi x hm))
  have := hdi y hy2
  unfold CSt.dirty at this ⊢
  rw [e]
  show (if y = x then none else z.P y).isSome = true
  rw [if_neg hne]
  exact this

theorem Core.all : ∀ (k : Nat) (z : CSt) (l : List Int), Core n z L nx od → l.Pairwise (· ≠ ·) → (∀ x, x ∈ l → z.dirty x) → Core n (wAll n k z l).1 L nx od ∧ (Alive z → Went (wAll n k z l))
  | 0, z, l, h, _, _ => ⟨h, fun ha => .inl ⟨rfl, ha⟩⟩
  | k + 1, z, l, h, hnd, hdi => by
    unfold wAll
    split
    · exact ⟨h, fun ha => .inl ⟨rfl, ha⟩⟩
    · rename_i x hx
      have hf : FreeE z.E x := by simpa using List.find?_some hx
      have hm := List.mem_of_find?_eq_some hx
      have hw := h.wr (hdi x hm) hf
      split
      · rename_i h0
        have ih := Core.all k _ _ hw (hnd.sublist List.erase_sublist) (wrC_left h.inv hnd hdi hm h0)
        refine ⟨ih.1, fun ha => ih.2 ?_⟩
        rcases wrC_went h.inv ha (hdi x hm) with e | e
        · exact e.2
        · rw [h0] at e; exact absurd e.1 (by decide)
      · exact ⟨hw, fun ha => wrC_went h.inv ha (hdi x hm)⟩

theorem Core.drain (h : Core n z L nx od) (hw : z.d.wr < 4611686018427380000) (x : Int) : Core n (drainC n z x).1 L nx od ∧ (Alive z → Went (drainC n z x)) := by
  unfold drainC
  split
  · rename_i hx
    have ht := drain_todo h.inv hx h.tb hw
    exact Core.all _ _ _ h ht.nd ht.di
  · exact ⟨h, fun ha => .inl ⟨rfl, ha⟩⟩
theorem Core.sync (h : Core n z L nx od) (hw : z.d.wr < 4611686018427380000) : Core n (syncC n z).1 L nx od ∧ (Alive z → Went (syncC n z)) := by
  have ht := sync_todo h.inv h.tb hw
  exact Core.all _ _ _ h ht.nd ht.di
theorem Core.clear (h : Core n z L nx od) (hw : z.d.wr < 4611686018427380000) (x : Int) (l : List Int) : Core n (clearC n z x l).1 L nx od ∧ (Alive z → Went (clearC n z x l)) := by
  unfold clearC
  split
  · exact h.drain hw x
  · exact ⟨h, fun ha => .inl ⟨rfl, ha⟩⟩
theorem refC_alive {l : List Int} (ha : Alive z) (hl : ∀ x, x ∈ l → 0 ≤ x ∧ x < n) : refC n z l = 0 := by
  unfold refC
  rw [if_pos (List.all_eq_true.2 fun x hx => okN_iff.2 (hl x hx)), if_neg (by rw [ha.1]; decide)]
theorem Core.flush (h : Core n z L nx od) {x : Int} (hx : 0 ≤ x ∧ x < n) : Core n (flushC n z x).1 L nx od ∧ (Alive z → Went ((flushC n z x).1, (flushC n z x).2.2)) := by
  unfold flushC
  split
  · split
    · rename_i h1
      exact ⟨h.wr h1.1 h1.2, fun ha => wrC_went h.inv ha h1.1⟩
    · exact ⟨h, fun ha => .inl ⟨rfl, ha⟩⟩
  · rename_i h1
    exact ⟨h, fun ha => absurd (refC_alive ha (by simpa using hx)) h1⟩

/-- What was put last. -/
def lset (L : Int → Int) (x v : Int) : Int → Int := fun y => if y = x then v else L y
theorem Core.lt (h : Core n z L nx od) {x : Int} (hx : 0 ≤ x ∧ x < n) : L x < nx := by
  by_cases hd : z.dirty x
  · obtain ⟨q, hq⟩ := Option.isSome_iff_exists.1 hd
    exact (h.cn x q hq).2.2.1
  · have h1 := h.dv (i := x.toNat) (by omega)
    rw [show ((x.toNat : Nat) : Int) = x by omega] at h1
    rw [h1.2.2.2 hd]
    exact h1.2.1
theorem Core.dx (h : Core n z L nx od) {x : Int} (hx : 0 ≤ x ∧ x < n) : 0 ≤ dvz z x ∧ dvz z x < nx ∧ (¬ z.dirty x → L x = dvz z x) := by
  have h1 := h.dv (i := x.toNat) (by omega)
  rw [show ((x.toNat : Nat) : Int) = x by omega] at h1
  exact ⟨h1.1, h1.2.1, h1.2.2.2⟩

/-- A content is laid behind others. -/
theorem Core.lay (h : Core n z L nx od) (hn0 : 0 ≤ nx) (hn1 : nx < 16777216) {x : Int} {m : List Int} (hx : 0 ≤ x ∧ x < n) (hl : Lay n z x m) (new : List (Int × Int × Int × Int))
    (hnew : ∀ o, o ∈ new → o.1 = x ∧ o.2.1 = nx ∧ (0 ≤ o.2.2.1 ∧ o.2.2.1 < n) ∧ o.2.2.1 ≠ x ∧ o.2.2.2 ≤ L o.2.2.1 ∧ (z.dirty o.2.2.1 → o.2.2.1 ∈ m)) :
    Core n (layC z x (verL nx) m) (lset L x nx) (nx + 1) (od ++ new) := by
  have hdv : ∀ y, dvz (layC z x (verL nx) m) y = dvz z y := fun _ => rfl
  have hE : ∀ a b, (layC z x (verL nx) m).E a b ↔ (b = x ∧ a ∈ m) ∨ z.E a b := fun _ _ => Iff.rfl
  have hge : ∀ y : Int, 0 ≤ y ∧ y < n → L y ≤ lset L x nx y := fun y hy => by
    unfold lset
    split
    · have := h.lt hy
      omega
    · omega
  refine ⟨layC_inv h.inv hx (verL_len _) hl, h.sl, by omega, h.ld, fun y q hy => ?_, fun i hi => ?_, fun y hy => ?_, fun o ho => ?_⟩
  · rw [layC_P] at hy
    unfold lset
    split at hy
    · rename_i e
      subst e
      rw [if_pos rfl]
      cases hy
      refine ⟨rfl, hn0, by omega, ?_⟩
      simp only
      split
      · rename_i q hq
        exact (h.cn _ q hq).2.2.2
      · rfl
    · rename_i e
      rw [if_neg e]
      obtain ⟨h1, h2, h3, h4⟩ := h.cn y q hy
      exact ⟨h1, h2, by omega, h4⟩
  · obtain ⟨v, v0, v1, v2, v3⟩ := h.dk i hi
    refine ⟨v, v0, by omega, v2, fun hd => ?_⟩
    rw [layC_dirty] at hd
    unfold lset
    rw [if_neg (fun e => hd (.inr e))]
    exact v3 (fun e => hd (.inl e))
  · rw [hdv]
    rw [layC_dirty] at hy
    rcases hy with hy | hy
    · exact Int.le_trans (h.ol y hy) (hge y (h.inv.ok y hy))
    · subst hy
      unfold lset
      rw [if_pos rfl]
      have := (h.dx hx).2.1
      omega
  · rcases List.mem_append.1 ho with ho | ho
    · obtain ⟨o1, o2, o3⟩ := h.od o ho
      refine ⟨o1, o2, ?_⟩
      rw [hdv, hdv]
      rcases o3 with e | ⟨e1, e2, e3, e4, e5⟩
      · exact .inl e
      · exact .inr ⟨(layC_dirty _ _ _ _).2 (.inl e1), (layC_dirty _ _ _ _).2 (.inl e2), (hE _ _).2 (.inr e3), Int.le_trans e4 (hge _ o2), e5⟩
    · obtain ⟨k1, k2, k3, k4, k5, k6⟩ := hnew o ho
      refine ⟨by rw [k1]; exact hx, k3, ?_⟩
      rw [hdv, hdv]
      by_cases hd : z.dirty o.2.2.1
      · refine .inr ⟨(layC_dirty _ _ _ _).2 (.inl hd), (layC_dirty _ _ _ _).2 (.inr k1), (hE _ _).2 (.inl ⟨k1, k6 hd⟩), Int.le_trans k5 (hge _ k3), ?_⟩
        rw [k1, k2]
        exact (h.dx hx).2.1
      · exact .inl (by rw [← (h.dx k3).2.2 hd]; exact k5)

theorem Core.more (h : Core n z L nx od) (h1 : nx < 16777216) : Core n z L (nx + 1) od :=
  ⟨h.inv, h.sl, by omega, h.ld, fun x q hq => by obtain ⟨a, b, c, d⟩ := h.cn x q hq; exact ⟨a, b, by omega, d⟩, fun i hi => by obtain ⟨v, a, b, c⟩ := h.dk i hi; exact ⟨v, a, by omega, c⟩, h.ol, h.od⟩

/-- A dirty one is forgotten. -/
theorem Core.drop (h : Core n z L nx od) (x : Int) : Core n (forC z x) (lset L x (dvz z x)) nx (fltO x od) := by
  have hdv : ∀ y, dvz (forC z x) y = dvz z y := fun _ => rfl
  have hP : ∀ y, (forC z x).P y = if y = x then none else z.P y := fun _ => rfl
  have hD : ∀ y, (forC z x).dirty y ↔ z.dirty y ∧ y ≠ x := fun y => by
    unfold CSt.dirty
    rw [hP]
    by_cases hy : y = x
    · simp [hy]
    · simp [hy]
  refine ⟨forC_inv h.inv x, h.sl, h.nb, h.ld, fun y q hy => ?_, fun i hi => ?_, fun y hy => ?_, fun o ho => ?_⟩
  · rw [hP] at hy
    split at hy
    · cases hy
    · rename_i e
      unfold lset
      rw [if_neg e]
      exact h.cn y q hy
  · obtain ⟨v, v0, v1, v2, v3⟩ := h.dk i hi
    refine ⟨v, v0, v1, v2, fun hd => ?_⟩
    unfold lset
    split
    · rename_i e
      have := h.dv hi
      rw [← e]
      unfold dvz
      rw [show ((i : Int)).toNat = i by simp, v2]
      exact verS_verL v0 (by have := h.nb; omega)
    · rename_i e
      exact v3 (fun k => hd ((hD _).2 ⟨k, e⟩))
  · have hy2 := (hD y).1 hy
    rw [hdv]
    unfold lset
    rw [if_neg hy2.2]
    exact h.ol y hy2.1
  · unfold fltO at ho
    obtain ⟨ho, hk⟩ := List.mem_filter.1 ho
    have hk2 : o.2.2.1 ≠ x ∧ o.1 ≠ x := by simpa [keepO] using hk
    obtain ⟨o1, o2, o3⟩ := h.od o ho
    refine ⟨o1, o2, ?_⟩
    rw [hdv, hdv]
    rcases o3 with e | ⟨e1, e2, e3, e4, e5⟩
    · exact .inl e
    · refine .inr ⟨(hD _).2 ⟨e1, hk2.1⟩, (hD _).2 ⟨e2, hk2.2⟩, ⟨e3, hk2.1, hk2.2⟩, ?_, e5⟩
      unfold lset
      rw [if_neg hk2.1]
      exact e4
/-- One that is not dirty is forgotten: nothing changes. -/
theorem forC_clean (hi : CInv n z) {x : Int} (hx : ¬ z.dirty x) : forC z x = z := by
  have hP : (fun y => if y = x then none else z.P y) = z.P := funext fun y => by
    by_cases e : y = x
    · subst e
      rw [if_pos rfl]
      unfold CSt.dirty at hx
      cases hq : z.P y with
      | none => rfl
      | some q => rw [hq] at hx; exact absurd rfl hx
    · rw [if_neg e]
  have hE : delE z.E x = z.E := funext fun a => funext fun b => propext ⟨fun k => k.1, fun k => ⟨k, fun e => hx (e ▸ (hi.ed a b k).1), fun e => hx (e ▸ (hi.ed a b k).2)⟩⟩
  unfold forC
  rw [hP, hE]

/-- Of each sector the version that was put last. -/
def lf (l : List Int) : Int → Int := fun y => l.getD y.toNat 0
theorem lf_set {l : List Int} {x v y : Int} (hx : 0 ≤ x ∧ x < l.length) (hy : 0 ≤ y) : lf (l.set x.toNat v) y = lset (lf l) x v y := by
  unfold lf lset
  rw [List.getD_eq_getElem?_getD, List.getElem?_set]
  by_cases e : y = x
  · subst e
    rw [if_pos rfl, if_pos (by omega), if_pos rfl]
    rfl
  · rw [if_neg (by omega), if_neg e]
    exact (List.getD_eq_getElem?_getD).symm
theorem Core.congr {L' : Int → Int} (h : Core n z L nx od) (he : ∀ y : Int, 0 ≤ y ∧ y < n → L y = L' y) : Core n z L' nx od := by
  refine ⟨h.inv, h.sl, h.nb, h.ld, fun x q hq => ?_, fun i hi => ?_, fun x hx => ?_, fun o ho => ?_⟩
  · have hd : z.dirty x := by unfold CSt.dirty; rw [hq]; rfl
    rw [← he x (h.inv.ok x hd)]
    exact h.cn x q hq
  · rw [← he i (by omega)]
    exact h.dk i hi
  · rw [← he x (h.inv.ok x hx)]
    exact h.ol x hx
  · obtain ⟨o1, o2, o3⟩ := h.od o ho
    refine ⟨o1, o2, ?_⟩
    rw [← he _ o2]
    exact o3
theorem Core.stands {s : TSt} (h : Core n s.z L nx s.od) : standB s = true := by
  unfold standB
  refine List.all_eq_true.2 fun o ho => ?_
  obtain ⟨o1, o2, o3⟩ := h.od o ho
  have e : okO s.z.d.S o = !(decide (o.2.1 ≤ dvz s.z o.1) && decide (dvz s.z o.2.2.1 < o.2.2.2)) := rfl
  rw [e]
  rcases o3 with k | ⟨_, _, _, _, k⟩
  · rw [decide_eq_false (p := dvz s.z o.2.2.1 < o.2.2.2) (by omega), Bool.and_false]
    rfl
  · rw [decide_eq_false (p := o.2.1 ≤ dvz s.z o.1) (by omega), Bool.false_and]
    rfl
/-- What is known of a teller between steps. -/
structure TK (n : Nat) (s : TSt) : Prop where
  core : Core n s.z (lf s.last) s.nx s.od
  fl : s.di = flags n s.z
  al : Alive s.z
  ll : s.last.length = n
  n1 : 1 ≤ s.nx
theorem flags_set {z : CSt} {x : Int} (hx : 0 ≤ x ∧ x < n) (hd : z.dirty x) : (flags n z).set x.toNat true = flags n z := by
  refine List.ext_getElem (by simp) fun i h1 h2 => ?_
  rw [List.getElem_set]
  split
  · rename_i e
    subst e
    have hi : x.toNat < n := by omega
    have := (flags_get (z := z) hi).2 (by rw [show ((x.toNat : Nat) : Int) = x by omega]; exact hd)
    rw [List.getD_eq_getElem?_getD, List.getElem?_eq_getElem h2] at this
    exact this.symm
  · rfl
/-- puts keeps what is known. -/
theorem TK.puts {s : TSt} (h : TK n s) (hn : 8 ≤ n) (hnx : s.nx < 16777216) (hw : s.z.d.wr < 4611686018427380000) (x : SV) :
    Core n (putsT n s x).1.z (lf (putsT n s x).1.last) (putsT n s x).1.nx (putsT n s x).1.od ∧ (((putsT n s x).2 = 0 ∧ TK n (putsT n s x).1) ∨ ((putsT n s x).2 = 22 ∧ (putsT n s x).1.z.d.dn = true)) := by
  have ha := pk_bd hn x.N
  have hl : ∀ y, y ∈ afL n x → 0 ≤ y ∧ y < n := fun y hy => by
    unfold afL at hy
    obtain ⟨c, _, rfl⟩ := List.mem_map.1 hy
    exact pk_bd hn c
  have hr : refC n s.z (pk n x.N :: afL n x) = 0 := refC_alive h.al fun y hy => by
    rcases List.mem_cons.1 hy with e | e
    · rw [e]; exact ha
    · exact hl y e
  have hc := h.core.clear hw (pk n x.N) (afL n x)
  have hcw := hc.2 h.al
  have hP : putC n s.z (pk n x.N) (verL s.nx) (afL n x) = if (clearC n s.z (pk n x.N) (afL n x)).2 = 0 then (layC (clearC n s.z (pk n x.N) (afL n x)).1 (pk n x.N) (verL s.nx) (dofC (clearC n s.z (pk n x.N) (afL n x)).1 (afL n x) (pk n x.N)), 0) else clearC n s.z (pk n x.N) (afL n x) := by
    unfold putC
    rw [if_pos hr]
  have hlay := lay_of_clear h.core.inv (pk n x.N) (afL n x) h.core.tb hw
  unfold putsT
  generalize hz1 : clearC n s.z (pk n x.N) (afL n x) = r1 at *
  generalize pk n x.N = aa at *
  by_cases h0 : r1.2 = 0
  · rw [if_pos h0] at hP
    have hal1 : Alive r1.1 := by
      rcases hcw with e | e
      · exact e.2
      · rw [h0] at e; exact absurd e.1 (by decide)
    have hlen := h.ll
    have hC := hc.1.lay (by have := h.n1; omega) hnx ha (hlay h0) (newO s aa s.nx (afL n x)) (fun o ho => by
      unfold newO at ho
      obtain ⟨b, hb, rfl⟩ := List.mem_map.1 ho
      obtain ⟨hb1, hb2⟩ := List.mem_filter.1 hb
      have hb3 : b ≠ aa := by
        unfold newB at hb2
        simp at hb2
        exact hb2.1
      refine ⟨rfl, rfl, hl b hb1, hb3, Int.le_refl _, fun hd => ?_⟩
      exact secs_mem.2 ⟨hc.1.inv.sec hd, hb1, hd, hb3⟩)
    have hdir : (layC r1.1 aa (verL s.nx) (dofC r1.1 (afL n x) aa)).dirty aa := (layC_dirty _ _ _ _).2 (.inr rfl)
    have hC2 := hC.congr (L' := lf (s.last.set aa.toNat s.nx)) (fun y hy => (lf_set (by omega) hy.1).symm)
    rw [hP]
    simp only [if_true]
    rw [flags_set ha hdir]
    exact ⟨hC2, .inl ⟨by trivial, hC2, rfl, hal1, by simp [h.ll], by have := h.n1; show 1 ≤ s.nx + 1; omega⟩⟩
  · rw [if_neg h0] at hP
    rw [hP, if_neg h0]
    refine ⟨hc.1.more hnx, .inr ?_⟩
    rcases hcw with e | e
    · exact absurd e.1 h0
    · exact e

theorem Core.fit {s : TSt} (h : Core n s.z L nx s.od) : Fit n s :=
  ⟨fun i hi => by obtain ⟨v, _, _, e, _⟩ := h.dk i hi; rw [e]; exact verL_sec v, fun o ho => ⟨(h.od o ho).1, (h.od o ho).2.1⟩⟩
/-- drops keeps what is known. -/
theorem TK.drops {s : TSt} (h : TK n s) {x : Int} (hx : 0 ≤ x ∧ x < n) : TK n (dropsT s x) := by
  have hi : x.toNat < n := by omega
  have hxe : ((x.toNat : Nat) : Int) = x := by omega
  have hf := flags_get (z := s.z) hi
  rw [hxe] at hf
  unfold dropsT
  rw [h.fl]
  split
  · rename_i h1
    have hd := hf.1 h1
    have hC := (h.core.drop x).congr (L' := lf (s.last.set x.toNat (verS (D.secK s.z.d.S x.toNat)))) (fun y hy => (lf_set (by rw [h.ll]; exact hx) hy.1).symm)
    refine ⟨hC, ?_, h.al, by simp [h.ll], h.n1⟩
    refine List.ext_getElem (by simp [flags_len]) fun i h1 h2 => ?_
    have hin : i < n := by rw [flags_len] at h2; exact h2
    have e1 := flags_get (z := s.z) hin
    have e2 := flags_get (z := forC s.z x) hin
    rw [List.getD_eq_getElem?_getD, List.getElem?_eq_getElem (by rw [flags_len]; exact hin)] at e1
    rw [List.getD_eq_getElem?_getD, List.getElem?_eq_getElem h2] at e2
    simp only [Option.getD_some] at e1 e2
    have hD : (forC s.z x).dirty (i : Int) ↔ s.z.dirty i ∧ (i : Int) ≠ x := by
      unfold CSt.dirty
      show (if (i : Int) = x then none else s.z.P i).isSome = true ↔ _
      by_cases hy : (i : Int) = x
      · simp [hy]
      · simp [hy]
    simp only [List.getElem_set]
    rw [Bool.eq_iff_iff, e2, hD]
    by_cases hy : x.toNat = i
    · rw [if_pos hy]
      constructor
      · intro e; cases e
      · intro e; exact absurd (by omega) e.2
    · rw [if_neg hy, e1]
      exact ⟨fun e => ⟨e, by omega⟩, fun e => e.1⟩
  · rename_i h1
    have hd : ¬ s.z.dirty x := fun e => h1 (hf.2 e)
    rw [forC_clean h.core.inv hd, ← h.fl]
    exact h

end Go.Proofs.YtgkanfmkohlmcaaGreat
