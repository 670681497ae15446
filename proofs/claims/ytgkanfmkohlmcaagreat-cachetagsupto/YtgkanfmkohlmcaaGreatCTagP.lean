/-
  CacheTags, without a program: tags that are laid with sectors, and land with them.
-/
import Derived.Test.YtgkanfmkohlmcaaGreatCOnce
import Derived.Test.YtgkanfmkohlmcaaGreatCRead
import Derived.Test.YtgkanfmkohlmcaaGreatCLawF
import Derived.Test.YtgkanfmkohlmcaaGreatCTag
namespace Go.Proofs.YtgkanfmkohlmcaaGreat
open Go.RowKit

variable {n : Nat} {z : CSt} {L : Int → Int} {nx : Int} {od : List (Int × Int × Int × Int)}

/-- What is read is what was put last. -/
theorem reads_last (h : Core n z L nx od) {i : Nat} (hi : i < n) : readC z i = verL (L i) ∧ 0 ≤ L i ∧ L i < 16777216 ∧ (¬ z.dirty i → D.secK z.d.S i = verL (L i)) := by
  obtain ⟨v, v0, v1, v2, v3⟩ := h.dk i hi
  have hb := h.nb
  unfold readC
  cases hd : z.P i with
  | none =>
    have hnd : ¬ z.dirty i := fun k => by
      have : (z.P i).isSome = true := k
      rw [hd] at this
      cases this
    have e := v3 hnd
    simp only [Int.toNat_natCast]
    rw [v2, e]
    exact ⟨rfl, v0, by omega, fun _ => rfl⟩
  | some q =>
    obtain ⟨q1, q2, q3, q4⟩ := h.cn i q hd
    simp only
    exact ⟨q1, q2, by omega, fun k => absurd (show (z.P i).isSome = true by rw [hd]; rfl) k⟩
/-- A cache with nothing dirty: the disk has what was put last. -/
theorem clean_last (h : Core n z L nx od) (hc : ∀ x, ¬ z.dirty x) {i : Nat} (hi : i < n) : D.secK z.d.S i = verL (L i) ∧ 0 ≤ L i ∧ L i < 16777216 :=
  ⟨(reads_last h hi).2.2.2 (hc i), (reads_last h hi).2.1, (reads_last h hi).2.2.1⟩
theorem secs_ne {p : Int → Prop} (h : ¬ (secs p).length = 0) : ∃ x, Sec x ∧ p x := by
  cases he : secs p with
  | nil => rw [he] at h; exact absurd rfl h
  | cons x r =>
    have : x ∈ secs p := by rw [he]; simp
    exact ⟨x, secs_mem.1 this⟩
/-- Where one is dirty, one may land. -/
theorem elig_some (hi : CInv n z) (h : ¬ (secs z.dirty).length = 0) : ¬ (secs fun x => z.dirty x ∧ FreeE z.E x).length = 0 := by
  have hne : secs z.dirty ≠ [] := fun e => h (by rw [e]; rfl)
  obtain ⟨x, hx, hf⟩ := free_in hi hne fun a b he _ => secs_mem.2 ⟨hi.sec (hi.ed a b he).1, (hi.ed a b he).1⟩
  have hm : x ∈ secs fun x => z.dirty x ∧ FreeE z.E x := secs_mem.2 ⟨(secs_mem.1 hx).1, (secs_mem.1 hx).2, hf⟩
  intro e
  rw [List.length_eq_zero_iff.1 e] at hm
  cases hm
/-- One that may land is flushed: one write, one dirty sector less. -/
theorem flush_one (h : Core n z L nx od) (ha : Alive z) (hc : Calm z) {x : Int} (hx : z.dirty x) (hf : FreeE z.E x) :
    (flushC n z x).2.1 = true ∧ (flushC n z x).2.2 = 0 ∧ Core n (flushC n z x).1 L nx od ∧ Alive (flushC n z x).1 ∧ Calm (flushC n z x).1 ∧ (flushC n z x).1.d.wr = z.d.wr + 1 ∧ (secs (flushC n z x).1.dirty).length + 1 = (secs z.dirty).length := by
  have hok := h.inv.ok x hx
  have hr : refC n z [x] = 0 := refC_alive ha (by simpa using hok)
  have e : flushC n z x = ((wrC n z x).1, decide ((wrC n z x).2 = 0), (wrC n z x).2) := by unfold flushC; rw [if_pos hr, if_pos ⟨hx, hf⟩]
  have hca := wrC_calm (n := n) hc x
  have h0 : (wrC n z x).2 = 0 ∧ Alive (wrC n z x).1 := by
    rcases wrC_went h.inv ha hx with k | k
    · exact k
    · have := k.2
      rw [hca.2] at this
      cases this
  rw [e]
  refine ⟨by simp [h0.1], h0.1, h.wr hx hf, h0.2, hca, wrC_one h.inv hx h0.1, ?_⟩
  have := secs_rest (p := z.dirty) (q := (wrC n z x).1.dirty) (l := [x]) (by simp) (fun y hy => by
    rw [List.mem_singleton.1 hy]
    exact ⟨h.inv.sec hx, hx⟩) (fun y => by
    obtain ⟨q, hq, _, e2⟩ := wrC_zero h0.1 hx hok
    rw [e2]
    unfold forC CSt.dirty
    by_cases hy : y = x
    · simp [hy]
    · simp [hy])
  simpa using this

end Go.Proofs.YtgkanfmkohlmcaaGreat

namespace Go.Proofs.YtgkanfmkohlmcaaGreat
open Go.RowKit

section
variable {n : Nat} {z z0 : CSt} {lt : Int → List Int} {now : List Int}

/-- A cache that lives, whose dirty sectors have these tags; none has landed. -/
structure FI (n : Nat) (z : CSt) (lt : Int → List Int) : Prop where
  inv : CInv n z
  al : Alive z
  ca : Calm z
  ld : z.ld = []
  tg : ∀ x q, z.P x = some q → q.2 = lt x ∧ D.IsSec q.1
  sec : ∀ i, i < n → D.IsSec (D.secK z.d.S i)
  tb : TB z
  sl : z.d.S.length = 128 * n

theorem FI.flush (h : FI n z lt) {x : Int} (hx : z.dirty x) (hf : FreeE z.E x) :
    (flushC n z x).2.1 = true ∧ (flushC n z x).2.2 = 0 ∧ (flushC n z x).1.ld = lt x ∧ FI n (toldC (flushC n z x).1) lt ∧ (flushC n z x).1.d.wr ≤ z.d.wr + 1 ∧ (secs (flushC n z x).1.dirty).length + 1 = (secs z.dirty).length := by
  have hok := h.inv.ok x hx
  have hr : refC n z [x] = 0 := refC_alive h.al (by simpa using hok)
  have e : flushC n z x = ((wrC n z x).1, decide ((wrC n z x).2 = 0), (wrC n z x).2) := by unfold flushC; rw [if_pos hr, if_pos ⟨hx, hf⟩]
  have hca := wrC_calm (n := n) h.ca x
  have h0 : (wrC n z x).2 = 0 ∧ Alive (wrC n z x).1 := by
    rcases wrC_went h.inv h.al hx with k | k
    · exact k
    · have := k.2
      rw [hca.2] at this
      cases this
  have hinv := wrC_inv h.inv x
  have htb := wrC_tb h.inv x h.tb
  have hwr := (wrC_wr (n := n) (z := z) x).2
  obtain ⟨q, hq, hlo, e2⟩ := wrC_zero h0.1 hx hok
  rw [e]
  have hD : ∀ y, (wrC n z x).1.dirty y ↔ z.dirty y ∧ y ≠ x := fun y => by
    rw [e2]
    unfold forC CSt.dirty
    by_cases hy : y = x
    · simp [hy]
    · simp [hy]
  have he : D.writeE z.d n x = 0 := by
    rcases writeE_cases z.d n x hok.1 hok.2 with he | he
    · exact he
    · have := h0.1
      rw [wrC_down hlo hq he] at this
      cases this
  refine ⟨by simp [h0.1], h0.1, ?_, ⟨inv_d hinv hinv.w0 hinv.lf, h0.2, hca, rfl, fun y r hy => ?_, fun i hi => ?_, ?_, ?_⟩, hwr, ?_⟩
  · show (wrC n z x).1.ld = _
    rw [e2]
    show z.ld ++ q.2 = _
    rw [h.ld, (h.tg x q hq).1]
    rfl
  · have hy' : (wrC n z x).1.P y = some r := hy
    rw [e2] at hy'
    have hy2 : (if y = x then none else z.P y) = some r := hy'
    by_cases e3 : y = x
    · rw [if_pos e3] at hy2; cases hy2
    · rw [if_neg e3] at hy2
      exact h.tg y r hy2
  · show D.IsSec (D.secK (wrC n z x).1.d.S i)
    rw [e2]
    show D.IsSec (D.secK (D.writeD z.d n x q.1).S i)
    rw [(writeD_S (s := q.1) he).1]
    by_cases e3 : x.toNat = i
    · subst e3
      rw [secK_over (n := n) h.sl hi (h.inv.ln x q hq)]
      exact (h.tg x q hq).2
    · rw [secK_other (h.inv.ln x q hq) e3]
      exact h.sec i hi
  · unfold TB at htb ⊢
    show ([] : List Int).length + tsum (wrC n z x).1.P ≤ _
    simp
    omega
  · show (wrC n z x).1.d.S.length = _
    rw [e2]
    show (D.writeD z.d n x q.1).S.length = _
    rw [(writeD_S (s := q.1) he).1]
    have : (D.over z.d.S (x.toNat * 128) q.1).length = z.d.S.length := D.over_len _ _ _
    rw [this]
    exact h.sl
  · have := secs_rest (p := z.dirty) (q := (wrC n z x).1.dirty) (l := [x]) (by simp) (fun y hy => by
      rw [List.mem_singleton.1 hy]
      exact ⟨h.inv.sec hx, hx⟩) (fun y => by rw [hD]; simp)
    simpa using this
theorem FI.drop (h : FI n z lt) {x : Int} (hx : z.dirty x) : FI n (forC z x) lt ∧ (secs (forC z x).dirty).length + 1 = (secs z.dirty).length := by
  refine ⟨⟨forC_inv h.inv x, h.al, h.ca, h.ld, fun y r hy => ?_, h.sec, ?_, h.sl⟩, ?_⟩
  · have hy2 : (if y = x then none else z.P y) = some r := hy
    by_cases e3 : y = x
    · rw [if_pos e3] at hy2; cases hy2
    · rw [if_neg e3] at hy2
      exact h.tg y r hy2
  · have h1 := tsum_upd z.P x (h.inv.sec hx) none
    have h2 := h.tb
    unfold TB at h2 ⊢
    show z.ld.length + tsum (fun y => if y = x then none else z.P y) ≤ _
    have h3 : tl (none : Option (List Int × List Int)) = 0 := rfl
    omega
  · have := secs_rest (p := z.dirty) (q := (forC z x).dirty) (l := [x]) (by simp) (fun y hy => by
      rw [List.mem_singleton.1 hy]
      exact ⟨h.inv.sec hx, hx⟩) (fun y => by
      unfold forC CSt.dirty
      by_cases hy : y = x
      · simp [hy]
      · simp [hy])
    simpa using this
theorem told_same (h : z.ld = []) : toldC z = z := by
  obtain ⟨d, E, P, ld, lo⟩ := z
  simp only at h
  subst h
  rfl

/-- A cache whose dirty sectors have these tags, and of which these have landed. -/
def mkd (z0 : CSt) (lt : Int → List Int) (now : List Int) : CSt := ⟨z0.d, z0.E, fun x => (z0.P x).map fun q => (q.1, lt x), now, z0.lost⟩
theorem mkd_dirty {x : Int} : (mkd z0 lt now).dirty x ↔ z0.dirty x := by
  unfold CSt.dirty mkd
  simp
theorem mkd_start (ht : ∀ x q, z0.P x = some q → q.2 = []) (hl : z0.ld = []) : mkd z0 (fun _ => []) [] = z0 := by
  obtain ⟨d, E, P, ld, lo⟩ := z0
  simp only at hl ht
  subst hl
  unfold mkd
  simp only [CSt.mk.injEq, true_and, and_true]
  funext x
  cases hq : P x with
  | none => rfl
  | some q =>
    have := ht x q hq
    obtain ⟨a, b⟩ := q
    simp only at this
    subst this
    rfl
theorem mark_none' {x t : Int} (h : ¬ z0.dirty x) : markC (mkd z0 lt now) x t = mkd z0 lt (now ++ [t]) := by
  have hq : z0.P x = none := by
    cases hq : z0.P x with
    | none => rfl
    | some q => exact absurd (by unfold CSt.dirty; rw [hq]; rfl) h
  rw [markC_none (by show (z0.P x).map _ = none; rw [hq]; rfl)]
  rfl
theorem mark_some' {x t : Int} (h : z0.dirty x) : markC (mkd z0 lt now) x t = mkd z0 (fun y => if y = x then lt x ++ [t] else lt y) now := by
  obtain ⟨q, hq⟩ := Option.isSome_iff_exists.1 h
  rw [markC_some (q := (q.1, lt x)) (by show (z0.P x).map _ = _; rw [hq]; rfl)]
  unfold mkd
  simp only [CSt.mk.injEq, true_and, and_true]
  funext y
  by_cases e : y = x
  · subst e; simp [hq]
  · simp [e]
theorem told_mkd : toldC (mkd z0 lt now) = mkd z0 lt [] := rfl
theorem tsum_all {P : Int → Option (List Int × List Int)} {m : Nat} (h : ∀ x q, P x = some q → q.2.length ≤ m) : tsum P ≤ 4096 * m := by
  unfold tsum
  have key : ∀ l : List Nat, (l.map fun i => tl (P (Int.ofNat i))).sum ≤ l.length * m := by
    intro l
    induction l with
    | nil => simp
    | cons a l ih =>
      simp only [List.map_cons, List.sum_cons, List.length_cons, Nat.add_mul, Nat.one_mul]
      have : tl (P (Int.ofNat a)) ≤ m := by
        unfold tl
        cases hq : P (Int.ofNat a) with
        | none => simp
        | some q => exact h _ q hq
      omega
  have := key (List.range 4096)
  simpa using this
theorem mkd_tb (h1 : ∀ x, (lt x).length ≤ 100) (h2 : now.length ≤ 100) : TB (mkd z0 lt now) := by
  have : tsum (mkd z0 lt now).P ≤ 4096 * 100 := tsum_all (fun x q hq => by
    have hq' : (z0.P x).map (fun q => (q.1, lt x)) = some q := hq
    cases h0 : z0.P x with
    | none => rw [h0] at hq'; cases hq'
    | some r =>
      rw [h0] at hq'
      have := (Option.some.inj hq').symm
      subst this
      exact h1 x)
  unfold TB
  show now.length + tsum (mkd z0 lt now).P ≤ _
  omega
theorem mkd_inv (h : CInv n z0) : CInv n (mkd z0 lt now) :=
  ⟨fun a b e => ⟨mkd_dirty.2 (h.ed a b e).1, mkd_dirty.2 (h.ed a b e).2⟩, fun x hx => h.ok x (mkd_dirty.1 hx), fun x q hq => by
    have hq' : (z0.P x).map (fun q => (q.1, lt x)) = some q := hq
    cases h0 : z0.P x with
    | none => rw [h0] at hq'; cases hq'
    | some r =>
      rw [h0] at hq'
      have := (Option.some.inj hq').symm
      subst this
      exact h.ln x r h0, h.ring, h.top, h.w0, h.lf⟩
theorem mkd_fi {s : TSt} (h : TK n s) (har : s.z.d.ar = false) (hl : ∀ x, (lt x).length ≤ 100) : FI n (mkd s.z lt []) lt :=
  ⟨mkd_inv h.core.inv, h.al, ⟨har, h.al.2⟩, rfl, fun x q hq => by
    have hq' : (s.z.P x).map (fun q => (q.1, lt x)) = some q := hq
    cases h0 : s.z.P x with
    | none => rw [h0] at hq'; cases hq'
    | some r =>
      rw [h0] at hq'
      have := (Option.some.inj hq').symm
      subst this
      refine ⟨rfl, ?_⟩
      show D.IsSec r.1
      rw [(h.core.cn x r h0).1]
      exact verL_sec _, fun i hi => by
    obtain ⟨v, _, _, e, _⟩ := h.core.dk i hi
    show D.IsSec (D.secK s.z.d.S i)
    rw [e]
    exact verL_sec _, mkd_tb hl (by simp), h.core.sl⟩
/-- Tags by sector. -/
def ltL (LL : List (List Int)) (x : Int) : List Int := if 0 ≤ x then LL.getD x.toNat [] else []
theorem ltL_nat (LL : List (List Int)) (k : Nat) : ltL LL (k : Int) = LL.getD k [] := by unfold ltL; rw [if_pos (by omega)]; simp
theorem ltL_set {LL : List (List Int)} {k : Nat} (hk : k < LL.length) (l : List Int) : ltL (LL.set k l) = fun y => if y = (k : Int) then l else ltL LL y := by
  funext y
  unfold ltL
  by_cases h0 : 0 ≤ y
  · rw [if_pos h0, if_pos h0, List.getD_eq_getElem?_getD, List.getElem?_set]
    by_cases e : k = y.toNat
    · rw [if_pos e, if_pos (by omega), if_pos (by omega)]
      rfl
    · rw [if_neg e, if_neg (by omega), List.getD_eq_getElem?_getD]
  · rw [if_neg h0, if_neg h0, if_neg (by omega)]
theorem ltL_none (n : Nat) : ltL (List.replicate n []) = fun _ => [] := by
  funext y
  unfold ltL
  split
  · rw [List.getD_eq_getElem?_getD, List.getElem?_replicate]
    split <;> rfl
  · rfl
end

end Go.Proofs.YtgkanfmkohlmcaaGreat
