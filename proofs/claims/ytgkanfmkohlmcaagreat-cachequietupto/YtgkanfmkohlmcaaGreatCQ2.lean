/-
  CacheQuiet: two tellers side by side, of which one is asked; what leaves both as they are.
-/
import Derived.Test.YtgkanfmkohlmcaaGreatCReadP
import Derived.Test.YtgkanfmkohlmcaaGreatCTag
import Derived.Test.YtgkanfmkohlmcaaGreatCQ1
import Derived.Test.YtgkanfmkohlmcaaGreatCTwoB
namespace Go.Proofs.YtgkanfmkohlmcaaGreat
open Go.RowKit

section
variable {n : Nat} {z z0 : CSt} {lt : Int → List Int} {now : List Int}

/-- A cache that lives, whose dirty sectors have these tags; none has landed. -/
structure FI (n : Nat) (z : CSt) (lt : Int → List Int) : Prop where
  inv : CInv n z
  al : Alive z
  ca : Calm z
  ld : z.ld = []
  tg : ∀ x q, z.P x = some q → q.2 = lt x ∧ D.IsSec q.1
  sec : ∀ i, i < n → D.IsSec (D.secK z.d.S i)
  tb : TB z
  sl : z.d.S.length = 128 * n

theorem FI.flush (h : FI n z lt) {x : Int} (hx : z.dirty x) (hf : FreeE z.E x) :
    (flushC n z x).2.1 = true ∧ (flushC n z x).2.2 = 0 ∧ (flushC n z x).1.ld = lt x ∧ FI n (toldC (flushC n z x).1) lt ∧ (flushC n z x).1.d.wr ≤ z.d.wr + 1 ∧ (secs (flushC n z x).1.dirty).length + 1 = (secs z.dirty).length := by
  have hok := h.inv.ok x hx
  have hr : refC n z [x] = 0 := refC_alive h.al (by simpa using hok)
  have e : flushC n z x = ((wrC n z x).1, decide ((wrC n z x).2 = 0), (wrC n z x).2) := by unfold flushC; rw [if_pos hr, if_pos ⟨hx, hf⟩]
  have hca := wrC_calm (n := n) h.ca x
  have h0 : (wrC n z x).2 = 0 ∧ Alive (wrC n z x).1 := by
    rcases wrC_went h.inv h.al hx with k | k
    · exact k
    · have := k.2
      rw [hca.2] at this
      cases this
  have hinv := wrC_inv h.inv x
  have htb := wrC_tb h.inv x h.tb
  have hwr := (wrC_wr (n := n) (z := z) x).2
  obtain ⟨q, hq, hlo, e2⟩ := wrC_zero h0.1 hx hok
  rw [e]
  have hD : ∀ y, (wrC n z x).1.dirty y ↔ z.dirty y ∧ y ≠ x := fun y => by
    rw [e2]
    unfold forC CSt.dirty
    by_cases hy : y = x
    · simp [hy]
    · simp [hy]
  have he : D.writeE z.d n x = 0 := by
    rcases writeE_cases z.d n x hok.1 hok.2 with he | he
    · exact he
    · have := h0.1
      rw [wrC_down hlo hq he] at this
      cases this
  refine ⟨by simp [h0.1], h0.1, ?_, ⟨inv_d hinv hinv.w0 hinv.lf, h0.2, hca, rfl, fun y r hy => ?_, fun i hi => ?_, ?_, ?_⟩, hwr, ?_⟩
  · show (wrC n z x).1.ld = _
    rw [e2]
    show z.ld ++ q.2 = _
    rw [h.ld, (h.tg x q hq).1]
    rfl
  · have hy' : (wrC n z x).1.P y = some r := hy
    rw [e2] at hy'
    have hy2 : (if y = x then none else z.P y) = some r := hy'
    by_cases e3 : y = x
    · rw [if_pos e3] at hy2; cases hy2
    · rw [if_neg e3] at hy2
      exact h.tg y r hy2
  · show D.IsSec (D.secK (wrC n z x).1.d.S i)
    rw [e2]
    show D.IsSec (D.secK (D.writeD z.d n x q.1).S i)
    rw [(writeD_S (s := q.1) he).1]
    by_cases e3 : x.toNat = i
    · subst e3
      rw [secK_over (n := n) h.sl hi (h.inv.ln x q hq)]
      exact (h.tg x q hq).2
    · rw [secK_other (h.inv.ln x q hq) e3]
      exact h.sec i hi
  · unfold TB at htb ⊢
    show ([] : List Int).length + tsum (wrC n z x).1.P ≤ _
    simp
    omega
  · show (wrC n z x).1.d.S.length = _
    rw [e2]
    show (D.writeD z.d n x q.1).S.length = _
    rw [(writeD_S (s := q.1) he).1]
    have : (D.over z.d.S (x.toNat * 128) q.1).length = z.d.S.length := D.over_len _ _ _
    rw [this]
    exact h.sl
  · have := secs_rest (p := z.dirty) (q := (wrC n z x).1.dirty) (l := [x]) (by simp) (fun y hy => by
      rw [List.mem_singleton.1 hy]
      exact ⟨h.inv.sec hx, hx⟩) (fun y => by rw [hD]; simp)
    simpa using this
theorem FI.drop (h : FI n z lt) {x : Int} (hx : z.dirty x) : FI n (forC z x) lt ∧ (secs (forC z x).dirty).length + 1 = (secs z.dirty).length := by
  refine ⟨⟨forC_inv h.inv x, h.al, h.ca, h.ld, fun y r hy => ?_, h.sec, ?_, h.sl⟩, ?_⟩
  · have hy2 : (if y = x then none else z.P y) = some r := hy
    by_cases e3 : y = x
    · rw [if_pos e3] at hy2; cases hy2
    · rw [if_neg e3] at hy2
      exact h.tg y r hy2
  · have h1 := tsum_upd z.P x (h.inv.sec hx) none
    have h2 := h.tb
    unfold TB at h2 ⊢
    show z.ld.length + tsum (fun y => if y = x then none else z.P y) ≤ _
    have h3 : tl (none : Option (List Int × List Int)) = 0 := rfl
    omega
  · have := secs_rest (p := z.dirty) (q := (forC z x).dirty) (l := [x]) (by simp) (fun y hy => by
      rw [List.mem_singleton.1 hy]
      exact ⟨h.inv.sec hx, hx⟩) (fun y => by
      unfold forC CSt.dirty
      by_cases hy : y = x
      · simp [hy]
      · simp [hy])
    simpa using this
theorem told_same (h : z.ld = []) : toldC z = z := by
  obtain ⟨d, E, P, ld, lo⟩ := z
  simp only at h
  subst h
  rfl

/-- A cache whose dirty sectors have these tags, and of which these have landed. -/
def mkd (z0 : CSt) (lt : Int → List Int) (now : List Int) : CSt := ⟨z0.d, z0.E, fun x => (z0.P x).map fun q => (q.1, lt x), now, z0.lost⟩
theorem mkd_dirty {x : Int} : (mkd z0 lt now).dirty x ↔ z0.dirty x := by
  unfold CSt.dirty mkd
  simp
theorem mkd_start (ht : ∀ x q, z0.P x = some q → q.2 = []) (hl : z0.ld = []) : mkd z0 (fun _ => []) [] = z0 := by
  obtain ⟨d, E, P, ld, lo⟩ := z0
  simp only at hl ht
  subst hl
  unfold mkd
  simp only [CSt.mk.injEq, true_and, and_true]
  funext x
  cases hq : P x with
  | none => rfl
  | some q =>
    have := ht x q hq
    obtain ⟨a, b⟩ := q
    simp only at this
    subst this
    rfl
theorem mark_none' {x t : Int} (h : ¬ z0.dirty x) : markC (mkd z0 lt now) x t = mkd z0 lt (now ++ [t]) := by
  have hq : z0.P x = none := by
    cases hq : z0.P x with
    | none => rfl
    | some q => exact absurd (by unfold CSt.dirty; rw [hq]; rfl) h
  rw [markC_none (by show (z0.P x).map _ = none; rw [hq]; rfl)]
  rfl
theorem mark_some' {x t : Int} (h : z0.dirty x) : markC (mkd z0 lt now) x t = mkd z0 (fun y => if y = x then lt x ++ [t] else lt y) now := by
  obtain ⟨q, hq⟩ := Option.isSome_iff_exists.1 h
  rw [markC_some (q := (q.1, lt x)) (by show (z0.P x).map _ = _; rw [hq]; rfl)]
  unfold mkd
  simp only [CSt.mk.injEq, true_and, and_true]
  funext y
  by_cases e : y = x
  · subst e; simp [hq]
  · simp [e]
theorem told_mkd : toldC (mkd z0 lt now) = mkd z0 lt [] := rfl
theorem tsum_all {P : Int → Option (List Int × List Int)} {m : Nat} (h : ∀ x q, P x = some q → q.2.length ≤ m) : tsum P ≤ 4096 * m := by
  unfold tsum
  have key : ∀ l : List Nat, (l.map fun i => tl (P (Int.ofNat i))).sum ≤ l.length * m := by
    intro l
    induction l with
    | nil => simp
    | cons a l ih =>
      simp only [List.map_cons, List.sum_cons, List.length_cons, Nat.add_mul, Nat.one_mul]
      have : tl (P (Int.ofNat a)) ≤ m := by
        unfold tl
        cases hq : P (Int.ofNat a) with
        | none => simp
        | some q => exact h _ q hq
      omega
  have := key (List.range 4096)
  simpa using this
theorem mkd_tb (h1 : ∀ x, (lt x).length ≤ 100) (h2 : now.length ≤ 100) : TB (mkd z0 lt now) := by
  have : tsum (mkd z0 lt now).P ≤ 4096 * 100 := tsum_all (fun x q hq => by
    have hq' : (z0.P x).map (fun q => (q.1, lt x)) = some q := hq
    cases h0 : z0.P x with
    | none => rw [h0] at hq'; cases hq'
    | some r =>
      rw [h0] at hq'
      have := (Option.some.inj hq').symm
      subst this
      exact h1 x)
  unfold TB
  show now.length + tsum (mkd z0 lt now).P ≤ _
  omega
theorem mkd_inv (h : CInv n z0) : CInv n (mkd z0 lt now) :=
  ⟨fun a b e => ⟨mkd_dirty.2 (h.ed a b e).1, mkd_dirty.2 (h.ed a b e).2⟩, fun x hx => h.ok x (mkd_dirty.1 hx), fun x q hq => by
    have hq' : (z0.P x).map (fun q => (q.1, lt x)) = some q := hq
    cases h0 : z0.P x with
    | none => rw [h0] at hq'; cases hq'
    | some r =>
      rw [h0] at hq'
      have := (Option.some.inj hq').symm
      subst this
      exact h.ln x r h0, h.ring, h.top, h.w0, h.lf⟩
theorem mkd_fi {s : TSt} (h : TK n s) (har : s.z.d.ar = false) (hl : ∀ x, (lt x).length ≤ 100) : FI n (mkd s.z lt []) lt :=
  ⟨mkd_inv h.core.inv, h.al, ⟨har, h.al.2⟩, rfl, fun x q hq => by
    have hq' : (s.z.P x).map (fun q => (q.1, lt x)) = some q := hq
    cases h0 : s.z.P x with
    | none => rw [h0] at hq'; cases hq'
    | some r =>
      rw [h0] at hq'
      have := (Option.some.inj hq').symm
      subst this
      refine ⟨rfl, ?_⟩
      show D.IsSec r.1
      rw [(h.core.cn x r h0).1]
      exact verL_sec _, fun i hi => by
    obtain ⟨v, _, _, e, _⟩ := h.core.dk i hi
    show D.IsSec (D.secK s.z.d.S i)
    rw [e]
    exact verL_sec _, mkd_tb hl (by simp), h.core.sl⟩
/-- Tags by sector. -/
def ltL (LL : List (List Int)) (x : Int) : List Int := if 0 ≤ x then LL.getD x.toNat [] else []
theorem ltL_nat (LL : List (List Int)) (k : Nat) : ltL LL (k : Int) = LL.getD k [] := by unfold ltL; rw [if_pos (by omega)]; simp
theorem ltL_set {LL : List (List Int)} {k : Nat} (hk : k < LL.length) (l : List Int) : ltL (LL.set k l) = fun y => if y = (k : Int) then l else ltL LL y := by
  funext y
  unfold ltL
  by_cases h0 : 0 ≤ y
  · rw [if_pos h0, if_pos h0, List.getD_eq_getElem?_getD, List.getElem?_set]
    by_cases e : k = y.toNat
    · rw [if_pos e, if_pos (by omega), if_pos (by omega)]
      rfl
    · rw [if_neg e, if_neg (by omega), List.getD_eq_getElem?_getD]
  · rw [if_neg h0, if_neg h0, if_neg (by omega)]
theorem ltL_none (n : Nat) : ltL (List.replicate n []) = fun _ => [] := by
  funext y
  unfold ltL
  split
  · rw [List.getD_eq_getElem?_getD, List.getElem?_replicate]
    split <;> rfl
  · rfl
end

end Go.Proofs.YtgkanfmkohlmcaaGreat

namespace Go.Proofs.YtgkanfmkohlmcaaGreat
open Go.RowKit

section
variable {n : Nat} {z : CSt}
/-- A cache that lives, without tags. -/
structure QI (n : Nat) (z : CSt) : Prop where
  inv : CInv n z
  al : Alive z
  ca : Calm z
  tg : ∀ x q, z.P x = some q → q.2 = []
  ld : z.ld = []
theorem QI.tb (h : QI n z) : TB z := by
  unfold TB
  rw [h.ld, tsum_zero h.tg]
  decide
theorem QI.of {s : TSt} (h : TK n s) (har : s.z.d.ar = false) : QI n s.z :=
  ⟨h.core.inv, h.al, ⟨har, h.al.2⟩, fun x q hq => (h.core.cn x q hq).2.2.2, h.core.ld⟩
theorem QI.lay (h : QI n z) {x : Int} {s : List Int} (hi : CInv n (layC z x s [])) : QI n (layC z x s []) := by
  refine ⟨hi, h.al, h.ca, fun y q hq => ?_, h.ld⟩
  have hq' : (if y = x then some (s, match z.P x with | some q => q.2 | none => []) else z.P y) = some q := hq
  by_cases e : y = x
  · rw [if_pos e] at hq'
    have := (Option.some.inj hq').symm
    subst this
    show (match z.P x with | some q => q.2 | none => []) = []
    cases h0 : z.P x with
    | none => rfl
    | some r => exact h.tg x r h0
  · rw [if_neg e] at hq'
    exact h.tg y q hq'
open Classical in
theorem wAll_zero : ∀ (k : Nat) (z : CSt) (l : List Int), CInv n z → Alive z → Calm z → l.Pairwise (· ≠ ·) → (∀ y, y ∈ l → z.dirty y) → (wAll n k z l).2 = 0
  | 0, _, _, _, _, _, _, _ => rfl
  | k + 1, z, l, hi, ha, hc, hl, hd => by
    unfold wAll
    cases hf : l.find? (fun x => decide (FreeE z.E x)) with
    | none => rfl
    | some x =>
      have hm := List.mem_of_find?_eq_some hf
      have hca := wrC_calm (n := n) hc x
      have h0 : (wrC n z x).2 = 0 ∧ Alive (wrC n z x).1 := by
        rcases wrC_went hi ha (hd x hm) with k | k
        · exact k
        · have := k.2
          rw [hca.2] at this
          cases this
      simp only
      rw [if_pos h0.1]
      exact wAll_zero k _ _ (wrC_inv hi x) h0.2 hca (hl.sublist List.erase_sublist) (wrC_left hi hl hd hm h0.1)
theorem QI.sync (h : QI n z) : (syncC n z).2 = 0 :=
  wAll_zero _ _ _ h.inv h.al h.ca ((secs_up _).imp fun {a b} e => by omega) (fun x hx => (secs_mem.1 hx).2)
end

section
variable {w0 w1 w w' : World} {n t c p g lb db t2 x2 p2 g2 lb2 db2 bs : Nat} {s s2 : TSt}
/-- A call that leaves the first one's cache as it was. -/
theorem Duo.same {P : Ending → Prop} {f : Nat} {args : Array Value} (h : Duo w0 w n t c p g lb db t2 x2 p2 g2 lb2 db2 s s2)
    (H : ∀ ρ, IsC w c p g n ρ s.z → Calls Tryz.prog f args w fun e w' => P e ∧ CPost w w' c p g n ρ s.z) :
    Calls Tryz.prog f args w fun e w' => P e ∧ Duo w0 w' n t c p g lb db t2 x2 p2 g2 lb2 db2 s s2 := by
  obtain ⟨ρ, ov, ρ2, ov2, a, b, d1, d2⟩ := h
  refine (H ρ a.ca).mono ?_
  rintro e w' ⟨hp, hP⟩
  exact ⟨hp, duo_post a b d1 d2 hP⟩
theorem Duo.readB (x : Int) (h : Duo w0 w n t c p g lb db t2 x2 p2 g2 lb2 db2 s s2) (hx : ¬ (0 ≤ x ∧ x < n)) : Calls Tryz.prog 15 #[.pointer (some ⟨c, 0, none⟩), .int .i64 x] w fun e w' => e = .returned (.tuple #[.agg (D.SA D.Zs), .int .i64 40]) ∧ Duo w0 w' n t c p g lb db t2 x2 p2 g2 lb2 db2 s s2 :=
  h.same (P := fun e => e = .returned (.tuple #[.agg (D.SA D.Zs), .int .i64 40])) fun _ hc => read_refused x hc hx
theorem Duo.standB (x : Int) (h : Duo w0 w n t c p g lb db t2 x2 p2 g2 lb2 db2 s s2) (hx : ¬ (0 ≤ x ∧ x < n)) : Calls Tryz.prog 16 #[.pointer (some ⟨c, 0, none⟩), .int .i64 x] w fun e w' => e = .returned (.tuple #[.agg (D.SA D.Zs), .int .i64 40]) ∧ Duo w0 w' n t c p g lb db t2 x2 p2 g2 lb2 db2 s s2 :=
  h.same (P := fun e => e = .returned (.tuple #[.agg (D.SA D.Zs), .int .i64 40])) fun _ hc => by
    have := standC_any x hc
    rw [stand_bad hx] at this
    exact this
theorem Duo.flushB (x : Int) (h : Duo w0 w n t c p g lb db t2 x2 p2 g2 lb2 db2 s s2) (hI : I64 x) (hx : ¬ (0 ≤ x ∧ x < n)) (ht : TB s.z) (hw : s.z.d.wr < 4611686018427380000) : Calls Tryz.prog 14 #[.pointer (some ⟨c, 0, none⟩), .int .i64 x] w fun e w' => e = .returned (.tuple #[.bool false, .int .i64 40]) ∧ Duo w0 w' n t c p g lb db t2 x2 p2 g2 lb2 db2 s s2 :=
  h.same (P := fun e => e = .returned (.tuple #[.bool false, .int .i64 40])) fun _ hc => by
    have := flushC_any x hc hI ht hw
    rw [flush_bad hx] at this
    exact this
theorem Duo.drainB (x : Int) (h : Duo w0 w n t c p g lb db t2 x2 p2 g2 lb2 db2 s s2) (hx : ¬ (0 ≤ x ∧ x < n)) (ht : TB s.z) (hw : s.z.d.wr < 4611686018427380000) : Calls Tryz.prog 19 #[.pointer (some ⟨c, 0, none⟩), .int .i64 x] w fun e w' => e = .returned (.int .i64 40) ∧ Duo w0 w' n t c p g lb db t2 x2 p2 g2 lb2 db2 s s2 :=
  h.same (P := fun e => e = .returned (.int .i64 40)) fun _ hc => by
    have := DrainC_any x hc ht hw
    rw [drain_bad hx] at this
    exact this
theorem Duo.dropB (x : Int) (h : Duo w0 w n t c p g lb db t2 x2 p2 g2 lb2 db2 s s2) (hx : ¬ (0 ≤ x ∧ x < n)) : Calls Tryz.prog 20 #[.pointer (some ⟨c, 0, none⟩), .int .i64 x] w fun e w' => e = .returned (.int .i64 40) ∧ Duo w0 w' n t c p g lb db t2 x2 p2 g2 lb2 db2 s s2 :=
  h.same (P := fun e => e = .returned (.int .i64 40)) fun _ hc => by
    have := DropC_any x hc
    rw [drop_bad hx] at this
    exact this
theorem Duo.markB (x y : Int) (h : Duo w0 w n t c p g lb db t2 x2 p2 g2 lb2 db2 s s2) (hx : ¬ (0 ≤ x ∧ x < n)) : Calls Tryz.prog 9 #[.pointer (some ⟨c, 0, none⟩), .int .i64 x, .int .i64 y] w fun e w' => e = .returned (.int .i64 40) ∧ Duo w0 w' n t c p g lb db t2 x2 p2 g2 lb2 db2 s s2 :=
  h.same (P := fun e => e = .returned (.int .i64 40)) fun _ hc => mark_refused x y hc hx
/-- A Put that is refused; its list lies in a block that is not the cache's. -/
theorem DuoB.putB (x : Int) (v l : List Int) (ca : Nat) (h : DuoB w0 w n t c p g lb db t2 x2 p2 g2 lb2 db2 s s2 bs) (hv : v.length = 128) (hI : I64 x) (hl : LAt w (some ⟨bs, 0, none⟩) l) (hb : bs < w.heap.size) (hm : l.length ≤ 100) (hIl : ∀ k, k < l.length → I64 (l.getD k 0))
    (hx : ∃ k, k < (x :: l).length ∧ ¬ (0 ≤ (x :: l).getD k 0 ∧ (x :: l).getD k 0 < n)) (ht : TB s.z) (hw : s.z.d.wr < 4611686018427380000) :
    Calls Tryz.prog 17 #[.pointer (some ⟨c, 0, none⟩), .int .i64 x, .agg (D.SA v), .slice (some ⟨bs, 0, none⟩) l.length ca] w fun e w' => e = .returned (.int .i64 40) ∧ Duo w0 w' n t c p g lb db t2 x2 p2 g2 lb2 db2 s s2 := by
  obtain ⟨ρ, ov, ρ2, ov2, a, b, d1, d2, d3⟩ := h
  have := put_any x v l (some ⟨bs, 0, none⟩) ca a.ca hv hI hl (fun e => by cases e) (fun k e => by cases e; exact ⟨hb, d3⟩) (by omega) hIl ht hw
  rw [put_bad hx] at this
  refine this.mono ?_
  rintro e w' ⟨rfl, hP⟩
  exact ⟨rfl, duo_post a b d1 d2 hP⟩
/-- A Put of a good place, behind nothing. -/
theorem Duo.putG (x : Int) (v : List Int) (h : Duo w0 w n t c p g lb db t2 x2 p2 g2 lb2 db2 s s2) (hv : v.length = 128) (hx : 0 ≤ x ∧ x < n) (hI : I64 x) (ha : Alive s.z) (ht : TB s.z) (hw : s.z.d.wr < 4611686018427380000) :
    Calls Tryz.prog 17 #[.pointer (some ⟨c, 0, none⟩), .int .i64 x, .agg (D.SA v), .slice none 0 0] w fun e w' => e = .returned (.int .i64 0) ∧ Duo w0 w' n t c p g lb db t2 x2 p2 g2 lb2 db2 { s with z := layC s.z x v [] } s2 := by
  obtain ⟨ρ, ov, ρ2, ov2, a, b, d1, d2⟩ := h
  have := put_any x v [] none 0 a.ca hv hI (.inl rfl) (fun _ => rfl) (fun k e => by cases e) (by simp) (fun k hk => absurd hk (by simp)) ht hw
  rw [put_plain ha hx] at this
  refine this.mono ?_
  rintro e w' ⟨rfl, hP⟩
  exact ⟨rfl, duo_post a b d1 d2 hP⟩
theorem Duo.inv (h : Duo w0 w n t c p g lb db t2 x2 p2 g2 lb2 db2 s s2) : CInv n s.z := let ⟨_, _, _, _, a, _, _⟩ := h; a.ca.inv
theorem Duo.edges (h : Duo w0 w n t c p g lb db t2 x2 p2 g2 lb2 db2 s s2) : Calls Tryz.prog 21 #[.pointer (some ⟨c, 0, none⟩)] w fun e w' => ∃ va vc l, e = .returned (.slice va (List.length l) vc) ∧ EList s.z.E l ∧ EdAt w' va l ∧ Chg w w' No := by
  obtain ⟨_, _, _, _, a, _, _⟩ := h
  refine (edgesC_any a.ca).mono ?_
  rintro e w' ⟨v, l, rfl, hE, hL, hc⟩
  obtain ⟨va, vc, rfl, h1, _⟩ := hE.edat
  exact ⟨va, vc, l, rfl, hL, h1, hc⟩
theorem Duo.landed (h : Duo w0 w n t c p g lb db t2 x2 p2 g2 lb2 db2 s s2) (hl : s.z.ld = []) : Calls Tryz.prog 7 #[.pointer (some ⟨c, 0, none⟩)] w fun e w' => ∃ va vc, e = .returned (.slice va 0 vc) ∧ Duo w0 w' n t c p g lb db t2 x2 p2 g2 lb2 db2 s s2 := by
  have hc0 : ∀ ρ, IsC w c p g n ρ s.z → Own ρ c := fun ρ h => by obtain ⟨_, _, _, _, _, h0⟩ := h; exact ⟨_, h0.rc⟩
  refine (h.same (P := fun e => ∃ va vc, e = .returned (.slice va 0 vc)) fun ρ hc => (landed_any hc).mono ?_).mono ?_
  · rintro e w' ⟨a, cc, ρ', rfl, _, _, h3, h4, h5⟩
    rw [hl]
    rw [told_same hl] at h3
    exact ⟨⟨a, cc, rfl⟩, ρ', h3, fun k hk => .inl (h4 k hk), h5.mono fun j _ e => by rw [e]; exact hc0 ρ hc⟩
  · rintro e w' ⟨⟨a, cc, rfl⟩, hd⟩
    exact ⟨a, cc, rfl, hd⟩
end

end Go.Proofs.YtgkanfmkohlmcaaGreat
