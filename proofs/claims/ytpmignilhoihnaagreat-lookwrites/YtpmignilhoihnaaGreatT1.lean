/-
  An inode is taken up.
-/
import Derived.Test.YtpmignilhoihnaaGreatR2
namespace Go.Proofs.YtpmignilhoihnaaGreat
open Go.RowKit Go.Shelf

/-- A look that is under way. -/
structure IsL (w : World) (c : LC) (s : LS) : Prop where
  v : IsV w c s.wt s.cl s.wp
  t : MapV w c.b.tb (fun x => (s.tk x).map fun z => Value.agg (NA z))
  q : QAt w c.B c.b.qb s.q
/-- What the look's own functions may turn. -/
def Kl (c : LC) (w : World) (k : Nat) : Prop := c.B ≤ k ∧ (k = c.b.wb ∨ k = c.b.cb ∨ k = c.b.vb ∨ k = c.b.tb ∨ k = c.b.qb ∨ ∃ A t, w.heap[k]? = some (.cells A t (0, 0)) ∧ (t = 116 ∨ t = 24))
section
variable {w w1 w2 w' : World} {c : LC} {s : LS}
theorem kl_trans (h : Chg w w1 (Kl c w)) (k : Chg w1 w2 (Kl c w1)) : Chg w w2 (Kl c w) :=
  h.trans k (fun _ _ e => e) (fun j hj e => by
    by_cases hn : Kl c w j
    · exact hn
    rcases e with ⟨hB, e | e | e | e | e | ⟨A, t, e, ht⟩⟩
    · exact ⟨hB, .inl e⟩
    · exact ⟨hB, .inr (.inl e)⟩
    · exact ⟨hB, .inr (.inr (.inl e))⟩
    · exact ⟨hB, .inr (.inr (.inr (.inl e)))⟩
    · exact ⟨hB, .inr (.inr (.inr (.inr (.inl e))))⟩
    · rw [h.block j hj hn] at e
      exact ⟨hB, .inr (.inr (.inr (.inr (.inr ⟨A, t, e, ht⟩))))⟩)
theorem kl_no (h : Chg w w' No) : Chg w w' (Kl c w) := h.mono fun _ _ e => e.elim
theorem IsL.call (h : IsL w c s) (hc : Chg w w' No) : IsL w' c s := ⟨h.v.call hc, h.t.keep hc (fun e => e), h.q.call hc⟩
theorem QAt.isBox {B qb : Nat} {q : List (List Int)} (h : QAt w B qb q) : ∃ v, w.heap[qb]? = some (.cells #[v] 126 (0, 0)) := by
  obtain ⟨_, v, xs, k, _⟩ := h
  exact ⟨v, k⟩
/-- Blocks of other types stay. -/
theorem IsL.not (h : IsL w c s) {g : Nat} {A : Array Value} {t : TypeId} {f : Nat × Nat} (hb : w.heap[g]? = some (.cells A t f)) (h1 : t ≠ 33) (h2 : t ≠ 126) (h3 : t ≠ 116) (h4 : t ≠ 24) : ¬ Kl c w g := by
  obtain ⟨es, ck, hm⟩ := h.v.k.cl.isMap
  obtain ⟨es2, ck2, hm2⟩ := h.v.v.isMap
  obtain ⟨es3, ck3, hm3⟩ := h.t.isMap
  obtain ⟨B, hB⟩ := h.v.k.wt.isRow
  obtain ⟨v, hv⟩ := h.q.isBox
  rintro ⟨_, rfl | rfl | rfl | rfl | rfl | ⟨C, u, e, hu⟩⟩
  · rw [hB] at hb; cases hb; exact h1 rfl
  · rw [hm] at hb; cases hb
  · rw [hm2] at hb; cases hb
  · rw [hm3] at hb; cases hb
  · rw [hv] at hb; cases hb; exact h2 rfl
  · rw [e] at hb
    cases hb
    rcases hu with rfl | rfl
    · exact h3 rfl
    · exact h4 rfl
/-- What was taken up, wiped, and what waits, stays while an inode's pointers are gone through. -/
theorem IsL.through {sb : Nat} {a b : TS} (h : IsL w c s) (ht : TE w c sb a) (hc : Chg w w' (Kt c sb w)) (ht' : TE w' c sb b) : IsL w' c ⟨b.wt, b.cl, s.wp, s.tk, s.q⟩ := by
  obtain ⟨es, ck, hm⟩ := h.v.k.cl.isMap
  obtain ⟨es2, ck2, hm2⟩ := h.v.v.isMap
  obtain ⟨es3, ck3, hm3⟩ := h.t.isMap
  obtain ⟨B, hB⟩ := ht.k.wt.isRow
  obtain ⟨v, hv, _⟩ := ht.sp
  obtain ⟨u, hu⟩ := h.q.isBox
  have nm : ∀ {g : Nat} {es : _} {ck : _}, w.heap[g]? = some (.map es ck) → g ≠ c.b.cb → ¬ Kt c sb w g := by
    rintro g es ck hg hne ⟨_, rfl | e | rfl | ⟨A, e⟩⟩
    · rw [hB] at hg; cases hg
    · exact hne e
    · rw [hv] at hg; cases hg
    · rw [hg] at e; cases e
  refine ⟨⟨ht'.p, ht'.k, h.v.v.keep hc (nm hm2 (fun e => h.v.p.cv e.symm)), h.v.vk⟩, h.t.keep hc (nm hm3 (fun e => h.v.p.ct e.symm)), h.q.keep hc (ht.not hu (by decide) (by decide) (by decide)) (fun g A hg => ht.not hg (by decide) (by decide) (by decide)) (fun g A hg => ht.not hg (by decide) (by decide) (by decide))⟩
theorem kt_kl {sb : Nat} {w0 : World} (h : Chg w w' (Kt c sb w)) (h0 : Chg w0 w No) (hs : w0.heap.size ≤ sb) : Chg w0 w' (Kl c w0) :=
  h0.trans h (fun _ _ e => e.elim) (fun j hj e => by
    rcases e with ⟨hB, e | e | e | ⟨A, e⟩⟩
    · exact ⟨hB, .inl e⟩
    · exact ⟨hB, .inr (.inl e)⟩
    · omega
    · rw [h0.block j hj (fun e => e)] at e
      exact ⟨hB, .inr (.inr (.inr (.inr (.inr ⟨A, 116, e, .inl rfl⟩))))⟩)
end

/-- The queue alone has turned. -/
theorem IsL.queued {w w' : World} {c : LC} {s : LS} {q : List (List Int)} (h : IsL w c s) (hq : QAt w' c.B c.b.qb q) (hc : Chg w w' (Kq w c.B c.b.qb)) : IsL w' c { s with q := q } ∧ Chg w w' (Kl c w) := by
  obtain ⟨es, ck, hm⟩ := h.v.k.cl.isMap
  obtain ⟨es2, ck2, hm2⟩ := h.v.v.isMap
  obtain ⟨es3, ck3, hm3⟩ := h.t.isMap
  obtain ⟨B, hB⟩ := h.v.k.wt.isRow
  obtain ⟨u, hu⟩ := h.q.isBox
  have ne : ∀ {g : Nat} {x : Obj}, w.heap[g]? = some x → (∀ A, x ≠ .cells A 126 (0, 0)) → (∀ A, x ≠ .cells A 24 (0, 0)) → ¬ Kq w c.B c.b.qb g := by
    rintro g x hx n1 n2 (rfl | ⟨_, A, e⟩)
    · rw [hu] at hx; exact n1 _ (Option.some.inj hx).symm
    · rw [hx] at e; exact n2 A (Option.some.inj e)
  refine ⟨⟨⟨h.v.p.keep hc (ne h.v.p.me (by intro A e; cases e) (by intro A e; cases e)) (fun k hk => ?_), h.v.k.keep hc (ne hB (by intro A e; cases e) (by intro A e; cases e)) (ne hm (by intro A e; cases e) (by intro A e; cases e)), h.v.v.keep hc (ne hm2 (by intro A e; cases e) (by intro A e; cases e)), h.v.vk⟩, h.t.keep hc (ne hm3 (by intro A e; cases e) (by intro A e; cases e)), hq⟩, hc.mono fun j _ e => ?_⟩
  · rcases hk with rfl | hk
    · exact h.v.p.b4
    · exact hk.1
  · rcases e with rfl | ⟨e1, A, e2⟩
    · exact ⟨h.v.p.b4, .inr (.inr (.inr (.inr (.inl rfl))))⟩
    · exact ⟨e1, .inr (.inr (.inr (.inr (.inr ⟨A, 24, e2, .inr rfl⟩))))⟩
/-- What is wiped, and the image as it should be, have turned. -/
theorem IsL.wipes {w w' : World} {c : LC} {s : LS} {wt : Img} {cl wp : Int → Bool} (h : IsL w c s) (hv : IsV w' c wt cl wp) (hc : Chg w w' (fun k => k = c.b.wb ∨ k = c.b.vb)) : IsL w' c ⟨wt, cl, wp, s.tk, s.q⟩ ∧ Chg w w' (Kl c w) := by
  obtain ⟨es2, ck2, hm2⟩ := h.v.v.isMap
  obtain ⟨es3, ck3, hm3⟩ := h.t.isMap
  obtain ⟨B, hB⟩ := h.v.k.wt.isRow
  obtain ⟨u, hu⟩ := h.q.isBox
  have ne : ∀ {g : Nat} {A : Array Value} {t : TypeId} {f : Nat × Nat}, w.heap[g]? = some (.cells A t f) → t ≠ 33 → ¬ (g = c.b.wb ∨ g = c.b.vb) := by
    rintro g A t f hg ht (rfl | rfl)
    · rw [hB] at hg; cases hg; exact ht rfl
    · rw [hm2] at hg; cases hg
  refine ⟨⟨hv, h.t.keep hc ?_, h.q.keep hc (ne hu (by decide)) (fun g A hg => ne hg (by decide)) (fun g A hg => ne hg (by decide))⟩, hc.mono fun j _ e => ?_⟩
  · rintro (e | e)
    · rw [e, hB] at hm3; cases hm3
    · exact h.v.p.vt e.symm
  · rcases e with rfl | rfl
    · exact ⟨h.v.p.b0, .inl rfl⟩
    · exact ⟨h.v.p.b2, .inr (.inr (.inl rfl))⟩

/-- The blocks that were found are data. -/
def SpOk (N M : Int) (s : TS) : Prop := ∀ x ∈ s.sp, M < x.2 ∧ x.2 < N
theorem blockF_ok (N M cnt : Int) (s : TS) (i n : Int) (h : SpOk N M s) : SpOk N M (blockF N M cnt s i n).2 := by
  unfold blockF
  split
  · rename_i hc
    intro x hx
    rcases List.mem_append.1 hx with e | e
    · exact h x e
    · obtain rfl : x = (i, n) := by simpa using e
      simp [claimB, dataB] at hc
      exact hc.2.2
  · exact h
theorem goK_ok {N M : Int} {F : KeepF} (hF : ∀ s i n, SpOk N M s → SpOk N M (F s i n).2) (t : List Int) (s : TS) (h : SpOk N M s) : ∀ k, SpOk N M (goK F t s k).2
  | 0 => h
  | k + 1 => hF _ _ _ (goK_ok hF t s h k)
theorem tableF_ok {N M : Int} {F : KeepF} (cnt each : Int) (hF : ∀ s i n, SpOk N M s → SpOk N M (F s i n).2) (s : TS) (i n : Int) (h : SpOk N M s) : SpOk N M (tableF N M cnt each F s i n).2 := by
  unfold tableF
  split
  · unfold goF
    simp only
    have := goK_ok (F := innerF each i F) (fun s k p hs => hF s _ p hs) (ptrsTo (secI s.wt n) 32) ⟨s.wt, Go.Proofs.YtpmignilhoihnaaGreat.putC s.cl n, s.sp⟩ h 32
    split <;> exact this
  · exact h
theorem dblT_ok (N M : Int) (z : List Int) (wt : Img) (cl : Int → Bool) : SpOk N M (dblT N M z wt cl).2 :=
  tableF_ok _ _ (fun s i n h => tableF_ok _ _ (blockF_ok N M (cntZ z)) s i n h) _ _ _ (tableF_ok _ _ (blockF_ok N M (cntZ z)) _ _ _ (goK_ok (blockF_ok N M (cntZ z)) _ _ (fun x hx => by cases hx) 12))
theorem dirT_le (N M : Int) (z : List Int) (wt : Img) (cl : Int → Bool) (k : Nat) : (goK (blockF N M (cntZ z)) ((z.drop 4).take 12) ⟨wt, cl, []⟩ k).2.sp.length ≤ k := by
  have := goK_le (D := 1) (blockF_le N M (cntZ z)) ((z.drop 4).take 12) ⟨wt, cl, []⟩ k
  simp at this
  exact this
theorem sinT_le (N M : Int) (z : List Int) (wt : Img) (cl : Int → Bool) : (sinT N M z wt cl).2.sp.length ≤ 44 := by
  have h1 := dirT_le N M z wt cl 12
  have h2 := tableF_le (D := 1) N M (cntZ z) 1 (blockF_le N M (cntZ z)) (dirT N M z wt cl).2 12 (z.getD 16 0)
  unfold sinT singleF
  unfold dirT at h2 ⊢
  omega
theorem dblT_le (N M : Int) (z : List Int) (wt : Img) (cl : Int → Bool) : (dblT N M z wt cl).2.sp.length ≤ 1068 := by
  have h1 := sinT_le N M z wt cl
  have h2 := tableF_le (D := 32) N M (cntZ z) 32 (tableF_le (D := 1) N M (cntZ z) 1 (blockF_le N M (cntZ z))) (sinT N M z wt cl).2 44 (z.getD 17 0)
  unfold dblT doubleF singleF
  omega

end Go.Proofs.YtpmignilhoihnaaGreat

namespace Go.Proofs.YtpmignilhoihnaaGreat
open Go.RowKit Go.Shelf

/-- An inode with other direct pointers. -/
def setD (z d : List Int) : List Int := z.take 4 ++ d ++ z.drop 16
theorem setD_len {z d : List Int} (hz : z.length = 18) (hd : d.length = 12) : (setD z d).length = 18 := by simp [setD, hz, hd]
theorem setD_set {z d : List Int} (hz : z.length = 18) (hd : d.length = 12) (k : Nat) (hk : k < 12) (v : Int) : (setD z d).set (4 + k) v = setD z (d.set k v) := by
  unfold setD
  rw [List.append_assoc, List.append_assoc, List.set_append_right _ _ (by simp [hz]), List.set_append_left _ _ (by simp [hz, hd]; omega)]
  simp [hz]
theorem setD_self {z : List Int} (hz : z.length = 18) : setD z ((z.drop 4).take 12) = z := by
  unfold setD
  apply List.ext_getElem
  · simp [hz]
  · intro i h1 h2
    simp only [List.getElem_append, List.length_append, List.length_take, List.length_drop, hz]
    split
    · split
      · simp
      · rename_i h3 h4
        simp at h4
        simp
        congr 1
        omega
    · rename_i h3
      simp at h3
      simp
      congr 1
      omega
theorem setD_lo {z d : List Int} (hz : z.length = 18) (j : Nat) (hj : j < 4) : (setD z d).getD j 0 = z.getD j 0 := by
  unfold setD
  simp only [List.getD_eq_getElem?_getD]
  rw [List.append_assoc, List.getElem?_append_left (by simp [hz]; omega), List.getElem?_take, if_pos hj]
theorem setD_hi {z d : List Int} (hz : z.length = 18) (hd : d.length = 12) (j : Nat) (hj : 16 ≤ j) : (setD z d).getD j 0 = z.getD j 0 := by
  unfold setD
  simp only [List.getD_eq_getElem?_getD]
  rw [List.getElem?_append_right (by simp [hz, hd]; omega)]
  simp [hz, hd]
  congr 2
  omega
theorem szArr : (Tryz.prog.info? 49).map (·.size) = some 12 := by kernel_rfl
theorem undArr : Tryz.prog.underlying 49 = some (.array 12 3) := by kernel_rfl
theorem index_arr (x : List Int) (n : Nat) (hx : x.length = 12) (hn : n < 12) (w : World) : (Instr.index 49 (.agg (NA x)) (.int .i64 (n : Int))).run Tryz.prog w = .ok (.int .i64 (x.getD n 0)) w := by
  have hsz : (sizeOf 3).run Tryz.prog w = .ok 1 w := by kernel_rfl
  have hlt : (0 : Int) ≤ (n : Int) ∧ (n : Int) < ((12 : Nat) : Int) := by omega
  have hp := part_int x n (by omega) w
  simp only [Instr.index, asIntOf, Sem.run_bind, Sem.run_pure, Result.andThen_ok, run_underlying undArr, hlt, and_self, if_true, Sem.run_ite, hsz, Int.toNat_natCast, Nat.mul_one, hp]

theorem inoT_is {z d : List Int} (hz : z.length = 18) (hd : d.length = 12) (a b : Int) : ((setD (z.set 1 0) d).set 16 a).set 17 b = [z.getD 0 0, 0, z.getD 2 0, z.getD 3 0] ++ d ++ [a, b] := by
  obtain ⟨a0, a1, a2, a3, a4, a5, a6, a7, a8, a9, a10, a11, a12, a13, a14, a15, a16, a17, rfl⟩ := list18 hz
  have e : setD ([a0, a1, a2, a3, a4, a5, a6, a7, a8, a9, a10, a11, a12, a13, a14, a15, a16, a17].set 1 0) d = [a0, 0, a2, a3] ++ d ++ [a16, a17] := rfl
  rw [e, List.set_append_right _ _ (by simp [hd]), List.set_append_right _ _ (by simp [hd])]
  simp [hd]

end Go.Proofs.YtpmignilhoihnaaGreat
