/-
  What CacheReads asks, without a program: what is read, flushed one by one, an image of what was put last.
-/
import Derived.Test.YtgkanfmkohlmcaaGreatCOnce
import Derived.Test.YtgkanfmkohlmcaaGreatCRead
import Derived.Test.YtgkanfmkohlmcaaGreatCLawF
namespace Go.Proofs.YtgkanfmkohlmcaaGreat
open Go.RowKit

variable {n : Nat} {z : CSt} {L : Int → Int} {nx : Int} {od : List (Int × Int × Int × Int)}

/-- What is read is what was put last. -/
theorem reads_last (h : Core n z L nx od) {i : Nat} (hi : i < n) : readC z i = verL (L i) ∧ 0 ≤ L i ∧ L i < 16777216 ∧ (¬ z.dirty i → D.secK z.d.S i = verL (L i)) := by
  obtain ⟨v, v0, v1, v2, v3⟩ := h.dk i hi
  have hb := h.nb
  unfold readC
  cases hd : z.P i with
  | none =>
    have hnd : ¬ z.dirty i := fun k => by
      have : (z.P i).isSome = true := k
      rw [hd] at this
      cases this
    have e := v3 hnd
    simp only [Int.toNat_natCast]
    rw [v2, e]
    exact ⟨rfl, v0, by omega, fun _ => rfl⟩
  | some q =>
    obtain ⟨q1, q2, q3, q4⟩ := h.cn i q hd
    simp only
    exact ⟨q1, q2, by omega, fun k => absurd (show (z.P i).isSome = true by rw [hd]; rfl) k⟩
/-- A cache with nothing dirty: the disk has what was put last. -/
theorem clean_last (h : Core n z L nx od) (hc : ∀ x, ¬ z.dirty x) {i : Nat} (hi : i < n) : D.secK z.d.S i = verL (L i) ∧ 0 ≤ L i ∧ L i < 16777216 :=
  ⟨(reads_last h hi).2.2.2 (hc i), (reads_last h hi).2.1, (reads_last h hi).2.2.1⟩
theorem secs_ne {p : Int → Prop} (h : ¬ (secs p).length = 0) : ∃ x, Sec x ∧ p x := by
  cases he : secs p with
  | nil => rw [he] at h; exact absurd rfl h
  | cons x r =>
    have : x ∈ secs p := by rw [he]; simp
    exact ⟨x, secs_mem.1 this⟩
/-- Where one is dirty, one may land. -/
theorem elig_some (hi : CInv n z) (h : ¬ (secs z.dirty).length = 0) : ¬ (secs fun x => z.dirty x ∧ FreeE z.E x).length = 0 := by
  have hne : secs z.dirty ≠ [] := fun e => h (by rw [e]; rfl)
  obtain ⟨x, hx, hf⟩ := free_in hi hne fun a b he _ => secs_mem.2 ⟨hi.sec (hi.ed a b he).1, (hi.ed a b he).1⟩
  have hm : x ∈ secs fun x => z.dirty x ∧ FreeE z.E x := secs_mem.2 ⟨(secs_mem.1 hx).1, (secs_mem.1 hx).2, hf⟩
  intro e
  rw [List.length_eq_zero_iff.1 e] at hm
  cases hm
/-- One that may land is flushed: one write, one dirty sector less. -/
theorem flush_one (h : Core n z L nx od) (ha : Alive z) (hc : Calm z) {x : Int} (hx : z.dirty x) (hf : FreeE z.E x) :
    (flushC n z x).2.1 = true ∧ (flushC n z x).2.2 = 0 ∧ Core n (flushC n z x).1 L nx od ∧ Alive (flushC n z x).1 ∧ Calm (flushC n z x).1 ∧ (flushC n z x).1.d.wr = z.d.wr + 1 ∧ (secs (flushC n z x).1.dirty).length + 1 = (secs z.dirty).length := by
  have hok := h.inv.ok x hx
  have hr : refC n z [x] = 0 := refC_alive ha (by simpa using hok)
  have e : flushC n z x = ((wrC n z x).1, decide ((wrC n z x).2 = 0), (wrC n z x).2) := by unfold flushC; rw [if_pos hr, if_pos ⟨hx, hf⟩]
  have hca := wrC_calm (n := n) hc x
  have h0 : (wrC n z x).2 = 0 ∧ Alive (wrC n z x).1 := by
    rcases wrC_went h.inv ha hx with k | k
    · exact k
    · have := k.2
      rw [hca.2] at this
      cases this
  rw [e]
  refine ⟨by simp [h0.1], h0.1, h.wr hx hf, h0.2, hca, wrC_one h.inv hx h0.1, ?_⟩
  have := secs_rest (p := z.dirty) (q := (wrC n z x).1.dirty) (l := [x]) (by simp) (fun y hy => by
    rw [List.mem_singleton.1 hy]
    exact ⟨h.inv.sec hx, hx⟩) (fun y => by
    obtain ⟨q, hq, _, e2⟩ := wrC_zero h0.1 hx hok
    rw [e2]
    unfold forC CSt.dirty
    by_cases hy : y = x
    · simp [hy]
    · simp [hy])
  simpa using this

end Go.Proofs.YtgkanfmkohlmcaaGreat
