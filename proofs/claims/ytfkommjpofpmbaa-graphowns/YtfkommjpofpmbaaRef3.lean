/-
  The document's graph: Add.
-/
import Derived.Test.YtfkommjpofpmbaaRef2
namespace Go.Proofs.Ytfkommjpofpmbaa
open Go.RowKit

variable {w : World} {r : Nat} {own : Nat → Prop} {E : Int → Int → Prop}

theorem ltE_trans {x y z : Int × Int} (h : ltE x y) (k : ltE y z) : ltE x z := by unfold ltE at *; omega
theorem ltE_or {x y : Int × Int} (h : ¬ (x.1 = y.1 ∧ x.2 = y.2)) (k : ¬ ltE y x) : ltE x y := by unfold ltE at *; omega
/-- An edge laid into a list, under way: the first k were looked at. -/
structure Ins (e : Int × Int) (l : List (Int × Int)) (k : Nat) (A B : List (Int × Int)) (d : Bool) : Prop where
  split : l.take k = A ++ B
  lo : ∀ x, x ∈ A → ltE x e
  hi : ∀ x, x ∈ B → ltE e x
  no : d = false → B = []
  yes : d = true → B ≠ []
/-- What is written by then. -/
def insL (e : Int × Int) (A B : List (Int × Int)) (d : Bool) : List (Int × Int) := A ++ (if d then [e] else []) ++ B
theorem Ins.start (e : Int × Int) (l : List (Int × Int)) : Ins e l 0 [] [] false := ⟨by simp, by simp, by simp, fun _ => rfl, fun e => by cases e⟩
theorem Ins.len {e : Int × Int} {l A B : List (Int × Int)} {k : Nat} {d : Bool} (h : Ins e l k A B d) : (insL e A B d).length ≤ l.length + 1 := by
  have h1 := congrArg List.length h.split
  rw [List.length_take, List.length_append] at h1
  unfold insL
  cases d <;> simp <;> omega
theorem take_ed {l : List (Int × Int)} {k : Nat} (hk : k < l.length) : l.take (k + 1) = l.take k ++ [edK l k] := by
  rw [List.take_succ_eq_append_getElem hk]; simp [edK, hk]
theorem Ins.more {e : Int × Int} {l A B : List (Int × Int)} {k : Nat} (h : Ins e l k A B true) (hl : l.Pairwise ltE) (hk : k < l.length) : Ins e l (k + 1) A (B ++ [edK l k]) true := by
  have hp : (l.take (k + 1)).Pairwise ltE := hl.sublist (List.take_sublist _ _)
  rw [take_ed hk, h.split, List.pairwise_append] at hp
  refine ⟨by rw [take_ed hk, h.split, List.append_assoc], h.lo, fun x hx => ?_, fun e => (by cases e), fun _ => by simp⟩
  rw [List.mem_append, List.mem_singleton] at hx
  rcases hx with hx | rfl
  · exact h.hi x hx
  · cases hB : B with
    | nil => exact absurd hB (h.yes rfl)
    | cons b t => exact ltE_trans (h.hi b (by rw [hB]; simp)) (hp.2.2 b (by rw [hB]; simp) _ (by simp))
theorem Ins.first {e : Int × Int} {l A B : List (Int × Int)} {k : Nat} (h : Ins e l k A B false) (hk : k < l.length) (hx : ltE e (edK l k)) : Ins e l (k + 1) A [edK l k] true := by
  have hB := h.no rfl
  subst hB
  have hs := h.split
  rw [List.append_nil] at hs
  exact ⟨by rw [take_ed hk, hs], h.lo, fun x k => by simp at k; subst k; exact hx, fun e => (by cases e), fun _ => by simp⟩
theorem Ins.less {e : Int × Int} {l A B : List (Int × Int)} {k : Nat} (h : Ins e l k A B false) (hk : k < l.length) (hx : ltE (edK l k) e) : Ins e l (k + 1) (A ++ [edK l k]) [] false := by
  have hB := h.no rfl
  subst hB
  have hs := h.split
  rw [List.append_nil] at hs
  refine ⟨by rw [take_ed hk, hs, List.append_nil], fun x k => ?_, by simp, fun _ => rfl, fun e => (by cases e)⟩
  rw [List.mem_append, List.mem_singleton] at k
  rcases k with k | rfl
  · exact h.lo x k
  · exact hx
theorem Ins.end_ {p q : Int} {l A B : List (Int × Int)} {d : Bool} (h : Ins (p, q) l l.length A B d) (hl : EList E l) : EList (addE E p q) (A ++ [(p, q)] ++ B) := by
  have hs := h.split
  rw [List.take_length] at hs
  have hp := hl.1
  rw [hs, List.pairwise_append] at hp
  refine ⟨?_, fun x => ?_⟩
  · rw [List.append_assoc, List.pairwise_append]
    refine ⟨hp.1, ?_, fun a ha b hb => ?_⟩
    · simp only [List.singleton_append, List.pairwise_cons]
      exact ⟨h.hi, hp.2.1⟩
    · simp only [List.singleton_append, List.mem_cons] at hb
      rcases hb with rfl | hb
      · exact h.lo a ha
      · exact hp.2.2 a ha b hb
  · have := hl.2 x
    rw [hs, List.mem_append] at this
    simp only [List.mem_append, List.mem_singleton, addE, ← this]
    constructor
    · rintro ((k | rfl) | k)
      · exact .inr (.inl k)
      · exact .inl ⟨rfl, rfl⟩
      · exact .inr (.inr k)
    · rintro (⟨k1, k2⟩ | k | k)
      · exact .inl (.inr (Prod.ext k1 k2))
      · exact .inl (.inl k)
      · exact .inr k

/-- An edge's cells. -/
def At2 (w : World) (g : Nat) (x : Int × Int) : Prop := w.cell? ⟨g, 0, none⟩ = some (.int .i64 x.1) ∧ w.cell? ⟨g, 1, none⟩ = some (.int .i64 x.2) ∧ g < w.heap.size
theorem At2.keep {w w' : World} {g : Nat} {x : Int × Int} {ks : Nat → Prop} (h : At2 w g x) (hc : Chg w w' ks) (hn : ¬ ks g) : At2 w' g x := ⟨cell_keep h.1 hc h.2.2 hn, cell_keep h.2.1 hc h.2.2 hn, Nat.lt_of_lt_of_le h.2.2 hc.size⟩
theorem At2.new (w : World) (x : Int × Int) : At2 (w.alloc (.cells #[.int .i64 x.1, .int .i64 x.2] 48)) w.heap.size x := ⟨by rw [cell_of_row _ _ _ _ _ _ (heap_alloc_new _ _)]; rfl, by rw [cell_of_row _ _ _ _ _ _ (heap_alloc_new _ _)]; rfl, by simp⟩

theorem radd_arg (p q : Int) (h : IsR w r own E) (hn : ¬ (Sec p ∧ Sec q)) : Calls Try.prog 22 #[.pointer (some ⟨r, 0, none⟩), .int .i64 p, .int .i64 q] w (RPost w r own (Added E p q)) := by
  have HS := fun w => risSector_any p w
  have HT := fun w => risSector_any q w
  have HH := hid h
  cases hq : isSec p with
  | false =>
    rw [hq] at HS
    clear h hq HT
    unfold RPost
    go_enter Try.func22, Try.ntmps22
    go_wp2_with (first
      | (go_at_call 34; go_must (refine (HS _).mono ?_; rintro e w1 ⟨rfl, rfl⟩))
      | go_in)
    go_ret
    exact ⟨1, E, own, rfl, .inl ⟨hn, rfl, rfl⟩, HH.out, fun _ k => .inl k, Chg.refl _ _⟩
  | true =>
    cases hr : isSec q with
    | false =>
      rw [hq] at HS
      rw [hr] at HT
      clear h hq hr
      unfold RPost
      go_enter Try.func22, Try.ntmps22
      go_wp2_with (first
        | (go_at_call 34; go_must (first | (refine (HS _).mono ?_; rintro e w1 ⟨rfl, rfl⟩; clear HS) | (refine (HT _).mono ?_; rintro e w1 ⟨rfl, rfl⟩; clear HT)))
        | go_in)
      go_ret
      exact ⟨1, E, own, rfl, .inl ⟨hn, rfl, rfl⟩, HH.out, fun _ k => .inl k, Chg.refl _ _⟩
    | true => exact absurd ⟨(isSec_iff p).1 hq, (isSec_iff q).1 hr⟩ hn

theorem radd_ring (p q : Int) (h : IsR w r own E) (hp : Sec p) (hq : Sec q) (hR : Reach E q p) : Calls Try.prog 22 #[.pointer (some ⟨r, 0, none⟩), .int .i64 p, .int .i64 q] w (RPost w r own (Added E p q)) := by
  have HS := fun w => risSector_any p w
  have HT := fun w => risSector_any q w
  rw [(isSec_iff p).2 hp] at HS
  rw [(isSec_iff q).2 hq] at HT
  have HH := hid h
  have HC := rreaches_any q p h
  clear h
  unfold RPost
  go_enter Try.func22, Try.ntmps22
  go_wp2_with (first
    | (go_at_call 34; go_must (first | (refine (HS _).mono ?_; rintro e w1 ⟨rfl, rfl⟩; clear HS) | (refine (HT _).mono ?_; rintro e w1 ⟨rfl, rfl⟩; clear HT)))
    | (go_at_call 23; go_must (refine HC.mono ?_; rintro e w2 ⟨b, rfl, hb, c2⟩; obtain rfl : b = true := hb.2 hR; clear hb))
    | go_in)
  go_ret
  exact ⟨30, E, own, rfl, .inr (.inl ⟨hp, hq, hR, rfl, rfl⟩), HH.out.call c2, fun _ k => .inl k, c2.mono (fun _ _ e => e.elim)⟩

end Go.Proofs.Ytfkommjpofpmbaa
