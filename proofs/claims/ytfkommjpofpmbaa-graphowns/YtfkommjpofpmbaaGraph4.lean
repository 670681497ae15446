/-
  Before: all that must land ahead of a sector, rising.
-/
import Derived.Test.YtfkommjpofpmbaaGraph3
import Derived.Test.YtfkommjpofpmbaaSorts
namespace Go.Proofs.Ytfkommjpofpmbaa
open Go.RowKit

variable {w : World} {E : Int → Int → Prop} {p : Nat} {own : Nat → Prop}

/-- All but n that reach n, rising, each once. -/
def BList (E : Int → Int → Prop) (n : Int) (l : List Int) : Prop := l.Pairwise (· < ·) ∧ ∀ x, x ∈ l ↔ x ≠ n ∧ Reach E x n
/-- All edges, by rising Pre, then Post, each once. -/
def EList (E : Int → Int → Prop) (l : List (Int × Int)) : Prop := l.Pairwise ltE ∧ ∀ x, x ∈ l ↔ E x.1 x.2

set_option maxRecDepth 100000 in
set_option maxHeartbeats 2000000 in
theorem before_any (n : Int) (h : IsG w p own E) (hI : I64 n) : Calls Try.prog 8 #[.pointer (some ⟨p, 0, none⟩), .int .i64 n] w fun e w' =>
    ∃ v l, e = .returned v ∧ Ints w' w.heap.size v l ∧ BList E n l ∧ Chg w w' No := by
  have hsec := h.sec
  obtain ⟨bp, bq, f, g, h, _⟩ := h
  have k1 := h.c1
  have HC := from_any n h.pr (fun a b e => (h.sec b a e).symm) hI
  clear h
  generalize hS : Reach (rev E) n = S at HC
  go_enter Try.func8, Try.ntmps8
  go_wp2_with (first
    | (go_at_call 26; go_must (refine HC.mono ?_; rintro e w1 ⟨bs, rfl, hbs, hS1, hc1⟩))
    | (at_range; go_must (refine wp_rangeS rfl _ rfl (some bs) S rfl (fun d e => by cases e; exact hS1) (fun e => by cases e) ?_; intro w2 cnt0 hr0 hc0 hz0))
    | go_in)
  go_frame
  have hlt1 := hS1.lt
  have hsz1 := hc1.size
  have HZ := hid hz0
  clear hz0
  generalize hrr : w1.heap.size = r at *
  go_loopw [5] (fun v wr => ∃ (left : Int → Prop) (cnt : Nat) (l : List Int) (wq : World), wq = wr ∧ RangeS wq (some bs) r S left cnt ∧ Ints wq (r + 1) v l ∧ Chg w wq No ∧ l.Pairwise (· ≠ ·) ∧ ∀ x, x ∈ l ↔ S x ∧ ¬ left x ∧ x ≠ n) (fun _ wr => leftN wr (some bs) r)
  case atStart =>
    refine ⟨S, cnt0, [], _, rfl, hr0, World.ownsRow_nil _ _ _ _, hc1.trans hc0 (fun _ _ e => e) (fun _ _ e => e), List.Pairwise.nil, fun x => ?_⟩
    simp
    exact fun a b => absurd a b
  case round =>
    obtain ⟨left, cnt, l, wA, rfl, hr, hrow, hW, hnd, hmem⟩ := hrel
    have hlen : l.length ≤ 4097 := by
      obtain ⟨L, hL, hm⟩ := few_sec.one n
      refine Nat.le_trans (nodup_len l L hnd fun x hx => hm x ?_) hL
      have := ((hmem x).1 hx).1
      rw [← hS] at this
      rcases this with e | e
      · exact .inl e.symm
      · exact .inr (e.of_rev.sec hsec).1
    go_wp2_with (first
      | (at_next; go_must (refine wp_nextS rfl _ rfl (some bs) r S left cnt rfl hr ?_ ?_))
      | fail)
    · intro hl
      have HS := sort_ints _ _ _ _ hrow (by omega)
      have HR := hid (And.intro hr hrow)
      clear hr hrow
      go_wp2_with (first
        | (go_at_call 27; go_must (refine HS.mono ?_; rintro e w3 ⟨rfl, hrow3, hc3⟩))
        | go_in)
      go_ret
      refine ⟨_, sortI l, rfl, row_base hrow3 (by omega), ⟨sortI_up l hnd, fun x => ?_⟩, hW.trans hc3 (fun _ _ e => e) (fun j hj e => ?_)⟩
      · rw [sortI_mem, hmem, ← hS, Reach.rev_iff]
        exact ⟨fun e => ⟨e.2.2, e.1⟩, fun e => ⟨e.2, hl x, e.1⟩⟩
      · have := (row_ge HR.out.2 e).1
        omega
    · intro x w3 cnt3 hl hx hIx hr3 hlt hc3 hz3 hen
      have hA := hr.lt
      have hsz3 : r + 1 ≤ w3.heap.size := by omega
      have hnr : ∀ j, Value.ownBlock _ = some j → ¬ j = r := fun j hj e => by
        have := (row_ge hrow hj).1
        omega
      have hrow3 := row_keep hrow hc3 hnr
      have hrow4 := row_keep hrow3 (Chg.alloc w3 (.cells #[.int .i64 x] 3) No) (fun _ _ e => e)
      have hcell := cell0 (heap_alloc_new w3 (.cells #[.int .i64 x] 3))
      have hW3 : Chg w w3 No := hW.trans hc3 (fun _ _ e => e) (fun j hj e => by omega)
      have HR := hid (And.intro hr3 (And.intro hlt (And.intro hr hrow)))
      clear hz3 hr3 hlt hr hrow
      by_cases hxn : x = n
      · subst hxn
        go_wp2_with fail
        obtain ⟨hr3, hlt, hr, hrow⟩ := HR.out
        go_roundw
        case rel =>
          refine ⟨_, cnt3, l, _, rfl, hr3, hrow3, hW3, hnd, fun y => ?_⟩
          rw [hmem]
          constructor
          · exact fun e => ⟨e.1, fun k => e.2.1 k.1, e.2.2⟩
          · exact fun e => ⟨e.1, fun k => e.2.1 ⟨k, e.2.2⟩, e.2.2⟩
        case measure => rw [hr3.leftN, hr.leftN]; exact hlt
      · go_wp2_with (first
          | (at_builtin; go_must (refine wp_appI rfl _ _ rfl (r + 1) w3.heap.size 1 _ l x rfl rfl hrow4 hcell (by omega) (by simp; omega) ?_; intro v5 w5 h51 h52 h53))
          | go_in)
        obtain ⟨hr3, hlt, hr, hrow⟩ := HR.out
        have hc5 : Chg w3 w5 (fun k => r + 1 ≤ k) := (Chg.alloc w3 (.cells #[.int .i64 x] 3) No).trans h52 (fun _ _ e => e.elim) (fun j _ e => (row_ge hrow4 e).1)
        have hr5 := hr3.keep hc5 (fun d e => by cases e; omega) (by omega)
        go_roundw
        case rel =>
          refine ⟨_, cnt3, l ++ [x], _, rfl, hr5, h51, hW3.trans hc5 (fun _ _ e => e) (fun j hj e => by omega), ?_, fun y => ?_⟩
          · rw [List.pairwise_append]
            refine ⟨hnd, by simp, fun a ha b hb => ?_⟩
            simp at hb
            subst hb
            intro e
            subst e
            exact ((hmem a).1 ha).2.1 hl
          · rw [List.mem_append, hmem]
            simp
            constructor
            · rintro (e | rfl)
              · exact ⟨e.1, fun k => absurd k e.2.1, e.2.2⟩
              · exact ⟨hx, fun _ => rfl, hxn⟩
            · rintro ⟨e1, e2, e3⟩
              by_cases k : left y
              · exact .inr (e2 k)
              · exact .inl ⟨e1, k, e3⟩
        case measure => rw [hr5.leftN, hr.leftN]; exact hlt

end Go.Proofs.Ytfkommjpofpmbaa
