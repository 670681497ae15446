/-
  Edges: all edges, in their order.
-/
import Derived.Test.YtgkanfmkohlmcaaGreatGraph4
import Derived.Test.YtgkanfmkohlmcaaGreatGMap2
namespace Go.Proofs.YtgkanfmkohlmcaaGreat
open Go.RowKit

variable {w : World} {E : Int → Int → Prop} {p : Nat} {own : Nat → Prop}

theorem edges_len (l : List (Int × Int)) (h : l.Pairwise (· ≠ ·)) (hs : ∀ x, x ∈ l → Sec x.1 ∧ Sec x.2) : l.length ≤ 16777216 := by
  have h1 := nodup_len (l.map fun x => x.1 * 4096 + x.2) ((List.range 16777216).map Int.ofNat) ?_ ?_
  · simpa using h1
  · rw [List.pairwise_map]
    refine List.Pairwise.imp_of_mem ?_ h
    intro a b ha hb hne e
    obtain ⟨⟨_, _⟩, _, _⟩ := hs a ha
    obtain ⟨⟨_, _⟩, _, _⟩ := hs b hb
    exact hne (Prod.ext (by omega) (by omega))
  · intro x hx
    obtain ⟨y, hy, rfl⟩ := List.mem_map.1 hx
    obtain ⟨⟨_, _⟩, _, _⟩ := hs y hy
    exact List.mem_map.2 ⟨(y.1 * 4096 + y.2).toNat, by rw [List.mem_range]; omega, by simp; omega⟩

set_option maxRecDepth 100000 in
set_option maxHeartbeats 2000000 in
theorem edgesG_any (h : IsG w p own E) : Calls Tryz.prog 47 #[.pointer (some ⟨p, 0, none⟩)] w fun e w' =>
    ∃ v l, e = .returned v ∧ Edgs w' w.heap.size v l ∧ EList E l ∧ Chg w w' No := by
  have hsec := h.sec
  obtain ⟨bp, bq, f, g, h, _⟩ := h
  have k0 := h.c0
  have HM := h.po.map
  have HP := hid h.po
  have hbp := h.po.map.lt
  clear h
  go_enter Tryz.func47, Tryz.ntmps47
  go_wp2_with (first
    | (at_range; go_must (refine wp_rangeM rfl _ rfl bp f rfl HM ?_; intro w2 cnt0 hr0 hc0 hz0))
    | go_in)
  go_frame
  have HZ := hid hz0
  clear hz0
  generalize hrr : w.heap.size = r at *
  go_loopw [3] (fun v wr => ∃ (left : Int → Prop) (cnt : Nat) (l : List (Int × Int)) (wq : World), wq = wr ∧ RangeM wq bp r f left cnt ∧ Edgs wq (r + 1) v l ∧ Chg w wq No ∧ l.Pairwise (· ≠ ·) ∧ ∀ x, x ∈ l ↔ E x.1 x.2 ∧ ¬ left x.1) (fun _ wr => wr.rangeLeft bp r)
  case atStart =>
    refine ⟨_, cnt0, [], _, rfl, hr0, World.ownsRow_nil _ _ _ _, hc0, List.Pairwise.nil, fun x => ?_⟩
    simp
    exact fun e k => HP.out.none k x.2 e
  case round =>
    obtain ⟨left, cnt, l, wA, rfl, hr, hrow, hW, hnd, hmem⟩ := hrel
    have hlen : l.length ≤ 16777216 := edges_len l hnd fun x hx => hsec _ _ ((hmem x).1 hx).1
    go_wp2_with (first
      | (at_next; go_must (refine wp_nextM rfl _ rfl bp r f left cnt rfl hr ?_ ?_))
      | fail)
    · intro hl
      have HS := sort_edges _ _ _ _ hrow (by omega)
      have HR := hid (And.intro hr hrow)
      clear hr hrow
      go_wp2_with (first
        | (go_at_call 71; go_must (refine HS.mono ?_; rintro e w3 ⟨rfl, hrow3, hc3⟩))
        | go_in)
      go_ret
      refine ⟨_, sortE l, rfl, row_base hrow3 (by omega), ⟨sortE_up l hnd, fun x => ?_⟩, hW.trans hc3 (fun _ _ e => e) (fun j hj e => ?_)⟩
      · rw [sortE_mem, hmem]
        exact ⟨fun e => e.1, fun e => ⟨e, hl x.1⟩⟩
      · have := (row_ge HR.out.2 e).1
        omega
    · intro x d w3 cnt3 hl hfx hIx hr3 hlt hc3 hz3 hen
      have hA : r < wA.heap.size := by obtain ⟨_, _, _, _, e⟩ := hr.iter; exact slt e
      have hnr : ∀ j, Value.ownBlock _ = some j → ¬ j = r := fun j hj e => by
        have := (row_ge hrow hj).1
        omega
      have hrow3 := row_keep hrow hc3 hnr
      have hW3 : Chg w w3 No := hW.trans hc3 (fun _ _ e => e) (fun j hj e => by omega)
      have hSx : SetAt w3 d (E x) := (HP.out.sets x d hfx).keep hW3 (fun e => e)
      generalize hEx : E x = Ex at hSx
      have HR := hid (And.intro hr3 (And.intro hlt (And.intro hr hrow)))
      clear hz3 hr3 hlt hr hrow
      go_wp2_with (first
        | (at_range; go_must (refine wp_rangeS rfl _ rfl (some d) Ex rfl (fun e k => by cases k; exact hSx) (fun e => by cases e) ?_; intro w4 cnt4 hr4 hc4 hz4))
        | go_in)
      go_frame
      obtain ⟨hr3, hlt, hr, hrow⟩ := HR.out
      have hrM4 := hr3.keep hc4 (fun e => e) (fun e => e)
      have hrow4 := row_keep hrow3 hc4 (fun _ _ e => e)
      have hW4 := hW3.trans hc4 (c := No) (fun _ _ e => e) (fun _ _ e => e)
      have hS3 := hc3.size
      clear hz4 hr3 hr hrow
      generalize hrr2 : w3.heap.size = r2 at *
      go_loopw [3] (fun v wr => ∃ (left2 : Int → Prop) (cnt2 : Nat) (l2 : List (Int × Int)) (wq : World), wq = wr ∧ RangeS wq (some d) r2 Ex left2 cnt2 ∧ RangeM wq bp r f (fun y => left y ∧ y ≠ x) cnt3 ∧ Edgs wq (r + 1) v l2 ∧ Chg w wq No ∧ l2.Pairwise (· ≠ ·) ∧ ∀ y, y ∈ l2 ↔ E y.1 y.2 ∧ (¬ left y.1 ∨ (y.1 = x ∧ ¬ left2 y.2))) (fun _ wr => leftN wr (some d) r2)
      case atStart =>
        refine ⟨_, cnt4, l, _, rfl, hr4, hrM4, hrow4, hW4, hnd, fun y => ?_⟩
        rw [hmem]
        constructor
        · exact fun e => ⟨e.1, .inl e.2⟩
        · rintro ⟨e, k | ⟨k1, k2⟩⟩
          · exact ⟨e, k⟩
          · rw [← hEx, ← k1] at k2
            exact absurd e k2
      case round =>
        obtain ⟨left2, cnt2, l2, wB, rfl, hq, hqM, hqrow, hqW, hqnd, hqmem⟩ := hrel
        have hqlen : l2.length ≤ 16777216 := edges_len l2 hqnd fun x hx => hsec _ _ ((hqmem x).1 hx).1
        go_wp2_with (first
          | (at_next; go_must (refine wp_nextS rfl _ rfl (some d) r2 Ex left2 cnt2 rfl hq ?_ ?_))
          | fail)
        · intro hl2
          have HQ := hid (And.intro hq (And.intro hqM hqrow))
          clear hq hqM hqrow
          go_wp2_with fail
          obtain ⟨hq, hqM, hqrow⟩ := HQ.out
          go_roundw
          case rel =>
            refine ⟨_, cnt3, l2, _, rfl, hqM, hqrow, hqW, hqnd, fun y => ?_⟩
            rw [hqmem]
            constructor
            · rintro ⟨e, k | ⟨k, _⟩⟩
              · exact ⟨e, fun j => k j.1⟩
              · exact ⟨e, fun j => j.2 k⟩
            · rintro ⟨e, k⟩
              by_cases ey : y.1 = x
              · exact ⟨e, .inr ⟨ey, hl2 _⟩⟩
              · exact ⟨e, .inl fun j => k ⟨j, ey⟩⟩
          case measure => rw [hqM.leftN, HR.out.2.2.1.leftN]; exact hlt
        · intro z w5 cnt5 hlz hz hIz hq5 hlt5 hc5 hz5 hen5
          have hnr2 : ∀ j, Value.ownBlock _ = some j → ¬ j = r2 := fun j hj e => by
            obtain ⟨cur, k1⟩ := row_kind hqrow hj
            obtain ⟨_, _, _, _, k2⟩ := hq.iter
            rw [e, k2] at k1
            cases k1
          have hrow5 := row_keep hqrow hc5 hnr2
          have hrowA := row_keep hrow5 (Chg.alloc w5 (.cells #[.int .i64 x, .int .i64 z] 90) No) (fun _ _ e => e)
          have hca : (w5.alloc (.cells #[.int .i64 x, .int .i64 z] 90)).cell? ⟨w5.heap.size, 0, none⟩ = some (.int .i64 x) := by rw [cell_of_row _ _ _ _ _ _ (heap_alloc_new _ _)]; rfl
          have hcb : (w5.alloc (.cells #[.int .i64 x, .int .i64 z] 90)).cell? ⟨w5.heap.size, 1, none⟩ = some (.int .i64 z) := by rw [cell_of_row _ _ _ _ _ _ (heap_alloc_new _ _)]; rfl
          have hW5 : Chg w w5 No := hqW.trans hc5 (fun _ _ e => e) (fun j hj e => by omega)
          have hsz5 : r + 1 ≤ w5.heap.size := by have := hq5.lt; omega
          have hqM5 := hqM.keep hc5 (by omega) (by omega)
          have HQ := hid (And.intro hq5 (And.intro hlt5 (And.intro hq (And.intro hqM5 hqrow))))
          clear hz5 hq5 hlt5 hq hqM hqM5 hqrow
          go_wp2_with (first
            | (at_builtin; go_must (refine wp_appE rfl _ _ rfl (r + 1) w5.heap.size 1 _ l2 (x, z) rfl rfl hrowA hca hcb (by omega) (by simp; omega) ?_; intro v6 w6 h61 h62 h63))
            | go_in)
          obtain ⟨hq5, hlt5, hq, hqM5, hqrow⟩ := HQ.out
          have hc6 : Chg w5 w6 (fun k => Value.ownBlock _ = some k) := (Chg.alloc w5 (.cells #[.int .i64 x, .int .i64 z] 90) No).trans h62 (fun _ _ e => e.elim) (fun j _ e => e)
          have hnit : ∀ j, (∃ a b c e, w5.heap[j]? = some (.mapIter a b c e)) → ¬ Value.ownBlock _ = some j := fun j hj e => by
            obtain ⟨cur, k1⟩ := row_kind hrow5 e
            obtain ⟨_, _, _, _, k2⟩ := hj
            rw [k2] at k1
            cases k1
          have hnmp : ∀ j, (∃ a b, w5.heap[j]? = some (.map a b)) → ¬ Value.ownBlock _ = some j := fun j hj e => by
            obtain ⟨cur, k1⟩ := row_kind hrow5 e
            obtain ⟨_, _, k2⟩ := hj
            rw [k2] at k1
            cases k1
          have hq6 := hq5.keep hc6 (fun e k => by cases k; exact hnmp d ((HP.out.sets x d hfx).keep hW5 (fun e => e)).isMap) (hnit r2 hq5.iter)
          have hqM6 := hqM5.keep hc6 (hnmp bp (HM.keep hW5 (fun e => e)).isMap) (hnit r hqM5.iter)
          have hEz : E x z := by rw [hEx]; exact hz
          go_roundw
          case rel =>
            refine ⟨_, cnt5, l2 ++ [(x, z)], _, rfl, hq6, hqM6, h61, hW5.trans hc6 (fun _ _ e => e) (fun j hj e => by have := (row_ge hrow5 e).1; omega), ?_, fun y => ?_⟩
            · rw [List.pairwise_append]
              refine ⟨hqnd, by simp, fun a ha b hb => ?_⟩
              simp at hb
              subst hb
              intro e
              subst e
              rcases ((hqmem _).1 ha).2 with k | ⟨_, k⟩
              · exact k hl
              · exact k hlz
            · rw [List.mem_append, hqmem, List.mem_singleton]
              constructor
              · rintro (⟨e, k | ⟨k1, k2⟩⟩ | rfl)
                · exact ⟨e, .inl k⟩
                · exact ⟨e, .inr ⟨k1, fun j => k2 j.1⟩⟩
                · exact ⟨hEz, .inr ⟨rfl, fun j => j.2 rfl⟩⟩
              · rintro ⟨e, k | ⟨k1, k2⟩⟩
                · exact .inl ⟨e, .inl k⟩
                · by_cases ez : y.2 = z
                  · exact .inr (Prod.ext k1 ez)
                  · exact .inl ⟨e, .inr ⟨k1, fun j => k2 ⟨j, ez⟩⟩⟩
          case measure => rw [hq6.leftN, hq.leftN]; exact hlt5

end Go.Proofs.YtgkanfmkohlmcaaGreat
