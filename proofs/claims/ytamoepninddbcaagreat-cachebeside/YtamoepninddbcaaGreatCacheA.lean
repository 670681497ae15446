/-
  The calls of package cache: New, Drain, Drop, Sync, Edges, Flush.
-/
import Derived.Test.YtamoepninddbcaaGreatCache8
import Derived.Shelf.AbstractIn
namespace Go.Proofs.YtamoepninddbcaaGreat
open Go.RowKit

variable {w : World} {E : Int → Int → Prop} {p : Nat} {own : Nat → Prop}

theorem edges_len (l : List (Int × Int)) (h : l.Pairwise (· ≠ ·)) (hs : ∀ x, x ∈ l → Sec x.1 ∧ Sec x.2) : l.length ≤ 16777216 := by
  have h1 := nodup_len (l.map fun x => x.1 * 4096 + x.2) ((List.range 16777216).map Int.ofNat) ?_ ?_
  · simpa using h1
  · rw [List.pairwise_map]
    refine List.Pairwise.imp_of_mem ?_ h
    intro a b ha hb hne e
    obtain ⟨⟨_, _⟩, _, _⟩ := hs a ha
    obtain ⟨⟨_, _⟩, _, _⟩ := hs b hb
    exact hne (Prod.ext (by omega) (by omega))
  · intro x hx
    obtain ⟨y, hy, rfl⟩ := List.mem_map.1 hx
    obtain ⟨⟨_, _⟩, _, _⟩ := hs y hy
    exact List.mem_map.2 ⟨(y.1 * 4096 + y.2).toNat, by rw [List.mem_range]; omega, by simp; omega⟩

set_option maxRecDepth 100000 in
set_option maxHeartbeats 2000000 in
theorem edgesG_any (h : IsG w p own E) : Calls Tryz.prog 68 #[.pointer (some ⟨p, 0, none⟩)] w fun e w' =>
    ∃ v l, e = .returned v ∧ Edgs w' w.heap.size v l ∧ EList E l ∧ Chg w w' No := by
  have hsec := h.sec
  obtain ⟨bp, bq, f, g, h, _⟩ := h
  have k0 := h.c0
  have HM := h.po.map
  have HP := hid h.po
  have hbp := h.po.map.lt
  clear h
  go_enter Tryz.func68, Tryz.ntmps68
  go_wp2_with (first
    | (at_range; go_must (refine wp_rangeM rfl _ rfl bp f rfl HM ?_; intro w2 cnt0 hr0 hc0 hz0))
    | go_in)
  go_frame
  have HZ := hid hz0
  clear hz0
  generalize hrr : w.heap.size = r at *
  go_loopw [3] (fun v wr => ∃ (left : Int → Prop) (cnt : Nat) (l : List (Int × Int)) (wq : World), wq = wr ∧ RangeM wq bp r f left cnt ∧ Edgs wq (r + 1) v l ∧ Chg w wq No ∧ l.Pairwise (· ≠ ·) ∧ ∀ x, x ∈ l ↔ E x.1 x.2 ∧ ¬ left x.1) (fun _ wr => wr.rangeLeft bp r)
  case atStart =>
    refine ⟨_, cnt0, [], _, rfl, hr0, World.ownsRow_nil _ _ _ _, hc0, List.Pairwise.nil, fun x => ?_⟩
    simp
    exact fun e k => HP.out.none k x.2 e
  case round =>
    obtain ⟨left, cnt, l, wA, rfl, hr, hrow, hW, hnd, hmem⟩ := hrel
    have hlen : l.length ≤ 16777216 := edges_len l hnd fun x hx => hsec _ _ ((hmem x).1 hx).1
    go_wp2_with (first
      | (at_next; go_must (refine wp_nextM rfl _ rfl bp r f left cnt rfl hr ?_ ?_))
      | fail)
    · intro hl
      have HS := sort_edges _ _ _ _ hrow (by omega)
      have HR := hid (And.intro hr hrow)
      clear hr hrow
      go_wp2_with (first
        | (go_at_call 99; go_must (refine HS.mono ?_; rintro e w3 ⟨rfl, hrow3, hc3⟩))
        | go_in)
      go_ret
      refine ⟨_, sortE l, rfl, row_base hrow3 (by omega), ⟨sortE_up l hnd, fun x => ?_⟩, hW.trans hc3 (fun _ _ e => e) (fun j hj e => ?_)⟩
      · rw [sortE_mem, hmem]
        exact ⟨fun e => e.1, fun e => ⟨e, hl x.1⟩⟩
      · have := (row_ge HR.out.2 e).1
        omega
    · intro x d w3 cnt3 hl hfx hIx hr3 hlt hc3 hz3 hen
      have hA : r < wA.heap.size := by obtain ⟨_, _, _, _, e⟩ := hr.iter; exact slt e
      have hnr : ∀ j, Value.ownBlock _ = some j → ¬ j = r := fun j hj e => by
        have := (row_ge hrow hj).1
        omega
      have hrow3 := row_keep hrow hc3 hnr
      have hW3 : Chg w w3 No := hW.trans hc3 (fun _ _ e => e) (fun j hj e => by omega)
      have hSx : SetAt w3 d (E x) := (HP.out.sets x d hfx).keep hW3 (fun e => e)
      generalize hEx : E x = Ex at hSx
      have HR := hid (And.intro hr3 (And.intro hlt (And.intro hr hrow)))
      clear hz3 hr3 hlt hr hrow
      go_wp2_with (first
        | (at_range; go_must (refine wp_rangeS rfl _ rfl (some d) Ex rfl (fun e k => by cases k; exact hSx) (fun e => by cases e) ?_; intro w4 cnt4 hr4 hc4 hz4))
        | go_in)
      go_frame
      obtain ⟨hr3, hlt, hr, hrow⟩ := HR.out
      have hrM4 := hr3.keep hc4 (fun e => e) (fun e => e)
      have hrow4 := row_keep hrow3 hc4 (fun _ _ e => e)
      have hW4 := hW3.trans hc4 (c := No) (fun _ _ e => e) (fun _ _ e => e)
      have hS3 := hc3.size
      clear hz4 hr3 hr hrow
      generalize hrr2 : w3.heap.size = r2 at *
      go_loopw [3] (fun v wr => ∃ (left2 : Int → Prop) (cnt2 : Nat) (l2 : List (Int × Int)) (wq : World), wq = wr ∧ RangeS wq (some d) r2 Ex left2 cnt2 ∧ RangeM wq bp r f (fun y => left y ∧ y ≠ x) cnt3 ∧ Edgs wq (r + 1) v l2 ∧ Chg w wq No ∧ l2.Pairwise (· ≠ ·) ∧ ∀ y, y ∈ l2 ↔ E y.1 y.2 ∧ (¬ left y.1 ∨ (y.1 = x ∧ ¬ left2 y.2))) (fun _ wr => leftN wr (some d) r2)
      case atStart =>
        refine ⟨_, cnt4, l, _, rfl, hr4, hrM4, hrow4, hW4, hnd, fun y => ?_⟩
        rw [hmem]
        constructor
        · exact fun e => ⟨e.1, .inl e.2⟩
        · rintro ⟨e, k | ⟨k1, k2⟩⟩
          · exact ⟨e, k⟩
          · rw [← hEx, ← k1] at k2
            exact absurd e k2
      case round =>
        obtain ⟨left2, cnt2, l2, wB, rfl, hq, hqM, hqrow, hqW, hqnd, hqmem⟩ := hrel
        have hqlen : l2.length ≤ 16777216 := edges_len l2 hqnd fun x hx => hsec _ _ ((hqmem x).1 hx).1
        go_wp2_with (first
          | (at_next; go_must (refine wp_nextS rfl _ rfl (some d) r2 Ex left2 cnt2 rfl hq ?_ ?_))
          | fail)
        · intro hl2
          have HQ := hid (And.intro hq (And.intro hqM hqrow))
          clear hq hqM hqrow
          go_wp2_with fail
          obtain ⟨hq, hqM, hqrow⟩ := HQ.out
          go_roundw
          case rel =>
            refine ⟨_, cnt3, l2, _, rfl, hqM, hqrow, hqW, hqnd, fun y => ?_⟩
            rw [hqmem]
            constructor
            · rintro ⟨e, k | ⟨k, _⟩⟩
              · exact ⟨e, fun j => k j.1⟩
              · exact ⟨e, fun j => j.2 k⟩
            · rintro ⟨e, k⟩
              by_cases ey : y.1 = x
              · exact ⟨e, .inr ⟨ey, hl2 _⟩⟩
              · exact ⟨e, .inl fun j => k ⟨j, ey⟩⟩
          case measure => rw [hqM.leftN, HR.out.2.2.1.leftN]; exact hlt
        · intro z w5 cnt5 hlz hz hIz hq5 hlt5 hc5 hz5 hen5
          have hnr2 : ∀ j, Value.ownBlock _ = some j → ¬ j = r2 := fun j hj e => by
            obtain ⟨cur, k1⟩ := row_kind hqrow hj
            obtain ⟨_, _, _, _, k2⟩ := hq.iter
            rw [e, k2] at k1
            cases k1
          have hrow5 := row_keep hqrow hc5 hnr2
          have hrowA := row_keep hrow5 (Chg.alloc w5 (.cells #[.int .i64 x, .int .i64 z] 73) No) (fun _ _ e => e)
          have hca : (w5.alloc (.cells #[.int .i64 x, .int .i64 z] 73)).cell? ⟨w5.heap.size, 0, none⟩ = some (.int .i64 x) := by rw [cell_of_row _ _ _ _ _ _ (heap_alloc_new _ _)]; rfl
          have hcb : (w5.alloc (.cells #[.int .i64 x, .int .i64 z] 73)).cell? ⟨w5.heap.size, 1, none⟩ = some (.int .i64 z) := by rw [cell_of_row _ _ _ _ _ _ (heap_alloc_new _ _)]; rfl
          have hW5 : Chg w w5 No := hqW.trans hc5 (fun _ _ e => e) (fun j hj e => by omega)
          have hsz5 : r + 1 ≤ w5.heap.size := by have := hq5.lt; omega
          have hqM5 := hqM.keep hc5 (by omega) (by omega)
          have HQ := hid (And.intro hq5 (And.intro hlt5 (And.intro hq (And.intro hqM5 hqrow))))
          clear hz5 hq5 hlt5 hq hqM hqM5 hqrow
          go_wp2_with (first
            | (at_builtin; go_must (refine wp_appE rfl _ _ rfl (r + 1) w5.heap.size 1 _ l2 (x, z) rfl rfl hrowA hca hcb (by omega) (by simp; omega) ?_; intro v6 w6 h61 h62 h63))
            | go_in)
          obtain ⟨hq5, hlt5, hq, hqM5, hqrow⟩ := HQ.out
          have hc6 : Chg w5 w6 (fun k => Value.ownBlock _ = some k) := (Chg.alloc w5 (.cells #[.int .i64 x, .int .i64 z] 73) No).trans h62 (fun _ _ e => e.elim) (fun j _ e => e)
          have hnit : ∀ j, (∃ a b c e, w5.heap[j]? = some (.mapIter a b c e)) → ¬ Value.ownBlock _ = some j := fun j hj e => by
            obtain ⟨cur, k1⟩ := row_kind hrow5 e
            obtain ⟨_, _, _, _, k2⟩ := hj
            rw [k2] at k1
            cases k1
          have hnmp : ∀ j, (∃ a b, w5.heap[j]? = some (.map a b)) → ¬ Value.ownBlock _ = some j := fun j hj e => by
            obtain ⟨cur, k1⟩ := row_kind hrow5 e
            obtain ⟨_, _, k2⟩ := hj
            rw [k2] at k1
            cases k1
          have hq6 := hq5.keep hc6 (fun e k => by cases k; exact hnmp d ((HP.out.sets x d hfx).keep hW5 (fun e => e)).isMap) (hnit r2 hq5.iter)
          have hqM6 := hqM5.keep hc6 (hnmp bp (HM.keep hW5 (fun e => e)).isMap) (hnit r hqM5.iter)
          have hEz : E x z := by rw [hEx]; exact hz
          go_roundw
          case rel =>
            refine ⟨_, cnt5, l2 ++ [(x, z)], _, rfl, hq6, hqM6, h61, hW5.trans hc6 (fun _ _ e => e) (fun j hj e => by have := (row_ge hrow5 e).1; omega), ?_, fun y => ?_⟩
            · rw [List.pairwise_append]
              refine ⟨hqnd, by simp, fun a ha b hb => ?_⟩
              simp at hb
              subst hb
              intro e
              subst e
              rcases ((hqmem _).1 ha).2 with k | ⟨_, k⟩
              · exact k hl
              · exact k hlz
            · rw [List.mem_append, hqmem, List.mem_singleton]
              constructor
              · rintro (⟨e, k | ⟨k1, k2⟩⟩ | rfl)
                · exact ⟨e, .inl k⟩
                · exact ⟨e, .inr ⟨k1, fun j => k2 j.1⟩⟩
                · exact ⟨hEz, .inr ⟨rfl, fun j => j.2 rfl⟩⟩
              · rintro ⟨e, k | ⟨k1, k2⟩⟩
                · exact .inl ⟨e, .inl k⟩
                · by_cases ez : y.2 = z
                  · exact .inr (Prod.ext k1 ez)
                  · exact .inl ⟨e, .inr ⟨k1, fun j => k2 ⟨j, ez⟩⟩⟩
          case measure => rw [hq6.leftN, hq.leftN]; exact hlt5

end Go.Proofs.YtamoepninddbcaaGreat

namespace Go.Proofs.YtamoepninddbcaaGreat
open Go.RowKit Go.Sort Go.Lib Go.Maps Go.Shelf

variable {w : World} {c p g n : Nat} {ρ : Nat → Option Role} {z : CSt}

theorem keysD {R : Value → Option (DataW Value × List MemPlace)} {b m : Nat} {D : DataW Value} (h : w.ownsMap Tryz.prog 3 R b m D) : (intKeys D).Pairwise (· ≠ ·) ∧ ∀ x, x ∈ intKeys D ↔ Maps.has D (.int .i64 x) = true := by
  obtain ⟨es, hD, hp, hk⟩ := h.entries keyI
  have hint : ∀ p ∈ es, ∃ x, p.1 = .int .i64 x ∧ I64 x := by
    obtain ⟨es', clock, _, F, _, hD'⟩ := h
    rw [hD] at hD'
    cases hD'
    intro p hp
    obtain ⟨x, hx, rfl⟩ := List.mem_map.1 (mem_sorted.1 hp)
    obtain ⟨y, hy⟩ := F.reads x hx
    obtain ⟨k, _, hk, hw⟩ := Maps.keyOf_int_inv Tryz.underlying3 (WideElems.rd_key hy)
    rw [WideElems.rg_of hy]
    exact ⟨k, hk, wfI hw⟩
  subst hD
  unfold intKeys
  refine ⟨?_, fun x => ?_⟩
  · rw [List.pairwise_map]
    refine List.Pairwise.imp_of_mem ?_ hp
    intro p q hp hq hne
    obtain ⟨x, hx, _⟩ := hint p hp
    obtain ⟨y, hy, _⟩ := hint q hq
    rw [hx, hy] at hne
    rw [hx, hy]
    simpa [Go.intOf] using hne
  · rw [Maps.has_eq, List.any_eq_true]
    constructor
    · intro hx
      obtain ⟨p, hp, e⟩ := List.mem_map.1 hx
      obtain ⟨y, hy, _⟩ := hint p hp
      rw [hy] at e
      simp [Go.intOf] at e
      subst e
      exact ⟨p, hp, by rw [hy]; exact WideAt.sameKey_self (keyLit _)⟩
    · rintro ⟨p, hp, hs⟩
      have := WideAt.sameKey_eq hs
      exact List.mem_map.2 ⟨p, hp, by rw [this]; rfl⟩

theorem sortsI (m : Nat) : AnyZI.SortsIn Tryz.prog laySorted_ren Fence.wide m :=
  ⟨fun blk off cap ss W hH hblk hsz => callsIn_wide.2 (Any.slices_Sort_int laySort blk off cap ss W hH hblk hsz),
   fun p cap W => callsIn_wide.2 (Any.slices_Sort_int_none laySort p cap W)⟩

set_option maxRecDepth 100000 in
set_option maxHeartbeats 2000000 in
theorem dirty_any (h : IsC w c p g n ρ z) : Calls Tryz.prog 22 #[.pointer (some ⟨c, 0, none⟩)] w fun e w' => ∃ v, e = .returned v ∧ Ints w' w.heap.size v (secs z.dirty) ∧ Chg w w' No := by
  have hinv := h.inv
  obtain ⟨gp, mb, go, tv, lv, h⟩ := h
  have k2 := h.c2
  obtain ⟨D0, hown, hh, _⟩ := h.mp
  have hbl := hown.lt
  obtain ⟨L, hL, hLm⟩ := h.few
  have hsz : Maps.size D0 ≤ 5000 := Nat.le_trans (size_leV hown L (fun y hy => hLm y ((hh y).symm.trans hy))) hL
  have HKD := hid (keysD hown)
  have HHH := hid hh
  have HINV := hid hinv
  have hsz1 : Maps.size D0 ≤ maxLen := by unfold maxLen; omega
  have hseq : SeqGives Fence.wide 2 Tryz.prog 98 #[.pointer (some ⟨w.heap.size, 0, none⟩)] encZ (fun ss => ss.Perm (intKeys D0)) (Maps.size D0) (w.alloc (.cells #[.map (some mb)] 86)) :=
    AnyZI.keys_gives (ρ := layKeys_ren) { layKeys with } Fence.wide _ trivial rfl (by omega) w.heap.size mb _ D0 _ (by simp) (by simp) (by
      obtain ⟨es, clock, hb, Ft, hs, hD⟩ := hown
      exact ⟨es, clock, (Below.heap_alloc _ _ mb hbl).trans hb, Ft, hs, hD⟩)
  have cK : ∀ mb W, CallsIn Fence.wide 5 Tryz.prog 65 #[.map mb] W fun e w' => e = .returned (.func (.func 98) #[] #[.pointer (some ⟨W.heap.size, 0, none⟩)]) ∧ w' = W.alloc (.cells #[.map mb] 86) := fun mb W => AnyZI.keys_in layKeys Fence.wide 5 trivial rfl mb W
  have cS := AnyZI.sorted_in laySorted Fence.wide 5 trivial trivial trivial trivial rfl (by omega) (sortsI _) (enters_of Tryz.func93 (by kernel_rfl) rfl) 98 #[.pointer (some ⟨w.heap.size, 0, none⟩)] trivial (enters_of Tryz.func98 (by kernel_rfl) rfl) _ _ hsz1 (by omega) _ hseq
  change CallsIn _ _ Tryz.prog 64 _ _ _ at cS
  have hfK : Fence.wide.fn 65 := trivial
  have hfS : Fence.wide.fn 64 := trivial
  clear h hinv hown hh hLm hseq
  refine (callsIn_wide (n := 6)).1 ?_
  refine callsIn_of_wp Tryz.func22 rfl trivial ?_ rfl
  simp only [Tryz.ntmps22, List.size_toArray, List.length_cons, List.length_nil, Nat.reduceAdd, Nat.reduceSub, Array.replicate_succ, Array.replicate_zero, List.push_toArray, List.append_toArray, List.nil_append, List.cons_append]
  gi_wp2_with (first
    | (gi_at_call 65; refine (cK _ _).mono ?_; rintro e w' ⟨rfl, rfl⟩)
    | (gi_at_call 64; refine cS.mono ?_; rintro e w' ⟨v, ss, rfl, hS, hrow, hnil, hb⟩))
  go_ret
  have hrow2 : w'.ownsRow (w.alloc (.cells #[.map (some mb)] 86)).heap.size 3 1 v ss.length ((sortI ss).map (Value.int .i64)) := hrow
  have hnd : ss.Pairwise (· ≠ ·) := (hS.pairwise_iff (fun {_ _} hne => Ne.symm hne)).2 HKD.out.1
  have hs : sortI ss = secs z.dirty := secs_is (sortI_up ss hnd) (fun x => by
    rw [sortI_mem, hS.mem_iff, HKD.out.2, HHH.out]
    unfold CSt.dirty
    simp) (fun x hx => HINV.out.sec hx)
  refine ⟨v, rfl, ?_, (Chg.alloc w (.cells #[.map (some mb)] 86) No).trans (Chg.of_below hb No) (fun _ _ e => e) (fun _ _ e => e)⟩
  rw [← hs]
  unfold Ints
  rw [sortI_len]
  exact row_base hrow2 (by simp)

end Go.Proofs.YtamoepninddbcaaGreat

namespace Go.Proofs.YtamoepninddbcaaGreat
open Go.RowKit

variable {w : World} {c p g n : Nat} {ρ : Nat → Option Role} {z : CSt}

/-- A new cache. -/
def newZ (d : D.St8) : CSt := ⟨d, fun _ _ => False, fun _ => none, [], false⟩
theorem newZ_inv {d : D.St8} (hn : n ≤ 4096) (h0 : 0 ≤ d.wr) (hl : 0 ≤ d.lf ∧ d.lf ≤ 9223372036854775807) : CInv n (newZ d) :=
  ⟨fun _ _ e => e.elim, fun _ e => (by cases e), fun _ _ e => (by cases e), fun a h => (by obtain ⟨_, h⟩ := h.first; exact h), hn, h0, hl⟩
theorem sum_zero : ∀ l : List Nat, (l.map fun _ => 0).sum = 0
  | [] => rfl
  | _ :: l => by simp only [List.map_cons, List.sum_cons, sum_zero l]
theorem newZ_tb (d : D.St8) : TB (newZ d) := by
  have : tsum (newZ d).P = 0 := sum_zero _
  unfold TB
  rw [this]
  show 0 + 0 ≤ _
  omega

set_option maxRecDepth 100000 in
set_option maxHeartbeats 1000000 in
theorem newC_nil (w : World) : Calls Tryz.prog 18 #[.pointer none] w fun e w' => e = .returned (.tuple #[.pointer none, .int .i64 1]) ∧ w' = w := by
  go_enter Tryz.func18, Tryz.ntmps18
  go_wp2
  go_ret2
  exact ⟨rfl, rfl⟩

set_option maxRecDepth 100000 in
set_option maxHeartbeats 1000000 in
theorem newC_any {d : D.St8} (hd : D.IsD w p g n d) (h0 : 0 ≤ d.wr) (hl : 0 ≤ d.lf ∧ d.lf ≤ 9223372036854775807) : Calls Tryz.prog 18 #[.pointer (some ⟨p, 0, none⟩)] w fun e w' =>
    ∃ c ρ, e = .returned (.tuple #[.pointer (some ⟨c, 0, none⟩), .int .i64 0]) ∧ IsC w' c p g n ρ (newZ d) ∧ (∀ k, Own ρ k → k = p ∨ k = g ∨ w.heap.size ≤ k) ∧ w.heap.size ≤ c ∧ Chg w w' No := by
  have hmm := @run_makeMap Tryz.prog
  have HG := new_any w
  have HD := hid hd
  have HX := hid (And.intro h0 hl)
  clear hd h0 hl
  go_enter Tryz.func18, Tryz.ntmps18
  go_wp2_with (first
    | (go_at_call 57; go_must (refine HG.mono ?_; rintro e w1 ⟨gp, go, rfl, hG1, hgo, hc1⟩))
    | go_in)
  go_ret2
  have hs1 := hc1.size
  have hd := HD.out
  have hp := slt hd.me
  have hg := slt hd.row
  have hne := hd.ne
  have hc3 : Chg w1 ((w1.alloc (.map #[] 0)).alloc (.cells (CC p gp w1.heap.size (.slice none 0 0) false) 88)) No := (Chg.alloc _ _ _).tr (Chg.alloc _ _ _)
  have hc03 := hc1.tr hc3
  have hm := (MapV.made w1).keep (Chg.alloc _ (.cells (CC p gp w1.heap.size (.slice none 0 0) false) 88) No) (fun e => e)
  refine ⟨w1.heap.size + 1, fun k => if k = w1.heap.size + 1 then some .c else if k = w1.heap.size then some .mb else if k = p then some .p else if k = g then some .g else if w.heap.size ≤ k ∧ k < w1.heap.size then some .gr else none, rfl, ⟨gp, w1.heap.size, go, fun _ => .slice none 0 0, .slice none 0 0, ⟨?_, isD_keep hd hc03 (fun e => e) (fun e => e), hG1.call hc3, hm, fun x q hx => (by cases hx), World.ownsRow_nil _ _ _ _, ?_, ?_, ?_, ?_, ?_, fun x k hx => (by cases hx), fun k hk => (by simp [Value.ownBlock] at hk), ?_, newZ_inv hd.top HX.out.1 HX.out.2⟩⟩, ?_, by omega, hc03⟩
  · rw [heap_alloc_if, if_pos (by simp)]
    rfl
  · simp
  · rw [if_neg (by omega), if_neg (by omega), if_pos rfl]
  · rw [if_neg (by omega), if_neg (by omega), if_neg (fun e => hne e.symm), if_pos rfl]
  · intro k hk
    have := hgo k hk
    rw [if_neg (by omega), if_neg (by omega), if_neg (by omega), if_neg (by omega), if_pos (by omega)]
  · rw [if_neg (by omega), if_pos rfl]
  · intro k r hr
    simp only [World.size_alloc]
    split at hr
    · omega
    · split at hr
      · omega
      · split at hr
        · omega
        · split at hr
          · omega
          · split at hr
            · omega
            · cases hr
  · rintro k ⟨r, hr⟩
    simp only at hr
    split at hr
    · exact .inr (.inr (by omega))
    · split at hr
      · exact .inr (.inr (by omega))
      · split at hr
        · rename_i e; exact .inl e
        · split at hr
          · rename_i e; exact .inr (.inl e)
          · split at hr
            · rename_i e; exact .inr (.inr e.1)
            · cases hr

/-- Drain. -/
noncomputable def DrainC (n : Nat) (z : CSt) (x : Int) : CSt × Int := if refC n z [x] = 0 then drainC n z x else (z, refC n z [x])
set_option maxRecDepth 100000 in
set_option maxHeartbeats 1000000 in
theorem DrainC_any (x : Int) (h : IsC w c p g n ρ z) (ht : TB z) (hw : z.d.wr < 4611686018427380000) : Calls Tryz.prog 28 #[.pointer (some ⟨c, 0, none⟩), .int .i64 x] w fun e w' => e = .returned (.int .i64 (DrainC n z x).2) ∧ CPost w w' c p g n ρ (DrainC n z x).1 := by
  have hc1 : Chg w (w.alloc (.cells #[.int .i64 x] 3)) No := Chg.alloc _ _ _
  have HR := refusalC_any [x] (some ⟨w.heap.size, 0, none⟩) 1 (h.call hc1) (lat_one _ x) (by simp)
  simp only [List.length_singleton] at HR
  have HH := hid h
  by_cases h0 : refC n z [x] = 0
  · have e : DrainC n z x = drainC n z x := by unfold DrainC; rw [if_pos h0]
    have hx := (refC_zero h0).2 x (by simp)
    have HD := drain_any x (h.call hc1) hx ht hw
    rw [e]
    rw [h0] at HR
    have HC1 := hid hc1
    clear h hc1 e h0
    go_enter Tryz.func28, Tryz.ntmps28
    go_wp2_with (first
      | (go_at_call 58; go_must (refine HR.mono ?_; rintro e w1 ⟨rfl, rfl⟩))
      | (go_at_call 70; go_must (refine HD.mono ?_; rintro e w2 ⟨rfl, hP2⟩))
      | fail)
    go_ret
    exact ⟨rfl, CPost.step (fun _ k => k) HC1.out hP2⟩
  · have e : DrainC n z x = (z, refC n z [x]) := by unfold DrainC; rw [if_neg h0]
    rw [e]
    obtain ⟨e0, he0⟩ : ∃ e0, refC n z [x] = e0 := ⟨_, rfl⟩
    rw [he0] at HR h0 ⊢
    have hb : (e0 != 0) = true := by simpa using h0
    have HC1 := hid hc1
    clear h hc1 e h0 he0
    go_enter Tryz.func28, Tryz.ntmps28
    go_wp2_with (first
      | (go_at_call 58; go_must (refine HR.mono ?_; rintro e w1 ⟨rfl, rfl⟩))
      | fail)
    go_ret
    exact ⟨rfl, CPost.same HH.out HC1.out⟩

/-- Drop. -/
noncomputable def DropC (n : Nat) (z : CSt) (x : Int) : CSt × Int := if refC n z [x] = 0 then (forC z x, 0) else (z, refC n z [x])
set_option maxRecDepth 100000 in
set_option maxHeartbeats 1000000 in
theorem DropC_any (x : Int) (h : IsC w c p g n ρ z) : Calls Tryz.prog 33 #[.pointer (some ⟨c, 0, none⟩), .int .i64 x] w fun e w' => e = .returned (.int .i64 (DropC n z x).2) ∧ CPost w w' c p g n ρ (DropC n z x).1 := by
  have hc1 : Chg w (w.alloc (.cells #[.int .i64 x] 3)) No := Chg.alloc _ _ _
  have HR := refusalC_any [x] (some ⟨w.heap.size, 0, none⟩) 1 (h.call hc1) (lat_one _ x) (by simp)
  simp only [List.length_singleton] at HR
  have HH := hid h
  by_cases h0 : refC n z [x] = 0
  · have e : DropC n z x = (forC z x, 0) := by unfold DropC; rw [if_pos h0]
    have hx := (refC_zero h0).2 x (by simp)
    have HD := forget_any x (h.call hc1) ⟨hx.1, by have := h.inv.top; omega⟩
    rw [e]
    rw [h0] at HR
    have HC1 := hid hc1
    clear h hc1 e h0
    go_enter Tryz.func33, Tryz.ntmps33
    go_wp2_with (first
      | (go_at_call 58; go_must (refine HR.mono ?_; rintro e w1 ⟨rfl, rfl⟩))
      | (go_at_call 79; go_must (refine HD.mono ?_; rintro e w2 ⟨rfl, hP2⟩))
      | fail)
    go_ret
    exact ⟨rfl, CPost.step (fun _ k => k) HC1.out hP2⟩
  · have e : DropC n z x = (z, refC n z [x]) := by unfold DropC; rw [if_neg h0]
    rw [e]
    obtain ⟨e0, he0⟩ : ∃ e0, refC n z [x] = e0 := ⟨_, rfl⟩
    rw [he0] at HR h0 ⊢
    have hb : (e0 != 0) = true := by simpa using h0
    have HC1 := hid hc1
    clear h hc1 e h0 he0
    go_enter Tryz.func33, Tryz.ntmps33
    go_wp2_with (first
      | (go_at_call 58; go_must (refine HR.mono ?_; rintro e w1 ⟨rfl, rfl⟩))
      | fail)
    go_ret
    exact ⟨rfl, CPost.same HH.out HC1.out⟩

/-- Sync. -/
noncomputable def syncC (n : Nat) (z : CSt) : CSt × Int := wAll n (secs z.dirty).length z (secs z.dirty)
theorem sync_todo (h : CInv n z) (ht : TB z) (hw : z.d.wr < 4611686018427380000) : ToDo n z (secs z.dirty) := by
  have hl := secs_len z.dirty
  exact ⟨(secs_up _).imp fun {a b} e => by omega, fun x hx => (secs_mem.1 hx).2, fun a b hE _ => secs_mem.2 ⟨h.sec (h.ed a b hE).1, (h.ed a b hE).1⟩, ht, by omega, by omega⟩
set_option maxRecDepth 100000 in
set_option maxHeartbeats 1000000 in
theorem syncC_any (h : IsC w c p g n ρ z) (ht : TB z) (hw : z.d.wr < 4611686018427380000) : Calls Tryz.prog 31 #[.pointer (some ⟨c, 0, none⟩)] w fun e w' => e = .returned (.int .i64 (syncC n z).2) ∧ CPost w w' c p g n ρ (syncC n z).1 := by
  have HD := dirty_any h
  have HH := hid h
  have HT := hid (sync_todo h.inv ht hw)
  unfold syncC
  generalize hl : secs z.dirty = l at *
  clear h hl
  go_enter Tryz.func31, Tryz.ntmps31
  go_wp2_with (first
    | (go_at_call 22; go_must (refine HD.mono ?_; rintro e w1 ⟨v1, rfl, hv1, hc1⟩; have HW := writeAll_any _ v1 w.heap.size (HH.out.call hc1) hv1 (fun k hk ho => by have := (row_ge hv1 hk).1; have := HH.out.lt ho; omega) HT.out; have H1 := hid (And.intro hv1 hc1); clear hv1 hc1))
    | (go_at_call 77; go_must (refine HW.mono ?_; rintro e w2 ⟨rfl, hP2⟩))
    | fail)
  go_ret
  refine ⟨rfl, ?_⟩
  obtain ⟨ρ', r1, r2, r3⟩ := hP2
  have hs := H1.out.2.size
  refine ⟨ρ', r1, fun k hk => ?_, H1.out.2.trans r3 (fun _ _ e => e.elim) (fun j hj e => ?_)⟩
  · rcases r2 k hk with e | e
    · exact .inl e
    · exact .inr (by omega)
  · rcases e with e | e
    · exact e
    · have := (row_ge H1.out.1 e).1
      omega

set_option maxRecDepth 100000 in
set_option maxHeartbeats 1000000 in
theorem edgesC_any (h : IsC w c p g n ρ z) : Calls Tryz.prog 24 #[.pointer (some ⟨c, 0, none⟩)] w fun e w' => ∃ v l, e = .returned v ∧ Edgs w' w.heap.size v l ∧ EList z.E l ∧ Chg w w' No := by
  obtain ⟨gp, mb, go, tv, lv, h⟩ := h
  have k1 := h.c1
  have HE := edgesG_any h.gr
  clear h
  go_enter Tryz.func24, Tryz.ntmps24
  go_wp2_with (first
    | (go_at_call 68; go_must (refine HE.mono ?_; rintro e w1 ⟨v1, l1, rfl, h1, h2, h3⟩))
    | fail)
  go_ret
  exact ⟨v1, l1, rfl, h1, h2, h3⟩

open Classical in
/-- Flush. -/
noncomputable def flushC (n : Nat) (z : CSt) (x : Int) : CSt × Bool × Int :=
  if refC n z [x] = 0 then (if z.dirty x ∧ FreeE z.E x then ((wrC n z x).1, decide ((wrC n z x).2 = 0), (wrC n z x).2) else (z, false, 0)) else (z, false, refC n z [x])
set_option maxRecDepth 100000 in
set_option maxHeartbeats 2000000 in
theorem flushC_any (x : Int) (h : IsC w c p g n ρ z) (hIx : I64 x) (ht : TB z) (hw : z.d.wr < 4611686018427380000) : Calls Tryz.prog 21 #[.pointer (some ⟨c, 0, none⟩), .int .i64 x] w fun e w' => e = .returned (.tuple #[.bool (flushC n z x).2.1, .int .i64 (flushC n z x).2.2]) ∧ CPost w w' c p g n ρ (flushC n z x).1 := by
  have hc1 : Chg w (w.alloc (.cells #[.int .i64 x] 3)) No := Chg.alloc _ _ _
  have HR := refusalC_any [x] (some ⟨w.heap.size, 0, none⟩) 1 (h.call hc1) (lat_one _ x) (by simp)
  simp only [List.length_singleton] at HR
  have HH := hid h
  by_cases h0 : refC n z [x] = 0
  · rw [h0] at HR
    have hzp := zeroP
    have hnot : ∀ (x : Bool) (w : World), (Op.unary .not (.bool x)).run Tryz.prog w = .ok (.bool (!x)) w := fun _ _ => rfl
    obtain ⟨gp, mb, go, tv, lv, hA0⟩ := h
    have hA := hA0.call hc1
    have k2 := hA.c2
    have HM := hA.mp
    obtain ⟨C, hC, hCs, hC1⟩ := pend_val (z.P x) (tv x) (fun q hq => ⟨hA.inv.ln x q hq, ints_one (hA.tg x q hq)⟩)
    have HQ := hid (heap_alloc_new (w.alloc (.cells #[.int .i64 x] 3)) (.cells pend0 95))
    rw [World.size_alloc] at HQ
    have HCC := hid hC
    have HA := hid hA
    have HC1 := hid hc1
    have H0 := hid h0
    clear hC hA hA0 hc1 h0
    cases hd : (z.P x).isSome with
    | false =>
      have hdm : ((z.P x).map fun q => Value.agg (pend q.1 (tv x))).isSome = false := by simpa using hd
      have e : flushC n z x = (z, false, 0) := by unfold flushC; rw [if_pos H0.out, if_neg (fun e => by have := e.1; unfold CSt.dirty at this; rw [hd] at this; cases this)]
      rw [e]
      clear e
      go_enter Tryz.func21, Tryz.ntmps21
      go_wp2_with (first
        | (go_at_call 58; go_must (refine HR.mono ?_; rintro e w1 ⟨rfl, rfl⟩))
        | (at_lookup; go_must (refine wp_okV rfl _ _ rfl mb _ x (.agg C) false HCC.out hdm rfl rfl HM hIx ?_))
        | (refine D.store_row rfl 95 _ _ rfl (w.heap.size + 1) rfl C rfl pend0 HQ.out (by rw [szP, hCs]) (by rw [pend0_size, hCs]) hC1 ?_; intro w3 hw3; have hc3 : Chg w w3 No := (HC1.out.tr (Chg.alloc _ (.cells pend0 95) No)).trans (put_chg hw3) (fun _ _ e => e) (fun j hj e => by omega); clear hw3)
        | fail)
      go_ret2
      exact ⟨rfl, CPost.same HH.out hc3⟩
    | true =>
      have hdm : ((z.P x).map fun q => Value.agg (pend q.1 (tv x))).isSome = true := by simpa using hd
      by_cases hf : FreeE z.E x
      · obtain ⟨⟨z1, e1⟩, hR⟩ : ∃ r, wrC n z x = r := ⟨_, rfl⟩
        have e : flushC n z x = (z1, decide (e1 = 0), e1) := by unfold flushC; rw [if_pos H0.out, if_pos ⟨hd, hf⟩, hR]
        rw [e]
        have HRR := hid hR
        have HF0 := hid hf
        have HD0 := hid hd
        clear e hR hf hd
        go_enter Tryz.func21, Tryz.ntmps21
        go_wp2_with (first
          | (go_at_call 58; go_must (refine HR.mono ?_; rintro e w1 ⟨rfl, rfl⟩; clear HR))
          | (at_lookup; go_must (refine wp_okV rfl _ _ rfl mb _ x (.agg C) true HCC.out hdm rfl rfl HM hIx ?_; clear HM k2))
          | (refine D.store_row rfl 95 _ _ rfl (w.heap.size + 1) rfl C rfl pend0 HQ.out (by rw [szP, hCs]) (by rw [pend0_size, hCs]) hC1 ?_; intro w3 hw3; have hc3 : Chg w w3 No := (HC1.out.tr (Chg.alloc _ (.cells pend0 95) No)).trans (put_chg hw3) (fun _ _ e => e) (fun j hj e => by omega); have h3 := HA.out.call ((Chg.alloc _ (.cells pend0 95) No).trans (put_chg hw3) (c := No) (fun _ _ e => e) (fun j hj e => (by have e : j = w.heap.size + 1 := e; simp at hj; omega))); have k31 := h3.c1; have HF := free_any x h3.gr hIx; have HWr := hid (writeC_any x (HH.out.call hc3) HD0.out ht (by omega)); have HC3 := hid hc3; clear hw3 h3 hc3)
          | (go_at_call 62; go_must (refine HF.mono ?_; rintro e w4 ⟨r, rfl, hr, rfl⟩; obtain rfl : r = true := hr.2 HF0.out; clear HF hr; have HW2 := HWr.out; rw [HRR.out] at HW2; clear HWr))
          | (go_at_call 63; go_must (refine HW2.mono ?_; rintro e w5 ⟨rfl, hP5⟩))
          | fail)
        go_ret2
        exact ⟨by simp only [show decide (e1 = 0) = (e1 == 0) from by by_cases h : e1 = 0 <;> simp [h]]; rfl, CPost.step (fun _ k => k) HC3.out hP5⟩
      · have e : flushC n z x = (z, false, 0) := by unfold flushC; rw [if_pos H0.out, if_neg (fun e => hf e.2)]
        rw [e]
        have HF0 := hid hf
        clear e hf hd
        go_enter Tryz.func21, Tryz.ntmps21
        go_wp2_with (first
          | (go_at_call 58; go_must (refine HR.mono ?_; rintro e w1 ⟨rfl, rfl⟩; clear HR))
          | (at_lookup; go_must (refine wp_okV rfl _ _ rfl mb _ x (.agg C) true HCC.out hdm rfl rfl HM hIx ?_; clear HM k2))
          | (refine D.store_row rfl 95 _ _ rfl (w.heap.size + 1) rfl C rfl pend0 HQ.out (by rw [szP, hCs]) (by rw [pend0_size, hCs]) hC1 ?_; intro w3 hw3; have hc3 : Chg w w3 No := (HC1.out.tr (Chg.alloc _ (.cells pend0 95) No)).trans (put_chg hw3) (fun _ _ e => e) (fun j hj e => by omega); have h3 := HA.out.call ((Chg.alloc _ (.cells pend0 95) No).trans (put_chg hw3) (c := No) (fun _ _ e => e) (fun j hj e => (by have e : j = w.heap.size + 1 := e; simp at hj; omega))); have k31 := h3.c1; have HF := free_any x h3.gr hIx; have HC3 := hid hc3; clear hw3 h3 hc3)
          | (go_at_call 62; go_must (refine HF.mono ?_; rintro e w4 ⟨r, rfl, hr, rfl⟩; obtain rfl : r = false := (by cases r; rfl; exact absurd (hr.1 rfl) HF0.out); clear HF hr))
          | fail)
        go_ret2
        exact ⟨rfl, CPost.same HH.out HC3.out⟩
  · have e : flushC n z x = (z, false, refC n z [x]) := by unfold flushC; rw [if_neg h0]
    rw [e]
    obtain ⟨e0, he0⟩ : ∃ e0, refC n z [x] = e0 := ⟨_, rfl⟩
    rw [he0] at HR h0 ⊢
    have hb : (e0 != 0) = true := by simpa using h0
    have HC1 := hid hc1
    clear h hc1 e h0 he0
    go_enter Tryz.func21, Tryz.ntmps21
    go_wp2_with (first
      | (go_at_call 58; go_must (refine HR.mono ?_; rintro e w1 ⟨rfl, rfl⟩))
      | fail)
    go_ret2
    exact ⟨rfl, CPost.same HH.out HC1.out⟩

end Go.Proofs.YtamoepninddbcaaGreat
