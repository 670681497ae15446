/-
  Dirty: those that are dirty, rising.
-/
import Derived.Test.YtgkanfmkohlmcaaGreatCache8
import Derived.Shelf.AbstractIn
namespace Go.Proofs.YtgkanfmkohlmcaaGreat
open Go.RowKit Go.Sort Go.Lib Go.Maps Go.Shelf

variable {w : World} {c p g n : Nat} {ρ : Nat → Option Role} {z : CSt}

theorem keysD {R : Value → Option (DataW Value × List MemPlace)} {b m : Nat} {D : DataW Value} (h : w.ownsMap Tryz.prog 3 R b m D) : (intKeys D).Pairwise (· ≠ ·) ∧ ∀ x, x ∈ intKeys D ↔ Maps.has D (.int .i64 x) = true := by
  obtain ⟨es, hD, hp, hk⟩ := h.entries keyI
  have hint : ∀ p ∈ es, ∃ x, p.1 = .int .i64 x ∧ I64 x := by
    obtain ⟨es', clock, _, F, _, hD'⟩ := h
    rw [hD] at hD'
    cases hD'
    intro p hp
    obtain ⟨x, hx, rfl⟩ := List.mem_map.1 (mem_sorted.1 hp)
    obtain ⟨y, hy⟩ := F.reads x hx
    obtain ⟨k, _, hk, hw⟩ := Maps.keyOf_int_inv Tryz.underlying3 (WideElems.rd_key hy)
    rw [WideElems.rg_of hy]
    exact ⟨k, hk, wfI hw⟩
  subst hD
  unfold intKeys
  refine ⟨?_, fun x => ?_⟩
  · rw [List.pairwise_map]
    refine List.Pairwise.imp_of_mem ?_ hp
    intro p q hp hq hne
    obtain ⟨x, hx, _⟩ := hint p hp
    obtain ⟨y, hy, _⟩ := hint q hq
    rw [hx, hy] at hne
    rw [hx, hy]
    simpa [Go.intOf] using hne
  · rw [Maps.has_eq, List.any_eq_true]
    constructor
    · intro hx
      obtain ⟨p, hp, e⟩ := List.mem_map.1 hx
      obtain ⟨y, hy, _⟩ := hint p hp
      rw [hy] at e
      simp [Go.intOf] at e
      subst e
      exact ⟨p, hp, by rw [hy]; exact WideAt.sameKey_self (keyLit _)⟩
    · rintro ⟨p, hp, hs⟩
      have := WideAt.sameKey_eq hs
      exact List.mem_map.2 ⟨p, hp, by rw [this]; rfl⟩

theorem sortsI (m : Nat) : AnyZI.SortsIn Tryz.prog laySorted_ren Fence.wide m :=
  ⟨fun blk off cap ss W hH hblk hsz => callsIn_wide.2 (Any.slices_Sort_int laySort blk off cap ss W hH hblk hsz),
   fun p cap W => callsIn_wide.2 (Any.slices_Sort_int_none laySort p cap W)⟩

set_option maxRecDepth 100000 in
set_option maxHeartbeats 2000000 in
theorem dirty_any (h : IsC w c p g n ρ z) : Calls Tryz.prog 11 #[.pointer (some ⟨c, 0, none⟩)] w fun e w' => ∃ v, e = .returned v ∧ Ints w' w.heap.size v (secs z.dirty) ∧ Chg w w' No := by
  have hinv := h.inv
  obtain ⟨gp, mb, go, tv, lv, h⟩ := h
  have k2 := h.c2
  obtain ⟨D0, hown, hh, _⟩ := h.mp
  have hbl := hown.lt
  obtain ⟨L, hL, hLm⟩ := h.few
  have hsz : Maps.size D0 ≤ 5000 := Nat.le_trans (size_leV hown L (fun y hy => hLm y ((hh y).symm.trans hy))) hL
  have HKD := hid (keysD hown)
  have HHH := hid hh
  have HINV := hid hinv
  have hsz1 : Maps.size D0 ≤ maxLen := by unfold maxLen; omega
  have hseq : SeqGives Fence.wide 2 Tryz.prog 61 #[.pointer (some ⟨w.heap.size, 0, none⟩)] encZ (fun ss => ss.Perm (intKeys D0)) (Maps.size D0) (w.alloc (.cells #[.map (some mb)] 69)) :=
    AnyZI.keys_gives (ρ := layKeys_ren) { layKeys with } Fence.wide _ trivial rfl (by omega) w.heap.size mb _ D0 _ (by simp) (by simp) (by
      obtain ⟨es, clock, hb, Ft, hs, hD⟩ := hown
      exact ⟨es, clock, (Below.heap_alloc _ _ mb hbl).trans hb, Ft, hs, hD⟩)
  have cK : ∀ mb W, CallsIn Fence.wide 5 Tryz.prog 34 #[.map mb] W fun e w' => e = .returned (.func (.func 61) #[] #[.pointer (some ⟨W.heap.size, 0, none⟩)]) ∧ w' = W.alloc (.cells #[.map mb] 69) := fun mb W => AnyZI.keys_in layKeys Fence.wide 5 trivial rfl mb W
  have cS := AnyZI.sorted_in laySorted Fence.wide 5 trivial trivial trivial trivial rfl (by omega) (sortsI _) (enters_of Tryz.func60 (by kernel_rfl) rfl) 61 #[.pointer (some ⟨w.heap.size, 0, none⟩)] trivial (enters_of Tryz.func61 (by kernel_rfl) rfl) _ _ hsz1 (by omega) _ hseq
  change CallsIn _ _ Tryz.prog 33 _ _ _ at cS
  have hfK : Fence.wide.fn 34 := trivial
  have hfS : Fence.wide.fn 33 := trivial
  clear h hinv hown hh hLm hseq
  refine (callsIn_wide (n := 6)).1 ?_
  refine callsIn_of_wp Tryz.func11 rfl trivial ?_ rfl
  simp only [Tryz.ntmps11, List.size_toArray, List.length_cons, List.length_nil, Nat.reduceAdd, Nat.reduceSub, Array.replicate_succ, Array.replicate_zero, List.push_toArray, List.append_toArray, List.nil_append, List.cons_append]
  gi_wp2_with (first
    | (gi_at_call 34; refine (cK _ _).mono ?_; rintro e w' ⟨rfl, rfl⟩)
    | (gi_at_call 33; refine cS.mono ?_; rintro e w' ⟨v, ss, rfl, hS, hrow, hnil, hb⟩))
  go_ret
  have hrow2 : w'.ownsRow (w.alloc (.cells #[.map (some mb)] 69)).heap.size 3 1 v ss.length ((sortI ss).map (Value.int .i64)) := hrow
  have hnd : ss.Pairwise (· ≠ ·) := (hS.pairwise_iff (fun {_ _} hne => Ne.symm hne)).2 HKD.out.1
  have hs : sortI ss = secs z.dirty := secs_is (sortI_up ss hnd) (fun x => by
    rw [sortI_mem, hS.mem_iff, HKD.out.2, HHH.out]
    unfold CSt.dirty
    simp) (fun x hx => HINV.out.sec hx)
  refine ⟨v, rfl, ?_, (Chg.alloc w (.cells #[.map (some mb)] 69) No).trans (Chg.of_below hb No) (fun _ _ e => e) (fun _ _ e => e)⟩
  rw [← hs]
  unfold Ints
  rw [sortI_len]
  exact row_base hrow2 (by simp)

end Go.Proofs.YtgkanfmkohlmcaaGreat
