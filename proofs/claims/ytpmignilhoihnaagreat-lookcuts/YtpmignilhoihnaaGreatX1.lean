/-
  The keys of a map of numbers, sorted by the library.
-/
import Derived.Test.YtpmignilhoihnaaGreatU4
import Derived.Test.YtpmignilhoihnaaGreatShelf
import Derived.Shelf.AbstractIn
import Derived.Shelf.Slices.In.SortNone
namespace Go.Proofs.YtpmignilhoihnaaGreat
open Go.RowKit Go.Sort Go.Lib Go.Maps Go.Shelf

def sortI (l : List Int) : List Int := l.mergeSort fun x y => decide (x ≤ y)
theorem sortI_len (l : List Int) : (sortI l).length = l.length := by simp [sortI]
theorem sortI_up (l : List Int) (h : l.Pairwise (· ≠ ·)) : (sortI l).Pairwise (· < ·) := by
  have h1 : (sortI l).Pairwise (fun x y => decide (x ≤ y) = true) := List.pairwise_mergeSort (fun a b c h1 h2 => by simp at *; omega) (fun a b => by simp; omega) l
  have h2 : (sortI l).Pairwise (· ≠ ·) := ((List.mergeSort_perm l _).pairwise_iff (fun {_ _} hne => Ne.symm hne)).2 h
  exact (h1.and h2).imp fun {a b} hh => by
    obtain ⟨k1, k2⟩ := hh
    simp at k1
    omega
theorem sortI_mem (l : List Int) (x : Int) : x ∈ sortI l ↔ x ∈ l := (List.mergeSort_perm l _).mem_iff
/-- Those of the first n numbers that are marked, rising. -/
def keysL (n : Nat) (p : Int → Bool) : List Int := ((List.range n).map Int.ofNat).filter p
theorem keysL_mem {n : Nat} {p : Int → Bool} {x : Int} : x ∈ keysL n p ↔ 0 ≤ x ∧ x < n ∧ p x = true := by
  unfold keysL
  rw [List.mem_filter, List.mem_map]
  constructor
  · rintro ⟨⟨k, hk, rfl⟩, h⟩
    have := List.mem_range.1 hk
    exact ⟨by simp, by show (k : Int) < n; omega, h⟩
  · rintro ⟨h0, h1, h2⟩
    exact ⟨⟨x.toNat, List.mem_range.2 (by omega), by show ((x.toNat : Nat) : Int) = x; omega⟩, h2⟩
theorem keysL_up (n : Nat) (p : Int → Bool) : (keysL n p).Pairwise (· < ·) := by
  unfold keysL
  refine List.Pairwise.filter _ ?_
  rw [List.pairwise_map]
  exact List.pairwise_lt_range.imp fun {a b} h => by show (a : Int) < b; omega
theorem eq_of_up : ∀ (l m : List Int), l.Pairwise (· < ·) → m.Pairwise (· < ·) → (∀ x, x ∈ l ↔ x ∈ m) → l = m
  | [], [], _, _, _ => rfl
  | [], y :: m, _, _, h => absurd ((h y).2 (by simp)) (by simp)
  | x :: l, [], _, _, h => absurd ((h x).1 (by simp)) (by simp)
  | x :: l, y :: m, hl, hm, h => by
    obtain ⟨l1, l2⟩ := List.pairwise_cons.1 hl
    obtain ⟨m1, m2⟩ := List.pairwise_cons.1 hm
    have e : x = y := by
      rcases List.mem_cons.1 ((h x).1 (by simp)) with e | e
      · exact e
      · rcases List.mem_cons.1 ((h y).2 (by simp)) with k | k
        · exact k.symm
        · have := l1 y k
          have := m1 x e
          omega
    subst e
    congr 1
    refine eq_of_up l m l2 m2 fun z => ?_
    constructor
    · intro hz
      rcases List.mem_cons.1 ((h z).1 (by simp [hz])) with e | e
      · subst e; have := l1 z hz; omega
      · exact e
    · intro hz
      rcases List.mem_cons.1 ((h z).2 (by simp [hz])) with e | e
      · subst e; have := m1 z hz; omega
      · exact e
theorem keysD {H : Type} {w : World} {R : Value → Option (DataW H × List MemPlace)} {b m : Nat} {D : DataW H} (h : w.ownsMap Tryz.prog 3 R b m D) : (intKeys D).Pairwise (· ≠ ·) ∧ ∀ x, x ∈ intKeys D ↔ Maps.has D (.int .i64 x) = true := by
  obtain ⟨es, hD, hp, hk⟩ := h.entries keyI
  have hint : ∀ p ∈ es, ∃ x, p.1 = .int .i64 x ∧ I64 x := by
    obtain ⟨es', clock, _, F, _, hD'⟩ := h
    rw [hD] at hD'
    cases hD'
    intro p hp
    obtain ⟨x, hx, rfl⟩ := List.mem_map.1 (mem_sorted.1 hp)
    obtain ⟨y, hy⟩ := F.reads x hx
    obtain ⟨k, _, hk, hw⟩ := Maps.keyOf_int_inv Tryz.underlying3 (WideElems.rd_key hy)
    rw [WideElems.rg_of hy]
    exact ⟨k, hk, wfI hw⟩
  subst hD
  unfold intKeys
  refine ⟨?_, fun x => ?_⟩
  · rw [List.pairwise_map]
    refine List.Pairwise.imp_of_mem ?_ hp
    intro p q hp hq hne
    obtain ⟨x, hx, _⟩ := hint p hp
    obtain ⟨y, hy, _⟩ := hint q hq
    rw [hx, hy] at hne
    rw [hx, hy]
    simpa [Go.intOf] using hne
  · rw [Maps.has_eq, List.any_eq_true]
    constructor
    · intro hx
      obtain ⟨p, hp, e⟩ := List.mem_map.1 hx
      obtain ⟨y, hy, _⟩ := hint p hp
      rw [hy] at e
      simp [Go.intOf] at e
      subst e
      exact ⟨p, hp, by rw [hy]; exact WideAt.sameKey_self (keyLit _)⟩
    · rintro ⟨p, hp, hs⟩
      have := WideAt.sameKey_eq hs
      exact List.mem_map.2 ⟨p, hp, by rw [this]; rfl⟩
theorem sortsI (m : Nat) : AnyZI.SortsIn Tryz.prog laySorted_ren Fence.wide m :=
  ⟨fun blk off cap ss W hH hblk hsz => callsIn_wide.2 (Any.slices_Sort_int laySort blk off cap ss W hH hblk hsz),
   fun p cap W => callsIn_wide.2 (Any.slices_Sort_int_none laySort p cap W)⟩
theorem keysT_any (mb : Option Nat) (W : World) : Calls Tryz.prog 50 #[.map mb] W fun e w' => e = .returned (.func (.func 92) #[] #[PV W.heap.size]) ∧ w' = W.alloc (.cells #[.map mb] 57) :=
  (callsIn_wide (n := 5)).1 (AnyZI.keys_in layKeys Fence.wide 5 trivial rfl mb W)
theorem keysC_any (mb : Option Nat) (W : World) : Calls Tryz.prog 51 #[.map mb] W fun e w' => e = .returned (.func (.func 93) #[] #[PV W.heap.size]) ∧ w' = W.alloc (.cells #[.map mb] 56) :=
  (callsIn_wide (n := 5)).1 (AnyZI.keys_in layKeysb Fence.wide 5 trivial rfl mb W)

theorem sorted_is {w : World} {H : Type} {R : Value → Option (DataW H × List MemPlace)} {b m : Nat} {D : DataW H} {n : Nat} {p : Int → Bool} {ss : List Int} (h : w.ownsMap Tryz.prog 3 R b m D) (hS : ss.Perm (intKeys D)) (hp : ∀ x, Maps.has D (.int .i64 x) = p x) (hn : ∀ x, p x = true → 0 ≤ x ∧ x < n) : sortI ss = keysL n p := by
  obtain ⟨k1, k2⟩ := keysD h
  have hnd : ss.Pairwise (· ≠ ·) := (hS.pairwise_iff (fun {_ _} hne => Ne.symm hne)).2 k1
  refine eq_of_up _ _ (sortI_up ss hnd) (keysL_up n p) fun x => ?_
  rw [sortI_mem, hS.mem_iff, k2, hp, keysL_mem]
  exact ⟨fun e => ⟨(hn x e).1, (hn x e).2, e⟩, fun e => e.2.2⟩
theorem IOwn.base {w : World} {B B' : Nat} {v : Value} {l : List Int} (h : IOwn w B v l) (hb : B' ≤ B) : IOwn w B' v l := by
  refine ⟨h.1, ?_⟩
  rcases h.2 with k | ⟨g, cap, cur, rfl, hg, r⟩
  · exact .inl k
  · exact .inr ⟨g, cap, cur, rfl, by omega, r⟩

set_option maxRecDepth 100000 in
set_option maxHeartbeats 1000000 in
theorem sortedT_any {W : World} {b n : Nat} {f : Int → Option Value} (h : MapV W b f) (hn : ∀ x, (f x).isSome = true → 0 ≤ x ∧ x < n) (hb : n ≤ 5000) :
    Calls Tryz.prog 49 #[.func (.func 92) #[] #[PV W.heap.size]] (W.alloc (.cells #[.map (some b)] 57)) fun e w' => ∃ v, e = .returned v ∧ IOwn w' W.heap.size v (keysL n fun x => (f x).isSome) ∧ Chg (W.alloc (.cells #[.map (some b)] 57)) w' No := by
  obtain ⟨D0, hown, hh, _⟩ := h
  have hbl := hown.lt
  have hsz : Maps.size D0 ≤ 5000 := Nat.le_trans (size_leV hown ((List.range n).map Int.ofNat) (fun y hy => by
    have := hn y ((hh y).symm.trans hy)
    exact List.mem_map.2 ⟨y.toNat, List.mem_range.2 (by omega), by show ((y.toNat : Nat) : Int) = y; omega⟩)) (by simpa using hb)
  have hsz1 : Maps.size D0 ≤ maxLen := by unfold maxLen; omega
  have hseq : SeqGives Fence.wide 2 Tryz.prog 92 #[.pointer (some ⟨W.heap.size, 0, none⟩)] encZ (fun ss => ss.Perm (intKeys D0)) (Maps.size D0) (W.alloc (.cells #[.map (some b)] 57)) :=
    AnyZI.keys_gives (ρ := layKeys_ren) { layKeys with } Fence.wide _ trivial rfl (by omega) W.heap.size b _ D0 _ (by simp) (by simp) (by
      obtain ⟨es, clock, hb, Ft, hs, hD⟩ := hown
      exact ⟨es, clock, (Below.heap_alloc _ _ b hbl).trans hb, Ft, hs, hD⟩)
  have cS := AnyZI.sorted_in laySorted Fence.wide 5 trivial trivial trivial trivial rfl (by omega) (sortsI _) (enters_of Tryz.func91 (by kernel_rfl) rfl) 92 #[.pointer (some ⟨W.heap.size, 0, none⟩)] trivial (enters_of Tryz.func92 (by kernel_rfl) rfl) _ _ hsz1 (by omega) _ hseq
  change CallsIn _ _ Tryz.prog 49 _ _ _ at cS
  refine ((callsIn_wide (n := 5)).1 cS).mono ?_
  rintro e w' ⟨v, ss, rfl, hS, hrow, hnil, hbw⟩
  have hs := sorted_is hown hS hh hn
  refine ⟨v, rfl, ?_, Chg.of_below hbw No⟩
  have hrow2 : w'.ownsRow (W.alloc (.cells #[.map (some b)] 57)).heap.size 3 1 v ss.length ((sortI ss).map (Value.int .i64)) := hrow
  rw [← hs]
  have : IOwn w' (W.alloc (.cells #[.map (some b)] 57)).heap.size v (sortI ss) := by unfold IOwn; rw [sortI_len]; exact hrow2
  exact this.base (by simp)

set_option maxRecDepth 100000 in
set_option maxHeartbeats 1000000 in
theorem sortedC_any {W : World} {b n : Nat} {p : Int → Bool} (h : SetAt W b (fun x => p x = true)) (hn : ∀ x, p x = true → 0 ≤ x ∧ x < n) (hb : n ≤ 5000) :
    Calls Tryz.prog 49 #[.func (.func 93) #[] #[PV W.heap.size]] (W.alloc (.cells #[.map (some b)] 56)) fun e w' => ∃ v, e = .returned v ∧ IOwn w' W.heap.size v (keysL n p) ∧ Chg (W.alloc (.cells #[.map (some b)] 56)) w' No := by
  obtain ⟨D0, hown, hh0⟩ := h
  have hh : ∀ x, Maps.has D0 (.int .i64 x) = p x := fun x => by rw [Bool.eq_iff_iff]; exact hh0 x
  have hbl := hown.lt
  have hsz : Maps.size D0 ≤ 5000 := Nat.le_trans (size_le_of hown ((List.range n).map Int.ofNat) (fun y hy => by
    have := hn y ((hh y).symm.trans hy)
    exact List.mem_map.2 ⟨y.toNat, List.mem_range.2 (by omega), by show ((y.toNat : Nat) : Int) = y; omega⟩)) (by simpa using hb)
  have hsz1 : Maps.size D0 ≤ maxLen := by unfold maxLen; omega
  have hseq : SeqGives Fence.wide 2 Tryz.prog 93 #[.pointer (some ⟨W.heap.size, 0, none⟩)] encZ (fun ss => ss.Perm (intKeys D0)) (Maps.size D0) (W.alloc (.cells #[.map (some b)] 56)) :=
    AnyZI.keys_gives (ρ := layKeysb_ren) { layKeysb with } Fence.wide _ trivial rfl (by omega) W.heap.size b _ D0 _ (by simp) (by simp) (by
      obtain ⟨es, clock, hb, Ft, hs, hD⟩ := hown
      exact ⟨es, clock, (Below.heap_alloc _ _ b hbl).trans hb, Ft, hs, hD⟩)
  have cS := AnyZI.sorted_in laySorted Fence.wide 5 trivial trivial trivial trivial rfl (by omega) (sortsI _) (enters_of Tryz.func91 (by kernel_rfl) rfl) 93 #[.pointer (some ⟨W.heap.size, 0, none⟩)] trivial (enters_of Tryz.func93 (by kernel_rfl) rfl) _ _ hsz1 (by omega) _ hseq
  change CallsIn _ _ Tryz.prog 49 _ _ _ at cS
  refine ((callsIn_wide (n := 5)).1 cS).mono ?_
  rintro e w' ⟨v, ss, rfl, hS, hrow, hnil, hbw⟩
  have hs := sorted_is hown hS hh hn
  refine ⟨v, rfl, ?_, Chg.of_below hbw No⟩
  have hrow2 : w'.ownsRow (W.alloc (.cells #[.map (some b)] 56)).heap.size 3 1 v ss.length ((sortI ss).map (Value.int .i64)) := hrow
  rw [← hs]
  have : IOwn w' (W.alloc (.cells #[.map (some b)] 56)).heap.size v (sortI ss) := by unfold IOwn; rw [sortI_len]; exact hrow2
  exact this.base (by simp)

end Go.Proofs.YtpmignilhoihnaaGreat
