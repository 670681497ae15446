/-
  package plain: nodes in memory; newNode, isDirectory, length, find.
-/
import Derived.Test.YtbkddnibcpjkgaaDoorMT
import Derived.Test.YtbkddnibcpjkgaaDoorTL
namespace Go.Proofs.YtbkddnibcpjkgaaDoor
open Go.RowKit

/-- Numbers in a list of the object's own. -/
def IOwn (w : World) (B : Nat) (v : Value) (l : List Int) : Prop := w.ownsRow B 3 1 v l.length (l.map (Value.int .i64))
theorem infoI : ∃ i, Tryd.prog.info? 3 = some i ∧ i.zero = some (.int .i64 0) ∧ i.size = 1 ∧ i.bytes = 8 := by
  have h : (Tryd.prog.info? 3).map (fun i => (i.zero, i.size, i.bytes)) = some (some (.int .i64 0), 1, 8) := by kernel_rfl
  cases hq : Tryd.prog.info? 3 with
  | none => rw [hq] at h; cases h
  | some i =>
    rw [hq] at h
    have h := Option.some.inj h
    simp only [Prod.mk.injEq] at h
    exact ⟨i, rfl, h.1, h.2.1, h.2.2⟩
section
variable {w w' : World} {B : Nat} {v : Value} {l : List Int}
theorem IOwn.blk (h : IOwn w B v l) {k : Nat} (e : v.ownBlock = some k) : B ≤ k ∧ ∃ A, w.heap[k]? = some (.cells A 3 (0, 0)) := by
  rcases h.2 with ⟨rfl, _⟩ | ⟨g, cap, cur, rfl, hb, hg, _⟩
  · cases e
  · have : g = k := by simpa [Value.ownBlock] using e
    subst this
    exact ⟨hb, cur, hg⟩
theorem IOwn.keep {ks : Nat → Prop} (h : IOwn w B v l) (hc : Chg w w' ks) (hn : ∀ k, v.ownBlock = some k → ¬ ks k) : IOwn w' B v l := by
  refine ⟨h.1, ?_⟩
  rcases h.2 with k | ⟨g, cap, cur, rfl, hb, hg, r⟩
  · exact .inl k
  · exact .inr ⟨g, cap, cur, rfl, hb, hc.keep hg (hn g rfl), r⟩
theorem IOwn.shape (h : IOwn w B v l) : ∃ a c, v = .slice a l.length c := by
  rcases h.2 with ⟨e, e2⟩ | ⟨g, cap, cur, e, _⟩
  · exact ⟨none, 0, by rw [e, e2]⟩
  · exact ⟨_, _, e⟩
theorem IOwn.none (w : World) (B : Nat) : IOwn w B (.slice none 0 0) [] := ⟨rfl, .inl ⟨rfl, rfl⟩⟩
theorem own_cell {a : Option Addr} {n c : Nat} (h : IOwn w B (.slice a n c) l) {j : Nat} (hj : j < l.length) : ∃ g, a = some ⟨g, 0, none⟩ ∧ w.cell? ⟨g, j, none⟩ = some (.int .i64 (l.getD j 0)) := by
  rcases h.2 with ⟨e, e2⟩ | ⟨g, cap, cur, e, hb, hg, r⟩
  · omega
  · injection e with e1 e3 e4
    refine ⟨g, e1, ?_⟩
    subst e1 e3 e4
    have hx : (l.map (Value.int .i64))[j]? = some (.int .i64 (l.getD j 0)) := by
      rw [List.getElem?_map, List.getD_eq_getElem?_getD, List.getElem?_eq_getElem hj]
      rfl
    have := World.ownsRow.cells h (g := g) rfl j _ hx
    have hadd : (⟨g, 0, none⟩ : Addr).add j = ⟨g, j, none⟩ := by unfold Addr.add; split <;> simp_all
    rw [hadd] at this
    exact this
end
/-- A node, as it is meant. -/
structure Nd where
  kind : Int
  links : Int
  made : Int
  size : Int
  blk : Int → Option Value
  sl : List Int
  nm : ByteArray → Option Int
  cnt : Nat
/-- Where it lies. -/
structure NC where
  p : Nat
  bb : Nat
  nb : Nat
  v : Value
  B : Nat
def ndA (c : NC) (x : Nd) : Array Value := #[.int .i64 x.kind, .int .i64 x.links, .int .i64 x.made, .int .i64 x.size, .map (some c.bb), c.v, .map (some c.nb)]
structure IsN (w : World) (c : NC) (x : Nd) : Prop where
  me : w.heap[c.p]? = some (.cells (ndA c x) 68 (0, 0))
  bl : MapV w c.bb x.blk
  sl : IOwn w c.B c.v x.sl
  nm : MapT w c.nb x.nm x.cnt
  cn : x.cnt ≤ 1068
  ne : c.bb ≠ c.nb
  len : x.sl.length ≤ 1068
  dom : ∀ k, x.blk k ≠ none → 0 ≤ k ∧ k < 1068
section
variable {w w' : World} {c : NC} {x : Nd}
theorem IsN.call (h : IsN w c x) (hc : Chg w w' No) : IsN w' c x :=
  ⟨hc.keep h.me (fun e => e), h.bl.keep hc (fun e => e), h.sl.keep hc (fun _ _ e => e), h.nm.keep hc (fun e => e), h.cn, h.ne, h.len, h.dom⟩
theorem IsN.c0 (h : IsN w c x) : w.cell? ⟨c.p, 0, none⟩ = some (.int .i64 x.kind) := (cell_of_row _ _ _ _ _ _ h.me).trans rfl
theorem IsN.c1 (h : IsN w c x) : w.cell? ⟨c.p, 1, none⟩ = some (.int .i64 x.links) := (cell_of_row _ _ _ _ _ _ h.me).trans rfl
theorem IsN.c2 (h : IsN w c x) : w.cell? ⟨c.p, 2, none⟩ = some (.int .i64 x.made) := (cell_of_row _ _ _ _ _ _ h.me).trans rfl
theorem IsN.c3 (h : IsN w c x) : w.cell? ⟨c.p, 3, none⟩ = some (.int .i64 x.size) := (cell_of_row _ _ _ _ _ _ h.me).trans rfl
theorem IsN.c4 (h : IsN w c x) : w.cell? ⟨c.p, 4, none⟩ = some (.map (some c.bb)) := (cell_of_row _ _ _ _ _ _ h.me).trans rfl
theorem IsN.c5 (h : IsN w c x) : w.cell? ⟨c.p, 5, none⟩ = some c.v := (cell_of_row _ _ _ _ _ _ h.me).trans rfl
theorem IsN.c6 (h : IsN w c x) : w.cell? ⟨c.p, 6, none⟩ = some (.map (some c.nb)) := (cell_of_row _ _ _ _ _ _ h.me).trans rfl
end
def newNd (kind made : Int) : Nd := ⟨kind, 1, made, 0, fun _ => none, [], fun _ => none, 0⟩

set_option maxHeartbeats 1000000 in
set_option maxRecDepth 100000 in
theorem newNode_any (kind made : Int) (w : World) :
    Calls Tryd.prog 10 #[.int .i64 kind, .int .i64 made] w fun e w' => ∃ c : NC, e = .returned (.pointer (some ⟨c.p, 0, none⟩)) ∧ IsN w' c (newNd kind made) ∧ Chg w w' No ∧ w.heap.size ≤ c.p ∧ w.heap.size ≤ c.bb ∧ w.heap.size ≤ c.nb ∧ c.v = .slice none 0 0 ∧ c.B = 0 := by
  have hmm := @run_makeMap Tryd.prog
  have hA1 := Chg.alloc w (.map #[] 0) No
  have hA2 := Chg.alloc (w.alloc (.map #[] 0)) (.map #[] 0) No
  obtain ⟨w1, hw1⟩ : ∃ y, y = w.alloc (.map #[] 0) := ⟨_, rfl⟩
  have hs1 : w1.heap.size = w.heap.size + 1 := by rw [hw1]; simp
  have h1 : MapV w1 w.heap.size (fun _ => none) := by rw [hw1]; exact MapV.made w
  obtain ⟨w2, hw2⟩ : ∃ y, y = w1.alloc (.map #[] 0) := ⟨_, rfl⟩
  have hs2 : w2.heap.size = w.heap.size + 2 := by rw [hw2]; simp [hs1]
  have h2 : MapT w2 (w.heap.size + 1) (fun _ => none) 0 := by rw [hw2, ← hs1]; exact MapT.made w1
  have hc2 : Chg w1 w2 No := by rw [hw2]; exact Chg.alloc _ _ No
  have hc1 : Chg w w1 No := by rw [hw1]; exact hA1
  obtain ⟨c, hcd⟩ : ∃ y : NC, y = ⟨w.heap.size + 2, w.heap.size, w.heap.size + 1, .slice none 0 0, 0⟩ := ⟨_, rfl⟩
  have HN : Hid (∀ W, W = w2.alloc (.cells (ndA c (newNd kind made)) 68) → IsN W c (newNd kind made) ∧ Chg w W No) := hid (fun W hW => by
    have hc3 : Chg w2 W No := by rw [hW]; exact Chg.alloc _ _ No
    refine ⟨⟨?_, ?_, ?_, ?_, by simp [newNd], ?_, by simp [newNd], fun k hk => absurd rfl hk⟩, (hc1.tr hc2).tr hc3⟩
    · rw [hW, show c.p = w2.heap.size by rw [hcd, hs2]]
      exact heap_alloc_new _ _
    · rw [hcd]
      exact (h1.keep hc2 (fun e => e)).keep hc3 (fun e => e)
    · rw [hcd]
      exact IOwn.none _ _
    · obtain ⟨D, k1, k2, k3⟩ := h2.keep hc3 (fun e => e)
      rw [hcd]
      exact ⟨D, k1, by omega, k3⟩
    · rw [hcd]
      show w.heap.size ≠ w.heap.size + 1
      omega)
  have HC := hid hcd
  have HW2 : Hid (w2 = (w.alloc (.map #[] 0)).alloc (.map #[] 0)) := hid (by rw [hw2, hw1])
  have hb : ∀ W, (Instr.build 68 #[(0, .int .i64 kind), (1, .int .i64 1), (2, .int .i64 made), (4, .map (some w.heap.size)), (6, .map (some (w.heap.size + 1)))]).run Tryd.prog W = .ok (.agg #[.int .i64 kind, .int .i64 1, .int .i64 made, .int .i64 0, .map (some w.heap.size), .slice none 0 0, .map (some (w.heap.size + 1))]) W := fun W => by kernel_rfl
  clear hA1 hA2 hw1 hs1 h1 hw2 hs2 h2 hc2 hc1 hcd
  go_enter Tryd.func10, Tryd.ntmps10
  go_wp2_with fail
  go_ret
  obtain ⟨q1, q2⟩ := HN.out (((w.alloc (.map #[] 0)).alloc (.map #[] 0)).alloc (.cells #[.int .i64 kind, .int .i64 1, .int .i64 made, .int .i64 0, .map (some w.heap.size), .slice none 0 0, .map (some (w.heap.size + 1))] 68)) (by rw [HW2.out, HC.out]; rfl)
  exact ⟨c, by rw [HC.out]; rfl, q1, q2, by rw [HC.out]; show w.heap.size ≤ w.heap.size + 2; omega, by rw [HC.out]; exact Nat.le_refl _, by rw [HC.out]; show w.heap.size ≤ w.heap.size + 1; omega, by rw [HC.out], by rw [HC.out]⟩

set_option maxHeartbeats 1000000 in
set_option maxRecDepth 100000 in
theorem isDirectory_any {c : NC} {x : Nd} (w : World) (h : IsN w c x) :
    Calls Tryd.prog 29 #[.pointer (some ⟨c.p, 0, none⟩)] w fun e w' => e = .returned (.bool (decide (x.kind = 2))) ∧ w' = w := by
  have c0 := h.c0
  obtain ⟨K, hK⟩ : ∃ y, y = x.kind := ⟨_, rfl⟩
  rw [← hK] at c0 ⊢
  clear h hK
  by_cases hk : K = 2
  · subst hk
    go_enter Tryd.func29, Tryd.ntmps29
    go_wp2_with fail
    go_ret
    exact ⟨rfl, rfl⟩
  · have h1 : (K == 2) = false := beq_eq_false_iff_ne.2 hk
    have h2 : decide (K = 2) = false := decide_eq_false hk
    rw [h2]
    clear hk
    go_enter Tryd.func29, Tryd.ntmps29
    go_wp2_with fail
    go_ret
    exact ⟨by simp, rfl⟩
/-- What is told as its Size. -/
def lenN (x : Nd) : Int := if x.kind = 2 then 128 * x.sl.length else x.size

set_option maxHeartbeats 1000000 in
set_option maxRecDepth 100000 in
theorem length_any {c : NC} {x : Nd} (w : World) (h : IsN w c x) :
    Calls Tryd.prog 48 #[.pointer (some ⟨c.p, 0, none⟩)] w fun e w' => e = .returned (.int .i64 (lenN x)) ∧ w' = w := by
  have hD := isDirectory_any w h
  have c3 := h.c3
  have c5 := h.c5
  have hl := h.len
  obtain ⟨a, cp, hv⟩ := h.sl.shape
  rw [hv] at c5
  obtain ⟨n, hn⟩ : ∃ y, y = x.sl.length := ⟨_, rfl⟩
  rw [← hn] at c5 hl
  by_cases hk : x.kind = 2
  · have HL : Hid (lenN x = (n : Int) * 128) := hid (by unfold lenN; rw [if_pos hk, ← hn]; omega)
    rw [decide_eq_true hk] at hD
    rw [HL.out]
    have i1 : (n : Int) ≤ 1068 := by omega
    clear hk hn hv h hl c3
    go_enter Tryd.func48, Tryd.ntmps48
    go_wp2_with (first
      | (go_at_call 29; go_must (refine hD.mono ?_; rintro e w1 ⟨rfl, rfl⟩))
      | fail)
    go_ret
    exact ⟨rfl, rfl⟩
  · have HL : Hid (lenN x = x.size) := hid (by unfold lenN; rw [if_neg hk])
    rw [decide_eq_false hk] at hD
    rw [HL.out]
    clear hk hn hv h hl c5
    go_enter Tryd.func48, Tryd.ntmps48
    go_wp2_with (first
      | (go_at_call 29; go_must (refine hD.mono ?_; rintro e w1 ⟨rfl, rfl⟩))
      | fail)
    go_ret
    exact ⟨rfl, rfl⟩
/-- The inode that a directory has by a name. -/
def findN (x : Nd) (s : ByteArray) : Option Int := (x.nm s).map fun k => x.sl.getD k.toNat 0

set_option maxHeartbeats 1000000 in
set_option maxRecDepth 100000 in
theorem find_any {c : NC} {x : Nd} (s : ByteArray) (w : World) (h : IsN w c x) (hs : s.size ≤ 1000) (hr : ∀ k, x.nm s = some k → 0 ≤ k ∧ k < x.sl.length) :
    Calls Tryd.prog 35 #[.pointer (some ⟨c.p, 0, none⟩), .string s] w fun e w' => e = .returned (.tuple #[.int .i64 ((findN x s).getD 0), .bool (findN x s).isSome]) ∧ w' = w := by
  have c5 := h.c5
  have c6 := h.c6
  have HM := hid h.nm
  obtain ⟨a, cp, hv⟩ := h.sl.shape
  rw [hv] at c5
  have HS : Hid (IOwn w c.B (.slice a x.sl.length cp) x.sl) := hid (by rw [← hv]; exact h.sl)
  cases hq : x.nm s with
  | none =>
    have e1 : findN x s = none := by unfold findN; rw [hq]; rfl
    rw [e1]
    have HQ := hid hq
    clear h hv e1 hr hq
    go_enter Tryd.func35, Tryd.ntmps35
    go_wp2_with (first
      | (refine wp_okT rfl _ _ rfl c.nb x.cnt x.nm s rfl rfl HM.out hs ?_; rw [HQ.out])
      | fail)
    go_ret2
    exact ⟨rfl, rfl⟩
  | some k =>
    obtain ⟨r1, r2⟩ := hr k hq
    obtain ⟨m, rfl⟩ : ∃ m : Nat, k = (m : Int) := ⟨k.toNat, by omega⟩
    have e1 : findN x s = some (x.sl.getD m 0) := by unfold findN; rw [hq]; simp
    rw [e1]
    have HQ := hid hq
    obtain ⟨g, hga, q5⟩ := own_cell HS.out (j := m) (by omega)
    obtain ⟨n, hn⟩ : ∃ y, y = x.sl.length := ⟨_, rfl⟩
    obtain ⟨y, hy⟩ : ∃ z, z = x.sl.getD m 0 := ⟨_, rfl⟩
    rw [← hn] at c5 r2
    rw [← hy] at q5 ⊢
    subst hga
    clear h hv e1 hr hq hn hy HS
    go_enter Tryd.func35, Tryd.ntmps35
    go_wp2_with (first
      | (refine wp_okT rfl _ _ rfl c.nb x.cnt x.nm s rfl rfl HM.out hs ?_; rw [HQ.out])
      | fail)
    go_ret2
    exact ⟨rfl, rfl⟩
end Go.Proofs.YtbkddnibcpjkgaaDoor
