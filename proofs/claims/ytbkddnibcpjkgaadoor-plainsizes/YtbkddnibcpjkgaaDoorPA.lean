/-
  package plain: a node more; a node turned.
-/
import Derived.Test.YtbkddnibcpjkgaaDoorPJ
namespace Go.Proofs.YtbkddnibcpjkgaaDoor
open Go.RowKit

section
variable {w w' w1 w2 : World} {c c' : NC} {x x' : Nd} {q : PC} {s : PSt}
theorem IsN.lt (h : IsN w c x) {k : Nat} (hk : BlkN c k) : k < w.heap.size := by
  rcases hk with rfl | rfl | rfl | e
  · exact slt h.me
  · exact h.bl.lt
  · exact h.nm.lt
  · obtain ⟨_, A, hA⟩ := h.sl.blk e
    exact slt hA
theorem IsN.keep {ks : Nat → Prop} (h : IsN w c x) (hc : Chg w w' ks) (hn : ∀ k, BlkN c k → ¬ ks k) : IsN w' c x :=
  ⟨hc.keep h.me (hn _ (.inl rfl)), h.bl.keep hc (hn _ (.inr (.inl rfl))), h.sl.keep hc (fun k e => hn k (.inr (.inr (.inr e)))), h.nm.keep hc (hn _ (.inr (.inr (.inl rfl)))), h.cn, h.ne, h.len, h.dom⟩
/-- The map of nodes is none of a node's blocks. -/
theorem IsPl.mapNe (h : IsPl w q s) {i : Int} (hq : q.nc i = some c) {k : Nat} (hk : BlkN c k) : k ≠ q.mb := by
  obtain ⟨x, _, hN⟩ := h.nd i c hq
  obtain ⟨es, cl, hm⟩ := h.mp.isMap
  rcases hk with rfl | rfl | rfl | e
  · exact obj_ne hN.me hm (by intro e; cases e)
  · exact (h.mne i c hq).1
  · exact (h.mne i c hq).2
  · obtain ⟨_, A, hA⟩ := hN.sl.blk e
    exact obj_ne hA hm (by intro e; cases e)
theorem IsPl.meNe (h : IsPl w q s) {i : Int} (hq : q.nc i = some c) {k : Nat} (hk : BlkN c k) : k ≠ q.p := by
  obtain ⟨x, _, hN⟩ := h.nd i c hq
  rcases hk with rfl | rfl | rfl | e
  · exact obj_ne hN.me h.me (by intro e; simp at e)
  · obtain ⟨es, cl, hm⟩ := hN.bl.isMap
    exact obj_ne hm h.me (by intro e; cases e)
  · obtain ⟨es, cl, hm⟩ := hN.nm.isMap
    exact obj_ne hm h.me (by intro e; cases e)
  · obtain ⟨_, A, hA⟩ := hN.sl.blk e
    exact obj_ne hA h.me (by intro e; simp at e)
theorem IsPl.pNe (h : IsPl w q s) : q.p ≠ q.mb := by
  obtain ⟨es, cl, hm⟩ := h.mp.isMap
  exact obj_ne h.me hm (by intro e; cases e)
def PC.put (q : PC) (i : Int) (c : NC) : PC := { q with nc := fun j => if j = i then some c else q.nc j }
def PSt.put (s : PSt) (i : Int) (x : Nd) : PSt := { s with nd := fun j => if j = i then some x else s.nd j }
theorem PC.put_at (q : PC) (i : Int) (c : NC) : (q.put i c).nc i = some c := if_pos rfl
theorem PC.put_ne (q : PC) {i j : Int} (c : NC) (h : j ≠ i) : (q.put i c).nc j = q.nc j := if_neg h
theorem PSt.put_at (s : PSt) (i : Int) (x : Nd) : (s.put i x).nd i = some x := if_pos rfl
theorem PSt.put_ne (s : PSt) {i j : Int} (x : Nd) (h : j ≠ i) : (s.put i x).nd j = s.nd j := if_neg h
/-- A node is there, apart from all others, and the map has it. -/
theorem IsPl.with (h : IsPl w q s) {i : Int} (hr : 1 ≤ i ∧ i ≤ 512) (hN : IsN w' c x) (hme : w'.heap[q.p]? = w.heap[q.p]?) (hM : MapV w' q.mb (fun y => if y = i then some (ptrN c) else (q.nc y).map ptrN))
    (hk : ∀ j d y, j ≠ i → q.nc j = some d → s.nd j = some y → IsN w d y → IsN w' d y) (hap : ∀ j d, j ≠ i → q.nc j = some d → ∀ k, BlkN d k → ¬ BlkN c k) (hm : c.bb ≠ q.mb ∧ c.nb ≠ q.mb) (hB : c.B = 0) : IsPl w' (q.put i c) (s.put i x) := by
  refine ⟨?_, ?_, ?_, ?_, ?_, ?_, ?_, ?_⟩
  · show w'.heap[q.p]? = _
    rw [hme]
    exact h.me
  · refine hM.cong fun y => ?_
    by_cases e : y = i
    · rw [e, PC.put_at, if_pos rfl]; rfl
    · rw [PC.put_ne q c e, if_neg e]
  · intro j d hd
    by_cases e : j = i
    · rw [e, PC.put_at] at hd
      cases hd
      exact ⟨x, by rw [e, PSt.put_at], hN⟩
    · rw [PC.put_ne q c e] at hd
      obtain ⟨y, h1, h2⟩ := h.nd j d hd
      exact ⟨y, by rw [PSt.put_ne s x e]; exact h1, hk j d y e hd h1 h2⟩
  · intro j hj
    by_cases e : j = i
    · rw [e, PC.put_at] at hj; cases hj
    · rw [PC.put_ne q c e] at hj
      rw [PSt.put_ne s x e]
      exact h.dom j hj
  · intro j hj
    by_cases e : j = i
    · rw [e]; exact hr
    · rw [PC.put_ne q c e] at hj
      exact h.rng j hj
  · intro j1 j2 d1 d2 e1 e2 hne k b1 b2
    by_cases a1 : j1 = i
    · have a2 : j2 ≠ i := fun e => hne (a1.trans e.symm)
      rw [a1, PC.put_at] at e1
      cases e1
      rw [PC.put_ne q c a2] at e2
      exact hap j2 d2 a2 e2 k b2 b1
    · rw [PC.put_ne q c a1] at e1
      by_cases a2 : j2 = i
      · rw [a2, PC.put_at] at e2
        cases e2
        exact hap j1 d1 a1 e1 k b1 b2
      · rw [PC.put_ne q c a2] at e2
        exact h.ap j1 j2 d1 d2 e1 e2 hne k b1 b2
  · intro j d hd
    by_cases e : j = i
    · rw [e, PC.put_at] at hd
      cases hd
      exact hm
    · rw [PC.put_ne q c e] at hd
      exact h.mne j d hd
  · intro j d hd
    by_cases e : j = i
    · rw [e, PC.put_at] at hd
      cases hd
      exact hB
    · rw [PC.put_ne q c e] at hd
      exact h.bs j d hd
/-- A new node. -/
theorem IsPl.more (h : IsPl w q s) {i : Int} (hr : 1 ≤ i ∧ i ≤ 512) (hc1 : Chg w w1 No) (hN : IsN w1 c x) (hp : w.heap.size ≤ c.p) (hb : w.heap.size ≤ c.bb) (hn : w.heap.size ≤ c.nb) (hv : c.v = .slice none 0 0) (hB : c.B = 0)
    (hc2 : Chg w1 w2 (· = q.mb)) (hM : MapV w2 q.mb (fun y => if y = i then some (ptrN c) else (q.nc y).map ptrN)) : IsPl w2 (q.put i c) (s.put i x) ∧ Chg w w2 (· = q.mb) := by
  have hmb := h.mp.lt
  have hge : ∀ k, BlkN c k → w.heap.size ≤ k := fun k hk => by
    rcases hk with rfl | rfl | rfl | e
    · exact hp
    · exact hb
    · exact hn
    · rw [hv] at e; cases e
  have hC : Chg w w2 (· = q.mb) := hc1.trans hc2 (fun _ _ e => e.elim) (fun _ _ e => e)
  refine ⟨h.with hr (hN.keep hc2 (fun k hk e => by have := hge k hk; omega)) (hC.block _ (slt h.me) h.pNe) hM (fun j d y hj hd hy hNd => hNd.keep hC (fun k hk => h.mapNe hd hk)) (fun j d hj hd k hk hk2 => ?_) ⟨by omega, by omega⟩ hB, hC⟩
  obtain ⟨y, _, hNd⟩ := h.nd j d hd
  have := hNd.lt hk
  have := hge k hk2
  omega
/-- A node that is another now. -/
theorem IsPl.turn (h : IsPl w q s) {i : Int} (hq : q.nc i = some c) (hN : IsN w' c' x') (hp : c'.p = c.p) (hb : c'.bb = c.bb) (hn : c'.nb = c.nb) (hB : c'.B = c.B) (hv : c'.v.ownBlock = c.v.ownBlock ∨ ∃ b, c'.v.ownBlock = some b ∧ w.heap.size ≤ b) (hc : Chg w w' (BlkN c)) : IsPl w' (q.put i c') (s.put i x') := by
  have hin : ∀ k, BlkN c' k → BlkN c k ∨ w.heap.size ≤ k := fun k hk => by
    rcases hk with e | e | e | e
    · exact .inl (.inl (e.trans hp))
    · exact .inl (.inr (.inl (e.trans hb)))
    · exact .inl (.inr (.inr (.inl (e.trans hn))))
    · rcases hv with e2 | ⟨b, e2, hb2⟩
      · rw [e2] at e; exact .inl (.inr (.inr (.inr e)))
      · rw [e2] at e
        have := Option.some.inj e
        exact .inr (by omega)
  refine h.with (h.rng i (by rw [hq]; intro e; cases e)) hN (hc.block _ (slt h.me) (fun e => h.meNe hq e rfl)) ((h.mp.keep hc (fun e => h.mapNe hq e rfl)).cong fun y => ?_) (fun j d y hj hd hy hNd => hNd.keep hc (fun k hk => h.ap j i d c hd hq hj k hk)) (fun j d hj hd k hk hk2 => ?_) (by rw [hb, hn]; exact h.mne i c hq) (hB.trans (h.bs i c hq))
  · by_cases e : y = i
    · rw [e, hq, if_pos rfl]
      show some (ptrN c) = some (ptrN c')
      unfold ptrN
      rw [hp]
    · rw [if_neg e]
  · rcases hin k hk2 with e | e
    · exact h.ap j i d c hd hq hj k hk e
    · obtain ⟨y, _, hNd⟩ := h.nd j d hd
      have := hNd.lt hk
      omega
end
end Go.Proofs.YtbkddnibcpjkgaaDoor
