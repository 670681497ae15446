/-
  Appends as steps of a statement whose order is open, and what is known of memory behind them.
-/
import Derived.Test.YtgkanfmkohlmcaaGreatDAppendS
namespace Go.Proofs.YtgkanfmkohlmcaaGreat.D
open Go.RowKit
-- may lack

section
variable {ops : Array Oper} {Q : Exit → Act → World → Prop} {S : World → Prop} {fuel : Nat} {listed : Array Bool} {a : Act} {w : World}
theorem stVal (i d : Nat) (v : Value) {o : Oper} (hop : ops[i]? = some o) (hd : o.dst = some d) (hw : Region.wanted o (yielded ops a.tmps) = true)
    (hrun : (execOp a.eval o).run Tryz.prog w = .ok (.value v) w) (hS : S w)
    (h : wpAnyH Tryz.prog .any ops Q S fuel (listed.setIfInBounds i true) { a with tmps := a.tmps.setIfInBounds d v } w) : St ops Q S fuel listed a w i := by
  refine wpOp_step hop (fun K hK => ?_)
  rw [if_pos hw]
  unfold Oper.wp
  rw [hrun]
  refine hK _ _ ⟨hS, ?_⟩
  unfold Act.put
  rw [hd]
  exact h
end

theorem row_bytes {w : World} {g : Nat} {t : TypeId} {l : List Int} (h : w.heap[g]? = some (.cells (SA l) t (0, 0))) : BytesAt w (some ⟨g, 0, none⟩) l := by
  have hlt : g < w.heap.size := by
    rcases Nat.lt_or_ge g w.heap.size with k | k
    · exact k
    · rw [Array.getElem?_eq_none k] at h; cases h
  exact .inr ⟨g, 0, rfl, hlt, fun j hj => by rw [Nat.zero_add]; exact sec_cell h j hj⟩
theorem HB.more {w0 w : World} {bl : List (Nat × Obj)} {g : Nat} {o : Obj} (h : HB w0 bl w) (hg : w.heap[g]? = some o) : HB w0 ((g, o) :: bl) w := by
  have hlt : g < w.heap.size := by
    rcases Nat.lt_or_ge g w.heap.size with k | k
    · exact k
    · rw [Array.getElem?_eq_none k] at hg; cases hg
  refine ⟨fun x hx => ?_, fun x hx => ?_, h.old⟩
  · rcases List.mem_cons.1 hx with rfl | hx
    · exact hg
    · exact h.at_ x hx
  · rcases List.mem_cons.1 hx with rfl | hx
    · exact hlt
    · exact h.low x hx

theorem bytes_drop0 {w : World} {zs : List Int} (h : BytesAt w none zs) (T : Nat) : BytesAt w none (zs.drop T) := by
  rcases h with rfl | ⟨b, o, h, _⟩
  · exact .inl (by simp)
  · cases h
theorem bytes_drop1 {w : World} {zs : List Int} {x : Addr} (h : BytesAt w (some x) zs) (T : Nat) : BytesAt w (some (x.add T)) (zs.drop T) := by
  rcases h with rfl | ⟨b, o, h, hlt, hc⟩
  · exact .inl (by simp)
  · cases h
    refine .inr ⟨b, o + T, by rw [addr_add], hlt, fun j hj => ?_⟩
    rw [List.length_drop] at hj
    rw [Nat.add_assoc, hc (T + j) (by omega)]
    simp [List.getD_eq_getElem?_getD, List.getElem?_drop]
theorem HB.grown {w0 w w' : World} {bl : List (Nat × Obj)} {row : Option Nat} (h : HB w0 bl w) (hg : w.grownBy w' row) (hn : ∀ x, x ∈ bl → some x.1 ≠ row) (hr : ∀ k, row = some k → w0.heap.size ≤ k) : HB w0 bl w' :=
  ⟨fun x hx => by rw [hg.block x.1 (h.low x hx) (hn x hx)]; exact h.at_ x hx, fun x hx => Nat.lt_of_lt_of_le (h.low x hx) hg.size, h.old.grown hg h.old.size hr⟩

theorem HB.append {w0 w w' : World} {bl : List (Nat × Obj)} {base : Nat} {e : TypeId} {k n : Nat} {v : Value} {l : List Int} (h : HB w0 bl w) (ho : Own w base e k v n l) (hg : w.grownBy w' v.ownBlock) (hb : ∀ x, x ∈ bl → x.1 < base) (hB : w0.heap.size ≤ base) : HB w0 bl w' := by
  refine h.grown hg (fun x hx => ?_) (fun k hk => ?_)
  · have := hb x hx
    rcases ho.2 with ⟨rfl, _⟩ | ⟨g, cap, cur, rfl, hge, _⟩
    · simp [Value.ownBlock]
    · simp [Value.ownBlock]; omega
  · rcases ho.2 with ⟨rfl, _⟩ | ⟨g, cap, cur, rfl, hge, _⟩
    · simp [Value.ownBlock] at hk
    · simp [Value.ownBlock] at hk; omega
/-- A list's own block is none of those that are known. -/
def Apart (w0 : World) (bl : List (Nat × Obj)) (v : Value) : Prop := ∀ k, v.ownBlock = some k → w0.heap.size ≤ k ∧ ∀ x, x ∈ bl → x.1 ≠ k
theorem Apart.start {w0 : World} {g0 g1 : Nat} {o1 o2 : Obj} {m n : Nat} (d0 : w0.heap.size < g0) (d1 : g1 ≠ g0) : Apart w0 [(g1, o1), (w0.heap.size, o2)] (.slice (some ⟨g0, 0, none⟩) m n) := by
  intro k hk
  have hk : g0 = k := by simpa [Value.ownBlock] using hk
  subst hk
  refine ⟨Nat.le_of_lt d0, fun x hx => ?_⟩
  rcases List.mem_cons.1 hx with h | h
  · rw [h]; exact d1
  · rw [List.mem_singleton.1 h]; exact Nat.ne_of_lt d0
theorem Apart.next {w0 w : World} {bl : List (Nat × Obj)} {v v' : Value} (h : Apart w0 bl v) (hB : HB w0 bl w) (hat : v'.ownBlock = v.ownBlock ∨ v'.ownBlock = some w.heap.size) : Apart w0 bl v' := by
  intro k hk
  rcases hat with e | e
  · exact h k (e.symm.trans hk)
  · have hk : w.heap.size = k := Option.some.inj (e.symm.trans hk)
    subst hk
    exact ⟨hB.old.size, fun x hx => Nat.ne_of_lt (hB.low x hx)⟩
theorem HB.app {w0 w w' : World} {bl : List (Nat × Obj)} {v : Value} (h : HB w0 bl w) (hg : w.grownBy w' v.ownBlock) (hn : Apart w0 bl v) : HB w0 bl w' :=
  h.grown hg (fun x hx e => (hn x.1 e.symm).2 x hx rfl) (fun k hk => (hn k hk).1)
theorem Own.call {w w' : World} {base : Nat} {e : TypeId} {k n : Nat} {v : Value} {l : List Int} (h : Own w base e k v n l) (hb : Below w.heap.size w w') : Own w' base e k v n l := by
  refine ⟨h.1, ?_⟩
  rcases h.2 with h | ⟨g, cap, cur, rfl, hge, hc, hr⟩
  · exact .inl h
  · have hlt : g < w.heap.size := by
      rcases Nat.lt_or_ge g w.heap.size with k | k
      · exact k
      · rw [Array.getElem?_eq_none k] at hc; cases hc
    exact .inr ⟨g, cap, cur, rfl, hge, by rw [hb.block g hlt]; exact hc, hr⟩
section
variable {ops : Array Oper} {Q : Exit → Act → World → Prop} {S : World → Prop} {fuel : Nat} {listed : Array Bool} {a : Act} {w : World}
/-- Something new is made. -/
theorem stNew (i d : Nat) (v : Value) (ob : Obj) {o : Oper} (hop : ops[i]? = some o) (hd : o.dst = some d) (hw : Region.wanted o (yielded ops a.tmps) = true)
    (hrun : (execOp a.eval o).run Tryz.prog w = .ok (.value v) (w.alloc ob))
    (h : S (w.alloc ob) ∧ wpAnyH Tryz.prog .any ops Q S fuel (listed.setIfInBounds i true) { a with tmps := a.tmps.setIfInBounds d v } (w.alloc ob)) : St ops Q S fuel listed a w i := by
  refine wpOp_step hop (fun K hK => ?_)
  rw [if_pos hw]
  unfold Oper.wp
  rw [hrun]
  refine hK _ _ ⟨h.1, ?_⟩
  unfold Act.put
  rw [hd]
  exact h.2
theorem stNewB (i d : Nat) {o : Oper} (hop : ops[i]? = some o) (hd : o.dst = some d) (hw : Region.wanted o (yielded ops a.tmps) = true)
    (hrun : (execOp a.eval o).run Tryz.prog w = .ok (.value (.slice (some ⟨w.heap.size, 0, none⟩) 0 0)) (w.alloc (.cells #[] 5)))
    (h : S (w.alloc (.cells #[] 5)) ∧ wpAnyH Tryz.prog .any ops Q S fuel (listed.setIfInBounds i true) { a with tmps := a.tmps.setIfInBounds d (.slice (some ⟨w.heap.size, 0, none⟩) 0 0) } (w.alloc (.cells #[] 5))) : St ops Q S fuel listed a w i :=
  stNew i d _ _ hop hd hw hrun h
theorem stNewX (i d : Nat) {o : Oper} (hop : ops[i]? = some o) (hd : o.dst = some d) (hw : Region.wanted o (yielded ops a.tmps) = true)
    (hrun : (execOp a.eval o).run Tryz.prog w = .ok (.value (.slice (some ⟨w.heap.size, 0, none⟩) 0 0)) (w.alloc (.cells #[] 5)))
    (h : ∀ g wN, g = w.heap.size → g < wN.heap.size → wN.heap[g]? = some (.cells #[] 5 (0, 0)) → (∀ w0 bl, HB w0 bl w → HB w0 bl wN) →
      S wN ∧ wpAnyH Tryz.prog .any ops Q S fuel (listed.setIfInBounds i true) { a with tmps := a.tmps.setIfInBounds d (.slice (some ⟨g, 0, none⟩) 0 0) } wN) : St ops Q S fuel listed a w i :=
  stNewB i d hop hd hw hrun (h _ _ rfl (by simp) (heap_alloc_new _ _) (fun _ _ hh => (hh.alloc _).tail))
end

end Go.Proofs.YtgkanfmkohlmcaaGreat.D
