/-
  What SectorLists wants besides: append of sectors out of a list that may be nil; what is known of several lists of the call's own.
-/
import Derived.Test.YtibneoajkbblaaaSliceTwo
import Derived.Test.YtibneoajkbblaaaWRJoin
import Derived.Test.YtibneoajkbblaaaWFull
import Derived.Test.YtibneoajkbblaaaWLend
namespace Go.Proofs.Ytibneoajkbblaaa
open Go.RowKit

theorem grown_refl (w : World) (r : Option Nat) : w.grownBy w r := ⟨rfl, rfl, rfl, Nat.le_refl _, fun _ _ _ => rfl⟩

/-- append of sectors onto a list of the call's own, out of a list that may be nil; and where the new list lies. -/
theorem append_secs2 {ops : Array Oper} {rest : List Oper} {o : Oper} {a : Act} {w : World} {Q : Exit → Act → World → Prop} (hgd : o.guard = none) (s x : Operand)
    (ho : o.op = .call { callee := .builtin .append, args := #[s, x], argTypes := #[32, 32] }) (base n m c : Nat) (v : Value) (l new : List Int) (ad : Option Addr) (hs : a.eval s = v) (hx : a.eval x = .slice ad m c)
    (hown : Own w base 26 128 v n l) (hl : new.length = m * 128) (hat : BytesAt w ad new) (hb : (n + m) * 128 ≤ 140737488355328) (hbase : base ≤ w.heap.size)
    (h : ∀ v' w', Own w' base 26 128 v' (n + m) (l ++ new) → w.grownBy w' v.ownBlock → (v'.ownBlock = v.ownBlock ∨ v'.ownBlock = some w.heap.size) → wpList Try.prog ops Q rest (a.put o.dst v') w') : wpList Try.prog ops Q (o :: rest) a w := by
  obtain ⟨i, hi, hz, hsz, hby⟩ := infoS
  cases ad with
  | some ad =>
    refine wpList_append_own_at w hgd s x 32 ho base 26 i _ 128 128 Try.underlying32 hi hz hsz hby (by rw [show Value.cells (.agg (SA Zs)) = SA Zs from rfl, SA_size, Zs_len]) (by decide) v n (l.map (Value.int .u8)) hs hown ad m c (new.map (Value.int .u8)) hx (by rw [List.length_map, hl]) (src_of hat) (one_cells new) (by unfold maxLen; omega) hb hbase ?_
    intro v' w' h1 h2 _ h3
    refine h v' w' ?_ h2 h3
    unfold Own
    rw [List.map_append]
    exact h1
  | none =>
    have hn : new = [] := by
      rcases hat with h0 | ⟨_, _, h0, _⟩
      · exact h0
      · cases h0
    subst hn
    have hm : m = 0 := by simp at hl; omega
    subst hm
    obtain ⟨a1, c1, rfl, hle, _⟩ := hown.at_
    refine wpList_plain hgd fun K hK => ?_
    unfold Oper.wp execOp
    have hr : (Builtin.append_ #[32, 32] o.type #[.slice a1 n c1, .slice none 0 c]).run Try.prog w = .ok (.slice a1 n c1) w := by
      simp [Builtin.append_, run_underlying Try.underlying32, sizeOf, typeInfo, hi, Builtin.lenOf, Builtin.firstCells, hle]
      cases a1 <;> simp [storeCells]
    simp only [ho, resolve, invoke, builtin, Sem.run_bind, Sem.run_pure, Result.andThen_ok, List.map_toArray, List.map_cons, List.map_nil, hs, hx, hr]
    exact hK _ _ (h _ _ (by rw [List.append_nil]; exact hown) (grown_refl _ _) (.inl rfl))

theorem HB.wroteB {w0 w w' : World} {bl : List (Nat × Obj)} {g : Nat} {t : TypeId} {c : List Int} (h : HB w0 bl w) (hw : WroteB w g t c w') (hg : w0.heap.size ≤ g) (hne : ∀ x, x ∈ bl → x.1 ≠ g) : HB w0 bl w' :=
  ⟨fun x hx => by rw [hw.other _ (hne x hx)]; exact h.at_ x hx, fun x hx => by rw [hw.size]; exact h.low x hx, hw.below h.old hg⟩
theorem HB.wroteH {w0 w w' : World} {bl : List (Nat × Obj)} {g : Nat} {o : Obj} {t : TypeId} {c : List Int} (h : HB w0 ((g, o) :: bl) w) (hw : WroteB w g t c w') (hg : w0.heap.size ≤ g) (hne : ∀ x, x ∈ bl → x.1 ≠ g) : HB w0 ((g, .cells (SA c) t (0, 0)) :: bl) w' :=
  (h.tail.wroteB hw hg hne).more hw.here
theorem HB.join {w0 w : World} {bl b2 : List (Nat × Obj)} (h : HB w0 bl w) (h2 : HB w0 b2 w) : HB w0 (b2 ++ bl) w := by
  refine ⟨fun x hx => ?_, fun x hx => ?_, h.old⟩
  · rcases List.mem_append.1 hx with k | k
    · exact h2.at_ x k
    · exact h.at_ x k
  · rcases List.mem_append.1 hx with k | k
    · exact h2.low x k
    · exact h.low x k
theorem HB.sub {w0 w : World} {bl b2 : List (Nat × Obj)} (h : HB w0 bl w) (hs : ∀ x, x ∈ b2 → x ∈ bl) : HB w0 b2 w := ⟨fun x hx => h.at_ x (hs x hx), fun x hx => h.low x (hs x hx), h.old⟩

/-- A list of the call's own: where it lies, as a list of at most one block; whoever keeps the block keeps the list. -/
theorem Own.blk {w : World} {base : Nat} {e : TypeId} {k : Nat} {v : Value} {n : Nat} {l : List Int} (h : Own w base e k v n l) (w0 : World) (h0 : Below w0.heap.size w0 w) :
    ∃ (a : Option Addr) (cap : Nat) (bl : List (Nat × Obj)), v = .slice a n cap ∧ n ≤ cap ∧ HB w0 bl w ∧ Hid (∀ x, x ∈ bl → base ≤ x.1) ∧ Hid (∀ w', HB w0 bl w' → BytesAt w' a l) := by
  have hl := h.len
  rcases h.2 with ⟨rfl, rfl⟩ | ⟨g, cap, cur, rfl, hg, hc, hn, hm, hs, ht⟩
  · exact ⟨none, 0, [], rfl, Nat.le_refl _, ⟨by simp, by simp, h0⟩, (by simp : ∀ x : Nat × Obj, x ∈ [] → base ≤ x.1), fun _ _ => .inl (List.eq_nil_of_length_eq_zero (by omega))⟩
  · have hlt : g < w.heap.size := by
      rcases Nat.lt_or_ge g w.heap.size with c | c
      · exact c
      · rw [Array.getElem?_eq_none c] at hc; cases hc
    refine ⟨some ⟨g, 0, none⟩, cap, [(g, .cells cur e (0, 0))], rfl, hn, ⟨by simpa using hc, by simpa using hlt, h0⟩, (by simpa using hg : ∀ x : Nat × Obj, x ∈ [(g, Obj.cells cur e (0, 0))] → base ≤ x.1), fun w' hb => ?_⟩
    have hc' : w'.heap[g]? = some (.cells cur e (0, 0)) := hb.get (by simp)
    have ho : Own w' base e k (.slice (some ⟨g, 0, none⟩) n cap) n l := ⟨h.1, .inr ⟨g, cap, cur, rfl, hg, hc', hn, hm, hs, ht⟩⟩
    obtain ⟨a, c, he, _, hba⟩ := ho.at_
    cases he
    exact hba

/-- A row that was made to its length is a list of the call's own. -/
theorem own_row {w : World} {base g : Nat} {e : TypeId} {k n : Nat} {l : List Int} (hg : w.heap[g]? = some (.cells (SA l) e (0, 0))) (hb : base ≤ g) (hl : l.length = n * k) (hn : n ≤ maxLen) : Own w base e k (.slice (some ⟨g, 0, none⟩) n n) n l :=
  ⟨by rw [List.length_map, hl], .inr ⟨g, n, SA l, rfl, hb, hg, Nat.le_refl _, hn, by rw [SA_size, hl], by simp only [SA]; rw [List.take_of_length_le (by simp [hl])]⟩⟩

/-- What is appended onto another list leaves this one. -/
theorem Own.grown {w w' : World} {base : Nat} {e : TypeId} {k : Nat} {v : Value} {n : Nat} {l : List Int} {row : Option Nat} (h : Own w base e k v n l) (hg : w.grownBy w' row) (hne : ∀ j, v.ownBlock = some j → row ≠ some j) : Own w' base e k v n l := by
  refine ⟨h.1, ?_⟩
  rcases h.2 with h | ⟨g, cap, cur, rfl, hge, hc, hr⟩
  · exact .inl h
  · have hlt : g < w.heap.size := by
      rcases Nat.lt_or_ge g w.heap.size with k | k
      · exact k
      · rw [Array.getElem?_eq_none k] at hc; cases hc
    exact .inr ⟨g, cap, cur, rfl, hge, by rw [hg.block g hlt (fun e => hne g rfl e.symm)]; exact hc, hr⟩
theorem Own.lt {w : World} {base : Nat} {e : TypeId} {k : Nat} {v : Value} {n : Nat} {l : List Int} (h : Own w base e k v n l) : ∀ j, v.ownBlock = some j → j < w.heap.size := by
  intro j hj
  rcases h.2 with ⟨rfl, _⟩ | ⟨g, cap, cur, rfl, hge, hc, hr⟩
  · simp [Value.ownBlock] at hj
  · have e : g = j := by simpa [Value.ownBlock] using hj
    subst e
    rcases Nat.lt_or_ge g w.heap.size with k | k
    · exact k
    · rw [Array.getElem?_eq_none k] at hc; cases hc

end Go.Proofs.Ytibneoajkbblaaa
