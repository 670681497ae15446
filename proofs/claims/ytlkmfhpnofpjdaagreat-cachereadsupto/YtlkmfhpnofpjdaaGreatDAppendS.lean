/-
  append of sectors and of bytes onto a list of the call's own.
-/
import Derived.Test.YtlkmfhpnofpjdaaGreatDMem
import Derived.Maps.AppendAt
namespace Go.Proofs.YtlkmfhpnofpjdaaGreat.D
open Go.RowKit
-- may lack

/-- A list of the call's own: k cells an element, the bytes l. -/
def Own (w : World) (base : Nat) (e : TypeId) (k : Nat) (v : Value) (n : Nat) (l : List Int) : Prop := w.ownsRow base e k v n (l.map (Value.int .u8))

theorem Own.len {w : World} {base : Nat} {e : TypeId} {k : Nat} {v : Value} {n : Nat} {l : List Int} (h : Own w base e k v n l) : l.length = n * k := by
  have := h.1
  rw [List.length_map] at this
  exact this

/-- It is a slice whose bytes lie in memory. -/
theorem Own.at_ {w : World} {base : Nat} {e : TypeId} {k : Nat} {v : Value} {n : Nat} {l : List Int} (h : Own w base e k v n l) : ∃ a cap, v = .slice a n cap ∧ n ≤ cap ∧ BytesAt w a l := by
  have hl := h.len
  rcases h.2 with ⟨rfl, rfl⟩ | ⟨g, cap, cur, rfl, hg, hc, hn, hm, hs, ht⟩
  · exact ⟨none, 0, rfl, Nat.le_refl _, .inl (List.eq_nil_of_length_eq_zero (by omega))⟩
  · have hlt : g < w.heap.size := by
      rcases Nat.lt_or_ge g w.heap.size with c | c
      · exact c
      · rw [Array.getElem?_eq_none c] at hc; cases hc
    refine ⟨some ⟨g, 0, none⟩, cap, rfl, hn, .inr ⟨g, 0, rfl, hlt, fun j hj => ?_⟩⟩
    rw [Nat.zero_add, cell_of_row w g j cur e (0, 0) hc]
    have h1 : (cur.toList.take (n * k))[j]? = (l.map (Value.int .u8))[j]? := by rw [ht]
    rw [List.getElem?_take, if_pos (by omega)] at h1
    simp only [Array.getElem?_toList, List.getElem?_map, List.getElem?_eq_getElem hj, Option.map_some] at h1
    rw [h1]
    simp [hj]

/-- The empty list that a literal makes. -/
theorem Own.start {w w' : World} {base : Nat} {e : TypeId} {k g : Nat} (hg : w'.heap[g]? = some (.cells #[] e (0, 0))) (hb : base ≤ g) (_h : w.heap.size ≤ w'.heap.size) : Own w' base e k (.slice (some ⟨g, 0, none⟩) 0 0) 0 [] :=
  ⟨by simp, .inr ⟨g, 0, #[], rfl, hb, hg, Nat.le_refl _, Nat.zero_le _, by simp, by simp⟩⟩

/-- What append leaves, of bytes. -/
theorem grown_below {w0 w w' : World} {row : Option Nat} (h : Below w0.heap.size w0 w) (hg : w.grownBy w' row) (hr : ∀ k, row = some k → w0.heap.size ≤ k) : Below w0.heap.size w0 w' :=
  h.grown hg h.size hr

theorem src_of {w : World} {ad : Addr} {l : List Int} (h : BytesAt w (some ad) l) : ∀ j u, (l.map (Value.int .u8))[j]? = some u → w.cell? (ad.add j) = some u := by
  intro j u hj
  have hlt : j < l.length := by
    rcases Nat.lt_or_ge j l.length with c | c
    · exact c
    · rw [List.getElem?_eq_none (by simpa using c)] at hj; cases hj
  rcases h with rfl | ⟨b, o, he, _, hc⟩
  · simp at hlt
  · cases he
    rw [addr_add, hc j hlt]
    simp [hlt] at hj
    simp [hlt, hj]

/-- append of sectors onto a list of the call's own. -/
theorem append_secs {ops : Array Oper} {rest : List Oper} {o : Oper} {a : Act} {w : World} {Q : Exit → Act → World → Prop} (hgd : o.guard = none) (s x : Operand)
    (ho : o.op = .call { callee := .builtin .append, args := #[s, x], argTypes := #[67, 67] }) (base n m c : Nat) (v : Value) (l new : List Int) (ad : Addr) (hs : a.eval s = v) (hx : a.eval x = .slice (some ad) m c)
    (hown : Own w base 60 128 v n l) (hl : new.length = m * 128) (hat : BytesAt w (some ad) new) (hb : (n + m) * 128 ≤ 140737488355328) (hbase : base ≤ w.heap.size)
    (h : ∀ v' w', Own w' base 60 128 v' (n + m) (l ++ new) → w.grownBy w' v.ownBlock → wpList Tryz.prog ops Q rest (a.put o.dst v') w') : wpList Tryz.prog ops Q (o :: rest) a w := by
  obtain ⟨i, hi, hz, hsz, hby⟩ := infoS
  refine wpList_append_own w hgd s x 67 ho base 60 i _ 128 128 Tryz.underlying67 hi hz hsz hby (by rw [show Value.cells (.agg (SA Zs)) = SA Zs from rfl, SA_size, Zs_len]) (by decide) v n (l.map (Value.int .u8)) hs hown ad m c (new.map (Value.int .u8)) hx (by rw [List.length_map, hl]) (src_of hat) (one_cells new) (by unfold maxLen; omega) hb hbase ?_
  intro v' w' h1 h2 _
  refine h v' w' ?_ h2
  unfold Own
  rw [List.map_append]
  exact h1

/-- A fact on memory may be made stronger on the way through a statement whose order is open. -/
theorem wpAnyH_more {ops : Array Oper} {Q : Exit → Act → World → Prop} {S S' : World → Prop} (hS : ∀ w, S' w → S w) : ∀ (fuel : Nat) (listed : Array Bool) (a : Act) (w : World), wpAnyH Tryz.prog .any ops Q S' fuel listed a w → wpAnyH Tryz.prog .any ops Q S fuel listed a w
  | 0, _, _, _, h => h
  | fuel + 1, _, _, _, h => ⟨h.1, fun i hi => wpOp_mono (fun a' w' hh => ⟨hS w' hh.1, wpAnyH_more hS fuel _ a' w' hh.2⟩) (h.2 i hi)⟩

end Go.Proofs.YtlkmfhpnofpjdaaGreat.D
