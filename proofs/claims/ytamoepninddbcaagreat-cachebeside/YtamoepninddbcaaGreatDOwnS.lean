/-
  Lists of the call's own: written, appended, kept.
-/
import Derived.Test.YtamoepninddbcaaGreatDSteps
import Derived.Deep.AppendLies
namespace Go.Proofs.YtamoepninddbcaaGreat.D
open Go.RowKit
-- may lack

/-- What a list of the call's own is that has something in it: a row of its own. -/
theorem Own.row {w : World} {base : Nat} {e : TypeId} {k n : Nat} {v : Value} {l : List Int} (h : Own w base e k v n l) (hn : 0 < n) :
    ∃ g cap, v = .slice (some ⟨g, 0, none⟩) n cap ∧ base ≤ g ∧ g < w.heap.size ∧ (∀ j, j < n * k → w.cell? ⟨g, j, none⟩ = some (.int .u8 (l.getD j 0))) ∧ (∀ j, w.frozen? ⟨g, j, none⟩ = false) := by
  have hl := h.len
  rcases h.2 with ⟨_, h0⟩ | ⟨g, cap, cur, rfl, hg, hc, _, _, hs, ht⟩
  · omega
  · have hlt : g < w.heap.size := by
      rcases Nat.lt_or_ge g w.heap.size with c | c
      · exact c
      · rw [Array.getElem?_eq_none c] at hc; cases hc
    refine ⟨g, cap, rfl, hg, hlt, fun j hj => ?_, fun j => frozen_of_row w g j cur e hc⟩
    rw [cell_of_row w g j cur e (0, 0) hc]
    have h1 : (cur.toList.take (n * k))[j]? = (l.map (Value.int .u8))[j]? := by rw [ht]
    rw [List.getElem?_take, if_pos hj] at h1
    have hj' : j < l.length := by omega
    simp only [Array.getElem?_toList, List.getElem?_map, List.getElem?_eq_getElem hj', Option.map_some] at h1
    rw [h1]
    simp [hj']

/-- One byte is written. -/
theorem Own.set {w : World} {base : Nat} {e : TypeId} {k n g cap : Nat} {l : List Int} (h : Own w base e k (.slice (some ⟨g, 0, none⟩) n cap) n l) (j : Nat) (x : Int) :
    Own (w.setCell ⟨g, j, none⟩ (.int .u8 x)) base e k (.slice (some ⟨g, 0, none⟩) n cap) n (l.set j x) := by
  refine ⟨by rw [List.length_map, List.length_set, h.len], ?_⟩
  rcases h.2 with ⟨h0, _⟩ | ⟨g', cap', cur, he, hg, hc, h1, h2, hs, ht⟩
  · cases h0
  · cases he
    refine .inr ⟨g, cap, cur.setIfInBounds j (.int .u8 x), rfl, hg, heap_setCell_same w g j cur e _ hc, h1, h2, by rw [Array.size_setIfInBounds, hs], ?_⟩
    rw [Array.toList_setIfInBounds, List.take_set, ht, List.map_set]

theorem setCell_below {w0 w : World} {g j : Nat} {v : Value} {B : Nat} (h : Below B w0 w) (hg : B ≤ g) : Below B w0 (w.setCell ⟨g, j, none⟩ v) :=
  h.trans ⟨rfl, rfl, rfl, by simp [World.setCell], fun k hk => heap_setCell_other w ⟨g, j, none⟩ k _ (show k ≠ g by omega)⟩

theorem Own.ge {w : World} {base : Nat} {e : TypeId} {k n : Nat} {v : Value} {l : List Int} (h : Own w base e k v n l) : ∀ j, v.ownBlock = some j → base ≤ j := by
  intro j hj
  rcases h.2 with ⟨rfl, _⟩ | ⟨g, cap, cur, rfl, hg, _⟩
  · simp [Value.ownBlock] at hj
  · have e : g = j := by simpa [Value.ownBlock] using hj
    omega

/-- A list of the call's own that is empty, and was never made. -/
theorem Own.nil (w : World) (base : Nat) (e : TypeId) (k : Nat) : Own w base e k (.slice none 0 0) 0 [] := World.ownsRow_nil _ _ _ _

/-- Bytes written over others, from a place on. -/
def over : List Int → Nat → List Int → List Int
  | l, _, [] => l
  | l, o, x :: r => over (l.set o x) (o + 1) r
theorem over_eq : ∀ (r l : List Int) (o : Nat), o + r.length ≤ l.length → over l o r = l.take o ++ r ++ l.drop (o + r.length)
  | [], l, o, _ => by simp [over]
  | x :: r, l, o, h => by
    simp only [List.length_cons] at h
    rw [over, over_eq r (l.set o x) (o + 1) (by simp; omega)]
    have t1 : (l.set o x).take (o + 1) = l.take o ++ [x] := by
      rw [List.take_succ_eq_append_getElem (by simp; omega), List.take_set_of_le (Nat.le_refl _)]
      simp
    have t2 : (l.set o x).drop (o + 1 + r.length) = l.drop (o + (x :: r).length) := by
      rw [List.drop_set_of_lt (by omega), List.length_cons]
      congr 1
      omega
    rw [t1, t2, List.append_assoc, List.append_assoc, List.append_assoc]
    rfl
theorem WroteB.refl {w : World} {g : Nat} {t : TypeId} {c : List Int} (h : w.heap[g]? = some (.cells (SA c) t (0, 0))) : WroteB w g t c w := ⟨h, fun _ _ => rfl, rfl, rfl, rfl, rfl⟩
theorem WroteB.trans {w w1 w2 : World} {g : Nat} {t : TypeId} {c c' : List Int} (h : WroteB w g t c w1) (k : WroteB w1 g t c' w2) : WroteB w g t c' w2 :=
  ⟨k.here, fun j hj => (k.other j hj).trans (h.other j hj), k.size.trans h.size, k.os.trans h.os, k.tape.trans h.tape, k.output.trans h.output⟩
theorem over_cells {g : Nat} {t : TypeId} : ∀ (r l : List Int) (o : Nat) (w : World), w.heap[g]? = some (.cells (SA l) t (0, 0)) → WroteB w g t (over l o r) (w.setCells g o (r.map (Value.int .u8)))
  | [], _, _, _, h => WroteB.refl h
  | x :: r, l, o, w, h => by
    have h1 := row_setCell h o x
    exact h1.trans (over_cells r (l.set o x) (o + 1) _ h1.here)

/-- A sector is written in the midst of a list. -/
theorem store_mid {ops : Array Oper} {rest : List Oper} {o : Oper} {a : Act} {w : World} {Q : Exit → Act → World → Prop} (hgd : o.guard = none) (x y : Operand) (ho : o.op = .store 47 x y)
    (g off : Nat) (hx : a.eval x = .pointer (some ⟨g, off, none⟩)) (c : List Int) (hy : a.eval y = .agg (SA c)) (hc : c.length = 128) (t : TypeId) (l : List Int) (hg : w.heap[g]? = some (.cells (SA l) t (0, 0))) (hl : off + 128 ≤ l.length)
    (h : ∀ w', WroteB w g t (over l off c) w' → wpList Tryz.prog ops Q rest (a.put o.dst undef) w') : wpList Tryz.prog ops Q (o :: rest) a w := by
  refine wpList_store_mid hgd 47 x y ho g off (SA c) hx hy (fun j hj => ?_) (by rw [sz26, SA_size, hc]) (SA_one c) (h _ ?_)
  · rw [SA_size, hc] at hj
    rw [sec_cell hg (off + j) (by omega)]
    exact ⟨rfl, sec_free hg _⟩
  · have := over_cells c l off w hg
    simpa [SA] using this

theorem grown_refl (w : World) (r : Option Nat) : w.grownBy w r := ⟨rfl, rfl, rfl, Nat.le_refl _, fun _ _ _ => rfl⟩

/-- append of sectors onto a list of the call's own, out of a list that may be nil; and where the new list lies. -/
theorem append_secs2 {ops : Array Oper} {rest : List Oper} {o : Oper} {a : Act} {w : World} {Q : Exit → Act → World → Prop} (hgd : o.guard = none) (s x : Operand)
    (ho : o.op = .call { callee := .builtin .append, args := #[s, x], argTypes := #[74, 74] }) (base n m c : Nat) (v : Value) (l new : List Int) (ad : Option Addr) (hs : a.eval s = v) (hx : a.eval x = .slice ad m c)
    (hown : Own w base 47 128 v n l) (hl : new.length = m * 128) (hat : BytesAt w ad new) (hb : (n + m) * 128 ≤ 140737488355328) (hbase : base ≤ w.heap.size)
    (h : ∀ v' w', Own w' base 47 128 v' (n + m) (l ++ new) → w.grownBy w' v.ownBlock → (v'.ownBlock = v.ownBlock ∨ v'.ownBlock = some w.heap.size) → wpList Tryz.prog ops Q rest (a.put o.dst v') w') : wpList Tryz.prog ops Q (o :: rest) a w := by
  obtain ⟨i, hi, hz, hsz, hby⟩ := infoS
  cases ad with
  | some ad =>
    refine wpList_append_own_at w hgd s x 74 ho base 47 i _ 128 128 Tryz.underlying74 hi hz hsz hby (by rw [show Value.cells (.agg (SA Zs)) = SA Zs from rfl, SA_size, Zs_len]) (by decide) v n (l.map (Value.int .u8)) hs hown ad m c (new.map (Value.int .u8)) hx (by rw [List.length_map, hl]) (src_of hat) (one_cells new) (by unfold maxLen; omega) hb hbase ?_
    intro v' w' h1 h2 _ h3
    refine h v' w' ?_ h2 h3
    unfold Own
    rw [List.map_append]
    exact h1
  | none =>
    have hn : new = [] := by
      rcases hat with h0 | ⟨_, _, h0, _⟩
      · exact h0
      · cases h0
    subst hn
    have hm : m = 0 := by simp at hl; omega
    subst hm
    obtain ⟨a1, c1, rfl, hle, _⟩ := hown.at_
    refine wpList_plain hgd fun K hK => ?_
    unfold Oper.wp execOp
    have hr : (Builtin.append_ #[74, 74] o.type #[.slice a1 n c1, .slice none 0 c]).run Tryz.prog w = .ok (.slice a1 n c1) w := by
      simp [Builtin.append_, run_underlying Tryz.underlying74, sizeOf, typeInfo, hi, Builtin.lenOf, Builtin.firstCells, hle]
      cases a1 <;> simp [storeCells]
    simp only [ho, resolve, invoke, builtin, Sem.run_bind, Sem.run_pure, Result.andThen_ok, List.map_toArray, List.map_cons, List.map_nil, hs, hx, hr]
    exact hK _ _ (h _ _ (by rw [List.append_nil]; exact hown) (grown_refl _ _) (.inl rfl))

theorem HB.wroteB {w0 w w' : World} {bl : List (Nat × Obj)} {g : Nat} {t : TypeId} {c : List Int} (h : HB w0 bl w) (hw : WroteB w g t c w') (hg : w0.heap.size ≤ g) (hne : ∀ x, x ∈ bl → x.1 ≠ g) : HB w0 bl w' :=
  ⟨fun x hx => by rw [hw.other _ (hne x hx)]; exact h.at_ x hx, fun x hx => by rw [hw.size]; exact h.low x hx, hw.below h.old hg⟩
theorem HB.wroteH {w0 w w' : World} {bl : List (Nat × Obj)} {g : Nat} {o : Obj} {t : TypeId} {c : List Int} (h : HB w0 ((g, o) :: bl) w) (hw : WroteB w g t c w') (hg : w0.heap.size ≤ g) (hne : ∀ x, x ∈ bl → x.1 ≠ g) : HB w0 ((g, .cells (SA c) t (0, 0)) :: bl) w' :=
  (h.tail.wroteB hw hg hne).more hw.here
theorem HB.join {w0 w : World} {bl b2 : List (Nat × Obj)} (h : HB w0 bl w) (h2 : HB w0 b2 w) : HB w0 (b2 ++ bl) w := by
  refine ⟨fun x hx => ?_, fun x hx => ?_, h.old⟩
  · rcases List.mem_append.1 hx with k | k
    · exact h2.at_ x k
    · exact h.at_ x k
  · rcases List.mem_append.1 hx with k | k
    · exact h2.low x k
    · exact h.low x k
theorem HB.sub {w0 w : World} {bl b2 : List (Nat × Obj)} (h : HB w0 bl w) (hs : ∀ x, x ∈ b2 → x ∈ bl) : HB w0 b2 w := ⟨fun x hx => h.at_ x (hs x hx), fun x hx => h.low x (hs x hx), h.old⟩

/-- A list of the call's own: where it lies, as a list of at most one block; whoever keeps the block keeps the list. -/
theorem Own.blk {w : World} {base : Nat} {e : TypeId} {k : Nat} {v : Value} {n : Nat} {l : List Int} (h : Own w base e k v n l) (w0 : World) (h0 : Below w0.heap.size w0 w) :
    ∃ (a : Option Addr) (cap : Nat) (bl : List (Nat × Obj)), v = .slice a n cap ∧ n ≤ cap ∧ HB w0 bl w ∧ Hid (∀ x, x ∈ bl → base ≤ x.1) ∧ Hid (∀ w', HB w0 bl w' → BytesAt w' a l) := by
  have hl := h.len
  rcases h.2 with ⟨rfl, rfl⟩ | ⟨g, cap, cur, rfl, hg, hc, hn, hm, hs, ht⟩
  · exact ⟨none, 0, [], rfl, Nat.le_refl _, ⟨by simp, by simp, h0⟩, (by simp : ∀ x : Nat × Obj, x ∈ [] → base ≤ x.1), fun _ _ => .inl (List.eq_nil_of_length_eq_zero (by omega))⟩
  · have hlt : g < w.heap.size := by
      rcases Nat.lt_or_ge g w.heap.size with c | c
      · exact c
      · rw [Array.getElem?_eq_none c] at hc; cases hc
    refine ⟨some ⟨g, 0, none⟩, cap, [(g, .cells cur e (0, 0))], rfl, hn, ⟨by simpa using hc, by simpa using hlt, h0⟩, (by simpa using hg : ∀ x : Nat × Obj, x ∈ [(g, Obj.cells cur e (0, 0))] → base ≤ x.1), fun w' hb => ?_⟩
    have hc' : w'.heap[g]? = some (.cells cur e (0, 0)) := hb.get (by simp)
    have ho : Own w' base e k (.slice (some ⟨g, 0, none⟩) n cap) n l := ⟨h.1, .inr ⟨g, cap, cur, rfl, hg, hc', hn, hm, hs, ht⟩⟩
    obtain ⟨a, c, he, _, hba⟩ := ho.at_
    cases he
    exact hba

/-- A row that was made to its length is a list of the call's own. -/
theorem own_row {w : World} {base g : Nat} {e : TypeId} {k n : Nat} {l : List Int} (hg : w.heap[g]? = some (.cells (SA l) e (0, 0))) (hb : base ≤ g) (hl : l.length = n * k) (hn : n ≤ maxLen) : Own w base e k (.slice (some ⟨g, 0, none⟩) n n) n l :=
  ⟨by rw [List.length_map, hl], .inr ⟨g, n, SA l, rfl, hb, hg, Nat.le_refl _, hn, by rw [SA_size, hl], by simp only [SA]; rw [List.take_of_length_le (by simp [hl])]⟩⟩

/-- What is appended onto another list leaves this one. -/
theorem Own.grown {w w' : World} {base : Nat} {e : TypeId} {k : Nat} {v : Value} {n : Nat} {l : List Int} {row : Option Nat} (h : Own w base e k v n l) (hg : w.grownBy w' row) (hne : ∀ j, v.ownBlock = some j → row ≠ some j) : Own w' base e k v n l := by
  refine ⟨h.1, ?_⟩
  rcases h.2 with h | ⟨g, cap, cur, rfl, hge, hc, hr⟩
  · exact .inl h
  · have hlt : g < w.heap.size := by
      rcases Nat.lt_or_ge g w.heap.size with k | k
      · exact k
      · rw [Array.getElem?_eq_none k] at hc; cases hc
    exact .inr ⟨g, cap, cur, rfl, hge, by rw [hg.block g hlt (fun e => hne g rfl e.symm)]; exact hc, hr⟩
theorem Own.lt {w : World} {base : Nat} {e : TypeId} {k : Nat} {v : Value} {n : Nat} {l : List Int} (h : Own w base e k v n l) : ∀ j, v.ownBlock = some j → j < w.heap.size := by
  intro j hj
  rcases h.2 with ⟨rfl, _⟩ | ⟨g, cap, cur, rfl, hge, hc, hr⟩
  · simp [Value.ownBlock] at hj
  · have e : g = j := by simpa [Value.ownBlock] using hj
    subst e
    rcases Nat.lt_or_ge g w.heap.size with k | k
    · exact k
    · rw [Array.getElem?_eq_none k] at hc; cases hc

/-- A list of the call's own with something in it: its block. -/
theorem Own.blk1 {w : World} {base : Nat} {e : TypeId} {k : Nat} {v : Value} {n : Nat} {l : List Int} (h : Own w base e k v n l) (hn0 : 0 < n) :
    ∃ (g cap : Nat) (cur : Array Value), v = .slice (some ⟨g, 0, none⟩) n cap ∧ n ≤ cap ∧ base ≤ g ∧ w.heap[g]? = some (.cells cur e (0, 0)) ∧ Hid (∀ w' : World, w'.heap[g]? = some (.cells cur e (0, 0)) → BytesAt w' (some ⟨g, 0, none⟩) l) := by
  rcases h.2 with ⟨_, h0⟩ | ⟨g, cap, cur, rfl, hg, hc, hn, hm, hs, ht⟩
  · omega
  · refine ⟨g, cap, cur, rfl, hn, hg, hc, fun w' hc' => ?_⟩
    have ho : Own w' base e k (.slice (some ⟨g, 0, none⟩) n cap) n l := ⟨h.1, .inr ⟨g, cap, cur, rfl, hg, hc', hn, hm, hs, ht⟩⟩
    obtain ⟨a, c, he, _, hba⟩ := ho.at_
    cases he
    exact hba

theorem range_behind {w : World} {g k : Nat} {l r : List Int} (h : BytesAt w (some ⟨g, 0, none⟩) (l ++ r)) (hl : l.length = k) : w.rangeAt g k (r.map (Value.int .u8)) := by
  intro j v hj
  have hlt : j < r.length := by
    rcases Nat.lt_or_ge j r.length with c | c
    · exact c
    · rw [List.getElem?_eq_none (by simpa using c)] at hj; cases hj
  rcases h with h | ⟨b, o, he, _, hc⟩
  · have := congrArg List.length h
    rw [List.length_append, List.length_nil] at this
    omega
  · cases he
    have hk := hc (k + j) (by rw [List.length_append]; omega)
    rw [Nat.zero_add] at hk
    rw [hk]
    rw [List.getElem?_map, List.getElem?_eq_getElem hlt] at hj
    simp only [Option.map_some, Option.some.injEq] at hj
    subst hj
    rw [List.getD_eq_getElem?_getD, List.getElem?_append_right (by omega), hl, Nat.add_sub_cancel_left, List.getElem?_eq_getElem hlt]
    rfl

theorem apart_row {w0 : World} {bl : List (Nat × Obj)} {g m n : Nat} (hb : w0.heap.size ≤ g) (hne : ∀ x, x ∈ bl → x.1 ≠ g) : Apart w0 bl (.slice (some ⟨g, 0, none⟩) m n) := by
  intro k hk
  have hk : g = k := by simpa [Value.ownBlock] using hk
  subst hk
  exact ⟨hb, hne⟩
theorem Apart.ne {w0 : World} {bl : List (Nat × Obj)} {g m n : Nat} (h : Apart w0 bl (.slice (some ⟨g, 0, none⟩) m n)) : ∀ x, x ∈ bl → x.1 ≠ g := (h g rfl).2
theorem Below.refl_call (w : World) (o : Obj) : Below w.heap.size w (w.alloc o) := (Below.refl _ _).alloc (Nat.le_refl _) o

end Go.Proofs.YtamoepninddbcaaGreat.D
