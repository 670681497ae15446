/-
  The calls of package disk that make a disk and tell of one: what they answer, for every input.
-/
import Derived.Test.YtboammbcoleicaaGreatDSteps
import Derived.Deep.AppendLies
import Derived.Test.YtboammbcoleicaaGreatDBase
import Derived.Deep.CutRange
import Derived.Deep.DeepCutAuto
namespace Go.Proofs.YtboammbcoleicaaGreat.D
open Go.RowKit
-- may lack

/-- What a list of the call's own is that has something in it: a row of its own. -/
theorem Own.row {w : World} {base : Nat} {e : TypeId} {k n : Nat} {v : Value} {l : List Int} (h : Own w base e k v n l) (hn : 0 < n) :
    ∃ g cap, v = .slice (some ⟨g, 0, none⟩) n cap ∧ base ≤ g ∧ g < w.heap.size ∧ (∀ j, j < n * k → w.cell? ⟨g, j, none⟩ = some (.int .u8 (l.getD j 0))) ∧ (∀ j, w.frozen? ⟨g, j, none⟩ = false) := by
  have hl := h.len
  rcases h.2 with ⟨_, h0⟩ | ⟨g, cap, cur, rfl, hg, hc, _, _, hs, ht⟩
  · omega
  · have hlt : g < w.heap.size := by
      rcases Nat.lt_or_ge g w.heap.size with c | c
      · exact c
      · rw [Array.getElem?_eq_none c] at hc; cases hc
    refine ⟨g, cap, rfl, hg, hlt, fun j hj => ?_, fun j => frozen_of_row w g j cur e hc⟩
    rw [cell_of_row w g j cur e (0, 0) hc]
    have h1 : (cur.toList.take (n * k))[j]? = (l.map (Value.int .u8))[j]? := by rw [ht]
    rw [List.getElem?_take, if_pos hj] at h1
    have hj' : j < l.length := by omega
    simp only [Array.getElem?_toList, List.getElem?_map, List.getElem?_eq_getElem hj', Option.map_some] at h1
    rw [h1]
    simp [hj']

/-- One byte is written. -/
theorem Own.set {w : World} {base : Nat} {e : TypeId} {k n g cap : Nat} {l : List Int} (h : Own w base e k (.slice (some ⟨g, 0, none⟩) n cap) n l) (j : Nat) (x : Int) :
    Own (w.setCell ⟨g, j, none⟩ (.int .u8 x)) base e k (.slice (some ⟨g, 0, none⟩) n cap) n (l.set j x) := by
  refine ⟨by rw [List.length_map, List.length_set, h.len], ?_⟩
  rcases h.2 with ⟨h0, _⟩ | ⟨g', cap', cur, he, hg, hc, h1, h2, hs, ht⟩
  · cases h0
  · cases he
    refine .inr ⟨g, cap, cur.setIfInBounds j (.int .u8 x), rfl, hg, heap_setCell_same w g j cur e _ hc, h1, h2, by rw [Array.size_setIfInBounds, hs], ?_⟩
    rw [Array.toList_setIfInBounds, List.take_set, ht, List.map_set]

theorem setCell_below {w0 w : World} {g j : Nat} {v : Value} {B : Nat} (h : Below B w0 w) (hg : B ≤ g) : Below B w0 (w.setCell ⟨g, j, none⟩ v) :=
  h.trans ⟨rfl, rfl, rfl, by simp [World.setCell], fun k hk => heap_setCell_other w ⟨g, j, none⟩ k _ (show k ≠ g by omega)⟩

theorem Own.ge {w : World} {base : Nat} {e : TypeId} {k n : Nat} {v : Value} {l : List Int} (h : Own w base e k v n l) : ∀ j, v.ownBlock = some j → base ≤ j := by
  intro j hj
  rcases h.2 with ⟨rfl, _⟩ | ⟨g, cap, cur, rfl, hg, _⟩
  · simp [Value.ownBlock] at hj
  · have e : g = j := by simpa [Value.ownBlock] using hj
    omega

/-- A list of the call's own that is empty, and was never made. -/
theorem Own.nil (w : World) (base : Nat) (e : TypeId) (k : Nat) : Own w base e k (.slice none 0 0) 0 [] := World.ownsRow_nil _ _ _ _

/-- Bytes written over others, from a place on. -/
def over : List Int → Nat → List Int → List Int
  | l, _, [] => l
  | l, o, x :: r => over (l.set o x) (o + 1) r
theorem over_eq : ∀ (r l : List Int) (o : Nat), o + r.length ≤ l.length → over l o r = l.take o ++ r ++ l.drop (o + r.length)
  | [], l, o, _ => by simp [over]
  | x :: r, l, o, h => by
    simp only [List.length_cons] at h
    rw [over, over_eq r (l.set o x) (o + 1) (by simp; omega)]
    have t1 : (l.set o x).take (o + 1) = l.take o ++ [x] := by
      rw [List.take_succ_eq_append_getElem (by simp; omega), List.take_set_of_le (Nat.le_refl _)]
      simp
    have t2 : (l.set o x).drop (o + 1 + r.length) = l.drop (o + (x :: r).length) := by
      rw [List.drop_set_of_lt (by omega), List.length_cons]
      congr 1
      omega
    rw [t1, t2, List.append_assoc, List.append_assoc, List.append_assoc]
    rfl
theorem WroteB.refl {w : World} {g : Nat} {t : TypeId} {c : List Int} (h : w.heap[g]? = some (.cells (SA c) t (0, 0))) : WroteB w g t c w := ⟨h, fun _ _ => rfl, rfl, rfl, rfl, rfl⟩
theorem WroteB.trans {w w1 w2 : World} {g : Nat} {t : TypeId} {c c' : List Int} (h : WroteB w g t c w1) (k : WroteB w1 g t c' w2) : WroteB w g t c' w2 :=
  ⟨k.here, fun j hj => (k.other j hj).trans (h.other j hj), k.size.trans h.size, k.os.trans h.os, k.tape.trans h.tape, k.output.trans h.output⟩
theorem over_cells {g : Nat} {t : TypeId} : ∀ (r l : List Int) (o : Nat) (w : World), w.heap[g]? = some (.cells (SA l) t (0, 0)) → WroteB w g t (over l o r) (w.setCells g o (r.map (Value.int .u8)))
  | [], _, _, _, h => WroteB.refl h
  | x :: r, l, o, w, h => by
    have h1 := row_setCell h o x
    exact h1.trans (over_cells r (l.set o x) (o + 1) _ h1.here)

/-- A sector is written in the midst of a list. -/
theorem store_mid {ops : Array Oper} {rest : List Oper} {o : Oper} {a : Act} {w : World} {Q : Exit → Act → World → Prop} (hgd : o.guard = none) (x y : Operand) (ho : o.op = .store 40 x y)
    (g off : Nat) (hx : a.eval x = .pointer (some ⟨g, off, none⟩)) (c : List Int) (hy : a.eval y = .agg (SA c)) (hc : c.length = 128) (t : TypeId) (l : List Int) (hg : w.heap[g]? = some (.cells (SA l) t (0, 0))) (hl : off + 128 ≤ l.length)
    (h : ∀ w', WroteB w g t (over l off c) w' → wpList Tryz.prog ops Q rest (a.put o.dst undef) w') : wpList Tryz.prog ops Q (o :: rest) a w := by
  refine wpList_store_mid hgd 40 x y ho g off (SA c) hx hy (fun j hj => ?_) (by rw [sz26, SA_size, hc]) (SA_one c) (h _ ?_)
  · rw [SA_size, hc] at hj
    rw [sec_cell hg (off + j) (by omega)]
    exact ⟨rfl, sec_free hg _⟩
  · have := over_cells c l off w hg
    simpa [SA] using this

theorem grown_refl (w : World) (r : Option Nat) : w.grownBy w r := ⟨rfl, rfl, rfl, Nat.le_refl _, fun _ _ _ => rfl⟩

/-- append of sectors onto a list of the call's own, out of a list that may be nil; and where the new list lies. -/
theorem append_secs2 {ops : Array Oper} {rest : List Oper} {o : Oper} {a : Act} {w : World} {Q : Exit → Act → World → Prop} (hgd : o.guard = none) (s x : Operand)
    (ho : o.op = .call { callee := .builtin .append, args := #[s, x], argTypes := #[26, 26] }) (base n m c : Nat) (v : Value) (l new : List Int) (ad : Option Addr) (hs : a.eval s = v) (hx : a.eval x = .slice ad m c)
    (hown : Own w base 40 128 v n l) (hl : new.length = m * 128) (hat : BytesAt w ad new) (hb : (n + m) * 128 ≤ 140737488355328) (hbase : base ≤ w.heap.size)
    (h : ∀ v' w', Own w' base 40 128 v' (n + m) (l ++ new) → w.grownBy w' v.ownBlock → (v'.ownBlock = v.ownBlock ∨ v'.ownBlock = some w.heap.size) → wpList Tryz.prog ops Q rest (a.put o.dst v') w') : wpList Tryz.prog ops Q (o :: rest) a w := by
  obtain ⟨i, hi, hz, hsz, hby⟩ := infoS
  cases ad with
  | some ad =>
    refine wpList_append_own_at w hgd s x 26 ho base 40 i _ 128 128 Tryz.underlying26 hi hz hsz hby (by rw [show Value.cells (.agg (SA Zs)) = SA Zs from rfl, SA_size, Zs_len]) (by decide) v n (l.map (Value.int .u8)) hs hown ad m c (new.map (Value.int .u8)) hx (by rw [List.length_map, hl]) (src_of hat) (one_cells new) (by unfold maxLen; omega) hb hbase ?_
    intro v' w' h1 h2 _ h3
    refine h v' w' ?_ h2 h3
    unfold Own
    rw [List.map_append]
    exact h1
  | none =>
    have hn : new = [] := by
      rcases hat with h0 | ⟨_, _, h0, _⟩
      · exact h0
      · cases h0
    subst hn
    have hm : m = 0 := by simp at hl; omega
    subst hm
    obtain ⟨a1, c1, rfl, hle, _⟩ := hown.at_
    refine wpList_plain hgd fun K hK => ?_
    unfold Oper.wp execOp
    have hr : (Builtin.append_ #[26, 26] o.type #[.slice a1 n c1, .slice none 0 c]).run Tryz.prog w = .ok (.slice a1 n c1) w := by
      simp [Builtin.append_, run_underlying Tryz.underlying26, sizeOf, typeInfo, hi, Builtin.lenOf, Builtin.firstCells, hle]
      cases a1 <;> simp [storeCells]
    simp only [ho, resolve, invoke, builtin, Sem.run_bind, Sem.run_pure, Result.andThen_ok, List.map_toArray, List.map_cons, List.map_nil, hs, hx, hr]
    exact hK _ _ (h _ _ (by rw [List.append_nil]; exact hown) (grown_refl _ _) (.inl rfl))

theorem HB.wroteB {w0 w w' : World} {bl : List (Nat × Obj)} {g : Nat} {t : TypeId} {c : List Int} (h : HB w0 bl w) (hw : WroteB w g t c w') (hg : w0.heap.size ≤ g) (hne : ∀ x, x ∈ bl → x.1 ≠ g) : HB w0 bl w' :=
  ⟨fun x hx => by rw [hw.other _ (hne x hx)]; exact h.at_ x hx, fun x hx => by rw [hw.size]; exact h.low x hx, hw.below h.old hg⟩
theorem HB.wroteH {w0 w w' : World} {bl : List (Nat × Obj)} {g : Nat} {o : Obj} {t : TypeId} {c : List Int} (h : HB w0 ((g, o) :: bl) w) (hw : WroteB w g t c w') (hg : w0.heap.size ≤ g) (hne : ∀ x, x ∈ bl → x.1 ≠ g) : HB w0 ((g, .cells (SA c) t (0, 0)) :: bl) w' :=
  (h.tail.wroteB hw hg hne).more hw.here
theorem HB.join {w0 w : World} {bl b2 : List (Nat × Obj)} (h : HB w0 bl w) (h2 : HB w0 b2 w) : HB w0 (b2 ++ bl) w := by
  refine ⟨fun x hx => ?_, fun x hx => ?_, h.old⟩
  · rcases List.mem_append.1 hx with k | k
    · exact h2.at_ x k
    · exact h.at_ x k
  · rcases List.mem_append.1 hx with k | k
    · exact h2.low x k
    · exact h.low x k
theorem HB.sub {w0 w : World} {bl b2 : List (Nat × Obj)} (h : HB w0 bl w) (hs : ∀ x, x ∈ b2 → x ∈ bl) : HB w0 b2 w := ⟨fun x hx => h.at_ x (hs x hx), fun x hx => h.low x (hs x hx), h.old⟩

/-- A list of the call's own: where it lies, as a list of at most one block; whoever keeps the block keeps the list. -/
theorem Own.blk {w : World} {base : Nat} {e : TypeId} {k : Nat} {v : Value} {n : Nat} {l : List Int} (h : Own w base e k v n l) (w0 : World) (h0 : Below w0.heap.size w0 w) :
    ∃ (a : Option Addr) (cap : Nat) (bl : List (Nat × Obj)), v = .slice a n cap ∧ n ≤ cap ∧ HB w0 bl w ∧ Hid (∀ x, x ∈ bl → base ≤ x.1) ∧ Hid (∀ w', HB w0 bl w' → BytesAt w' a l) := by
  have hl := h.len
  rcases h.2 with ⟨rfl, rfl⟩ | ⟨g, cap, cur, rfl, hg, hc, hn, hm, hs, ht⟩
  · exact ⟨none, 0, [], rfl, Nat.le_refl _, ⟨by simp, by simp, h0⟩, (by simp : ∀ x : Nat × Obj, x ∈ [] → base ≤ x.1), fun _ _ => .inl (List.eq_nil_of_length_eq_zero (by omega))⟩
  · have hlt : g < w.heap.size := by
      rcases Nat.lt_or_ge g w.heap.size with c | c
      · exact c
      · rw [Array.getElem?_eq_none c] at hc; cases hc
    refine ⟨some ⟨g, 0, none⟩, cap, [(g, .cells cur e (0, 0))], rfl, hn, ⟨by simpa using hc, by simpa using hlt, h0⟩, (by simpa using hg : ∀ x : Nat × Obj, x ∈ [(g, Obj.cells cur e (0, 0))] → base ≤ x.1), fun w' hb => ?_⟩
    have hc' : w'.heap[g]? = some (.cells cur e (0, 0)) := hb.get (by simp)
    have ho : Own w' base e k (.slice (some ⟨g, 0, none⟩) n cap) n l := ⟨h.1, .inr ⟨g, cap, cur, rfl, hg, hc', hn, hm, hs, ht⟩⟩
    obtain ⟨a, c, he, _, hba⟩ := ho.at_
    cases he
    exact hba

/-- A row that was made to its length is a list of the call's own. -/
theorem own_row {w : World} {base g : Nat} {e : TypeId} {k n : Nat} {l : List Int} (hg : w.heap[g]? = some (.cells (SA l) e (0, 0))) (hb : base ≤ g) (hl : l.length = n * k) (hn : n ≤ maxLen) : Own w base e k (.slice (some ⟨g, 0, none⟩) n n) n l :=
  ⟨by rw [List.length_map, hl], .inr ⟨g, n, SA l, rfl, hb, hg, Nat.le_refl _, hn, by rw [SA_size, hl], by simp only [SA]; rw [List.take_of_length_le (by simp [hl])]⟩⟩

/-- What is appended onto another list leaves this one. -/
theorem Own.grown {w w' : World} {base : Nat} {e : TypeId} {k : Nat} {v : Value} {n : Nat} {l : List Int} {row : Option Nat} (h : Own w base e k v n l) (hg : w.grownBy w' row) (hne : ∀ j, v.ownBlock = some j → row ≠ some j) : Own w' base e k v n l := by
  refine ⟨h.1, ?_⟩
  rcases h.2 with h | ⟨g, cap, cur, rfl, hge, hc, hr⟩
  · exact .inl h
  · have hlt : g < w.heap.size := by
      rcases Nat.lt_or_ge g w.heap.size with k | k
      · exact k
      · rw [Array.getElem?_eq_none k] at hc; cases hc
    exact .inr ⟨g, cap, cur, rfl, hge, by rw [hg.block g hlt (fun e => hne g rfl e.symm)]; exact hc, hr⟩
theorem Own.lt {w : World} {base : Nat} {e : TypeId} {k : Nat} {v : Value} {n : Nat} {l : List Int} (h : Own w base e k v n l) : ∀ j, v.ownBlock = some j → j < w.heap.size := by
  intro j hj
  rcases h.2 with ⟨rfl, _⟩ | ⟨g, cap, cur, rfl, hge, hc, hr⟩
  · simp [Value.ownBlock] at hj
  · have e : g = j := by simpa [Value.ownBlock] using hj
    subst e
    rcases Nat.lt_or_ge g w.heap.size with k | k
    · exact k
    · rw [Array.getElem?_eq_none k] at hc; cases hc

/-- A list of the call's own with something in it: its block. -/
theorem Own.blk1 {w : World} {base : Nat} {e : TypeId} {k : Nat} {v : Value} {n : Nat} {l : List Int} (h : Own w base e k v n l) (hn0 : 0 < n) :
    ∃ (g cap : Nat) (cur : Array Value), v = .slice (some ⟨g, 0, none⟩) n cap ∧ n ≤ cap ∧ base ≤ g ∧ w.heap[g]? = some (.cells cur e (0, 0)) ∧ Hid (∀ w' : World, w'.heap[g]? = some (.cells cur e (0, 0)) → BytesAt w' (some ⟨g, 0, none⟩) l) := by
  rcases h.2 with ⟨_, h0⟩ | ⟨g, cap, cur, rfl, hg, hc, hn, hm, hs, ht⟩
  · omega
  · refine ⟨g, cap, cur, rfl, hn, hg, hc, fun w' hc' => ?_⟩
    have ho : Own w' base e k (.slice (some ⟨g, 0, none⟩) n cap) n l := ⟨h.1, .inr ⟨g, cap, cur, rfl, hg, hc', hn, hm, hs, ht⟩⟩
    obtain ⟨a, c, he, _, hba⟩ := ho.at_
    cases he
    exact hba

/-- append of bytes, and where the new list lies. -/
theorem append_bytes2 {ops : Array Oper} {rest : List Oper} {o : Oper} {a : Act} {w : World} {Q : Exit → Act → World → Prop} (hgd : o.guard = none) (s x : Operand)
    (ho : o.op = .call { callee := .builtin .append, args := #[s, x], argTypes := #[59, 59] }) (base n m c : Nat) (v : Value) (l new : List Int) (ad : Addr) (hs : a.eval s = v) (hx : a.eval x = .slice (some ad) m c)
    (hown : Own w base 5 1 v n l) (hl : new.length = m) (hat : BytesAt w (some ad) new) (hb : n + m ≤ 140737488355328) (hbase : base ≤ w.heap.size)
    (h : ∀ v' w', Own w' base 5 1 v' (n + m) (l ++ new) → w.grownBy w' v.ownBlock → (v'.ownBlock = v.ownBlock ∨ v'.ownBlock = some w.heap.size) → wpList Tryz.prog ops Q rest (a.put o.dst v') w') : wpList Tryz.prog ops Q (o :: rest) a w := by
  obtain ⟨i, hi, hz, hsz, hby⟩ := infoB
  refine wpList_append_own_at w hgd s x 59 ho base 5 i _ 1 1 Tryz.underlying59 hi hz hsz hby rfl (by decide) v n (l.map (Value.int .u8)) hs hown ad m c (new.map (Value.int .u8)) hx (by rw [List.length_map, hl, Nat.mul_one]) (src_of hat) (one_cells new) (by unfold maxLen; omega) (by omega) hbase ?_
  intro v' w' h1 h2 _ h3
  refine h v' w' ?_ h2 h3
  unfold Own
  rw [List.map_append]
  exact h1

theorem range_behind {w : World} {g k : Nat} {l r : List Int} (h : BytesAt w (some ⟨g, 0, none⟩) (l ++ r)) (hl : l.length = k) : w.rangeAt g k (r.map (Value.int .u8)) := by
  intro j v hj
  have hlt : j < r.length := by
    rcases Nat.lt_or_ge j r.length with c | c
    · exact c
    · rw [List.getElem?_eq_none (by simpa using c)] at hj; cases hj
  rcases h with h | ⟨b, o, he, _, hc⟩
  · have := congrArg List.length h
    rw [List.length_append, List.length_nil] at this
    omega
  · cases he
    have hk := hc (k + j) (by rw [List.length_append]; omega)
    rw [Nat.zero_add] at hk
    rw [hk]
    rw [List.getElem?_map, List.getElem?_eq_getElem hlt] at hj
    simp only [Option.map_some, Option.some.injEq] at hj
    subst hj
    rw [List.getD_eq_getElem?_getD, List.getElem?_append_right (by omega), hl, Nat.add_sub_cancel_left, List.getElem?_eq_getElem hlt]
    rfl

theorem apart_row {w0 : World} {bl : List (Nat × Obj)} {g m n : Nat} (hb : w0.heap.size ≤ g) (hne : ∀ x, x ∈ bl → x.1 ≠ g) : Apart w0 bl (.slice (some ⟨g, 0, none⟩) m n) := by
  intro k hk
  have hk : g = k := by simpa [Value.ownBlock] using hk
  subst hk
  exact ⟨hb, hne⟩
theorem Apart.ne {w0 : World} {bl : List (Nat × Obj)} {g m n : Nat} (h : Apart w0 bl (.slice (some ⟨g, 0, none⟩) m n)) : ∀ x, x ∈ bl → x.1 ≠ g := (h g rfl).2
theorem Below.refl_call (w : World) (o : Obj) : Below w.heap.size w (w.alloc o) := (Below.refl _ _).alloc (Nat.le_refl _) o

end Go.Proofs.YtboammbcoleicaaGreat.D

namespace Go.Proofs.YtboammbcoleicaaGreat.D
open Go.RowKit
-- may lack

def pickN (c n : Int) : Int := (if c < 0 then -(c + 1) else c) % n
theorem pickN_bd (c : Int) {n : Int} (hn : 1 ≤ n) : 0 ≤ pickN c n ∧ pickN c n < n :=
  ⟨Int.emod_nonneg _ (by omega), Int.emod_lt_of_pos _ (by omega)⟩
/-- An int. -/
def I64 (c : Int) : Prop := -9223372036854775808 ≤ c ∧ c ≤ 9223372036854775807
theorem ret_int {k : IntKind} {a b : Int} (h : a = b) : Ending.returned (.int k a) = .returned (.int k b) := by rw [h]

set_option maxHeartbeats 400000 in
theorem pick_any (c n : Int) (w : World) (hc : I64 c) (hn : 1 ≤ n) (hn2 : n ≤ 4611686018427387904) :
    Calls Tryz.prog 20 #[.int .i64 c, .int .i64 n] w fun e w' => e = .returned (.int .i64 (pickN c n)) ∧ w' = w := by
  obtain ⟨h0, h1⟩ := hc
  have hn0 : (n == 0) = false := by simp; omega
  by_cases h : c < 0
  · have HP : Hid (pickN c n = (-(c + 1)) % n) := by show _ = _; rw [pickN, if_pos h]
    go_enter Tryz.func20, Tryz.ntmps20
    go_wp2
    go_ret
    exact ⟨ret_int (by rw [HP.out, ← Int.tmod_eq_emod_of_nonneg (by omega), Int.neg_tmod]), rfl⟩
  · have HP : Hid (pickN c n = c % n) := by show _ = _; rw [pickN, if_neg h]
    have h' : 0 ≤ c := by omega
    go_enter Tryz.func20, Tryz.ntmps20
    go_wp2
    go_ret
    exact ⟨ret_int (by rw [HP.out]), rfl⟩

end Go.Proofs.YtboammbcoleicaaGreat.D

namespace Go.Proofs.YtboammbcoleicaaGreat.D
open Go.RowKit
-- may lack

theorem slt {w : World} {g : Nat} {o : Obj} (h : w.heap[g]? = some o) : g < w.heap.size := by
  rcases Nat.lt_or_ge g w.heap.size with k | k
  · exact k
  · rw [Array.getElem?_eq_none k] at h; cases h

/-- Nothing that was there has turned but these blocks. -/
structure Mod (w w' : World) (ks : List Nat) : Prop where
  os : w'.os = w.os
  tape : w'.tape = w.tape
  output : w'.output = w.output
  size : w.heap.size ≤ w'.heap.size
  block : ∀ k, k < w.heap.size → k ∉ ks → w'.heap[k]? = w.heap[k]?

theorem Mod.refl (w : World) (ks : List Nat) : Mod w w ks := ⟨rfl, rfl, rfl, Nat.le_refl _, fun _ _ _ => rfl⟩
theorem Mod.of_below {w w' : World} (h : Below w.heap.size w w') : Mod w w' [] := ⟨h.os, h.tape, h.output, h.size, fun k hk _ => h.block k hk⟩
theorem Mod.below {w w' : World} (h : Mod w w' []) : Below w.heap.size w w' := ⟨h.os, h.tape, h.output, h.size, fun k hk => h.block k hk (by simp)⟩
theorem Mod.trans {w w1 w2 : World} {a b : List Nat} (h : Mod w w1 a) (k : Mod w1 w2 b) : Mod w w2 (a ++ b) :=
  ⟨k.os.trans h.os, k.tape.trans h.tape, k.output.trans h.output, Nat.le_trans h.size k.size, fun j hj hn => by
    rw [k.block j (Nat.lt_of_lt_of_le hj h.size) (fun e => hn (List.mem_append_right _ e)), h.block j hj (fun e => hn (List.mem_append_left _ e))]⟩
theorem Mod.mono {w w' : World} {a b : List Nat} (h : Mod w w' a) (hs : ∀ k, k ∈ a → k < w.heap.size → k ∈ b) : Mod w w' b :=
  ⟨h.os, h.tape, h.output, h.size, fun k hk hn => h.block k hk (fun e => hn (hs k e hk))⟩
theorem Mod.drew {w w' : World} {a : List Nat} (h : Mod w w' a) : Mod w w'.drew a := ⟨h.os, h.tape, h.output, h.size, h.block⟩
theorem Mod.set {w : World} {g j : Nat} {v : Value} : Mod w (w.setCell ⟨g, j, none⟩ v) [g] :=
  ⟨rfl, rfl, rfl, by simp [World.setCell], fun k _ hn => heap_setCell_other w ⟨g, j, none⟩ k _ (fun e => hn (by simp [e]))⟩
theorem Mod.wrote {w w' : World} {g : Nat} {t : TypeId} {c : List Int} (h : WroteB w g t c w') : Mod w w' [g] :=
  ⟨h.os, h.tape, h.output, Nat.le_of_eq h.size.symm, fun k _ hn => h.other k (fun e => hn (by simp [e]))⟩
theorem Mod.to {w0 w w' : World} {ks : List Nat} {B : Nat} (h : Mod w w' ks) (hb : Below B w0 w) (hB : B ≤ w.heap.size) (hk : ∀ k, k ∈ ks → B ≤ k) : Below B w0 w' :=
  hb.trans ⟨h.os, h.tape, h.output, h.size, fun k hkB => h.block k (Nat.lt_of_lt_of_le hkB hB) (fun e => by have := hk k e; omega)⟩
theorem HB.mod {w0 w w' : World} {bl : List (Nat × Obj)} {ks : List Nat} (h : HB w0 bl w) (hm : Mod w w' ks) (hn : ∀ x, x ∈ bl → x.1 ∉ ks) (hk : ∀ k, k ∈ ks → w0.heap.size ≤ k) : HB w0 bl w' :=
  ⟨fun x hx => by rw [hm.block x.1 (h.low x hx) (hn x hx)]; exact h.at_ x hx, fun x hx => Nat.lt_of_lt_of_le (h.low x hx) hm.size, hm.to h.old h.old.size hk⟩

/-- A disk's own cells. -/
def DC (g n : Nat) (wr : Int) (dn ar : Bool) (lf : Int) : Array Value := #[.slice (some ⟨g, 0, none⟩) n n, .int .i64 wr, .bool dn, .bool ar, .int .i64 lf]
/-- The cells of the document's disk. -/
def RC (g n c : Nat) (wr : Int) (ar : Bool) (lf : Int) (dn : Bool) : Array Value := #[.slice (some ⟨g, 0, none⟩) n c, .int .i64 wr, .bool ar, .int .i64 lf, .bool dn]

/-- What a disk has. -/
structure St8 where
  S : List Int
  wr : Int
  dn : Bool
  ar : Bool
  lf : Int

/-- A disk lies at p, its sectors at g. -/
structure IsD (w : World) (p g n : Nat) (d : St8) : Prop where
  me : w.heap[p]? = some (.cells (DC g n d.wr d.dn d.ar d.lf) 65 (0, 0))
  row : w.heap[g]? = some (.cells (SA d.S) 40 (0, 0))
  len : d.S.length = 128 * n
  pos : 1 ≤ n
  top : n ≤ 4096
theorem IsD.ne {w : World} {p g n : Nat} {d : St8} (h : IsD w p g n d) : p ≠ g := by
  intro e
  have h1 := h.me
  rw [e, h.row] at h1
  injection h1 with h1
  injection h1 with _ h2
  revert h2
  decide
theorem IsD.keep {w w' : World} {p g n : Nat} {d : St8} {ks : List Nat} (h : IsD w p g n d) (hm : Mod w w' ks) (hp : p ∉ ks) (hg : g ∉ ks) : IsD w' p g n d :=
  ⟨by rw [hm.block p (slt h.me) hp]; exact h.me, by rw [hm.block g (slt h.row) hg]; exact h.row, h.len, h.pos, h.top⟩
theorem IsD.call {w w' : World} {p g n : Nat} {d : St8} (h : IsD w p g n d) (hb : Below w.heap.size w w') : IsD w' p g n d := h.keep (Mod.of_below hb) (by simp) (by simp)

theorem IsD.drew {w : World} {p g n : Nat} {d : St8} (h : IsD w p g n d) : IsD w.drew p g n d := ⟨h.me, h.row, h.len, h.pos, h.top⟩

theorem IsD.drewN {w : World} {p g n : Nat} {d : St8} (h : IsD w p g n d) (k : Nat) : IsD (w.drewN k) p g n d := ⟨h.me, h.row, h.len, h.pos, h.top⟩
theorem below_drewN (w : World) (B k : Nat) : Below B w (w.drewN k) := ⟨rfl, rfl, rfl, Nat.le_refl _, fun _ _ => rfl⟩

theorem IsD.c0 {w : World} {p g n : Nat} {d : St8} (h : IsD w p g n d) : w.cell? ⟨p, 0, none⟩ = some (.slice (some ⟨g, 0, none⟩) n n) := by rw [cell_of_row _ _ _ _ _ _ h.me]; rfl
theorem IsD.c1 {w : World} {p g n : Nat} {d : St8} (h : IsD w p g n d) : w.cell? ⟨p, 1, none⟩ = some (.int .i64 d.wr) := by rw [cell_of_row _ _ _ _ _ _ h.me]; rfl
theorem IsD.c2 {w : World} {p g n : Nat} {d : St8} (h : IsD w p g n d) : w.cell? ⟨p, 2, none⟩ = some (.bool d.dn) := by rw [cell_of_row _ _ _ _ _ _ h.me]; rfl
theorem IsD.c3 {w : World} {p g n : Nat} {d : St8} (h : IsD w p g n d) : w.cell? ⟨p, 3, none⟩ = some (.bool d.ar) := by rw [cell_of_row _ _ _ _ _ _ h.me]; rfl
theorem IsD.c4 {w : World} {p g n : Nat} {d : St8} (h : IsD w p g n d) : w.cell? ⟨p, 4, none⟩ = some (.int .i64 d.lf) := by rw [cell_of_row _ _ _ _ _ _ h.me]; rfl
theorem IsD.fz {w : World} {p g n : Nat} {d : St8} (h : IsD w p g n d) (j : Nat) : w.frozen? ⟨p, j, none⟩ = false := frozen_of_row w p j _ _ h.me

/-- copy of a whole row of sectors. -/
theorem run_copy_secs (w : World) (ty : TypeId) (g m c : Nat) (a : Addr) (sc : Nat) (old new : List Int) (hg : w.heap[g]? = some (.cells (SA old) 40 (0, 0))) (ho : old.length = 128 * m) (hl : new.length = 128 * m) (hs : BytesAt w (some a) new) :
    (Builtin.copy_ #[26, 26] ty #[.slice (some ⟨g, 0, none⟩) m c, .slice (some a) m sc]).run Tryz.prog w = .ok (goInt m) (w.setRow g (SA new)) := by
  obtain ⟨i, hi, hz, hsz, hby⟩ := infoS
  have h1 := run_loadCells_list (P := Tryz.prog) w a (new.map (Value.int .u8)) (src_of hs)
  have h2 := run_storeCells_at Tryz.prog g 0 40 (new.map (Value.int .u8)) 0 (SA old) w hg (by rw [SA_size, List.length_map]; omega) (one_cells new)
  rw [List.length_map, hl] at h1
  have e : ((SA old).toList.take (0 + 0) ++ new.map (Value.int .u8) ++ (SA old).toList.drop (0 + 0 + (new.map (Value.int .u8)).length)).toArray = SA new := by
    rw [List.drop_of_length_le (by simp [SA]; omega)]
    simp [SA]
  rw [e] at h2
  have hm : m * 128 = 128 * m := Nat.mul_comm _ _
  simp [Builtin.copy_, run_underlying Tryz.underlying26, Builtin.lenOf, Builtin.firstCells, sizeOf, typeInfo, hi, hsz, hm, h1, h2]
theorem copy_secs {ops : Array Oper} {rest : List Oper} {o : Oper} {a : Act} {w : World} {Q : Exit → Act → World → Prop} (hgd : o.guard = none) (d s : Operand)
    (ho : o.op = .call { callee := .builtin .copy, args := #[d, s], argTypes := #[26, 26] }) (g m c : Nat) (ad : Addr) (sc : Nat) (old new : List Int) (hd : a.eval d = .slice (some ⟨g, 0, none⟩) m c) (hs : a.eval s = .slice (some ad) m sc)
    (hg : w.heap[g]? = some (.cells (SA old) 40 (0, 0))) (hol : old.length = 128 * m) (hl : new.length = 128 * m) (hat : BytesAt w (some ad) new)
    (h : ∀ w', WroteB w g 40 new w' → wpList Tryz.prog ops Q rest (a.put o.dst (goInt m)) w') : wpList Tryz.prog ops Q (o :: rest) a w := by
  refine wpList_plain hgd fun K hK => ?_
  have hrun := run_copy_secs w o.type g m c ad sc old new hg hol hl hat
  unfold Oper.wp
  simp [execOp, ho, resolve, invoke, builtin, hd, hs, hrun, Result.andThen]
  refine hK _ _ (h _ ⟨?_, ?_, ?_, rfl, rfl, rfl⟩)
  · simp [World.setRow, Array.getElem?_modify, hg]
  · intro k hk
    simp only [World.setRow, Array.getElem?_modify]
    rw [if_neg (fun e => hk e.symm)]
  · simp [World.setRow]

theorem wrote_row {w : World} {g : Nat} {t : TypeId} {old : Array Value} (c : List Int) (hg : w.heap[g]? = some (.cells old t (0, 0))) : WroteB w g t c (w.setRow g (SA c)) := by
  refine ⟨?_, ?_, ?_, rfl, rfl, rfl⟩
  · simp [World.setRow, Array.getElem?_modify, hg]
  · intro k hk
    simp only [World.setRow, Array.getElem?_modify]
    rw [if_neg (fun e => hk e.symm)]
  · simp [World.setRow]

end Go.Proofs.YtboammbcoleicaaGreat.D

namespace Go.Proofs.YtboammbcoleicaaGreat.D
open Go.RowKit
-- may lack

def mayB (n : Int) : Bool := decide (1 ≤ n ∧ n ≤ 4096)
theorem mayB_true {n : Int} (h : 1 ≤ n ∧ n ≤ 4096) : mayB n = true := decide_eq_true h
theorem mayB_false {n : Int} (h : ¬ (1 ≤ n ∧ n ≤ 4096)) : mayB n = false := decide_eq_false h

set_option maxHeartbeats 400000 in
theorem maySize_any (n : Int) (w : World) : Calls Tryz.prog 34 #[.int .i64 n] w fun e w' => e = .returned (.bool (mayB n)) ∧ w' = w := by
  by_cases h1 : 1 ≤ n
  · by_cases h2 : n ≤ 4096
    · go_enter Tryz.func34, Tryz.ntmps34
      go_wp2
      go_ret
      exact ⟨ret_bool (mayB_true (by omega)).symm, rfl⟩
    · go_enter Tryz.func34, Tryz.ntmps34
      go_wp2
      go_ret
      exact ⟨ret_bool (mayB_false (by omega)).symm, rfl⟩
  · go_enter Tryz.func34, Tryz.ntmps34
    go_wp2
    go_ret
    exact ⟨ret_bool (mayB_false (by omega)).symm, rfl⟩

def fresh (n : Nat) : St8 := ⟨zl (128 * n), 0, false, false, 0⟩
def D0 (S : List Int) : St8 := ⟨S, 0, false, false, 0⟩

theorem build_disk (v : Value) (a : Option Addr) (n c : Nat) (hv : v = .slice a n c) (w : World) : (Instr.build 65 #[(0, v)]).run Tryz.prog w = .ok (.agg #[v, .int .i64 0, .bool false, .bool false, .int .i64 0]) w := by
  subst hv
  kernel_rfl

set_option maxHeartbeats 400000 in
theorem laid_any (m cap : Nat) (ad : Addr) (fl : List Int) (w : World) (h1 : m ≤ 5003) (hl : Hid (fl.length = 128 * m)) (HZ : Hid (BytesAt w (some ad) fl)) :
    Calls Tryz.prog 35 #[.slice (some ad) m cap] w fun e w' => ∃ g, e = .returned (.slice (some ⟨g, 0, none⟩) m m) ∧ w.heap.size ≤ g ∧ w'.heap[g]? = some (.cells (SA fl) 40 (0, 0)) ∧ Below w.heap.size w w' := by
  have hmk := make_secs (m : Int) (by omega) (by omega)
  rw [Int.toNat_natCast] at hmk
  have hb : Below w.heap.size w (w.alloc (.cells (SA (zl (128 * m))) 40)) := Below.refl_call w _
  have hcp := run_copy_secs (w.alloc (.cells (SA (zl (128 * m))) 40)) 3 w.heap.size m m ad cap (zl (128 * m)) fl (heap_alloc_new _ _) (zl_len _) hl.out (bytes_below HZ.out hb)
  have HW := hid (wrote_row fl (heap_alloc_new w (.cells (SA (zl (128 * m))) 40)))
  go_enter Tryz.func35, Tryz.ntmps35
  go_wp2
  go_ret
  exact ⟨_, rfl, Nat.le_refl _, HW.out.here, HW.out.below hb (Nat.le_refl _)⟩

set_option maxHeartbeats 400000 in
theorem writes_any {p g n : Nat} {d : St8} (w : World) (h : IsD w p g n d) : Calls Tryz.prog 15 #[.pointer (some ⟨p, 0, none⟩)] w fun e w' => e = .returned (.int .i64 d.wr) ∧ w' = w := by
  have h0 := h.c1
  go_enter Tryz.func15, Tryz.ntmps15
  go_wp2
  go_ret
  exact ⟨rfl, rfl⟩
def refE (d : St8) (n : Nat) (i : Int) : Int := if d.dn = true then 22 else if i < 0 ∨ (n : Int) ≤ i then 21 else 0
set_option maxHeartbeats 400000 in
theorem refusal_any {p g n : Nat} {d : St8} (i : Int) (w : World) (h : IsD w p g n d) : Calls Tryz.prog 36 #[.pointer (some ⟨p, 0, none⟩), .int .i64 i] w fun e w' => e = .returned (.int .i64 (refE d n i)) ∧ w' = w := by
  have h0 := h.c0
  have h2 := h.c2
  cases hd : d.dn
  · rw [hd] at h2
    by_cases hi : i < 0
    · have HE : Hid (refE d n i = 21) := by show _ = _; simp [refE, hd, hi]
      clear hd
      go_enter Tryz.func36, Tryz.ntmps36
      go_wp2
      go_ret
      exact ⟨ret_int HE.out.symm, rfl⟩
    · by_cases hn : (n : Int) ≤ i
      · have HE : Hid (refE d n i = 21) := by show _ = _; simp [refE, hd, hn]
        clear hd
        go_enter Tryz.func36, Tryz.ntmps36
        go_wp2
        go_ret
        exact ⟨ret_int HE.out.symm, rfl⟩
      · have HE : Hid (refE d n i = 0) := by show _ = _; simp [refE, hd, hn, hi]
        clear hd
        go_enter Tryz.func36, Tryz.ntmps36
        go_wp2
        go_ret
        exact ⟨ret_int HE.out.symm, rfl⟩
  · have HE : Hid (refE d n i = 22) := by show _ = _; simp [refE, hd]
    rw [hd] at h2
    clear hd
    go_enter Tryz.func36, Tryz.ntmps36
    go_wp2
    go_ret
    exact ⟨ret_int HE.out.symm, rfl⟩

/-- One cell of a disk is written. -/
theorem IsD.put {w : World} {p g n : Nat} {d d' : St8} (h : IsD w p g n d) (j : Nat) (v : Value) (hS : d'.S = d.S) (he : (DC g n d.wr d.dn d.ar d.lf).setIfInBounds j v = DC g n d'.wr d'.dn d'.ar d'.lf) : IsD (w.setCell ⟨p, j, none⟩ v) p g n d' := by
  refine ⟨?_, ?_, by rw [hS]; exact h.len, h.pos, h.top⟩
  · rw [heap_setCell_same w p j _ 65 v h.me, he]
  · rw [heap_setCell_other w ⟨p, j, none⟩ g v (fun e => h.ne e.symm), hS]
    exact h.row

def armE (d : St8) (k : Int) : Int := if k < 0 then 1 else if d.dn = true then 22 else 0
def armD (d : St8) (k : Int) : St8 := if k < 0 then d else if d.dn = true then d else ⟨d.S, d.wr, d.dn, true, k⟩
set_option maxHeartbeats 400000 in
theorem arm_any {p g n : Nat} {d : St8} (k : Int) (w : World) (h : IsD w p g n d) : Calls Tryz.prog 13 #[.pointer (some ⟨p, 0, none⟩), .int .i64 k] w fun e w' => e = .returned (.int .i64 (armE d k)) ∧ IsD w' p g n (armD d k) ∧ Mod w w' [p] := by
  have h2 := h.c2
  have h3 := h.c3
  have h4 := h.c4
  have f3 := h.fz 3
  have f4 := h.fz 4
  by_cases hk : k < 0
  · have HE : Hid (armE d k = 1) := by show _ = _; simp [armE, hk]
    have HD : Hid (armD d k = d) := by show _ = _; simp [armD, hk]
    go_enter Tryz.func13, Tryz.ntmps13
    go_wp2
    go_ret
    exact ⟨ret_int HE.out.symm, by rw [HD.out]; exact h, Mod.refl _ _⟩
  · cases hd : d.dn
    · have HE : Hid (armE d k = 0) := by show _ = _; simp [armE, hk, hd]
      have HD : Hid (armD d k = ⟨d.S, d.wr, d.dn, true, k⟩) := by show _ = _; simp [armD, hk, hd]
      rw [hd] at h2
      clear hd
      go_enter Tryz.func13, Tryz.ntmps13
      go_wp2
      go_ret
      have a1 : IsD (w.setCell ⟨p, 3, none⟩ (.bool true)) p g n ⟨d.S, d.wr, d.dn, true, d.lf⟩ := h.put 3 _ rfl rfl
      exact ⟨ret_int HE.out.symm, by rw [HD.out]; exact a1.put 4 _ rfl rfl, (Mod.set.trans Mod.set).mono (by simp)⟩
    · have HE : Hid (armE d k = 22) := by show _ = _; simp [armE, hk, hd]
      have HD : Hid (armD d k = d) := by show _ = _; simp [armD, hk, hd]
      rw [hd] at h2
      clear hd
      go_enter Tryz.func13, Tryz.ntmps13
      go_wp2
      go_ret
      exact ⟨ret_int HE.out.symm, by rw [HD.out]; exact h, Mod.refl _ _⟩

set_option maxHeartbeats 400000 in
theorem image_any {p g n : Nat} {d : St8} (w : World) (h : IsD w p g n d) : Calls Tryz.prog 18 #[.pointer (some ⟨p, 0, none⟩)] w fun e w' => ∃ q, e = .returned (.slice (some ⟨q, 0, none⟩) n n) ∧ w.heap.size ≤ q ∧ w'.heap[q]? = some (.cells (SA d.S) 40 (0, 0)) ∧ Below w.heap.size w w' := by
  have h0 := h.c0
  have HT := h.top
  have HL := laid_any n n ⟨g, 0, none⟩ d.S w (by omega) h.len (row_bytes h.row)
  clear HT
  go_enter Tryz.func18, Tryz.ntmps18
  go_wp2_with (go_at_call 35; refine HL.mono ?_; rintro e w1 ⟨q, rfl, h1, h2, h3⟩)
  go_ret
  exact ⟨q, rfl, h1, h2, h3⟩

end Go.Proofs.YtboammbcoleicaaGreat.D
