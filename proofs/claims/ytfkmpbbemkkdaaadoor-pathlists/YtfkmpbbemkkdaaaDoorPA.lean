/-
  Lists of texts and of bytes that grow, of the call's own.
-/
import Derived.Test.YtfkmpbbemkkdaaaDoorPK
import Derived.Maps.AppendAt
import Derived.Deep.DeepMust
import Derived.Laws.IdiomStrings
namespace Go.Proofs.YtfkmpbbemkkdaaaDoor
open Go.RowKit Go.Shelf

def TOwn (w : World) (B : Nat) (v : Value) (l : List ByteArray) : Prop := w.ownsRow B 9 1 v l.length (l.map Value.string)
def byteV (b : UInt8) : Value := .int .u8 (b.toNat : Int)
def BOwn (w : World) (B : Nat) (v : Value) (l : List UInt8) : Prop := w.ownsRow B 5 1 v l.length (l.map byteV)

theorem row_keep {w w' : World} {base e k n : Nat} {v : Value} {xs : List Value} {ks : Nat → Prop} (h : w.ownsRow base e k v n xs) (hc : Chg w w' ks) (hn : ∀ j, v.ownBlock = some j → ¬ ks j) : w'.ownsRow base e k v n xs := by
  refine ⟨h.1, ?_⟩
  rcases h.2 with h | ⟨g, cap, cur, rfl, hg, hb, r⟩
  · exact .inl h
  · exact .inr ⟨g, cap, cur, rfl, hg, hc.keep hb (hn g rfl), r⟩
theorem row_ge {w : World} {base e k n : Nat} {v : Value} {xs : List Value} (h : w.ownsRow base e k v n xs) {j : Nat} (hj : v.ownBlock = some j) : base ≤ j ∧ j < w.heap.size := by
  rcases h.2 with ⟨rfl, _⟩ | ⟨g, cap, cur, rfl, hg, hb, _⟩
  · simp [Value.ownBlock] at hj
  · have e : g = j := by simpa [Value.ownBlock] using hj
    subst e
    exact ⟨hg, slt hb⟩
theorem row_below {w w' : World} {base e k n : Nat} {v : Value} {xs : List Value} (h : w.ownsRow base e k v n xs) (hb : Below w.heap.size w w') : w'.ownsRow base e k v n xs :=
  row_keep h (Chg.of_below hb No) fun _ _ e => e
theorem row_nil (w : World) (base e k : Nat) : w.ownsRow base e k (.slice none 0 0) 0 [] := ⟨by simp, .inl ⟨rfl, rfl⟩⟩
theorem row_shape {w : World} {base e k n : Nat} {v : Value} {xs : List Value} (h : w.ownsRow base e k v n xs) : ∃ a cap, v = .slice a n cap ∧ n ≤ cap ∧ (∀ ad, a = some ad → ∃ g, ad = ⟨g, 0, none⟩ ∧ base ≤ g) := by
  rcases h.2 with ⟨rfl, h0⟩ | ⟨g, cap, cur, rfl, hg, hb, hc, _⟩
  · subst h0; exact ⟨none, 0, rfl, Nat.le_refl _, fun ad e => by cases e⟩
  · exact ⟨_, cap, rfl, hc, fun ad e => by cases e; exact ⟨g, rfl, hg⟩⟩
theorem row_cells {w : World} {base e n : Nat} {v : Value} {xs : List Value} (h : w.ownsRow base e 1 v n xs) (hn : 0 < n) : ∃ g cap, v = .slice (some ⟨g, 0, none⟩) n cap ∧ base ≤ g ∧ g < w.heap.size ∧ n ≤ cap ∧ ∀ (j : Nat) u, xs[j]? = some u → w.cell? ⟨g, j, none⟩ = some u := by
  rcases h.2 with ⟨rfl, h0⟩ | ⟨g, cap, cur, rfl, hg, hb, hc, hm, hs, ht⟩
  · omega
  · refine ⟨g, cap, rfl, hg, slt hb, hc, fun j u hj => ?_⟩
    rw [cell_of_row _ _ _ _ _ _ hb]
    rw [← ht, List.getElem?_take] at hj
    split at hj
    · rw [← Array.getElem?_toList]; exact hj
    · cases hj
theorem TOwn.at {w : World} {B : Nat} {v : Value} {l : List ByteArray} (h : TOwn w B v l) : ∃ a cap, v = .slice a l.length cap ∧ l.length ≤ cap ∧ LAt w a l := by
  cases l with
  | nil =>
    obtain ⟨a, cap, rfl, hc, _⟩ := row_shape h
    exact ⟨a, cap, rfl, hc, .inl rfl⟩
  | cons x l =>
    obtain ⟨g, cap, rfl, hb, hg, hc, hcell⟩ := row_cells h (by simp)
    exact ⟨_, cap, rfl, hc, .inr ⟨g, rfl, hg, fun j y hy => hcell j _ (by rw [List.getElem?_map, hy]; rfl)⟩⟩

theorem infoT : ∃ i, Tryd.prog.info? 9 = some i ∧ i.zero = some (.string ByteArray.empty) ∧ i.size = 1 ∧ i.bytes = 16 := by
  have h := info9
  cases hq : Tryd.prog.info? 9 with
  | none => rw [hq] at h; cases h
  | some i =>
    rw [hq] at h
    simp at h
    exact ⟨i, rfl, h.1, h.2.1, h.2.2⟩
theorem infoB : ∃ i, Tryd.prog.info? 5 = some i ∧ i.zero = some (.int .u8 0) ∧ i.size = 1 ∧ i.bytes = 1 := by
  have h : (Tryd.prog.info? 5).map (fun i => (i.zero, i.size, i.bytes)) = some (some (.int .u8 0), 1, 1) := by kernel_rfl
  cases hq : Tryd.prog.info? 5 with
  | none => rw [hq] at h; cases h
  | some i =>
    rw [hq] at h
    simp at h
    exact ⟨i, rfl, h.1, h.2.1, h.2.2⟩

section
variable {ops : Array Oper} {rest : List Oper} {o : Oper} {a : Act} {Q : Exit → Act → World → Prop} {w : World}
/-- append of texts that lie elsewhere. -/
theorem wp_appT (hg : o.guard = none) (s x : Operand) (hop : o.op = .call { callee := .builtin .append, args := #[s, x], argTypes := #[22, 22] }) (base m c : Nat) (ad : Addr) (v : Value) (l ys : List ByteArray) (hm : m = ys.length) (hs : a.eval s = v) (hx : a.eval x = .slice (some ad) m c)
    (hown : TOwn w base v l) (hat : ∀ (j : Nat) y, ys[j]? = some y → w.cell? (ad.add j) = some (.string y)) (hl : (l.length + ys.length) * 16 ≤ 140737488355328) (hbase : base ≤ w.heap.size)
    (hK : ∀ v' w', TOwn w' base v' (l ++ ys) → Chg w w' (fun k => v.ownBlock = some k) → (v'.ownBlock = v.ownBlock ∨ v'.ownBlock = some w.heap.size) → wpList Tryd.prog ops Q rest (a.put o.dst v') w') : wpList Tryd.prog ops Q (o :: rest) a w := by
  subst hm
  obtain ⟨i, hi, hz, hsz, hby⟩ := infoT
  refine wpList_append_own_at w hg s x 22 hop base 9 i _ 1 16 Tryd.underlying22 hi hz hsz hby rfl (by decide) v l.length (l.map Value.string) hs hown ad ys.length c (ys.map Value.string) hx (by simp) (fun j u hj => ?_) (fun u hu => ?_) (by unfold maxLen; omega) hl hbase ?_
  · rw [List.getElem?_map] at hj
    cases e : ys[j]? with
    | none => rw [e] at hj; cases hj
    | some y => rw [e] at hj; cases hj; exact hat j y e
  · obtain ⟨y, _, rfl⟩ := List.mem_map.1 hu; rfl
  · intro v' w' h1 h2 _ h4
    refine hK v' w' ?_ ((Chg.grown h2).mono fun j _ e => e.symm) h4
    unfold TOwn
    rw [List.map_append, List.length_append]
    exact h1
/-- append of one byte. -/
theorem wp_appB (hg : o.guard = none) (s x : Operand) (hop : o.op = .call { callee := .builtin .append, args := #[s, x], argTypes := #[38, 38] }) (base g c : Nat) (v : Value) (l : List UInt8) (y : UInt8) (hs : a.eval s = v) (hx : a.eval x = .slice (some ⟨g, 0, none⟩) 1 c)
    (hown : BOwn w base v l) (hat : w.cell? ⟨g, 0, none⟩ = some (byteV y)) (hl : l.length ≤ 1000000000000) (hbase : base ≤ w.heap.size)
    (hK : ∀ v' w', BOwn w' base v' (l ++ [y]) → Chg w w' (fun k => v.ownBlock = some k) → (v'.ownBlock = v.ownBlock ∨ v'.ownBlock = some w.heap.size) → wpList Tryd.prog ops Q rest (a.put o.dst v') w') : wpList Tryd.prog ops Q (o :: rest) a w := by
  obtain ⟨i, hi, hz, hsz, hby⟩ := infoB
  refine wpList_append_own_at w hg s x 38 hop base 5 i _ 1 1 Tryd.underlying38 hi hz hsz hby rfl (by decide) v l.length (l.map byteV) hs hown ⟨g, 0, none⟩ 1 c [byteV y] hx rfl (fun j u hj => ?_) (by simp [byteV, Value.oneCell']) (by unfold maxLen; omega) (by omega) hbase ?_
  · cases j with
    | zero => simp at hj; subst hj; exact hat
    | succ j => simp at hj
  · intro v' w' h1 h2 _ h4
    refine hK v' w' ?_ ((Chg.grown h2).mono fun j _ e => e.symm) h4
    unfold BOwn
    rw [List.map_append, List.length_append]
    exact h1
end

/-- Bytes to a text. -/
theorem foldl_push (c : List UInt8) : ∀ r : ByteArray, c.foldl (fun r n => r.push n) r = ⟨r.data ++ c.toArray⟩ := by
  induction c with
  | nil => intro r; simp
  | cons x c ih =>
    intro r
    rw [List.foldl_cons, ih]
    congr 1
    simp [ByteArray.push]

end Go.Proofs.YtfkmpbbemkkdaaaDoor
