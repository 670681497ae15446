/-
  What SectorLists wants besides: lists of blocks turned about; a sector loaded in the midst; two lists that grow side by side.
-/
import Derived.Test.YtibneoajkbblaaaLists1
namespace Go.Proofs.Ytibneoajkbblaaa
open Go.RowKit

theorem lent_row {w : World} {g : Nat} {zs : List Int} (hg : w.heap[g]? = some (.cells (SA (lentL zs)) 5 (0, 0))) : BytesAt w (some ⟨g, 0, none⟩) zs := by
  have hlt : g < w.heap.size := by
    rcases Nat.lt_or_ge g w.heap.size with k | k
    · exact k
    · rw [Array.getElem?_eq_none k] at hg; cases hg
  refine .inr ⟨g, 0, rfl, hlt, fun j hj => ?_⟩
  rw [Nat.zero_add, sec_cell hg j (by rw [lentL_len]; omega), lentL_get zs j (by omega), if_pos hj]

theorem HB.regroup {w0 w : World} {a b c : List (Nat × Obj)} {p q r x : Nat × Obj} (h : HB w0 (x :: (a ++ (b ++ (c ++ [r, q, p])))) w) : HB w0 (p :: q :: r :: x :: (a ++ c)) w := by
  refine h.sub fun y hy => ?_
  simp only [List.mem_cons, List.mem_append, List.not_mem_nil, or_false] at hy ⊢
  rcases hy with h | h | h | h | h | h <;> simp [h]
theorem HB.rot5 {w0 w : World} {a b c d e : Nat × Obj} {K : List (Nat × Obj)} (h : HB w0 (a :: b :: c :: d :: e :: K) w) : HB w0 (b :: c :: d :: e :: a :: K) w := by
  refine h.sub fun y hy => ?_
  simp only [List.mem_cons] at hy ⊢
  rcases hy with h | h | h | h | h | h <;> simp [h]
theorem HB.init {w0 w : World} {l : List (Nat × Obj)} {x : Nat × Obj} (h : HB w0 (l ++ [x]) w) : HB w0 l w := h.sub fun _ hy => List.mem_append_left _ hy

/-- A list of the call's own with something in it: its block. -/
theorem Own.blk1 {w : World} {base : Nat} {e : TypeId} {k : Nat} {v : Value} {n : Nat} {l : List Int} (h : Own w base e k v n l) (hn0 : 0 < n) :
    ∃ (g cap : Nat) (cur : Array Value), v = .slice (some ⟨g, 0, none⟩) n cap ∧ n ≤ cap ∧ base ≤ g ∧ w.heap[g]? = some (.cells cur e (0, 0)) ∧ Hid (∀ w' : World, w'.heap[g]? = some (.cells cur e (0, 0)) → BytesAt w' (some ⟨g, 0, none⟩) l) := by
  rcases h.2 with ⟨_, h0⟩ | ⟨g, cap, cur, rfl, hg, hc, hn, hm, hs, ht⟩
  · omega
  · refine ⟨g, cap, cur, rfl, hn, hg, hc, fun w' hc' => ?_⟩
    have ho : Own w' base e k (.slice (some ⟨g, 0, none⟩) n cap) n l := ⟨h.1, .inr ⟨g, cap, cur, rfl, hg, hc', hn, hm, hs, ht⟩⟩
    obtain ⟨a, c, he, _, hba⟩ := ho.at_
    cases he
    exact hba

/-- append of bytes, and where the new list lies. -/
theorem append_bytes2 {ops : Array Oper} {rest : List Oper} {o : Oper} {a : Act} {w : World} {Q : Exit → Act → World → Prop} (hgd : o.guard = none) (s x : Operand)
    (ho : o.op = .call { callee := .builtin .append, args := #[s, x], argTypes := #[27, 27] }) (base n m c : Nat) (v : Value) (l new : List Int) (ad : Addr) (hs : a.eval s = v) (hx : a.eval x = .slice (some ad) m c)
    (hown : Own w base 5 1 v n l) (hl : new.length = m) (hat : BytesAt w (some ad) new) (hb : n + m ≤ 140737488355328) (hbase : base ≤ w.heap.size)
    (h : ∀ v' w', Own w' base 5 1 v' (n + m) (l ++ new) → w.grownBy w' v.ownBlock → (v'.ownBlock = v.ownBlock ∨ v'.ownBlock = some w.heap.size) → wpList Try.prog ops Q rest (a.put o.dst v') w') : wpList Try.prog ops Q (o :: rest) a w := by
  obtain ⟨i, hi, hz, hsz, hby⟩ := infoB
  refine wpList_append_own_at w hgd s x 27 ho base 5 i _ 1 1 Try.underlying27 hi hz hsz hby rfl (by decide) v n (l.map (Value.int .u8)) hs hown ad m c (new.map (Value.int .u8)) hx (by rw [List.length_map, hl, Nat.mul_one]) (src_of hat) (one_cells new) (by unfold maxLen; omega) (by omega) hbase ?_
  intro v' w' h1 h2 _ h3
  refine h v' w' ?_ h2 h3
  unfold Own
  rw [List.map_append]
  exact h1

/-- Marks. -/
def rep (x : Int) (k : Nat) : List Int := List.replicate k x
theorem rep_len (x : Int) (k : Nat) : (rep x k).length = k := by simp [rep]
theorem rep_get (x : Int) (k j : Nat) (h : j < k) : (rep x k).getD j 0 = x := by simp [rep, h]
theorem rep_one (x : Int) (k : Nat) : rep x k ++ [x] = rep x (k + 1) := by simp [rep, List.replicate_succ']
theorem rep_add (x : Int) (k j : Nat) : rep x k ++ rep x j = rep x (k + j) := by simp [rep]
theorem full_rep (x : Int) : fullL x = rep x 128 := rfl
/-- Sectors of a list written over by marks, one by one. -/
def markK (x : Int) (l : List Int) (k : Nat) : List Int := rep x k ++ l.drop k
theorem markK_zero (x : Int) (l : List Int) : markK x l 0 = l := by simp [markK, rep]
theorem markK_len (x : Int) (l : List Int) (k : Nat) (h : k ≤ l.length) : (markK x l k).length = l.length := by simp [markK, rep]; omega
theorem markK_end (x : Int) (l : List Int) : markK x l l.length = rep x l.length := by simp [markK]
theorem markK_over (x : Int) (l : List Int) (k : Nat) (h : k + 128 ≤ l.length) : over (markK x l k) k (fullL x) = markK x l (k + 128) := by
  rw [over_eq _ _ _ (by rw [fullL_len, markK_len _ _ _ (by omega)]; omega), fullL_len, full_rep]
  unfold markK
  have e1 : (rep x k ++ l.drop k).take k = rep x k := by
    conv => lhs; rw [show k = (rep x k).length from (rep_len x k).symm]
    simp [rep]
  have e2 : (rep x k ++ l.drop k).drop (k + 128) = l.drop (k + 128) := by
    rw [List.drop_append, List.drop_of_length_le (by rw [rep_len]; omega), rep_len, List.nil_append, List.drop_drop]
    congr 1
    omega
  rw [e1, e2, rep_add]
theorem markK_set (x : Int) (l : List Int) (k : Nat) (h : k < l.length) : (markK x l k).set k x = markK x l (k + 1) := by
  unfold markK
  rw [List.set_append_right _ _ (by rw [rep_len]; exact Nat.le_refl _), rep_len, Nat.sub_self, List.drop_eq_getElem_cons h, List.set_cons_zero, ← rep_one, List.append_assoc]
  rfl

theorem range_behind {w : World} {g k : Nat} {l r : List Int} (h : BytesAt w (some ⟨g, 0, none⟩) (l ++ r)) (hl : l.length = k) : w.rangeAt g k (r.map (Value.int .u8)) := by
  intro j v hj
  have hlt : j < r.length := by
    rcases Nat.lt_or_ge j r.length with c | c
    · exact c
    · rw [List.getElem?_eq_none (by simpa using c)] at hj; cases hj
  rcases h with h | ⟨b, o, he, _, hc⟩
  · have := congrArg List.length h
    rw [List.length_append, List.length_nil] at this
    omega
  · cases he
    have hk := hc (k + j) (by rw [List.length_append]; omega)
    rw [Nat.zero_add] at hk
    rw [hk]
    rw [List.getElem?_map, List.getElem?_eq_getElem hlt] at hj
    simp only [Option.map_some, Option.some.injEq] at hj
    subst hj
    rw [List.getD_eq_getElem?_getD, List.getElem?_append_right (by omega), hl, Nat.add_sub_cancel_left, List.getElem?_eq_getElem hlt]
    rfl

theorem apart_row {w0 : World} {bl : List (Nat × Obj)} {g m n : Nat} (hb : w0.heap.size ≤ g) (hne : ∀ x, x ∈ bl → x.1 ≠ g) : Apart w0 bl (.slice (some ⟨g, 0, none⟩) m n) := by
  intro k hk
  have hk : g = k := by simpa [Value.ownBlock] using hk
  subst hk
  exact ⟨hb, hne⟩
theorem Apart.ne {w0 : World} {bl : List (Nat × Obj)} {g m n : Nat} (h : Apart w0 bl (.slice (some ⟨g, 0, none⟩) m n)) : ∀ x, x ∈ bl → x.1 ≠ g := (h g rfl).2
theorem rep_two (x : Int) (M : Nat) : rep x (128 * M) ++ (fullL x ++ fullL x) = rep x (128 * (M + 2)) := by
  rw [full_rep, rep_add, rep_add]
  congr 1

theorem marks_cells {w : World} {g m : Nat} {x : Int} (h : BytesAt w (some ⟨g, 0, none⟩) (rep x (128 * m))) : m = 0 ∨ ∃ b o, some (⟨g, 0, none⟩ : Addr) = some ⟨b, o, none⟩ ∧ ∀ j, j < 128 * m → w.cell? ⟨b, o + j, none⟩ = some (.int .u8 x) := by
  rcases h with h | ⟨b, o, he, _, hc⟩
  · have := congrArg List.length h
    rw [rep_len, List.length_nil] at this
    exact .inl (by omega)
  · refine .inr ⟨b, o, he, fun j hj => ?_⟩
    rw [hc j (by rw [rep_len]; exact hj), rep_get x _ j hj]

theorem Below.refl_call (w : World) (o : Obj) : Below w.heap.size w (w.alloc o) := (Below.refl _ _).alloc (Nat.le_refl _) o

/-- Two lists of bytes that grow side by side. -/
structure GG (w0 : World) (bl : List (Nat × Obj)) (nu nv : Nat) (vu vv : Value) (w : World) : Prop where
  hb : HB w0 bl w
  ou : Own w w0.heap.size 5 1 vu nu (rep 4 nu)
  ov : Own w w0.heap.size 5 1 vv nv (rep 5 nv)
  au : Apart w0 bl vu
  av : Apart w0 bl vv
  ne : ∀ k, vu.ownBlock = some k → vv.ownBlock ≠ some k
theorem GG.alloc {w0 w : World} {bl : List (Nat × Obj)} {nu nv : Nat} {vu vv : Value} (h : GG w0 bl nu nv vu vv w) (o : Obj) : GG w0 bl nu nv vu vv (w.alloc o) :=
  ⟨(h.hb.alloc o).tail, h.ou.call (Below.refl_call w o), h.ov.call (Below.refl_call w o), h.au, h.av, h.ne⟩
theorem GG.stepU {w0 w w' : World} {bl : List (Nat × Obj)} {nu nv : Nat} {vu vv v' : Value} (h : GG w0 bl nu nv vu vv w) (ho : Own w' w0.heap.size 5 1 v' (nu + 1) (rep 4 nu ++ [4])) (hg : w.grownBy w' vu.ownBlock) (hat : v'.ownBlock = vu.ownBlock ∨ v'.ownBlock = some w.heap.size) : GG w0 bl (nu + 1) nv v' vv w' := by
  refine ⟨h.hb.app hg h.au, by rw [← rep_one]; exact ho, h.ov.grown hg (fun j hj e => h.ne j e hj), h.au.next h.hb hat, h.av, fun k hk hk2 => ?_⟩
  rcases hat with e | e
  · exact h.ne k (e ▸ hk) hk2
  · have := h.ov.lt k hk2
    rw [e] at hk
    have := Option.some.inj hk
    omega
theorem GG.stepV {w0 w w' : World} {bl : List (Nat × Obj)} {nu nv : Nat} {vu vv v' : Value} (h : GG w0 bl nu nv vu vv w) (ho : Own w' w0.heap.size 5 1 v' (nv + 1) (rep 5 nv ++ [5])) (hg : w.grownBy w' vv.ownBlock) (hat : v'.ownBlock = vv.ownBlock ∨ v'.ownBlock = some w.heap.size) : GG w0 bl nu (nv + 1) vu v' w' := by
  refine ⟨h.hb.app hg h.av, h.ou.grown hg (fun j hj e => h.ne j hj e), by rw [← rep_one]; exact ho, h.au, h.av.next h.hb hat, fun k hk hk2 => ?_⟩
  rcases hat with e | e
  · exact h.ne k hk (e ▸ hk2)
  · have := h.ou.lt k hk
    rw [e] at hk2
    have := Option.some.inj hk2
    omega

section
variable {ops : Array Oper} {Q : Exit → Act → World → Prop} {S : World → Prop} {fuel : Nat} {listed : Array Bool} {a : Act} {w : World}
/-- A sector in the midst of a block is loaded. -/
theorem takeMidL (i d : Nat) (x : Operand) (g k : Nat) (c : List Int) (hc : c.length = 128) {o : Oper} (hop : ops[i]? = some o) (hs : Region.noSelect ops = true) (hf : Region.free .any ops listed i = true) (hr : (Region.ready .any ops listed).contains i = true)
    (hd : o.dst = some d) (ho : o.op = .load 26 x) (hx : a.eval x = .pointer (some ⟨g, k, none⟩)) (hw : Region.wanted o (yielded ops a.tmps) = true) (hQ : ∀ c a w, ¬ Q (.panic c) a w) (hS : S w)
    (hg : ∀ w, S w → w.rangeAt g k (c.map (Value.int .u8)))
    (h : wpAnyH Try.prog .any ops Q S fuel (listed.setIfInBounds i true) { a with tmps := a.tmps.setIfInBounds d (.agg (SA c)) } w) : wpAnyH Try.prog .any ops Q S (fuel + 1) listed a w := by
  refine takeVal i d (.agg (SA c)) hop hs hf hr hd hw hQ hS (fun w hw' => ?_) h
  unfold execOp
  simp only [ho, hx, Instr.loadAt, Instr.sureAddr, Sem.run_bind, Sem.run_pure, Result.andThen_ok, run_loadVar_mid w g k 26 (c.map (Value.int .u8)) _ (hg w hw') Try.underlying26 rfl (by rw [sz26, List.length_map, hc])]
  rfl
end

end Go.Proofs.Ytibneoajkbblaaa
