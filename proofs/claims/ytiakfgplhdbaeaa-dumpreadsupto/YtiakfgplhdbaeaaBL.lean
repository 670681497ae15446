/-
  Rows of bytes: owned ones that grow, and ones that are read.
-/
import Derived.Test.YtiakfgplhdbaeaaLR
import Derived.Lib.AppendStr
import Derived.Laws.IdiomStrings
namespace Go.Proofs.Ytiakfgplhdbaeaa
open Go.RowKit

def BOw (w : World) (B : Nat) (v : Value) (l : List Int) : Prop := w.ownsRow B 5 1 v l.length (l.map (Value.int .u8))
def BytesAt (w : World) (a : Option Addr) (zs : List Int) : Prop := zs = [] ∨ ∃ b o, a = some ⟨b, o, none⟩ ∧ b < w.heap.size ∧ ∀ j, j < zs.length → w.cell? ⟨b, o + j, none⟩ = some (.int .u8 (zs.getD j 0))
def bytesI (s : ByteArray) : List Int := s.data.toList.map fun b => (b.toNat : Int)
theorem bytesI_len (s : ByteArray) : (bytesI s).length = s.size := by simp [bytesI]
theorem strCells_bytes (s : ByteArray) : Lib.strCells s = (bytesI s).map (Value.int .u8) := by simp [Lib.strCells, bytesI, Function.comp_def]
def strOf (c : List Int) : ByteArray := ⟨(c.map fun n => UInt8.ofNat n.toNat).toArray⟩
theorem strOf_bytesI (s : ByteArray) : strOf (bytesI s) = s := by
  cases s with
  | mk d => simp [strOf, bytesI, Function.comp_def]
theorem addr_add (b o j : Nat) : (⟨b, o, none⟩ : Addr).add j = ⟨b, o + j, none⟩ := by unfold Addr.add; split <;> simp_all
theorem info8 : ∃ i, Try.prog.info? 5 = some i ∧ i.zero = some (.int .u8 0) ∧ i.size = 1 ∧ i.bytes = 1 := by
  have h : (Try.prog.info? 5).map (fun i => (i.zero, i.size, i.bytes)) = some (some (.int .u8 0), 1, 1) := by kernel_rfl
  cases hq : Try.prog.info? 5 with
  | none => rw [hq] at h; cases h
  | some i =>
    rw [hq] at h
    simp at h
    exact ⟨i, rfl, h.1, h.2.1, h.2.2⟩
section
variable {w w' : World} {B : Nat} {v : Value} {l : List Int} {ks : Nat → Prop}
theorem BOw.keep (h : BOw w B v l) (hc : Chg w w' ks) (hn : ∀ k, v.ownBlock = some k → ¬ ks k) : BOw w' B v l := by
  refine ⟨h.1, ?_⟩
  rcases h.2 with h | ⟨g, cap, cur, rfl, hg, hk, r⟩
  · exact .inl h
  · exact .inr ⟨g, cap, cur, rfl, hg, hc.keep hk (hn g rfl), r⟩
theorem BOw.call (h : BOw w B v l) (hc : Chg w w' No) : BOw w' B v l := h.keep hc (fun _ _ e => e)
theorem BOw.blk (h : BOw w B v l) {k : Nat} (e : v.ownBlock = some k) : B ≤ k ∧ ∃ A, w.heap[k]? = some (.cells A 5 (0, 0)) := by
  rcases h.2 with ⟨rfl, _⟩ | ⟨g, cap, cur, rfl, hg, hb, _⟩
  · simp [Value.ownBlock] at e
  · have e : g = k := by simpa [Value.ownBlock] using e
    subst e
    exact ⟨hg, cur, hb⟩
theorem BOw.nil (w : World) (B : Nat) : BOw w B (.slice none 0 0) [] := World.ownsRow_nil w B 5 1
theorem BOw.one (h : BOw w B v l) : ∃ a cp, v = .slice a l.length cp ∧ BytesAt w a l := by
  rcases h.2 with ⟨rfl, h0⟩ | ⟨g, cap, cur, rfl, hg, hb, hc, hm, hs, ht⟩
  · have e : l = [] := List.length_eq_zero_iff.1 h0
    subst e
    exact ⟨none, 0, rfl, .inl rfl⟩
  · refine ⟨some ⟨g, 0, none⟩, cap, rfl, .inr ⟨g, 0, rfl, slt hb, fun j hj => ?_⟩⟩
    rw [Nat.zero_add, cell_of_row _ _ _ _ _ _ hb]
    have h1 : (cur.toList.take (l.length * 1))[j]? = some (.int .u8 (l.getD j 0)) := by rw [ht]; simp [hj]
    rw [List.getElem?_take, if_pos (by omega)] at h1
    rw [← Array.getElem?_toList]; exact h1
theorem BOw.lower {C : Nat} (h : BOw w B v l) (hc : C ≤ B) : BOw w C v l := by
  refine ⟨h.1, ?_⟩
  rcases h.2 with h | ⟨g, cap, cur, e, hg, r⟩
  · exact .inl h
  · exact .inr ⟨g, cap, cur, e, Nat.le_trans hc hg, r⟩
theorem BytesAt.keep {a : Option Addr} (h : BytesAt w a l) (hc : Chg w w' ks) (hn : ∀ b o, a = some ⟨b, o, none⟩ → ¬ ks b) : BytesAt w' a l := by
  rcases h with h | ⟨b, o, rfl, hb, h⟩
  · exact .inl h
  · exact .inr ⟨b, o, rfl, Nat.lt_of_lt_of_le hb hc.size, fun j hj => by
      have := h j hj
      unfold World.cell? at this ⊢
      rw [hc.block b hb (hn b o rfl)]
      exact this⟩
theorem BytesAt.call {a : Option Addr} (h : BytesAt w a l) (hc : Chg w w' No) : BytesAt w' a l := h.keep hc (fun _ _ _ e => e)
theorem conv_at {a : Option Addr} (h : BytesAt w a l) (cap : Nat) : (convert 29 9 (.slice a l.length cap)).run Try.prog w = .ok (.string (strOf l)) w := by
  rw [run_convert_bytes_string w 29 9 5 _ _ _ Try.underlying29 Try.underlying5 Try.underlying9]
  rcases h with rfl | ⟨b, o, rfl, hb, h⟩
  · cases a <;> simp [Conv.bytesToString, strOf, loadCells, loadCellsFrom] <;> rfl
  · have hl := run_loadCells_list (P := Try.prog) w ⟨b, o, none⟩ (l.map (Value.int .u8)) (fun j v hj => by
      have hlt : j < l.length := by
        rcases Nat.lt_or_ge j l.length with k | k
        · exact k
        · rw [List.getElem?_eq_none (by simpa using k)] at hj; cases hj
      rw [addr_add, h j hlt]
      simp [hlt] at hj
      simp [hlt, hj])
    rw [List.length_map] at hl
    rw [run_bytesToString w _ l.length cap l hl]
    have hf : ∀ (c : List Int) (r : ByteArray), c.foldl (fun r n => r.push (UInt8.ofNat n.toNat)) r = ⟨r.data ++ (c.map fun n => UInt8.ofNat n.toNat).toArray⟩ := by
      intro c
      induction c with
      | nil => intro r; simp
      | cons x c ih =>
        intro r
        rw [List.foldl_cons, ih]
        congr 1
        simp [ByteArray.push]
    rw [hf]
    simp [strOf]
end
section
variable {ops : Array Oper} {rest : List Oper} {o : Oper} {a : Act} {Q : Exit → Act → World → Prop} {w : World}
/-- append of one byte. -/
theorem wp_app8 (hg : o.guard = none) (s x : Operand) (hop : o.op = .call { callee := .builtin .append, args := #[s, x], argTypes := #[29, 29] }) (B g c : Nat) (v : Value) (l : List Int) (y : Int) (hs : a.eval s = v) (hx : a.eval x = .slice (some ⟨g, 0, none⟩) 1 c)
    (hown : BOw w B v l) (hat : w.cell? ⟨g, 0, none⟩ = some (.int .u8 y)) (hl : l.length ≤ 1000000000000) (hB : B ≤ w.heap.size)
    (hK : ∀ v' w', BOw w' B v' (l ++ [y]) → Chg w w' (fun k => v.ownBlock = some k) → (v'.ownBlock = v.ownBlock ∨ v'.ownBlock = some w.heap.size) → wpList Try.prog ops Q rest (a.put o.dst v') w') : wpList Try.prog ops Q (o :: rest) a w := by
  obtain ⟨i, hi, hz, hsz, hby⟩ := info8
  refine wpList_append_own_at w hg s x 29 hop B 5 i _ 1 1 Try.underlying29 hi hz hsz hby rfl (by decide) v l.length (l.map (Value.int .u8)) hs hown ⟨g, 0, none⟩ 1 c [.int .u8 y] hx rfl (fun j u hj => ?_) (by simp [Value.oneCell']) (by unfold maxLen; omega) (by omega) hB ?_
  · cases j with
    | zero => simp at hj; subst hj; exact hat
    | succ j => simp at hj
  · intro v' w' h1 h2 h3 h4
    refine hK v' w' ?_ ((Chg.grown h2).mono fun j _ e => e.symm) h4
    unfold BOw
    rw [List.length_append, List.map_append]
    exact h1
theorem conv_G (hw : Region.wanted o (yielded ops a.tmps) = true) (t1 t2 : TypeId) (x : Operand) (ho : o.op = .convert t1 t2 x) (v v' : Value) (w' : World) (hx : a.eval x = v)
    (hr : (convert t1 t2 v).run Try.prog w = .ok v' w') (h : wpList Try.prog ops Q rest (a.put o.dst v') w') : wpList Try.prog ops Q (o :: rest) a w :=
  wpList_want hw fun _ hK => by
    unfold Oper.wp execOp
    simp only [ho, hx, Sem.run_bind, hr, Result.andThen_ok, Sem.run_pure]
    exact hK _ _ h
end
section
variable {ops : Array Oper} {Q : Exit → Act → World → Prop} {S : World → Prop} {fuel : Nat} {listed : Array Bool} {a : Act} {w : World}
/-- append of a text's bytes, in a statement whose order is open. -/
theorem stAppS (i d : Nat) {o : Oper} (hop : ops[i]? = some o) (hd : o.dst = some d) (hw : Region.wanted o (yielded ops a.tmps) = true) (s x : Operand)
    (ho : o.op = .call { callee := .builtin .append, args := #[s, x], argTypes := #[29, 9] }) (B : Nat) (v : Value) (l : List Int) (t : ByteArray) (hs : a.eval s = v) (hx : a.eval x = .string t)
    (hown : BOw w B v l) (hl : l.length + t.size ≤ 1000000000000) (hB : B ≤ w.heap.size)
    (h : ∀ v' w', BOw w' B v' (l ++ bytesI t) → Chg w w' (fun k => v.ownBlock = some k) →
      S w' ∧ wpAnyH Try.prog .any ops Q S fuel (listed.setIfInBounds i true) { a with tmps := a.tmps.setIfInBounds d v' } w') : St ops Q S fuel listed a w i := by
  obtain ⟨inf, hi, hz, hsz, hby⟩ := info8
  obtain ⟨v', w', hr, k2, k3, _⟩ := Lib.run_append_own_string (P := Try.prog) w B 29 9 o.type 5 inf Try.underlying29 Try.underlying9 hi hz hsz hby v l.length (l.map (Value.int .u8)) hown t (by unfold maxLen; omega) (by omega) hB
  have hh := h v' w' (by
    unfold BOw
    rw [List.length_append, List.map_append, bytesI_len, ← strCells_bytes]
    exact k2) ((Chg.grown k3).mono fun j _ e => e.symm)
  refine wpOp_step hop (fun K hK => ?_)
  rw [if_pos hw]
  unfold Oper.wp execOp
  simp only [ho, resolve, invoke, builtin, Sem.run_bind, Sem.run_pure, Result.andThen_ok, List.map_toArray, List.map_cons, List.map_nil, hs, hx, hr]
  refine hK _ _ ⟨hh.1, ?_⟩
  unfold Act.put
  rw [hd]
  exact hh.2
/-- append of a row's bytes. -/
theorem stAppB (i d : Nat) {o : Oper} (hop : ops[i]? = some o) (hd : o.dst = some d) (hw : Region.wanted o (yielded ops a.tmps) = true) (s x : Operand)
    (ho : o.op = .call { callee := .builtin .append, args := #[s, x], argTypes := #[29, 29] }) (B : Nat) (v : Value) (l m : List Int) (ad : Option Addr) (ca : Nat) (hs : a.eval s = v) (hx : a.eval x = .slice ad m.length ca)
    (hown : BOw w B v l) (hat : BytesAt w ad m) (hl : l.length + m.length ≤ 1000000000000) (hB : B ≤ w.heap.size)
    (h : ∀ v' w', BOw w' B v' (l ++ m) → Chg w w' (fun k => v.ownBlock = some k) →
      S w' ∧ wpAnyH Try.prog .any ops Q S fuel (listed.setIfInBounds i true) { a with tmps := a.tmps.setIfInBounds d v' } w') : St ops Q S fuel listed a w i := by
  obtain ⟨inf, hi, hz, hsz, hby⟩ := info8
  have key : ∃ v' w', (Builtin.append_ #[29, 29] o.type #[v, .slice ad m.length ca]).run Try.prog w = .ok v' w' ∧ BOw w' B v' (l ++ m) ∧ Chg w w' (fun k => v.ownBlock = some k) := by
    cases ad with
    | none =>
      have hm : m = [] := by
        rcases hat with e | ⟨_, _, e, _⟩
        · exact e
        · cases e
      subst hm
      refine ⟨v, w, ?_, by simpa using hown, Chg.refl _ _⟩
      rcases hown.2 with ⟨rfl, h0⟩ | ⟨g, cap, cur, rfl, _, _, hle, _⟩
      · simp [Builtin.append_, run_underlying Try.underlying29, sizeOf, typeInfo, hi, Builtin.lenOf, Builtin.firstCells]
      · simp [Builtin.append_, run_underlying Try.underlying29, sizeOf, typeInfo, hi, Builtin.lenOf, Builtin.firstCells, loadCells, storeCells, hle]
    | some ad =>
      obtain ⟨v', w', hr, k2, k3, _, _⟩ := run_append_own_at (P := Try.prog) w B 29 o.type 5 inf _ 1 1 Try.underlying29 hi hz hsz hby rfl (by decide) v l.length (l.map (Value.int .u8)) hown ad m.length ca (m.map (Value.int .u8)) (by simp) (fun j u hj => by
        rcases hat with rfl | ⟨b, o, e, hb, hc⟩
        · simp at hj
        · cases e
          have hlt : j < m.length := by
            rcases Nat.lt_or_ge j m.length with k | k
            · exact k
            · rw [List.getElem?_eq_none (by simpa using k)] at hj; cases hj
          rw [addr_add, hc j hlt]
          simp [hlt] at hj
          simp [hlt, hj]) (by
        intro u hu
        obtain ⟨y, _, rfl⟩ := List.mem_map.1 hu
        rfl) (by unfold maxLen; omega) (by omega) hB
      refine ⟨v', w', hr, ?_, (Chg.grown k3).mono fun j _ e => e.symm⟩
      unfold BOw
      rw [List.length_append, List.map_append]
      exact k2
  obtain ⟨v', w', hr, k2, k3⟩ := key
  have hh := h v' w' k2 k3
  refine wpOp_step hop (fun K hK => ?_)
  rw [if_pos hw]
  unfold Oper.wp execOp
  simp only [ho, resolve, invoke, builtin, Sem.run_bind, Sem.run_pure, Result.andThen_ok, List.map_toArray, List.map_cons, List.map_nil, hs, hx, hr]
  refine hK _ _ ⟨hh.1, ?_⟩
  unfold Act.put
  rw [hd]
  exact hh.2
end
end Go.Proofs.Ytiakfgplhdbaeaa
