/-
  Rows of bytes in blocks of their own: made, copied into, written over.
-/
import Derived.Test.YtiakfgplhdbaeaaNR
import Derived.Laws.CopyOwn
namespace Go.Proofs.Ytiakfgplhdbaeaa
open Go.RowKit

def SB (l : List Int) : Array Value := (l.map (Value.int .u8)).toArray
theorem SB_size (l : List Int) : (SB l).size = l.length := by simp [SB]
theorem SB_get (l : List Int) (j : Nat) (h : j < l.length) : (SB l)[j]? = some (.int .u8 (l.getD j 0)) := by simp [SB, h]
theorem sz5 : (Try.prog.info? 5).map (·.size) = some 1 := by kernel_rfl
theorem one_cells (l : List Int) : ∀ u ∈ l.map (Value.int .u8), u.oneCell' = true := by
  intro u hu
  obtain ⟨y, _, rfl⟩ := List.mem_map.1 hu
  rfl
theorem made_oneB (n : Nat) : madeCells #[Value.int .u8 0] n = SB (List.replicate n 0) := by
  apply Array.ext
  · simp [size_madeCells, SB]
  · intro i h1 h2
    have e : (#[Value.int .u8 0] : Array Value)[i % 1]! = .int .u8 0 := by rw [Nat.mod_one]; rfl
    simp only [madeCells, Array.getElem_map, Array.getElem_range]
    rw [show (#[Value.int .u8 0] : Array Value).size = 1 from rfl, e]
    simp [SB]
theorem make_bytes (n : Nat) (h1 : n ≤ 140737488355328) (w : World) : (Instr.makeSlice 29 (.int .i64 (n : Int)) (.int .i64 (n : Int))).run Try.prog w = .ok (.slice (some ⟨w.heap.size, 0, none⟩) n n) (w.alloc (.cells (SB (List.replicate n 0)) 5)) := by
  obtain ⟨i, hi, hz, hs, hb⟩ := info8
  rw [run_make w 29 5 i _ Try.underlying29 hi hz .i64 .i64 n n (by omega) (Int.le_refl _) (by rw [hb]; omega) (by omega), hs, Nat.mul_one]
  rw [show Value.cells (.int .u8 0) = #[Value.int .u8 0] from rfl, made_oneB, Int.toNat_natCast]
theorem src_at {w : World} {a : Option Addr} {zs : List Int} (h : BytesAt w a zs) (h0 : 0 < zs.length) : ∃ ad, a = some ad ∧ ∀ (j : Nat) v, (zs.map (Value.int .u8))[j]? = some v → w.cell? (ad.add j) = some v := by
  rcases h with rfl | ⟨b, o, rfl, hb, h⟩
  · exact absurd h0 (Nat.not_lt_zero _)
  · refine ⟨_, rfl, fun j v hj => ?_⟩
    have hlt : j < zs.length := by
      rcases Nat.lt_or_ge j zs.length with k | k
      · exact k
      · rw [List.getElem?_eq_none (by simpa using k)] at hj; cases hj
    rw [addr_add, h j hlt]
    simp [hlt] at hj
    simp [hlt, hj]
/-- copy to the front of a row of bytes. -/
theorem copy_front {w : World} {ops : Array Oper} {rest : List Oper} {o : Oper} {a : Act} {Q : Exit → Act → World → Prop} (hgd : o.guard = none) (d s : Operand)
    (ho : o.op = .call { callee := .builtin .copy, args := #[d, s], argTypes := #[29, 29] })
    (sp : Option Addr) (dLen dCap sCap : Nat) (g : Nat) (zs c : List Int) (hd : a.eval d = .slice (some ⟨g, 0, none⟩) dLen dCap) (hs : a.eval s = .slice sp zs.length sCap) (t : TypeId)
    (hg : w.heap[g]? = some (.cells (SB c) t (0, 0))) (hn : zs.length ≤ dLen) (hc : zs.length ≤ c.length) (hb : BytesAt w sp zs)
    (h : ∀ w', w'.heap[g]? = some (.cells (SB (zs ++ c.drop zs.length)) t (0, 0)) → Chg w w' (· = g) → w'.heap.size = w.heap.size → wpList Try.prog ops Q rest (a.put o.dst (goInt (zs.map (Value.int .u8)).length)) w') : wpList Try.prog ops Q (o :: rest) a w := by
  have hmin : (zs.map (Value.int .u8)).length = Nat.min zs.length dLen := by rw [List.length_map]; exact (Nat.min_eq_left hn).symm
  by_cases h0 : zs.length = 0
  · have hz : zs = [] := List.eq_nil_of_length_eq_zero h0
    subst hz
    refine wpList_copy_nothing hgd d s 29 29 ho 5 Try.underlying29 sz5 _ sp dLen dCap 0 sCap hd hs (by simp) ?_
    exact h w (by simpa using hg) (Chg.refl _ _) rfl
  · obtain ⟨ad, rfl, hsrc⟩ := src_at hb (by omega)
    refine wpList_copy_own hgd d s 29 29 ho 5 Try.underlying29 sz5 g 0 dLen dCap ad zs.length sCap hd hs (SB c) t hg (zs.map (Value.int .u8)) hmin hsrc (by simpa [SB] using hc) (one_cells zs) ?_
    have e : ((SB c).toList.take 0 ++ (zs.map (Value.int .u8) ++ (SB c).toList.drop (0 + (zs.map (Value.int .u8)).length))).toArray = SB (zs ++ c.drop zs.length) := by
      simp [SB, List.map_drop]
    rw [e]
    refine h _ ?_ ⟨rfl, rfl, rfl, by simp [World.setRow], fun k _ hk => ?_⟩ (by simp [World.setRow])
    · simp [World.setRow, Array.getElem?_modify, hg]
    · simp only [World.setRow, Array.getElem?_modify]
      rw [if_neg (fun e => hk e.symm)]
/-- A byte of a row is written over. -/
theorem setB {w : World} {g : Nat} {t : TypeId} {l : List Int} (hg : w.heap[g]? = some (.cells (SB l) t (0, 0))) (k : Nat) (y : Int) : (w.setCell ⟨g, k, none⟩ (.int .u8 y)).heap[g]? = some (.cells (SB (l.set k y)) t (0, 0)) := by
  rw [heap_setCell_same w g k _ _ _ hg]
  congr 2
  apply Array.ext'
  simp [SB, List.map_set]
theorem SB_at {w : World} {g : Nat} {t : TypeId} {l : List Int} (hg : w.heap[g]? = some (.cells (SB l) t (0, 0))) (zs : List Int) (m : List Int) (e : l = zs ++ m) : BytesAt w (some ⟨g, 0, none⟩) zs := by
  refine .inr ⟨g, 0, rfl, slt hg, fun j hj => ?_⟩
  rw [Nat.zero_add, cell_of_row _ _ _ _ _ _ hg, SB_get _ _ (by rw [e, List.length_append]; omega), e, List.getD_eq_getElem?_getD, List.getElem?_append_left hj, ← List.getD_eq_getElem?_getD]
end Go.Proofs.Ytiakfgplhdbaeaa
