/-
  A list of two sectors, made of sectors; a sector that is written in the midst of a list; append of a list that may be nil.
-/
import Derived.Test.YtibneoajkbblaaaOwnSet
namespace Go.Proofs.Ytibneoajkbblaaa
open Go.RowKit

theorem fold_gen (off : Nat) (cs : List Value) : ∀ (z : List Value) (o : Nat), off + o + cs.length ≤ z.length →
    (cs.zipIdx o).foldl (fun (a : Array Value) (x : Value × Nat) => a.setIfInBounds (off + x.2) x.1) z.toArray = (z.take (off + o) ++ cs ++ z.drop (off + o + cs.length)).toArray := by
  induction cs with
  | nil => intro z o h; simp
  | cons c cs ih =>
    intro z o h
    simp only [List.length_cons] at h
    have ho : off + o < z.length := by omega
    rw [List.zipIdx_cons, List.foldl_cons]
    have e : z.toArray.setIfInBounds (off + o) c = (z.set (off + o) c).toArray := by simp
    show List.foldl _ (z.toArray.setIfInBounds (off + o) c) _ = _
    rw [e, ih (z.set (off + o) c) (o + 1) (by simp; omega)]
    have t1 : (z.set (off + o) c).take (off + (o + 1)) = z.take (off + o) ++ [c] := by
      rw [← Nat.add_assoc, List.take_succ_eq_append_getElem (by simp; omega), List.take_set_of_le (Nat.le_refl _)]
      simp
    have t2 : (z.set (off + o) c).drop (off + (o + 1) + cs.length) = z.drop (off + o + (c :: cs).length) := by
      rw [List.drop_set_of_lt (by omega), List.length_cons]
      congr 1
      omega
    rw [t1, t2, List.append_assoc, List.append_assoc, List.append_assoc]
    rfl

theorem build_two (s t : List Int) (hs : s.length = 128) (ht : t.length = 128) (w : World) :
    (Instr.buildSlice 32 2 #[(0, .agg (SA s)), (1, .agg (SA t))]).run Try.prog w = .ok (.slice (some ⟨w.heap.size, 0, none⟩) 2 2) (w.alloc (.cells (SA (s ++ t)) 26)) := by
  obtain ⟨i, hi, hz, hsz, hb⟩ := infoS
  have hlen : (SA s).size = 128 := by rw [SA_size, hs]
  have hlen2 : (SA t).size = 128 := by rw [SA_size, ht]
  simp only [Instr.buildSlice, Sem.run_bind, run_underlying Try.underlying32, Result.andThen_ok]
  simp [sizeOf, typeInfo, hi, hsz, zeroValue, hz, Instr.fill, Value.cells, hlen, hlen2, newRow]
  generalize hZ : Array.map (fun x => (SA Zs)[x % (SA Zs).size]!) (Array.range 256) = Z
  have hZs : Z.size = 256 := by rw [← hZ, Array.size_map, Array.size_range]
  clear hZ
  have f1 : Array.foldl (fun (cs : Array Value) (x : Value × Nat) => cs.setIfInBounds x.snd x.fst) Z (SA s).zipIdx 0 128 = ((SA s).toList ++ Z.toList.drop 128).toArray := by
    have h := fold_gen 0 (SA s).toList Z.toList 0 (by simp [hlen, hZs])
    rw [show (128 : Nat) = (SA s).zipIdx.size by simp [hlen], ← Array.foldl_toList, Array.toList_zipIdx]
    simpa [hlen] using h
  rw [f1]
  have hR : (Z.toList.drop 128).length = 128 := by simp [hZs]
  generalize Z.toList.drop 128 = R at *
  have f2 : Array.foldl (fun (cs : Array Value) (x : Value × Nat) => cs.setIfInBounds (128 + x.snd) x.fst) ((SA s).toList ++ R).toArray (SA t).zipIdx 0 128 = SA (s ++ t) := by
    have h := fold_gen 128 (SA t).toList ((SA s).toList ++ R) 0 (by simp [hlen, hlen2, hR])
    rw [show (128 : Nat) = (SA t).zipIdx.size by simp [hlen2], ← Array.foldl_toList, Array.toList_zipIdx]
    simp only [Array.size_zipIdx, hlen2]
    rw [h]
    have e1 : ((SA s).toList ++ R).take (128 + 0) = (SA s).toList := by rw [Nat.add_zero, ← hlen, ← Array.length_toList, List.take_left]
    have e2 : ((SA s).toList ++ R).drop (128 + 0 + (SA t).toList.length) = [] := List.drop_of_length_le (by simp [hlen, hlen2, hR])
    rw [e1, e2, List.append_nil]
    simp [SA]
  rw [f2, if_neg (by simp [hlen, hR])]
  simp

theorem slice_two {ops : Array Oper} {rest : List Oper} {o : Oper} {a : Act} {w : World} {Q : Exit → Act → World → Prop} (hgd : o.guard = none) (x y : Operand) (ho : o.op = .buildSlice 32 2 #[(0, x), (1, y)])
    (s t : List Int) (hs : s.length = 128) (ht : t.length = 128) (hx : a.eval x = .agg (SA s)) (hy : a.eval y = .agg (SA t)) (h : wpList Try.prog ops Q rest (a.put o.dst (.slice (some ⟨w.heap.size, 0, none⟩) 2 2)) (w.alloc (.cells (SA (s ++ t)) 26))) :
    wpList Try.prog ops Q (o :: rest) a w :=
  wpList_plain hgd fun K hK => by
    have e : (#[(0, x), (1, y)] : Array (Nat × Operand)).map (fun (i, x) => (i, a.eval x)) = #[(0, .agg (SA s)), (1, .agg (SA t))] := by simp [hx, hy]
    unfold Oper.wp execOp
    simp only [ho]
    rw [e]
    simp only [Sem.run_bind, build_two s t hs ht, Result.andThen_ok, Sem.run_pure]
    exact hK _ _ h

/-- Bytes written over others, from a place on. -/
def over : List Int → Nat → List Int → List Int
  | l, _, [] => l
  | l, o, x :: r => over (l.set o x) (o + 1) r
theorem over_eq : ∀ (r l : List Int) (o : Nat), o + r.length ≤ l.length → over l o r = l.take o ++ r ++ l.drop (o + r.length)
  | [], l, o, _ => by simp [over]
  | x :: r, l, o, h => by
    simp only [List.length_cons] at h
    rw [over, over_eq r (l.set o x) (o + 1) (by simp; omega)]
    have t1 : (l.set o x).take (o + 1) = l.take o ++ [x] := by
      rw [List.take_succ_eq_append_getElem (by simp; omega), List.take_set_of_le (Nat.le_refl _)]
      simp
    have t2 : (l.set o x).drop (o + 1 + r.length) = l.drop (o + (x :: r).length) := by
      rw [List.drop_set_of_lt (by omega), List.length_cons]
      congr 1
      omega
    rw [t1, t2, List.append_assoc, List.append_assoc, List.append_assoc]
    rfl
theorem WroteB.refl {w : World} {g : Nat} {t : TypeId} {c : List Int} (h : w.heap[g]? = some (.cells (SA c) t (0, 0))) : WroteB w g t c w := ⟨h, fun _ _ => rfl, rfl, rfl, rfl, rfl⟩
theorem WroteB.trans {w w1 w2 : World} {g : Nat} {t : TypeId} {c c' : List Int} (h : WroteB w g t c w1) (k : WroteB w1 g t c' w2) : WroteB w g t c' w2 :=
  ⟨k.here, fun j hj => (k.other j hj).trans (h.other j hj), k.size.trans h.size, k.os.trans h.os, k.tape.trans h.tape, k.output.trans h.output⟩
theorem over_cells {g : Nat} {t : TypeId} : ∀ (r l : List Int) (o : Nat) (w : World), w.heap[g]? = some (.cells (SA l) t (0, 0)) → WroteB w g t (over l o r) (w.setCells g o (r.map (Value.int .u8)))
  | [], _, _, _, h => WroteB.refl h
  | x :: r, l, o, w, h => by
    have h1 := row_setCell h o x
    exact h1.trans (over_cells r (l.set o x) (o + 1) _ h1.here)

/-- A sector is written in the midst of a list. -/
theorem store_mid {ops : Array Oper} {rest : List Oper} {o : Oper} {a : Act} {w : World} {Q : Exit → Act → World → Prop} (hgd : o.guard = none) (x y : Operand) (ho : o.op = .store 26 x y)
    (g off : Nat) (hx : a.eval x = .pointer (some ⟨g, off, none⟩)) (c : List Int) (hy : a.eval y = .agg (SA c)) (hc : c.length = 128) (t : TypeId) (l : List Int) (hg : w.heap[g]? = some (.cells (SA l) t (0, 0))) (hl : off + 128 ≤ l.length)
    (h : ∀ w', WroteB w g t (over l off c) w' → wpList Try.prog ops Q rest (a.put o.dst undef) w') : wpList Try.prog ops Q (o :: rest) a w := by
  refine wpList_store_mid hgd 26 x y ho g off (SA c) hx hy (fun j hj => ?_) (by rw [sz26, SA_size, hc]) (SA_one c) (h _ ?_)
  · rw [SA_size, hc] at hj
    rw [sec_cell hg (off + j) (by omega)]
    exact ⟨rfl, sec_free hg _⟩
  · have := over_cells c l off w hg
    simpa [SA] using this

end Go.Proofs.Ytibneoajkbblaaa
