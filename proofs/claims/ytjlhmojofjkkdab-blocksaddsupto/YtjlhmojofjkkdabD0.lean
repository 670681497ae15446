/-
  A list of sectors that a call makes; a sector written in the midst of it.
-/
import Derived.Test.YtjlhmojofjkkdabC7
import Derived.Laws.MakeOwn
namespace Go.Proofs.Ytjlhmojofjkkdab
open Go.RowKit Go.Shelf

def zl (n : Nat) : List Int := List.replicate n 0
theorem zl_len (n : Nat) : (zl n).length = n := by simp [zl]
theorem zl_get (n j : Nat) : (zl n).getD j 0 = 0 := by
  unfold zl
  by_cases h : j < n
  · simp [List.getD_eq_getElem?_getD, h]
  · simp [List.getD_eq_getElem?_getD, h]
theorem infoS : ∃ i, Try.prog.info? 77 = some i ∧ i.zero = some (.agg (SA Zs)) ∧ i.size = 128 ∧ i.bytes = 128 := by
  have h : (Try.prog.info? 77).map (fun i => (i.zero, i.size, i.bytes)) = some (some (.agg (SA Zs)), 128, 128) := by kernel_rfl
  cases hq : Try.prog.info? 77 with
  | none => rw [hq] at h; cases h
  | some i =>
    rw [hq] at h
    simp at h
    exact ⟨i, rfl, h.1, h.2.1, h.2.2⟩
theorem made_secs (n : Nat) : madeCells (SA Zs) n = SA (zl n) := by
  apply Array.ext
  · simp [size_madeCells, SA_size, zl_len]
  · intro i h1 h2
    have hs : (SA Zs).size = 128 := by rw [SA_size, Zs_len]
    have hi : i % 128 < 128 := Nat.mod_lt _ (by decide)
    have e : (SA Zs)[i % 128]! = Value.int .u8 0 := by
      rw [Array.getElem!_eq_getD, Array.getD_eq_getD_getElem?, SA_get Zs _ (by rw [Zs_len]; exact hi), show Zs.getD (i % 128) 0 = 0 from zl_get 128 _]
      rfl
    simp only [madeCells, Array.getElem_map, Array.getElem_range, hs, e]
    simp [SA, zl]
theorem make_secs (n : Int) (h0 : 0 ≤ n) (h1 : 128 * n ≤ 281474976710656) (w : World) :
    (Instr.makeSlice 25 (.int .i64 n) (.int .i64 n)).run Try.prog w = .ok (.slice (some ⟨w.heap.size, 0, none⟩) n.toNat n.toNat) (w.alloc (.cells (SA (zl (128 * n.toNat))) 77)) := by
  obtain ⟨i, hi, hz, hs, hb⟩ := infoS
  rw [run_make w 25 77 i _ Try.underlying25 hi hz .i64 .i64 n n h0 (Int.le_refl _) (by rw [hb]; omega) (by omega), hs, Nat.mul_comm]
  rw [show Value.cells (.agg (SA Zs)) = SA Zs from rfl, made_secs]
structure WroteB (w : World) (g : Nat) (t : TypeId) (c : List Int) (w' : World) : Prop where
  here : w'.heap[g]? = some (.cells (SA c) t (0, 0))
  other : ∀ k, k ≠ g → w'.heap[k]? = w.heap[k]?
  size : w'.heap.size = w.heap.size
  os : w'.os = w.os
  tape : w'.tape = w.tape
  output : w'.output = w.output
theorem WroteB.below {B g : Nat} {t : TypeId} {w0 w w' : World} {c : List Int} (h : WroteB w g t c w') (hb : Below B w0 w) (hB : B ≤ g) : Below B w0 w' :=
  hb.trans ⟨h.os, h.tape, h.output, Nat.le_of_eq h.size.symm, fun k hk => h.other k (by omega)⟩
theorem rowB_setCell {w : World} {g : Nat} {t : TypeId} {c : List Int} (hg : w.heap[g]? = some (.cells (SA c) t (0, 0))) (j : Nat) (x : Int) : WroteB w g t (c.set j x) (w.setCell ⟨g, j, none⟩ (.int .u8 x)) := by
  refine ⟨?_, ?_, ?_, rfl, rfl, rfl⟩
  · rw [heap_setCell_same w g j (SA c) t _ hg, SA_set]
  · intro k hk
    exact heap_setCell_other w ⟨g, j, none⟩ k _ hk
  · simp [World.setCell]
/-- Bytes written over others, from a place on. -/
def over : List Int → Nat → List Int → List Int
  | l, _, [] => l
  | l, o, x :: r => over (l.set o x) (o + 1) r
theorem over_eq : ∀ (r l : List Int) (o : Nat), o + r.length ≤ l.length → over l o r = l.take o ++ r ++ l.drop (o + r.length)
  | [], l, o, _ => by simp [over]
  | x :: r, l, o, h => by
    simp only [List.length_cons] at h
    rw [over, over_eq r (l.set o x) (o + 1) (by simp; omega)]
    have t1 : (l.set o x).take (o + 1) = l.take o ++ [x] := by
      rw [List.take_succ_eq_append_getElem (by simp; omega), List.take_set_of_le (Nat.le_refl _)]
      simp
    have t2 : (l.set o x).drop (o + 1 + r.length) = l.drop (o + (x :: r).length) := by
      rw [List.drop_set_of_lt (by omega), List.length_cons]
      congr 1
      omega
    rw [t1, t2, List.append_assoc, List.append_assoc, List.append_assoc]
    rfl
theorem WroteB.refl {w : World} {g : Nat} {t : TypeId} {c : List Int} (h : w.heap[g]? = some (.cells (SA c) t (0, 0))) : WroteB w g t c w := ⟨h, fun _ _ => rfl, rfl, rfl, rfl, rfl⟩
theorem WroteB.trans {w w1 w2 : World} {g : Nat} {t : TypeId} {c c' : List Int} (h : WroteB w g t c w1) (k : WroteB w1 g t c' w2) : WroteB w g t c' w2 :=
  ⟨k.here, fun j hj => (k.other j hj).trans (h.other j hj), k.size.trans h.size, k.os.trans h.os, k.tape.trans h.tape, k.output.trans h.output⟩
theorem over_cells {g : Nat} {t : TypeId} : ∀ (r l : List Int) (o : Nat) (w : World), w.heap[g]? = some (.cells (SA l) t (0, 0)) → WroteB w g t (over l o r) (w.setCells g o (r.map (Value.int .u8)))
  | [], _, _, _, h => WroteB.refl h
  | x :: r, l, o, w, h => by
    have h1 := rowB_setCell h o x
    exact h1.trans (over_cells r (l.set o x) (o + 1) _ h1.here)
/-- A sector is written in the midst of a list. -/
theorem store_mid {ops : Array Oper} {rest : List Oper} {o : Oper} {a : Act} {w : World} {Q : Exit → Act → World → Prop} (hgd : o.guard = none) (x y : Operand) (ho : o.op = .store 77 x y)
    (g off : Nat) (hx : a.eval x = .pointer (some ⟨g, off, none⟩)) (c : List Int) (hy : a.eval y = .agg (SA c)) (hc : c.length = 128) (t : TypeId) (l : List Int) (hg : w.heap[g]? = some (.cells (SA l) t (0, 0))) (hl : off + 128 ≤ l.length)
    (h : ∀ w', WroteB w g t (over l off c) w' → wpList Try.prog ops Q rest (a.put o.dst undef) w') : wpList Try.prog ops Q (o :: rest) a w := by
  refine wpList_store_mid hgd 77 x y ho g off (SA c) hx hy (fun j hj => ?_) (by rw [sz26, SA_size, hc]) (SA_one c) (h _ ?_)
  · rw [SA_size, hc] at hj
    rw [sec_cell hg (off + j) (by omega)]
    exact ⟨rfl, sec_free hg _⟩
  · have := over_cells c l off w hg
    simpa [SA] using this

/-- Sectors, all of them as one list of bytes. -/
def flatI (im : List (List Int)) : List Int := im.flatten
theorem flat_len128 : ∀ (im : List (List Int)), (∀ s ∈ im, s.length = 128) → (flatI im).length = im.length * 128
  | [], _ => rfl
  | s :: im, h => by
    have ih := flat_len128 im (fun x hx => h x (by simp [hx]))
    unfold flatI at *
    rw [List.flatten_cons, List.length_append, ih, h s (by simp), List.length_cons]
    omega
theorem flat_get128 : ∀ (im : List (List Int)), (∀ s ∈ im, s.length = 128) → ∀ (j : Nat) s, im[j]? = some s → ∀ i, i < 128 → (flatI im)[j * 128 + i]? = s[i]?
  | [], _, j, s, hj, _, _ => by simp at hj
  | x :: im, h, j, s, hj, i, hi => by
    unfold flatI
    rw [List.flatten_cons]
    cases j with
    | zero =>
      simp at hj
      subst hj
      rw [Nat.zero_mul, Nat.zero_add, List.getElem?_append_left (by rw [h x (by simp)]; exact hi)]
    | succ j =>
      rw [List.getElem?_append_right (by rw [h x (by simp)]; omega), h x (by simp), show (j + 1) * 128 + i - 128 = j * 128 + i by omega]
      exact flat_get128 im (fun y hy => h y (by simp [hy])) j s (by simpa using hj) i hi
theorem flat_set : ∀ (im : List (List Int)), (∀ s ∈ im, s.length = 128) → ∀ (k : Nat) s, s.length = 128 → k < im.length → (flatI im).take (k * 128) ++ s ++ (flatI im).drop (k * 128 + 128) = flatI (im.set k s)
  | [], _, k, s, _, hk => by simp at hk
  | x :: im, h, k, s, hs, hk => by
    have hx := h x (by simp)
    unfold flatI
    rw [List.flatten_cons]
    cases k with
    | zero =>
      rw [Nat.zero_mul, List.take_zero, List.nil_append, Nat.zero_add, List.drop_append_of_le_length (by omega), ← hx, List.drop_length, List.nil_append, List.set_cons_zero, List.flatten_cons]
    | succ k =>
      have ih := flat_set im (fun y hy => h y (by simp [hy])) k s hs (by simpa using hk)
      unfold flatI at ih
      rw [List.set_cons_succ, List.flatten_cons, ← ih, show (k + 1) * 128 = x.length + k * 128 by omega, List.take_append, List.take_of_length_le (by omega), show x.length + k * 128 + 128 = x.length + (k * 128 + 128) by omega, List.drop_append, List.drop_of_length_le (by omega)]
      simp
theorem over_flat {im : List (List Int)} (h : ∀ s ∈ im, s.length = 128) {k : Nat} {s : List Int} (hs : s.length = 128) (hk : k < im.length) : over (flatI im) (k * 128) s = flatI (im.set k s) := by
  rw [over_eq _ _ _ (by rw [flat_len128 im h, hs]; omega), hs]
  exact flat_set im h k s hs hk
theorem zl_flat (n : Nat) : zl (128 * n) = flatI (List.replicate n Zs) := by
  unfold flatI zl Zs
  rw [List.flatten_replicate_replicate, Nat.mul_comm]
theorem img_flat {W : World} {g : Nat} {im : List (List Int)} {t : TypeId} (hg : W.heap[g]? = some (.cells (SA (flatI im)) t (0, 0))) (h : ∀ s ∈ im, IsSec s) : ImgAt W (some ⟨g, 0, none⟩) im := by
  have hl : ∀ s ∈ im, s.length = 128 := fun s hs => (h s hs).1
  refine ⟨h, .inr ⟨g, 0, rfl, slt hg, fun j s hj i v hv => ?_⟩⟩
  have hs := hl s (List.mem_of_getElem? hj)
  rw [List.getElem?_map] at hv
  cases hx : s[i]? with
  | none => rw [hx] at hv; cases hv
  | some x =>
    rw [hx] at hv
    have hi : i < 128 := by have := (List.getElem?_eq_some_iff.1 hx).1; omega
    have hf := flat_get128 im hl j s hj i hi
    rw [hx] at hf
    have e : (0 + j * 128) + i = j * 128 + i := by omega
    rw [show (⟨g, 0 + j * 128 + i, none⟩ : Addr) = ⟨g, j * 128 + i, none⟩ by rw [e], cell_of_row _ _ _ _ _ _ hg]
    simp [SA, hf]
    simpa using hv

end Go.Proofs.Ytjlhmojofjkkdab
