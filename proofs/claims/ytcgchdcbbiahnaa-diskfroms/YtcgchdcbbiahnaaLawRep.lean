/-
  Rows of one sector again and again; a list of one sector; a disk among the blocks that are known.
-/
import Derived.Test.YtcgchdcbbiahnaaLaw3
import Derived.Test.YtcgchdcbbiahnaaDiskRF
namespace Go.Proofs.Ytcgchdcbbiahnaa
open Go.RowKit

theorem fold_all (cs : List Value) : ∀ (z : List Value) (o : Nat), z.length = o + cs.length →
    (cs.zipIdx o).foldl (fun (a : Array Value) (x : Value × Nat) => a.setIfInBounds x.2 x.1) z.toArray = (z.take o ++ cs).toArray := by
  induction cs with
  | nil => intro z o h; simp at h; simp [List.take_of_length_le (Nat.le_of_eq h)]
  | cons c cs ih =>
    intro z o h
    simp only [List.length_cons] at h
    have ho : o < z.length := by omega
    rw [List.zipIdx_cons, List.foldl_cons]
    have e : z.toArray.setIfInBounds o c = (z.set o c).toArray := by simp
    show List.foldl _ (z.toArray.setIfInBounds o c) _ = _
    rw [e, ih (z.set o c) (o + 1) (by simp; omega)]
    congr 1
    rw [List.set_eq_take_append_cons_drop, if_pos ho, List.take_append, List.take_of_length_le (by simp; omega)]
    simp [Nat.min_eq_left (Nat.le_of_lt ho)]

theorem fold_arr (cs z : Array Value) (n : Nat) (hz : z.size = cs.size) (hn : cs.zipIdx.size = n) : Array.foldl (fun (a : Array Value) (x : Value × Nat) => a.setIfInBounds x.2 x.1) z cs.zipIdx 0 n = cs := by
  subst hn
  rw [← Array.foldl_toList, Array.toList_zipIdx]
  have := fold_all cs.toList z.toList 0 (by simp [hz])
  simpa using this

theorem build_one (s : List Int) (hs : s.length = 128) (w : World) :
    (Instr.buildSlice 30 1 #[(0, .agg (SA s))]).run Try.prog w = .ok (.slice (some ⟨w.heap.size, 0, none⟩) 1 1) (w.alloc (.cells (SA s) 41)) := by
  obtain ⟨i, hi, hz, hsz, hb⟩ := infoS
  have hlen : (SA s).size = 128 := by rw [SA_size, hs]
  simp only [Instr.buildSlice, Sem.run_bind, run_underlying Try.underlying30, Result.andThen_ok]
  simp [sizeOf, typeInfo, hi, hsz, zeroValue, hz, Instr.fill, Value.cells, hlen, newRow]
  rw [fold_arr (SA s) _ 128 (by simp [hlen]) (by simp [hlen])]

theorem slice_one {ops : Array Oper} {rest : List Oper} {o : Oper} {a : Act} {w : World} {Q : Exit → Act → World → Prop} (hgd : o.guard = none) (x : Operand) (ho : o.op = .buildSlice 30 1 #[(0, x)])
    (s : List Int) (hs : s.length = 128) (hx : a.eval x = .agg (SA s)) (h : wpList Try.prog ops Q rest (a.put o.dst (.slice (some ⟨w.heap.size, 0, none⟩) 1 1)) (w.alloc (.cells (SA s) 41))) :
    wpList Try.prog ops Q (o :: rest) a w :=
  wpList_plain hgd fun K hK => by
    have e : (#[(0, x)] : Array (Nat × Operand)).map (fun (i, x) => (i, a.eval x)) = #[(0, .agg (SA s))] := by simp [hx]
    unfold Oper.wp execOp
    simp only [ho]
    rw [e]
    simp only [Sem.run_bind, build_one s hs, Result.andThen_ok, Sem.run_pure]
    exact hK _ _ h

/-- One sector again and again. -/
def repS (k : Nat) (s : List Int) : List Int := flat (List.replicate k s)
theorem rep_all {s : List Int} (h : s.length = 128) (k : Nat) : AllS (List.replicate k s) := fun x hx => by rw [(List.mem_replicate.1 hx).2]; exact h
theorem repS_len {s : List Int} (h : s.length = 128) (k : Nat) : (repS k s).length = 128 * k := by rw [repS, flat_len (rep_all h k), List.length_replicate]
theorem repS_zero (s : List Int) : repS 0 s = [] := rfl
theorem repS_succ (s : List Int) (k : Nat) : repS k s ++ s = repS (k + 1) s := by
  unfold repS flat
  rw [List.replicate_succ', List.flatten_append]
  simp
theorem repS_add (s : List Int) (k j : Nat) : repS (k + j) s = repS k s ++ repS j s := by
  unfold repS flat
  rw [← List.flatten_append, List.replicate_append_replicate]
theorem repS_one (s : List Int) : repS 1 s = s := by simp [repS, flat]
theorem secK_rep {s : List Int} (h : s.length = 128) {k i : Nat} (hi : i < k) : secK (repS k s) i = s := by
  have e : repS k s = repS i s ++ (s ++ repS (k - i - 1) s) := by
    conv => lhs; rw [show k = i + (1 + (k - i - 1)) by omega, repS_add, repS_add, repS_one]
  unfold secK
  rw [e, List.drop_left' (by rw [repS_len h]; omega), List.take_left' h]
/-- The first k sectors of a list written over. -/
def mkS (s F : List Int) (k : Nat) : List Int := repS k s ++ F.drop (128 * k)
theorem mkS_zero (s F : List Int) : mkS s F 0 = F := by simp [mkS, repS_zero]
theorem mkS_len {s F : List Int} {m k : Nat} (h : s.length = 128) (hF : F.length = 128 * m) (hk : k ≤ m) : (mkS s F k).length = 128 * m := by
  rw [mkS, List.length_append, repS_len h, List.length_drop]; omega
theorem mkS_step {s F : List Int} {m k : Nat} (h : s.length = 128) (hF : F.length = 128 * m) (hk : k < m) : over (mkS s F k) (k * 128) s = mkS s F (k + 1) := by
  rw [over_eq _ _ _ (by rw [mkS_len h hF (by omega), h]; omega), h]
  unfold mkS
  have e1 : (repS k s).length = k * 128 := by rw [repS_len h]; omega
  rw [List.take_left' e1, List.drop_append, e1, List.drop_of_length_le (by rw [e1]; omega), List.nil_append, List.drop_drop, ← repS_succ]
  congr 2
  omega
theorem mkS_end {s F : List Int} {m : Nat} (hF : F.length = 128 * m) : mkS s F m = repS m s := by
  rw [mkS, List.drop_of_length_le (by rw [hF]; exact Nat.le_refl _), List.append_nil]

theorem rep_range {w : World} {g k i : Nat} {s : List Int} (h : s.length = 128) (hi : i < k) (hb : BytesAt w (some ⟨g, 0, none⟩) (repS k s)) : w.rangeAt g (i * 128) (s.map (Value.int .u8)) := by
  rcases hb with h0 | ⟨b, o, he, _, hc⟩
  · have := repS_len h k
    rw [h0] at this
    simp at this
    omega
  · cases he
    have := secK_range (w := w) (repS_len h k) hi hc
    rw [secK_rep h hi, Nat.zero_add] at this
    exact this

/-- A disk's two blocks. -/
def DB (p g m : Nat) (S : List Int) : List (Nat × Obj) := [(p, .cells (DC g m 0 false false 0) 72 (0, 0)), (g, .cells (SA S) 41 (0, 0))]
theorem isD_of {w0 w : World} {p g m : Nat} {S : List Int} {bl : List (Nat × Obj)} (h : HB w0 bl w) (hs : ∀ x, x ∈ DB p g m S → x ∈ bl) (hl : S.length = 128 * m) (h0 : 1 ≤ m) (h1 : m ≤ 4096) : IsD w p g m (D0 S) :=
  ⟨h.get (hs (p, .cells (DC g m 0 false false 0) 72 (0, 0)) (List.mem_cons_self)), h.get (hs (g, .cells (SA S) 41 (0, 0)) (List.mem_cons_of_mem _ (List.mem_singleton.2 rfl))), hl, h0, h1⟩

end Go.Proofs.Ytcgchdcbbiahnaa
