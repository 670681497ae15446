/-
  A file of the statements in memory; its source.
-/
import Derived.Test.YtjlhmojofjkkdabD2
namespace Go.Proofs.Ytjlhmojofjkkdab
open Go.RowKit Go.Shelf

def fileV (z : List Int) (a : Option Addr) (c : Nat) (s : Src) : Array Value := NA z ++ srcV a c s
theorem fileV_size {z : List Int} (hz : z.length = 18) (a : Option Addr) (c : Nat) (s : Src) : (fileV z a c s).size = 21 := by
  unfold fileV; rw [Array.size_append, NA_size, hz]; rfl
theorem szFile : (Try.prog.info? 28).map (·.size) = some 21 := by kernel_rfl
/-- A part of a row is loaded. -/
theorem run_part (w : World) (g off : Nat) (t tb : TypeId) (c xs : Array Value) (d : TypeDesc) (hg : w.heap[g]? = some (.cells c tb (0, 0))) (hx : ∀ (j : Nat) v, xs[j]? = some v → c[off + j]? = some v) (hu : Try.prog.underlying t = some d) (hd : d.isRow = true) (hi : (Try.prog.info? t).map (·.size) = some xs.size) :
    (loadVar t ⟨g, off, none⟩).run Try.prog w = .ok (.agg xs) w := by
  have h := run_loadVar_mid (P := Try.prog) w g off t xs.toList d (fun j v hv => by rw [cell_of_row _ _ _ _ tb (0, 0) hg]; exact hx j v (by simpa using hv)) hu hd (by simpa using hi)
  simpa using h
section
variable {ops : Array Oper} {rest : List Oper} {o : Oper} {a : Act} {w : World} {Q : Exit → Act → World → Prop}
theorem load_part (hgd : o.guard = none) (t : TypeId) (x : Operand) (ho : o.op = .load t x) (g off : Nat) (hx : a.eval x = .pointer (some ⟨g, off, none⟩)) (tb : TypeId) (c xs : Array Value) (d : TypeDesc) (hg : w.heap[g]? = some (.cells c tb (0, 0))) (hxs : ∀ (j : Nat) v, xs[j]? = some v → c[off + j]? = some v)
    (hu : Try.prog.underlying t = some d) (hd : d.isRow = true) (hi : (Try.prog.info? t).map (·.size) = some xs.size)
    (h : wpList Try.prog ops Q rest (a.put o.dst (.agg xs)) w) : wpList Try.prog ops Q (o :: rest) a w :=
  wpList_plain hgd fun _ hK => by
    unfold Oper.wp execOp
    simp only [ho, hx, Instr.loadAt, Instr.sureAddr, Sem.run_bind, Sem.run_pure, Result.andThen_ok, run_part w g off t tb c xs d hg hxs hu hd hi]
    exact hK _ _ h
end
section
variable {ops : Array Oper} {Q : Exit → Act → World → Prop} {S : World → Prop} {fuel : Nat} {listed : Array Bool} {a : Act} {w : World}
theorem takeP (i d : Nat) (t : TypeId) (x : Operand) (g off : Nat) (tb : TypeId) (c xs : Array Value) (td : TypeDesc) {o : Oper} (hop : ops[i]? = some o) (hs : Region.noSelect ops = true) (hf : Region.free .any ops listed i = true) (hr : (Region.ready .any ops listed).contains i = true)
    (hd : o.dst = some d) (ho : o.op = .load t x) (hx : a.eval x = .pointer (some ⟨g, off, none⟩)) (hu : Try.prog.underlying t = some td) (htd : td.isRow = true) (hi : (Try.prog.info? t).map (·.size) = some xs.size)
    (hw : Region.wanted o (yielded ops a.tmps) = true) (hQ : ∀ c a w, ¬ Q (.panic c) a w) (hS : S w) (hxs : ∀ (j : Nat) v, xs[j]? = some v → c[off + j]? = some v)
    (hg : ∀ w, S w → w.heap[g]? = some (.cells c tb (0, 0)))
    (h : wpAnyH Try.prog .any ops Q S fuel (listed.setIfInBounds i true) { a with tmps := a.tmps.setIfInBounds d (.agg xs) } w) : wpAnyH Try.prog .any ops Q S (fuel + 1) listed a w := by
  refine takeVal i d _ hop hs hf hr hd hw hQ hS (fun w hw' => ?_) h
  unfold execOp
  simp only [ho, hx, Instr.loadAt, Instr.sureAddr, Sem.run_bind, Sem.run_pure, Result.andThen_ok, run_part w g off t tb c xs td (hg w hw') hxs hu htd hi]
end
theorem file_ino (z : List Int) (a : Option Addr) (c : Nat) (s : Src) (j : Nat) (v : Value) (h : (NA z)[j]? = some v) : (fileV z a c s)[0 + j]? = some v := by
  rw [Nat.zero_add]
  unfold fileV
  rw [Array.getElem?_append_left (Array.getElem?_eq_some_iff.1 h).1]
  exact h
theorem file_at {z : List Int} (hz : z.length = 18) (a : Option Addr) (c : Nat) (s : Src) (j : Nat) : (fileV z a c s)[18 + j]? = (srcV a c s)[j]? := by
  unfold fileV
  rw [Array.getElem?_append_right (by rw [NA_size, hz]; omega), NA_size, hz, Nat.add_sub_cancel_left]

set_option maxRecDepth 100000 in
set_option maxHeartbeats 1000000 in
theorem source_any (z : List Int) (a : Option Addr) (c : Nat) (s : Src) (w : World) (hz : z.length = 18) :
    Calls Try.prog 7 #[.agg (fileV z a c s)] w fun e w' => e = .returned (.agg (srcV a c s)) ∧ Below w.heap.size w w' := by
  have hz2 : ∀ w, (zeroValue 32).run Try.prog w = .ok (.agg ZR) w := fun w => by kernel_rfl
  have hat := file_at hz a c s
  obtain ⟨FV, hFV⟩ : ∃ y, y = fileV z a c s := ⟨_, rfl⟩
  rw [← hFV] at hat
  rw [← hFV]
  clear hFV
  obtain ⟨W, hW⟩ : ∃ y, y = (w.alloc (.cells FV 28)).alloc (.cells ZR 32) := ⟨_, rfl⟩
  have H0 : W.heap[w.heap.size]? = some (.cells FV 28 (0, 0)) := by rw [hW]; exact heap_alloc2_old w _ _
  have H1 : Hid (W.heap[w.heap.size + 1]? = some (.cells ZR 32 (0, 0))) := by rw [hW]; exact heap_alloc2_new w _ _
  have HB : Hid (Below w.heap.size w W) := by rw [hW]; exact ((Below.refl _ _).alloc (Nat.le_refl _) _).alloc (by simp) _
  have c0 : W.cell? ⟨w.heap.size, 18, none⟩ = some (.slice a s.im.length c) := by rw [cell_of_row _ _ _ _ _ _ H0]; exact hat 0
  have c1 : W.cell? ⟨w.heap.size, 19, none⟩ = some (.int .i64 s.bad) := by rw [cell_of_row _ _ _ _ _ _ H0]; exact hat 1
  have c2 : W.cell? ⟨w.heap.size, 20, none⟩ = some (.int .i64 s.code) := by rw [cell_of_row _ _ _ _ _ _ H0]; exact hat 2
  go_enter Try.func7, Try.ntmps7
  go_upto_region 1 with fail
  rw [← hW]
  clear hW hz2 H0
  have hb5 : ∀ (a : Option Addr) (n c : Nat) (x y : Int) w, (Instr.build 32 #[(0, .slice a n c), (1, .int .i64 x), (2, .int .i64 y)]).run Try.prog w = .ok (.agg #[.slice a n c, .int .i64 x, .int .i64 y]) w := fun a n c x y w => by kernel_rfl
  go_wp2_with (first
    | (refine store_R rfl 32 (.tmp 2) (.tmp 9) rfl (w.heap.size + 1) #[.slice a s.im.length c, .int .i64 s.bad, .int .i64 s.code] rfl rfl 32 ZR H1.out (by rw [szSrc]; rfl) rfl (by simp [Value.oneCell']) ?_; intro w5 p5))
  exact bodyPost_ret (results_R1 Try.results7 _ _ (w.heap.size + 1) _ 32 _ Try.underlying32 rfl (by rw [szSrc]; rfl) rfl p5.here) rfl ⟨rfl, p5.below HB.out (by omega)⟩

end Go.Proofs.Ytjlhmojofjkkdab
