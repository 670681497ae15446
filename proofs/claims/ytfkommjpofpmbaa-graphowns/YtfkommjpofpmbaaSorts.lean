/-
  Lists of the call's own, sorted by the library.
-/
import Derived.Test.YtfkommjpofpmbaaCmpE
namespace Go.Proofs.Ytfkommjpofpmbaa
open Go.RowKit Go.Shelf Go.Sort Go.Lib

section
variable {α : Type} [Inhabited α] {enc : α → Value} {w : World} {g q : Nat} {os : Array Obj}
theorem sorted_heap {cur : Array Value} {e : TypeId} {fr : Nat × Nat} (d : Array α) (hb : w.heap[g]? = some (.cells cur e fr)) :
    (grow (putRow enc (Sort.ahead w q) g 0 d) os).heap[g]? = some (.cells (putCells enc 0 d cur) e fr) := by
  have hg := slt hb
  rw [heap_grow_old _ _ (by simpa [putRow, mapBlock, Sort.ahead] using hg)]
  simp [putRow, mapBlock, Sort.ahead, Array.getElem?_modify, hb, onCells]
theorem sorted_chg (d : Array α) : Chg w (grow (putRow enc (Sort.ahead w q) g 0 d) os) (· = g) := by
  refine ⟨rfl, rfl, rfl, by simp [grow, putRow, mapBlock, Sort.ahead], fun k hk hne => ?_⟩
  rw [heap_grow_old _ _ (by simpa [putRow, mapBlock, Sort.ahead] using hk)]
  have : g ≠ k := fun e => hne e.symm
  simp [putRow, mapBlock, Sort.ahead, Array.getElem?_modify, this]
theorem sorted_take (cur : Array Value) (ts : List α) (h : ts.length ≤ cur.size) : (putCells enc 0 ts.toArray cur).toList.take ts.length = ts.map enc := by
  apply List.ext_getElem?
  intro j
  by_cases hj : j < ts.length
  · rw [List.getElem?_take_of_lt hj, Array.getElem?_toList]
    simp [putCells, hj, show j < cur.size by omega]
  · rw [List.getElem?_take_eq_none (by omega), List.getElem?_eq_none (by simp; omega)]
theorem sorted_row {base cap n k : Nat} {e : TypeId} {cur : Array Value} (ts : List α) (hl : ts.length = n * k) (hbase : base ≤ g) (hb : w.heap[g]? = some (.cells cur e (0, 0))) (h1 : n ≤ cap) (h2 : cap ≤ maxLen) (h3 : cur.size = cap * k) :
    (grow (putRow enc (Sort.ahead w q) g 0 ts.toArray) os).ownsRow base e k (.slice (some ⟨g, 0, none⟩) n cap) n (ts.map enc) := by
  refine ⟨by simp [hl], .inr ⟨g, cap, _, rfl, hbase, sorted_heap _ hb, h1, h2, by simp [putCells, h3], ?_⟩⟩
  rw [← hl]
  exact sorted_take cur ts (by rw [hl, h3]; exact Nat.mul_le_mul_right k h1)
theorem row_holds {cur : Array Value} {e : TypeId} {ss : List α} (hb : w.heap[g]? = some (.cells cur e (0, 0))) (ht : cur.toList.take ss.length = ss.map enc) : Holds enc w g 0 ss.toArray := by
  intro j hj
  have hj' : j < ss.length := by simpa using hj
  refine ⟨?_, frozen_of_row w g _ cur e hb⟩
  have h1 : (cur.toList.take ss.length)[j]? = (ss.map enc)[j]? := by rw [ht]
  rw [List.getElem?_take_of_lt hj'] at h1
  rw [cell_of_row _ _ _ _ _ _ hb, Nat.zero_add, ← Array.getElem?_toList, h1]
  simp [hj']
end

def sortI (l : List Int) : List Int := l.mergeSort fun x y => decide (x ≤ y)
theorem sortI_len (l : List Int) : (sortI l).length = l.length := by simp [sortI]

theorem sort_ints (w : World) (base : Nat) (v : Value) (l : List Int) (h : Ints w base v l) (hl : l.length ≤ 1000000000000) : Calls Try.prog 27 #[v] w fun e w' =>
    e = .returned (.tuple #[]) ∧ Ints w' base v (sortI l) ∧ Chg w w' (fun k => v.ownBlock = some k) := by
  rcases h.2 with ⟨rfl, h0⟩ | ⟨g, cap, cur, rfl, hge, hb, h1, h2, h3, h4⟩
  · have hn := Any.slices_Sort_int_none laySort none 0 w
    change Calls Try.prog 27 _ _ _ at hn
    refine hn.mono ?_
    rintro e w' ⟨rfl, rfl⟩
    have : l = [] := List.eq_nil_of_length_eq_zero h0
    subst this
    exact ⟨rfl, by rw [show sortI [] = [] by simp [sortI]]; exact h, Chg.refl _ _⟩
  · have hH : Holds (Value.int .i64) w g 0 l.toArray := row_holds hb (by rw [← h4, Nat.mul_one])
    have hc := Any.slices_Sort_int laySort g 0 cap l w hH (slt hb) (by omega)
    change Calls Try.prog 27 _ _ _ at hc
    refine hc.mono ?_
    rintro e w' ⟨rfl, q, os, rfl⟩
    refine ⟨rfl, ?_, (sorted_chg _).mono fun j _ e => by rw [e]; rfl⟩
    unfold Ints
    rw [sortI_len]
    exact sorted_row (sortI l) (by rw [sortI_len, Nat.mul_one]) hge hb h1 h2 h3

theorem cmpE_lt (x y : Int × Int) : ltOf cmpE x y = decide (x.1 < y.1 ∨ (x.1 = y.1 ∧ x.2 < y.2)) := by
  unfold ltOf cmpE orI Lib.compareInt
  by_cases h1 : x.1 < y.1
  · simp [h1]
  · by_cases h2 : x.1 > y.1
    · have h3 : ¬ x.1 = y.1 := by omega
      simp [h1, h2, h3]
    · have h3 : x.1 = y.1 := by omega
      by_cases h4 : x.2 < y.2
      · simp [h3, h4]
      · by_cases h5 : x.2 > y.2
        · simp [h3, h4, h5]
        · simp [h3, h4, h5]
theorem swoE : SWO (ltOf cmpE) where
  irrefl x := by rw [cmpE_lt]; simp
  trans x y z h1 h2 := by
    rw [cmpE_lt] at *
    simp only [decide_eq_true_eq] at *
    omega
  ntrans x y z h1 h2 := by
    rw [cmpE_lt] at *
    simp only [decide_eq_false_iff_not] at *
    omega
theorem flat_eq (l : List (Int × Int)) : flatK encE 2 l.toArray = (cellsE l).toArray := by
  refine ext_get! (by simp [cellsE_len]) fun t ht => ?_
  have ht' : t < l.length * 2 := by simpa using ht
  rw [get_flatK _ _ _ t (by simpa using ht')]
  have hd : t / 2 < l.length := by omega
  have hg := cellsE_get l (t / 2)
  rw [List.getElem?_eq_getElem hd] at hg
  have e1 : (l.toArray)[t / 2]! = l[t / 2] := by simp [hd]
  rw [e1]
  rcases Nat.mod_two_eq_zero_or_one t with hm | hm
  · rw [hm]
    have e2 : (cellsE l)[t]? = some (.int .i64 (l[t / 2]).1) := by
      have := hg.1
      rw [show 2 * (t / 2) = t by omega] at this
      exact this
    rw [show (cellsE l).toArray[t]! = .int .i64 (l[t / 2]).1 by simp [Array.getElem!_eq_getD, Array.getD_eq_getD_getElem?, e2]]
    rfl
  · rw [hm]
    have e2 : (cellsE l)[t]? = some (.int .i64 (l[t / 2]).2) := by
      have := hg.2
      rw [show 2 * (t / 2) + 1 = t by omega] at this
      exact this
    rw [show (cellsE l).toArray[t]! = .int .i64 (l[t / 2]).2 by simp [Array.getElem!_eq_getD, Array.getD_eq_getD_getElem?, e2]]
    rfl

def sortE (l : List (Int × Int)) : List (Int × Int) := l.mergeSort fun x y => !(ltOf cmpE) y x
theorem sortE_len (l : List (Int × Int)) : (sortE l).length = l.length := by simp [sortE]

theorem sort_edges (w : World) (base : Nat) (v : Value) (l : List (Int × Int)) (h : Edgs w base v l) (hl : l.length ≤ 1000000000000) : Calls Try.prog 28 #[v, .func (.func 29) #[] #[]] w fun e w' =>
    e = .returned (.tuple #[]) ∧ Edgs w' base v (sortE l) ∧ Chg w w' (fun k => v.ownBlock = some k) := by
  rcases h.2 with ⟨rfl, h0⟩ | ⟨g, cap, cur, rfl, hge, hb, h1, h2, h3, h4⟩
  · have hn := AnyF.slices_SortFunc_none laySortF none 0 (.func (.func 29) #[] #[]) w
    change Calls Try.prog 28 _ _ _ at hn
    refine hn.mono ?_
    rintro e w' ⟨rfl, rfl⟩
    have : l = [] := List.eq_nil_of_length_eq_zero h0
    subst this
    exact ⟨rfl, by rw [show sortE [] = [] by simp [sortE]]; exact h, Chg.refl _ _⟩
  · have hH : HoldsK encE 2 w g 0 l.toArray := by
      unfold HoldsK
      rw [flat_eq]
      exact row_holds (enc := id) hb (by rw [cellsE_len, h4]; simp)
    have eg : ∀ args w, (callFunc 29 args).run Try.prog w = .ok (.enter 29 args) w := enters_of Try.func29 (by kernel_rfl) rfl
    have hc := AnyQ.slices_SortFunc_total laySortF 2 Try.isAgg48 Try.sizeOf48 encE (fun _ => rfl) (fun x v hv => by simp [encE] at hv; rcases hv with rfl | rfl <;> rfl) cmpE swoE 29 #[] g 0 cap l.toArray w eg
      (fun _ _ _ _ x y => byPre_any x y _) hH (slt hb) (by simp; omega) (fun x y k1 k2 => by
        rw [cmpE_lt, decide_eq_false_iff_not] at k1 k2
        exact Prod.ext (by omega) (by omega))
    change Calls Try.prog 28 _ _ _ at hc
    rw [show l.toArray.size = l.length by simp] at hc
    refine hc.mono ?_
    rintro e w' ⟨rfl, q, os, rfl⟩
    have e2 : (l.toArray.toList.mergeSort fun x y => !(ltOf cmpE) y x) = sortE l := rfl
    rw [e2]
    unfold sortWorldK putRowK
    rw [flat_eq]
    refine ⟨rfl, ?_, (sorted_chg _).mono fun j _ e => by rw [e]; rfl⟩
    unfold Edgs
    rw [sortE_len]
    have := sorted_row (w := w) (g := g) (q := q) (os := os) (enc := id) (k := 2) (cellsE (sortE l)) (by rw [cellsE_len, sortE_len]) hge hb h1 h2 h3
    rw [List.map_id] at this
    exact this

/-- Rising, each once. -/
theorem sortI_up (l : List Int) (h : l.Pairwise (· ≠ ·)) : (sortI l).Pairwise (· < ·) := by
  have h1 : (sortI l).Pairwise (fun x y => decide (x ≤ y) = true) := List.pairwise_mergeSort (fun a b c h1 h2 => by simp at *; omega) (fun a b => by simp; omega) l
  have h2 : (sortI l).Pairwise (· ≠ ·) := ((List.mergeSort_perm l _).pairwise_iff (fun {_ _} hne => Ne.symm hne)).2 h
  exact (h1.and h2).imp fun {a b} hh => by
    obtain ⟨k1, k2⟩ := hh
    simp at k1
    omega
theorem sortI_mem (l : List Int) (x : Int) : x ∈ sortI l ↔ x ∈ l := (List.mergeSort_perm l _).mem_iff
/-- By Pre, then by Post. -/
def ltE (x y : Int × Int) : Prop := x.1 < y.1 ∨ (x.1 = y.1 ∧ x.2 < y.2)
theorem sortE_up (l : List (Int × Int)) (h : l.Pairwise (· ≠ ·)) : (sortE l).Pairwise ltE := by
  have h1 : (sortE l).Pairwise (fun x y => (!(ltOf cmpE) y x) = true) := List.pairwise_mergeSort (fun a b c h1 h2 => by
      simp only [cmpE_lt, Bool.not_eq_true', decide_eq_false_iff_not] at *
      omega) (fun a b => by
      simp only [cmpE_lt, Bool.or_eq_true, Bool.not_eq_true', decide_eq_false_iff_not]
      omega) l
  have h2 : (sortE l).Pairwise (· ≠ ·) := ((List.mergeSort_perm l _).pairwise_iff (fun {_ _} hne => Ne.symm hne)).2 h
  exact (h1.and h2).imp fun {a b} hh => by
    obtain ⟨k1, k2⟩ := hh
    simp only [cmpE_lt, Bool.not_eq_true', decide_eq_false_iff_not] at k1
    have k3 : ¬ (a.1 = b.1 ∧ a.2 = b.2) := fun e => k2 (Prod.ext e.1 e.2)
    unfold ltE
    omega
theorem sortE_mem (l : List (Int × Int)) (x : Int × Int) : x ∈ sortE l ↔ x ∈ l := (List.mergeSort_perm l _).mem_iff

end Go.Proofs.Ytfkommjpofpmbaa
