/-
  The document's Need.
-/
import Derived.Test.YtjlhmojofjkkdaaH0
import Derived.Test.YtjlhmojofjkkdaaE1
import Derived.Laws.MakeOwn
namespace Go.Proofs.Ytjlhmojofjkkdaa
open Go.RowKit Go.Shelf

def holeB (s : Src) (z ks : List Int) (j : Nat) : Bool := decide ((j : Int) ∈ ks) && decide (secK s z j = 0)
def holeL (s : Src) (z ks : List Int) (k : Nat) : List Bool := (List.range 1068).map (holeB s z (ks.take k))
theorem holeL_len (s : Src) (z ks : List Int) (k : Nat) : (holeL s z ks k).length = 1068 := by unfold holeL; simp
theorem holeL_zero (s : Src) (z ks : List Int) : holeL s z ks 0 = List.replicate 1068 false := by
  unfold holeL
  rw [List.take_zero]
  have : holeB s z [] = fun _ => false := by funext j; simp [holeB]
  rw [this, List.map_const', List.length_range]
theorem holeL_step {s : Src} {z ks : List Int} {k X : Nat} (hx : ks[k]? = some (X : Int)) : (holeL s z ks k).set X (decide (secK s z X = 0)) = holeL s z ks (k + 1) := by
  apply List.ext_getElem
  · simp [holeL]
  · intro j h1 h2
    unfold holeL at *
    rw [List.getElem_set]
    simp only [List.getElem_map, List.getElem_range]
    by_cases e : X = j
    · subst e
      rw [if_pos rfl]
      unfold holeB
      rw [List.take_add_one, hx]
      simp
    · rw [if_neg e]
      unfold holeB
      congr 1
      rw [decide_eq_decide, List.take_add_one, hx]
      have : (j : Int) ≠ (X : Int) := by omega
      simp [this]
theorem holeL_get {s : Src} {z ks : List Int} {j : Nat} (h : j < 1068) : (holeL s z ks ks.length).getD j false = holeB s z ks j := by
  unfold holeL
  rw [List.take_length, List.getD_eq_getElem?_getD, List.getElem?_map, List.getElem?_range h]
  rfl
def cntK (h : Nat → Bool) (k : Nat) : Nat := ((List.range k).filter h).length
def anyK (h : Nat → Bool) (q : Nat → Bool) (k : Nat) : Bool := (List.range k).any fun j => h j && q j
theorem cntK_no {h : Nat → Bool} {k : Nat} (e : h k = false) : cntK h (k + 1) = cntK h k := by
  unfold cntK
  rw [List.range_succ, List.filter_append]
  simp [e]
theorem cntK_yes {h : Nat → Bool} {k : Nat} (e : h k = true) : cntK h (k + 1) = cntK h k + 1 := by
  unfold cntK
  rw [List.range_succ, List.filter_append]
  simp [e]
theorem anyK_succ (h q : Nat → Bool) (k : Nat) : anyK h q (k + 1) = (anyK h q k || (h k && q k)) := by
  unfold anyK
  rw [List.range_succ, List.any_append]
  simp
def inLow (j : Nat) : Bool := decide (12 ≤ j ∧ j < 44)
def inFar (j : Nat) : Bool := decide (44 ≤ j)
def inTab (i j : Nat) : Bool := decide (44 ≤ j ∧ (j - 44) / 32 = i)
def tabB (h : Nat → Bool) (T : List Int) (k i : Nat) : Bool := decide (T.getD i 0 = 0) && anyK h (inTab i) k
def tabL (h : Nat → Bool) (T : List Int) (k : Nat) : List Bool := (List.range 32).map (tabB h T k)
def tabC (h : Nat → Bool) (T : List Int) (k : Nat) : Nat := ((List.range 32).filter (tabB h T k)).length
theorem tabL_len (h : Nat → Bool) (T : List Int) (k : Nat) : (tabL h T k).length = 32 := by simp [tabL]
theorem tabB_zero (h : Nat → Bool) (T : List Int) (i : Nat) : tabB h T 0 i = false := by simp [tabB, anyK]
theorem tabL_zero (h : Nat → Bool) (T : List Int) : tabL h T 0 = List.replicate 32 false := by
  unfold tabL
  have : tabB h T 0 = fun _ => false := by funext i; exact tabB_zero h T i
  rw [this, List.map_const', List.length_range]
theorem tabL_get (h : Nat → Bool) (T : List Int) (k : Nat) {i : Nat} (hi : i < 32) : (tabL h T k).getD i false = tabB h T k i := by
  unfold tabL
  rw [List.getD_eq_getElem?_getD, List.getElem?_map, List.getElem?_range hi]
  rfl
theorem tabB_stay {h : Nat → Bool} {T : List Int} {k : Nat} (hs : h k = false ∨ k < 44 ∨ T.getD ((k - 44) / 32) 0 ≠ 0 ∨ tabB h T k ((k - 44) / 32) = true) : tabB h T (k + 1) = tabB h T k := by
  funext i
  unfold tabB
  rw [anyK_succ]
  by_cases hT : T.getD i 0 = 0
  · by_cases ha : anyK h (inTab i) k = true
    · simp [ha]
    · have ha' : anyK h (inTab i) k = false := by simpa using ha
      have : (h k && inTab i k) = false := by
        cases hk : h k with
        | false => rfl
        | true =>
          cases hq : inTab i k with
          | false => rfl
          | true =>
            exfalso
            have hq : 44 ≤ k ∧ (k - 44) / 32 = i := by simpa [inTab] using hq
            rcases hs with e | e | e | e
            · rw [hk] at e; cases e
            · omega
            · rw [hq.2] at e; exact e hT
            · rw [hq.2] at e
              unfold tabB at e
              rw [ha'] at e
              simp at e
      rw [this, ha']
      simp
  · rw [decide_eq_false hT]
    rfl
theorem tabB_new {h : Nat → Bool} {T : List Int} {k : Nat} (hk : h k = true) (h44 : 44 ≤ k) (hT : T.getD ((k - 44) / 32) 0 = 0) (i : Nat) : tabB h T (k + 1) i = if i = (k - 44) / 32 then true else tabB h T k i := by
  unfold tabB
  rw [anyK_succ, hk]
  by_cases e : i = (k - 44) / 32
  · subst e
    have : inTab ((k - 44) / 32) k = true := by simp [inTab, h44]
    rw [this, if_pos rfl, hT]
    simp
  · rw [if_neg e]
    have : inTab i k = false := by simp [inTab]; omega
    rw [this]
    simp
theorem tabL_set {h : Nat → Bool} {T : List Int} {k : Nat} (hk : h k = true) (h44 : 44 ≤ k) (hT : T.getD ((k - 44) / 32) 0 = 0) : (tabL h T k).set ((k - 44) / 32) true = tabL h T (k + 1) := by
  apply List.ext_getElem
  · simp [tabL]
  · intro i h1 h2
    unfold tabL at *
    rw [List.getElem_set]
    simp only [List.getElem_map, List.getElem_range]
    rw [tabB_new hk h44 hT i]
    by_cases e : (k - 44) / 32 = i
    · rw [if_pos e, if_pos e.symm]
    · rw [if_neg e, if_neg (fun e' => e e'.symm)]
theorem tabC_new {h : Nat → Bool} {T : List Int} {k : Nat} (hk : h k = true) (h44 : 44 ≤ k) (hlt : k < 1068) (hT : T.getD ((k - 44) / 32) 0 = 0) (hn : tabB h T k ((k - 44) / 32) = false) : tabC h T (k + 1) = tabC h T k + 1 := by
  unfold tabC
  have key : ∀ (l : List Nat), l.Nodup → (l.filter (tabB h T (k + 1))).length = (l.filter (tabB h T k)).length + (if (k - 44) / 32 ∈ l then 1 else 0) := by
    intro l
    induction l with
    | nil => intro _; rfl
    | cons x l ih =>
      intro hnd
      obtain ⟨h1, h2⟩ := List.nodup_cons.1 hnd
      have ih := ih h2
      by_cases e : x = (k - 44) / 32
      · subst e
        rw [List.filter_cons_of_pos (by rw [tabB_new hk h44 hT, if_pos rfl]), List.filter_cons_of_neg (by rw [hn]; decide), List.length_cons, ih, if_neg h1, if_pos (by simp)]
      · have hx : tabB h T (k + 1) x = tabB h T k x := by rw [tabB_new hk h44 hT, if_neg e]
        have hm : ((k - 44) / 32 ∈ x :: l) ↔ ((k - 44) / 32 ∈ l) := by
          rw [List.mem_cons]
          exact ⟨fun h => h.elim (fun e' => absurd e'.symm e) id, .inr⟩
        by_cases hq : tabB h T k x = true
        · rw [List.filter_cons_of_pos (by rw [hx]; exact hq), List.filter_cons_of_pos hq, List.length_cons, List.length_cons, ih]
          simp only [hm]; omega
        · rw [List.filter_cons_of_neg (by rw [hx]; exact hq), List.filter_cons_of_neg hq, ih]
          simp only [hm]
  rw [key _ List.nodup_range, if_pos (by simp; omega)]
/-- What these lack, as the document counts it. -/
def lackK (h : Nat → Bool) (S D : Int) (T : List Int) : List (Int × Int) :=
  ((List.range 1068).filter h).map (fun (k : Nat) => ((0 : Int), (k : Int))) ++ ((if anyK h inLow 1068 = true ∧ S = 0 then [((1 : Int), (12 : Int))] else []) ++ ((if anyK h inFar 1068 = true ∧ D = 0 then [((2 : Int), (44 : Int))] else []) ++ ((List.range 32).filter (tabB h T 1068)).map (fun (i : Nat) => ((1 : Int), 44 + 32 * (i : Int)))))
theorem lackK_nodup (h : Nat → Bool) (S D : Int) (T : List Int) : (lackK h S D T).Nodup := by
  unfold lackK
  refine List.nodup_append.2 ⟨nodup_map_inj (List.nodup_range.filter _) (fun a _ b _ e => by simp at e; omega), List.nodup_append.2 ⟨by split <;> simp, List.nodup_append.2 ⟨by split <;> simp, nodup_map_inj (List.nodup_range.filter _) (fun a _ b _ e => by simp at e; omega), ?_⟩, ?_⟩, ?_⟩
  · intro a ha b hb e
    obtain ⟨i, _, rfl⟩ := List.mem_map.1 hb
    split at ha
    · simp at ha; subst ha; simp at e
    · simp at ha
  · intro a ha b hb e
    have ha : a = (1, 12) := by split at ha <;> simp at ha; exact ha
    subst ha
    rcases List.mem_append.1 hb with hb | hb
    · have hb : b = (2, 44) := by split at hb <;> simp at hb; exact hb
      subst hb; simp at e
    · obtain ⟨i, _, rfl⟩ := List.mem_map.1 hb
      simp at e; omega
  · intro a ha b hb e
    obtain ⟨k, _, rfl⟩ := List.mem_map.1 ha
    rcases List.mem_append.1 hb with hb | hb
    · have hb : b = (1, 12) := by split at hb <;> simp at hb; exact hb
      subst hb; simp at e
    · rcases List.mem_append.1 hb with hb | hb
      · have hb : b = (2, 44) := by split at hb <;> simp at hb; exact hb
        subst hb; simp at e
      · obtain ⟨i, _, rfl⟩ := List.mem_map.1 hb
        simp at e
theorem any_iff {h q : Nat → Bool} {n : Nat} : anyK h q n = true ↔ ∃ j, j < n ∧ h j = true ∧ q j = true := by
  unfold anyK
  rw [List.any_eq_true]
  constructor
  · rintro ⟨j, hj, hq⟩
    rw [Bool.and_eq_true] at hq
    exact ⟨j, by simpa using hj, hq.1, hq.2⟩
  · rintro ⟨j, hj, h1, h2⟩
    exact ⟨j, by simpa using hj, by rw [h1, h2]; rfl⟩
theorem need_lack {s : Src} {z ks : List Int} (h : Needs s z ks) : (needL s z ks).length = (lackK (holeB s z ks) (z.getD 16 0) (z.getD 17 0) (rtabS s (z.getD 17 0)).1).length := by
  have hgood : ∀ k ∈ ks, ∃ j : Nat, k = (j : Int) ∧ j < 1068 := by
    intro k hk
    have hb : badK k = false := by
      cases hb : badK k with
      | false => rfl
      | true => have := h.good; rw [Bool.eq_false_iff] at this; exact absurd (List.any_eq_true.2 ⟨k, hk, hb⟩) this
    have hb : ¬ (k < 0 ∨ 1068 ≤ k) := by simpa [badK] using hb
    exact ⟨k.toNat, by omega, by omega⟩
  have hD0 : z.getD 17 0 = 0 → ∀ i : Nat, (rtabS s (z.getD 17 0)).1.getD i 0 = 0 := by
    intro hD i
    rw [show rtabS s (z.getD 17 0) = (Zp, 0) from if_pos hD]
    exact Zp_get _
  refine len_eq_of_same (needL_nodup _ _ _) (lackK_nodup _ _ _ _) fun p => ?_
  rw [needL_mem h.ok]
  unfold lackK
  simp only [List.mem_append, List.mem_map, List.mem_filter, List.mem_range]
  have hhole : ∀ j : Nat, holeB s z ks j = true ↔ (j : Int) ∈ ks ∧ secK s z j = 0 := by
    intro j
    unfold holeB
    simp
  have htd : ∀ j : Nat, 44 ≤ j → (((j : Int) - 44).tdiv 32).toNat = (j - 44) / 32 := by
    intro j hj
    rw [Int.tdiv_eq_ediv_of_nonneg (by omega)]; omega
  constructor
  · rintro ⟨k, hk, hm⟩
    obtain ⟨j, rfl, hj⟩ := hgood k hk
    obtain ⟨h0, hp⟩ := (miss_iff (by omega) (by omega) (h.ok _ hk) p).1 hm
    have hH : holeB s z ks j = true := (hhole j).2 ⟨hk, h0⟩
    rcases hp with rfl | ⟨h12, h44, hS, rfl⟩ | ⟨hk44, hDT, rfl⟩ | ⟨h44, hD, rfl⟩
    · exact .inl ⟨j, ⟨hj, hH⟩, rfl⟩
    · refine .inr (.inl ?_)
      rw [if_pos ⟨any_iff.2 ⟨j, hj, hH, by simp [inLow]; omega⟩, hS⟩]; simp
    · refine .inr (.inr (.inr ⟨(j - 44) / 32, ⟨by omega, ?_⟩, ?_⟩))
      · have hT : (rtabS s (z.getD 17 0)).1.getD ((j - 44) / 32) 0 = 0 := by
          rcases hDT with hD | hT
          · exact hD0 hD _
          · unfold farT at hT; rw [htd j (by omega)] at hT; exact hT
        unfold tabB
        rw [hT, any_iff.2 ⟨j, hj, hH, by simp [inTab]; omega⟩]
        rfl
      · rw [Prod.mk.injEq]; exact ⟨rfl, by omega⟩
    · refine .inr (.inr (.inl ?_))
      rw [if_pos ⟨any_iff.2 ⟨j, hj, hH, by simp [inFar]; omega⟩, hD⟩]; simp
  · rintro (⟨k, ⟨hk, h0⟩, rfl⟩ | hp | hp | ⟨i, ⟨hi, hT⟩, rfl⟩)
    · obtain ⟨h1, h2⟩ := (hhole k).1 h0
      exact ⟨(k : Int), h1, (miss_iff (by omega) (by omega) (h.ok _ h1) _).2 ⟨h2, .inl rfl⟩⟩
    · split at hp
      · rename_i hc
        have hp : p = (1, 12) := by simpa using hp
        subst hp
        obtain ⟨j, hj, hH, hq⟩ := any_iff.1 hc.1
        obtain ⟨h1, h2⟩ := (hhole j).1 hH
        have hq : 12 ≤ j ∧ j < 44 := by simpa [inLow] using hq
        exact ⟨(j : Int), h1, (miss_iff (by omega) (by omega) (h.ok _ h1) _).2 ⟨h2, .inr (.inl ⟨by omega, by omega, hc.2, rfl⟩)⟩⟩
      · simp at hp
    · split at hp
      · rename_i hc
        have hp : p = (2, 44) := by simpa using hp
        subst hp
        obtain ⟨j, hj, hH, hq⟩ := any_iff.1 hc.1
        obtain ⟨h1, h2⟩ := (hhole j).1 hH
        have hq : 44 ≤ j := by simpa [inFar] using hq
        exact ⟨(j : Int), h1, (miss_iff (by omega) (by omega) (h.ok _ h1) _).2 ⟨h2, .inr (.inr (.inr ⟨by omega, hc.2, rfl⟩))⟩⟩
      · simp at hp
    · unfold tabB at hT
      rw [Bool.and_eq_true] at hT
      obtain ⟨j, hj, hH, hq⟩ := any_iff.1 hT.2
      obtain ⟨h1, h2⟩ := (hhole j).1 hH
      have hq : 44 ≤ j ∧ (j - 44) / 32 = i := by simpa [inTab] using hq
      refine ⟨(j : Int), h1, (miss_iff (by omega) (by omega) (h.ok _ h1) _).2 ⟨h2, .inr (.inr (.inl ⟨by omega, .inr ?_, ?_⟩))⟩⟩
      · unfold farT
        rw [htd j hq.1, hq.2]
        exact of_decide_eq_true hT.1
      · rw [Prod.mk.injEq]; exact ⟨rfl, by omega⟩
theorem lackK_len (h : Nat → Bool) (S D : Int) (T : List Int) : (lackK h S D T).length = cntK h 1068 + tabC h T 1068 + (if anyK h inLow 1068 = true ∧ S = 0 then 1 else 0) + (if anyK h inFar 1068 = true ∧ D = 0 then 1 else 0) := by
  unfold lackK cntK tabC
  simp only [List.length_append, List.length_map]
  have e1 : (if anyK h inLow 1068 = true ∧ S = 0 then [((1 : Int), (12 : Int))] else []).length = if anyK h inLow 1068 = true ∧ S = 0 then 1 else 0 := by split <;> rfl
  have e2 : (if anyK h inFar 1068 = true ∧ D = 0 then [((2 : Int), (44 : Int))] else []).length = if anyK h inFar 1068 = true ∧ D = 0 then 1 else 0 := by split <;> rfl
  rw [e1, e2]
  omega

end Go.Proofs.Ytjlhmojofjkkdaa

namespace Go.Proofs.Ytjlhmojofjkkdaa
open Go.RowKit Go.Shelf

def noneL (n : Nat) : List Bool := List.replicate n false
def BA (L : List Bool) : Array Value := (L.map Value.bool).toArray
theorem BA_size (L : List Bool) : (BA L).size = L.length := by simp [BA]
theorem BA_get (L : List Bool) (j : Nat) (h : j < L.length) : (BA L)[j]? = some (.bool (L.getD j false)) := by simp [BA, h]
theorem BA_set (L : List Bool) (j : Nat) (x : Bool) : (BA L).setIfInBounds j (.bool x) = BA (L.set j x) := by simp [BA, List.map_set]
theorem infoBo : ∃ i, Try.prog.info? 4 = some i ∧ i.zero = some (.bool false) ∧ i.size = 1 ∧ i.bytes = 1 := by
  have h : (Try.prog.info? 4).map (fun i => (i.zero, i.size, i.bytes)) = some (some (.bool false), 1, 1) := by kernel_rfl
  cases hq : Try.prog.info? 4 with
  | none => rw [hq] at h; cases h
  | some i =>
    rw [hq] at h
    simp at h
    exact ⟨i, rfl, h.1, h.2.1, h.2.2⟩
theorem made_bools (n : Nat) : madeCells #[Value.bool false] n = BA (noneL n) := by
  apply Array.ext
  · simp [size_madeCells, BA_size, noneL]
  · intro i h1 h2
    have e : (#[Value.bool false] : Array Value)[i % 1]! = Value.bool false := by rw [Nat.mod_one]; rfl
    simp only [madeCells, Array.getElem_map, Array.getElem_range]
    rw [show (#[Value.bool false] : Array Value).size = 1 from rfl, e]
    simp [BA, noneL]
theorem make_bools (n : Nat) (h1 : n ≤ 4098) (w : World) :
    (Instr.makeSlice 91 (.int .i64 (n : Int)) (.int .i64 (n : Int))).run Try.prog w = .ok (.slice (some ⟨w.heap.size, 0, none⟩) n n) (w.alloc (.cells (BA (noneL n)) 4)) := by
  obtain ⟨i, hi, hz, hs, hb⟩ := infoBo
  rw [run_make w 91 4 i _ Try.underlying91 hi hz .i64 .i64 n n (by omega) (Int.le_refl _) (by rw [hb]; omega) (by omega), hs, Nat.mul_one]
  rw [show Value.cells (.bool false) = #[Value.bool false] from rfl, made_bools, Int.toNat_natCast]

theorem BA_at {w : World} {g : Nat} {L : List Bool} {t : TypeId} (h : w.heap[g]? = some (.cells (BA L) t (0, 0))) (j : Nat) (hj : j < L.length) : w.cell? ⟨g, j, none⟩ = some (.bool (L.getD j false)) := by
  rw [cell_of_row _ _ _ _ _ _ h, BA_get _ _ hj]
theorem BA_put {w : World} {g : Nat} {L : List Bool} {t : TypeId} (h : w.heap[g]? = some (.cells (BA L) t (0, 0))) (j : Nat) (x : Bool) : (w.setCell ⟨g, j, none⟩ (.bool x)).heap[g]? = some (.cells (BA (L.set j x)) t (0, 0)) := by
  rw [heap_setCell_same w g j (BA L) t _ h, BA_set]
theorem cntK_le (h : Nat → Bool) (k : Nat) : cntK h k ≤ k := by unfold cntK; have := List.length_filter_le h (List.range k); simpa using this
theorem tabC_le (h : Nat → Bool) (T : List Int) (k : Nat) : tabC h T k ≤ 32 := by unfold tabC; have := List.length_filter_le (tabB h T k) (List.range 32); simpa using this
theorem tabC_zero (h : Nat → Bool) (T : List Int) : 0 = cntK h 0 + tabC h T 0 := by
  have e : (List.range 32).filter (tabB h T 0) = [] := List.filter_eq_nil_iff.2 (fun i _ => by rw [tabB_zero]; decide)
  unfold cntK tabC
  rw [e]
  rfl
theorem tabC_stay {h : Nat → Bool} {T : List Int} {k : Nat} (e : tabB h T (k + 1) = tabB h T k) : tabC h T (k + 1) = tabC h T k := by unfold tabC; rw [e]
theorem tabL_stay {h : Nat → Bool} {T : List Int} {k : Nat} (e : tabB h T (k + 1) = tabB h T k) : tabL h T (k + 1) = tabL h T k := by unfold tabL; rw [e]
theorem findQ_sec {s : Src} {z : List Int} {j : Nat} (hj : j < 1068) : findQ s z (j : Int) = (secK s z j, (folK s z (j : Int)).2.2) := by
  rw [find_same]
  unfold findR
  rw [if_neg (by omega)]
  rfl

set_option maxRecDepth 100000 in
set_option maxHeartbeats 4000000 in
theorem rNeed_any (a : Option Addr) (c : Nat) (s : Src) (z : List Int) (ak : Option Addr) (ck : Nat) (ks : List Int) (w : World) (hz : z.length = 18) (hi : ImgAt w a s.im) (hks : LI w ak ks) (hn : ks.length ≤ 9223372036854775807) :
    Calls Try.prog 22 #[.agg (srcV a c s), .agg (NA z), .slice ak ks.length ck] w fun e w' => e = .returned (.tuple #[.int .i64 (needR s z ks).1, .int .i64 (needR s z ks).2]) ∧ Below w.heap.size w w' := by
  have hzp := zero_ptr
  obtain ⟨SV, hSV⟩ : ∃ y, y = srcV a c s := ⟨_, rfl⟩
  have HSV := hid hSV
  have hS3 : SV.size = 3 := by rw [hSV]; rfl
  rw [← hSV]
  clear hSV
  obtain ⟨N, hN⟩ : ∃ N, N = ks.length := ⟨_, rfl⟩
  have HN := hid hN
  rw [← hN] at hn
  rw [← hN]
  clear hN
  obtain ⟨W, hW⟩ : ∃ y, y = (w.alloc (.cells SV 35)).alloc (.cells (NA z) 29) := ⟨_, rfl⟩
  have H0 : Hid (W.heap[w.heap.size]? = some (.cells SV 35 (0, 0))) := by rw [hW]; exact heap_alloc2_old w _ _
  have H1 : Hid (W.heap[w.heap.size + 1]? = some (.cells (NA z) 29 (0, 0))) := by rw [hW]; exact heap_alloc2_new w _ _
  have HB : Hid (Below w.heap.size w W) := by rw [hW]; exact ((Below.refl _ _).alloc (Nat.le_refl _) _).alloc (by simp) _
  have HZ : Hid (W.heap.size = w.heap.size + 2) := by rw [hW]; exact hid (by simp)
  have HT := hid (fun (n : Int) (X : World) (hX : Below w.heap.size w X) => show Calls Try.prog 26 #[.agg SV, .int .i64 n] X (fun e w' => e = .returned (.tuple #[.agg (NA (rtabS s n).1), .int .i64 (rtabS s n).2]) ∧ Below X.heap.size X w') from by
    have := rtable_any a c s n X (hi.below hX)
    rw [← HSV.out] at this
    exact this)
  have HF := hid (fun (k : Int) (X : World) (hX : Below w.heap.size w X) => show Calls Try.prog 14 #[.agg SV, .agg (NA z), .int .i64 k] X (fun e w' => e = .returned (.tuple #[.int .i64 (findQ s z k).1, .int .i64 (findQ s z k).2]) ∧ Below X.heap.size X w') from by
    have := rFind_any a c s z k X hz (hi.below hX)
    rw [← HSV.out] at this
    exact this)
  go_enter Try.func22, Try.ntmps22
  go_upto_region 1 with fail
  rw [← hW]
  clear hW
  go_upto_region 2 with fail
  go_loopw [8] (fun i wr => ∃ (k : Nat), k ≤ N ∧ i = .int .i64 k ∧ Hid (∀ (j : Nat) x, j < k → ks[j]? = some x → badK x = false) ∧ wr = W) (fun i _ => N - (intOf i).toNat)
  case atStart => exact ⟨0, by omega, rfl, hid (fun j x hj => by omega), rfl⟩
  case round =>
    obtain ⟨k, hk, rfl, HG, hwW⟩ := hrel
    subst hwW
    by_cases hlt : k < N
    · obtain ⟨x, hx⟩ : ∃ x, ks[k]? = some x := ⟨_, List.getElem?_eq_getElem (by rw [← HN.out]; exact hlt)⟩
      obtain ⟨g, o, ha, hcg⟩ := hks k x hx
      subst ha
      have hcp : wr.cell? ⟨g, o + k, none⟩ = some (.int .i64 x) := by rw [HB.out.cell (p := ⟨g, o + k, none⟩) (World.block_lt_of_cell? _ _ hcg)]; exact hcg
      have HX := hid hx
      clear hcg hx
      have j0 : (0 : Int) ≤ (k : Int) := by omega
      have j1 : (k : Int) < (N : Int) := by omega
      by_cases hb : x < 0 ∨ 1068 ≤ x
      · have HE : Hid (needR s z ks = (0, 90)) := hid (needR_bad (List.any_eq_true.2 ⟨x, List.mem_of_getElem? HX.out, by unfold badK; exact decide_eq_true hb⟩))
        by_cases hb1 : x < 0
        · clear hb
          go_wp2_with fail
          exact bodyPost_ret (results_2t Try.results22 _ _) rfl ⟨by rw [HE.out]; rfl, HB.out⟩
        · have hb2 : 1068 ≤ x := by omega
          clear hb
          go_wp2_with fail
          exact bodyPost_ret (results_2t Try.results22 _ _) rfl ⟨by rw [HE.out]; rfl, HB.out⟩
      · have HBx : Hid (badK x = false) := hid (by unfold badK; exact decide_eq_false hb)
        have hb1 : ¬ x < 0 := by omega
        have hb2 : ¬ 1068 ≤ x := by omega
        clear hb
        go_wp2_with fail
        refine ⟨⟨k + 1, by omega, by go_num, hid (fun j x' hj hx' => ?_), by first | trivial | rfl⟩, by simp [intOf]; omega⟩
        rcases Nat.lt_or_ge j k with e | e
        · exact HG.out j x' e hx'
        · obtain rfl : j = k := by omega
          rw [HX.out] at hx'; cases hx'; exact HBx.out
    · obtain rfl : k = N := by omega
      have hge : ¬ ((k : Int) < (k : Int)) := by omega
      have HA : Hid (ks.any badK = false) := hid (by
        rw [Bool.eq_false_iff]
        intro h
        obtain ⟨x, hx, hb⟩ := List.any_eq_true.1 h
        obtain ⟨j, hj, rfl⟩ := List.mem_iff_getElem.1 hx
        rw [HG.out j _ (by rw [HN.out]; exact hj) (List.getElem?_eq_getElem hj)] at hb
        cases hb)
      clear hlt
      have hmb : ∀ w, (Instr.makeSlice 91 (.int .i64 1068) (.int .i64 1068)).run Try.prog w = .ok (.slice (some ⟨w.heap.size, 0, none⟩) 1068 1068) (w.alloc (.cells (BA (noneL 1068)) 4)) := fun w => make_bools 1068 (by decide) w
      have hmb2 : ∀ w, (Instr.makeSlice 91 (.int .i64 32) (.int .i64 32)).run Try.prog w = .ok (.slice (some ⟨w.heap.size, 0, none⟩) 32 32) (w.alloc (.cells (BA (noneL 32)) 4)) := fun w => make_bools 32 (by decide) w
      obtain ⟨X, hX⟩ : ∃ y, y = wr.alloc (.cells (BA (noneL 1068)) 4) := ⟨_, rfl⟩
      obtain ⟨bh, hbh⟩ : ∃ y, y = wr.heap.size := ⟨_, rfl⟩
      have X0 : Hid (X.heap[bh]? = some (.cells (BA (holeL s z ks 0)) 4 (0, 0))) := by rw [hX, hbh, holeL_zero]; exact heap_alloc_new _ _
      have XS : Hid (X.heap[w.heap.size]? = some (.cells SV 35 (0, 0))) := by rw [hX, Below.heap_alloc _ _ _ (slt H0.out)]; exact H0
      have XZ : Hid (X.heap[w.heap.size + 1]? = some (.cells (NA z) 29 (0, 0))) := by rw [hX, Below.heap_alloc _ _ _ (slt H1.out)]; exact H1
      have XB : Hid (Below w.heap.size w X) := by rw [hX]; exact HB.out.alloc HB.out.size _
      have hbw : w.heap.size + 1 < bh := by rw [hbh, HZ.out]; omega
      go_upto_region 8 with fail
      rw [← hX, ← hbh]
      clear hX hbh
      go_loopw [10] (fun i wq => ∃ (j : Nat), j ≤ k ∧ i = .int .i64 j ∧ Hid (∀ (i : Nat) x, i < j → ks[i]? = some x → (folK s z x).2.2 = 0) ∧ Hid (wq.heap[bh]? = some (.cells (BA (holeL s z ks j)) 4 (0, 0))) ∧ Hid (Below w.heap.size w wq) ∧ Hid (wq.heap[w.heap.size]? = some (.cells SV 35 (0, 0))) ∧ Hid (wq.heap[w.heap.size + 1]? = some (.cells (NA z) 29 (0, 0)))) (fun i _ => k - (intOf i).toNat)
      case atStart => exact ⟨0, by omega, rfl, hid (fun i x hi => by omega), X0, XB, XS, XZ⟩
      case round =>
        obtain ⟨j, hj, rfl, HO, HH, HBq, HSq, HZq⟩ := hrel
        clear X0 XB XS XZ
        by_cases hlt : j < k
        · obtain ⟨x, hx⟩ : ∃ x, ks[j]? = some x := ⟨_, List.getElem?_eq_getElem (by rw [← HN.out]; exact hlt)⟩
          obtain ⟨g, o, ha, hcg⟩ := hks j x hx
          subst ha
          have hgw := World.block_lt_of_cell? _ _ hcg
          have hbx : ¬ (x < 0 ∨ 1068 ≤ x) := by have := HG.out j x hlt hx; simpa [badK] using this
          obtain ⟨Xn, hXn⟩ : ∃ n : Nat, x = (n : Int) := ⟨x.toNat, by omega⟩
          subst hXn
          have hXl : Xn < 1068 := by omega
          have HSt := hid (holeL_step (s := s) (z := z) hx)
          have hf := HF.out (Xn : Int)
          rw [findQ_sec hXl] at hf
          have HEr : Hid ((folK s z (Xn : Int)).2.2 ≠ 0 → needR s z ks = (0, (folK s z (Xn : Int)).2.2)) := hid (fun he => by
            obtain ⟨M, hM⟩ : ∃ M, needM s z ks [] = (M, (folK s z (Xn : Int)).2.2) := by
              have key : ∀ (l : List Int) (M : List (Int × Int)) (i : Nat), l[i]? = some (Xn : Int) → (∀ (t : Nat) y, t < i → l[t]? = some y → (folK s z y).2.2 = 0) → ∃ M', needM s z l M = (M', (folK s z (Xn : Int)).2.2) := by
                intro l
                induction l with
                | nil => intro M i hi; simp at hi
                | cons y l ih =>
                  intro M i hi ho
                  unfold needM
                  cases i with
                  | zero => simp at hi; subst hi; rw [if_neg he]; exact ⟨_, rfl⟩
                  | succ i =>
                    rw [if_pos (ho 0 y (by omega) rfl)]
                    exact ih _ i (by simpa using hi) (fun t u ht hu => ho (t + 1) u (by omega) (by simpa using hu))
              exact key ks [] j hx HO.out
            exact needR_err HA.out hM he)
          have HOs : Hid ((folK s z (Xn : Int)).2.2 = 0 → ∀ (i : Nat) x, i < j + 1 → ks[i]? = some x → (folK s z x).2.2 = 0) := hid (fun he i y hi hy => by
            rcases Nat.lt_or_ge i j with e | e
            · exact HO.out i y e hy
            · obtain rfl : i = j := by omega
              rw [hx] at hy; cases hy; exact he)
          generalize (folK s z (Xn : Int)).2.2 = fe at *
          generalize secK s z Xn = fs at *
          have HF1 := hid hf
          have hhl := holeL_len s z ks j
          generalize holeL s z ks j = HLl at *
          have hcell := hid hcg
          clear hf hx hcg hbx
          have j0 : (0 : Int) ≤ (j : Int) := by omega
          have j1 : (j : Int) < (k : Int) := by omega
          go_upto_region 10 with fail
          refine wp_region_noPanic ?_
          refine wp_region_held_drew (S := fun w' => w'.heap[w.heap.size]? = some (.cells SV 35 (0, 0)) ∧ w'.heap[w.heap.size + 1]? = some (.cells (NA z) 29 (0, 0)) ∧ w'.heap[bh]? = some (.cells (BA HLl) 4 (0, 0)) ∧ w'.cell? ⟨g, o + j, none⟩ = some (.int .i64 (Xn : Int)) ∧ Below w.heap.size w w') (by kernel_rfl) ⟨HSq.out, HZq.out, HH.out, (HBq.out.cell (p := ⟨g, o + j, none⟩) hgw).trans hcell.out, below_drew HBq.out⟩ (fun hHeld => ?_)
          refine takeR 0 47 35 (.tmp 3) w.heap.size 35 SV _ rfl (by kernel_rfl) (by kernel_rfl) (by kernel_rfl) rfl rfl rfl Try.underlying35 rfl (by rw [szSrc, hS3]) (by rfl) (fun _ _ _ h => h) hHeld (fun W' hw' => hw'.1) ?_
          simp only [List.setIfInBounds_toArray, List.set_cons_zero, List.set_cons_succ]
          refine takeR 1 48 29 (.tmp 4) (w.heap.size + 1) 29 (NA z) _ rfl (by kernel_rfl) (by kernel_rfl) (by kernel_rfl) rfl rfl rfl Try.underlying29 rfl (by rw [szI, NA_size, hz]) (by rfl) (fun _ _ _ h => h) hHeld (fun W' hw' => hw'.2.1) ?_
          simp only [List.setIfInBounds_toArray, List.set_cons_zero, List.set_cons_succ]
          refine takeVal 2 49 (.slice (some ⟨g, o, none⟩) k ck) rfl (by kernel_rfl) (by kernel_rfl) (by kernel_rfl) rfl (by rfl) (fun _ _ _ h => h) hHeld (fun W' hw' => rfl) ?_
          simp only [List.setIfInBounds_toArray, List.set_cons_zero, List.set_cons_succ]
          refine takeVal 3 50 (.int .i64 (j : Int)) rfl (by kernel_rfl) (by kernel_rfl) (by kernel_rfl) rfl (by rfl) (fun _ _ _ h => h) hHeld (fun W' hw' => rfl) ?_
          simp only [List.setIfInBounds_toArray, List.set_cons_zero, List.set_cons_succ]
          refine takeVal 4 51 (.pointer (some ⟨g, o + j, none⟩)) rfl (by kernel_rfl) (by kernel_rfl) (by kernel_rfl) rfl (by rfl) (fun _ _ _ h => h) hHeld (fun W' hw' => by go_simp) ?_
          simp only [List.setIfInBounds_toArray, List.set_cons_zero, List.set_cons_succ]
          refine takeVal 5 52 (.int .i64 (Xn : Int)) rfl (by kernel_rfl) (by kernel_rfl) (by kernel_rfl) rfl (by rfl) (fun _ _ _ h => h) hHeld (fun W' hw' => by have hq : W'.cell? ⟨g, o + j, none⟩ = some (.int .i64 (Xn : Int)) := hw'.2.2.2.1; go_simp) ?_
          simp only [List.setIfInBounds_toArray, List.set_cons_zero, List.set_cons_succ]
          refine step1 6 (by kernel_rfl) ?_
          refine stCall 6 53 14 #[.agg SV, .agg (NA z), .int .i64 (Xn : Int)] _ rfl rfl (by rfl) (by go_simp) (HF1.out _ hHeld.2.2.2.2) ?_
          rintro e x5 ⟨rfl, hb5⟩
          have h5 : x5.heap[w.heap.size]? = some (.cells SV 35 (0, 0)) ∧ x5.heap[w.heap.size + 1]? = some (.cells (NA z) 29 (0, 0)) ∧ x5.heap[bh]? = some (.cells (BA HLl) 4 (0, 0)) ∧ x5.cell? ⟨g, o + j, none⟩ = some (.int .i64 (Xn : Int)) ∧ Below w.heap.size w x5 := ⟨by rw [hb5.block _ (slt hHeld.1)]; exact hHeld.1, by rw [hb5.block _ (slt hHeld.2.1)]; exact hHeld.2.1, by rw [hb5.block _ (slt hHeld.2.2.1)]; exact hHeld.2.2.1, by rw [hb5.cell (p := ⟨g, o + j, none⟩) (World.block_lt_of_cell? _ _ hHeld.2.2.2.1)]; exact hHeld.2.2.2.1, btr hHeld.2.2.2.2 hb5 hHeld.2.2.2.2.size⟩
          refine ⟨_, rfl, h5, ?_⟩
          simp only [List.setIfInBounds_toArray, List.set_cons_zero, List.set_cons_succ]
          refine takeVal 7 46 (.tuple #[.int .i64 fs, .int .i64 fe]) rfl (by kernel_rfl) (by kernel_rfl) (by kernel_rfl) rfl (by rfl) (fun _ _ _ h => h) h5 (fun W' hw' => rfl) ?_
          simp only [List.setIfInBounds_toArray, List.set_cons_zero, List.set_cons_succ]
          refine takeVal 8 54 (.int .i64 fs) rfl (by kernel_rfl) (by kernel_rfl) (by kernel_rfl) rfl (by rfl) (fun _ _ _ h => h) h5 (fun W' hw' => rfl) ?_
          simp only [List.setIfInBounds_toArray, List.set_cons_zero, List.set_cons_succ]
          refine takeVal 9 55 (.int .i64 fe) rfl (by kernel_rfl) (by kernel_rfl) (by kernel_rfl) rfl (by rfl) (fun _ _ _ h => h) h5 (fun W' hw' => rfl) ?_
          simp only [List.setIfInBounds_toArray, List.set_cons_zero, List.set_cons_succ]
          refine takeVal 10 11 (.int .i64 fs) rfl (by kernel_rfl) (by kernel_rfl) (by kernel_rfl) rfl (by rfl) (fun _ _ _ h => h) h5 (fun W' hw' => rfl) ?_
          simp only [List.setIfInBounds_toArray, List.set_cons_zero, List.set_cons_succ]
          refine takeVal 11 12 (.int .i64 fe) rfl (by kernel_rfl) (by kernel_rfl) (by kernel_rfl) rfl (by rfl) (fun _ _ _ h => h) h5 (fun W' hw' => rfl) ?_
          simp only [List.setIfInBounds_toArray, List.set_cons_zero, List.set_cons_succ]
          refine wpAnyH_done (by kernel_rfl) ?_ _
          refine NoPanic.normal ?_
          have H5 := hid h5
          have c5 := h5.2.2.2.1
          have d5 := BA_at h5.2.2.1 Xn (by omega)
          have f5 := frozen_of_row x5 bh Xn _ _ h5.2.2.1
          clear h5 hb5 hHeld HH HBq HSq HZq HF1
          by_cases hfe : ¬ fe = 0
          · have HE := hid (HEr.out hfe)
            go_wp2_with fail
            exact bodyPost_ret (results_2t Try.results22 _ _) rfl ⟨by rw [HE.out]; rfl, H5.out.2.2.2.2⟩
          have hfe2 : fe = 0 := Decidable.not_not.1 hfe
          have HO2 := hid (HOs.out hfe2)
          subst hfe2
          clear hfe HEr HOs
          have x0 : (0 : Int) ≤ (Xn : Int) := by omega
          have x1 : (Xn : Int) < 1068 := by omega
          by_cases hfs : fs = 0
          · have HS2 : Hid (HLl.set Xn true = holeL s z ks (j + 1)) := by have := HSt.out; rw [decide_eq_true hfs] at this; exact this
            subst hfs
            clear HSt
            go_wp2_with fail
            refine ⟨⟨j + 1, by omega, by go_num, HO2, ?_, ?_, ?_, ?_⟩, by simp [intOf]; omega⟩
            · rw [← HS2.out]; exact hid (BA_put H5.out.2.2.1 Xn true)
            · exact hid (H5.out.2.2.2.2.setCell (p := ⟨bh, Xn, none⟩) (by simp; omega) _)
            · exact hid (by rw [heap_setCell_other _ _ _ _ (by simp; omega)]; exact H5.out.1)
            · exact hid (by rw [heap_setCell_other _ _ _ _ (by simp; omega)]; exact H5.out.2.1)
          · have HS2 : Hid (HLl.set Xn false = holeL s z ks (j + 1)) := by have := HSt.out; rw [decide_eq_false hfs] at this; exact this
            clear HSt
            go_wp2_with fail
            refine ⟨⟨j + 1, by omega, by go_num, HO2, ?_, ?_, ?_, ?_⟩, by simp [intOf]; omega⟩
            · rw [← HS2.out]; have hq := BA_put H5.out.2.2.1 Xn (fs == 0); rw [show HLl.set Xn (fs == 0) = HLl.set Xn false by rw [show (fs == 0) = false by simpa using hfs]] at hq; exact hid hq
            · exact hid (H5.out.2.2.2.2.setCell (p := ⟨bh, Xn, none⟩) (by simp; omega) _)
            · exact hid (by rw [heap_setCell_other _ _ _ _ (by simp; omega)]; exact H5.out.1)
            · exact hid (by rw [heap_setCell_other _ _ _ _ (by simp; omega)]; exact H5.out.2.1)
        · obtain rfl : j = k := by omega
          have hge2 : ¬ ((j : Int) < (j : Int)) := by omega
          have HNd : Hid (Needs s z ks) := hid ⟨HA.out, fun x hx => by
            obtain ⟨i, hi, rfl⟩ := List.mem_iff_getElem.1 hx
            exact HO.out i _ (by rw [HN.out]; exact hi) (List.getElem?_eq_getElem hi)⟩
          obtain ⟨h, hh⟩ : ∃ y, y = holeB s z ks := ⟨_, rfl⟩
          have HHg : Hid (∀ i, i < 1068 → (holeL s z ks j).getD i false = h i) := hid (fun i hi => by rw [hh, HN.out]; exact holeL_get hi)
          have hhl := holeL_len s z ks j
          obtain ⟨D1, hD1⟩ : ∃ y, y = z.getD 17 0 := ⟨_, rfl⟩
          have cD : wr.cell? ⟨w.heap.size + 1, 17, none⟩ = some (.int .i64 D1) := by rw [hD1]; exact row_cell HZq.out 17 (by omega)
          have HTD := hid (HT.out D1)
          have hTl := rtabS_len s D1
          obtain ⟨S1, hS1⟩ : ∃ y, y = z.getD 16 0 := ⟨_, rfl⟩
          have HFin : Hid (needR s z ks = (((cntK h 1068 + tabC h (rtabS s D1).1 1068 + (if anyK h inLow 1068 = true ∧ S1 = 0 then 1 else 0) + (if anyK h inFar 1068 = true ∧ D1 = 0 then 1 else 0) : Nat) : Int), 0)) := hid (by
            rw [HNd.out.eq, need_lack HNd.out, ← hh, hS1, hD1, lackK_len])
          have HS1 := hid hS1
          have HD1 := hid hD1
          generalize holeL s z ks j = HLl at *
          obtain ⟨T, eT, hT⟩ : ∃ T e, rtabS s D1 = (T, e) := ⟨_, _, rfl⟩
          rw [hT] at HTD hTl HFin
          clear hh hS1 hD1 hT HNd HO
          go_upto_region 15 with (first
            | (refine load_R rfl 35 (.tmp 3) rfl w.heap.size rfl 35 SV _ HSq.out Try.underlying35 rfl (by rw [szSrc, hS3]) ?_)
            | (go_at_call 26; go_must (refine (HTD.out wr HBq.out).mono ?_; rintro e w5 ⟨rfl, hb5⟩; have HB5 := hid hb5; clear hb5))
            | (refine store_R rfl 76 (.tmp 13) (.tmp 72) rfl w5.heap.size (NA T) rfl rfl 76 (NA Zp) (heap_alloc_new _ _) (by rw [szP, NA_size, hTl]) (by rw [NA_size, NA_size, Zp_len, hTl]) (NA_one _) ?_; go_must (intro w6 p6; have P6 := hid p6.here; have B6 : Hid (Below wr.heap.size wr w6) := hid (p6.below (HB5.out.alloc HB5.out.size _) HB5.out.size); clear p6)))
          obtain ⟨bt, hbt⟩ : ∃ y, y = w5.heap.size := ⟨_, rfl⟩
          rw [← hbt] at P6
          have hbt2 : bh < bt ∧ w.heap.size + 1 < bt := by rw [hbt]; have := slt HH.out; have := slt HZq.out; have := HB5.out.size; omega
          rw [← hbt]
          clear hbt
          obtain ⟨Y, hY⟩ : ∃ y, y = w6.alloc (.cells (BA (noneL 32)) 4) := ⟨_, rfl⟩
          obtain ⟨bb, hbb⟩ : ∃ y, y = w6.heap.size := ⟨_, rfl⟩
          have hbb2 : bt < bb := by rw [hbb]; exact slt P6.out
          have Y0 : Hid (Y.heap[bb]? = some (.cells (BA (tabL h T 0)) 4 (0, 0))) := by rw [hY, hbb, tabL_zero]; exact heap_alloc_new _ _
          have YH : Hid (Y.heap[bh]? = some (.cells (BA HLl) 4 (0, 0))) := by rw [hY, Below.heap_alloc _ _ _ (by have := slt HH.out; have := B6.out.size; omega), B6.out.block _ (slt HH.out)]; exact HH
          have YT : Hid (Y.heap[bt]? = some (.cells (NA T) 76 (0, 0))) := by rw [hY, Below.heap_alloc _ _ _ (slt P6.out)]; exact P6
          have YZ : Hid (Y.heap[w.heap.size + 1]? = some (.cells (NA z) 29 (0, 0))) := by rw [hY, Below.heap_alloc _ _ _ (by have := slt HZq.out; have := B6.out.size; omega), B6.out.block _ (slt HZq.out)]; exact HZq
          have YB : Hid (Below w.heap.size w Y) := by rw [hY]; exact hid ((btr HBq.out B6.out HBq.out.size).alloc (by have := HBq.out.size; have := B6.out.size; omega) _)
          go_upto_region 20 with fail
          rw [← hY, ← hbb]
          clear hY hbb P6 B6 HB5 HH HBq HSq HZq hzp hmb hmb2 cD
          go_loopw [15, 16, 17, 19] (fun vn vl vf vi wq => ∃ (k n : Nat) (lo fa : Bool), k ≤ 1068 ∧ n ≤ 1100 ∧ vi = .int .i64 k ∧ vn = .int .i64 n ∧ vl = .bool lo ∧ vf = .bool fa ∧ Hid (n = cntK h k + tabC h T k) ∧ Hid (lo = anyK h inLow k) ∧ Hid (fa = anyK h inFar k) ∧ Hid (wq.heap[bb]? = some (.cells (BA (tabL h T k)) 4 (0, 0))) ∧ Hid (wq.heap[bh]? = some (.cells (BA HLl) 4 (0, 0))) ∧ Hid (wq.heap[bt]? = some (.cells (NA T) 76 (0, 0))) ∧ Hid (wq.heap[w.heap.size + 1]? = some (.cells (NA z) 29 (0, 0))) ∧ Hid (Below w.heap.size w wq)) (fun _ _ _ i _ => 1068 - (intOf i).toNat)
          case atStart => exact ⟨0, 0, false, false, by omega, by omega, rfl, rfl, rfl, rfl, hid (tabC_zero h T), hid rfl, hid rfl, Y0, YH, YT, YZ, YB⟩
          case round =>
            clear Y0 YH YT YZ YB
            obtain ⟨k, n, lo, fa, hk, hn2, rfl, rfl, rfl, rfl, HC, HLo, HFa, G0, G1, G2, G3, G4⟩ := hrel
            by_cases hlt : k < 1068
            · have k0 : (0 : Int) ≤ (k : Int) := by omega
              have k1 : (k : Int) < 1068 := by omega
              have dh := BA_at G1.out k (by omega)
              rw [HHg.out k hlt] at dh
              have hcb := cntK_le h k
              have htc := tabC_le h T k
              have hcb2 := cntK_le h (k + 1)
              have htb2 := tabC_le h T (k + 1)
              have al := anyK_succ h inLow k
              have af := anyK_succ h inFar k
              have AL := hid al
              have AF := hid af
              clear al af
              cases hhk : h k with
              | false =>
                have e1 := cntK_no hhk
                have e2 : tabB h T (k + 1) = tabB h T k := tabB_stay (.inl hhk)
                have HE1 : Hid (n = cntK h (k + 1) + tabC h T (k + 1)) := hid (by rw [e1, tabC_stay e2]; exact HC.out)
                have HE2 : Hid (lo = anyK h inLow (k + 1)) := hid (by rw [AL.out, hhk, ← HLo.out]; simp)
                have HE3 : Hid (fa = anyK h inFar (k + 1)) := hid (by rw [AF.out, hhk, ← HFa.out]; simp)
                have HE4 := hid (tabL_stay e2)
                rw [hhk] at dh
                clear hhk e1 e2 HC HLo HFa AL AF hcb htc hcb2 htb2
                go_wp2_with fail
                exact ⟨⟨k + 1, n, lo, fa, by omega, by omega, by go_num, rfl, rfl, rfl, HE1, HE2, HE3, by rw [HE4.out]; exact G0, G1, G2, G3, G4⟩, by simp [intOf]; omega⟩
              | true =>
                have e1 := cntK_yes hhk
                rw [hhk] at dh
                have n1 : (n : Int) + 1 ≤ 1101 := by omega
                by_cases h12 : k < 44
                · have e2 : tabB h T (k + 1) = tabB h T k := tabB_stay (.inr (.inl h12))
                  have HE1 : Hid (n + 1 = cntK h (k + 1) + tabC h T (k + 1)) := hid (by rw [e1, tabC_stay e2, HC.out]; omega)
                  have hnb : n + 1 ≤ 1100 := by have := HE1.out; omega
                  have HE3 : Hid (fa = anyK h inFar (k + 1)) := hid (by rw [AF.out, hhk, ← HFa.out]; simp [inFar]; omega)
                  have HE4 := hid (tabL_stay e2)
                  have h44 : (k : Int) < 44 := by omega
                  have h44n : ¬ (44 : Int) ≤ (k : Int) := by omega
                  by_cases hl12 : k < 12
                  · have HE2 : Hid (lo = anyK h inLow (k + 1)) := hid (by rw [AL.out, hhk, ← HLo.out]; simp [inLow]; omega)
                    have hl12n : ¬ (12 : Int) ≤ (k : Int) := by omega
                    clear hhk e1 e2 HC HLo HFa AL AF hcb htc hcb2 htb2
                    cases lo
                    all_goals
                      go_wp2_with fail
                      exact ⟨⟨k + 1, n + 1, _, fa, by omega, by omega, by go_num, by go_num, rfl, rfl, HE1, HE2, HE3, by rw [HE4.out]; exact G0, G1, G2, G3, G4⟩, by simp [intOf]; omega⟩
                  · have HE2 : Hid (true = anyK h inLow (k + 1)) := hid (by rw [AL.out, hhk, ← HLo.out]; simp [inLow]; omega)
                    have hl12n : (12 : Int) ≤ (k : Int) := by omega
                    clear hhk e1 e2 HC HLo HFa AL AF hcb htc hcb2 htb2
                    cases lo
                    all_goals
                      go_wp2_with fail
                      exact ⟨⟨k + 1, n + 1, true, fa, by omega, by omega, by go_num, by go_num, rfl, rfl, HE1, HE2, HE3, by rw [HE4.out]; exact G0, G1, G2, G3, G4⟩, by simp [intOf]; omega⟩
                · have HE3 : Hid (true = anyK h inFar (k + 1)) := hid (by rw [AF.out, hhk, ← HFa.out]; simp [inFar]; omega)
                  have HE2 : Hid (lo = anyK h inLow (k + 1)) := hid (by rw [AL.out, hhk, ← HLo.out]; simp [inLow]; omega)
                  have h44 : ¬ (k : Int) < 44 := by omega
                  have h44n : (44 : Int) ≤ (k : Int) := by omega
                  have hl12n : (12 : Int) ≤ (k : Int) := by omega
                  obtain ⟨q, hq⟩ : ∃ q : Nat, q = (k - 44) / 32 := ⟨_, rfl⟩
                  have hq32 : q < 32 := by omega
                  have hqd : ((k : Int) - 44) / 32 = (q : Int) := by omega
                  have q0 : (0 : Int) ≤ (q : Int) := by omega
                  have q1 : (q : Int) < 32 := by omega
                  have dT := row_cell G2.out q (by omega)
                  have dB := BA_at G0.out q (by rw [tabL_len]; exact hq32)
                  rw [tabL_get h T k hq32] at dB
                  have fB := frozen_of_row wr bb q _ _ G0.out
                  have HQD := hid hqd
                  have hst := @tabB_stay h T k
                  have hsn := @tabL_set h T k hhk (by omega)
                  have hcn := @tabC_new h T k hhk (by omega) hlt
                  rw [← hq] at hst hsn hcn
                  have HST := hid hst
                  have HSN := hid hsn
                  have HCN := hid hcn
                  obtain ⟨tv, htv⟩ : ∃ y, y = T.getD q 0 := ⟨_, rfl⟩
                  rw [← htv] at dT HST HSN HCN
                  obtain ⟨tb, htb⟩ : ∃ y, y = tabB h T k q := ⟨_, rfl⟩
                  rw [← htb] at dB HST HCN
                  clear htv htb hq hqd hst hsn hcn HLo HFa AL AF hcb htc hcb2
                  cases lo
                  all_goals
                    go_upto_region 28 with fail
                    rw [HQD.out]
                    by_cases htv : tv = 0
                    · cases tb with
                      | true =>
                        have e2 := HST.out (.inr (.inr (.inr rfl)))
                        have HE1 : Hid (n + 1 = cntK h (k + 1) + tabC h T (k + 1)) := hid (by rw [e1, tabC_stay e2, HC.out]; omega)
                        have hnb : n + 1 ≤ 1100 := by have := HE1.out; have := cntK_le h (k + 1); omega
                        have HE4 := hid (tabL_stay e2)
                        subst htv
                        clear e1 e2 HC HST HSN HCN hhk htb2
                        go_wp2_with fail
                        exact ⟨⟨k + 1, n + 1, _, true, by omega, by omega, by go_num, by go_num, rfl, rfl, HE1, HE2, HE3, by rw [HE4.out]; exact G0, G1, G2, G3, G4⟩, by simp [intOf]; omega⟩
                      | false =>
                        have HE1 : Hid (n + 1 + 1 = cntK h (k + 1) + tabC h T (k + 1)) := hid (by rw [e1, HCN.out htv rfl, HC.out]; omega)
                        have hnb : n + 1 + 1 ≤ 1100 := by have := HE1.out; have := cntK_le h (k + 1); omega
                        have HE4 := hid (HSN.out htv)
                        subst htv
                        clear e1 HC HST HSN HCN hhk htb2
                        go_wp2_with fail
                        refine ⟨⟨k + 1, n + 1 + 1, _, true, by omega, by omega, by go_num, by go_num, rfl, rfl, HE1, HE2, HE3, ?_, ?_, ?_, ?_, ?_⟩, by simp [intOf]; omega⟩
                        · rw [← HE4.out]; exact hid (BA_put G0.out q true)
                        · exact hid (by rw [heap_setCell_other _ _ _ _ (by simp; omega)]; exact G1.out)
                        · exact hid (by rw [heap_setCell_other _ _ _ _ (by simp; omega)]; exact G2.out)
                        · exact hid (by rw [heap_setCell_other _ _ _ _ (by simp; omega)]; exact G3.out)
                        · exact hid (G4.out.setCell (p := ⟨bb, q, none⟩) (by simp; omega) _)
                    · have e2 := HST.out (.inr (.inr (.inl htv)))
                      have HE1 : Hid (n + 1 = cntK h (k + 1) + tabC h T (k + 1)) := hid (by rw [e1, tabC_stay e2, HC.out]; omega)
                      have hnb : n + 1 ≤ 1100 := by have := HE1.out; have := cntK_le h (k + 1); omega
                      have HE4 := hid (tabL_stay e2)
                      clear e1 e2 HC HST HSN HCN hhk htb2
                      go_wp2_with fail
                      exact ⟨⟨k + 1, n + 1, _, true, by omega, by omega, by go_num, by go_num, rfl, rfl, HE1, HE2, HE3, by rw [HE4.out]; exact G0, G1, G2, G3, G4⟩, by simp [intOf]; omega⟩
            · obtain rfl : k = 1068 := by omega
              have cS : wr.cell? ⟨w.heap.size + 1, 16, none⟩ = some (.int .i64 S1) := by rw [HS1.out]; exact row_cell G3.out 16 (by omega)
              have cD : wr.cell? ⟨w.heap.size + 1, 17, none⟩ = some (.int .i64 D1) := by rw [HD1.out]; exact row_cell G3.out 17 (by omega)
              rw [← HC.out, ← HLo.out, ← HFa.out] at HFin
              clear HC HLo HFa
              by_cases hS : S1 = 0
              all_goals by_cases hD : D1 = 0
              all_goals cases lo
              all_goals cases fa
              all_goals
                have HR := HFin
                simp [hS, hD] at HR
                first | subst hS | skip
                first | subst hD | skip
                clear HFin
                go_wp2_with fail
                exact bodyPost_ret (results_2t Try.results22 _ _) rfl ⟨by rw [HR.out]; simp, G4.out⟩

end Go.Proofs.Ytjlhmojofjkkdaa
