/-
  dirtyOf, drain, clearWay.
-/
import Derived.Test.YtamoepninddbcaaGreatCache3
namespace Go.Proofs.YtamoepninddbcaaGreat
open Go.RowKit Go.Sort Go.Lib

variable {w : World} {c p g n : Nat} {ρ : Nat → Option Role} {z : CSt}

theorem comp_spec (d : Array Int) (hs : ∀ i j, i < j → j < d.size → d[i]! ≤ d[j]!) : ∀ m, m ≤ d.size → (compactUpTo d m).Pairwise (· < ·) ∧ ∀ x, x ∈ compactUpTo d m ↔ ∃ j, j < m ∧ d[j]! = x
  | 0, _ => by simp [compactUpTo]
  | m + 1, hm => by
    obtain ⟨h1, h2⟩ := comp_spec d hs m (by omega)
    rw [compactUpTo_succ]
    by_cases hk : keeps d m = true
    · rw [if_pos hk]
      refine ⟨?_, fun x => ?_⟩
      · rw [List.pairwise_append]
        refine ⟨h1, by simp, fun a ha b hb => ?_⟩
        simp at hb
        subst hb
        obtain ⟨j, hj, rfl⟩ := (h2 a).1 ha
        have hk2 : m = 0 ∨ d[m]! ≠ d[m - 1]! := by simpa [keeps] using hk
        rcases hk2 with e | e
        · omega
        · have e1 := hs (m - 1) m (by omega) (by omega)
          by_cases hj2 : j = m - 1
          · subst hj2; omega
          · have e2 := hs j (m - 1) (by omega) (by omega)
            omega
      · rw [List.mem_append, h2]
        simp
        constructor
        · rintro (⟨j, hj, e⟩ | e)
          · exact ⟨j, by omega, e⟩
          · exact ⟨m, by omega, e.symm⟩
        · rintro ⟨j, hj, e⟩
          by_cases hj2 : j = m
          · subst hj2; exact .inr e.symm
          · exact .inl ⟨j, by omega, e⟩
    · rw [if_neg hk, List.append_nil]
      have hk2 : ¬ m = 0 ∧ d[m]! = d[m - 1]! := by simpa [keeps] using hk
      refine ⟨h1, fun x => ?_⟩
      rw [h2]
      constructor
      · rintro ⟨j, hj, e⟩
        exact ⟨j, by omega, e⟩
      · rintro ⟨j, hj, e⟩
        by_cases hj2 : j = m
        · subst hj2
          exact ⟨j - 1, by omega, by rw [← hk2.2]; exact e⟩
        · exact ⟨j, by omega, e⟩
/-- A list that was sorted, each once. -/
def compI (l : List Int) : List Int := compactUpTo (sortI l).toArray (sortI l).length
theorem sortI_le (l : List Int) : (sortI l).Pairwise (· ≤ ·) := by
  have h1 : (sortI l).Pairwise (fun x y => decide (x ≤ y) = true) := List.pairwise_mergeSort (fun a b c h1 h2 => by simp at *; omega) (fun a b => by simp; omega) l
  exact h1.imp fun {a b} h => by simpa using h
theorem compI_spec (l : List Int) : (compI l).Pairwise (· < ·) ∧ ∀ x, x ∈ compI l ↔ x ∈ l := by
  have h := comp_spec (sortI l).toArray (fun i j hij hj => by
    have hj' : j < (sortI l).length := by simpa using hj
    have h := List.pairwise_iff_getElem.1 (sortI_le l) i j (by omega) hj' hij
    simpa [hj', show i < (sortI l).length by omega] using h) (sortI l).length (by simp)
  refine ⟨h.1, fun x => ?_⟩
  unfold compI
  rw [h.2, ← sortI_mem]
  constructor
  · rintro ⟨j, hj, e⟩
    rw [← e]
    simp [hj]
  · intro hx
    obtain ⟨j, hj, e⟩ := List.getElem_of_mem hx
    exact ⟨j, hj, by simp [hj, e]⟩
theorem compactUpTo_len {α : Type} [Inhabited α] [DecidableEq α] (d : Array α) (m : Nat) : (compactUpTo d m).length ≤ m := by
  unfold compactUpTo
  rw [List.length_map]
  refine Nat.le_trans (List.length_filter_le _ _) ?_
  simp

set_option maxRecDepth 100000 in
set_option maxHeartbeats 1000000 in
theorem compact_none (w : World) : Calls Tryz.prog 94 #[.slice none 0 0] w fun e w' => e = .returned (.slice none 0 0) ∧ w' = w := by
  go_enter Tryz.func94, Tryz.ntmps94
  go_wp2
  go_ret
  exact ⟨rfl, rfl⟩
theorem compact_ints (w : World) (base : Nat) (v : Value) (l : List Int) (h : Ints w base v (sortI l)) (hl : l.length ≤ 17592186044000) : Calls Tryz.prog 94 #[v] w fun e w' =>
    ∃ v', e = .returned v' ∧ Ints w' base v' (compI l) ∧ Chg w w' (fun k => v.ownBlock = some k) := by
  have hsl := sortI_len l
  rcases h.2 with ⟨rfl, h0⟩ | ⟨g, cap, cur, rfl, hge, hb, h1, h2, h3, h4⟩
  · refine (compact_none w).mono ?_
    rintro e w' ⟨rfl, rfl⟩
    have e0 : compI l = [] := by
      unfold compI
      rw [h0]
      rfl
    rw [e0]
    exact ⟨_, rfl, World.ownsRow_nil _ _ _ _, Chg.refl _ _⟩
  · have hH : Holds (Value.int .i64) w g 0 (sortI l).toArray := row_holds hb (by rw [← h4, Nat.mul_one])
    have hc := AnyE.slices_Compact layCompact (Value.int .i64) (fun _ => rfl) (EqlAt.intD _ _ _) (NeqAt.intD _ _ _) (0 : Int) Tryz.zeroValue3 g 0 cap (sortI l).toArray w hH (by simp; omega) (by simpa using h1)
    change Calls Tryz.prog 94 _ _ _ at hc
    rw [show (sortI l).toArray.size = (sortI l).length by simp] at hc
    refine hc.mono ?_
    rintro e w' ⟨rfl, q, rfl⟩
    have e1 : compactUpTo (sortI l).toArray (sortI l).length = compI l := rfl
    have e2 := compactUpTo_len (sortI l).toArray (sortI l).length
    rw [e1] at e2 ⊢
    exact ⟨_, rfl, ints_put (q := q) (compI l) (List.replicate ((sortI l).length - (compI l).length) 0) hge hb (by rw [List.length_replicate]; omega) h2 h3, (putRow_chg _).mono fun j _ e => by rw [e]; rfl⟩

end Go.Proofs.YtamoepninddbcaaGreat

namespace Go.Proofs.YtamoepninddbcaaGreat
open Go.RowKit Go.Sort Go.Lib

variable {w : World} {c p g n : Nat} {ρ : Nat → Option Role} {z : CSt}

open Classical in
/-- Those of a list that are dirty, but for one, as they come. -/
noncomputable def fltC (z : CSt) (x : Int) (l : List Int) : List Int := l.filter fun a => decide (z.dirty a ∧ a ≠ x)
theorem fltC_mem {x : Int} {l : List Int} {a : Int} : a ∈ fltC z x l ↔ a ∈ l ∧ z.dirty a ∧ a ≠ x := by
  unfold fltC
  rw [List.mem_filter]
  simp
theorem fltC_snoc_yes {x : Int} {l : List Int} {a : Int} (h : z.dirty a ∧ a ≠ x) : fltC z x (l ++ [a]) = fltC z x l ++ [a] := by
  unfold fltC
  rw [List.filter_append]
  simp [h]
theorem fltC_snoc_no {x : Int} {l : List Int} {a : Int} (h : ¬ (z.dirty a ∧ a ≠ x)) : fltC z x (l ++ [a]) = fltC z x l := by
  unfold fltC
  rw [List.filter_append]
  simp
  exact fun hd => Classical.byContradiction fun e => h ⟨hd, e⟩
theorem fltC_len (z : CSt) (x : Int) (l : List Int) : (fltC z x l).length ≤ l.length := List.length_filter_le _ _
theorem take_snoc {l : List Int} {k : Nat} (hk : k < l.length) : l.take (k + 1) = l.take k ++ [l.getD k 0] := by
  rw [List.take_add_one, List.getD_eq_getElem?_getD, List.getElem?_eq_getElem hk]
  rfl
theorem comp_dof (h : CInv n z) (l : List Int) (x : Int) : compI (fltC z x l) = dofC z l x := by
  have hs := compI_spec (fltC z x l)
  refine secs_is hs.1 (fun a => ?_) (fun a ha => h.sec ha.2.1)
  rw [hs.2, fltC_mem]
theorem pend_val (o : Option (List Int × List Int)) (t : Value) (h : ∀ q, o = some q → q.1.length = 128 ∧ t.oneCell' = true) : ∃ C : Array Value, (match o.map (fun q => Value.agg (pend q.1 t)) with | some v => v | none => Value.agg pend0) = .agg C ∧ C.size = 129 ∧ C.all (·.oneCell') = true := by
  cases o with
  | none => exact ⟨pend0, rfl, pend0_size, pend_one rfl⟩
  | some q => exact ⟨_, rfl, by rw [pend_size, (h q rfl).1], pend_one (h q rfl).2⟩
theorem put_chg {w w' : World} {g : Nat} {o : Obj} (h : D.Put w g o w') : Chg w w' (· = g) := (Chg.of_mod h.mod).mono fun k _ e => by simpa using e

set_option maxRecDepth 100000 in
set_option maxHeartbeats 2000000 in
theorem dirtyOf_any (l : List Int) (a : Option Addr) (ca : Nat) (x : Int) (h : IsC w c p g n ρ z) (hl : LAt w a l) (hm : l.length ≤ 17592186044000) (hI : ∀ k, k < l.length → I64 (l.getD k 0)) :
    Calls Tryz.prog 60 #[.pointer (some ⟨c, 0, none⟩), .slice a l.length ca, .int .i64 x] w fun e w' => ∃ v, e = .returned v ∧ Ints w' w.heap.size v (dofC z l x) ∧ Chg w w' No := by
  have hzp := zeroP
  have HDO := hid (comp_dof h.inv l x)
  have HH := hid h
  have HA := hid hl
  have HI := hid hI
  clear h hl hI
  generalize hlen : l.length = m at *
  go_enter Tryz.func60, Tryz.ntmps60
  go_wp2_with fail
  go_loopw [7, 9, 10, 11, 14] (fun v _ _ _ i wr => ∃ (k : Nat) (wq : World), wq = wr ∧ k ≤ m ∧ i = .int .i64 k ∧ Ints wq w.heap.size v (fltC z x (l.take k)) ∧ Chg w wq No) (fun _ _ _ _ i _ => m - (intOf i).toNat)
  case atStart => exact ⟨0, w, rfl, by omega, rfl, World.ownsRow_nil _ _ _ _, Chg.refl _ _⟩
  case round =>
    obtain ⟨k, wA, rfl, hk, rfl, hv, hcA⟩ := hrel
    have hfl := fltC_len z x (l.take k)
    rw [List.length_take] at hfl
    by_cases hlt : k < m
    · obtain ⟨gp, mb, go, tv, lv, hA⟩ := HH.out.call hcA
      rcases (HA.out.call hcA) with h0 | ⟨g1, rfl, hg1, h1⟩
      · rw [h0] at hlen; simp at hlen; omega
      have p1 := h1 k (by omega)
      have hIk := HI.out k (by omega)
      have htk := take_snoc (l := l) (k := k) (by omega)
      generalize hy : l.getD k 0 = y at *
      have hi0 : (0 : Int) ≤ (k : Int) := by omega
      have hi1 : (k : Int) < (m : Int) := by omega
      have k2 := hA.c2
      have HM := hA.mp
      obtain ⟨C, hC, hCs, hC1⟩ := pend_val (z.P y) (tv y) (fun q hq => ⟨hA.inv.ln y q hq, ints_one (hA.tg y q hq)⟩)
      have HQ := hid (heap_alloc_new wA (.cells pend0 95))
      have HCC := hid hC
      have HTK := hid htk
      have HV := hid hv
      have hfit : Hid ((l.take k).length ≤ 17592186044000) := by show _ ≤ _; rw [List.length_take]; omega
      clear hA h1 hC htk hv hy
      cases hd : (z.P y).isSome with
      | false =>
        have hno : ¬ (z.dirty y ∧ y ≠ x) := fun e => by have := e.1; unfold CSt.dirty at this; rw [hd] at this; cases this
        have HNO := hid hno
        have hdm : ((z.P y).map fun q => Value.agg (pend q.1 (tv y))).isSome = false := by simpa using hd
        clear hno
        go_wp2_with (first
          | (at_lookup; go_must (refine wp_okV rfl _ _ rfl mb _ y (.agg C) false HCC.out hdm rfl rfl HM hIk ?_))
          | (refine D.store_row rfl 95 _ _ rfl wA.heap.size rfl C rfl pend0 HQ.out (by rw [szP, hCs]) (by rw [pend0_size, hCs]) hC1 ?_; intro w3 hw3; have hc3 : Chg wA w3 No := (Chg.alloc wA (.cells pend0 95) No).trans (put_chg hw3) (fun _ _ e => e) (fun j hj e => by omega); clear hw3)
          | fail)
        refine ⟨⟨k + 1, w3, rfl, by omega, by go_num, ?_, hcA.tr hc3⟩, by simp [intOf]; omega⟩
        rw [HTK.out, fltC_snoc_no HNO.out]
        exact row_keep HV.out hc3 (fun _ _ e => e)
      | true =>
        have hdm : ((z.P y).map fun q => Value.agg (pend q.1 (tv y))).isSome = true := by simpa using hd
        by_cases hyx : y = x
        · have hno : ¬ (z.dirty y ∧ y ≠ x) := fun e => e.2 hyx
          have HNO := hid hno
          have hb : (y != x) = false := by simpa using hyx
          clear hno hyx
          go_wp2_with (first
            | (at_lookup; go_must (refine wp_okV rfl _ _ rfl mb _ y (.agg C) true HCC.out hdm rfl rfl HM hIk ?_))
            | (refine D.store_row rfl 95 _ _ rfl wA.heap.size rfl C rfl pend0 HQ.out (by rw [szP, hCs]) (by rw [pend0_size, hCs]) hC1 ?_; intro w3 hw3; have hc3 : Chg wA w3 No := (Chg.alloc wA (.cells pend0 95) No).trans (put_chg hw3) (fun _ _ e => e) (fun j hj e => by omega); clear hw3)
            | fail)
          refine ⟨⟨k + 1, w3, rfl, by omega, by go_num, ?_, hcA.tr hc3⟩, by simp [intOf]; omega⟩
          rw [HTK.out, fltC_snoc_no HNO.out]
          exact row_keep HV.out hc3 (fun _ _ e => e)
        · have HYES := hid (show z.dirty y ∧ y ≠ x from ⟨hd, hyx⟩)
          have hb : (y != x) = true := by simpa using hyx
          go_wp2_with (first
            | (at_lookup; go_must (refine wp_okV rfl _ _ rfl mb _ y (.agg C) true HCC.out hdm rfl rfl HM hIk ?_))
            | (refine D.store_row rfl 95 _ _ rfl wA.heap.size rfl C rfl pend0 HQ.out (by rw [szP, hCs]) (by rw [pend0_size, hCs]) hC1 ?_; intro w3 hw3; have hc3 : Chg wA w3 No := (Chg.alloc wA (.cells pend0 95) No).trans (put_chg hw3) (fun _ _ e => e) (fun j hj e => by omega); have hv3 := hid (row_keep (row_keep HV.out hc3 (fun _ _ e => e)) (Chg.alloc w3 (.cells #[.int .i64 y] 3) No) (fun _ _ e => e)); have hcell := cell0 (heap_alloc_new w3 (.cells #[.int .i64 y] 3)); clear hw3)
            | (at_builtin; go_must (refine wp_appI rfl _ _ rfl w.heap.size w3.heap.size 1 _ (fltC z x (l.take k)) y rfl rfl hv3.out hcell (by have := hfit.out; have := fltC_len z x (l.take k); omega) (by have := hcA.size; have := hc3.size; simp; omega) ?_; intro v5 w5 h51 h52 h53))
            | fail)
          refine ⟨⟨k + 1, w5, rfl, by omega, by go_num, ?_, (hcA.tr hc3).trans ((Chg.alloc w3 (.cells #[.int .i64 y] 3) No).trans h52 (c := fun j => w.heap.size ≤ j) (fun _ _ e => e.elim) (fun j _ e => (row_ge HV.out e).1)) (fun _ _ e => e) (fun j hj e => by omega)⟩, by simp [intOf]; omega⟩
          rw [HTK.out, fltC_snoc_yes HYES.out]
          exact h51
    · have hkm : k = m := by omega
      have htk : l.take k = l := List.take_of_length_le (by omega)
      rw [htk] at hv
      have HS := sort_ints _ _ _ _ hv (by have := fltC_len z x l; omega)
      have HV := hid hv
      clear hv
      go_wp2_with (first
        | (go_at_call 93; go_must (refine HS.mono ?_; rintro e w3 ⟨rfl, hv3, hc3⟩; have HCo := compact_ints _ _ _ _ hv3 (by have := fltC_len z x l; omega); clear HS hv3))
        | (go_at_call 94; go_must (refine HCo.mono ?_; rintro e w4 ⟨v4, rfl, hv4, hc4⟩))
        | fail)
      go_ret
      rw [HDO.out] at hv4
      refine ⟨v4, rfl, hv4, hcA.trans (hc3.trans hc4 (c := fun j => w.heap.size ≤ j) (fun j _ e => (row_ge HV.out e).1) (fun j _ e => (row_ge HV.out e).1)) (fun _ _ e => e) (fun j hj e => by omega)⟩

/-- What is to be written when a sector is drained. -/
theorem drain_todo (h : CInv n z) {x : Int} (hx : z.dirty x) (ht : TB z) (hw : z.d.wr < 4611686018427380000) : ToDo n z (befC z x ++ [x]) := by
  have hb : ∀ a, a ∈ befC z x ↔ a ≠ x ∧ Reach z.E a x := fun a => by
    unfold befC
    rw [secs_mem]
    constructor
    · exact fun e => e.2
    · rintro ⟨e1, e2⟩
      refine ⟨?_, e1, e2⟩
      rcases e2 with e2 | e2
      · exact absurd e2 e1
      · exact (e2.sec h.inSec).1
  have hl := secs_len (fun a => a ≠ x ∧ Reach z.E a x)
  have hl2 : (befC z x).length ≤ 4096 := hl
  refine ⟨?_, fun y hy => ?_, fun a b hE hb2 => ?_, ht, ?_, ?_⟩
  · rw [List.pairwise_append]
    refine ⟨(secs_up _).imp fun {a b} e => by omega, by simp, fun a ha b hb2 => ?_⟩
    simp at hb2
    subst hb2
    exact ((hb a).1 ha).1
  · rw [List.mem_append] at hy
    rcases hy with hy | hy
    · obtain ⟨e1, e2⟩ := (hb y).1 hy
      rcases e2 with e2 | e2
      · exact absurd e2 e1
      · obtain ⟨d, hd⟩ := e2.first
        exact (h.ed _ _ hd).1
    · simp at hy
      subst hy
      exact hx
  · rw [List.mem_append] at hb2 ⊢
    have hne : a ≠ x := fun e => by
      subst e
      rcases hb2 with k | k
      · obtain ⟨e1, e2⟩ := (hb b).1 k
        rcases e2 with e2 | e2
        · exact e1 e2
        · exact h.ring a (.more hE e2)
      · simp at k
        subst k
        exact h.ring _ (.one hE)
    left
    rw [hb]
    refine ⟨hne, ?_⟩
    rcases hb2 with k | k
    · exact Reach.step hE ((hb b).1 k).2
    · simp at k
      subst k
      exact .inr (.one hE)
  · simp
    omega
  · simp
    omega
theorem bef_is (h : CInv n z) {x : Int} {l : List Int} (hl : BList z.E x l) : l = befC z x :=
  secs_is hl.1 hl.2 (fun a ha => by
    rcases ha.2 with e | e
    · exact absurd e ha.1
    · exact (e.sec h.inSec).1)

set_option maxRecDepth 100000 in
set_option maxHeartbeats 2000000 in
theorem drain_any (x : Int) (h : IsC w c p g n ρ z) (hx : 0 ≤ x ∧ x < n) (ht : TB z) (hw : z.d.wr < 4611686018427380000) :
    Calls Tryz.prog 70 #[.pointer (some ⟨c, 0, none⟩), .int .i64 x] w fun e w' => e = .returned (.int .i64 (drainC n z x).2) ∧ CPost w w' c p g n ρ (drainC n z x).1 := by
  have hzp := zeroP
  have hnot : ∀ (x : Bool) (w : World), (Op.unary .not (.bool x)).run Tryz.prog w = .ok (.bool (!x)) w := fun _ _ => rfl
  have HH := hid h
  have HINV := h.inv
  have hIx : I64 x := ⟨by omega, by have := HINV.top; omega⟩
  obtain ⟨gp, mb, go, tv, lv, hA⟩ := h
  have k2 := hA.c2
  have HM := hA.mp
  obtain ⟨C, hC, hCs, hC1⟩ := pend_val (z.P x) (tv x) (fun q hq => ⟨hA.inv.ln x q hq, ints_one (hA.tg x q hq)⟩)
  have HQ := hid (heap_alloc_new w (.cells pend0 95))
  have HCC := hid hC
  have HA := hid hA
  clear hC hA
  cases hd : (z.P x).isSome with
  | false =>
    have hdm : ((z.P x).map fun q => Value.agg (pend q.1 (tv x))).isSome = false := by simpa using hd
    have e : drainC n z x = (z, 0) := by unfold drainC; rw [if_neg (by unfold CSt.dirty; rw [hd]; decide)]
    have HE := hid e
    rw [e]
    clear e
    go_enter Tryz.func70, Tryz.ntmps70
    go_wp2_with (first
      | (at_lookup; go_must (refine wp_okV rfl _ _ rfl mb _ x (.agg C) false HCC.out hdm rfl rfl HM hIx ?_))
      | (refine D.store_row rfl 95 _ _ rfl w.heap.size rfl C rfl pend0 HQ.out (by rw [szP, hCs]) (by rw [pend0_size, hCs]) hC1 ?_; intro w3 hw3; have hc3 : Chg w w3 No := (Chg.alloc w (.cells pend0 95) No).trans (put_chg hw3) (fun _ _ e => e) (fun j hj e => by omega); clear hw3)
      | fail)
    go_ret
    exact ⟨rfl, CPost.same HH.out hc3⟩
  | true =>
    have hdm : ((z.P x).map fun q => Value.agg (pend q.1 (tv x))).isSome = true := by simpa using hd
    have HT := hid (drain_todo HINV (x := x) hd ht hw)
    have e : drainC n z x = wAll n ((befC z x).length + 1) z (befC z x ++ [x]) := by unfold drainC; rw [if_pos (show z.dirty x from hd)]
    have HE := hid e
    clear e
    go_enter Tryz.func70, Tryz.ntmps70
    go_wp2_with (first
      | (at_lookup; go_must (refine wp_okV rfl _ _ rfl mb _ x (.agg C) true HCC.out hdm rfl rfl HM hIx ?_))
      | (refine D.store_row rfl 95 _ _ rfl w.heap.size rfl C rfl pend0 HQ.out (by rw [szP, hCs]) (by rw [pend0_size, hCs]) hC1 ?_; intro w3 hw3; have hc3 : Chg w w3 No := (Chg.alloc w (.cells pend0 95) No).trans (put_chg hw3) (fun _ _ e => e) (fun j hj e => by omega); have k31 := (HA.out.call hc3).c1; have HB := before_any x (HA.out.call hc3).gr hIx; clear hw3)
      | (go_at_call 102; go_must (refine HB.mono ?_; rintro e w4 ⟨v4, l4, rfl, hv4, hb4, hc4⟩; have hl4 := bef_is HINV hb4; subst hl4; have hv5 := hid (row_keep hv4 (Chg.alloc w4 (.cells #[.int .i64 x] 3) No) (fun _ _ e => e)); have hcell := cell0 (heap_alloc_new w4 (.cells #[.int .i64 x] 3)); have HS4 := hid hc4.size; have hc34 := hid (hc3.tr hc4); clear HB hv4 hb4 hc4))
      | (at_builtin; go_must (refine wp_appI rfl _ _ rfl w3.heap.size w4.heap.size 1 _ (befC z x) x rfl rfl hv5.out hcell (by have := HT.out.ln; simp at this; omega) (by have := HS4.out; simp; omega) ?_; intro v6 w6 h61 h62 h63; have hc6 : Chg w w6 No := (hc34.out.tr (Chg.alloc w4 (.cells #[.int .i64 x] 3) No)).trans h62 (fun _ _ e => e) (fun j hj e => by have := (row_ge hv5.out e).1; have := hc3.size; omega); have HW := writeAll_any _ v6 w3.heap.size (HH.out.call hc6) h61 (fun k hk ho => by have := (row_ge h61 hk).1; have := HH.out.lt ho; have := hc3.size; omega) HT.out; have H6 := hid (And.intro h61 hc6); clear h61 h62 h63 hc6))
      | (go_at_call 77; go_must (refine HW.mono ?_; rintro e w7 ⟨rfl, hP7⟩))
      | fail)
    go_ret
    rw [HE.out]
    refine ⟨rfl, ?_⟩
    simp only [List.length_append, List.length_singleton] at hP7
    obtain ⟨ρ', r1, r2, r3⟩ := hP7
    have hs6 := H6.out.2.size
    refine ⟨ρ', r1, fun k hk => ?_, H6.out.2.trans r3 (fun _ _ e => e.elim) (fun j hj e => ?_)⟩
    · rcases r2 k hk with e | e
      · exact .inl e
      · exact .inr (by omega)
    · rcases e with e | e
      · exact e
      · have := (row_ge H6.out.1 e).1
        have := hc3.size
        omega

end Go.Proofs.YtamoepninddbcaaGreat
