/-
  Spots: all blocks that are there.
-/
import Derived.Test.YtjlhmojofjkkdabB4
import Derived.Maps.AppendAt
namespace Go.Proofs.Ytjlhmojofjkkdab
open Go.RowKit Go.Shelf

attribute [local go_sem] Oper.semAt_some

theorem plc_le (ns : List Int) (k : Nat) : (plc ns k).length ≤ k := by
  unfold plc
  have := List.length_filter_le (nz ns) (List.range k)
  simpa using this
theorem there_le (ns : List Int) : (thereL ns).length ≤ ns.length := by rw [there_len]; exact plc_le _ _
theorem rows_ps {s : Src} {z : List Int} : ∀ x ∈ rowsL s z, x.ps.length ≤ 32 := by
  intro x hx
  unfold rowsL at hx
  rcases List.mem_append.1 hx with h | h
  · simp at h; subst h; show ((z.drop 4).take 12).length ≤ 32; rw [List.length_take]; omega
  · rcases List.mem_append.1 h with h | h
    · split at h
      · simp at h
      · simp at h; subst h; exact Nat.le_of_eq (tabS_len _ _)
    · unfold farL at h
      split at h
      · simp at h
      · split at h
        · obtain ⟨y, _, rfl⟩ := List.mem_map.1 h
          exact Nat.le_of_eq (tabS_len _ _)
        · simp at h; subst h; exact Nat.zero_le _
theorem rows_le (s : Src) (z : List Int) : (rowsL s z).length ≤ 34 := by
  rw [rows_len]
  have h1 : k0 (z.getD 16 0) ≤ 2 := by unfold k0; split <;> omega
  have h2 : (farL s (z.getD 17 0)).length ≤ 32 := by
    unfold farL
    split
    · simp
    · split
      · rw [List.length_map]; have := there_le (tabS s (z.getD 17 0)).1; rw [tabS_len] at this; exact this
      · simp
  omega
theorem spots_le : ∀ (rs : List Row), (∀ x ∈ rs, x.ps.length ≤ 32) → (spotsOf rs).length ≤ 32 * rs.length + 1
  | [], _ => by simp [spotsOf]
  | x :: rs, h => by
    have ih := spots_le rs (fun y hy => h y (by simp [hy]))
    have h1 : (spotRow x).length ≤ 32 := by
      unfold spotRow; rw [List.length_map]; exact Nat.le_trans (there_le _) (h x (by simp))
    simp only [spotsOf]
    split
    · rw [List.length_append, List.length_cons]; omega
    · simp
theorem spotsL_le (s : Src) (z : List Int) : (spotsOf (rowsL s z)).length ≤ 2000 := by
  have h1 := spots_le (rowsL s z) rows_ps
  have h2 := rows_le s z
  omega
def okS (L : List Spt) (k : Nat) : Prop := ∀ (j : Nat) x, j < k → L[j]? = some x → x.err = 0
def flatS (L : List Spt) : List Value := L.flatMap fun x => [.int .i64 x.idx, .int .i64 x.sec]
theorem flatS_one (L : List Spt) (x : Spt) : flatS (L ++ [x]) = flatS L ++ [.int .i64 x.idx, .int .i64 x.sec] := by simp [flatS]
theorem infoSp : ∃ i, Try.prog.info? 47 = some i ∧ i.zero = some (.agg #[.int .i64 0, .int .i64 0]) ∧ i.size = 2 ∧ i.bytes = 16 := by
  have h : (Try.prog.info? 47).map (fun i => (i.zero, i.size, i.bytes)) = some (some (.agg #[.int .i64 0, .int .i64 0]), 2, 16) := by kernel_rfl
  cases hq : Try.prog.info? 47 with
  | none => rw [hq] at h; cases h
  | some i =>
    rw [hq] at h
    simp at h
    exact ⟨i, rfl, h.1, h.2.1, h.2.2⟩
theorem szSpot : (Try.prog.info? 47).map (·.size) = some 2 := by kernel_rfl
/-- What Spots answers, of what comes. -/
structure SpotsAns (L : List Spt) (l : List Spt) (e : Int) : Prop where
  good : e = 0 → l = L ∧ okS L L.length
  bad : e ≠ 0 → l = [] ∧ ∃ (k : Nat) (x : Spt), L[k]? = some x ∧ okS L k ∧ x.err = e

theorem row_shape9 {w : World} {base e k n : Nat} {v : Value} {xs : List Value} (h : w.ownsRow base e k v n xs) : ∃ a cap, v = .slice a n cap ∧ n ≤ cap ∧ (∀ ad, a = some ad → ∃ g, ad = ⟨g, 0, none⟩ ∧ base ≤ g) := by
  obtain ⟨_, h2⟩ := h
  rcases h2 with ⟨rfl, rfl⟩ | ⟨g, cap, cur, rfl, hb, _, hc, _⟩
  · exact ⟨none, 0, rfl, Nat.le_refl _, fun _ h => by cases h⟩
  · exact ⟨_, cap, rfl, hc, fun ad h => by cases h; exact ⟨g, rfl, hb⟩⟩
theorem run_slice1 (w : World) (g : Nat) (a : Option Addr) (n c : Nat) (h : w.cell? ⟨g, 0, none⟩ = some (.slice a n c)) : (loadVar 36 ⟨g, 0, none⟩).run Try.prog w = .ok (.slice a n c) w := by go_simp
theorem ownsRow_alloc9 {w : World} {base e k n : Nat} {v : Value} {xs : List Value} (h : w.ownsRow base e k v n xs) (o : Obj) : (w.alloc o).ownsRow base e k v n xs := h.kept (World.grownBy_alloc w o none) (by
  rcases h.2 with ⟨rfl, _⟩ | ⟨g, cap, cur, rfl, _, hgb, _⟩
  · exact .inl rfl
  · exact .inr (by simp [Value.ownBlock]))
theorem new_two (w : World) (x y : Value) (j : Nat) (u : Value) (h : [x, y][j]? = some u) : (w.alloc (.cells #[x, y] 47)).cell? ((⟨w.heap.size, 0, none⟩ : Addr).add j) = some u := by
  rw [addr_add, Nat.zero_add, cell_of_row _ _ _ _ _ _ (heap_alloc_new _ _)]
  simpa using h
theorem blk_keep {W w1 : World} {B k0 base n : Nat} {v v' : Value} {xs : List Value} {tmp : Obj} {cs : Array Value} {t : TypeId} {f : Nat × Nat} (h : W.heap[k0]? = some (.cells cs t f)) (ht : t ≠ 47) (hB : k0 ≠ B) (hrow : W.ownsRow base 47 2 v n xs) (hg : (W.alloc tmp).grownBy w1 v.ownBlock) :
    (w1.setCell ⟨B, 0, none⟩ v').heap[k0]? = some (.cells cs t f) := by
  rw [heap_setCell_other _ _ _ _ hB, hg.block k0 (by have := slt h; simp; omega) (fun e => ?_), Below.heap_alloc _ _ _ (slt h)]
  · exact h
  · rcases hrow.2 with ⟨rfl, _⟩ | ⟨g, cap, cur, rfl, _, hgb, _⟩
    · cases e
    · have e2 : k0 = g := by simpa [Value.ownBlock] using e
      rw [e2, hgb] at h
      cases h
      exact ht rfl
theorem spI_own {w : World} {L : List Spt} {D : Nat} (k : Nat) (A B : World) (row : Option Nat) (h : okS L k ∧ (∃ v, A.heap[w.heap.size + 3]? = some (.cells #[v] 36 (0, 0)) ∧ A.ownsRow w.heap.size 47 2 v k (flatS (L.take k))) ∧ A.heap[w.heap.size + 1]? = some (.cells #[.slice none 0 0] 36 (0, 0)) ∧ A.heap[w.heap.size + 2]? = some (.cells #[.int .i64 0] 26 (0, 0)) ∧ Below w.heap.size w A) (hg : A.grownBy B row) (hq : ∀ r, row = some r → D ≤ r ∧ ∃ o : Obj, A.heap[r]? = some o ∧ o.isCells = false) (hD : w.heap.size ≤ D) :
    okS L k ∧ (∃ v, B.heap[w.heap.size + 3]? = some (.cells #[v] 36 (0, 0)) ∧ B.ownsRow w.heap.size 47 2 v k (flatS (L.take k))) ∧ B.heap[w.heap.size + 1]? = some (.cells #[.slice none 0 0] 36 (0, 0)) ∧ B.heap[w.heap.size + 2]? = some (.cells #[.int .i64 0] 26 (0, 0)) ∧ Below w.heap.size w B := by
  obtain ⟨h1, ⟨v, h2, h3⟩, h4, h5, h6⟩ := h
  refine ⟨h1, ⟨v, own_row (β := Unit) _ _ _ _ _ () A B row h2 hg hq, h3.kept hg ?_⟩, own_row (β := Unit) _ _ _ _ _ () A B row h4 hg hq, own_row (β := Unit) _ _ _ _ _ () A B row h5 hg hq, ownFrom_below (β := Unit) (Nat.le_refl _) hD () A B row h6 hg hq⟩
  rcases h3.2 with ⟨rfl, _⟩ | ⟨g, cap, cur, rfl, _, hgb, _⟩
  · exact .inl rfl
  · right
    intro e
    obtain ⟨_, o, ho, hc⟩ := hq g e.symm
    rw [hgb] at ho
    cases ho
    cases hc

set_option maxRecDepth 100000 in
set_option maxHeartbeats 4000000 in
theorem Spots_any (pm : Nat) (s : Src) (z : List Int) (w : World) (hz : z.length = 18) (hr : Rd w pm s) :
    Calls Try.prog 8 #[rdV pm, .agg (NA z)] w fun e w' => ∃ (v : Value) (l : List Spt) (c : Int), e = .returned (.tuple #[v, .int .i64 c]) ∧ SpotsAns (spotsOf (rowsL s z)) l c ∧ w'.ownsRow w.heap.size 47 2 v l.length (flatS l) ∧ Below w.heap.size w w' := by
  obtain ⟨n⟩ : Nonempty Nat := ⟨3⟩
  refine (callsIn_wide (n := n)).1 ?_
  obtain ⟨L, hL⟩ : ∃ y, y = spotsOf (rowsL s z) := ⟨_, rfl⟩
  have hLb : L.length ≤ 2000 := by rw [hL]; exact spotsL_le s z
  rw [← hL]
  have hqn : ∀ w, (binOp .eql 54 (rdV pm) .nilIface).run Try.prog w = .ok (.bool false) w := fun _ => by unfold rdV; rfl
  have hqg : ∀ w, (eqGuard .eql 54 (.tmp 9) (.const .nilIface) (rdV pm) .nilIface).run Try.prog w = .ok () w := fun _ => by unfold rdV; rfl
  have hiL : (NA z).size = 18 := by rw [NA_size, hz]
  refine callsIn_of_wp_marks Try.func8 rfl trivial ?_ rfl
  simp only [Try.ntmps8, List.size_toArray, List.length_cons, List.length_nil, Nat.reduceAdd, Nat.reduceSub, Array.replicate_succ, Array.replicate_zero, List.push_toArray, List.append_toArray, List.nil_append, List.cons_append]
  obtain ⟨U, hU⟩ : ∃ y, y = (((w.alloc (.cells (NA z) 24)).alloc (.cells #[.slice none 0 0] 36)).alloc (.cells #[.int .i64 0] 26)).alloc (.cells #[.slice none 0 0] 36) := ⟨_, rfl⟩
  have gX : ((((w.alloc (.cells (NA z) 24)).alloc (.cells #[.slice none 0 0] 36)).alloc (.cells #[.int .i64 0] 26)).alloc (.cells #[.slice none 0 0] 36)).heap[w.heap.size]? = some (.cells (NA z) 24 (0, 0)) := by
    rw [Below.heap_alloc _ _ _ (by simp; omega), Below.heap_alloc _ _ _ (by simp; omega), Below.heap_alloc _ _ _ (by simp)]
    exact heap_alloc_new _ _
  gi_wp2_with (first
    | (refine li_load (fun _ => trivial) rfl 24 (.tmp 3) rfl w.heap.size rfl 24 (NA z) _ gX Try.underlying24 rfl (by rw [szI, NA_size, hz]) ?_)
    | (refine ⟨trivial, wdep, (callsIn_wide.2 (spots_any pm z _)).mono ?_⟩; rintro e w2 ⟨rfl, rfl⟩))
  obtain ⟨V, hV⟩ : ∃ y, y = (U.alloc (.cells #[rdV pm] 54)).alloc (.cells (NA z) 24) := ⟨_, rfl⟩
  have zU : U.heap.size = w.heap.size + 4 := by rw [hU]; simp
  rw [← hU, ← hV]
  have UB : Below w.heap.size w U := by rw [hU]; exact ((((Below.refl _ w).alloc (Nat.le_refl _) _).alloc (by simp) _).alloc (by simp <;> omega) _).alloc (by simp <;> omega) _
  have U1 : U.heap[w.heap.size + 1]? = some (.cells #[.slice none 0 0] 36 (0, 0)) := by
    rw [hU, Below.heap_alloc _ _ _ (by simp <;> omega), Below.heap_alloc _ _ _ (by simp)]; exact heap_alloc2_new w _ _
  have U2 : U.heap[w.heap.size + 2]? = some (.cells #[.int .i64 0] 26 (0, 0)) := by
    rw [hU, Below.heap_alloc _ _ _ (by simp)]
    have := heap_alloc2_new (w.alloc (.cells (NA z) 24)) (.cells #[.slice none 0 0] 36) (.cells #[.int .i64 0] 26)
    simpa using this
  have U3 : U.heap[w.heap.size + 3]? = some (.cells #[.slice none 0 0] 36 (0, 0)) := by
    have := heap_alloc_new (((w.alloc (.cells (NA z) 24)).alloc (.cells #[.slice none 0 0] 36)).alloc (.cells #[.int .i64 0] 26)) (.cells #[.slice none 0 0] 36)
    rw [hU]
    simpa using this
  have hUV : Below U.heap.size U V := by rw [hV]; exact ((Below.refl _ _).alloc (Nat.le_refl _) _).alloc (by simp) _
  have VB : Below w.heap.size w V := UB.trans (hUV.mono UB.size)
  have V1 : V.heap[w.heap.size + 1]? = some (.cells #[.slice none 0 0] 36 (0, 0)) := by rw [hUV.block _ (slt U1)]; exact U1
  have V2 : V.heap[w.heap.size + 2]? = some (.cells #[.int .i64 0] 26 (0, 0)) := by rw [hUV.block _ (slt U2)]; exact U2
  have V3 : V.heap[w.heap.size + 3]? = some (.cells #[.slice none 0 0] 36 (0, 0)) := by rw [hUV.block _ (slt U3)]; exact U3
  have VR : RowsAt w U.heap.size (U.heap.size + 1) pm z V := ⟨VB, by rw [hV]; exact heap_alloc2_old _ _ _, by rw [hV]; exact heap_alloc2_new _ _ _⟩
  have zU4 : U.heap.size = w.heap.size + 1 + 1 + 1 + 1 := by omega
  rw [zU4] at VR
  have zV : V.heap.size = w.heap.size + 6 := by rw [hV]; simp [zU]
  clear hV hU gX U1 U2 U3
  have hIt := hL ▸ spots_iter w (w.heap.size + 1 + 1 + 1 + 1) (w.heap.size + 1 + 1 + 1 + 1 + 1) pm s z hz hr
  clear hL
  refine range_noneA (gf := 20) (lb := #[.pointer (some ⟨w.heap.size + 1 + 1 + 1 + 1, 0, none⟩), .pointer (some ⟨w.heap.size + 1 + 1 + 1 + 1 + 1, 0, none⟩)]) rfl (enters_of Try.func20 (by kernel_rfl) rfl) hIt
    (fun o o' => VR.kept (KpT.below (((Below.refl _ _).alloc (Nat.le_refl _) _).alloc (by simp) _) VB.size)) (fun x gs W h => by rw [h]; rfl) (fun h k => h.trans k) (fun W' l' o o' hl' ho hc => KpT.putObj (by omega) ho hc)
    (fun k W' => okS L k ∧ (∃ v, W'.heap[w.heap.size + 3]? = some (.cells #[v] 36 (0, 0)) ∧ W'.ownsRow w.heap.size 47 2 v k (flatS (L.take k))) ∧ W'.heap[w.heap.size + 1]? = some (.cells #[.slice none 0 0] 36 (0, 0)) ∧ W'.heap[w.heap.size + 2]? = some (.cells #[.int .i64 0] 26 (0, 0)) ∧ Below w.heap.size w W')
    (fun c W' => c = .ret ∧ ∃ k x, L[k]? = some x ∧ okS L k ∧ x.err ≠ 0 ∧ W'.heap[w.heap.size + 1]? = some (.cells #[.slice none 0 0] 36 (0, 0)) ∧ W'.heap[w.heap.size + 2]? = some (.cells #[.int .i64 x.err] 26 (0, 0)) ∧ Below w.heap.size w W') ?hI ?hIx ⟨fun j x hj => by omega, ⟨_, V3, World.ownsRow_nil _ _ _ _⟩, V1, V2, VB⟩
    (fun a x (b : Nat) => { tmps := (((a.tmps.setIfInBounds 14 (.agg #[.int .i64 x.idx, .int .i64 x.sec])).setIfInBounds 15 (.int .i64 x.err)).setIfInBounds 7 (.pointer (some ⟨b, 0, none⟩))).setIfInBounds 8 (.int .i64 x.err), defers := [] })
    (fun k x b W' => (okS L k ∧ (∃ v, W'.heap[w.heap.size + 3]? = some (.cells #[v] 36 (0, 0)) ∧ W'.ownsRow w.heap.size 47 2 v k (flatS (L.take k))) ∧ W'.heap[w.heap.size + 1]? = some (.cells #[.slice none 0 0] 36 (0, 0)) ∧ W'.heap[w.heap.size + 2]? = some (.cells #[.int .i64 0] 26 (0, 0)) ∧ Below w.heap.size w W') ∧ W'.heap[b]? = some (.cells #[.int .i64 x.idx, .int .i64 x.sec] 47 (0, 0))) (fun k x b => ?hE) ?assign ?body ?done ?stop
  case hI =>
    intro k A B row h hg hq
    exact spI_own k A B row h hg hq (by omega)
  case hE =>
    intro _ A B row h hg hq
    exact ⟨spI_own k A B row h.1 hg hq (by omega), own_row (β := Unit) _ _ _ _ _ () A B row h.2 hg hq⟩
  case hIx =>
    rintro c _ A B row ⟨h1, k, x, h2, h3, h4, h5, h6, h7⟩ hg hq
    exact ⟨h1, k, x, h2, h3, h4, own_row (β := Unit) _ _ _ _ _ () A B row h5 hg hq, own_row (β := Unit) _ _ _ _ _ () A B row h6 hg hq, ownFrom_below (β := Unit) (Nat.le_refl _) (by omega) () A B row h7 hg hq⟩
  case assign =>
    rintro l' k x gs W' m hx rfl hi
    have hsz := hi.2.2.2.2.size
    have HI := hid hi
    clear hi
    have hzr : ∀ w, (zeroValue 47).run Try.prog w = .ok (.agg #[.int .i64 0, .int .i64 0]) w := fun w => by kernel_rfl
    rw [fold2]
    simp only [List.setIfInBounds_toArray, List.set_cons_zero, List.set_cons_succ]
    gi_wp2_with (refine li_store (fun _ => trivial) rfl 47 (.tmp 7) (.tmp 14) rfl W'.heap.size #[.int .i64 x.idx, .int .i64 x.sec] rfl rfl 47 #[.int .i64 0, .int .i64 0] (heap_alloc_new _ _) (by rw [szSpot]; rfl) rfl (by simp [Value.oneCell']) ?_; intro w5 p5)
    have hb5 : Below W'.heap.size W' w5 := p5.below ((Below.refl _ _).alloc (Nat.le_refl _) _) (Nat.le_refl _)
    exact ⟨keeps_below hb5, KpT.below hb5 hsz, W'.heap.size, rfl, spI_own k W' w5 none HI.out ⟨hb5.os, hb5.tape, hb5.output, hb5.size, fun i hi _ => hb5.block i hi⟩ (fun r e => by cases e) (Nat.le_refl w.heap.size), p5.here⟩
  case body =>
    rintro l' k x b W' m hl' hx ⟨r', hr'⟩ ⟨⟨i1, ⟨v, i2, i3⟩, i4, i5, i6⟩, i7⟩
    have c1 : W'.cell? ⟨w.heap.size + 1, 0, none⟩ = some (.slice none 0 0) := by rw [cell_of_row _ _ _ _ _ _ i4]; rfl
    have c2 : W'.cell? ⟨w.heap.size + 1 + 1, 0, none⟩ = some (.int .i64 0) := by rw [cell_of_row _ _ _ _ _ _ i5]; rfl
    have c3 : W'.cell? ⟨w.heap.size + 1 + 1 + 1, 0, none⟩ = some v := by rw [cell_of_row _ _ _ _ _ _ i2]; rfl
    have f1 := frozen_of_row W' (w.heap.size + 1) 0 _ _ i4
    have f2 := frozen_of_row W' (w.heap.size + 1 + 1) 0 _ _ i5
    simp only [List.setIfInBounds_toArray, List.set_cons_zero, List.set_cons_succ]
    by_cases he : x.err = 0
    · obtain ⟨inf, hi, hz0, hz1, hz2⟩ := infoSp
      have hk := (List.getElem?_eq_some_iff.1 hx).1
      obtain ⟨av, cv, rfl, _, _⟩ := row_shape9 i3
      have hBx : Boxed W' (w.heap.size + 1 + 1 + 1) 36 (.slice av k cv) := i2
      have hsz := i6.size
      have H2 := hid i2
      have H3 := hid i3
      have H4 := hid i4
      have H5 := hid i5
      have H6 := hid i6
      have H7 := hid i7
      have HBx := hid hBx
      have HV := hid (spI_own (L := L) (D := w.heap.size) k W' W' none ⟨i1, ⟨_, i2, i3⟩, i4, i5, i6⟩ ⟨rfl, rfl, rfl, Nat.le_refl _, fun _ _ _ => rfl⟩ (fun r e => by cases e) (Nat.le_refl _))
      clear i2 i3 i4 i5 i6 i7 hBx f1 f2 c1 c2
      rw [he]
      gi_wp2_with (first
        | (refine li_load (fun _ => trivial) rfl 47 (.tmp 7) rfl b rfl 47 #[.int .i64 x.idx, .int .i64 x.sec] _ H7.out Try.underlying47 rfl (by rw [szSpot]; rfl) ?_)
        | (gi_at_builtin; refine wpListIn_append_own _ rfl _ _ 36 rfl w.heap.size 47 inf _ 2 16 Try.underlying36 hi hz0 hz1 hz2 rfl (by decide) _ k _ rfl (ownsRow_alloc9 H3.out _) ⟨W'.heap.size, 0, none⟩ 1 1 [.int .i64 x.idx, .int .i64 x.sec] rfl rfl (fun j u hj => new_two _ _ _ j u hj) (by simp [Value.oneCell']) (by unfold maxLen; omega) (by omega) (by simp; omega) ?_; intro v' w1 hown' hgrow _; obtain ⟨a2, cv2, rfl, _, _⟩ := row_shape9 hown'; have hap := HBx.out.appended (by decide) H3.out hsz (by omega) hown' hgrow; have hc1 := hap.1.cell; have hf1 := hap.1.frozen))
      obtain ⟨_, hap2, hap3, hap4, hap5⟩ := hap
      have htk : L.take (k + 1) = L.take k ++ [x] := by rw [List.take_add_one, hx]; rfl
      refine ⟨hap4.from _, none, rfl, ⟨hap5, fun k1 cs t f hk1 ht => blk_keep hk1 ht.2.1 (fun e => ?_) H3.out hgrow⟩, fun j y hj hy => ?_, ⟨_, hap2, ?_⟩, blk_keep H4.out (by decide) (by omega) H3.out hgrow, blk_keep H5.out (by decide) (by omega) H3.out hgrow, H6.out.trans hap5⟩
      · rw [e, H2.out] at hk1
        cases hk1
        exact ht.1 rfl
      · rcases Nat.lt_or_ge j k with e | e
        · exact i1 j y e hy
        · obtain rfl : j = k := by omega
          rw [hx] at hy; cases hy; exact he
      · rw [htk, flatS_one]
        exact hap3
    · have HW := hid i6
      have H4 := hid i4
      have H5 := hid i5
      have H1 := hid i1
      clear i1 i2 i3 i4 i5 i6 i7
      gi_wp2
      refine ⟨((KeepsOthers.setCell _ _ _).trans (KeepsOthers.setCell _ _ _)).from _, some .ret, rfl, rfl, k, x, hx, H1.out, he, ?_, ?_, ?_⟩
      · rw [heap_setCell_other _ _ _ _ (by simp)]
        exact heap_setCell_same _ _ 0 _ _ _ H4.out
      · refine heap_setCell_same _ (w.heap.size + 2) 0 #[.int .i64 0] _ _ ?_
        rw [heap_setCell_other _ _ _ _ (by simp)]
        exact H5.out
      · exact (HW.out.setCell (p := ⟨w.heap.size + 1, 0, none⟩) (by simp) _).setCell (p := ⟨w.heap.size + 1 + 1, 0, none⟩) (by simp; omega) _
  case done =>
    rintro D W' hD ⟨i1, ⟨v, i2, i3⟩, i4, i5, i6⟩ hK
    have c1 : W'.cell? ⟨w.heap.size + 1, 0, none⟩ = some (.slice none 0 0) := by rw [cell_of_row _ _ _ _ _ _ i4]; rfl
    have c2 : W'.cell? ⟨w.heap.size + 1 + 1, 0, none⟩ = some (.int .i64 0) := by rw [cell_of_row _ _ _ _ _ _ i5]; rfl
    have c3 : W'.cell? ⟨w.heap.size + 1 + 1 + 1, 0, none⟩ = some v := by rw [cell_of_row _ _ _ _ _ _ i2]; rfl
    have f1 := frozen_of_row W' (w.heap.size + 1) 0 _ _ i4
    have f2 := frozen_of_row W' (w.heap.size + 1 + 1) 0 _ _ i5
    obtain ⟨av, cv, rfl, _, _⟩ := row_shape9 i3
    have hne1 : some (w.heap.size + 1) ≠ (Value.slice av L.length cv).ownBlock := Boxed.not_row (t := 36) i4 (by decide) i3
    have hne2 : some (w.heap.size + 2) ≠ (Value.slice av L.length cv).ownBlock := Boxed.not_row (t := 26) i5 (by decide) i3
    have O1 := i3.kept (grownBy_setCell' W' (w.heap.size + 1) (.slice av L.length cv)) (.inr hne1.symm)
    have O2 := O1.kept (grownBy_setCell' _ (w.heap.size + 2) (.int .i64 0)) (.inr hne2.symm)
    have Z1 := heap_setCell_same W' (w.heap.size + 1) 0 _ _ (.slice av L.length cv) i4
    have Z2 := heap_setCell_same (W'.setCell ⟨w.heap.size + 1, 0, none⟩ (.slice av L.length cv)) (w.heap.size + 2) 0 #[.int .i64 0] 26 (.int .i64 0) (by rw [heap_setCell_other _ _ _ _ (by simp)]; exact i5)
    have hKX := ((KeepsOthers.setCell W' ⟨w.heap.size + 1, 0, none⟩ (.slice av L.length cv)).trans (KeepsOthers.setCell _ ⟨w.heap.size + 2, 0, none⟩ (.int .i64 0))).same D _ hK rfl
    have XB := (i6.setCell (p := ⟨w.heap.size + 1, 0, none⟩) (by simp) (.slice av L.length cv)).setCell (p := ⟨w.heap.size + 2, 0, none⟩) (by simp) (.int .i64 0)
    have HO2 := hid O2
    have HZ1 := hid Z1
    have HZ2 := hid Z2
    have HKX := hid hKX
    have HXB := hid XB
    have HI1 := hid i1
    clear O1 O2 Z1 Z2 hKX XB i1 i2 i3 i4 i5 i6 hK
    gi_wp2
    obtain ⟨X, hX⟩ : ∃ y, y = (W'.setCell ⟨w.heap.size + 1, 0, none⟩ (.slice av L.length cv)).setCell ⟨w.heap.size + 2, 0, none⟩ (.int .i64 0) := ⟨_, rfl⟩
    have X1 : X.heap[w.heap.size + 1]? = some (.cells #[.slice av L.length cv] 36 (0, 0)) := by rw [hX, heap_setCell_other _ _ _ _ (by simp)]; exact HZ1.out
    have X2 : X.heap[w.heap.size + 2]? = some (.cells #[.int .i64 0] 26 (0, 0)) := by rw [hX]; exact HZ2.out
    have XK := HKX.out
    have XO := HO2.out
    have XB := HXB.out
    rw [← hX] at XK XO XB
    show LeavesInM _ _ _ _ _ _ _ _ ((W'.setCell ⟨w.heap.size + 1, 0, none⟩ (.slice av L.length cv)).setCell ⟨w.heap.size + 2, 0, none⟩ (.int .i64 0))
    rw [← hX]
    refine ⟨by simp, .inl ⟨_, _, rfl, run_takeDeferred XK, ?_⟩⟩
    have P1 : (X.putObj D (.deferred none)).heap[w.heap.size + 1]? = some (.cells #[.slice av L.length cv] 36 (0, 0)) := by rw [World.putObj_heap_other (fun e => by rw [← e, X1] at XK; cases XK)]; exact X1
    have P2 : (X.putObj D (.deferred none)).heap[w.heap.size + 2]? = some (.cells #[.int .i64 0] 26 (0, 0)) := by rw [World.putObj_heap_other (fun e => by rw [← e, X2] at XK; cases XK)]; exact X2
    have Y1 : (X.putObj D (.deferred none)).cell? ⟨w.heap.size + 1, 0, none⟩ = some (.slice av L.length cv) := by rw [cell_of_row _ _ _ _ _ _ P1]; rfl
    have Y2 : (X.putObj D (.deferred none)).cell? ⟨w.heap.size + 1 + 1, 0, none⟩ = some (.int .i64 0) := by rw [cell_of_row _ _ _ _ _ _ P2]; rfl
    exact ⟨_, results_2 Try.results8 _ _ (w.heap.size + 1) (w.heap.size + 1 + 1) _ _ rfl rfl (run_slice1 _ _ _ _ _ Y1) (run_errno _ _ _ Y2), _, L, 0, rfl, ⟨fun _ => ⟨rfl, HI1.out⟩, fun e => absurd rfl e⟩, by rw [List.take_length] at XO; exact ownsRow_putObj XO _ XK rfl, XB.trans (belowK_b (w := w) (Nat.le_refl _) X D _ _ (by omega) XK rfl rfl)⟩
  case stop =>
    rintro D c W' hD ⟨rfl, k, x, h2, h3, h4, h5, h6, h7⟩ hK
    gi_wp2
    refine ⟨by simp, .inl ⟨_, _, rfl, run_takeDeferred hK, ?_⟩⟩
    have Z1 : (W'.putObj D (.deferred none)).heap[w.heap.size + 1]? = some (.cells #[.slice none 0 0] 36 (0, 0)) := by rw [World.putObj_heap_other (fun e => by rw [← e, h5] at hK; cases hK)]; exact h5
    have Z2 : (W'.putObj D (.deferred none)).heap[w.heap.size + 2]? = some (.cells #[.int .i64 x.err] 26 (0, 0)) := by rw [World.putObj_heap_other (fun e => by rw [← e, h6] at hK; cases hK)]; exact h6
    have Y1 : (W'.putObj D (.deferred none)).cell? ⟨w.heap.size + 1, 0, none⟩ = some (.slice none 0 0) := by rw [cell_of_row _ _ _ _ _ _ Z1]; rfl
    have Y2 : (W'.putObj D (.deferred none)).cell? ⟨w.heap.size + 1 + 1, 0, none⟩ = some (.int .i64 x.err) := by rw [cell_of_row _ _ _ _ _ _ Z2]; rfl
    exact ⟨_, results_2 Try.results8 _ _ (w.heap.size + 1) (w.heap.size + 1 + 1) _ _ rfl rfl (run_slice1 _ _ _ _ _ Y1) (run_errno _ _ _ Y2), _, [], x.err, rfl, ⟨fun e => absurd e h4, fun _ => ⟨rfl, k, x, h2, h3, rfl⟩⟩, World.ownsRow_nil _ _ _ _, h7.trans (belowK_b (w := w) (Nat.le_refl _) W' D _ _ (by omega) hK rfl rfl)⟩

end Go.Proofs.Ytjlhmojofjkkdab
