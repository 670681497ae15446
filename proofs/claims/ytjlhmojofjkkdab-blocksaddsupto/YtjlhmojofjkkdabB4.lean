/-
  The iterator over the blocks that are there.
-/
import Derived.Test.YtjlhmojofjkkdabB3
namespace Go.Proofs.Ytjlhmojofjkkdab
open Go.RowKit Go.Shelf

attribute [local go_sem] Oper.semAt_some

structure Spt where
  idx : Int
  sec : Int
  err : Int
def EncS (x : Spt) (gs : Array Value) (_ : World) : Prop := gs = #[.agg #[.int .i64 x.idx, .int .i64 x.sec], .int .i64 x.err]
def spotRow (x : Row) : List Spt := (thereL x.ps).map fun y => ⟨x.first + (y.1 : Int), y.2, 0⟩
def spotsOf : List Row → List Spt
  | [] => []
  | x :: xs => if x.err = 0 then spotRow x ++ spotsOf xs else [⟨0, 0, x.err⟩]
/-- How many have come of the first k rows. -/
def cntS : List Row → Nat → Nat
  | _, 0 => 0
  | [], _ + 1 => 0
  | x :: xs, k + 1 => (spotRow x).length + cntS xs k
def okTo (rs : List Row) (k : Nat) : Prop := ∀ (j : Nat) x, j < k → rs[j]? = some x → x.err = 0
theorem cnt_succ : ∀ (rs : List Row) (k : Nat) (x : Row), rs[k]? = some x → cntS rs (k + 1) = cntS rs k + (spotRow x).length
  | [], k, x, h => by simp at h
  | y :: rs, 0, x, h => by simp at h; subst h; cases rs <;> simp [cntS]
  | y :: rs, k + 1, x, h => by
    have ih := cnt_succ rs k x (by simpa using h)
    simp only [cntS]
    rw [ih]; omega
theorem okTo.tail {y : Row} {rs : List Row} {k : Nat} (h : okTo (y :: rs) (k + 1)) : y.err = 0 ∧ okTo rs k := ⟨h 0 y (by omega) rfl, fun j x hj hx => h (j + 1) x (by omega) (by simpa using hx)⟩
theorem okTo.one {rs : List Row} {k : Nat} {x : Row} (h : okTo rs k) (hx : rs[k]? = some x) (he : x.err = 0) : okTo rs (k + 1) := fun j y hj hy => by
  rcases Nat.lt_or_ge j k with e | e
  · exact h j y e hy
  · obtain rfl : j = k := by omega
    rw [hx] at hy; cases hy; exact he
theorem spots_get : ∀ (rs : List Row) (k i : Nat) (x : Row) (y : Spt), rs[k]? = some x → okTo rs k → x.err = 0 → (spotRow x)[i]? = some y → (spotsOf rs)[cntS rs k + i]? = some y
  | [], k, i, x, y, h, _, _, _ => by simp at h
  | z :: rs, 0, i, x, y, h, _, he, hy => by
    simp at h; subst h
    simp only [spotsOf, cntS, Nat.zero_add, if_pos he]
    rw [List.getElem?_append_left (List.getElem?_eq_some_iff.1 hy).1]
    exact hy
  | z :: rs, k + 1, i, x, y, h, ho, he, hy => by
    obtain ⟨h1, h2⟩ := ho.tail
    have ih := spots_get rs k i x y (by simpa using h) h2 he hy
    simp only [spotsOf, cntS, if_pos h1]
    rw [show (spotRow z).length + cntS rs k + i = (spotRow z).length + (cntS rs k + i) by omega, List.getElem?_append_right (by omega)]
    rw [Nat.add_sub_cancel_left]
    exact ih
theorem spots_err : ∀ (rs : List Row) (k : Nat) (x : Row), rs[k]? = some x → okTo rs k → x.err ≠ 0 → (spotsOf rs)[cntS rs k]? = some ⟨0, 0, x.err⟩ ∧ (spotsOf rs).length = cntS rs k + 1
  | [], k, x, h, _, _ => by simp at h
  | z :: rs, 0, x, h, _, he => by
    simp at h; subst h
    simp [spotsOf, cntS, if_neg he]
  | z :: rs, k + 1, x, h, ho, he => by
    obtain ⟨h1, h2⟩ := ho.tail
    have ih := spots_err rs k x (by simpa using h) h2 he
    simp only [spotsOf, cntS, if_pos h1]
    refine ⟨?_, by rw [List.length_append, ih.2]; omega⟩
    rw [List.getElem?_append_right (by omega), Nat.add_sub_cancel_left]
    exact ih.1
theorem spots_all : ∀ (rs : List Row), okTo rs rs.length → (spotsOf rs).length = cntS rs rs.length
  | [], _ => rfl
  | z :: rs, h => by
    obtain ⟨h1, h2⟩ := okTo.tail (k := rs.length) h
    simp only [spotsOf, if_pos h1, List.length_append, List.length_cons, cntS, spots_all rs h2]
theorem spotRow_get {x : Row} {i : Nat} {y : Nat × Int} (h : (thereL x.ps)[i]? = some y) : (spotRow x)[i]? = some ⟨x.first + (y.1 : Int), y.2, 0⟩ := by
  unfold spotRow
  rw [List.getElem?_map, h]
  rfl
set_option maxRecDepth 100000 in
theorem rows_any (pm : Nat) (z : List Int) (w : World) : Calls Try.prog 21 #[rdV pm, .agg (NA z)] w fun e w' => e = .returned (.func (.func 27) #[] #[.pointer (some ⟨w.heap.size, 0, none⟩), .pointer (some ⟨w.heap.size + 1, 0, none⟩)]) ∧ w' = (w.alloc (.cells #[rdV pm] 54)).alloc (.cells (NA z) 24) := by
  have hmf : ∀ (fn : Fn) (first cap : Array Value) (w : World), (Instr.makeFunc fn first cap).run Try.prog w = .ok (.func fn first cap) w := fun _ _ _ _ => rfl
  unfold rdV
  go_enter Try.func21, Try.ntmps21
  go_wp2
  go_ret
  exact ⟨rfl, rfl⟩
set_option maxRecDepth 100000 in
theorem spots_any (pm : Nat) (z : List Int) (w : World) : Calls Try.prog 14 #[rdV pm, .agg (NA z)] w fun e w' => e = .returned (.func (.func 20) #[] #[.pointer (some ⟨w.heap.size, 0, none⟩), .pointer (some ⟨w.heap.size + 1, 0, none⟩)]) ∧ w' = (w.alloc (.cells #[rdV pm] 54)).alloc (.cells (NA z) 24) := by
  have hmf : ∀ (fn : Fn) (first cap : Array Value) (w : World), (Instr.makeFunc fn first cap).run Try.prog w = .ok (.func fn first cap) w := fun _ _ _ _ => rfl
  unfold rdV
  go_enter Try.func14, Try.ntmps14
  go_wp2
  go_ret
  exact ⟨rfl, rfl⟩
theorem enc_size {x : Row} {gs : Array Value} {W : World} (h : EncR x gs W) : gs.size = 2 := by
  rcases h with ⟨b, o, c, cs, t, rfl, _⟩ | ⟨_, rfl⟩ <;> rfl
/-- A row's list of pointers in memory. -/
def RowIn (x : Row) (sl : Value) (W : World) : Prop :=
  (∃ b o c cs t, sl = .slice (some ⟨b, o, none⟩) x.ps.length c ∧ W.heap[b]? = some (.cells cs t (0, 0)) ∧ Fast t ∧ IntsIn W b o x.ps ∧ x.ps.length ≤ 1000) ∨ (x.err ≠ 0 ∧ sl = .slice none 0 0)
theorem RowIn.below {x : Row} {sl : Value} {W W' : World} (h : RowIn x sl W) (hb : Below W.heap.size W W') : RowIn x sl W' := by
  rcases h with ⟨b, o, c, cs, t, h1, h2, h3, h4, h5⟩ | h
  · exact .inl ⟨b, o, c, cs, t, h1, by rw [hb.block _ (slt h2)]; exact h2, h3, h4.kept (hb.block _ (slt h2)), h5⟩
  · exact .inr h
theorem rowIn_own {β : Type} (B : Nat) (x : Row) (sl : Value) : OwnFrom B (fun (_ : β) W => RowIn x sl W) := fun s A C row h hg hq => by
  rcases h with ⟨b, o, c, cs, t, h1, h2, h3, h4, h5⟩ | h
  · have h2' := own_row (β := β) B b cs t (0, 0) s A C row h2 hg hq
    exact .inl ⟨b, o, c, cs, t, h1, h2', h3, h4.kept (by rw [h2, h2']), h5⟩
  · exact .inr h
theorem enc_parts {x : Row} {gs : Array Value} {W : World} (h : EncR x gs W) : ∃ sl, gs = #[.agg #[.int .i64 x.first, sl], .int .i64 x.err] ∧ RowIn x sl W ∧ sl.oneCell' = true := by
  rcases h with ⟨b, o, c, cs, t, h1, h2, h3, h4, h5⟩ | ⟨h, h1⟩
  · exact ⟨_, h1, .inl ⟨b, o, c, cs, t, rfl, h2, h3, h4, h5⟩, rfl⟩
  · exact ⟨_, h1, .inr ⟨h, rfl⟩, rfl⟩
theorem keeps_below {B : Nat} {W W' : World} (hb : Below W.heap.size W W') : KeepsFrom B W W' := ⟨hb.size, fun k o _ ho _ => by rw [hb.block k (Array.getElem?_eq_some_iff.1 ho).1]; exact ho⟩
theorem kpt_own {β : Type} {B n : Nat} {w₀ : World} (hn : n ≤ B) (hn' : n ≤ w₀.heap.size) : OwnFrom B (fun (_ : β) W => KpT n w₀ W) := fun s A C row h hg hq =>
  ⟨ownFrom_below (β := β) hn' hn s A C row h.low hg hq, fun k cs t f hk ht => own_row (β := β) B k cs t f s A C row (h.same k cs t f hk ht) hg hq⟩
theorem rows_bd (s : Src) (z : List Int) : ∀ x ∈ rowsL s z, 0 ≤ x.first ∧ x.first ≤ 1036 := by
  intro x hx
  unfold rowsL at hx
  rcases List.mem_append.1 hx with h | h
  · simp at h; subst h; show (0 : Int) ≤ 0 ∧ (0 : Int) ≤ 1036; decide
  · rcases List.mem_append.1 h with h | h
    · split at h
      · simp at h
      · simp at h; subst h; show (0 : Int) ≤ 12 ∧ (12 : Int) ≤ 1036; decide
    · unfold farL at h
      split at h
      · simp at h
      · split at h
        · obtain ⟨y, hy, rfl⟩ := List.mem_map.1 h
          obtain ⟨k, hk⟩ := List.getElem?_of_mem hy
          have := there_lt hk
          rw [tabS_len] at this
          show (0 : Int) ≤ 44 + (y.1 : Int) * 32 ∧ 44 + (y.1 : Int) * 32 ≤ 1036
          omega
        · simp at h; subst h; show (0 : Int) ≤ 0 ∧ (0 : Int) ≤ 1036; decide
theorem szRow : (Try.prog.info? 85).map (·.size) = some 2 := by kernel_rfl

set_option maxRecDepth 100000 in
set_option maxHeartbeats 4000000 in
theorem spots_iter (w0 : World) (bR bX pm : Nat) (s : Src) (z : List Int) (hz : z.length = 18) (hr : Rd w0 pm s) :
    Iter Try.prog 20 #[.pointer (some ⟨bR, 0, none⟩), .pointer (some ⟨bX, 0, none⟩)] EncS (KpT w0.heap.size) (spotsOf (rowsL s z)) (RowsAt w0 bR bX pm z) := by
  intro n l J Jx W hS hl hJ hJx hY h0
  have hw0 := hS.low.size
  obtain ⟨rs, hrs⟩ : ∃ y, y = rowsL s z := ⟨_, rfl⟩
  rw [← hrs] at hY ⊢
  refine callsIn_of_wp_marks Try.func20 rfl trivial ?_ rfl
  simp only [Try.ntmps20, List.size_toArray, List.length_cons, List.length_nil, Nat.reduceAdd, Nat.reduceSub, Array.replicate_succ, Array.replicate_zero, List.push_toArray, List.append_toArray, List.nil_append, List.cons_append]
  obtain ⟨V, hV⟩ : ∃ y, y = ((W.alloc (.cells #[.func (.yield l) #[] #[]] 80)).alloc (.cells #[rdV pm] 54)).alloc (.cells (NA z) 24) := ⟨_, rfl⟩
  have VB : Below W.heap.size W V := by rw [hV]; exact (((Below.refl _ W).alloc (Nat.le_refl _) _).alloc (by simp) _).alloc (by simp; omega) _
  have z1 : (W.alloc (.cells #[.func (.yield l) #[] #[]] 80)).heap.size = W.heap.size + 1 := by simp
  have VR : RowsAt w0 (W.heap.size + 1) (W.heap.size + 2) pm z V := by
    refine ⟨hS.low.trans (VB.mono hw0), ?_, ?_⟩
    · rw [hV, ← z1]; exact heap_alloc2_old _ _ _
    · rw [hV, show W.heap.size + 2 = (W.alloc (.cells #[.func (.yield l) #[] #[]] 80)).heap.size + 1 by omega]; exact heap_alloc2_new _ _ _
  have VY : V.heap[W.heap.size]? = some (.cells #[.func (.yield l) #[] #[]] 80 (0, 0)) := by
    rw [hV, Below.heap_alloc _ _ _ (by simp; omega), Below.heap_alloc _ _ _ (by simp)]
    exact heap_alloc_new _ _
  have VJ : J 0 V := own_bel hJ (Nat.le_refl _) h0 VB
  have cR := hS.cell
  have cR1 : (W.alloc (.cells #[.func (.yield l) #[] #[]] 80)).cell? ⟨bR, 0, none⟩ = some (rdV pm) := by rw [((Below.refl _ W).alloc (Nat.le_refl _) (.cells #[.func (.yield l) #[] #[]] 80)).cell (p := ⟨bR, 0, none⟩) (slt hS.rd)]; exact cR
  have gX : (W.alloc (.cells #[.func (.yield l) #[] #[]] 80)).heap[bX]? = some (.cells (NA z) 24 (0, 0)) := by rw [Below.heap_alloc _ _ _ (slt hS.ino)]; exact hS.ino
  gi_wp2_with (first
    | (refine li_load (fun _ => trivial) rfl 24 (.tmp 2) rfl bX rfl 24 (NA z) _ gX Try.underlying24 rfl (by rw [szI, NA_size, hz]) ?_)
    | (refine ⟨trivial, wdep, (callsIn_wide.2 (rows_any pm z _)).mono ?_⟩; rintro e w2 ⟨rfl, rfl⟩))
  rw [← hV]
  clear hV cR cR1 gX z1
  have hVW := VB.size
  have hw0V : w0.heap.size ≤ V.heap.size := Nat.le_trans hw0 hVW
  refine range_noneA (gf := 27) (lb := #[.pointer (some ⟨W.heap.size + 1, 0, none⟩), .pointer (some ⟨W.heap.size + 1 + 1, 0, none⟩)]) rfl (enters_of Try.func27 (by kernel_rfl) rfl) (hrs ▸ rows_iter w0 (W.heap.size + 1) (W.heap.size + 1 + 1) pm s z hz hr)
    (fun o o' => VR.kept (KpT.below (((Below.refl _ _).alloc (Nat.le_refl _) _).alloc (by simp) _) hw0V)) (fun x gs W h => enc_size h) (fun h k => h.trans k) (fun W' l' o o' hl' ho hc => KpT.putObj (Nat.le_trans hw0V hl') ho hc)
    (fun k W' => okTo rs k ∧ J (cntS rs k) W' ∧ W'.heap[W.heap.size]? = some (.cells #[.func (.yield l) #[] #[]] 80 (0, 0)) ∧ W.heap.size ≤ W'.heap.size)
    (fun c W' => c = .ret ∧ (J (spotsOf rs).length W' ∨ Jx W')) ?hI ?hIx ⟨fun j x hj => by omega, by have : cntS rs 0 = 0 := (by cases rs <;> rfl); rw [this]; exact VJ, VY, hVW⟩
    (fun a x (b : Nat × Value) => { tmps := (((a.tmps.setIfInBounds 11 (.agg #[.int .i64 x.first, b.2])).setIfInBounds 12 (.int .i64 x.err)).setIfInBounds 4 (.pointer (some ⟨b.1, 0, none⟩))).setIfInBounds 5 (.int .i64 x.err), defers := [] })
    (fun k x b W' => okTo rs k ∧ J (cntS rs k) W' ∧ W'.heap[W.heap.size]? = some (.cells #[.func (.yield l) #[] #[]] 80 (0, 0)) ∧ W.heap.size ≤ W'.heap.size ∧ W'.heap[b.1]? = some (.cells #[.int .i64 x.first, b.2] 85 (0, 0)) ∧ RowIn x b.2 W') (fun k x b => ?hE) ?assign ?body ?done ?stop
  case hI =>
    intro k A B row h hg hq
    exact ⟨h.1, hJ _ A B row h.2.1 hg (fun r e => ⟨Nat.le_trans hVW (hq r e).1, (hq r e).2⟩), own_row (β := Unit) _ _ _ _ _ () A B row h.2.2.1 hg hq, Nat.le_trans h.2.2.2 hg.size⟩
  case hE =>
    intro _ A B row h hg hq
    exact ⟨h.1, hJ _ A B row h.2.1 hg (fun r e => ⟨Nat.le_trans hVW (hq r e).1, (hq r e).2⟩), own_row (β := Unit) _ _ _ _ _ () A B row h.2.2.1 hg hq, Nat.le_trans h.2.2.2.1 hg.size, own_row (β := Unit) _ _ _ _ _ () A B row h.2.2.2.2.1 hg hq, rowIn_own (β := Unit) _ _ _ () A B row h.2.2.2.2.2 hg hq⟩
  case hIx =>
    intro c _ A B row h hg hq
    have far := fun r e => (⟨Nat.le_trans hVW (hq r e).1, (hq r e).2⟩ : W.heap.size ≤ r ∧ ∃ o : Obj, A.heap[r]? = some o ∧ o.isCells = false)
    exact ⟨h.1, h.2.imp (fun j => hJ _ A B row j hg far) (fun j => hJx () A B row j hg far)⟩
  case assign =>
    rintro l' k x gs W' m hx he ⟨i1, i2, i3, i4⟩
    obtain ⟨sl, rfl, hsl, hone⟩ := enc_parts he
    have hzr : ∀ w, (zeroValue 85).run Try.prog w = .ok (.agg #[.int .i64 0, .slice none 0 0]) w := fun w => by kernel_rfl
    rw [fold2]
    simp only [List.setIfInBounds_toArray, List.set_cons_zero, List.set_cons_succ]
    have H1 := hid i1
    have H2 := hid i2
    have H3 := hid i3
    have H4 := hid i4
    have HS := hid hsl
    clear i1 i2 i3 i4 hsl he
    gi_wp2_with (refine li_store (fun _ => trivial) rfl 85 (.tmp 4) (.tmp 11) rfl W'.heap.size #[.int .i64 x.first, sl] rfl rfl 85 #[.int .i64 0, .slice none 0 0] (heap_alloc_new _ _) (by rw [szRow]; rfl) rfl (Array.all_eq_true_iff_forall_mem.2 (fun v hv => by simp at hv; rcases hv with rfl | rfl <;> first | rfl | exact hone)) ?_; intro w5 p5)
    have hb5 : Below W'.heap.size W' w5 := p5.below ((Below.refl _ _).alloc (Nat.le_refl _) _) (Nat.le_refl _)
    exact ⟨keeps_below hb5, KpT.below hb5 (Nat.le_trans hw0 H4.out), (W'.heap.size, sl), rfl, H1.out, own_bel hJ H4.out H2.out hb5, by rw [hb5.block _ (slt H3.out)]; exact H3.out, Nat.le_trans H4.out hb5.size, p5.here, HS.out.below hb5⟩
  case body =>
    rintro l' k x ⟨b, sl⟩ W' m hl' hx ⟨r', hr'⟩ ⟨i1, i2, i3, i4, i5, i6⟩
    have hbd := rows_bd s z x (by rw [← hrs]; exact List.mem_of_getElem? hx)
    simp only [List.setIfInBounds_toArray, List.set_cons_zero, List.set_cons_succ] at i5 i6 ⊢
    have cY : W'.cell? ⟨W.heap.size, 0, none⟩ = some (.func (.yield l) #[] #[]) := by rw [cell_of_row _ _ _ _ _ _ i3]; rfl
    have hlV : l + 1 ≤ V.heap.size := Nat.le_trans hl hVW
    by_cases he : x.err = 0
    · rcases i6 with ⟨b', o, c, cs, t, hsl, q2, q3, q4, q5⟩ | ⟨h, _⟩
      · subst hsl
        have cB1 : W'.cell? ⟨b, 1, none⟩ = some (.slice (some ⟨b', o, none⟩) x.ps.length c) := by rw [cell_of_row _ _ _ _ _ _ i5]; rfl
        obtain ⟨U, hU⟩ : ∃ y, y = W'.alloc (.cells #[.slice (some ⟨b', o, none⟩) x.ps.length c] 39) := ⟨_, rfl⟩
        have hU1 : Below W'.heap.size W' U := by rw [hU]; exact (Below.refl _ _).alloc (Nat.le_refl _) _
        have UX : U.heap[W'.heap.size]? = some (.cells #[.slice (some ⟨b', o, none⟩) x.ps.length c] 39 (0, 0)) := by rw [hU]; exact heap_alloc_new _ _
        have Hi5 := hid i5
        have Hq2 := hid q2
        have hUW : W'.heap.size ≤ U.heap.size := hU1.size
        have hVW' : V.heap.size ≤ W'.heap.size := Nat.le_trans hl' (Nat.le_of_lt (slt hr'))
        rw [he] at ⊢
        gi_wp2_with (refine ⟨trivial, wdep, (CallsIn.inRound l' (callsIn_wide.2 (there_any _ _ _ _))).mono ?_⟩; rintro e w9 ⟨rfl, rfl⟩)
        rw [← hU]
        refine range_someA (l₀ := l') (r₀ := r') (by rw [hU1.block _ (slt hr')]; exact hr') (gf := 24) (lb := #[.pointer (some ⟨W'.heap.size, 0, none⟩)]) rfl (enters_of Try.func24 (by kernel_rfl) rfl) (there_iter W'.heap.size b' o c x.ps q5)
          (fun o2 => ?start) (fun x gs W h => by rw [h]; rfl) (fun h k => k.trans h) (fun W2 l2 o1 o2 hl2 ho hc => World.putObj_heap_other (fun e => by rw [← e] at hl2; have := slt q2; omega))
          (fun i W2 => J (cntS rs k + i) W2 ∧ W2.heap[W.heap.size]? = some (.cells #[.func (.yield l) #[] #[]] 80 (0, 0)) ∧ W2.heap[b]? = some (.cells #[.int .i64 x.first, .slice (some ⟨b', o, none⟩) x.ps.length c] 85 (0, 0)) ∧ W2.heap[b']? = some (.cells cs t (0, 0)) ∧ KeepsFrom V.heap.size W' W2 ∧ KpT w0.heap.size W' W2 ∧ W.heap.size ≤ W2.heap.size)
          (fun c W2 => c = .ret ∧ Jx W2 ∧ KeepsFrom V.heap.size W' W2) ?hI2 ?hIx2 ⟨own_bel hJ i4 i2 hU1, by rw [hU1.block _ (slt i3)]; exact i3, by rw [hU1.block _ (slt Hi5.out)]; exact Hi5.out, by rw [hU1.block _ (slt Hq2.out)]; exact Hq2.out, keeps_below hU1, KpT.below hU1 (Nat.le_trans hw0 i4), Nat.le_trans i4 hUW⟩
          (fun a y (_ : Nat) => { tmps := (((a.tmps.setIfInBounds 22 (.int .i64 (y.1 : Int))).setIfInBounds 23 (.int .i64 y.2)).setIfInBounds 6 (.int .i64 (y.1 : Int))).setIfInBounds 7 (.int .i64 y.2), defers := [] })
          (fun i y _ W2 => J (cntS rs k + i) W2 ∧ W2.heap[W.heap.size]? = some (.cells #[.func (.yield l) #[] #[]] 80 (0, 0)) ∧ W2.heap[b]? = some (.cells #[.int .i64 x.first, .slice (some ⟨b', o, none⟩) x.ps.length c] 85 (0, 0)) ∧ W2.heap[b']? = some (.cells cs t (0, 0)) ∧ KeepsFrom V.heap.size W' W2 ∧ KpT w0.heap.size W' W2 ∧ W.heap.size ≤ W2.heap.size) (fun i y b2 => ?hE2) ?assign2 ?body2 ?done2 ?stop2
        case start =>
          have hb2 : Below U.heap.size U (U.alloc o2) := (Below.refl _ _).alloc (Nat.le_refl _) _
          refine ⟨?_, fun j y hj => ?_⟩
          · rw [hb2.cell (p := ⟨W'.heap.size, 0, none⟩) (slt UX), cell_of_row _ _ _ _ _ _ UX]; rfl
          · rw [hb2.cell (p := ⟨b', o + j, none⟩) (Nat.lt_of_lt_of_le (slt Hq2.out) hUW), hU1.cell (p := ⟨b', o + j, none⟩) (slt Hq2.out)]
            exact q4 j y hj
        case hI2 =>
          intro i A B row h hg hq
          exact ⟨hJ _ A B row h.1 hg (fun r e => ⟨Nat.le_trans (Nat.le_trans i4 hUW) (hq r e).1, (hq r e).2⟩), own_row (β := Unit) _ _ _ _ _ () A B row h.2.1 hg hq, own_row (β := Unit) _ _ _ _ _ () A B row h.2.2.1 hg hq, own_row (β := Unit) _ _ _ _ _ () A B row h.2.2.2.1 hg hq, ownFrom_keepsFrom (β := Unit) hUW () A B row h.2.2.2.2.1 hg hq, kpt_own (β := Unit) (Nat.le_trans hw0 (Nat.le_trans i4 hUW)) (Nat.le_trans hw0 i4) () A B row h.2.2.2.2.2.1 hg hq, Nat.le_trans h.2.2.2.2.2.2 hg.size⟩
        case hE2 =>
          intro _ A B row h hg hq
          exact ⟨hJ _ A B row h.1 hg (fun r e => ⟨Nat.le_trans (Nat.le_trans i4 hUW) (hq r e).1, (hq r e).2⟩), own_row (β := Unit) _ _ _ _ _ () A B row h.2.1 hg hq, own_row (β := Unit) _ _ _ _ _ () A B row h.2.2.1 hg hq, own_row (β := Unit) _ _ _ _ _ () A B row h.2.2.2.1 hg hq, ownFrom_keepsFrom (β := Unit) hUW () A B row h.2.2.2.2.1 hg hq, kpt_own (β := Unit) (Nat.le_trans hw0 (Nat.le_trans i4 hUW)) (Nat.le_trans hw0 i4) () A B row h.2.2.2.2.2.1 hg hq, Nat.le_trans h.2.2.2.2.2.2 hg.size⟩
        case hIx2 =>
          intro c _ A B row h hg hq
          exact ⟨h.1, hJx () A B row h.2.1 hg (fun r e => ⟨Nat.le_trans (Nat.le_trans i4 hUW) (hq r e).1, (hq r e).2⟩), ownFrom_keepsFrom (β := Unit) hUW () A B row h.2.2 hg hq⟩
        case assign2 =>
          rintro l2 i y gs W2 m2 hy rfl hi
          have HI := hid hi
          unfold encT
          rw [fold2]
          simp only [List.setIfInBounds_toArray, List.set_cons_zero, List.set_cons_succ]
          gi_wp2
          exact ⟨KeepsFrom.refl _ _, trivial, 0, trivial, HI.out⟩
        case body2 =>
          rintro l2 i y b2 W2 m2 hl2 hy ⟨r2, hr2⟩ ⟨p1, p2, p3, p4, p5, p6, p7⟩
          have hy2 := there_lt hy
          obtain ⟨ya, yn⟩ := y
          have cY2 : W2.cell? ⟨W.heap.size, 0, none⟩ = some (.func (.yield l) #[] #[]) := by rw [cell_of_row _ _ _ _ _ _ p2]; rfl
          have cB2 : W2.cell? ⟨b, 0, none⟩ = some (.int .i64 x.first) := by rw [cell_of_row _ _ _ _ _ _ p3]; rfl
          obtain ⟨fn9, tm9, as9, bo9, hy9, hR9⟩ := hY (cntS rs k + i) ⟨x.first + (ya : Int), yn, 0⟩ #[.agg #[.int .i64 (x.first + (ya : Int)), .int .i64 yn], .int .i64 0] W2 (m2 - 1) (spots_get rs k i x _ hx i1 he (spotRow_get hy)) rfl p1
          have HR9 := hid hR9
          have hya : (ya : Int) < 1000 := by simp only at hy2; omega
          have hlU : l + 1 ≤ U.heap.size := Nat.le_trans hlV (Nat.le_trans hVW' hUW)
          have P2 := hid p2
          have P3 := hid p3
          have P4 := hid p4
          have P5 := hid p5
          have P6 := hid p6
          have P7 := hid p7
          simp only [List.setIfInBounds_toArray, List.set_cons_zero, List.set_cons_succ]
          clear hR9 p1 p2 p3 p4 p5 p6 p7
          gi_wp2
          refine ⟨wdep, RoundIn.mono (F := WF.inRound l2) HR9.out ?_⟩
          rintro e W3 ⟨qk, ⟨rfl, q1, qK⟩ | ⟨rfl, q1⟩⟩
          · have KV := P5.out.trans (keeps_of (Below.refl _ _) qk hlV)
            have s3 := qK.low.size
            gi_wp2
            exact ⟨keeps_of (Below.refl _ _) qk hlU, none, rfl, (show W3.heap[b']? = W2.heap[b']? by rw [qK.same _ _ _ _ P4.out q3, P4.out]), q1, qK.same _ _ _ _ P2.out fast_f.2.2.2.2.2.2.2, qK.same _ _ _ _ P3.out fast_f.2.2.2.2.2.2.1, qK.same _ _ _ _ P4.out q3, KV, P6.out.trans qK, Nat.le_trans P7.out s3⟩
          · have KV := P5.out.trans (keeps_of (Below.refl _ _) qk hlV)
            gi_wp2
            exact ⟨keeps_of (Below.refl _ _) qk hlU, some .ret, rfl, rfl, q1, KV⟩
        case done2 =>
          rintro W2 ⟨p1, p2, p3, p4, p5, p6, p7⟩
          have hc2 : cntS rs k + (thereL x.ps).length = cntS rs (k + 1) := by rw [cnt_succ rs k x hx]; simp [spotRow]
          rw [hc2] at p1
          gi_wp2
          exact ⟨p5, none, rfl, p6, i1.one hx he, p1, p2, p7⟩
        case stop2 =>
          rintro c2 W2 ⟨rfl, p1, p2⟩
          gi_wp2
          exact ⟨p2, some .ret, rfl, rfl, .inr p1⟩
      · exact absurd he h
    · have hbs : ∀ w, (Instr.build 47 #[]).run Try.prog w = .ok (.agg #[.int .i64 0, .int .i64 0]) w := fun w => by kernel_rfl
      have hse := spots_err rs k x hx i1 he
      obtain ⟨fn8, tm8, as8, bo8, hy8, hR8⟩ := hY (cntS rs k) _ #[.agg #[.int .i64 0, .int .i64 0], .int .i64 x.err] W' (m - 1) hse.1 rfl i2
      have HR8 := hid hR8
      have HE := hid hse.2
      clear hR8 hse i5 i6 i2 i3
      gi_wp2
      refine ⟨wdep, RoundIn.mono (F := WF.inRound l') HR8.out ?_⟩
      rintro e W2 ⟨qk, ⟨rfl, q1, _⟩ | ⟨rfl, q1⟩⟩
      · gi_wp2
        exact ⟨keeps_of (Below.refl _ _) qk hlV, some .ret, rfl, rfl, .inl (by rw [HE.out]; exact q1)⟩
      · gi_wp2
        exact ⟨keeps_of (Below.refl _ _) qk hlV, some .ret, rfl, rfl, .inr q1⟩
  case done =>
    rintro D W' hD ⟨i1, i2, _⟩ hK
    gi_wp2
    refine ⟨by simp, .inl ⟨_, _, rfl, run_takeDeferred hK, ?_⟩⟩
    exact ⟨_, results_none Try.results20 _ _ _, ⟨_, rfl⟩, .inl (by rw [spots_all rs i1]; exact hJ.putObj _ i2 (Nat.le_trans hVW hD) hK rfl)⟩
  case stop =>
    rintro D c W' hD ⟨rfl, i1⟩ hK
    gi_wp2
    refine ⟨by simp, .inl ⟨_, _, rfl, run_takeDeferred hK, ?_⟩⟩
    exact ⟨_, results_none Try.results20 _ _ _, ⟨_, rfl⟩, i1.imp (fun j => hJ.putObj _ j (Nat.le_trans hVW hD) hK rfl) (fun j => hJx.putObj (s := ()) _ j (Nat.le_trans hVW hD) hK rfl)⟩

end Go.Proofs.Ytjlhmojofjkkdab
