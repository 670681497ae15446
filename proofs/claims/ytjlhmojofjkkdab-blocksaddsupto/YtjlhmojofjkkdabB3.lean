/-
  The iterator over all rows of an inode.
-/
import Derived.Test.YtjlhmojofjkkdabB2
import Derived.Laws.EntriesVeiled
namespace Go.Proofs.Ytjlhmojofjkkdab
open Go.RowKit Go.Shelf

attribute [local go_sem] Oper.semAt_some

def rowT (s : Src) (fi n : Int) : Row := ⟨fi, (tabS s n).1, (tabS s n).2⟩
def farL (s : Src) (n : Int) : List Row :=
  if n = 0 then [] else if (tabS s n).2 = 0 then (thereL (tabS s n).1).map (fun x => rowT s (44 + (x.1 : Int) * 32) x.2) else [⟨0, [], (tabS s n).2⟩]
def rowsL (s : Src) (z : List Int) : List Row :=
  [⟨0, (z.drop 4).take 12, 0⟩] ++ ((if z.getD 16 0 = 0 then [] else [rowT s 12 (z.getD 16 0)]) ++ farL s (z.getD 17 0))

/-- Where the iterator over rows may be called. -/
structure RowsAt (w0 : World) (bR bX pm : Nat) (z : List Int) (W : World) : Prop where
  low : Below w0.heap.size w0 W
  rd : W.heap[bR]? = some (.cells #[rdV pm] 54 (0, 0))
  ino : W.heap[bX]? = some (.cells (NA z) 24 (0, 0))
theorem RowsAt.kept {w0 : World} {bR bX pm : Nat} {z : List Int} {W W' : World} (h : RowsAt w0 bR bX pm z W) (hk : KpT w0.heap.size W W') : RowsAt w0 bR bX pm z W' :=
  ⟨h.low.trans hk.low, hk.same _ _ _ _ h.rd fast_f.2.2.2.2.1, hk.same _ _ _ _ h.ino fast_f.2.2.2.1⟩
theorem RowsAt.cell {w0 : World} {bR bX pm : Nat} {z : List Int} {W : World} (h : RowsAt w0 bR bX pm z W) : W.cell? ⟨bR, 0, none⟩ = some (rdV pm) := by rw [cell_of_row _ _ _ _ _ _ h.rd]; rfl

theorem own_mono {β : Type} {B B' : Nat} {I : β → World → Prop} (h : OwnFrom B I) (hB : B ≤ B') : OwnFrom B' I := fun s A C row hs hg hr => h s A C row hs hg (fun r e => ⟨Nat.le_trans hB (hr r e).1, (hr r e).2⟩)
/-- What is said of an older world holds where all older blocks are as they were. -/
theorem own_bel {β : Type} {B : Nat} {I : β → World → Prop} (h : OwnFrom B I) {k : β} {A C : World} (_ : B ≤ A.heap.size) (hk : I k A) (hb : Below A.heap.size A C) : I k C :=
  h k A C none hk ⟨hb.os, hb.tape, hb.output, hb.size, fun i hi _ => hb.block i hi⟩ (fun r e => by cases e)
theorem own_row {β : Type} (B b : Nat) (c : Array Value) (t : TypeId) (f : Nat × Nat) : OwnFrom B (fun (_ : β) W => W.heap[b]? = some (.cells c t f)) := fun _ A C row hs hg hr => by
  show C.heap[b]? = _
  rw [hg.block b (slt hs) (fun e => by obtain ⟨_, o, ho, hc⟩ := hr b e.symm; rw [hs] at ho; cases ho; cases hc)]
  exact hs
theorem rowsAt_own {β : Type} {B : Nat} {w0 : World} {bR bX pm : Nat} {z : List Int} (hB : w0.heap.size ≤ B) : OwnFrom B (fun (_ : β) W => RowsAt w0 bR bX pm z W) := fun s A C row hs hg hr =>
  ⟨ownFrom_below (Nat.le_refl _) hB s A C row hs.low hg hr, own_row B bR _ _ _ s A C row hs.rd hg hr, own_row B bX _ _ _ s A C row hs.ino hg hr⟩
theorem there_any (a : Option Addr) (k c : Nat) (w : World) : Calls Try.prog 16 #[.slice a k c] w fun e w' => e = .returned (.func (.func 24) #[] #[.pointer (some ⟨w.heap.size, 0, none⟩)]) ∧ w' = w.alloc (.cells #[.slice a k c] 39) := by
  have hmf : ∀ (fn : Fn) (first cap : Array Value) (w : World), (Instr.makeFunc fn first cap).run Try.prog w = .ok (.func fn first cap) w := fun _ _ _ _ => rfl
  go_enter Try.func16, Try.ntmps16
  go_wp2
  go_ret
  exact ⟨rfl, rfl⟩
def k0 (S : Int) : Nat := if S = 0 then 1 else 2
theorem rows_far (s : Src) (z : List Int) (i : Nat) : (rowsL s z)[k0 (z.getD 16 0) + i]? = (farL s (z.getD 17 0))[i]? := by
  unfold rowsL k0
  split
  · rw [Nat.add_comm]; simp
  · rw [Nat.add_comm]; simp
theorem rows_len (s : Src) (z : List Int) : (rowsL s z).length = k0 (z.getD 16 0) + (farL s (z.getD 17 0)).length := by
  unfold rowsL k0
  split <;> simp <;> omega
theorem far_err {s : Src} {n : Int} (h : ¬ n = 0) (he : ¬ (tabS s n).2 = 0) : (farL s n)[0]? = some ⟨0, [], (tabS s n).2⟩ := by
  unfold farL
  rw [if_neg h, if_neg he]
  rfl
theorem far_elen {s : Src} {n : Int} (h : ¬ n = 0) (he : ¬ (tabS s n).2 = 0) : (farL s n).length = 1 := by
  unfold farL
  rw [if_neg h, if_neg he]
  rfl
theorem far_len {s : Src} {n : Int} (h : ¬ n = 0) (he : (tabS s n).2 = 0) : (farL s n).length = (thereL (tabS s n).1).length := by
  unfold farL
  rw [if_neg h, if_pos he, List.length_map]
theorem far_get {s : Src} {n : Int} (h : ¬ n = 0) (he : (tabS s n).2 = 0) {k : Nat} {x : Nat × Int} (hx : (thereL (tabS s n).1)[k]? = some x) : (farL s n)[k]? = some (rowT s (44 + (x.1 : Int) * 32) x.2) := by
  unfold farL
  rw [if_neg h, if_pos he, List.getElem?_map, hx]
  rfl
theorem there_lt {ns : List Int} {k : Nat} {x : Nat × Int} (h : (thereL ns)[k]? = some x) : x.1 < ns.length := by
  have hm := List.mem_of_getElem? h
  unfold thereL plc at hm
  obtain ⟨j, hj, rfl⟩ := List.mem_map.1 hm
  have := (List.mem_filter.1 hj).1
  simpa using this
theorem keeps_of {B l : Nat} {A C D : World} (hb : Below A.heap.size A C) (hk : KeepsFrom (l + 1) C D) (hB : l + 1 ≤ B) : KeepsFrom B A D :=
  ⟨Nat.le_trans hb.size hk.size, fun k o hk1 ho hc => hk.same k o (by omega) (by rw [hb.block k (Array.getElem?_eq_some_iff.1 ho).1]; exact ho) hc⟩
theorem rows_0 (s : Src) (z : List Int) : (rowsL s z)[0]? = some ⟨0, (z.drop 4).take 12, 0⟩ := rfl
theorem rows_1 {s : Src} {z : List Int} (h : z.getD 16 0 ≠ 0) : (rowsL s z)[1]? = some (rowT s 12 (z.getD 16 0)) := by
  unfold rowsL
  rw [if_neg h]
  rfl
theorem enc_direct {W : World} {bX : Nat} {z : List Int} (h : W.heap[bX]? = some (.cells (NA z) 24 (0, 0))) (hz : z.length = 18) : EncR ⟨0, (z.drop 4).take 12, 0⟩ #[.agg #[.int .i64 0, .slice (some ⟨bX, 4, none⟩) 12 12], .int .i64 0] W := by
  have hl : ((z.drop 4).take 12).length = 12 := by rw [List.length_take, List.length_drop, hz]; rfl
  refine .inl ⟨bX, 4, 12, _, _, by rw [hl], h, fast_f.2.2.2.1, fun j x hj => ?_, by show ((z.drop 4).take 12).length ≤ 1000; rw [hl]; decide⟩
  have hj2 : j < 12 := by have := (List.getElem?_eq_some_iff.1 hj).1; rw [hl] at this; exact this
  rw [row_cell h (4 + j) (by omega)]
  rw [List.getElem?_take, if_pos hj2, List.getElem?_drop] at hj
  simp [hj]

set_option maxRecDepth 100000 in
set_option maxHeartbeats 4000000 in
theorem rows_iter (w0 : World) (bR bX pm : Nat) (s : Src) (z : List Int) (hz : z.length = 18) (hr : Rd w0 pm s) :
    Iter Try.prog 27 #[.pointer (some ⟨bR, 0, none⟩), .pointer (some ⟨bX, 0, none⟩)] EncR (KpT w0.heap.size) (rowsL s z) (RowsAt w0 bR bX pm z) := by
  intro n l J Jx W hS hl hJ hJx hY h0
  have hmf : ∀ (fn : Fn) (first cap : Array Value) (w : World), (Instr.makeFunc fn first cap).run Try.prog w = .ok (.func fn first cap) w := fun _ _ _ _ => rfl
  have hw0 := hS.low.size
  refine callsIn_of_wp_marks Try.func27 rfl trivial ?_ rfl
  simp only [Try.ntmps27, List.size_toArray, List.length_cons, List.length_nil, Nat.reduceAdd, Nat.reduceSub, Array.replicate_succ, Array.replicate_zero, List.push_toArray, List.append_toArray, List.nil_append, List.cons_append]
  obtain ⟨vC, hvC⟩ : ∃ y, y = Value.func (Fn.func 28) #[] #[.pointer (some ⟨bR, 0, none⟩), .pointer (some ⟨W.heap.size, 0, none⟩)] := ⟨_, rfl⟩
  gi_wp2
  rw [← hvC]
  obtain ⟨X, hX⟩ : ∃ y, y = ((W.alloc (.cells #[.func (.yield l) #[] #[]] 91)).alloc (.cells #[vC] 88)).drew := ⟨_, rfl⟩
  have XY : X.heap[W.heap.size]? = some (.cells #[.func (.yield l) #[] #[]] 91 (0, 0)) := by
    rw [hX]
    exact heap_alloc2_old W _ _
  have XC : X.heap[W.heap.size + 1]? = some (.cells #[vC] 88 (0, 0)) := by
    rw [hX]
    exact heap_alloc2_new W _ _
  have XB : Below W.heap.size W X := by rw [hX]; exact below_drew (((Below.refl _ W).alloc (Nat.le_refl _) _).alloc (by simp) _)
  refine openI (by kernel_rfl) ?_
  rw [← hX]
  clear hX
  have XR : RowsAt w0 bR bX pm z X := hS.kept (KpT.below XB hw0)
  refine takeI 1 11 (.pointer (some ⟨bX, 4, none⟩)) rfl (by kernel_rfl) (by kernel_rfl) (by kernel_rfl) rfl (by rfl) noP (fun _ => by go_simp) (fun _ => by rfl) ?_
  simp only [List.setIfInBounds_toArray, List.set_cons_zero, List.set_cons_succ]
  refine takeI 2 12 (.slice (some ⟨bX, 4, none⟩) 12 12) rfl (by kernel_rfl) (by kernel_rfl) (by kernel_rfl) rfl (by rfl) noP (fun _ => by go_simp) (fun _ => by rfl) ?_
  simp only [List.setIfInBounds_toArray, List.set_cons_zero, List.set_cons_succ]
  refine takeI 3 13 (.agg #[.int .i64 0, .slice (some ⟨bX, 4, none⟩) 12 12]) rfl (by kernel_rfl) (by kernel_rfl) (by kernel_rfl) rfl (by rfl) noP (fun _ => by go_simp) (fun _ => by rfl) ?_
  simp only [List.setIfInBounds_toArray, List.set_cons_zero, List.set_cons_succ]
  have XYc : X.cell? ⟨W.heap.size, 0, none⟩ = some (.func (.yield l) #[] #[]) := by rw [cell_of_row _ _ _ _ _ _ XY]; rfl
  refine oneI 0 10 (.func (.yield l) #[] #[]) (by kernel_rfl) rfl rfl (by intro c h; cases h) (by rfl) (by go_simp) ?_
  simp only [List.setIfInBounds_toArray, List.set_cons_zero, List.set_cons_succ]
  refine roundI 4 14 l #[.agg #[.int .i64 0, .slice (some ⟨bX, 4, none⟩) 12 12], .int .i64 0] (by kernel_rfl) rfl rfl (by intro c h; cases h) (by rfl) (by go_simp) (fun m => hY 0 _ _ X m (rows_0 s z) (enc_direct XR.ino hz) (own_bel hJ (Nat.le_refl _) h0 XB)) ?_
  rintro e W5 ⟨_, h5⟩
  have h6 : ∃ b, e = .returned (.bool b) ∧ ((b = true ∧ J 1 W5 ∧ KpT w0.heap.size X W5) ∨ (b = false ∧ Jx W5)) := by
    rcases h5 with ⟨rfl, h1, h2⟩ | ⟨rfl, h1⟩
    · exact ⟨true, rfl, .inl ⟨rfl, h1, h2⟩⟩
    · exact ⟨false, rfl, .inr ⟨rfl, h1⟩⟩
  obtain ⟨b, rfl, h7⟩ := h6
  clear h5
  refine ⟨_, rfl, ?_⟩
  simp only [List.setIfInBounds_toArray, List.set_cons_zero, List.set_cons_succ]
  refine takeI 5 15 (.bool (!b)) rfl (by kernel_rfl) (by kernel_rfl) (by kernel_rfl) rfl (by rfl) noP (fun _ => by go_simp) (fun _ => by rfl) ?_
  simp only [List.setIfInBounds_toArray, List.set_cons_zero, List.set_cons_succ]
  refine wpAnyIn_done (by kernel_rfl) ⟨rfl, ?_⟩ _
  rcases h7 with ⟨rfl, J5, K5⟩ | ⟨rfl, Jx5⟩
  · have R5 := XR.kept K5
    have Y5 := K5.same _ _ _ _ XY fast_f.1
    have C5 := K5.same _ _ _ _ XC fast_f.2.1
    have s5 := K5.low.size
    have HJ5 := hid J5
    have HR5 := hid R5
    have HY5 := hid Y5
    have HC5 := hid C5
    have z5 : W5.cell? ⟨bX, 16, none⟩ = some (.int .i64 (z.getD 16 0)) := row_cell R5.ino 16 (by omega)
    have z6 : W5.cell? ⟨bX, 17, none⟩ = some (.int .i64 (z.getD 17 0)) := row_cell R5.ino 17 (by omega)
    have v5 : W5.cell? ⟨W.heap.size + 1, 0, none⟩ = some vC := by rw [cell_of_row _ _ _ _ _ _ C5]; rfl
    clear J5 R5 Y5 C5 XR XY XC XYc h0
    obtain ⟨S1, hS1⟩ : ∃ y, y = z.getD 16 0 := ⟨_, rfl⟩
    obtain ⟨D1, hD1⟩ : ∃ y, y = z.getD 17 0 := ⟨_, rfl⟩
    rw [← hS1] at z5
    rw [← hD1] at z6
    have HS1 := hid hS1
    have HD1 := hid hD1
    clear hS1 hD1
    have sX := XB.size
    have HSh : Hid (W.heap.size ≤ W5.heap.size) := hid (by omega)
    have r5 := HR5.out.cell
    have c3 : W5.cell? ⟨W.heap.size, 0, none⟩ = some (.func (.yield l) #[] #[]) := by rw [cell_of_row _ _ _ _ _ _ HY5.out]; rfl
    simp only [Bool.not_true]
    rw [hvC] at HC5 v5 ⊢
    have HFar : Hid (∀ (i : Nat) (x : Row) (gs : Array Value) (W1 : World) (m : Nat), (farL s D1)[i]? = some x → EncR x gs W1 → J (k0 S1 + i) W1 → YieldAt WF m Try.prog l gs W1 fun e W' => KeepsFrom (l + 1) W1 W' ∧ ((e = .returned (.bool true) ∧ J (k0 S1 + i + 1) W' ∧ KpT w0.heap.size W1 W') ∨ (e = .returned (.bool false) ∧ Jx W'))) := fun i x gs W1 m hx he hj => hY _ x gs W1 m (by rw [HS1.out, rows_far, ← HD1.out]; exact hx) he hj
    have HLen : Hid ((rowsL s z).length = k0 S1 + (farL s D1).length) := by rw [rows_len, ← HS1.out, ← HD1.out]; exact hid rfl
    clear hvC XB K5 s5 sX
    by_cases h17 : D1 = 0
    · subst h17
      by_cases h16 : S1 = 0
      · subst h16
        have HJk : Hid (J (k0 0) W5) := HJ5
        have HSi := HSh
        gi_wp2
        refine ⟨fun _ h => (by cases h), ?_⟩
        gi_wp2
        exact ⟨_, results_none Try.results27 _ _ _, ⟨_, rfl⟩, .inl (by rw [HLen.out]; exact HJ5.out)⟩
      · skip
        have hRd : CallsIn WF (n - 1) Try.prog 28 #[.int .i64 12, .int .i64 S1, .pointer (some ⟨bR, 0, none⟩), .pointer (some ⟨W.heap.size, 0, none⟩)] W5 (fun e W6 => ∃ b, e = .returned (.bool b) ∧ ((b = true ∧ Hid (J (k0 S1) W6) ∧ Hid (RowsAt w0 bR bX pm z W6) ∧ Hid (W6.heap[W.heap.size]? = some (.cells #[.func (.yield l) #[] #[]] 91 (0, 0))) ∧ Hid (W6.heap[W.heap.size + 1]? = some (.cells #[Value.func (Fn.func 28) #[] #[.pointer (some ⟨bR, 0, none⟩), .pointer (some ⟨W.heap.size, 0, none⟩)]] 88 (0, 0))) ∧ Hid (W.heap.size ≤ W6.heap.size) ∧ W6.cell? ⟨bX, 17, none⟩ = some (.int .i64 0) ∧ W6.cell? ⟨bR, 0, none⟩ = some (rdV pm) ∧ W6.cell? ⟨W.heap.size + 1, 0, none⟩ = some (Value.func (Fn.func 28) #[] #[.pointer (some ⟨bR, 0, none⟩), .pointer (some ⟨W.heap.size, 0, none⟩)]) ∧ W6.cell? ⟨W.heap.size, 0, none⟩ = some (.func (.yield l) #[] #[])) ∨ (b = false ∧ Hid (Jx W6)))) :=
          read_in (n - 1) l bR W.heap.size pm s 12 S1 W5 (hr.below HR5.out.low) HR5.out.cell HY5.out (fun gs W' m hb he => by
            refine (hY 1 _ gs W' m (rows_1 (by rw [← HS1.out]; exact h16)) (by rw [← HS1.out]; exact he) (own_bel hJ HSh.out HJ5.out hb)).mono ?_
            rintro e W6 ⟨_, ⟨rfl, q1, q2⟩ | ⟨rfl, q1⟩⟩
            · have K6 := (KpT.below hb (Nat.le_trans hw0 HSh.out)).trans q2
              have R6 := HR5.out.kept K6
              have Y6 := K6.same _ _ _ _ HY5.out fast_f.1
              have C6 := K6.same _ _ _ _ HC5.out fast_f.2.1
              exact ⟨⟨_, rfl⟩, _, rfl, .inl ⟨rfl, hid (by unfold k0; rw [if_neg h16]; exact q1), R6, Y6, C6, hid (Nat.le_trans HSh.out (Nat.le_trans hb.size q2.low.size)), by rw [row_cell R6.ino 17 (by omega), ← HD1.out], R6.cell, by rw [cell_of_row _ _ _ _ _ _ C6]; rfl, by rw [cell_of_row _ _ _ _ _ _ Y6]; rfl⟩⟩
            · exact ⟨⟨_, rfl⟩, _, rfl, .inr ⟨rfl, q1⟩⟩)
        gi_wp2_with (first | (refine ⟨trivial, wdep, hRd.mono ?_⟩; rintro e W6 ⟨b, rfl, h6⟩; rcases h6 with ⟨rfl, HJ6, HR6, HY6, HC6, HSi, d6, r6, v6, c6⟩ | ⟨rfl, Jx6⟩) )
        · exact ⟨_, results_none Try.results27 _ _ _, ⟨_, rfl⟩, .inl (by rw [HLen.out]; exact HJ6.out)⟩
        · exact ⟨_, results_none Try.results27 _ _ _, ⟨_, rfl⟩, .inr Jx6.out⟩
    · by_cases he : (tabS s D1).2 = 0
      · by_cases h16 : S1 = 0
        · subst h16
          have HJk : Hid (J (k0 0) W5) := HJ5
          have HSi := HSh
          gi_wp2
          refine ⟨fun _ h => (by cases h), ?_⟩
          gi_wp2_with (first | (refine ⟨trivial, wdep, (callsIn_wide.2 (table_any pm s D1 _ (hr.below HR5.out.low))).mono ?_⟩; rintro e w7 ⟨rfl, hb7⟩; have HB7 := hid hb7; clear hb7) | (refine li_store (fun _ => trivial) rfl 59 (.tmp 5) (.tmp 34) rfl w7.heap.size (NA (tabS s D1).1) rfl rfl 59 (NA Zp) (heap_alloc_new _ _) (by rw [szP, NA_size, tabS_len]) (by rw [NA_size, NA_size, Zp_len, tabS_len]) (NA_one _) ?_; intro w8 p8; have HP8 := hid p8.here; have HB8 : Hid (Below W5.heap.size W5 w8) := hid (p8.below (HB7.out.alloc HB7.out.size _) HB7.out.size); have hJ8 : J (k0 0) w8 := own_bel hJ HSi.out HJ5.out HB8.out; have c8 : w8.cell? ⟨W.heap.size, 0, none⟩ = some (.func (.yield l) #[] #[]) := (by rw [HB8.out.cell (p := ⟨W.heap.size, 0, none⟩) (slt HY5.out)]; exact c3); clear p8) | (refine ⟨trivial, wdep, (callsIn_wide.2 (there_any _ _ _ _)).mono ?_⟩; rintro e w9 ⟨rfl, rfl⟩) )
          obtain ⟨V, hV⟩ : ∃ y, y = w8.alloc (.cells #[.slice (some ⟨w7.heap.size, 0, none⟩) 32 32] 39) := ⟨_, rfl⟩
          have hV8 : Below w8.heap.size w8 V := by rw [hV]; exact (Below.refl _ _).alloc (Nat.le_refl _) _
          have VB : Below W5.heap.size W5 V := HB8.out.trans (hV8.mono HB8.out.size)
          have VP : V.heap[w7.heap.size]? = some (.cells (NA (tabS s D1).1) 59 (0, 0)) := by rw [hV8.block _ (slt HP8.out)]; exact HP8.out
          have VX : V.heap[w8.heap.size]? = some (.cells #[.slice (some ⟨w7.heap.size, 0, none⟩) 32 32] 39 (0, 0)) := by rw [hV]; exact heap_alloc_new _ _
          have VJ : J (k0 0) V := own_bel hJ (Nat.le_trans HSi.out HB8.out.size) hJ8 hV8
          have hsi := Nat.le_trans HSi.out VB.size
          have VR : RowsAt w0 bR bX pm z V := HR5.out.kept (KpT.below VB (Nat.le_trans hw0 HSi.out))
          have VY : V.heap[W.heap.size]? = some (.cells #[.func (.yield l) #[] #[]] 91 (0, 0)) := by rw [VB.block _ (slt HY5.out)]; exact HY5.out
          have VC : V.heap[W.heap.size + 1]? = some (.cells #[Value.func (Fn.func 28) #[] #[.pointer (some ⟨bR, 0, none⟩), .pointer (some ⟨W.heap.size, 0, none⟩)]] 88 (0, 0)) := by rw [VB.block _ (slt HC5.out)]; exact HC5.out
          rw [← hV]
          have hw0V := Nat.le_trans hw0 hsi
          clear hV
          refine range_noneA (gf := 24) (lb := #[.pointer (some ⟨w8.heap.size, 0, none⟩)]) rfl (enters_of Try.func24 (by kernel_rfl) rfl) (there_iter w8.heap.size w7.heap.size 0 32 (tabS s D1).1 (by rw [tabS_len]; decide))
            (fun o o' => ?start) (fun x gs W h => by rw [h]; rfl) (fun h k => k.trans h) (fun W' l' o o' hl' ho hc => World.putObj_heap_other (fun e => by rw [← e] at hl'; have := slt VP; omega))
            (fun k W' => J (k0 0 + k) W' ∧ RowsAt w0 bR bX pm z W' ∧ W'.heap[W.heap.size]? = some (.cells #[.func (.yield l) #[] #[]] 91 (0, 0)) ∧ W'.heap[W.heap.size + 1]? = some (.cells #[Value.func (Fn.func 28) #[] #[.pointer (some ⟨bR, 0, none⟩), .pointer (some ⟨W.heap.size, 0, none⟩)]] 88 (0, 0)) ∧ W'.heap[w7.heap.size]? = some (.cells (NA (tabS s D1).1) 59 (0, 0)) ∧ W.heap.size ≤ W'.heap.size)
            (fun c W' => c = .ret ∧ Jx W') ?hI ?hIx ⟨VJ, VR, VY, VC, VP, hsi⟩
            (fun a x (_ : Nat) => { tmps := (((a.tmps.setIfInBounds 44 (.int .i64 (x.1 : Int))).setIfInBounds 45 (.int .i64 x.2)).setIfInBounds 7 (.int .i64 (x.1 : Int))).setIfInBounds 8 (.int .i64 x.2), defers := [] })
            (fun k x _ W' => J (k0 0 + k) W' ∧ RowsAt w0 bR bX pm z W' ∧ W'.heap[W.heap.size]? = some (.cells #[.func (.yield l) #[] #[]] 91 (0, 0)) ∧ W'.heap[W.heap.size + 1]? = some (.cells #[Value.func (Fn.func 28) #[] #[.pointer (some ⟨bR, 0, none⟩), .pointer (some ⟨W.heap.size, 0, none⟩)]] 88 (0, 0)) ∧ W'.heap[w7.heap.size]? = some (.cells (NA (tabS s D1).1) 59 (0, 0)) ∧ W.heap.size ≤ W'.heap.size) (fun k x b => ?hE) ?assign ?body ?done ?stop
          case start =>
            have hb2 : Below V.heap.size V ((V.alloc o).alloc o') := ((Below.refl _ _).alloc (Nat.le_refl _) _).alloc (by simp) _
            refine ⟨?_, fun j y hj => ?_⟩
            · rw [hb2.cell (p := ⟨w8.heap.size, 0, none⟩) (slt VX), cell_of_row _ _ _ _ _ _ VX, tabS_len]; rfl
            · rw [hb2.cell (p := ⟨w7.heap.size, 0 + j, none⟩) (slt VP), Nat.zero_add, row_cell VP j (List.getElem?_eq_some_iff.1 hj).1]
              simp [hj]
          case hI =>
            intro k A B row h hg hq
            exact ⟨hJ _ A B row h.1 hg (fun r e => ⟨Nat.le_trans hsi (hq r e).1, (hq r e).2⟩), rowsAt_own (β := Unit) hw0V () A B row h.2.1 hg hq, own_row (β := Unit) _ _ _ _ _ () A B row h.2.2.1 hg hq, own_row (β := Unit) _ _ _ _ _ () A B row h.2.2.2.1 hg hq, own_row (β := Unit) _ _ _ _ _ () A B row h.2.2.2.2.1 hg hq, Nat.le_trans h.2.2.2.2.2 hg.size⟩
          case hE =>
            intro _ A B row h hg hq
            exact ⟨hJ _ A B row h.1 hg (fun r e => ⟨Nat.le_trans hsi (hq r e).1, (hq r e).2⟩), rowsAt_own (β := Unit) hw0V () A B row h.2.1 hg hq, own_row (β := Unit) _ _ _ _ _ () A B row h.2.2.1 hg hq, own_row (β := Unit) _ _ _ _ _ () A B row h.2.2.2.1 hg hq, own_row (β := Unit) _ _ _ _ _ () A B row h.2.2.2.2.1 hg hq, Nat.le_trans h.2.2.2.2.2 hg.size⟩
          case hIx =>
            intro c _ A B row h hg hq
            exact ⟨h.1, hJx () A B row h.2 hg (fun r e => ⟨Nat.le_trans hsi (hq r e).1, (hq r e).2⟩)⟩
          case assign =>
            rintro l' k x gs W' m hx rfl hi
            have HI := hid hi
            unfold encT
            rw [fold2]
            simp only [List.setIfInBounds_toArray, List.set_cons_zero, List.set_cons_succ]
            gi_wp2
            exact ⟨KeepsFrom.refl _ _, trivial, 0, trivial, HI.out⟩
          case body =>
            rintro l' k x b W' m hl' hx ⟨r', hr'⟩ ⟨i1, i2, i3, i4, i5, i6⟩
            have hx2 := there_lt hx
            rw [tabS_len] at hx2
            have cC : W'.cell? ⟨W.heap.size + 1, 0, none⟩ = some (Value.func (Fn.func 28) #[] #[.pointer (some ⟨bR, 0, none⟩), .pointer (some ⟨W.heap.size, 0, none⟩)]) := by rw [cell_of_row _ _ _ _ _ _ i4]; rfl
            obtain ⟨xa, xn⟩ := x
            simp only [List.setIfInBounds_toArray, List.set_cons_zero, List.set_cons_succ] at *
            have hxa : (xa : Int) < 32 := by omega
            have hRd2 : CallsIn (WF.inRound l') (m - 1) Try.prog 28 #[.int .i64 (44 + (xa : Int) * 32), .int .i64 xn, .pointer (some ⟨bR, 0, none⟩), .pointer (some ⟨W.heap.size, 0, none⟩)] W' (fun e W2 => ∃ b, e = .returned (.bool b) ∧ Hid (KeepsFrom V.heap.size W' W2) ∧ ((b = true ∧ Hid (W2.heap[w7.heap.size]? = W'.heap[w7.heap.size]?) ∧ Hid (J (k0 0 + (k + 1)) W2 ∧ RowsAt w0 bR bX pm z W2 ∧ W2.heap[W.heap.size]? = some (.cells #[.func (.yield l) #[] #[]] 91 (0, 0)) ∧ W2.heap[W.heap.size + 1]? = some (.cells #[Value.func (Fn.func 28) #[] #[.pointer (some ⟨bR, 0, none⟩), .pointer (some ⟨W.heap.size, 0, none⟩)]] 88 (0, 0)) ∧ W2.heap[w7.heap.size]? = some (.cells (NA (tabS s D1).1) 59 (0, 0)) ∧ W.heap.size ≤ W2.heap.size)) ∨ (b = false ∧ Hid (Jx W2)))) :=
              CallsIn.inRound l' (read_in (m - 1) l bR W.heap.size pm s (44 + (xa : Int) * 32) xn W' (hr.below i2.low) i2.cell i3 (fun gs W3 m2 hb he3 => by
                refine (HFar.out k _ gs W3 m2 (far_get h17 he hx) he3 (own_bel hJ i6 i1 hb)).mono ?_
                rintro e W2 ⟨qk, ⟨rfl, q1, q2⟩ | ⟨rfl, q1⟩⟩
                · have K2 := (KpT.below hb (Nat.le_trans hw0 i6)).trans q2
                  exact ⟨⟨_, rfl⟩, _, rfl, keeps_of hb qk (Nat.le_trans hl hsi), .inl ⟨rfl, hid (by rw [K2.same _ _ _ _ i5 fast_f.2.2.1, i5]), hid ⟨q1, i2.kept K2, K2.same _ _ _ _ i3 fast_f.1, K2.same _ _ _ _ i4 fast_f.2.1, K2.same _ _ _ _ i5 fast_f.2.2.1, Nat.le_trans i6 K2.low.size⟩⟩⟩
                · exact ⟨⟨_, rfl⟩, _, rfl, keeps_of hb qk (Nat.le_trans hl hsi), .inr ⟨rfl, q1⟩⟩))
            clear i1 i2 i3 i4 i5
            gi_wp2_with (refine ⟨trivial, wdep, hRd2.mono ?_⟩; rintro e W2 ⟨b2, rfl, HK2, h2⟩; rcases h2 with ⟨rfl, HE2, HI2⟩ | ⟨rfl, HX2⟩)
            · exact ⟨HK2.out, none, rfl, HE2.out, HI2.out⟩
            · exact ⟨HK2.out, some .ret, rfl, rfl, HX2.out⟩
          case done =>
            rintro D W' hD ⟨i1, _⟩ hK
            gi_wp2
            refine ⟨by simp, .inl ⟨_, _, rfl, run_takeDeferred hK, ?_⟩⟩
            exact ⟨_, results_none Try.results27 _ _ _, ⟨_, rfl⟩, .inl (by rw [HLen.out, far_len h17 he]; exact hJ.putObj _ i1 (Nat.le_trans hsi hD) hK rfl)⟩
          case stop =>
            rintro D c W' hD ⟨rfl, i1⟩ hK
            gi_wp2
            refine ⟨by simp, .inl ⟨_, _, rfl, run_takeDeferred hK, ?_⟩⟩
            exact ⟨_, results_none Try.results27 _ _ _, ⟨_, rfl⟩, .inr (hJx.putObj (s := ()) _ i1 (Nat.le_trans hsi hD) hK rfl)⟩
        · skip
          have hRd : CallsIn WF (n - 1) Try.prog 28 #[.int .i64 12, .int .i64 S1, .pointer (some ⟨bR, 0, none⟩), .pointer (some ⟨W.heap.size, 0, none⟩)] W5 (fun e W6 => ∃ b, e = .returned (.bool b) ∧ ((b = true ∧ Hid (J (k0 S1) W6) ∧ Hid (RowsAt w0 bR bX pm z W6) ∧ Hid (W6.heap[W.heap.size]? = some (.cells #[.func (.yield l) #[] #[]] 91 (0, 0))) ∧ Hid (W6.heap[W.heap.size + 1]? = some (.cells #[Value.func (Fn.func 28) #[] #[.pointer (some ⟨bR, 0, none⟩), .pointer (some ⟨W.heap.size, 0, none⟩)]] 88 (0, 0))) ∧ Hid (W.heap.size ≤ W6.heap.size) ∧ W6.cell? ⟨bX, 17, none⟩ = some (.int .i64 D1) ∧ W6.cell? ⟨bR, 0, none⟩ = some (rdV pm) ∧ W6.cell? ⟨W.heap.size + 1, 0, none⟩ = some (Value.func (Fn.func 28) #[] #[.pointer (some ⟨bR, 0, none⟩), .pointer (some ⟨W.heap.size, 0, none⟩)]) ∧ W6.cell? ⟨W.heap.size, 0, none⟩ = some (.func (.yield l) #[] #[])) ∨ (b = false ∧ Hid (Jx W6)))) :=
            read_in (n - 1) l bR W.heap.size pm s 12 S1 W5 (hr.below HR5.out.low) HR5.out.cell HY5.out (fun gs W' m hb he => by
              refine (hY 1 _ gs W' m (rows_1 (by rw [← HS1.out]; exact h16)) (by rw [← HS1.out]; exact he) (own_bel hJ HSh.out HJ5.out hb)).mono ?_
              rintro e W6 ⟨_, ⟨rfl, q1, q2⟩ | ⟨rfl, q1⟩⟩
              · have K6 := (KpT.below hb (Nat.le_trans hw0 HSh.out)).trans q2
                have R6 := HR5.out.kept K6
                have Y6 := K6.same _ _ _ _ HY5.out fast_f.1
                have C6 := K6.same _ _ _ _ HC5.out fast_f.2.1
                exact ⟨⟨_, rfl⟩, _, rfl, .inl ⟨rfl, hid (by unfold k0; rw [if_neg h16]; exact q1), R6, Y6, C6, hid (Nat.le_trans HSh.out (Nat.le_trans hb.size q2.low.size)), by rw [row_cell R6.ino 17 (by omega), ← HD1.out], R6.cell, by rw [cell_of_row _ _ _ _ _ _ C6]; rfl, by rw [cell_of_row _ _ _ _ _ _ Y6]; rfl⟩⟩
              · exact ⟨⟨_, rfl⟩, _, rfl, .inr ⟨rfl, q1⟩⟩)
          gi_wp2_with (first | (refine ⟨trivial, wdep, hRd.mono ?_⟩; rintro e W6 ⟨b, rfl, h6⟩; rcases h6 with ⟨rfl, HJ6, HR6, HY6, HC6, HSi, d6, r6, v6, c6⟩ | ⟨rfl, Jx6⟩) | (refine ⟨trivial, wdep, (callsIn_wide.2 (table_any pm s D1 _ (hr.below HR6.out.low))).mono ?_⟩; rintro e w7 ⟨rfl, hb7⟩; have HB7 := hid hb7; clear hb7) | (refine li_store (fun _ => trivial) rfl 59 (.tmp 5) (.tmp 34) rfl w7.heap.size (NA (tabS s D1).1) rfl rfl 59 (NA Zp) (heap_alloc_new _ _) (by rw [szP, NA_size, tabS_len]) (by rw [NA_size, NA_size, Zp_len, tabS_len]) (NA_one _) ?_; intro w8 p8; have HP8 := hid p8.here; have HB8 : Hid (Below W6.heap.size W6 w8) := hid (p8.below (HB7.out.alloc HB7.out.size _) HB7.out.size); have hJ8 : J (k0 S1) w8 := own_bel hJ HSi.out HJ6.out HB8.out; have c8 : w8.cell? ⟨W.heap.size, 0, none⟩ = some (.func (.yield l) #[] #[]) := (by rw [HB8.out.cell (p := ⟨W.heap.size, 0, none⟩) (slt HY6.out)]; exact c6); clear p8) | (refine ⟨trivial, wdep, (callsIn_wide.2 (there_any _ _ _ _)).mono ?_⟩; rintro e w9 ⟨rfl, rfl⟩) )
          · obtain ⟨V, hV⟩ : ∃ y, y = w8.alloc (.cells #[.slice (some ⟨w7.heap.size, 0, none⟩) 32 32] 39) := ⟨_, rfl⟩
            have hV8 : Below w8.heap.size w8 V := by rw [hV]; exact (Below.refl _ _).alloc (Nat.le_refl _) _
            have VB : Below W6.heap.size W6 V := HB8.out.trans (hV8.mono HB8.out.size)
            have VP : V.heap[w7.heap.size]? = some (.cells (NA (tabS s D1).1) 59 (0, 0)) := by rw [hV8.block _ (slt HP8.out)]; exact HP8.out
            have VX : V.heap[w8.heap.size]? = some (.cells #[.slice (some ⟨w7.heap.size, 0, none⟩) 32 32] 39 (0, 0)) := by rw [hV]; exact heap_alloc_new _ _
            have VJ : J (k0 S1) V := own_bel hJ (Nat.le_trans HSi.out HB8.out.size) hJ8 hV8
            have hsi := Nat.le_trans HSi.out VB.size
            have VR : RowsAt w0 bR bX pm z V := HR6.out.kept (KpT.below VB (Nat.le_trans hw0 HSi.out))
            have VY : V.heap[W.heap.size]? = some (.cells #[.func (.yield l) #[] #[]] 91 (0, 0)) := by rw [VB.block _ (slt HY6.out)]; exact HY6.out
            have VC : V.heap[W.heap.size + 1]? = some (.cells #[Value.func (Fn.func 28) #[] #[.pointer (some ⟨bR, 0, none⟩), .pointer (some ⟨W.heap.size, 0, none⟩)]] 88 (0, 0)) := by rw [VB.block _ (slt HC6.out)]; exact HC6.out
            rw [← hV]
            have hw0V := Nat.le_trans hw0 hsi
            clear hV
            refine range_noneA (gf := 24) (lb := #[.pointer (some ⟨w8.heap.size, 0, none⟩)]) rfl (enters_of Try.func24 (by kernel_rfl) rfl) (there_iter w8.heap.size w7.heap.size 0 32 (tabS s D1).1 (by rw [tabS_len]; decide))
              (fun o o' => ?start) (fun x gs W h => by rw [h]; rfl) (fun h k => k.trans h) (fun W' l' o o' hl' ho hc => World.putObj_heap_other (fun e => by rw [← e] at hl'; have := slt VP; omega))
              (fun k W' => J (k0 S1 + k) W' ∧ RowsAt w0 bR bX pm z W' ∧ W'.heap[W.heap.size]? = some (.cells #[.func (.yield l) #[] #[]] 91 (0, 0)) ∧ W'.heap[W.heap.size + 1]? = some (.cells #[Value.func (Fn.func 28) #[] #[.pointer (some ⟨bR, 0, none⟩), .pointer (some ⟨W.heap.size, 0, none⟩)]] 88 (0, 0)) ∧ W'.heap[w7.heap.size]? = some (.cells (NA (tabS s D1).1) 59 (0, 0)) ∧ W.heap.size ≤ W'.heap.size)
              (fun c W' => c = .ret ∧ Jx W') ?hI ?hIx ⟨VJ, VR, VY, VC, VP, hsi⟩
              (fun a x (_ : Nat) => { tmps := (((a.tmps.setIfInBounds 44 (.int .i64 (x.1 : Int))).setIfInBounds 45 (.int .i64 x.2)).setIfInBounds 7 (.int .i64 (x.1 : Int))).setIfInBounds 8 (.int .i64 x.2), defers := [] })
              (fun k x _ W' => J (k0 S1 + k) W' ∧ RowsAt w0 bR bX pm z W' ∧ W'.heap[W.heap.size]? = some (.cells #[.func (.yield l) #[] #[]] 91 (0, 0)) ∧ W'.heap[W.heap.size + 1]? = some (.cells #[Value.func (Fn.func 28) #[] #[.pointer (some ⟨bR, 0, none⟩), .pointer (some ⟨W.heap.size, 0, none⟩)]] 88 (0, 0)) ∧ W'.heap[w7.heap.size]? = some (.cells (NA (tabS s D1).1) 59 (0, 0)) ∧ W.heap.size ≤ W'.heap.size) (fun k x b => ?hE) ?assign ?body ?done ?stop
            case start =>
              have hb2 : Below V.heap.size V ((V.alloc o).alloc o') := ((Below.refl _ _).alloc (Nat.le_refl _) _).alloc (by simp) _
              refine ⟨?_, fun j y hj => ?_⟩
              · rw [hb2.cell (p := ⟨w8.heap.size, 0, none⟩) (slt VX), cell_of_row _ _ _ _ _ _ VX, tabS_len]; rfl
              · rw [hb2.cell (p := ⟨w7.heap.size, 0 + j, none⟩) (slt VP), Nat.zero_add, row_cell VP j (List.getElem?_eq_some_iff.1 hj).1]
                simp [hj]
            case hI =>
              intro k A B row h hg hq
              exact ⟨hJ _ A B row h.1 hg (fun r e => ⟨Nat.le_trans hsi (hq r e).1, (hq r e).2⟩), rowsAt_own (β := Unit) hw0V () A B row h.2.1 hg hq, own_row (β := Unit) _ _ _ _ _ () A B row h.2.2.1 hg hq, own_row (β := Unit) _ _ _ _ _ () A B row h.2.2.2.1 hg hq, own_row (β := Unit) _ _ _ _ _ () A B row h.2.2.2.2.1 hg hq, Nat.le_trans h.2.2.2.2.2 hg.size⟩
            case hE =>
              intro _ A B row h hg hq
              exact ⟨hJ _ A B row h.1 hg (fun r e => ⟨Nat.le_trans hsi (hq r e).1, (hq r e).2⟩), rowsAt_own (β := Unit) hw0V () A B row h.2.1 hg hq, own_row (β := Unit) _ _ _ _ _ () A B row h.2.2.1 hg hq, own_row (β := Unit) _ _ _ _ _ () A B row h.2.2.2.1 hg hq, own_row (β := Unit) _ _ _ _ _ () A B row h.2.2.2.2.1 hg hq, Nat.le_trans h.2.2.2.2.2 hg.size⟩
            case hIx =>
              intro c _ A B row h hg hq
              exact ⟨h.1, hJx () A B row h.2 hg (fun r e => ⟨Nat.le_trans hsi (hq r e).1, (hq r e).2⟩)⟩
            case assign =>
              rintro l' k x gs W' m hx rfl hi
              have HI := hid hi
              unfold encT
              rw [fold2]
              simp only [List.setIfInBounds_toArray, List.set_cons_zero, List.set_cons_succ]
              gi_wp2
              exact ⟨KeepsFrom.refl _ _, trivial, 0, trivial, HI.out⟩
            case body =>
              rintro l' k x b W' m hl' hx ⟨r', hr'⟩ ⟨i1, i2, i3, i4, i5, i6⟩
              have hx2 := there_lt hx
              rw [tabS_len] at hx2
              have cC : W'.cell? ⟨W.heap.size + 1, 0, none⟩ = some (Value.func (Fn.func 28) #[] #[.pointer (some ⟨bR, 0, none⟩), .pointer (some ⟨W.heap.size, 0, none⟩)]) := by rw [cell_of_row _ _ _ _ _ _ i4]; rfl
              obtain ⟨xa, xn⟩ := x
              simp only [List.setIfInBounds_toArray, List.set_cons_zero, List.set_cons_succ] at *
              have hxa : (xa : Int) < 32 := by omega
              have hRd2 : CallsIn (WF.inRound l') (m - 1) Try.prog 28 #[.int .i64 (44 + (xa : Int) * 32), .int .i64 xn, .pointer (some ⟨bR, 0, none⟩), .pointer (some ⟨W.heap.size, 0, none⟩)] W' (fun e W2 => ∃ b, e = .returned (.bool b) ∧ Hid (KeepsFrom V.heap.size W' W2) ∧ ((b = true ∧ Hid (W2.heap[w7.heap.size]? = W'.heap[w7.heap.size]?) ∧ Hid (J (k0 S1 + (k + 1)) W2 ∧ RowsAt w0 bR bX pm z W2 ∧ W2.heap[W.heap.size]? = some (.cells #[.func (.yield l) #[] #[]] 91 (0, 0)) ∧ W2.heap[W.heap.size + 1]? = some (.cells #[Value.func (Fn.func 28) #[] #[.pointer (some ⟨bR, 0, none⟩), .pointer (some ⟨W.heap.size, 0, none⟩)]] 88 (0, 0)) ∧ W2.heap[w7.heap.size]? = some (.cells (NA (tabS s D1).1) 59 (0, 0)) ∧ W.heap.size ≤ W2.heap.size)) ∨ (b = false ∧ Hid (Jx W2)))) :=
                CallsIn.inRound l' (read_in (m - 1) l bR W.heap.size pm s (44 + (xa : Int) * 32) xn W' (hr.below i2.low) i2.cell i3 (fun gs W3 m2 hb he3 => by
                  refine (HFar.out k _ gs W3 m2 (far_get h17 he hx) he3 (own_bel hJ i6 i1 hb)).mono ?_
                  rintro e W2 ⟨qk, ⟨rfl, q1, q2⟩ | ⟨rfl, q1⟩⟩
                  · have K2 := (KpT.below hb (Nat.le_trans hw0 i6)).trans q2
                    exact ⟨⟨_, rfl⟩, _, rfl, keeps_of hb qk (Nat.le_trans hl hsi), .inl ⟨rfl, hid (by rw [K2.same _ _ _ _ i5 fast_f.2.2.1, i5]), hid ⟨q1, i2.kept K2, K2.same _ _ _ _ i3 fast_f.1, K2.same _ _ _ _ i4 fast_f.2.1, K2.same _ _ _ _ i5 fast_f.2.2.1, Nat.le_trans i6 K2.low.size⟩⟩⟩
                  · exact ⟨⟨_, rfl⟩, _, rfl, keeps_of hb qk (Nat.le_trans hl hsi), .inr ⟨rfl, q1⟩⟩))
              clear i1 i2 i3 i4 i5
              gi_wp2_with (refine ⟨trivial, wdep, hRd2.mono ?_⟩; rintro e W2 ⟨b2, rfl, HK2, h2⟩; rcases h2 with ⟨rfl, HE2, HI2⟩ | ⟨rfl, HX2⟩)
              · exact ⟨HK2.out, none, rfl, HE2.out, HI2.out⟩
              · exact ⟨HK2.out, some .ret, rfl, rfl, HX2.out⟩
            case done =>
              rintro D W' hD ⟨i1, _⟩ hK
              gi_wp2
              refine ⟨by simp, .inl ⟨_, _, rfl, run_takeDeferred hK, ?_⟩⟩
              exact ⟨_, results_none Try.results27 _ _ _, ⟨_, rfl⟩, .inl (by rw [HLen.out, far_len h17 he]; exact hJ.putObj _ i1 (Nat.le_trans hsi hD) hK rfl)⟩
            case stop =>
              rintro D c W' hD ⟨rfl, i1⟩ hK
              gi_wp2
              refine ⟨by simp, .inl ⟨_, _, rfl, run_takeDeferred hK, ?_⟩⟩
              exact ⟨_, results_none Try.results27 _ _ _, ⟨_, rfl⟩, .inr (hJx.putObj (s := ()) _ i1 (Nat.le_trans hsi hD) hK rfl)⟩
          · exact ⟨_, results_none Try.results27 _ _ _, ⟨_, rfl⟩, .inr Jx6.out⟩
      · by_cases h16 : S1 = 0
        · subst h16
          have HJk : Hid (J (k0 0) W5) := HJ5
          have HSi := HSh
          gi_wp2
          refine ⟨fun _ h => (by cases h), ?_⟩
          gi_wp2_with (first | (refine ⟨trivial, wdep, (callsIn_wide.2 (table_any pm s D1 _ (hr.below HR5.out.low))).mono ?_⟩; rintro e w7 ⟨rfl, hb7⟩; have HB7 := hid hb7; clear hb7) | (refine li_store (fun _ => trivial) rfl 59 (.tmp 5) (.tmp 34) rfl w7.heap.size (NA (tabS s D1).1) rfl rfl 59 (NA Zp) (heap_alloc_new _ _) (by rw [szP, NA_size, tabS_len]) (by rw [NA_size, NA_size, Zp_len, tabS_len]) (NA_one _) ?_; intro w8 p8; have HP8 := hid p8.here; have HB8 : Hid (Below W5.heap.size W5 w8) := hid (p8.below (HB7.out.alloc HB7.out.size _) HB7.out.size); have hJ8 : J (k0 0) w8 := own_bel hJ HSi.out HJ5.out HB8.out; have c8 : w8.cell? ⟨W.heap.size, 0, none⟩ = some (.func (.yield l) #[] #[]) := (by rw [HB8.out.cell (p := ⟨W.heap.size, 0, none⟩) (slt HY5.out)]; exact c3); clear p8; obtain ⟨fn8, tm8, as8, bo8, hy8, hR8⟩ := HFar.out 0 _ #[.agg #[.int .i64 0, .slice none 0 0], .int .i64 (tabS s D1).2] w8 (n - 1) (far_err h17 he) (.inr ⟨he, rfl⟩) hJ8; have HR8 := hid hR8; clear hR8) )
          refine ⟨wdep, HR8.out.mono ?_⟩
          rintro e W9 ⟨_, ⟨rfl, q1, _⟩ | ⟨rfl, q1⟩⟩
          · gi_wp2
            exact ⟨_, results_none Try.results27 _ _ _, ⟨_, rfl⟩, .inl (by rw [HLen.out, far_elen h17 he]; exact q1)⟩
          · gi_wp2
            exact ⟨_, results_none Try.results27 _ _ _, ⟨_, rfl⟩, .inr q1⟩
        · skip
          have hRd : CallsIn WF (n - 1) Try.prog 28 #[.int .i64 12, .int .i64 S1, .pointer (some ⟨bR, 0, none⟩), .pointer (some ⟨W.heap.size, 0, none⟩)] W5 (fun e W6 => ∃ b, e = .returned (.bool b) ∧ ((b = true ∧ Hid (J (k0 S1) W6) ∧ Hid (RowsAt w0 bR bX pm z W6) ∧ Hid (W6.heap[W.heap.size]? = some (.cells #[.func (.yield l) #[] #[]] 91 (0, 0))) ∧ Hid (W6.heap[W.heap.size + 1]? = some (.cells #[Value.func (Fn.func 28) #[] #[.pointer (some ⟨bR, 0, none⟩), .pointer (some ⟨W.heap.size, 0, none⟩)]] 88 (0, 0))) ∧ Hid (W.heap.size ≤ W6.heap.size) ∧ W6.cell? ⟨bX, 17, none⟩ = some (.int .i64 D1) ∧ W6.cell? ⟨bR, 0, none⟩ = some (rdV pm) ∧ W6.cell? ⟨W.heap.size + 1, 0, none⟩ = some (Value.func (Fn.func 28) #[] #[.pointer (some ⟨bR, 0, none⟩), .pointer (some ⟨W.heap.size, 0, none⟩)]) ∧ W6.cell? ⟨W.heap.size, 0, none⟩ = some (.func (.yield l) #[] #[])) ∨ (b = false ∧ Hid (Jx W6)))) :=
            read_in (n - 1) l bR W.heap.size pm s 12 S1 W5 (hr.below HR5.out.low) HR5.out.cell HY5.out (fun gs W' m hb he => by
              refine (hY 1 _ gs W' m (rows_1 (by rw [← HS1.out]; exact h16)) (by rw [← HS1.out]; exact he) (own_bel hJ HSh.out HJ5.out hb)).mono ?_
              rintro e W6 ⟨_, ⟨rfl, q1, q2⟩ | ⟨rfl, q1⟩⟩
              · have K6 := (KpT.below hb (Nat.le_trans hw0 HSh.out)).trans q2
                have R6 := HR5.out.kept K6
                have Y6 := K6.same _ _ _ _ HY5.out fast_f.1
                have C6 := K6.same _ _ _ _ HC5.out fast_f.2.1
                exact ⟨⟨_, rfl⟩, _, rfl, .inl ⟨rfl, hid (by unfold k0; rw [if_neg h16]; exact q1), R6, Y6, C6, hid (Nat.le_trans HSh.out (Nat.le_trans hb.size q2.low.size)), by rw [row_cell R6.ino 17 (by omega), ← HD1.out], R6.cell, by rw [cell_of_row _ _ _ _ _ _ C6]; rfl, by rw [cell_of_row _ _ _ _ _ _ Y6]; rfl⟩⟩
              · exact ⟨⟨_, rfl⟩, _, rfl, .inr ⟨rfl, q1⟩⟩)
          gi_wp2_with (first | (refine ⟨trivial, wdep, hRd.mono ?_⟩; rintro e W6 ⟨b, rfl, h6⟩; rcases h6 with ⟨rfl, HJ6, HR6, HY6, HC6, HSi, d6, r6, v6, c6⟩ | ⟨rfl, Jx6⟩) | (refine ⟨trivial, wdep, (callsIn_wide.2 (table_any pm s D1 _ (hr.below HR6.out.low))).mono ?_⟩; rintro e w7 ⟨rfl, hb7⟩; have HB7 := hid hb7; clear hb7) | (refine li_store (fun _ => trivial) rfl 59 (.tmp 5) (.tmp 34) rfl w7.heap.size (NA (tabS s D1).1) rfl rfl 59 (NA Zp) (heap_alloc_new _ _) (by rw [szP, NA_size, tabS_len]) (by rw [NA_size, NA_size, Zp_len, tabS_len]) (NA_one _) ?_; intro w8 p8; have HP8 := hid p8.here; have HB8 : Hid (Below W6.heap.size W6 w8) := hid (p8.below (HB7.out.alloc HB7.out.size _) HB7.out.size); have hJ8 : J (k0 S1) w8 := own_bel hJ HSi.out HJ6.out HB8.out; have c8 : w8.cell? ⟨W.heap.size, 0, none⟩ = some (.func (.yield l) #[] #[]) := (by rw [HB8.out.cell (p := ⟨W.heap.size, 0, none⟩) (slt HY6.out)]; exact c6); clear p8; obtain ⟨fn8, tm8, as8, bo8, hy8, hR8⟩ := HFar.out 0 _ #[.agg #[.int .i64 0, .slice none 0 0], .int .i64 (tabS s D1).2] w8 (n - 1) (far_err h17 he) (.inr ⟨he, rfl⟩) hJ8; have HR8 := hid hR8; clear hR8) )
          · refine ⟨wdep, HR8.out.mono ?_⟩
            rintro e W9 ⟨_, ⟨rfl, q1, _⟩ | ⟨rfl, q1⟩⟩
            · gi_wp2
              exact ⟨_, results_none Try.results27 _ _ _, ⟨_, rfl⟩, .inl (by rw [HLen.out, far_elen h17 he]; exact q1)⟩
            · gi_wp2
              exact ⟨_, results_none Try.results27 _ _ _, ⟨_, rfl⟩, .inr q1⟩
          · exact ⟨_, results_none Try.results27 _ _ _, ⟨_, rfl⟩, .inr Jx6.out⟩
  · simp only [Bool.not_false]
    gi_wp2
    exact ⟨_, results_none Try.results27 _ _ _, ⟨_, rfl⟩, .inr Jx5⟩

end Go.Proofs.Ytjlhmojofjkkdab
