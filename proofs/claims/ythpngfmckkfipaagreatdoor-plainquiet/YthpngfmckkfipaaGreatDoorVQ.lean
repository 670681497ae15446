/-
  package plain: a node's copy; Copy.
-/
import Derived.Test.YthpngfmckkfipaaGreatDoorVM
import Derived.Shelf.SlMaps.Clone
namespace Go.Proofs.YthpngfmckkfipaaGreatDoor
open Go.RowKit

theorem MapV.clone {w : World} {b : Nat} {f : Int → Option Value} (h : MapV w b f) : ∃ es cl, w.heap[b]? = some (.map es cl) ∧ MapV (w.alloc (.map es cl)) w.heap.size f := by
  obtain ⟨D, ⟨es, clock, hb, F, hs, hD⟩, k1, k2⟩ := h
  exact ⟨es, clock, hb, D, ⟨es, clock, heap_alloc_new _ _, F, hs, hD⟩, k1, k2⟩
theorem MapT.clone {w : World} {b n : Nat} {f : ByteArray → Option Int} (h : MapT w b f n) : ∃ es cl, w.heap[b]? = some (.map es cl) ∧ MapT (w.alloc (.map es cl)) w.heap.size f n := by
  obtain ⟨D, ⟨es, clock, hb, F, hs, hD⟩, k1, k2⟩ := h
  exact ⟨es, clock, hb, D, ⟨es, clock, heap_alloc_new _ _, F, hs, hD⟩, k1, k2⟩
set_option maxHeartbeats 2000000 in
set_option maxRecDepth 100000 in
theorem mcloneB (b : Nat) (es : Array MapEntry) (cl : Nat) (w : World) (hb : w.heap[b]? = some (.map es cl)) : Calls Tryz.prog 52 #[.map (some b)] w fun e w' => e = .returned (.map (some w.heap.size)) ∧ w' = w.alloc (.map es cl) := by
  have hq := fun w => run_eql_map_nil_sl (P := Tryz.prog) w 94 _ _ (some b) Tryz.underlying94
  go_enter Tryz.func52, Tryz.ntmps52
  go_wp2
  rw [run_callFunc_extern Tryz.func69 (by kernel_rfl) (by kernel_rfl) (by kernel_rfl) (e := Extern.MapsClone.clone) (by kernel_rfl), run_maps_clone_sl w 94 hb]
  simp only [Result.andThen]
  rw [Oper.upon_value]
  go_wp2
  rw [run_typeAssert_map_sl _ 94 _ _ _ _ Tryz.underlying94]
  simp only [Result.andThen]
  rw [Oper.upon_value]
  go_wp2
  go_ret
  exact ⟨rfl, rfl⟩
set_option maxHeartbeats 2000000 in
set_option maxRecDepth 100000 in
theorem mcloneT (b : Nat) (es : Array MapEntry) (cl : Nat) (w : World) (hb : w.heap[b]? = some (.map es cl)) : Calls Tryz.prog 54 #[.map (some b)] w fun e w' => e = .returned (.map (some w.heap.size)) ∧ w' = w.alloc (.map es cl) := by
  have hq := fun w => run_eql_map_nil_sl (P := Tryz.prog) w 95 _ _ (some b) Tryz.underlying95
  go_enter Tryz.func54, Tryz.ntmps54
  go_wp2
  rw [run_callFunc_extern Tryz.func69 (by kernel_rfl) (by kernel_rfl) (by kernel_rfl) (e := Extern.MapsClone.clone) (by kernel_rfl), run_maps_clone_sl w 95 hb]
  simp only [Result.andThen]
  rw [Oper.upon_value]
  go_wp2
  rw [run_typeAssert_map_sl _ 95 _ _ _ _ Tryz.underlying95]
  simp only [Result.andThen]
  rw [Oper.upon_value]
  go_wp2
  go_ret
  exact ⟨rfl, rfl⟩
/-- slices.Clone of numbers. -/
theorem eq_nil (w : World) : (binOp .eql 55 (.slice none 0 0) (.slice none 0 0)).run Tryz.prog w = .ok (.bool true) w := by kernel_rfl
theorem eq_some (ad : Addr) (n c : Nat) (w : World) : (binOp .eql 55 (.slice (some ad) n c) (.slice none 0 0)).run Tryz.prog w = .ok (.bool false) w := by kernel_rfl
set_option maxRecDepth 100000 in
theorem sclone_nil (w : World) : Calls Tryz.prog 53 #[.slice none 0 0] w fun e w' => e = .returned (.slice none 0 0) ∧ w' = w := by
  have hq := eq_nil
  go_enter Tryz.func53, Tryz.ntmps53
  go_wp2_with fail
  go_ret
  exact ⟨rfl, rfl⟩
section
variable {ops : Array Oper} {rest : List Oper} {o : Oper} {a : Act} {Q : Exit → Act → World → Prop} {w : World}
/-- append of a list of numbers. -/
theorem wp_appIs (hg : o.guard = none) (s x : Operand) (hop : o.op = .call { callee := .builtin .append, args := #[s, x], argTypes := #[55, 55] }) (B g c : Nat) (v : Value) (l ys : List Int) (hs : a.eval s = v) (hx : a.eval x = .slice (some ⟨g, 0, none⟩) ys.length c)
    (hown : IOwn w B v l) (hat : ∀ (j : Nat) y, ys[j]? = some y → w.cell? ⟨g, j, none⟩ = some (.int .i64 y)) (hl : l.length + ys.length ≤ 1000000) (hB : B ≤ w.heap.size)
    (hK : ∀ v' w', IOwn w' B v' (l ++ ys) → Chg w w' (fun k => v.ownBlock = some k) → wpList Tryz.prog ops Q rest (a.put o.dst v') w') : wpList Tryz.prog ops Q (o :: rest) a w := by
  obtain ⟨i, hi, hz, hsz, hby⟩ := infoI
  refine wpList_append_own_at w hg s x 55 hop B 3 i _ 1 8 Tryz.underlying55 hi hz hsz hby rfl (by decide) v l.length (l.map (Value.int .i64)) hs hown ⟨g, 0, none⟩ ys.length c (ys.map (Value.int .i64)) hx (by simp) (fun j u hj => ?_) (fun u hu => ?_) (by unfold maxLen; omega) (by omega) hB ?_
  · rw [addr_add, Nat.zero_add]
    rw [List.getElem?_map] at hj
    cases e : ys[j]? with
    | none => rw [e] at hj; cases hj
    | some y => rw [e] at hj; cases hj; exact hat j y e
  · obtain ⟨y, _, rfl⟩ := List.mem_map.1 hu
    rfl
  · intro v' w' h1 h2 _ _
    refine hK v' w' ?_ ((Chg.grown h2).mono fun j _ e => e.symm)
    unfold IOwn
    rw [List.length_append, List.map_append]
    exact h1
end
set_option maxHeartbeats 2000000 in
set_option maxRecDepth 100000 in
theorem sclone_any2 (g cp : Nat) (l : List Int) (w : World) (h : IOwn w 0 (.slice (some ⟨g, 0, none⟩) l.length cp) l) (hl : l.length ≤ 5000) : Calls Tryz.prog 53 #[.slice (some ⟨g, 0, none⟩) l.length cp] w fun e w' => ∃ v, e = .returned v ∧ IOwn w' w.heap.size v l ∧ Chg w w' No := by
  have HI := hid h
  have hlt : g < w.heap.size := (Array.getElem?_eq_some_iff.1 (h.blk (k := g) rfl).2.choose_spec).1
  have HAt : Hid (∀ (j : Nat) y, l[j]? = some y → (w.alloc (.cells #[] 3)).cell? ⟨g, j, none⟩ = some (.int .i64 y)) := hid (fun j y hj => by
    have hlj := (List.getElem?_eq_some_iff.1 hj).1
    obtain ⟨g', e, hc⟩ := own_cell h hlj
    cases e
    have e2 : l.getD j 0 = y := by rw [List.getD_eq_getElem?_getD, hj]; rfl
    rw [e2] at hc
    unfold World.cell? at hc ⊢
    rw [(Chg.alloc w (.cells #[] 3) No).block _ hlt (fun e => e)]
    exact hc)
  have HO : Hid (IOwn (w.alloc (.cells #[] 3)) w.heap.size (.slice (some ⟨w.heap.size, 0, none⟩) 0 0) []) := hid ⟨rfl, .inr ⟨w.heap.size, 0, #[], rfl, Nat.le_refl _, heap_alloc_new _ _, Nat.le_refl _, by decide, rfl, rfl⟩⟩
  obtain ⟨n, hn⟩ : ∃ y, y = l.length := ⟨_, rfl⟩
  have HN := hid hn
  have i1 : (n : Int) ≤ 5000 := by omega
  rw [← hn]
  clear h hlt hl hn
  have hq := eq_some
  go_enter Tryz.func53, Tryz.ntmps53
  go_wp2_with (first
    | (refine wp_appIs rfl _ _ rfl w.heap.size g cp (.slice (some ⟨w.heap.size, 0, none⟩) 0 0) [] l rfl (by rw [← HN.out]; rfl) HO.out HAt.out (by have := HN.out; simp; omega) (by simp) ?_; intro v' w2 hI2 hc2; have HI2 := hid hI2; have HC2 := hid hc2; clear hI2 hc2)
    | fail)
  go_ret
  exact ⟨_, rfl, by simpa using HI2.out, (Chg.alloc w _ No).trans HC2.out (fun _ _ e => e) (fun j hj e => by have : w.heap.size = j := (by simpa [Value.ownBlock] using e); omega)⟩
end Go.Proofs.YthpngfmckkfipaaGreatDoor

namespace Go.Proofs.YthpngfmckkfipaaGreatDoor
open Go.RowKit

theorem szNo : (Tryz.prog.info? 97).map (·.size) = some 7 := by kernel_rfl
theorem run_storeOne (w : World) (g off : Nat) (t tb : TypeId) (v : Value) (A : Array Value) (hv : v.oneCell' = true) (hsz : (Tryz.prog.info? t).map (·.size) = some 1) (hg : w.heap[g]? = some (.cells A tb (0, 0))) (ho : off < A.size) :
    (storeVar t ⟨g, off, none⟩ v).run Tryz.prog w = .ok () (w.setCell ⟨g, off, none⟩ v) := by
  have hcell : Value.cells v = #[v] := by cases v <;> first | rfl | simp [Value.oneCell'] at hv
  have hc := run_storeCells_cells (P := Tryz.prog) g off [v] 0 w (fun j hj => by
    have hj : j = 0 := by simpa using hj
    subst hj
    simp only [Nat.add_zero]
    rw [cell_of_row _ _ _ _ _ _ hg, Array.getElem?_eq_getElem ho]
    rfl) (fun j hj => frozen_of_row _ _ _ _ _ hg) (fun u hu => by
    have hu : u = v := by simpa using hu
    rw [hu]
    exact hv)
  simp only [Nat.add_zero] at hc
  cases hq : Tryz.prog.info? t with
  | none => simp [hq] at hsz
  | some i =>
    have hs : i.size = 1 := by simpa [hq] using hsz
    simp [storeVar, sizeOf, typeInfo, hq, hcell, hs, hc]
    rfl
theorem run_storeAt {o : Oper} {a : Act} {w : World} (t : TypeId) (x y : Operand) (ho : o.op = .store t x y) (g off : Nat) (hx : a.eval x = .pointer (some ⟨g, off, none⟩)) (v : Value) (hy : a.eval y = v) (hv : v.oneCell' = true) (hsz : (Tryz.prog.info? t).map (·.size) = some 1) (tb : TypeId) (A : Array Value) (hg : w.heap[g]? = some (.cells A tb (0, 0))) (hoff : off < A.size) :
    (execOp a.eval o).run Tryz.prog w = .ok .skip (w.setCell ⟨g, off, none⟩ v) := by
  unfold execOp
  simp only [ho, hx, hy, Instr.storeAt, Instr.sureAddr, Sem.run_bind, Sem.run_pure, Result.andThen_ok, run_storeOne w g off t tb v A hv hsz hg hoff]
theorem slclone {c : NC} {x : Nd} {w : World} (h : IsN w c x) (hB : c.B = 0) : Calls Tryz.prog 53 #[c.v] w fun e w' => ∃ v, e = .returned v ∧ IOwn w' w.heap.size v x.sl ∧ Chg w w' No := by
  have hs := h.sl
  rw [hB] at hs
  rcases hs.2 with ⟨e1, e2⟩ | ⟨g, cap, cur, e, _⟩
  · rw [e1]
    refine (sclone_nil w).mono ?_
    rintro e w' ⟨rfl, rfl⟩
    exact ⟨_, rfl, ⟨by simp, .inl ⟨rfl, e2⟩⟩, Chg.refl _ _⟩
  · rw [e] at hs ⊢
    exact sclone_any2 g cap x.sl w hs (by have := h.len; omega)
set_option maxHeartbeats 4000000 in
set_option maxRecDepth 100000 in
theorem copy_any {c : NC} {x : Nd} (w : World) (h : IsN w c x) (hB : c.B = 0) : Calls Tryz.prog 30 #[.pointer (some ⟨c.p, 0, none⟩)] w fun e w' => ∃ c' : NC, e = .returned (.pointer (some ⟨c'.p, 0, none⟩)) ∧ IsN w' c' x ∧ Chg w w' No ∧ (∀ k, BlkN c' k → w.heap.size ≤ k) ∧ c'.B = 0 := by
  have HH := hid h
  have HB := hid hB
  have HAl : Hid ((ndA c x).all (·.oneCell') = true) := hid (by obtain ⟨a, cp, e⟩ := h.sl.shape; unfold ndA; rw [e]; simp [Value.oneCell'])
  obtain ⟨ND, hND⟩ : ∃ y, y = ndA c x := ⟨_, rfl⟩
  have HND := hid hND
  have HMe : Hid (w.heap[c.p]? = some (.cells ND 97 (0, 0))) := hid (by rw [hND]; exact h.me)
  have HSz : Hid (ND.size = 7) := hid (by rw [hND]; rfl)
  rw [← hND] at HAl
  have HC4 : Hid (∀ W, Chg w W No → W.cell? ⟨c.p, 4, none⟩ = some (.map (some c.bb))) := hid (fun W hW => (h.call hW).c4)
  have HC5 : Hid (∀ W, Chg w W No → W.cell? ⟨c.p, 5, none⟩ = some c.v) := hid (fun W hW => (h.call hW).c5)
  have HC6 : Hid (∀ W, Chg w W No → W.cell? ⟨c.p, 6, none⟩ = some (.map (some c.nb))) := hid (fun W hW => (h.call hW).c6)
  obtain ⟨a5, cp5, hv5⟩ := h.sl.shape
  obtain ⟨n5, hn5⟩ : ∃ y, y = x.sl.length := ⟨_, rfl⟩
  rw [← hn5] at hv5
  rw [hv5] at HC5
  have HV5 := hid hv5
  clear h hB hND hv5 hn5
  go_enter Tryz.func30, Tryz.ntmps30
  go_upto_region 2 with (first
    | (refine load_R rfl 97 _ rfl c.p rfl 97 ND _ HMe.out Tryz.underlying97 rfl (by rw [szNo, HSz.out]) ?_)
    | (refine store_R rfl 97 _ _ rfl w.heap.size ND rfl rfl 97 _ (heap_alloc_new _ _) (by rw [szNo, HSz.out]) (by rw [HSz.out]; rfl) HAl.out ?_; intro w1 hs1; have HS1 := hid hs1; clear hs1)
    | fail)
  obtain ⟨gc, hgc⟩ : ∃ y, y = w.heap.size := ⟨_, rfl⟩
  rw [← hgc] at HS1 ⊢
  have HGc := hid hgc
  have HC1 : Hid (Chg w w1 No) := hid ((Chg.alloc w _ No).trans (kt_new HS1.out) (fun _ _ e => e) (fun j hj e => by have := HGc.out; omega))
  have HQ1 : Hid (w1.heap[gc]? = some (.cells ND 97 (0, 0))) := hid HS1.out.here
  have HZ1 : Hid (gc < w1.heap.size) := hid (Array.getElem?_eq_some_iff.1 HQ1.out).1
  clear hgc HS1 HMe HAl
  simp only [Act.put]
  refine wp_region_noPanic ?_
  refine wp_region_held_drew (S := fun w' => Chg w w' No) (by kernel_rfl) HC1.out.drew (fun hHeld => ?_)
  refine takeVal 0 7 (.pointer (some ⟨c.p, 0, none⟩)) rfl (by kernel_rfl) (by kernel_rfl) (by kernel_rfl) rfl (by rfl) (fun _ _ _ h => h) hHeld (fun W' hw' => rfl) ?_
  simp only [List.setIfInBounds_toArray, List.set_cons_zero, List.set_cons_succ]
  refine takeVal 1 8 (.pointer (some ⟨c.p, 0, none⟩)) rfl (by kernel_rfl) (by kernel_rfl) (by kernel_rfl) rfl (by rfl) (fun _ _ _ h => h) hHeld (fun W' hw' => by go_simp) ?_
  simp only [List.setIfInBounds_toArray, List.set_cons_zero, List.set_cons_succ]
  refine takeVal 2 9 (.pointer (some ⟨c.p, 4, none⟩)) rfl (by kernel_rfl) (by kernel_rfl) (by kernel_rfl) rfl (by rfl) (fun _ _ _ h => h) hHeld (fun W' hw' => by go_simp) ?_
  simp only [List.setIfInBounds_toArray, List.set_cons_zero, List.set_cons_succ]
  refine takeVal 3 10 (.map (some c.bb)) rfl (by kernel_rfl) (by kernel_rfl) (by kernel_rfl) rfl (by rfl) (fun _ _ _ h => h) hHeld (fun W' hw' => by have hc := HC4.out W' hw'; go_simp) ?_
  simp only [List.setIfInBounds_toArray, List.set_cons_zero, List.set_cons_succ]
  refine takeVal 5 12 (.pointer (some ⟨c.p, 0, none⟩)) rfl (by kernel_rfl) (by kernel_rfl) (by kernel_rfl) rfl (by rfl) (fun _ _ _ h => h) hHeld (fun W' hw' => rfl) ?_
  simp only [List.setIfInBounds_toArray, List.set_cons_zero, List.set_cons_succ]
  refine takeVal 6 13 (.pointer (some ⟨c.p, 0, none⟩)) rfl (by kernel_rfl) (by kernel_rfl) (by kernel_rfl) rfl (by rfl) (fun _ _ _ h => h) hHeld (fun W' hw' => by go_simp) ?_
  simp only [List.setIfInBounds_toArray, List.set_cons_zero, List.set_cons_succ]
  refine takeVal 7 14 (.pointer (some ⟨c.p, 5, none⟩)) rfl (by kernel_rfl) (by kernel_rfl) (by kernel_rfl) rfl (by rfl) (fun _ _ _ h => h) hHeld (fun W' hw' => by go_simp) ?_
  simp only [List.setIfInBounds_toArray, List.set_cons_zero, List.set_cons_succ]
  refine takeVal 8 15 (.slice a5 n5 cp5) rfl (by kernel_rfl) (by kernel_rfl) (by kernel_rfl) rfl (by rfl) (fun _ _ _ h => h) hHeld (fun W' hw' => by have hc := HC5.out W' hw'; go_simp) ?_
  simp only [List.setIfInBounds_toArray, List.set_cons_zero, List.set_cons_succ]
  refine takeVal 10 17 (.pointer (some ⟨c.p, 0, none⟩)) rfl (by kernel_rfl) (by kernel_rfl) (by kernel_rfl) rfl (by rfl) (fun _ _ _ h => h) hHeld (fun W' hw' => rfl) ?_
  simp only [List.setIfInBounds_toArray, List.set_cons_zero, List.set_cons_succ]
  refine takeVal 11 18 (.pointer (some ⟨c.p, 0, none⟩)) rfl (by kernel_rfl) (by kernel_rfl) (by kernel_rfl) rfl (by rfl) (fun _ _ _ h => h) hHeld (fun W' hw' => by go_simp) ?_
  simp only [List.setIfInBounds_toArray, List.set_cons_zero, List.set_cons_succ]
  refine takeVal 12 19 (.pointer (some ⟨c.p, 6, none⟩)) rfl (by kernel_rfl) (by kernel_rfl) (by kernel_rfl) rfl (by rfl) (fun _ _ _ h => h) hHeld (fun W' hw' => by go_simp) ?_
  simp only [List.setIfInBounds_toArray, List.set_cons_zero, List.set_cons_succ]
  refine takeVal 13 20 (.map (some c.nb)) rfl (by kernel_rfl) (by kernel_rfl) (by kernel_rfl) rfl (by rfl) (fun _ _ _ h => h) hHeld (fun W' hw' => by have hc := HC6.out W' hw'; go_simp) ?_
  simp only [List.setIfInBounds_toArray, List.set_cons_zero, List.set_cons_succ]
  obtain ⟨es1, cl1, hb1, hM1⟩ := (HH.out.call hHeld).bl.clone
  refine step1 4 (by kernel_rfl) ?_
  refine stCall 4 11 52 #[.map (some c.bb)] _ rfl rfl (by rfl) (by go_simp) (mcloneB c.bb es1 cl1 _ hb1) ?_
  rintro e w2 ⟨rfl, hw2⟩
  have hc2 : Chg w1.drew w2 No := by rw [hw2]; exact Chg.alloc _ _ No
  have hd2 : Chg w w2 No := hHeld.tr hc2
  have hM2 : MapV w2 w1.heap.size x.blk := by rw [hw2]; exact hM1
  have hz2 : w1.heap.size < w2.heap.size := hM2.lt
  refine ⟨_, rfl, hd2, ?_⟩
  simp only [List.setIfInBounds_toArray, List.set_cons_zero, List.set_cons_succ]
  clear hw2 hM1 hb1
  have hSl := slclone (HH.out.call hd2) HB.out
  rw [HV5.out] at hSl
  refine step1 9 (by kernel_rfl) ?_
  refine stCall 9 16 53 #[.slice a5 n5 cp5] _ rfl rfl (by rfl) (by go_simp) hSl ?_
  rintro e w3 ⟨v3, rfl, hI3, hc3⟩
  have hd3 : Chg w w3 No := hd2.tr hc3
  refine ⟨_, rfl, hd3, ?_⟩
  simp only [List.setIfInBounds_toArray, List.set_cons_zero, List.set_cons_succ]
  clear hSl
  obtain ⟨es4, cl4, hb4, hM4⟩ := (HH.out.call hd3).nm.clone
  refine step1 14 (by kernel_rfl) ?_
  refine stCall 14 21 54 #[.map (some c.nb)] _ rfl rfl (by rfl) (by go_simp) (mcloneT c.nb es4 cl4 _ hb4) ?_
  rintro e w4 ⟨rfl, hw4⟩
  have hc4 : Chg w3 w4 No := by rw [hw4]; exact Chg.alloc _ _ No
  have hd4 : Chg w w4 No := hd3.tr hc4
  have hM5 : MapT w4 w3.heap.size x.nm x.cnt := by rw [hw4]; exact hM4
  refine ⟨_, rfl, hd4, ?_⟩
  simp only [List.setIfInBounds_toArray, List.set_cons_zero, List.set_cons_succ]
  have hz3 := hc3.size
  have hz1 := HZ1.out
  have hgw := HGc.out
  have hQ4 : w4.heap[gc]? = some (.cells ND 97 (0, 0)) := hc4.keep (hc3.keep (hc2.keep (show w1.drew.heap[gc]? = _ from HQ1.out) (fun e => e)) (fun e => e)) (fun e => e)
  have hM2' : MapV w4 w1.heap.size x.blk := (hM2.keep hc3 (fun e => e)).keep hc4 (fun e => e)
  have hI4 : IOwn w4 w2.heap.size v3 x.sl := hI3.keep hc4 (fun _ _ e => e)
  have ho3 : v3.oneCell' = true := by obtain ⟨a, cp, e⟩ := hI3.shape; rw [e]; rfl
  have hz5 := hM5.lt
  clear hw4 hM4 hb4
  refine takeVal 15 22 (.pointer (some ⟨gc, 4, none⟩)) rfl (by kernel_rfl) (by kernel_rfl) (by kernel_rfl) rfl (by rfl) (fun _ _ _ h => h) hd4 (fun W' hw' => by go_simp) ?_
  simp only [List.setIfInBounds_toArray, List.set_cons_zero, List.set_cons_succ]
  refine step1 16 (by kernel_rfl) ?_
  have hq5 : (w4.setCell ⟨gc, 4, none⟩ (.map (some w1.heap.size))).heap[gc]? = some (.cells (ND.setIfInBounds 4 (.map (some w1.heap.size))) 97 (0, 0)) := heap_setCell_same w4 gc 4 _ _ _ hQ4
  have hc5 : Chg w4 (w4.setCell ⟨gc, 4, none⟩ (.map (some w1.heap.size))) (· = gc) := Chg.setCell
  have hd5 : Chg w (w4.setCell ⟨gc, 4, none⟩ (.map (some w1.heap.size))) No := hd4.trans hc5 (fun _ _ e => e) (fun j hj e => by omega)
  refine stSet 16 rfl rfl (by rfl) _ (run_storeAt 94 (.tmp 22) (.tmp 11) rfl gc 4 rfl (.map (some w1.heap.size)) rfl rfl (by kernel_rfl) 97 ND hQ4 (by rw [HSz.out]; omega)) ⟨hd5, ?_⟩
  obtain ⟨w5, hw5⟩ : ∃ y, y = w4.setCell ⟨gc, 4, none⟩ (.map (some w1.heap.size)) := ⟨_, rfl⟩
  rw [← hw5] at hq5 hc5 hd5 ⊢
  obtain ⟨N5, hN5⟩ : ∃ y, y = ND.setIfInBounds 4 (.map (some w1.heap.size)) := ⟨_, rfl⟩
  rw [← hN5] at hq5
  refine takeVal 17 23 (.pointer (some ⟨gc, 5, none⟩)) rfl (by kernel_rfl) (by kernel_rfl) (by kernel_rfl) rfl (by rfl) (fun _ _ _ h => h) hd5 (fun W' hw' => by go_simp) ?_
  simp only [List.setIfInBounds_toArray, List.set_cons_zero, List.set_cons_succ]
  refine step1 18 (by kernel_rfl) ?_
  have hq6 : (w5.setCell ⟨gc, 5, none⟩ v3).heap[gc]? = some (.cells (N5.setIfInBounds 5 v3) 97 (0, 0)) := heap_setCell_same w5 gc 5 _ _ _ hq5
  have hc6 : Chg w5 (w5.setCell ⟨gc, 5, none⟩ v3) (· = gc) := Chg.setCell
  have hd6 : Chg w (w5.setCell ⟨gc, 5, none⟩ v3) No := hd5.trans hc6 (fun _ _ e => e) (fun j hj e => by omega)
  refine stSet 18 rfl rfl (by rfl) _ (run_storeAt 55 (.tmp 23) (.tmp 16) rfl gc 5 rfl v3 rfl ho3 (by kernel_rfl) 97 N5 hq5 (by rw [hN5, Array.size_setIfInBounds, HSz.out]; omega)) ⟨hd6, ?_⟩
  obtain ⟨w6, hw6⟩ : ∃ y, y = w5.setCell ⟨gc, 5, none⟩ v3 := ⟨_, rfl⟩
  rw [← hw6] at hq6 hc6 hd6 ⊢
  obtain ⟨N6, hN6⟩ : ∃ y, y = N5.setIfInBounds 5 v3 := ⟨_, rfl⟩
  rw [← hN6] at hq6
  refine takeVal 19 24 (.pointer (some ⟨gc, 6, none⟩)) rfl (by kernel_rfl) (by kernel_rfl) (by kernel_rfl) rfl (by rfl) (fun _ _ _ h => h) hd6 (fun W' hw' => by go_simp) ?_
  simp only [List.setIfInBounds_toArray, List.set_cons_zero, List.set_cons_succ]
  refine step1 20 (by kernel_rfl) ?_
  have hq7 : (w6.setCell ⟨gc, 6, none⟩ (.map (some w3.heap.size))).heap[gc]? = some (.cells (N6.setIfInBounds 6 (.map (some w3.heap.size))) 97 (0, 0)) := heap_setCell_same w6 gc 6 _ _ _ hq6
  have hc7 : Chg w6 (w6.setCell ⟨gc, 6, none⟩ (.map (some w3.heap.size))) (· = gc) := Chg.setCell
  have hd7 : Chg w (w6.setCell ⟨gc, 6, none⟩ (.map (some w3.heap.size))) No := hd6.trans hc7 (fun _ _ e => e) (fun j hj e => by omega)
  refine stSet 20 rfl rfl (by rfl) _ (run_storeAt 95 (.tmp 24) (.tmp 21) rfl gc 6 rfl (.map (some w3.heap.size)) rfl rfl (by kernel_rfl) 97 N6 hq6 (by rw [hN6, hN5, Array.size_setIfInBounds, Array.size_setIfInBounds, HSz.out]; omega)) ⟨hd7, ?_⟩
  obtain ⟨w7, hw7⟩ : ∃ y, y = w6.setCell ⟨gc, 6, none⟩ (.map (some w3.heap.size)) := ⟨_, rfl⟩
  rw [← hw7] at hq7 hc7 hd7 ⊢
  refine wpAnyH_done (by kernel_rfl) ?_ _
  refine NoPanic.normal ?_
  have hcA : Chg w4 w7 (· = gc) := (hc5.trans hc6 (fun _ _ e => e) (fun _ _ e => e)).trans hc7 (fun _ _ e => e) (fun _ _ e => e)
  have hbk : ∀ k, v3.ownBlock = some k → w2.heap.size ≤ k := fun k e => (hI4.blk e).1
  have hI0 : IOwn w4 0 v3 x.sl := ⟨hI4.1, (by
        rcases hI4.2 with e | ⟨g, cap, cur, e1, e2, e3⟩
        · exact .inl e
        · exact .inr ⟨g, cap, cur, e1, Nat.zero_le _, e3⟩)⟩
  have HFin : Hid (∃ c' : NC, c'.p = gc ∧ IsN w7 c' x ∧ (∀ k, BlkN c' k → w.heap.size ≤ k) ∧ c'.B = 0) := hid ⟨⟨gc, w1.heap.size, w3.heap.size, v3, 0⟩, rfl, ⟨by
      rw [hq7]
      congr 2
      rw [hN6, hN5, HND.out]
      rfl, hM2'.keep hcA (by omega), IOwn.keep hI0 hcA (fun k e e2 => by have := hbk k e; omega), hM5.keep hcA (by omega), HH.out.cn, by show w1.heap.size ≠ w3.heap.size; omega, HH.out.len, HH.out.dom⟩, (fun k hk => by
      rcases hk with e | e | e | e
      · have e : k = gc := e; omega
      · have e : k = w1.heap.size := e; have := HC1.out.size; omega
      · have e : k = w3.heap.size := e; have := hd3.size; omega
      · have := hbk k e; have := hd2.size; omega), rfl⟩
  have HCf := hid hd7
  clear hHeld hc2 hd2 hM2 hz2 hI3 hc3 hd3 hc4 hd4 hM5 hz3 hz1 hgw hQ4 hM2' hI4 ho3 hz5 hq5 hc5 hd5 hw5 hN5 hq6 hc6 hd6 hw6 hN6 hq7 hc7 hd7 hw7 hcA hbk hI0
  go_wp2_with fail
  go_ret
  obtain ⟨c', e1, h1, h2, h3⟩ := HFin.out
  exact ⟨c', by rw [e1]; rfl, h1, HCf.out, h2, h3⟩
end Go.Proofs.YthpngfmckkfipaaGreatDoor
