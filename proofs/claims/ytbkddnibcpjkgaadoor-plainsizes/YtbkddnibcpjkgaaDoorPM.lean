/-
  package plain: how many nodes there are; Room; stat.
-/
import Derived.Test.YtbkddnibcpjkgaaDoorPK
namespace Go.Proofs.YtbkddnibcpjkgaaDoor
open Go.RowKit

/-- How many nodes there are. -/
def nodesN (s : PSt) : Nat := ((List.range 513).filter fun i : Nat => (s.nd (i : Int)).isSome).length
section
variable {w : World} {q : PC} {s : PSt}
theorem IsPl.some_iff (h : IsPl w q s) (i : Int) : ((q.nc i).map ptrN).isSome = (s.nd i).isSome := by
  cases hq : q.nc i with
  | none => rw [h.dom i hq]; rfl
  | some c =>
    obtain ⟨x, hx, _⟩ := h.nd i c hq
    rw [hx]
    rfl
theorem IsPl.rg (h : IsPl w q s) {i : Int} (hi : (s.nd i).isSome = true) : 1 ≤ i ∧ i ≤ 512 := h.rng i (fun e => by rw [h.dom i e] at hi; cases hi)
theorem nodup_filter (p : Nat → Bool) : ∀ n : Nat, (((List.range n).filter p).map (fun i : Nat => (i : Int))).Pairwise (· ≠ ·) := fun n => by
  rw [List.pairwise_map]
  refine List.Pairwise.filter _ ?_
  exact (List.nodup_range (n := n)).imp (fun hne e => hne (by omega))
theorem IsPl.len (h : IsPl w q s) (ty : TypeId) : (Builtin.len_ #[47] ty #[.map (some q.mb)]).run Tryd.prog w = .ok (.int .i64 (nodesN s : Nat)) w := by
  obtain ⟨D, ho, hh, _⟩ := h.mp
  rw [ho.len Tryd.underlying47 ty]
  obtain ⟨l, hp, hl, hm, _⟩ := keys_ofV ho
  have e : Maps.size D = nodesN s := by
    rw [← hl]
    have hs : ∀ x, x ∈ l ↔ (s.nd x).isSome = true := fun x => by rw [hm x, hh x, h.some_iff x]
    have k1 := nodup_len l (((List.range 513).filter fun i : Nat => (s.nd (i : Int)).isSome).map (fun i : Nat => (i : Int))) hp (fun x hx => by
      have hx := (hs x).1 hx
      have hr := h.rg hx
      refine List.mem_map.2 ⟨x.toNat, List.mem_filter.2 ⟨List.mem_range.2 (by omega), ?_⟩, by omega⟩
      rw [show ((x.toNat : Nat) : Int) = x by omega]
      exact hx)
    have k2 := nodup_len (((List.range 513).filter fun i : Nat => (s.nd (i : Int)).isSome).map (fun i : Nat => (i : Int))) l (nodup_filter _ 513) (fun x hx => by
      obtain ⟨i, hi, rfl⟩ := List.mem_map.1 hx
      exact (hs _).2 (List.mem_filter.1 hi).2)
    rw [List.length_map] at k1 k2
    unfold nodesN
    omega
  rw [e]
theorem len_runN {o : Oper} {a : Act} (x : Operand) (hop : o.op = Op.call { callee := Callee.builtin Builtin.len, args := #[x], argTypes := #[47] }) (hm : a.eval x = .map (some q.mb)) (h : IsPl w q s) : (execOp a.eval o).run Tryd.prog w = .ok (.value (.int .i64 (nodesN s : Nat))) w := by
  have e := h.len o.type
  simp [execOp, hop, resolve, invoke, builtin, hm, e, Result.andThen]
end
theorem field_run {o : Oper} {a : Act} (x : Operand) (hop : o.op = Op.field 96 x 1) (A : Array Value) (n : Int) (hx : a.eval x = .agg A) (h : ∀ W, (Instr.field 96 (.agg A) 1).run Tryd.prog W = .ok (.int .i64 n) W) (W : World) : (execOp a.eval o).run Tryd.prog W = .ok (.value (.int .i64 n)) W := by
  simp [execOp, hop, hx, h, Result.andThen]
theorem szRm : (Tryd.prog.info? 42).map (·.size) = some 3 := by kernel_rfl
theorem szSt : (Tryd.prog.info? 33).map (·.size) = some 6 := by kernel_rfl
theorem nodes_le (s : PSt) : nodesN s ≤ 513 := by
  unfold nodesN
  refine Nat.le_trans (List.length_filter_le _ _) ?_
  rw [List.length_range]
  exact Nat.le_refl _
/-- The numbers of a plain one. -/
structure NumP (s : PSt) : Prop where
  d0 : 0 ≤ s.data
  d1 : s.data ≤ 5000
  i0 : 0 ≤ s.ino
  i1 : s.ino ≤ 5000

set_option maxHeartbeats 2000000 in
set_option maxRecDepth 100000 in
theorem room_any {q : PC} {s : PSt} (w : World) (h : IsPl w q s) (hn : NumP s) :
    Calls Tryd.prog 9 #[.pointer (some ⟨q.p, 0, none⟩)] w fun e w' => e = .returned (.agg #[.int .i64 (s.data - (takenN s : Nat)), .int .i64 0, .int .i64 (s.ino - (nodesN s : Nat))]) ∧ Chg w w' No := by
  have HP := hid h
  have htb : takenN s ≤ 1102 * 513 := sumN_le s _ 513
  have hnb := nodes_le s
  have n1 := hn.d0
  have n2 := hn.d1
  have n3 := hn.i0
  have n4 := hn.i1
  have HLen : Hid (∀ (W : World), Chg w W No → ∀ (o : Oper) (a : Act) (x : Operand), o.op = Op.call { callee := Callee.builtin Builtin.len, args := #[x], argTypes := #[47] } → a.eval x = .map (some q.mb) → (execOp a.eval o).run Tryd.prog W = .ok (.value (.int .i64 (nodesN s : Nat))) W) := hid (fun W hW o a x hop hm => len_runN x hop hm (h.call hW))
  have HTk : Hid (∀ W, Chg w W No → Calls Tryd.prog 20 #[.pointer (some ⟨q.p, 0, none⟩)] W fun e w' => e = .returned (.int .i64 (takenN s : Nat)) ∧ Chg W w' No) := hid (fun W hW => taken_any W (h.call hW))
  have HQ0 : Hid (∀ W, Chg w W No → W.cell? ⟨q.p, 0, none⟩ = some (.int .i64 s.data)) := hid (fun W hW => (h.call hW).c0)
  have HQ1 : Hid (∀ W, Chg w W No → W.cell? ⟨q.p, 1, none⟩ = some (.int .i64 s.ino)) := hid (fun W hW => (h.call hW).c1)
  have HQ2 : Hid (∀ W, Chg w W No → W.cell? ⟨q.p, 2, none⟩ = some (.map (some q.mb))) := hid (fun W hW => (h.call hW).c2)
  obtain ⟨tn, htn⟩ : ∃ z, z = takenN s := ⟨_, rfl⟩
  obtain ⟨nn, hnn⟩ : ∃ z, z = nodesN s := ⟨_, rfl⟩
  obtain ⟨dt, hdt⟩ : ∃ z, z = s.data := ⟨_, rfl⟩
  obtain ⟨im, him⟩ : ∃ z, z = s.ino := ⟨_, rfl⟩
  rw [← htn] at HTk htb
  rw [← hnn] at HLen hnb
  rw [← hdt] at HQ0 n1 n2
  rw [← him] at HQ1 n3 n4
  rw [← htn, ← hnn, ← hdt, ← him]
  have wv1 : IntKind.i64.wrap (dt - (tn : Int)) = dt - (tn : Int) := by rw [IntKind.wrap_i64]; omega
  have wv2 : IntKind.i64.wrap (im - (nn : Int)) = im - (nn : Int) := by rw [IntKind.wrap_i64]; omega
  clear h hn htn hnn hdt him htb hnb n1 n2 n3 n4
  go_enter Tryd.func9, Tryd.ntmps9
  go_upto_region 1 with fail
  refine wp_region_noPanic ?_
  refine wp_region_held_drew (S := fun w' => Chg w w' No) (by kernel_rfl) (Chg.alloc w _ No).drew (fun hHeld => ?_)
  have hQ := heap_alloc_new w (.cells #[.int .i64 0, .int .i64 0, .int .i64 0] 42 (0, 0))
  refine takeVal 0 3 (.pointer (some ⟨q.p, 0, none⟩)) rfl (by kernel_rfl) (by kernel_rfl) (by kernel_rfl) rfl (by rfl) (fun _ _ _ h => h) hHeld (fun W' hw' => rfl) ?_
  simp only [List.setIfInBounds_toArray, List.set_cons_zero, List.set_cons_succ]
  refine takeVal 4 7 (.pointer (some ⟨q.p, 0, none⟩)) rfl (by kernel_rfl) (by kernel_rfl) (by kernel_rfl) rfl (by rfl) (fun _ _ _ h => h) hHeld (fun W' hw' => rfl) ?_
  simp only [List.setIfInBounds_toArray, List.set_cons_zero, List.set_cons_succ]
  refine takeVal 7 10 (.pointer (some ⟨q.p, 0, none⟩)) rfl (by kernel_rfl) (by kernel_rfl) (by kernel_rfl) rfl (by rfl) (fun _ _ _ h => h) hHeld (fun W' hw' => rfl) ?_
  simp only [List.setIfInBounds_toArray, List.set_cons_zero, List.set_cons_succ]
  refine takeVal 11 14 (.pointer (some ⟨q.p, 0, none⟩)) rfl (by kernel_rfl) (by kernel_rfl) (by kernel_rfl) rfl (by rfl) (fun _ _ _ h => h) hHeld (fun W' hw' => rfl) ?_
  simp only [List.setIfInBounds_toArray, List.set_cons_zero, List.set_cons_succ]
  refine takeVal 1 4 (.pointer (some ⟨q.p, 0, none⟩)) rfl (by kernel_rfl) (by kernel_rfl) (by kernel_rfl) rfl (by rfl) (fun _ _ _ h => h) hHeld (fun W' hw' => by go_simp) ?_
  simp only [List.setIfInBounds_toArray, List.set_cons_zero, List.set_cons_succ]
  refine takeVal 8 11 (.pointer (some ⟨q.p, 0, none⟩)) rfl (by kernel_rfl) (by kernel_rfl) (by kernel_rfl) rfl (by rfl) (fun _ _ _ h => h) hHeld (fun W' hw' => by go_simp) ?_
  simp only [List.setIfInBounds_toArray, List.set_cons_zero, List.set_cons_succ]
  refine takeVal 12 15 (.pointer (some ⟨q.p, 0, none⟩)) rfl (by kernel_rfl) (by kernel_rfl) (by kernel_rfl) rfl (by rfl) (fun _ _ _ h => h) hHeld (fun W' hw' => by go_simp) ?_
  simp only [List.setIfInBounds_toArray, List.set_cons_zero, List.set_cons_succ]
  refine takeVal 2 5 (.pointer (some ⟨q.p, 0, none⟩)) rfl (by kernel_rfl) (by kernel_rfl) (by kernel_rfl) rfl (by rfl) (fun _ _ _ h => h) hHeld (fun W' hw' => by go_simp) ?_
  simp only [List.setIfInBounds_toArray, List.set_cons_zero, List.set_cons_succ]
  refine takeVal 9 12 (.pointer (some ⟨q.p, 1, none⟩)) rfl (by kernel_rfl) (by kernel_rfl) (by kernel_rfl) rfl (by rfl) (fun _ _ _ h => h) hHeld (fun W' hw' => by go_simp) ?_
  simp only [List.setIfInBounds_toArray, List.set_cons_zero, List.set_cons_succ]
  refine takeVal 13 16 (.pointer (some ⟨q.p, 2, none⟩)) rfl (by kernel_rfl) (by kernel_rfl) (by kernel_rfl) rfl (by rfl) (fun _ _ _ h => h) hHeld (fun W' hw' => by go_simp) ?_
  simp only [List.setIfInBounds_toArray, List.set_cons_zero, List.set_cons_succ]
  refine takeVal 3 6 (.int .i64 dt) rfl (by kernel_rfl) (by kernel_rfl) (by kernel_rfl) rfl (by rfl) (fun _ _ _ h => h) hHeld (fun W' hw' => by have hc := HQ0.out W' hw'; go_simp) ?_
  simp only [List.setIfInBounds_toArray, List.set_cons_zero, List.set_cons_succ]
  refine takeVal 10 13 (.int .i64 im) rfl (by kernel_rfl) (by kernel_rfl) (by kernel_rfl) rfl (by rfl) (fun _ _ _ h => h) hHeld (fun W' hw' => by have hc := HQ1.out W' hw'; go_simp) ?_
  simp only [List.setIfInBounds_toArray, List.set_cons_zero, List.set_cons_succ]
  refine takeVal 14 17 (.map (some q.mb)) rfl (by kernel_rfl) (by kernel_rfl) (by kernel_rfl) rfl (by rfl) (fun _ _ _ h => h) hHeld (fun W' hw' => by have hc := HQ2.out W' hw'; go_simp) ?_
  simp only [List.setIfInBounds_toArray, List.set_cons_zero, List.set_cons_succ]
  refine step1 5 (by kernel_rfl) ?_
  refine stCall 5 8 20 #[.pointer (some ⟨q.p, 0, none⟩)] _ rfl rfl (by rfl) (by go_simp) (HTk.out _ hHeld) ?_
  rintro e w5 ⟨rfl, hc5⟩
  have hQ5 : w5.heap[w.heap.size]? = some (.cells #[.int .i64 0, .int .i64 0, .int .i64 0] 42 (0, 0)) := hc5.keep hQ (fun e => e)
  have hH5 : Chg w w5 No := hHeld.tr hc5
  refine ⟨_, rfl, hH5, ?_⟩
  simp only [List.setIfInBounds_toArray, List.set_cons_zero, List.set_cons_succ]
  refine takeVal 6 9 (.int .i64 (dt - (tn : Int))) rfl (by kernel_rfl) (by kernel_rfl) (by kernel_rfl) rfl (by rfl) (fun _ _ _ h => h) hH5 (fun W' hw' => by go_simp <;> exact wv1) ?_
  simp only [List.setIfInBounds_toArray, List.set_cons_zero, List.set_cons_succ]
  refine takeVal 15 18 (.int .i64 (nn : Nat)) rfl (by kernel_rfl) (by kernel_rfl) (by kernel_rfl) rfl (by rfl) (fun _ _ _ h => h) hH5 (fun W' hw' => HLen.out W' hw' _ _ (.tmp 17) rfl rfl) ?_
  simp only [List.setIfInBounds_toArray, List.set_cons_zero, List.set_cons_succ]
  refine takeVal 16 19 (.int .i64 (im - (nn : Int))) rfl (by kernel_rfl) (by kernel_rfl) (by kernel_rfl) rfl (by rfl) (fun _ _ _ h => h) hH5 (fun W' hw' => by go_simp <;> exact wv2) ?_
  simp only [List.setIfInBounds_toArray, List.set_cons_zero, List.set_cons_succ]
  refine takeVal 17 20 (.agg #[.int .i64 (dt - (tn : Int)), .int .i64 0, .int .i64 (im - (nn : Int))]) rfl (by kernel_rfl) (by kernel_rfl) (by kernel_rfl) rfl (by rfl) (fun _ _ _ h => h) hH5 (fun W' hw' => by go_simp) ?_
  simp only [List.setIfInBounds_toArray, List.set_cons_zero, List.set_cons_succ]
  refine step1 18 (by kernel_rfl) ?_
  refine stStoreR 18 42 (.tmp 2) (.tmp 20) w.heap.size #[.int .i64 (dt - (tn : Int)), .int .i64 0, .int .i64 (im - (nn : Int))] 42 #[.int .i64 0, .int .i64 0, .int .i64 0] rfl rfl (by rfl) rfl rfl rfl hQ5 (by rw [szRm]; rfl) rfl (by simp [Value.oneCell']) ?_
  intro wc hwc
  have hFin : Chg w wc No := hH5.trans (kt_new hwc) (fun _ _ e => e) (fun j hj e => by omega)
  refine ⟨hFin, ?_⟩
  refine wpAnyH_done (by kernel_rfl) ?_ _
  refine NoPanic.normal ?_
  have HFin := hid (And.intro hFin hwc.here)
  clear hHeld hH5 hQ hQ5 hc5 hwc hFin
  go_wp2_with fail
  exact bodyPost_ret (v := .agg #[.int .i64 (dt - (tn : Int)), .int .i64 0, .int .i64 (im - (nn : Int))]) (results_R1 Tryd.results9 _ _ w.heap.size _ 42 _ Tryd.underlying42 rfl (by rw [szRm]; rfl) rfl HFin.out.2) rfl ⟨rfl, HFin.out.1⟩

/-- What is told of a node. -/
noncomputable def statA (i : Int) (x : Nd) : Array Value := #[.int .i64 i, .int .i64 x.kind, .int .i64 x.links, .int .i64 (lenN x), .int .i64 x.made, .int .i64 (cardN x : Nat)]

set_option maxHeartbeats 2000000 in
set_option maxRecDepth 100000 in
theorem stat_any {q : PC} {s : PSt} {c : NC} {x : Nd} (i : Int) (w : World) (h : IsPl w q s) (hqc : q.nc i = some c) (hsx : s.nd i = some x) :
    Calls Tryd.prog 28 #[.pointer (some ⟨q.p, 0, none⟩), .int .i64 i] w fun e w' => e = .returned (.agg (statA i x)) ∧ Chg w w' No := by
  have hN : IsN w c x := by
    obtain ⟨x', h1, h2⟩ := h.nd i c hqc
    rw [hsx] at h1
    cases h1
    exact h2
  have hrg := h.rng i (by rw [hqc]; intro e; cases e)
  have hI : I64 i := ⟨by omega, by omega⟩
  obtain ⟨fm, hfm⟩ : ∃ y, y = (fun i => (q.nc i).map ptrN) := ⟨_, rfl⟩
  have HFi : Hid ((match fm i with | some v => v | none => Value.pointer none) = .pointer (some ⟨c.p, 0, none⟩)) := hid (by rw [hfm]; simp only [hqc, Option.map_some]; rfl)
  obtain ⟨w1, hw1⟩ : ∃ y, y = w.alloc (.cells #[.int .i64 0, .int .i64 0, .int .i64 0, .int .i64 0, .int .i64 0, .int .i64 0] 33) := ⟨_, rfl⟩
  have hc1 : Chg w w1 No := by rw [hw1]; exact Chg.alloc w _ No
  have HM : Hid (MapV w1 q.mb fm) := hid (by rw [hfm]; exact (h.call hc1).mp)
  have c2 := (h.call hc1).c2
  have HTl : Hid (∀ W, Chg w W No → Calls Tryd.prog 40 #[.pointer (some ⟨c.p, 0, none⟩)] W fun e w' => (∃ A, e = .returned (.agg A) ∧ ∀ W, (Instr.field 96 (.agg A) 1).run Tryd.prog W = .ok (.int .i64 (cardN x : Nat)) W) ∧ Chg W w' No) := hid (fun W hW => by
    refine (tally_any W (hN.call hW)).mono ?_
    rintro e w' ⟨⟨A, rfl, F, hA, hF⟩, hc⟩
    refine ⟨⟨A, rfl, fun W => ?_⟩, hc⟩
    rw [field_tal hA, cardN_of hF])
  have HLn : Hid (∀ W, Chg w W No → Calls Tryd.prog 48 #[.pointer (some ⟨c.p, 0, none⟩)] W fun e w' => e = .returned (.int .i64 (lenN x)) ∧ w' = W) := hid (fun W hW => length_any W (hN.call hW))
  have HQ0 : Hid (∀ W, Chg w W No → W.cell? ⟨c.p, 0, none⟩ = some (.int .i64 x.kind)) := hid (fun W hW => (hN.call hW).c0)
  have HQ1 : Hid (∀ W, Chg w W No → W.cell? ⟨c.p, 1, none⟩ = some (.int .i64 x.links)) := hid (fun W hW => (hN.call hW).c1)
  have HQ2 : Hid (∀ W, Chg w W No → W.cell? ⟨c.p, 2, none⟩ = some (.int .i64 x.made)) := hid (fun W hW => (hN.call hW).c2)
  unfold statA
  obtain ⟨vk, hvk⟩ : ∃ z, z = x.kind := ⟨_, rfl⟩
  obtain ⟨vl, hvl⟩ : ∃ z, z = x.links := ⟨_, rfl⟩
  obtain ⟨vm, hvm⟩ : ∃ z, z = x.made := ⟨_, rfl⟩
  obtain ⟨vn, hvn⟩ : ∃ z, z = lenN x := ⟨_, rfl⟩
  obtain ⟨vc, hvc⟩ : ∃ z, z = cardN x := ⟨_, rfl⟩
  rw [← hvk] at HQ0
  rw [← hvl] at HQ1
  rw [← hvm] at HQ2
  rw [← hvn] at HLn
  rw [← hvc] at HTl
  rw [← hvk, ← hvl, ← hvm, ← hvn, ← hvc]
  have hQ : w1.heap[w.heap.size]? = some (.cells #[.int .i64 0, .int .i64 0, .int .i64 0, .int .i64 0, .int .i64 0, .int .i64 0] 33 (0, 0)) := by rw [hw1]; exact heap_alloc_new w _
  have HQs := hid hQ
  have HC1 := hid hc1
  clear h hqc hsx hN hrg hfm hvk hvl hvm hvn hvc hQ hc1
  go_enter Tryd.func28, Tryd.ntmps28
  rw [hw1] at HM c2 HQs HC1
  clear hw1
  go_upto_region 2 with (first
    | (at_lookup; go_must (refine wp_lookVN rfl _ _ rfl q.mb fm i _ HFi.out rfl rfl HM.out hI ?_))
    | fail)
  refine wp_region_noPanic ?_
  refine wp_region_held_drew (S := fun w' => Chg w w' No) (by kernel_rfl) HC1.out.drew (fun hHeld => ?_)
  have hQ := HQs.out
  refine takeVal 0 12 (.int .i64 i) rfl (by kernel_rfl) (by kernel_rfl) (by kernel_rfl) rfl (by rfl) (fun _ _ _ h => h) hHeld (fun W' hw' => rfl) ?_
  simp only [List.setIfInBounds_toArray, List.set_cons_zero, List.set_cons_succ]
  refine takeVal 1 13 (.pointer (some ⟨c.p, 0, none⟩)) rfl (by kernel_rfl) (by kernel_rfl) (by kernel_rfl) rfl (by rfl) (fun _ _ _ h => h) hHeld (fun W' hw' => rfl) ?_
  simp only [List.setIfInBounds_toArray, List.set_cons_zero, List.set_cons_succ]
  refine takeVal 5 17 (.pointer (some ⟨c.p, 0, none⟩)) rfl (by kernel_rfl) (by kernel_rfl) (by kernel_rfl) rfl (by rfl) (fun _ _ _ h => h) hHeld (fun W' hw' => rfl) ?_
  simp only [List.setIfInBounds_toArray, List.set_cons_zero, List.set_cons_succ]
  refine takeVal 9 21 (.pointer (some ⟨c.p, 0, none⟩)) rfl (by kernel_rfl) (by kernel_rfl) (by kernel_rfl) rfl (by rfl) (fun _ _ _ h => h) hHeld (fun W' hw' => rfl) ?_
  simp only [List.setIfInBounds_toArray, List.set_cons_zero, List.set_cons_succ]
  refine takeVal 11 23 (.pointer (some ⟨c.p, 0, none⟩)) rfl (by kernel_rfl) (by kernel_rfl) (by kernel_rfl) rfl (by rfl) (fun _ _ _ h => h) hHeld (fun W' hw' => rfl) ?_
  simp only [List.setIfInBounds_toArray, List.set_cons_zero, List.set_cons_succ]
  refine takeVal 15 27 (.pointer (some ⟨c.p, 0, none⟩)) rfl (by kernel_rfl) (by kernel_rfl) (by kernel_rfl) rfl (by rfl) (fun _ _ _ h => h) hHeld (fun W' hw' => rfl) ?_
  simp only [List.setIfInBounds_toArray, List.set_cons_zero, List.set_cons_succ]
  refine takeVal 2 14 (.pointer (some ⟨c.p, 0, none⟩)) rfl (by kernel_rfl) (by kernel_rfl) (by kernel_rfl) rfl (by rfl) (fun _ _ _ h => h) hHeld (fun W' hw' => by go_simp) ?_
  simp only [List.setIfInBounds_toArray, List.set_cons_zero, List.set_cons_succ]
  refine takeVal 6 18 (.pointer (some ⟨c.p, 0, none⟩)) rfl (by kernel_rfl) (by kernel_rfl) (by kernel_rfl) rfl (by rfl) (fun _ _ _ h => h) hHeld (fun W' hw' => by go_simp) ?_
  simp only [List.setIfInBounds_toArray, List.set_cons_zero, List.set_cons_succ]
  refine takeVal 12 24 (.pointer (some ⟨c.p, 0, none⟩)) rfl (by kernel_rfl) (by kernel_rfl) (by kernel_rfl) rfl (by rfl) (fun _ _ _ h => h) hHeld (fun W' hw' => by go_simp) ?_
  simp only [List.setIfInBounds_toArray, List.set_cons_zero, List.set_cons_succ]
  refine takeVal 3 15 (.pointer (some ⟨c.p, 0, none⟩)) rfl (by kernel_rfl) (by kernel_rfl) (by kernel_rfl) rfl (by rfl) (fun _ _ _ h => h) hHeld (fun W' hw' => by go_simp) ?_
  simp only [List.setIfInBounds_toArray, List.set_cons_zero, List.set_cons_succ]
  refine takeVal 7 19 (.pointer (some ⟨c.p, 1, none⟩)) rfl (by kernel_rfl) (by kernel_rfl) (by kernel_rfl) rfl (by rfl) (fun _ _ _ h => h) hHeld (fun W' hw' => by go_simp) ?_
  simp only [List.setIfInBounds_toArray, List.set_cons_zero, List.set_cons_succ]
  refine takeVal 13 25 (.pointer (some ⟨c.p, 2, none⟩)) rfl (by kernel_rfl) (by kernel_rfl) (by kernel_rfl) rfl (by rfl) (fun _ _ _ h => h) hHeld (fun W' hw' => by go_simp) ?_
  simp only [List.setIfInBounds_toArray, List.set_cons_zero, List.set_cons_succ]
  refine takeVal 4 16 (.int .i64 vk) rfl (by kernel_rfl) (by kernel_rfl) (by kernel_rfl) rfl (by rfl) (fun _ _ _ h => h) hHeld (fun W' hw' => by have hc := HQ0.out W' hw'; go_simp) ?_
  simp only [List.setIfInBounds_toArray, List.set_cons_zero, List.set_cons_succ]
  refine takeVal 8 20 (.int .i64 vl) rfl (by kernel_rfl) (by kernel_rfl) (by kernel_rfl) rfl (by rfl) (fun _ _ _ h => h) hHeld (fun W' hw' => by have hc := HQ1.out W' hw'; go_simp) ?_
  simp only [List.setIfInBounds_toArray, List.set_cons_zero, List.set_cons_succ]
  refine takeVal 14 26 (.int .i64 vm) rfl (by kernel_rfl) (by kernel_rfl) (by kernel_rfl) rfl (by rfl) (fun _ _ _ h => h) hHeld (fun W' hw' => by have hc := HQ2.out W' hw'; go_simp) ?_
  simp only [List.setIfInBounds_toArray, List.set_cons_zero, List.set_cons_succ]
  refine step1 10 (by kernel_rfl) ?_
  refine stCall 10 22 48 #[.pointer (some ⟨c.p, 0, none⟩)] _ rfl rfl (by rfl) (by go_simp) (HLn.out _ hHeld) ?_
  rintro e w5 ⟨rfl, rfl⟩
  refine ⟨_, rfl, hHeld, ?_⟩
  simp only [List.setIfInBounds_toArray, List.set_cons_zero, List.set_cons_succ]
  refine step1 16 (by kernel_rfl) ?_
  refine stCall 16 28 40 #[.pointer (some ⟨c.p, 0, none⟩)] _ rfl rfl (by rfl) (by go_simp) (HTl.out _ hHeld) ?_
  rintro e w6 ⟨⟨A, rfl, hA⟩, hc6⟩
  have hQ6 : w6.heap[w.heap.size]? = some (.cells #[.int .i64 0, .int .i64 0, .int .i64 0, .int .i64 0, .int .i64 0, .int .i64 0] 33 (0, 0)) := hc6.keep hQ (fun e => e)
  have hH6 : Chg w w6 No := hHeld.tr hc6
  refine ⟨_, rfl, hH6, ?_⟩
  simp only [List.setIfInBounds_toArray, List.set_cons_zero, List.set_cons_succ]
  refine takeVal 17 29 (.int .i64 (vc : Nat)) rfl (by kernel_rfl) (by kernel_rfl) (by kernel_rfl) rfl (by rfl) (fun _ _ _ h => h) hH6 (fun W' hw' => field_run (.tmp 28) rfl A _ rfl hA _) ?_
  simp only [List.setIfInBounds_toArray, List.set_cons_zero, List.set_cons_succ]
  refine takeVal 18 30 (.agg #[.int .i64 i, .int .i64 vk, .int .i64 vl, .int .i64 vn, .int .i64 vm, .int .i64 (vc : Nat)]) rfl (by kernel_rfl) (by kernel_rfl) (by kernel_rfl) rfl (by rfl) (fun _ _ _ h => h) hH6 (fun W' hw' => by go_simp) ?_
  simp only [List.setIfInBounds_toArray, List.set_cons_zero, List.set_cons_succ]
  refine step1 19 (by kernel_rfl) ?_
  refine stStoreR 19 33 (.tmp 4) (.tmp 30) w.heap.size #[.int .i64 i, .int .i64 vk, .int .i64 vl, .int .i64 vn, .int .i64 vm, .int .i64 (vc : Nat)] 33 #[.int .i64 0, .int .i64 0, .int .i64 0, .int .i64 0, .int .i64 0, .int .i64 0] rfl rfl (by rfl) rfl rfl rfl hQ6 (by rw [szSt]; rfl) rfl (by simp [Value.oneCell']) ?_
  intro wc hwc
  have hFin : Chg w wc No := hH6.trans (kt_new hwc) (fun _ _ e => e) (fun j hj e => by omega)
  refine ⟨hFin, ?_⟩
  refine wpAnyH_done (by kernel_rfl) ?_ _
  refine NoPanic.normal ?_
  have HFin := hid (And.intro hFin hwc.here)
  clear hHeld hH6 hQ hQ6 hc6 hwc hFin hA
  go_wp2_with fail
  exact bodyPost_ret (v := .agg #[.int .i64 i, .int .i64 vk, .int .i64 vl, .int .i64 vn, .int .i64 vm, .int .i64 (vc : Nat)]) (results_R1 Tryd.results28 _ _ w.heap.size _ 33 _ Tryd.underlying33 rfl (by rw [szSt]; rfl) rfl HFin.out.2) rfl ⟨rfl, HFin.out.1⟩
end Go.Proofs.YtbkddnibcpjkgaaDoor
