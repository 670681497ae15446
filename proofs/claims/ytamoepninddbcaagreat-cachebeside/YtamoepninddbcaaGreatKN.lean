/-
  The document's cache: Edges.
-/
import Derived.Test.YtamoepninddbcaaGreatKM
namespace Go.Proofs.YtamoepninddbcaaGreat
open Go.RowKit

theorem guardK : Tryz.prog.eqGuardType Tryz.prog.depth 73 = false := by kernel_rfl
theorem eqK (a b c d : Int) (w : World) : (Op.equalIn 10000 73 (.agg #[.int .i64 a, .int .i64 b]) (.agg #[.int .i64 c, .int .i64 d])).run Tryz.prog w = .ok (a == c && b == d) w := by
  have hS : Tryz.prog.underlying 73 = some (.struct (Tryz.prog.fieldsOf 73)) := by kernel_rfl
  have hp : Tryz.prog.stoodInHeld 73 = false := by kernel_rfl
  have u3 := Tryz.underlying3
  have a3 := Tryz.isAgg3
  have z3 := Tryz.sizeOf3
  rw [show (10000 : Nat) = 9999 + 1 from rfl, run_equalIn_agg w 9999 73 _ _ hS hp]
  simp only [Program.fieldsOf, Tryz.underlying73]
  go_simp
  by_cases h1 : a = c <;> by_cases h2 : b = d <;> simp [h1, h2]
theorem szEK : (Tryz.prog.info? 73).map (·.size) = some 2 := by kernel_rfl
theorem edge_rangeK {w : World} {g k : Nat} {x : Int × Int} (h0 : w.cell? ⟨g, k, none⟩ = some (.int .i64 x.1)) (h1 : w.cell? ⟨g, k + 1, none⟩ = some (.int .i64 x.2)) : w.rangeAt g k [.int .i64 x.1, .int .i64 x.2] := by
  intro i v hv
  match i, hv with
  | 0, hv => simp at hv; subst hv; exact h0
  | 1, hv => simp at hv; subst hv; exact h1
  | i + 2, hv => simp at hv
theorem load_edgeK {w : World} {g k : Nat} {x : Int × Int} (h : w.rangeAt g k [.int .i64 x.1, .int .i64 x.2]) : (loadVar 73 ⟨g, k, none⟩).run Tryz.prog w = .ok (.agg #[.int .i64 x.1, .int .i64 x.2]) w :=
  run_loadVar_mid w g k 73 [.int .i64 x.1, .int .i64 x.2] _ h Tryz.underlying73 rfl (by rw [szEK]; rfl)
theorem build_edgeK (a b : Int) (w : World) : (Instr.build 73 #[(0, .int .i64 a), (1, .int .i64 b)]).run Tryz.prog w = .ok (.agg #[.int .i64 a, .int .i64 b]) w := by kernel_rfl
theorem zero_edgeK (w : World) : (zeroValue 73).run Tryz.prog w = .ok (.agg #[.int .i64 0, .int .i64 0]) w := by kernel_rfl
section
variable {ops : Array Oper} {Q : Exit → Act → World → Prop} {S : World → Prop} {fuel : Nat} {listed : Array Bool} {a : Act} {w : World}
theorem takeEK (i d : Nat) (x : Operand) (g k : Nat) (y : Int × Int) {o : Oper} (hop : ops[i]? = some o) (hs : Region.noSelect ops = true) (hf : Region.free .any ops listed i = true) (hr : (Region.ready .any ops listed).contains i = true)
    (hd : o.dst = some d) (ho : o.op = .load 73 x) (hx : a.eval x = .pointer (some ⟨g, k, none⟩)) (hw : Region.wanted o (yielded ops a.tmps) = true) (hQ : ∀ c a w, ¬ Q (.panic c) a w) (hS : S w)
    (hg : ∀ w, S w → w.rangeAt g k [.int .i64 y.1, .int .i64 y.2])
    (h : wpAnyH Tryz.prog .any ops Q S fuel (listed.setIfInBounds i true) { a with tmps := a.tmps.setIfInBounds d (.agg #[.int .i64 y.1, .int .i64 y.2]) } w) : wpAnyH Tryz.prog .any ops Q S (fuel + 1) listed a w := by
  refine takeVal i d _ hop hs hf hr hd hw hQ hS (fun w hw' => ?_) h
  unfold execOp
  simp only [ho, hx, Instr.loadAt, Instr.sureAddr, Sem.run_bind, Sem.run_pure, Result.andThen_ok, load_edgeK (hg w hw')]
end
/-- Those of some edges that begin at a, by where they end. -/
def rowE (W : List (Int × Int)) (a : Int) (L : List Int) : List (Int × Int) := (L.filter fun b => decide ((a, b) ∈ W)).map fun b => (a, b)
theorem rowE_snoc (W : List (Int × Int)) (a : Int) (L : List Int) (b : Int) : rowE W a (L ++ [b]) = rowE W a L ++ if (a, b) ∈ W then [(a, b)] else [] := by
  unfold rowE
  rw [List.filter_append, List.map_append]
  congr 1
  by_cases h : (a, b) ∈ W
  · rw [if_pos h]; simp [h]
  · rw [if_neg h]; simp [h]
theorem rowE_len (W : List (Int × Int)) (a : Int) (L : List Int) : (rowE W a L).length ≤ L.length := by
  unfold rowE
  rw [List.length_map]
  exact List.length_filter_le _ _
theorem flat_lenK (W : List (Int × Int)) (S : List Int) (hS : S.length ≤ 4096) : ∀ L : List Int, (L.flatMap fun a => rowE W a S).length ≤ L.length * 4096
  | [] => Nat.le_refl _
  | a :: L => by
    have h1 := rowE_len W a S
    have h2 := flat_lenK W S hS L
    rw [List.flatMap_cons, List.length_append, List.length_cons, Nat.add_mul]
    omega
theorem edAll_is {n : Nat} {z : CSt} {W : List (Int × Int)} (hi : CInv n z) (hw : ∀ a b, (a, b) ∈ W ↔ z.E a b) : EList z.E ((secs z.dirty).flatMap fun a => rowE W a (secs z.dirty)) := by
  refine ⟨List.pairwise_flatMap.2 ⟨fun a _ => ?_, ?_⟩, fun x => ?_⟩
  · unfold rowE
    rw [List.pairwise_map]
    refine ((secs_up z.dirty).filter _).imp fun {b c} h => ?_
    exact .inr ⟨rfl, h⟩
  · refine (secs_up z.dirty).imp fun {a b} h => ?_
    intro x hx y hy
    unfold rowE at hx hy
    obtain ⟨_, _, rfl⟩ := List.mem_map.1 hx
    obtain ⟨_, _, rfl⟩ := List.mem_map.1 hy
    exact .inl h
  · obtain ⟨p, q⟩ := x
    rw [List.mem_flatMap]
    constructor
    · rintro ⟨a, _, hx⟩
      unfold rowE at hx
      obtain ⟨b, hb, e⟩ := List.mem_map.1 hx
      cases e
      have := (List.mem_filter.1 hb).2
      simp only [decide_eq_true_eq] at this
      exact (hw _ _).1 this
    · intro h
      have hd := hi.ed _ _ h
      refine ⟨p, secs_mem.2 ⟨hi.sec hd.1, hd.1⟩, ?_⟩
      unfold rowE
      exact List.mem_map.2 ⟨q, List.mem_filter.2 ⟨secs_mem.2 ⟨hi.sec hd.2, hd.2⟩, by simpa using (hw _ _).2 h⟩, rfl⟩
section
variable {r rd n : Nat} {ρ : Nat → Option RRole} {z : CSt}
set_option maxHeartbeats 8000000 in
set_option maxRecDepth 100000 in
theorem redges_any (w : World) (h : IsRC w r rd n ρ z) : Calls Tryz.prog 87 #[.pointer (some ⟨r, 0, none⟩)] w fun e w' => ∃ v l, e = .returned v ∧ Edgs w' w.heap.size v l ∧ EList z.E l ∧ Chg w w' No := by
  obtain ⟨rk, rc, X, v0, v1, lv, tv, W, h⟩ := h
  have hn4 := secs_len z.dirty
  have hfw := h.few
  have HAll := hid (edAll_is h.inv h.we)
  have HNd := hid h.wd
  obtain ⟨S, hS⟩ : ∃ y, y = secs z.dirty := ⟨_, rfl⟩
  obtain ⟨m, hm⟩ : ∃ y, y = (secs z.dirty).length := ⟨_, rfl⟩
  obtain ⟨m2, hm2⟩ : ∃ y, y = W.length := ⟨_, rfl⟩
  obtain ⟨a, cp, hpv⟩ := row_shK h.it
  obtain ⟨a2, cp2, hpv2⟩ := row_shK h.wy
  have n1 : (m : Int) ≤ 4096 := by omega
  have n2 : (m2 : Int) ≤ 16777216 := by omega
  have HIt : Hid (∀ W', Chg w W' No → ∀ (i : Nat) y, S[i]? = some y → ∃ g, a = some ⟨g, 0, none⟩ ∧ W'.cell? ⟨g, i * 130, none⟩ = some (.int .i64 y)) := hid (fun W' hW i y hi => by
    rw [hS] at hi
    obtain ⟨g, cp9, e1, _, e2, _⟩ := (h.call hW).item hi
    rw [hpv] at e1
    cases e1
    exact ⟨g, rfl, e2⟩)
  have HEd : Hid (∀ W', Chg w W' No → ∀ (i : Nat) y, W[i]? = some y → ∃ g, a2 = some ⟨g, 0, none⟩ ∧ W'.cell? ⟨g, i * 2, none⟩ = some (.int .i64 y.1) ∧ W'.cell? ⟨g, i * 2 + 1, none⟩ = some (.int .i64 y.2)) := hid (fun W' hW i y hi => by
    obtain ⟨g, cp9, e1, _, e2, e3⟩ := (h.call hW).edge hi
    rw [hpv2] at e1
    cases e1
    exact ⟨g, rfl, e2, e3⟩)
  have HK1 : Hid (∀ W', Chg w W' No → W'.cell? ⟨r, 1, none⟩ = some (.slice a m cp)) := hid (fun W' hW => by
    have := (h.call hW).c1
    rw [hpv, ← hm] at this
    exact this)
  have HK2 : Hid (∀ W', Chg w W' No → W'.cell? ⟨r, 2, none⟩ = some (.slice a2 m2 cp2)) := hid (fun W' hW => by
    have := (h.call hW).c2
    rw [hpv2, ← hm2] at this
    exact this)
  rw [← hS] at HAll hm hn4
  have HM := hid hm
  have HM2 := hid hm2
  have HS4 := hid hn4
  clear hm hm2 h hpv hpv2 hn4 hfw hS
  go_enter Tryz.func87, Tryz.ntmps87
  go_wp2_with fail
  go_loopw [3, 4, 5, 6, 7] (fun x3 x4 _ _ _ wr => ∃ (v : Value) (i : Nat), v = x3 ∧ x4 = .int .i64 (i : Int) ∧ i ≤ m ∧ Hid (Edgs wr w.heap.size v ((S.take i).flatMap fun a => rowE W a S) ∧ Chg w wr No)) (fun _ x4 _ _ _ _ => m - (intOf x4).toNat)
  case atStart => exact ⟨_, 0, rfl, rfl, Nat.zero_le _, hid ⟨World.ownsRow_nil _ _ _ _, Chg.refl _ _⟩⟩
  case round =>
    obtain ⟨v, i, rfl, rfl, hi, HA⟩ := hrel
    have i0 : (0 : Int) ≤ (i : Int) := by omega
    have q1 := HK1.out wr HA.out.2
    by_cases hlt : i < m
    · have i1 : (i : Int) < (m : Int) := by omega
      obtain ⟨p, hp⟩ : ∃ e, S[i]? = some e := ⟨_, List.getElem?_eq_getElem (by rw [← HM.out]; exact hlt)⟩
      have HP := hid hp
      have HTk := hid (take_one hp)
      have HBl : Hid (((S.take i).flatMap fun a => rowE W a S).length ≤ 16777216) := hid (by
        have := flat_lenK W S HS4.out (S.take i)
        have h2 : (S.take i).length ≤ 4096 := by rw [List.length_take]; have := HS4.out; omega
        have := Nat.mul_le_mul_right 4096 h2
        omega)
      clear hp
      go_wp2_with fail
      go_loopw [3, 5, 6, 7] (fun x3 x5 _ _ wr => ∃ (v : Value) (k : Nat), v = x3 ∧ x5 = .int .i64 (k : Int) ∧ k ≤ m ∧ Hid (Edgs wr w.heap.size v (((S.take i).flatMap fun a => rowE W a S) ++ rowE W p (S.take k)) ∧ Chg w wr No)) (fun _ x5 _ _ _ => m - (intOf x5).toNat)
      case atStart => exact ⟨_, 0, rfl, rfl, Nat.zero_le _, hid ⟨by rw [List.take_zero]; show Edgs _ _ _ (_ ++ []); rw [List.append_nil]; exact HA.out.1, HA.out.2⟩⟩
      case round =>
        obtain ⟨v, k, rfl, rfl, hk, HB⟩ := hrel
        have k0 : (0 : Int) ≤ (k : Int) := by omega
        have q1 := HK1.out wr HB.out.2
        by_cases hlk : k < m
        · have k1 : (k : Int) < (m : Int) := by omega
          obtain ⟨q, hq⟩ : ∃ e, S[k]? = some e := ⟨_, List.getElem?_eq_getElem (by rw [← HM.out]; exact hlk)⟩
          have HTq := hid (take_one hq)
          obtain ⟨g, hga, _⟩ := HIt.out wr HB.out.2 i p HP.out
          subst hga
          have HP1 : Hid (∀ W', Chg wr W' No → W'.cell? ⟨g, i * 130, none⟩ = some (.int .i64 p)) := hid (fun W' hW => by
            obtain ⟨g9, e9, h9⟩ := HIt.out W' (HB.out.2.tr hW) i p HP.out
            cases e9
            exact h9)
          have HP2 : Hid (∀ W', Chg wr W' No → W'.cell? ⟨g, k * 130, none⟩ = some (.int .i64 q)) := hid (fun W' hW => by
            obtain ⟨g9, e9, h9⟩ := HIt.out W' (HB.out.2.tr hW) k q hq
            cases e9
            exact h9)
          have HK1r : Hid (∀ W', Chg wr W' No → W'.cell? ⟨r, 1, none⟩ = some (.slice (some ⟨g, 0, none⟩) m cp)) := hid (fun W' hW => HK1.out W' (HB.out.2.tr hW))
          clear hq
          go_upto_region 8 with fail
          clear q1
          refine wp_region_noPanic ?_
          refine wp_region_held_drew (S := fun W => Chg wr W No) (by kernel_rfl) (Chg.refl wr No).drew (fun hHeld => ?_)
          refine takeVal 0 26 (.pointer (some ⟨r, 0, none⟩)) rfl (by kernel_rfl) (by kernel_rfl) (by kernel_rfl) rfl (by rfl) (fun _ _ _ h => h) hHeld (fun _ hw' => rfl) ?_
          simp only [List.setIfInBounds_toArray, List.set_cons_zero, List.set_cons_succ]
          refine takeVal 1 27 (.pointer (some ⟨r, 0, none⟩)) rfl (by kernel_rfl) (by kernel_rfl) (by kernel_rfl) rfl (by rfl) (fun _ _ _ h => h) hHeld (fun _ hw' => by go_simp) ?_
          simp only [List.setIfInBounds_toArray, List.set_cons_zero, List.set_cons_succ]
          refine takeVal 2 28 (.pointer (some ⟨r, 1, none⟩)) rfl (by kernel_rfl) (by kernel_rfl) (by kernel_rfl) rfl (by rfl) (fun _ _ _ h => h) hHeld (fun _ hw' => by go_simp) ?_
          simp only [List.setIfInBounds_toArray, List.set_cons_zero, List.set_cons_succ]
          refine takeVal 3 29 (.slice (some ⟨g, 0, none⟩) m cp) rfl (by kernel_rfl) (by kernel_rfl) (by kernel_rfl) rfl (by rfl) (fun _ _ _ h => h) hHeld (fun _ hw' => by have hc := HK1r.out _ hw'; go_simp) ?_
          simp only [List.setIfInBounds_toArray, List.set_cons_zero, List.set_cons_succ]
          refine takeVal 4 30 (.int .i64 (i : Int)) rfl (by kernel_rfl) (by kernel_rfl) (by kernel_rfl) rfl (by rfl) (fun _ _ _ h => h) hHeld (fun _ hw' => rfl) ?_
          simp only [List.setIfInBounds_toArray, List.set_cons_zero, List.set_cons_succ]
          refine takeVal 5 31 (.pointer (some ⟨g, i * 130, none⟩)) rfl (by kernel_rfl) (by kernel_rfl) (by kernel_rfl) rfl (by rfl) (fun _ _ _ h => h) hHeld (fun _ hw' => by go_simp) ?_
          simp only [List.setIfInBounds_toArray, List.set_cons_zero, List.set_cons_succ]
          refine takeVal 6 32 (.pointer (some ⟨g, i * 130, none⟩)) rfl (by kernel_rfl) (by kernel_rfl) (by kernel_rfl) rfl (by rfl) (fun _ _ _ h => h) hHeld (fun _ hw' => by go_simp) ?_
          simp only [List.setIfInBounds_toArray, List.set_cons_zero, List.set_cons_succ]
          refine takeVal 7 33 (.int .i64 p) rfl (by kernel_rfl) (by kernel_rfl) (by kernel_rfl) rfl (by rfl) (fun _ _ _ h => h) hHeld (fun _ hw' => by have hc := HP1.out _ hw'; go_simp) ?_
          simp only [List.setIfInBounds_toArray, List.set_cons_zero, List.set_cons_succ]
          refine takeVal 8 34 (.pointer (some ⟨r, 0, none⟩)) rfl (by kernel_rfl) (by kernel_rfl) (by kernel_rfl) rfl (by rfl) (fun _ _ _ h => h) hHeld (fun _ hw' => rfl) ?_
          simp only [List.setIfInBounds_toArray, List.set_cons_zero, List.set_cons_succ]
          refine takeVal 9 35 (.pointer (some ⟨r, 0, none⟩)) rfl (by kernel_rfl) (by kernel_rfl) (by kernel_rfl) rfl (by rfl) (fun _ _ _ h => h) hHeld (fun _ hw' => by go_simp) ?_
          simp only [List.setIfInBounds_toArray, List.set_cons_zero, List.set_cons_succ]
          refine takeVal 10 36 (.pointer (some ⟨r, 1, none⟩)) rfl (by kernel_rfl) (by kernel_rfl) (by kernel_rfl) rfl (by rfl) (fun _ _ _ h => h) hHeld (fun _ hw' => by go_simp) ?_
          simp only [List.setIfInBounds_toArray, List.set_cons_zero, List.set_cons_succ]
          refine takeVal 11 37 (.slice (some ⟨g, 0, none⟩) m cp) rfl (by kernel_rfl) (by kernel_rfl) (by kernel_rfl) rfl (by rfl) (fun _ _ _ h => h) hHeld (fun _ hw' => by have hc := HK1r.out _ hw'; go_simp) ?_
          simp only [List.setIfInBounds_toArray, List.set_cons_zero, List.set_cons_succ]
          refine takeVal 12 38 (.int .i64 (k : Int)) rfl (by kernel_rfl) (by kernel_rfl) (by kernel_rfl) rfl (by rfl) (fun _ _ _ h => h) hHeld (fun _ hw' => rfl) ?_
          simp only [List.setIfInBounds_toArray, List.set_cons_zero, List.set_cons_succ]
          refine takeVal 13 39 (.pointer (some ⟨g, k * 130, none⟩)) rfl (by kernel_rfl) (by kernel_rfl) (by kernel_rfl) rfl (by rfl) (fun _ _ _ h => h) hHeld (fun _ hw' => by go_simp) ?_
          simp only [List.setIfInBounds_toArray, List.set_cons_zero, List.set_cons_succ]
          refine takeVal 14 40 (.pointer (some ⟨g, k * 130, none⟩)) rfl (by kernel_rfl) (by kernel_rfl) (by kernel_rfl) rfl (by rfl) (fun _ _ _ h => h) hHeld (fun _ hw' => by go_simp) ?_
          simp only [List.setIfInBounds_toArray, List.set_cons_zero, List.set_cons_succ]
          refine takeVal 15 41 (.int .i64 q) rfl (by kernel_rfl) (by kernel_rfl) (by kernel_rfl) rfl (by rfl) (fun _ _ _ h => h) hHeld (fun _ hw' => by have hc := HP2.out _ hw'; go_simp) ?_
          simp only [List.setIfInBounds_toArray, List.set_cons_zero, List.set_cons_succ]
          refine takeVal 16 42 (.agg #[.int .i64 p, .int .i64 q]) rfl (by kernel_rfl) (by kernel_rfl) (by kernel_rfl) rfl (by rfl) (fun _ _ _ h => h) hHeld (fun _ hw' => by have hb := build_edgeK p q; go_simp) ?_
          simp only [List.setIfInBounds_toArray, List.set_cons_zero, List.set_cons_succ]
          refine step1 17 (by kernel_rfl) ?_
          have hze := zero_edgeK
          refine stNew 17 6 (.pointer (some ⟨wr.drew.heap.size, 0, none⟩)) (.cells #[.int .i64 0, .int .i64 0] 73) rfl rfl (by rfl) (by go_simp) ⟨hHeld.tr (Chg.alloc _ _ _), ?_⟩
          have hHeld := hHeld.tr (Chg.alloc wr.drew (.cells #[.int .i64 0, .int .i64 0] 73) No)
          clear hze
          simp only [List.setIfInBounds_toArray, List.set_cons_zero, List.set_cons_succ]
          refine step1 18 (by kernel_rfl) ?_
          refine stStoreRow 18 rfl rfl (by rfl) 73 _ _ rfl wr.drew.heap.size rfl #[.int .i64 p, .int .i64 q] rfl #[.int .i64 0, .int .i64 0] (heap_alloc_new _ _) szEK rfl (by simp [Value.oneCell']) ?_
          intro w3 hw3
          have hHeld3 : Chg wr w3 No := hHeld.trans (Chg.of_mod hw3.mod) (fun _ _ e => e) (fun j hj e => by have e2 : j = wr.heap.size := (by simpa using e); omega)
          refine ⟨hHeld3, ?_⟩
          refine wpAnyH_done (by kernel_rfl) ?_ _
          refine NoPanic.normal ?_
          obtain ⟨ge, hge⟩ : ∃ y, y = wr.drew.heap.size := ⟨_, rfl⟩
          rw [← hge]
          have HE3 : Hid (w3.heap[ge]? = some (.cells #[.int .i64 p, .int .i64 q] 73 (0, 0))) := hid (by rw [hge]; exact hw3.here)
          have HC3 := hid hHeld3
          have HV3 := hid (fun (e : v.ownBlock = some ge) => by have h1 := (row_ge HB.out.1 e).2; have h2 : ge = wr.heap.size := hge; omega : ¬ v.ownBlock = some ge)
          clear hge
          clear hHeld hHeld3 hw3
          obtain ⟨wb, hwb⟩ : ∃ y, y = wr := ⟨_, rfl⟩
          subst hwb
          go_wp2_with fail
          go_loopw [3, 7] (fun x3 x7 wr => ∃ (u : Value) (j : Nat), u = x3 ∧ x7 = .int .i64 (j : Int) ∧ j ≤ m2 ∧ Hid (Edgs wr w.heap.size u ((((S.take i).flatMap fun a => rowE W a S) ++ rowE W p (S.take k)) ++ if (p, q) ∈ W.take j then [(p, q)] else []) ∧ Chg w3 wr (fun b => w.heap.size ≤ b ∧ b ≠ ge) ∧ ¬ u.ownBlock = some ge)) (fun _ x7 _ => m2 - (intOf x7).toNat)
          case atStart => exact ⟨_, 0, rfl, rfl, Nat.zero_le _, hid ⟨by rw [List.take_zero, if_neg (by simp), List.append_nil]; exact row_keep HB.out.1 HC3.out (fun _ _ e => e), Chg.refl _ _, HV3.out⟩⟩
          case round =>
            obtain ⟨u, j, rfl, rfl, hj, HD⟩ := hrel
            have j0 : (0 : Int) ≤ (j : Int) := by omega
            have HCw : Hid (Chg w wr No) := hid ((HB.out.2.tr HC3.out).trans HD.out.2.1 (fun _ _ e => e) (fun b hb e => by have := e.1; omega))
            have HE4 := hid (HD.out.2.1.keep HE3.out (fun e => e.2 rfl))
            have q2 := HK2.out wr HCw.out
            by_cases hlj : j < m2
            · have j1 : (j : Int) < (m2 : Int) := by omega
              obtain ⟨y, hy⟩ : ∃ e, W[j]? = some e := ⟨_, List.getElem?_eq_getElem (by rw [← HM2.out]; exact hlj)⟩
              obtain ⟨g2, hga2, _⟩ := HEd.out wr HCw.out j y hy
              subst hga2
              have HR1 : Hid (∀ W', Chg wr W' No → W'.rangeAt g2 (j * 2) [.int .i64 y.1, .int .i64 y.2]) := hid (fun W' hW => by
                obtain ⟨g9, e9, h9, h10⟩ := HEd.out W' (HCw.out.tr hW) j y hy
                cases e9
                exact edge_rangeK h9 h10)
              have HR2 : Hid (∀ W', Chg wr W' No → W'.rangeAt ge 0 [.int .i64 p, .int .i64 q]) := hid (fun W' hW => by
                have := hW.keep HE4.out (fun e => e)
                exact edge_rangeK (x := (p, q)) (by rw [cell_of_row _ _ _ _ _ _ this]; rfl) (by rw [cell_of_row _ _ _ _ _ _ this]; rfl))
              have HK2r : Hid (∀ W', Chg wr W' No → W'.cell? ⟨r, 2, none⟩ = some (.slice (some ⟨g2, 0, none⟩) m2 cp2)) := hid (fun W' hW => HK2.out W' (HCw.out.tr hW))
              have HTj : Hid (W.take (j + 1) = W.take j ++ [y]) := hid (by rw [List.take_add_one, hy]; rfl)
              have HYn : Hid (y ∉ W.take j) := hid (fun e => by
                have h9 : (W.take (j + 1)).Nodup := HNd.out.sublist (List.take_sublist _ _)
                rw [HTj.out] at h9
                exact (List.nodup_append.1 h9).2.2 y e y (List.mem_singleton.2 rfl) rfl)
              clear hy
              have heq := eqK
              have hgd := guardK
              go_upto_region 12 with fail
              clear q2
              by_cases he : y.1 = p ∧ y.2 = q
              · have hye : y = (p, q) := Prod.ext he.1 he.2
                have HFr : Hid ((if (p, q) ∈ W.take (j + 1) then [(p, q)] else []) = [(p, q)] ∧ (if (p, q) ∈ W.take j then [(p, q)] else [] : List (Int × Int)) = []) := hid ⟨by rw [HTj.out, hye, if_pos (by simp)], by rw [← hye, if_neg HYn.out]⟩
                have hb1 : (y.1 == p) = true := by simp [he.1]
                have hb2 : (y.2 == q) = true := by simp [he.2]
                clear he hye
                refine wp_region_noPanic ?_
                refine wp_region_held_drew (S := fun W => Chg wr W No) (by kernel_rfl) (Chg.refl wr No).drew (fun hHeld => ?_)
                refine takeVal 0 52 (.pointer (some ⟨r, 0, none⟩)) rfl (by kernel_rfl) (by kernel_rfl) (by kernel_rfl) rfl (by rfl) (fun _ _ _ h => h) hHeld (fun _ hw' => rfl) ?_
                simp only [List.setIfInBounds_toArray, List.set_cons_zero, List.set_cons_succ]
                refine takeVal 1 53 (.pointer (some ⟨r, 0, none⟩)) rfl (by kernel_rfl) (by kernel_rfl) (by kernel_rfl) rfl (by rfl) (fun _ _ _ h => h) hHeld (fun _ hw' => by go_simp) ?_
                simp only [List.setIfInBounds_toArray, List.set_cons_zero, List.set_cons_succ]
                refine takeVal 2 54 (.pointer (some ⟨r, 2, none⟩)) rfl (by kernel_rfl) (by kernel_rfl) (by kernel_rfl) rfl (by rfl) (fun _ _ _ h => h) hHeld (fun _ hw' => by go_simp) ?_
                simp only [List.setIfInBounds_toArray, List.set_cons_zero, List.set_cons_succ]
                refine takeVal 3 55 (.slice (some ⟨g2, 0, none⟩) m2 cp2) rfl (by kernel_rfl) (by kernel_rfl) (by kernel_rfl) rfl (by rfl) (fun _ _ _ h => h) hHeld (fun _ hw' => by have hc := HK2r.out _ hw'; go_simp) ?_
                simp only [List.setIfInBounds_toArray, List.set_cons_zero, List.set_cons_succ]
                refine takeVal 4 56 (.int .i64 (j : Int)) rfl (by kernel_rfl) (by kernel_rfl) (by kernel_rfl) rfl (by rfl) (fun _ _ _ h => h) hHeld (fun _ hw' => rfl) ?_
                simp only [List.setIfInBounds_toArray, List.set_cons_zero, List.set_cons_succ]
                refine takeVal 5 57 (.pointer (some ⟨g2, j * 2, none⟩)) rfl (by kernel_rfl) (by kernel_rfl) (by kernel_rfl) rfl (by rfl) (fun _ _ _ h => h) hHeld (fun _ hw' => by go_simp) ?_
                simp only [List.setIfInBounds_toArray, List.set_cons_zero, List.set_cons_succ]
                refine takeEK 6 58 (.tmp 57) g2 (j * 2) y rfl (by kernel_rfl) (by kernel_rfl) (by kernel_rfl) rfl rfl rfl (by rfl) (fun _ _ _ h => h) hHeld (fun _ hw' => HR1.out _ hw') ?_
                simp only [List.setIfInBounds_toArray, List.set_cons_zero, List.set_cons_succ]
                refine takeEK 7 59 (.tmp 6) ge 0 (p, q) rfl (by kernel_rfl) (by kernel_rfl) (by kernel_rfl) rfl rfl rfl (by rfl) (fun _ _ _ h => h) hHeld (fun _ hw' => HR2.out _ hw') ?_
                simp only [List.setIfInBounds_toArray, List.set_cons_zero, List.set_cons_succ]
                refine takeVal 8 60 (.bool true) rfl (by kernel_rfl) (by kernel_rfl) (by kernel_rfl) rfl (by rfl) (fun _ _ _ h => h) hHeld (fun _ hw' => by go_simp) ?_
                simp only [List.setIfInBounds_toArray, List.set_cons_zero, List.set_cons_succ]
                refine wpAnyH_done (by kernel_rfl) ?_ _
                refine NoPanic.normal ?_
                have HC5 : Hid (Chg wr wr.drew No) := hid (Chg.refl wr No).drew
                have HR5 := HR2.out _ HC5.out
                have HOw : Hid (∀ o, Edgs ((wr.drew).alloc o) w.heap.size u (((S.take i).flatMap fun a => rowE W a S) ++ rowE W p (S.take k))) := hid (fun o => by
                  have h9 := HD.out.1
                  rw [HFr.out.2, List.append_nil] at h9
                  exact row_keep h9 (HC5.out.tr (Chg.alloc _ o No)) (fun _ _ e => e))
                have HLn : Hid ((((S.take i).flatMap fun a => rowE W a S) ++ rowE W p (S.take k)).length ≤ 16781312) := hid (by
                  rw [List.length_append]
                  have h8 := rowE_len W p (S.take k)
                  have h9 : (S.take k).length ≤ 4096 := by rw [List.length_take]; have := HS4.out; omega
                  have := HBl.out
                  omega)
                have HZw : Hid (w.heap.size ≤ wr.heap.size) := hid HCw.out.size
                have HZj : Hid (wr.drew.heap.size = wr.heap.size) := hid rfl
                obtain ⟨we, hwe⟩ : ∃ y, y = wr.drew := ⟨_, rfl⟩
                have hsz : we.heap.size = wr.heap.size := by rw [hwe]; rfl
                rw [← hwe] at HC5 HR5 HOw HZj ⊢
                have HSz := hid hsz
                clear hwe hHeld hsz
                have hca : (we.alloc (.cells #[.int .i64 p, .int .i64 q] 73)).cell? ⟨we.heap.size, 0, none⟩ = some (.int .i64 p) := by rw [cell_of_row _ _ _ _ _ _ (heap_alloc_new _ _)]; rfl
                have hcb : (we.alloc (.cells #[.int .i64 p, .int .i64 q] 73)).cell? ⟨we.heap.size, 1, none⟩ = some (.int .i64 q) := by rw [cell_of_row _ _ _ _ _ _ (heap_alloc_new _ _)]; rfl
                have hcp : we.cell? ⟨ge, 0, none⟩ = some (.int .i64 p) := HR5 0 _ rfl
                have hcq : we.cell? ⟨ge, 1, none⟩ = some (.int .i64 q) := HR5 1 _ rfl
                go_wp2_with (first
                  | (at_builtin; go_must (refine wp_appE rfl _ _ rfl w.heap.size we.heap.size 1 u _ (p, q) rfl rfl (HOw.out _) hca hcb (by have := HLn.out; omega) (by have := HZw.out; have := HSz.out; simp; omega) ?_; intro v6 w6 h61 h62 h63; have H61 := hid h61; have H62 := hid h62; have H63 := hid h63; clear h61 h62 h63))
                  | fail)
                go_roundw
                case measure => simp [intOf]; omega
                case rel =>
                refine ⟨v6, j + 1, rfl, by go_num, by omega, hid ⟨by rw [HFr.out.1]; exact H61.out, ?_, ?_⟩⟩
                · refine HD.out.2.1.trans ((HC5.out.tr (Chg.alloc we _ No)).trans H62.out (c := fun b => w.heap.size ≤ b ∧ b ≠ ge) (fun _ _ e => e.elim) (fun b _ e => ⟨(row_ge HD.out.1 e).1, fun c => HD.out.2.2 (by rw [← c]; exact e)⟩)) (fun _ _ e => e) (fun _ _ e => e)
                · intro e
                  rcases H63.out with e2 | e2
                  · exact HD.out.2.2 (by rw [← e2]; exact e)
                  · rw [e2, World.size_alloc] at e
                    have e3 := Option.some.inj e
                    have := slt HE4.out
                    have := HZj.out
                    omega
              · have HFr : Hid ((if (p, q) ∈ W.take (j + 1) then [(p, q)] else [] : List (Int × Int)) = if (p, q) ∈ W.take j then [(p, q)] else []) := hid (by
                  have h9 : (p, q) ∈ W.take (j + 1) ↔ (p, q) ∈ W.take j := by
                    rw [HTj.out, List.mem_append, List.mem_singleton]
                    exact ⟨fun e => e.resolve_right fun e => he ⟨by rw [← e], by rw [← e]⟩, .inl⟩
                  simp only [h9])
                have hbb : (y.1 == p && y.2 == q) = false := by
                  by_cases h1 : y.1 = p
                  · have h2 : ¬ y.2 = q := fun c => he ⟨h1, c⟩
                    simp [h2]
                  · simp [h1]
                clear he
                refine wp_region_noPanic ?_
                refine wp_region_held_drew (S := fun W => Chg wr W No) (by kernel_rfl) (Chg.refl wr No).drew (fun hHeld => ?_)
                refine takeVal 0 52 (.pointer (some ⟨r, 0, none⟩)) rfl (by kernel_rfl) (by kernel_rfl) (by kernel_rfl) rfl (by rfl) (fun _ _ _ h => h) hHeld (fun _ hw' => rfl) ?_
                simp only [List.setIfInBounds_toArray, List.set_cons_zero, List.set_cons_succ]
                refine takeVal 1 53 (.pointer (some ⟨r, 0, none⟩)) rfl (by kernel_rfl) (by kernel_rfl) (by kernel_rfl) rfl (by rfl) (fun _ _ _ h => h) hHeld (fun _ hw' => by go_simp) ?_
                simp only [List.setIfInBounds_toArray, List.set_cons_zero, List.set_cons_succ]
                refine takeVal 2 54 (.pointer (some ⟨r, 2, none⟩)) rfl (by kernel_rfl) (by kernel_rfl) (by kernel_rfl) rfl (by rfl) (fun _ _ _ h => h) hHeld (fun _ hw' => by go_simp) ?_
                simp only [List.setIfInBounds_toArray, List.set_cons_zero, List.set_cons_succ]
                refine takeVal 3 55 (.slice (some ⟨g2, 0, none⟩) m2 cp2) rfl (by kernel_rfl) (by kernel_rfl) (by kernel_rfl) rfl (by rfl) (fun _ _ _ h => h) hHeld (fun _ hw' => by have hc := HK2r.out _ hw'; go_simp) ?_
                simp only [List.setIfInBounds_toArray, List.set_cons_zero, List.set_cons_succ]
                refine takeVal 4 56 (.int .i64 (j : Int)) rfl (by kernel_rfl) (by kernel_rfl) (by kernel_rfl) rfl (by rfl) (fun _ _ _ h => h) hHeld (fun _ hw' => rfl) ?_
                simp only [List.setIfInBounds_toArray, List.set_cons_zero, List.set_cons_succ]
                refine takeVal 5 57 (.pointer (some ⟨g2, j * 2, none⟩)) rfl (by kernel_rfl) (by kernel_rfl) (by kernel_rfl) rfl (by rfl) (fun _ _ _ h => h) hHeld (fun _ hw' => by go_simp) ?_
                simp only [List.setIfInBounds_toArray, List.set_cons_zero, List.set_cons_succ]
                refine takeEK 6 58 (.tmp 57) g2 (j * 2) y rfl (by kernel_rfl) (by kernel_rfl) (by kernel_rfl) rfl rfl rfl (by rfl) (fun _ _ _ h => h) hHeld (fun _ hw' => HR1.out _ hw') ?_
                simp only [List.setIfInBounds_toArray, List.set_cons_zero, List.set_cons_succ]
                refine takeEK 7 59 (.tmp 6) ge 0 (p, q) rfl (by kernel_rfl) (by kernel_rfl) (by kernel_rfl) rfl rfl rfl (by rfl) (fun _ _ _ h => h) hHeld (fun _ hw' => HR2.out _ hw') ?_
                simp only [List.setIfInBounds_toArray, List.set_cons_zero, List.set_cons_succ]
                refine takeVal 8 60 (.bool false) rfl (by kernel_rfl) (by kernel_rfl) (by kernel_rfl) rfl (by rfl) (fun _ _ _ h => h) hHeld (fun _ hw' => by go_simp) ?_
                simp only [List.setIfInBounds_toArray, List.set_cons_zero, List.set_cons_succ]
                refine wpAnyH_done (by kernel_rfl) ?_ _
                refine NoPanic.normal ?_
                clear hHeld
                go_wp2_with fail
                exact ⟨⟨u, j + 1, rfl, by go_num, by omega, hid ⟨by rw [HFr.out]; exact row_keep HD.out.1 (Chg.refl wr No).drew (fun _ _ e => e), HD.out.2.1.trans (Chg.refl wr No).drew (fun _ _ e => e) (fun _ _ e => e.elim), HD.out.2.2⟩⟩, by simp [intOf]; omega⟩
            · have j1 : ¬ (j : Int) < (m2 : Int) := by omega
              have HTj : Hid (W.take j = W) := hid (List.take_of_length_le (by rw [← HM2.out]; omega))
              have HNx : Hid (Edgs wr w.heap.size u (((S.take i).flatMap fun a => rowE W a S) ++ rowE W p (S.take (k + 1))) ∧ Chg w wr No) := hid ⟨by
                have := HD.out.1
                rw [HTj.out, List.append_assoc, ← rowE_snoc, ← HTq.out] at this
                exact this, HCw.out⟩
              go_wp2_with fail
              exact ⟨⟨u, k + 1, rfl, by go_num, by omega, HNx⟩, by simp [intOf]; omega⟩
        · have k1 : ¬ (k : Int) < (m : Int) := by omega
          have HTq : Hid (S.take k = S) := hid (List.take_of_length_le (by rw [← HM.out]; omega))
          have HNx : Hid (Edgs wr w.heap.size v ((S.take (i + 1)).flatMap fun a => rowE W a S) ∧ Chg w wr No) := hid ⟨by
            have := HB.out.1
            rw [HTq.out] at this
            rw [HTk.out, List.flatMap_append, List.flatMap_singleton]
            exact this, HB.out.2⟩
          go_wp2_with fail
          exact ⟨⟨v, i + 1, rfl, by go_num, by omega, HNx⟩, by simp [intOf]; omega⟩
    · have i1 : ¬ (i : Int) < (m : Int) := by omega
      have HF : Hid (Edgs wr w.heap.size v (S.flatMap fun a => rowE W a S)) := hid (by
        have := HA.out.1
        rw [List.take_of_length_le (by rw [← HM.out]; omega)] at this
        exact this)
      go_wp2_with fail
      go_ret
      exact ⟨_, rfl, _, HF.out, HAll.out, HA.out.2⟩
end
end Go.Proofs.YtamoepninddbcaaGreat
