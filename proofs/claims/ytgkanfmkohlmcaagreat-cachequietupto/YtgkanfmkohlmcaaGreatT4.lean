/-
  drops of the statements' teller.
-/
import Derived.Test.YtgkanfmkohlmcaaGreatT3
namespace Go.Proofs.YtgkanfmkohlmcaaGreat
open Go.RowKit

def keepO (x : Int) (o : Int × Int × Int × Int) : Bool := decide (o.2.2.1 ≠ x) && decide (o.1 ≠ x)
def fltO (x : Int) (l : List (Int × Int × Int × Int)) : List (Int × Int × Int × Int) := l.filter (keepO x)
theorem fltO_snoc (x : Int) (l : List (Int × Int × Int × Int)) (o : Int × Int × Int × Int) : fltO x (l ++ [o]) = if keepO x o = true then fltO x l ++ [o] else fltO x l := by
  unfold fltO
  rw [List.filter_append]
  cases h : keepO x o <;> simp [h]
theorem takeO {l : List (Int × Int × Int × Int)} {k : Nat} (hk : k < l.length) : l.take (k + 1) = l.take k ++ [l.getD k (0, 0, 0, 0)] := by
  rw [List.take_add_one, List.getD_eq_getElem?_getD, List.getElem?_eq_getElem hk]
  rfl
theorem fltO_len (x : Int) (l : List (Int × Int × Int × Int)) : (fltO x l).length ≤ l.length := List.length_filter_le _ _
/-- A sector is dropped. -/
def dropsT (s : TSt) (x : Int) : TSt :=
  if s.di.getD x.toNat false = true then ⟨forC s.z x, s.last.set x.toNat (verS (D.secK s.z.d.S x.toNat)), s.di.set x.toNat false, fltO x s.od, s.nx⟩ else { s with z := forC s.z x }
theorem infoO : ∃ i, Tryz.prog.info? 82 = some i ∧ i.zero = some (.agg #[.int .i64 0, .int .i64 0, .int .i64 0, .int .i64 0]) ∧ i.size = 4 ∧ i.bytes = 32 := by
  have h : (Tryz.prog.info? 82).map (fun i => (i.zero, i.size, i.bytes)) = some (some (.agg #[.int .i64 0, .int .i64 0, .int .i64 0, .int .i64 0]), 4, 32) := by kernel_rfl
  cases hq : Tryz.prog.info? 82 with
  | none => rw [hq] at h; cases h
  | some i =>
    rw [hq] at h
    simp at h
    exact ⟨i, rfl, h.1, h.2.1, h.2.2⟩
theorem oc_cells1 (o : Int × Int × Int × Int) : ∀ u ∈ oc o, u.oneCell' = true := by
  intro u hu
  simp [oc] at hu
  rcases hu with rfl | rfl | rfl | rfl <;> rfl
theorem run_appO {w : World} {base b ca : Nat} {v : Value} {l : List (Int × Int × Int × Int)} (o : Int × Int × Int × Int) (ty : TypeId) (h : Ords w base v l) (hb : w.heap[b]? = some (.cells (oc o).toArray 82 (0, 0))) (hl : l.length ≤ 1000000000000) (hbase : base ≤ w.heap.size) :
    ∃ v' w', (Builtin.append_ #[31, 31] ty #[v, .slice (some ⟨b, 0, none⟩) 1 ca]).run Tryz.prog w = .ok v' w' ∧ Ords w' base v' (l ++ [o]) ∧ Chg w w' (fun k => v.ownBlock = some k) ∧ (v'.ownBlock = v.ownBlock ∨ v'.ownBlock = some w.heap.size) := by
  obtain ⟨i, hi, hz, hsz, hby⟩ := infoO
  obtain ⟨v', w', hr, h2, h3, _, h5⟩ := run_append_own_at (P := Tryz.prog) w base 31 ty 82 i _ 4 32 Tryz.underlying31 hi hz hsz hby rfl (by decide) v l.length (ocs l) h ⟨b, 0, none⟩ 1 ca (oc o) rfl (fun j u hj => by
      rw [D.addr_add, Nat.zero_add, cell_of_row _ _ _ _ _ _ hb]
      simpa using hj) (oc_cells1 o) (by unfold maxLen; omega) (by omega) hbase
  refine ⟨v', w', hr, ?_, (Chg.grown h3).mono fun j _ e => e.symm, h5⟩
  unfold Ords
  rw [ocs_append, List.length_append]
  have e : ocs [o] = oc o := by simp [ocs]
  rw [e]
  exact h2
section
variable {ops : Array Oper} {rest : List Oper} {o : Oper} {a : Act} {Q : Exit → Act → World → Prop} {w : World} {S : World → Prop} {fuel : Nat} {listed : Array Bool}
theorem wp_appO (hg : o.guard = none) (s x : Operand) (hop : o.op = .call { callee := .builtin .append, args := #[s, x], argTypes := #[31, 31] }) (base b ca : Nat) (v : Value) (l : List (Int × Int × Int × Int)) (y : Int × Int × Int × Int) (hs : a.eval s = v) (hx : a.eval x = .slice (some ⟨b, 0, none⟩) 1 ca)
    (hown : Ords w base v l) (hb : w.heap[b]? = some (.cells (oc y).toArray 82 (0, 0))) (hl : l.length ≤ 1000000000000) (hbase : base ≤ w.heap.size)
    (hK : ∀ v' w', Ords w' base v' (l ++ [y]) → Chg w w' (fun k => v.ownBlock = some k) → (v'.ownBlock = v.ownBlock ∨ v'.ownBlock = some w.heap.size) → wpList Tryz.prog ops Q rest (a.put o.dst v') w') : wpList Tryz.prog ops Q (o :: rest) a w := by
  obtain ⟨v', w', hr, h2, h3, h4⟩ := run_appO y o.type hown hb hl hbase (ca := ca)
  refine wpList_plain hg fun K' hK' => ?_
  unfold Oper.wp execOp
  simp only [hop, resolve, invoke, builtin, Sem.run_bind, Sem.run_pure, Result.andThen_ok, List.map_toArray, List.map_cons, List.map_nil, hs, hx, hr]
  exact hK' _ _ (hK v' w' h2 h3 h4)
theorem stAppO (i d : Nat) {o : Oper} (hop : ops[i]? = some o) (hd : o.dst = some d) (hw : Region.wanted o (yielded ops a.tmps) = true) (s x : Operand)
    (ho : o.op = .call { callee := .builtin .append, args := #[s, x], argTypes := #[31, 31] }) (base b ca : Nat) (v : Value) (l : List (Int × Int × Int × Int)) (y : Int × Int × Int × Int) (hs : a.eval s = v) (hx : a.eval x = .slice (some ⟨b, 0, none⟩) 1 ca)
    (hown : Ords w base v l) (hb : w.heap[b]? = some (.cells (oc y).toArray 82 (0, 0))) (hl : l.length ≤ 1000000000000) (hbase : base ≤ w.heap.size)
    (h : ∀ v' w', Ords w' base v' (l ++ [y]) → Chg w w' (fun k => v.ownBlock = some k) → (v'.ownBlock = v.ownBlock ∨ v'.ownBlock = some w.heap.size) →
      S w' ∧ wpAnyH Tryz.prog .any ops Q S fuel (listed.setIfInBounds i true) { a with tmps := a.tmps.setIfInBounds d v' } w') : St ops Q S fuel listed a w i := by
  obtain ⟨v', w', hr, h2, h3, h4⟩ := run_appO y o.type hown hb hl hbase (ca := ca)
  have hh := h v' w' h2 h3 h4
  refine wpOp_step hop (fun K hK => ?_)
  rw [if_pos hw]
  unfold Oper.wp execOp
  simp only [ho, resolve, invoke, builtin, Sem.run_bind, Sem.run_pure, Result.andThen_ok, List.map_toArray, List.map_cons, List.map_nil, hs, hx, hr]
  refine hK _ _ ⟨hh.1, ?_⟩
  unfold Act.put
  rw [hd]
  exact hh.2
end
theorem ref_one {n : Nat} {z : CSt} {x : Int} (hx : 0 ≤ x ∧ x < n) (hlo : z.lost = false) : refC n z [x] = 0 := by rw [refC_one hx.1 hx.2, hlo]; rfl
theorem oc_at {w : World} {b k : Nat} {o : Int × Int × Int × Int} (h : w.rangeAt b (k * 4) (oc o)) : w.cell? ⟨b, k * 4, none⟩ = some (.int .i64 o.1) ∧ w.cell? ⟨b, k * 4 + 2, none⟩ = some (.int .i64 o.2.2.1) :=
  ⟨h 0 _ rfl, h 2 _ rfl⟩
theorem stand_ok {n : Nat} {z : CSt} {x : Int} (hx : 0 ≤ x ∧ x < n) (hlo : z.lost = false) (hdn : z.d.dn = false) : standC n z x = (z, D.secK z.d.S x.toNat, 0) := by
  have hr : D.refE z.d n x = 0 := by unfold D.refE; rw [hdn, if_neg (by decide), if_neg (by omega)]
  unfold standC
  rw [if_pos (ref_one hx hlo), hr]
  unfold D.readS hearC
  rw [if_pos hr, if_neg (by decide)]

variable {w0 w : World} {t c p g n : Nat} {s : TSt}

set_option maxRecDepth 100000 in
set_option maxHeartbeats 4000000 in
theorem drops_any (x : Int) (h : FT w0 w t c p g n s) (hf : Fit n s) (hx : 0 ≤ x ∧ x < n) (hlo : s.z.lost = false) (hdn : s.z.d.dn = false) (hm : s.od.length ≤ 1000000000000) : Calls Tryz.prog 13 #[.pointer (some ⟨t, 0, none⟩), .int .i64 x] w fun e w' => e = .returned (.bool true) ∧ FT w0 w' t c p g n (dropsT s x) := by
  have hzs := D.zero_sec
  obtain ⟨lb, db, ρ, ov, h⟩ := h
  have k1 := h.c1
  have HD := DropC_any x h.ca
  have e : DropC n s.z x = (forC s.z x, 0) := by unfold DropC; rw [if_pos (ref_one hx hlo)]
  rw [e] at HD
  have hn : n ≤ 4096 := h.ca.inv.top
  have H := hid h
  have HSX := hid (hf.sec x.toNat (by omega))
  obtain ⟨hx0, hx1⟩ := hx
  have HLO := hid (And.intro hlo hdn)
  clear h e hf hlo hdn
  cases hdi : s.di.getD x.toNat false with
  | false =>
    have HR : Hid (dropsT s x = { s with z := forC s.z x }) := by show _ = _; unfold dropsT; rw [if_neg (by rw [hdi]; decide)]
    go_enter Tryz.func13, Tryz.ntmps13
    go_wp2_with (first
      | (go_at_call 20; go_must (refine HD.mono ?_; rintro e w1 ⟨rfl, hP1⟩; obtain ⟨lb1, db1, ρ1, ov1, h1⟩ := H.out.cache hP1; have k13 := h1.c3; have kd1 := h1.dc (k := x.toNat) (by omega); simp only at kd1; rw [hdi] at kd1; have HT1 := hid h1; clear HD hP1 h1))
      | fail)
    go_ret
    rw [HR.out]
    exact ⟨rfl, lb1, db1, ρ1, ov1, HT1.out⟩
  | true =>
    have HR : Hid (dropsT s x = ⟨forC s.z x, s.last.set x.toNat (verS (D.secK s.z.d.S x.toNat)), s.di.set x.toNat false, fltO x s.od, s.nx⟩) := by show _ = _; unfold dropsT; rw [if_pos hdi]
    generalize hlen : s.od.length = m at *
    have HLEN := hid hlen
    clear hlen
    go_enter Tryz.func13, Tryz.ntmps13
    go_wp2_with (first
      | (go_at_call 20; go_must (refine HD.mono ?_; rintro e w1 ⟨rfl, hP1⟩; obtain ⟨lb1, db1, ρ1, ov1, h1⟩ := H.out.cache hP1; have k13 := h1.c3; have kd1 := h1.dc (k := x.toNat) (by omega); simp only at kd1; rw [hdi] at kd1; have HT1 := hid h1; clear HD hP1 h1))
      | fail)
    clear k13 kd1 k1
    obtain ⟨a4, c4, e4, _⟩ := HT1.out.oa.at_
    subst e4
    generalize hB : w1.heap.size = B at *
    go_loopw [5, 6] (fun v i wr => ∃ (k : Nat) (wq : World), wq = wr ∧ k ≤ m ∧ i = .int .i64 k ∧ Ords wq B v (fltO x (s.od.take k)) ∧ Chg w1 wq No) (fun _ i _ => m - (intOf i).toNat)
    case atStart => exact ⟨0, w1, rfl, by omega, rfl, World.ownsRow_nil _ _ _ _, Chg.refl _ _⟩
    case round =>
    obtain ⟨k, wA, rfl, hk, rfl, hv, hcA⟩ := hrel
    have hTA := HT1.out.call hcA
    have k4 := hTA.c4
    simp only [HLEN.out] at k4
    have hszA := hcA.size
    have hfl := fltO_len x (s.od.take k)
    rw [List.length_take, HLEN.out] at hfl
    by_cases hlt : k < m
    · obtain ⟨a5, c5, e5, hov⟩ := hTA.oa.at_
      obtain ⟨g4, rfl, hg4, hr4⟩ := hov k (by simp only; rw [HLEN.out]; exact hlt)
      cases e5
      have htk := takeO (l := s.od) (k := k) (by rw [HLEN.out]; exact hlt)
      simp only at hr4
      generalize ho : s.od.getD k (0, 0, 0, 0) = o at *
      obtain ⟨q0, q2⟩ := oc_at hr4
      have hi0 : (0 : Int) ≤ (k : Int) := by omega
      have hi1 : (k : Int) < (m : Int) := by omega
      have HV := hid (And.intro hv (And.intro hcA (And.intro htk hr4)))
      have hfit : Hid ((fltO x (s.od.take k)).length ≤ 1000000000000) := by show _ ≤ _; omega
      clear hv hcA htk hr4 hov hTA ho
      by_cases hp : o.2.2.1 = x
      · have hb1 : (o.2.2.1 != x) = false := by simpa using hp
        have HK : Hid (keepO x o = false) := by show _ = _; unfold keepO; simp [hp]
        clear hp
        go_wp2_with fail
        obtain ⟨hv, hcA, htk, hr4⟩ := HV.out
        refine ⟨⟨k + 1, wA, rfl, by omega, by go_num, ?_, hcA⟩, by simp [intOf]; omega⟩
        rw [htk, fltO_snoc, HK.out]
        exact hv
      · have hb1 : (o.2.2.1 != x) = true := by simpa using hp
        by_cases hq : o.1 = x
        · have hb2 : (o.1 != x) = false := by simpa using hq
          have HK : Hid (keepO x o = false) := by show _ = _; unfold keepO; simp [hq]
          clear hp hq
          go_wp2_with fail
          obtain ⟨hv, hcA, htk, hr4⟩ := HV.out
          refine ⟨⟨k + 1, wA, rfl, by omega, by go_num, ?_, hcA⟩, by simp [intOf]; omega⟩
          rw [htk, fltO_snoc, HK.out]
          exact hv
        · have hb2 : (o.1 != x) = true := by simpa using hq
          have HK : Hid (keepO x o = true) := by show _ = _; unfold keepO; simp [hp, hq]
          have hvA := hid (row_keep HV.out.1 (Chg.alloc wA (.cells (oc o).toArray 82) No) (fun _ _ e => e))
          have hoA := hid (heap_alloc_new wA (.cells (oc o).toArray 82))
          have hol : (oc o).length = 4 := rfl
          clear hp hq
          go_wp2_with (first
            | (refine wpList_load_mid rfl 82 _ rfl g4 (k * 4) rfl (oc o) _ HV.out.2.2.2 Tryz.underlying82 rfl (by rw [szO]; rfl) ?_)
            | (at_builtin; go_must (refine wp_appO rfl _ _ rfl B wA.heap.size 1 _ (fltO x (s.od.take k)) o rfl rfl hvA.out hoA.out hfit.out (by simp only [World.size_alloc]; omega) ?_; intro v5 w5 h51 h52 h53))
            | fail)
          obtain ⟨hv, hcA, htk, hr4⟩ := HV.out
          refine ⟨⟨k + 1, w5, rfl, by omega, by go_num, ?_, hcA.trans ((Chg.alloc wA (.cells (oc o).toArray 82) No).trans h52 (c := fun j => B ≤ j) (fun _ _ e => e.elim) (fun j _ e => (row_ge hv e).1)) (fun _ _ e => e) (fun j hj e => by omega)⟩, by simp [intOf]; omega⟩
          rw [htk, fltO_snoc, HK.out]
          exact h51
    · have htk : s.od.take k = s.od := List.take_of_length_le (by rw [HLEN.out]; omega)
      rw [htk] at hv
      have hB0 := HT1.out.ch.size
      have hno : ∀ j, Value.ownBlock _ = some j → ¬ Own ρ1 j := fun j hj ho => by
        have h1 := (row_ge hv hj).1
        have h2 := HT1.out.ca.lt ho
        omega
      have hT4 := hTA.orders (row_base hv (by omega)) hno
      obtain ⟨av, cv, ev, _⟩ := hv.at_
      subst ev
      have f4 := hTA.fz 4
      have hst := stand_ok (n := n) (z := forC s.z x) ⟨hx0, hx1⟩ HLO.out.1 HLO.out.2
      have HS := standC_any x hT4.ca
      simp only at HS
      rw [hst] at HS
      have k41 := hT4.c1
      have HT4 := hid hT4
      have HTA := hid hTA
      clear hT4 hTA hv hno hst htk
      have ed : (forC s.z x).d = s.z.d := rfl
      rw [ed] at HS
      clear ed
      have kA1 := HTA.out.c1
      go_wp2_with (first
        | (go_at_call 16; go_must (refine HS.mono ?_; rintro e w5 ⟨rfl, hP5⟩; obtain ⟨lb2, db2, ρ2, ov2, h5⟩ := HT4.out.cache hP5; have HT5 := hid h5; have HQ5 := hid (heap_alloc_new w5 (.cells (D.SA D.Zs) 46)); clear HS hP5 h5))
        | (refine D.store_sec rfl _ _ rfl w5.heap.size rfl (D.secK s.z.d.S x.toNat) rfl HSX.out.1 D.Zs D.Zs_len HQ5.out ?_; intro w6 hw6; have HB6 := hid hw6.here; have HT6 := hid (HT5.out.call ((Chg.alloc w5 (.cells (D.SA D.Zs) 46) No).trans (wrote_chg hw6) (c := No) (fun _ _ e => e) (fun j hj e => by omega))); clear hw6)
        | fail)
      have HNB : Hid (w5.heap.size ≠ lb2) := Nat.ne_of_gt (slt HT5.out.la)
      clear k4 k41 kA1 f4
      refine wp_region_noPanic ?_
      refine wp_region_held_drew (S := fun w' => w'.cell? ⟨t, 2, none⟩ = some (.slice (some ⟨lb2, 0, none⟩) n n) ∧ w'.heap[w5.heap.size]? = some (.cells (D.SA (D.secK s.z.d.S x.toNat)) 46 (0, 0))) (by kernel_rfl) ⟨HT6.out.c2, HB6.out⟩ (fun hHeld => ?_)
      refine takeVal 0 77 (.pointer (some ⟨t, 0, none⟩)) rfl (by kernel_rfl) (by kernel_rfl) (by kernel_rfl) rfl (by rfl) (fun _ _ _ h => h) hHeld (fun _ hw' => rfl) ?_
      simp only [List.setIfInBounds_toArray, List.set_cons_zero, List.set_cons_succ]
      refine takeVal 1 78 (.pointer (some ⟨t, 0, none⟩)) rfl (by kernel_rfl) (by kernel_rfl) (by kernel_rfl) rfl (by rfl) (fun _ _ _ h => h) hHeld (fun _ hw' => by go_simp) ?_
      simp only [List.setIfInBounds_toArray, List.set_cons_zero, List.set_cons_succ]
      refine takeVal 2 79 (.pointer (some ⟨t, 2, none⟩)) rfl (by kernel_rfl) (by kernel_rfl) (by kernel_rfl) rfl (by rfl) (fun _ _ _ h => h) hHeld (fun _ hw' => by go_simp) ?_
      simp only [List.setIfInBounds_toArray, List.set_cons_zero, List.set_cons_succ]
      refine takeVal 3 80 (.slice (some ⟨lb2, 0, none⟩) n n) rfl (by kernel_rfl) (by kernel_rfl) (by kernel_rfl) rfl (by rfl) (fun _ _ _ h => h) hHeld (fun _ hw' => by have hq' := hw'.1; go_simp) ?_
      simp only [List.setIfInBounds_toArray, List.set_cons_zero, List.set_cons_succ]
      refine takeVal 4 81 (.int .i64 x) rfl (by kernel_rfl) (by kernel_rfl) (by kernel_rfl) rfl (by rfl) (fun _ _ _ h => h) hHeld (fun _ hw' => rfl) ?_
      simp only [List.setIfInBounds_toArray, List.set_cons_zero, List.set_cons_succ]
      refine D.takeSec 5 82 (.tmp 7) (w5.heap.size) (D.secK s.z.d.S x.toNat) (HSX.out.1) rfl (by kernel_rfl) (by kernel_rfl) (by kernel_rfl) rfl rfl rfl (by rfl) (fun _ _ _ h => h) hHeld (fun _ hw' => hw'.2) ?_
      simp only [List.setIfInBounds_toArray, List.set_cons_zero, List.set_cons_succ]
      refine step1 6 (by kernel_rfl) ?_
      refine stCall 6 83 38 #[.agg (D.SA (D.secK s.z.d.S x.toNat))] _ rfl rfl (by rfl) (by go_simp) (version_any _ HSX.out _) ?_
      rintro e w8 ⟨rfl, hc8⟩
      have hT8 := (HT6.out.call (Chg.refl w6 No).drew).call hc8
      have hHeld : w8.cell? ⟨t, 2, none⟩ = some (.slice (some ⟨lb2, 0, none⟩) n n) ∧ w8.heap[w5.heap.size]? = some (.cells (D.SA (D.secK s.z.d.S x.toNat)) 46 (0, 0)) := ⟨hT8.c2, hc8.keep hHeld.2 (fun e => e)⟩
      refine ⟨_, rfl, hHeld, ?_⟩
      simp only [List.setIfInBounds_toArray, List.set_cons_zero, List.set_cons_succ]
      refine takeVal 7 84 (.pointer (some ⟨lb2, x.toNat, none⟩)) rfl (by kernel_rfl) (by kernel_rfl) (by kernel_rfl) rfl (by rfl) (fun _ _ _ h => h) hHeld (fun _ hw' => by go_simp) ?_
      simp only [List.setIfInBounds_toArray, List.set_cons_zero, List.set_cons_succ]
      refine step1 8 (by kernel_rfl) ?_
      have kl := hT8.lc (k := x.toNat) (by omega)
      have fl := frozen_of_row w8 lb2 x.toNat _ _ hT8.la
      refine stCell 8 (w8.setCell ⟨lb2, x.toNat, none⟩ (.int .i64 (verS (D.secK s.z.d.S x.toNat)))) rfl rfl (by rfl) (by go_simp) ?_
      have hT9 := hT8.told x.toNat (verS (D.secK s.z.d.S x.toNat))
      refine ⟨⟨hT9.c2, (heap_setCell_other w8 ⟨lb2, x.toNat, none⟩ w5.heap.size _ HNB.out).trans hHeld.2⟩, ?_⟩
      refine wpAnyH_done (by kernel_rfl) ?_ _
      refine NoPanic.normal ?_

      have k93 := hT9.c3
      have kd9 := hT9.dc (k := x.toNat) (by omega)
      have fd9 := frozen_of_row _ db2 x.toNat _ _ hT9.da
      have HT9 := hid hT9
      clear hT9 hT8 hHeld kl fl
      generalize hw9 : w8.setCell ⟨lb2, x.toNat, none⟩ _ = w9 at *
      clear hw9
      go_wp2_with fail
      go_ret
      rw [HR.out]
      exact ⟨rfl, lb2, db2, ρ2, ov2, HT9.out.flag x.toNat false⟩

end Go.Proofs.YtgkanfmkohlmcaaGreat
