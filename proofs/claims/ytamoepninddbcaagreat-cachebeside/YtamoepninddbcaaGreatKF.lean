/-
  The document's cache: forget.
-/
import Derived.Test.YtamoepninddbcaaGreatKD
namespace Go.Proofs.YtamoepninddbcaaGreat
open Go.RowKit

theorem fold_allK (cs : List Value) : ∀ (z : List Value) (o : Nat), o + cs.length = z.length →
    (cs.zipIdx o).foldl (fun (a : Array Value) (x : Value × Nat) => a.setIfInBounds x.2 x.1) z.toArray = (z.take o ++ cs).toArray := by
  induction cs with
  | nil => intro z o h; simp at h; simp [h]
  | cons c cs ih =>
    intro z o h
    simp only [List.length_cons] at h
    have ho : o < z.length := by omega
    rw [List.zipIdx_cons, List.foldl_cons]
    have e : z.toArray.setIfInBounds o c = (z.set o c).toArray := by simp
    show List.foldl _ (z.toArray.setIfInBounds o c) _ = _
    rw [e, ih (z.set o c) (o + 1) (by simp; omega)]
    congr 1
    rw [List.set_eq_take_append_cons_drop, if_pos ho, List.take_append, List.take_of_length_le (by simp; omega)]
    simp [Nat.min_eq_left (Nat.le_of_lt ho)]
theorem fold_arrK (cs z : Array Value) (n : Nat) (hz : z.size = cs.size) (hn : cs.zipIdx.size = n) : Array.foldl (fun (a : Array Value) (x : Value × Nat) => a.setIfInBounds x.2 x.1) z cs.zipIdx 0 n = cs := by
  subst hn
  rw [← Array.foldl_toList, Array.toList_zipIdx]
  have := fold_allK cs.toList z.toList 0 (by simp [hz])
  simpa using this
def ItZ : Array Value := (Value.int .i64 0 :: (D.Zs.map (Value.int .u8) ++ [.slice none 0 0])).toArray
theorem infoIt : ∃ i, Tryz.prog.info? 109 = some i ∧ i.zero = some (.agg ItZ) ∧ i.size = 130 ∧ i.bytes = 160 := by
  have h : (Tryz.prog.info? 109).map (fun i => (i.zero, i.size, i.bytes)) = some (some (.agg ItZ), 130, 160) := by kernel_rfl
  cases hq : Tryz.prog.info? 109 with
  | none => rw [hq] at h; cases h
  | some i =>
    rw [hq] at h
    simp at h
    exact ⟨i, rfl, h.1, h.2.1, h.2.2⟩
theorem ItZ_size : ItZ.size = 130 := by kernel_rfl
theorem szIt : (Tryz.prog.info? 109).map (·.size) = some 130 := by kernel_rfl
theorem build_it (cs : Array Value) (hs : cs.size = 130) (w : World) :
    (Instr.buildSlice 89 1 #[(0, .agg cs)]).run Tryz.prog w = .ok (.slice (some ⟨w.heap.size, 0, none⟩) 1 1) (w.alloc (.cells cs 109)) := by
  obtain ⟨i, hi, hz, hsz, hb⟩ := infoIt
  simp only [Instr.buildSlice, Sem.run_bind, run_underlying Tryz.underlying89, Result.andThen_ok]
  simp [sizeOf, typeInfo, hi, hsz, zeroValue, hz, Instr.fill, Value.cells, hs, newRow]
  rw [fold_arrK cs _ 130 (by simp [hs]) (by simp [hs])]
section
variable {ops : Array Oper} {rest : List Oper} {o : Oper} {a : Act} {w : World} {Q : Exit → Act → World → Prop}
theorem wp_sliceIt (hgd : o.guard = none) (x : Operand) (ho : o.op = .buildSlice 89 1 #[(0, x)]) (cs : Array Value) (hs : cs.size = 130) (hx : a.eval x = .agg cs)
    (h : wpList Tryz.prog ops Q rest (a.put o.dst (.slice (some ⟨w.heap.size, 0, none⟩) 1 1)) (w.alloc (.cells cs 109))) : wpList Tryz.prog ops Q (o :: rest) a w :=
  wpList_plain hgd fun K hK => by
    have e : (#[(0, x)] : Array (Nat × Operand)).map (fun (i, x) => (i, a.eval x)) = #[(0, .agg cs)] := by simp [hx]
    unfold Oper.wp execOp
    simp only [ho]
    rw [e]
    simp only [Sem.run_bind, build_it cs hs, Result.andThen_ok, Sem.run_pure]
    exact hK _ _ h
theorem wp_loadIt (hgd : o.guard = none) (x : Operand) (ho : o.op = .load 109 x) (b k : Nat) (cs : List Value) (hx : a.eval x = .pointer (some ⟨b, k, none⟩)) (hc : w.rangeAt b k cs) (hl : cs.length = 130)
    (h : wpList Tryz.prog ops Q rest (a.put o.dst (.agg cs.toArray)) w) : wpList Tryz.prog ops Q (o :: rest) a w :=
  wpList_load_mid hgd 109 x ho b k hx cs _ hc Tryz.underlying109 rfl (by rw [szIt, hl]) h
theorem wp_appIt (hg : o.guard = none) (s x : Operand) (hop : o.op = .call { callee := .builtin .append, args := #[s, x], argTypes := #[89, 89] }) (base g c : Nat) (v : Value) (n : Nat) (xs cs : List Value) (hs : a.eval s = v) (hx : a.eval x = .slice (some ⟨g, 0, none⟩) 1 c)
    (hown : w.ownsRow base 109 130 v n xs) (hat : w.heap[g]? = some (.cells cs.toArray 109 (0, 0))) (hcl : cs.length = 130) (h1 : ∀ u ∈ cs, u.oneCell' = true) (hl : n ≤ 100000) (hbase : base ≤ w.heap.size)
    (hK : ∀ v' w', w'.ownsRow base 109 130 v' (n + 1) (xs ++ cs) → Chg w w' (fun k => v.ownBlock = some k) → (v'.ownBlock = v.ownBlock ∨ v'.ownBlock = some w.heap.size) → wpList Tryz.prog ops Q rest (a.put o.dst v') w') : wpList Tryz.prog ops Q (o :: rest) a w := by
  obtain ⟨i, hi, hz, hsz, hby⟩ := infoIt
  refine wpList_append_own_at w hg s x 89 hop base 109 i _ 130 160 Tryz.underlying89 hi hz hsz hby ItZ_size (by decide) v n xs hs hown ⟨g, 0, none⟩ 1 c cs hx (by rw [hcl]) (fun j u hj => ?_) h1 (by unfold maxLen; omega) (by omega) hbase ?_
  · rw [D.addr_add, Nat.zero_add, cell_of_row _ _ _ _ _ _ hat, List.getElem?_toArray]
    exact hj
  · intro v' w' h1 h2 _ h4
    exact hK v' w' h1 ((Chg.grown h2).mono fun j _ e => e.symm) h4
end
/-- All but one. -/
def flK (x : Int) (l : List Int) : List Int := l.filter fun y => decide (y ≠ x)
theorem flK_snoc (x : Int) (l : List Int) (y : Int) : flK x (l ++ [y]) = if y = x then flK x l else flK x l ++ [y] := by
  unfold flK
  rw [List.filter_append]
  by_cases h : y = x
  · rw [if_pos h]; simp [h]
  · rw [if_neg h]; simp [h]
/-- The edges that have nothing to do with x. -/
def rwK (x : Int) (l : List (Int × Int)) : List (Int × Int) := l.filter fun e => decide (e.1 ≠ x) && decide (e.2 ≠ x)
theorem rwK_snoc (x : Int) (l : List (Int × Int)) (y : Int × Int) : rwK x (l ++ [y]) = if y.1 ≠ x ∧ y.2 ≠ x then rwK x l ++ [y] else rwK x l := by
  unfold rwK
  rw [List.filter_append]
  by_cases h : y.1 ≠ x ∧ y.2 ≠ x
  · rw [if_pos h]; simp [h.1, h.2]
  · rw [if_neg h]
    have : (decide (y.1 ≠ x) && decide (y.2 ≠ x)) = false := by
      by_cases h1 : y.1 = x
      · simp [h1]
      · have : y.2 = x := Classical.byContradiction fun e => h ⟨h1, e⟩
        simp [this]
    simp only [List.filter_cons, this, List.filter_nil]
    simp
open Classical in
theorem secs_for (z : CSt) (x : Int) : flK x (secs z.dirty) = secs (forC z x).dirty := by
  unfold flK secs
  rw [List.filter_filter]
  refine List.filter_congr fun y _ => ?_
  rw [← Bool.decide_and]
  refine decide_eq_decide.2 ?_
  unfold CSt.dirty forC
  simp only
  by_cases h : y = x
  · rw [if_pos h]; simp [h]
  · rw [if_neg h]; simp [h]
theorem itC_one (z : CSt) (tv : Int → Value) (x : Int) (h : (tv x).oneCell' = true) : ∀ u ∈ itC z tv x, u.oneCell' = true := by
  intro u hu
  unfold itC at hu
  rcases List.mem_cons.1 hu with rfl | hu
  · rfl
  · rcases List.mem_append.1 hu with hu | hu
    · obtain ⟨b, _, rfl⟩ := List.mem_map.1 hu
      rfl
    · rw [List.mem_singleton.1 hu]; exact h
theorem itC_for (z : CSt) (tv : Int → Value) (x y : Int) (h : y ≠ x) : itC (forC z x) tv y = itC z tv y := by
  unfold itC forC
  simp only
  rw [if_neg h]
theorem row_low {w : World} {B B' : Nat} {e : TypeId} {k : Nat} {v : Value} {n : Nat} {xs : List Value} (h : w.ownsRow B e k v n xs) (hb : B' ≤ B) : w.ownsRow B' e k v n xs :=
  ⟨h.1, h.2.imp (fun e => e) fun ⟨g, cap, cur, e, hg, r⟩ => ⟨g, cap, cur, e, Nat.le_trans hb hg, r⟩⟩
theorem item_range {w : World} {g k : Nat} {cs : List Value} (h : ∀ i, i < 130 → w.cell? ⟨g, k + i, none⟩ = cs[i]?) (hl : cs.length = 130) : w.rangeAt g k cs := fun i v hv => by
  rw [h i (by rcases Nat.lt_or_ge i 130 with c | c; exact c; rw [List.getElem?_eq_none (by omega)] at hv; cases hv)]
  exact hv
/-- The lists of one that has forgotten a sector. -/
theorem IsRC0.forget {w wr : World} {r rd n : Nat} {ρ : Nat → Option RRole} {z : CSt} {rk rc : Nat} {X : Array Value} {v0 v1 lv : Value} {tv : Int → Value} {W : List (Int × Int)} (h : IsRC0 w r rd rk n rc X v0 v1 lv tv W ρ z) (x : Int) (u0 u1 : Value) (hc : Chg w wr No)
    (h0 : wr.ownsRow w.heap.size 109 130 u0 (flK x (secs z.dirty)).length ((flK x (secs z.dirty)).flatMap (itC z tv))) (h1 : Edgs wr w.heap.size u1 (rwK x W)) (hne : ∀ k, u0.ownBlock = some k → u1.ownBlock ≠ some k) :
    RPost w ((wr.setCell ⟨r, 1, none⟩ u0).setCell ⟨r, 2, none⟩ u1) r rd n ρ (forC z x) := by
  have hr := h.lt _ _ h.rm
  have hc1 : Chg wr (wr.setCell ⟨r, 1, none⟩ u0) (· = r) := Chg.setCell
  have hc2 : Chg (wr.setCell ⟨r, 1, none⟩ u0) ((wr.setCell ⟨r, 1, none⟩ u0).setCell ⟨r, 2, none⟩ u1) (· = r) := Chg.setCell
  have hcb : Chg wr ((wr.setCell ⟨r, 1, none⟩ u0).setCell ⟨r, 2, none⟩ u1) (· = r) := hc1.trans hc2 (fun _ _ e => e) (fun _ _ e => e)
  have hcw : Chg w ((wr.setCell ⟨r, 1, none⟩ u0).setCell ⟨r, 2, none⟩ u1) (· = r) := hc.trans hcb (fun _ _ e => e.elim) (fun _ _ e => e)
  have hw := h.call hc
  have hn : ∀ {k : Nat} {q : RRole}, ρ k = some q → q ≠ .me → ¬ k = r := fun hk hq e => ownR_not hk h.rm hq e
  have hb0 : ∀ k, u0.ownBlock = some k → w.heap.size ≤ k ∧ k < wr.heap.size := fun k hk => row_ge h0 hk
  have hb1 : ∀ k, u1.ownBlock = some k → w.heap.size ≤ k ∧ k < wr.heap.size := fun k hk => row_ge h1 hk
  have hlt : ∀ {k : Nat} {q : RRole}, ρ k = some q → k < w.heap.size := fun hk => h.lt _ _ hk
  have hold : ∀ {k : Nat} {q : RRole}, ρ k = some q → (if u0.ownBlock = some k then some RRole.it else if u1.ownBlock = some k then some RRole.wy else ρ k) = some q := fun {k q} hk => by
    have := hlt hk
    rw [if_neg (fun e => by have := (hb0 k e).1; omega), if_neg (fun e => by have := (hb1 k e).1; omega)]
    exact hk
  refine ⟨fun k => if u0.ownBlock = some k then some .it else if u1.ownBlock = some k then some .wy else ρ k, ⟨rk, rc, X, u0, u1, lv, tv, rwK x W, ?_⟩, ?_, hcw.mono fun k _ e => ⟨.me, by rw [e]; exact h.rm⟩⟩
  · refine ⟨?_, isQ_keep h.dk hcw (hn h.rd_ (by intro e; cases e)) (hn h.rs (by intro e; cases e)), ?_, row_low (row_keep h1 hcb fun k hk e => by have := (hb1 k hk).1; omega) (Nat.zero_le _), ?_, row_keep h.ld hcw fun k hk => hn (h.rl k hk) (by intro e; cases e), h.wd.filter _, fun a b => ?_, hold h.rm, hold h.rd_, hold h.rs, fun k hk => if_pos hk, fun k hk => ?_, fun y k hy hk => ?_, fun k hk => hold (h.rl k hk), fun k q hk => ?_, forC_inv h.inv x⟩
    · have e1 := heap_setCell_same wr r 1 _ 91 u0 hw.me
      exact heap_setCell_same _ r 2 _ 91 u1 e1
    · have := row_low (row_keep h0 hcb fun k hk e => by have := (hb0 k hk).1; omega) (Nat.zero_le _)
      rw [secs_for] at this
      have e : (secs (forC z x).dirty).flatMap (itC (forC z x) tv) = (secs (forC z x).dirty).flatMap (itC z tv) := by
        rw [List.flatMap_def, List.flatMap_def]
        refine congrArg List.flatten (List.map_congr_left fun y hy => itC_for z tv x y fun e => ?_)
        have h9 := (secs_mem.1 hy).2
        unfold CSt.dirty forC at h9
        simp only at h9
        rw [if_pos e] at h9
        cases h9
      rw [e]
      exact this
    · intro y q hy
      unfold forC at hy
      simp only at hy
      by_cases e : y = x
      · rw [if_pos e] at hy; cases hy
      · rw [if_neg e] at hy
        exact row_keep (h.tg y q hy) hcw fun k hk => hn (h.rt y k (by unfold CSt.dirty; rw [hy]; rfl) hk) (by intro e; cases e)
    · unfold rwK forC delE
      simp only [List.mem_filter, h.we, Bool.and_eq_true, decide_eq_true_eq]
    · show (if u0.ownBlock = some k then some RRole.it else if u1.ownBlock = some k then some RRole.wy else ρ k) = some .wy
      rw [if_neg (fun e => hne k e hk), if_pos hk]
    · refine hold (h.rt y k ?_ hk)
      unfold CSt.dirty forC at hy
      simp only at hy
      by_cases e : y = x
      · rw [if_pos e] at hy; cases hy
      · rw [if_neg e] at hy; exact hy
    · have hsz := hcb.size
      have hs2 := hc.size
      by_cases e0 : u0.ownBlock = some k
      · have := (hb0 k e0).2; omega
      · by_cases e1 : u1.ownBlock = some k
        · have := (hb1 k e1).2; omega
        · simp only [if_neg e0, if_neg e1] at hk
          have := hlt hk
          omega
  · rintro k ⟨q, hk⟩
    by_cases e0 : u0.ownBlock = some k
    · exact .inr (hb0 k e0).1
    · by_cases e1 : u1.ownBlock = some k
      · exact .inr (hb1 k e1).1
      · simp only [if_neg e0, if_neg e1] at hk
        exact .inl ⟨q, hk⟩
end Go.Proofs.YtamoepninddbcaaGreat

namespace Go.Proofs.YtamoepninddbcaaGreat
open Go.RowKit

section
variable {r rd n : Nat} {ρ : Nat → Option RRole} {z : CSt}
set_option maxHeartbeats 4000000 in
set_option maxRecDepth 100000 in
theorem rforget_any (x : Int) (w : World) (h : IsRC w r rd n ρ z) : Calls Tryz.prog 80 #[.pointer (some ⟨r, 0, none⟩), .int .i64 x] w fun e w' => e = .returned (.tuple #[]) ∧ RPost w w' r rd n ρ (forC z x) := by
  obtain ⟨rk, rc, X, v0, v1, lv, tv, W, h⟩ := h
  have hn4 := secs_len z.dirty
  have hfw := h.few
  obtain ⟨m, hm⟩ : ∃ y, y = (secs z.dirty).length := ⟨_, rfl⟩
  obtain ⟨m2, hm2⟩ : ∃ y, y = W.length := ⟨_, rfl⟩
  obtain ⟨a, cp, hpv⟩ := row_shK h.it
  obtain ⟨a2, cp2, hpv2⟩ := row_shK h.wy
  have n1 : (m : Int) ≤ 4096 := by omega
  have n2 : (m2 : Int) ≤ 16777216 := by omega
  have HM := hid hm
  have HM2 := hid hm2
  have H := hid h
  have HPv := hid hpv
  have HPv2 := hid hpv2
  have HK1 : Hid (∀ W', Chg w W' No → W'.cell? ⟨r, 1, none⟩ = some (.slice a m cp)) := hid (fun W' hW => by
    have := (h.call hW).c1
    rw [hpv, ← hm] at this
    exact this)
  have HK2 : Hid (∀ W', Chg w W' No → W'.cell? ⟨r, 2, none⟩ = some (.slice a2 m2 cp2)) := hid (fun W' hW => by
    have := (h.call hW).c2
    rw [hpv2, ← hm2] at this
    exact this)
  have HR := hid (h.lt _ _ h.rm)
  clear hm hm2 h hpv hpv2 hn4 hfw
  go_enter Tryz.func80, Tryz.ntmps80
  go_upto_region 2 with fail
  go_loopw [4, 5] (fun x4 x5 wr => ∃ (v : Value) (i : Nat), v = x4 ∧ x5 = .int .i64 (i : Int) ∧ i ≤ m ∧ Hid (wr.ownsRow w.heap.size 109 130 v (flK x ((secs z.dirty).take i)).length ((flK x ((secs z.dirty).take i)).flatMap (itC z tv)) ∧ Chg w wr No)) (fun _ x5 _ => m - (intOf x5).toNat)
  case atStart => exact ⟨_, 0, rfl, rfl, Nat.zero_le _, hid ⟨World.ownsRow_nil _ _ _ _, Chg.refl _ _⟩⟩
  case round =>
    obtain ⟨v, i, rfl, rfl, hi, HA⟩ := hrel
    have i0 : (0 : Int) ≤ (i : Int) := by omega
    have q1 := HK1.out wr HA.out.2
    by_cases hlt : i < m
    · have i1 : (i : Int) < (m : Int) := by omega
      obtain ⟨y, he⟩ : ∃ e, (secs z.dirty)[i]? = some e := ⟨_, List.getElem?_eq_getElem (by rw [← HM.out]; exact hlt)⟩
      have hC := H.out.call HA.out.2
      obtain ⟨ga, cp2, h1, _, p1, pA⟩ := hC.item he
      rw [HPv.out, ← HM.out] at h1
      cases h1
      have HTk := hid (take_one he)
      have HRg : Hid (wr.rangeAt ga (i * 130) (itC z tv y)) := hid (item_range pA (itC_len hC.inv y))
      have HIl : Hid ((itC z tv y).length = 130) := hid (itC_len hC.inv y)
      have HI1 : Hid (∀ u ∈ itC z tv y, u.oneCell' = true) := hid (by
        have hd : z.dirty y := (secs_mem.1 (List.mem_of_getElem? he)).2
        unfold CSt.dirty at hd
        obtain ⟨q, hq⟩ := Option.isSome_iff_exists.1 hd
        exact itC_one z tv y (ints_one (hC.tg y q hq)))
      clear he pA hC
      by_cases hst : y = x
      · have HFr : Hid (flK x ((secs z.dirty).take (i + 1)) = flK x ((secs z.dirty).take i)) := hid (by rw [HTk.out, flK_snoc, if_pos hst])
        have z1 : (y == x) = true := beq_iff_eq.2 hst
        have z2 : (y != x) = false := by simp [hst]
        clear hst
        go_wp2_with fail
        exact ⟨⟨v, i + 1, rfl, by go_num, by omega, hid ⟨by rw [HFr.out]; exact HA.out.1, HA.out.2⟩⟩, by simp [intOf]; omega⟩
      · have HFr : Hid (flK x ((secs z.dirty).take (i + 1)) = flK x ((secs z.dirty).take i) ++ [y]) := hid (by rw [HTk.out, flK_snoc, if_neg hst])
        have z1 : (y == x) = false := beq_eq_false_iff_ne.2 hst
        have z2 : (y != x) = true := by simp [hst]
        have HOw : Hid (∀ o, (wr.alloc o).ownsRow w.heap.size 109 130 v (flK x ((secs z.dirty).take i)).length ((flK x ((secs z.dirty).take i)).flatMap (itC z tv))) := hid (fun o => row_keep HA.out.1 (Chg.alloc wr o No) (fun _ _ e => e))
        have HLn : Hid ((flK x ((secs z.dirty).take i)).length ≤ 4096) := hid (by
          have h9 := List.length_filter_le (fun y => decide (y ≠ x)) ((secs z.dirty).take i)
          rw [List.length_take] at h9
          have := HM.out
          unfold flK
          omega)
        clear hst
        go_wp2_with (first
          | (refine wp_loadIt rfl _ rfl ga (i * 130) (itC z tv y) rfl HRg.out HIl.out ?_)
          | (refine wp_sliceIt rfl _ rfl (itC z tv y).toArray (by rw [List.size_toArray]; exact HIl.out) rfl ?_)
          | (at_builtin; go_must (refine wp_appIt rfl _ _ rfl w.heap.size wr.heap.size 1 v _ _ (itC z tv y) rfl rfl (HOw.out _) (heap_alloc_new _ _) HIl.out HI1.out (by have := HLn.out; omega) (by have := HA.out.2.size; simp; omega) ?_; intro v5 w5 h51 h52 h53; have H51 := hid h51; have H52 := hid h52; clear h51 h52 h53))
          | fail)
        exact ⟨⟨v5, i + 1, rfl, by go_num, by omega, hid ⟨by rw [HFr.out, List.length_append, List.flatMap_append, List.flatMap_singleton]; exact H51.out, (HA.out.2.tr (Chg.alloc wr _ No)).trans H52.out (fun _ _ e => e) (fun j hj e => by have := (row_ge HA.out.1 e).1; omega)⟩⟩, by simp [intOf]; omega⟩
    · have i1 : ¬ (i : Int) < (m : Int) := by omega
      have HF : Hid (wr.ownsRow w.heap.size 109 130 v (flK x (secs z.dirty)).length ((flK x (secs z.dirty)).flatMap (itC z tv)) ∧ Chg w wr No) := hid (by
        have := HA.out.1
        rw [List.take_of_length_le (by rw [← HM.out]; omega)] at this
        exact ⟨this, HA.out.2⟩)
      obtain ⟨aF, cF, hvF⟩ := row_shK HF.out.1
      subst hvF
      clear HA hi
      have q2 := HK2.out wr HF.out.2
      obtain ⟨wA, hwA⟩ : ∃ y, y = wr := ⟨_, rfl⟩
      subst hwA
      go_wp2_with fail
      go_loopw [6, 7] (fun x6 x7 wr => ∃ (v : Value) (i : Nat), v = x6 ∧ x7 = .int .i64 (i : Int) ∧ i ≤ m2 ∧ Hid (Edgs wr wA.heap.size v (rwK x (W.take i)) ∧ Chg wA wr No)) (fun _ x7 _ => m2 - (intOf x7).toNat)
      case atStart => exact ⟨_, 0, rfl, rfl, Nat.zero_le _, hid ⟨World.ownsRow_nil _ _ _ _, Chg.refl _ _⟩⟩
      case round =>
        obtain ⟨u, k, rfl, rfl, hk, HB⟩ := hrel
        have k0 : (0 : Int) ≤ (k : Int) := by omega
        have hcB := HF.out.2.tr HB.out.2
        have q2 := HK2.out wr hcB
        by_cases hlt : k < m2
        · have k1 : (k : Int) < (m2 : Int) := by omega
          obtain ⟨e, he⟩ : ∃ e, W[k]? = some e := ⟨_, List.getElem?_eq_getElem (by rw [← HM2.out]; exact hlt)⟩
          obtain ⟨ge, cp3, h1, _, p1, p2⟩ := (H.out.call hcB).edge he
          rw [HPv2.out, ← HM2.out] at h1
          cases h1
          have HTk : Hid (W.take (k + 1) = W.take k ++ [e]) := hid (by rw [List.take_add_one, he]; rfl)
          clear he
          by_cases hy : e.1 ≠ x ∧ e.2 ≠ x
          · have HFr : Hid (rwK x (W.take (k + 1)) = rwK x (W.take k) ++ [e]) := hid (by rw [HTk.out, rwK_snoc, if_pos hy])
            have hb1 : (e.1 == x) = false := by simp [hy.1]
            have hb2 : (e.2 == x) = false := by simp [hy.2]
            have hb3 : (e.1 != x) = true := by simp [hy.1]
            have hb4 : (e.2 != x) = true := by simp [hy.2]
            have HOw : Hid (∀ o, Edgs (wr.alloc o) wA.heap.size u (rwK x (W.take k))) := hid (fun o => row_keep HB.out.1 (Chg.alloc wr o No) (fun _ _ e => e))
            have hca : (wr.alloc (.cells #[.int .i64 e.1, .int .i64 e.2] 73)).cell? ⟨wr.heap.size, 0, none⟩ = some (.int .i64 e.1) := by rw [cell_of_row _ _ _ _ _ _ (heap_alloc_new _ _)]; rfl
            have hcb : (wr.alloc (.cells #[.int .i64 e.1, .int .i64 e.2] 73)).cell? ⟨wr.heap.size, 1, none⟩ = some (.int .i64 e.2) := by rw [cell_of_row _ _ _ _ _ _ (heap_alloc_new _ _)]; rfl
            have HLn : Hid ((rwK x (W.take k)).length ≤ 16777216) := hid (by
              have h9 := List.length_filter_le (fun e : Int × Int => decide (e.1 ≠ x) && decide (e.2 ≠ x)) (W.take k)
              rw [List.length_take] at h9
              have := HM2.out
              unfold rwK
              omega)
            clear hy
            go_wp2_with (first
              | (at_builtin; go_must (refine wp_appE rfl _ _ rfl wA.heap.size wr.heap.size 1 u (rwK x (W.take k)) e rfl rfl (HOw.out _) hca hcb (by have := HLn.out; omega) (by have := HB.out.2.size; simp; omega) ?_; intro v6 w6 h61 h62 h63; have H61 := hid h61; have H62 := hid h62; clear h61 h62 h63))
              | fail)
            exact ⟨⟨v6, k + 1, rfl, by go_num, by omega, hid ⟨by rw [HFr.out]; exact H61.out, (HB.out.2.tr (Chg.alloc wr _ No)).trans H62.out (fun _ _ e => e) (fun j hj e => by have := (row_ge HB.out.1 e).1; omega)⟩⟩, by simp [intOf]; omega⟩
          · have HFr : Hid (rwK x (W.take (k + 1)) = rwK x (W.take k)) := hid (by rw [HTk.out, rwK_snoc, if_neg hy])
            by_cases hy1 : e.1 = x
            · have hb3 : (e.1 != x) = false := by simp [hy1]
              have hb1 : (e.1 == x) = true := by simp [hy1]
              clear hy hy1
              go_wp2_with fail
              exact ⟨⟨u, k + 1, rfl, by go_num, by omega, hid ⟨by rw [HFr.out]; exact HB.out.1, HB.out.2⟩⟩, by simp [intOf]; omega⟩
            · have hy2 : e.2 = x := Classical.byContradiction fun e => hy ⟨hy1, e⟩
              have hb1 : (e.1 == x) = false := by simp [hy1]
              have hb3 : (e.1 != x) = true := by simp [hy1]
              have hb2 : (e.2 == x) = true := by simp [hy2]
              have hb4 : (e.2 != x) = false := by simp [hy2]
              clear hy hy1 hy2
              go_wp2_with fail
              exact ⟨⟨u, k + 1, rfl, by go_num, by omega, hid ⟨by rw [HFr.out]; exact HB.out.1, HB.out.2⟩⟩, by simp [intOf]; omega⟩
        · have k1 : ¬ (k : Int) < (m2 : Int) := by omega
          have HG : Hid (Edgs wr wA.heap.size u (rwK x W)) := hid (by
            have := HB.out.1
            rw [List.take_of_length_le (by rw [← HM2.out]; omega)] at this
            exact this)
          obtain ⟨aG, cG, hvG⟩ := row_shK HG.out
          subst hvG
          have hme := (H.out.call hcB).me
          have q1 := HK1.out wr hcB
          have f1 := frozen_of_row (j := 1) _ _ _ _ hme
          have hm1 := heap_setCell_same wr r 1 _ 91 (.slice aF (flK x (secs z.dirty)).length cF) hme
          have q22 := cell_of_row _ _ 2 _ _ _ hm1
          have f2 := frozen_of_row (j := 2) _ _ _ _ hm1
          have HP := hid (H.out.forget x (.slice aF (flK x (secs z.dirty)).length cF) (.slice aG (rwK x W).length cG) hcB (row_keep HF.out.1 HB.out.2 (fun _ _ e => e)) (row_low HG.out HF.out.2.size) (fun j h1 h2 => by have := (row_ge HF.out.1 h1).2; have := (row_ge HG.out h2).1; omega))
          clear hme hm1
          go_wp2_with fail
          go_end0
          exact ⟨rfl, HP.out⟩
end
end Go.Proofs.YtamoepninddbcaaGreat
