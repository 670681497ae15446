/-
  The sectors of blocks that were found; a list of numbers of the call's own.
-/
import Derived.Test.YtpmignilhoihnaaGreatK7
import Derived.Test.YtpmignilhoihnaaGreatQ0
namespace Go.Proofs.YtpmignilhoihnaaGreat
open Go.RowKit Go.Shelf

abbrev PV (g : Nat) : Value := .pointer (some ⟨g, 0, none⟩)
set_option maxRecDepth 100000 in
set_option maxHeartbeats 1000000 in
theorem table_make (each : Int) (fn : Nat) (caps : Array Value) (kb lb : Nat) (w : World) :
    Calls Tryz.prog 79 #[.int .i64 each, .func (.func fn) #[] caps, PV kb, PV lb] w fun e w' => ∃ ge gk, e = .returned (.func (.func 80) #[] #[PV kb, PV lb, PV gk, PV ge]) ∧ Box w' ge (.int .i64 each) 3 ∧ Box w' gk (.func (.func fn) #[] caps) 134 ∧ Chg w w' No := by
  have h1 : Box ((w.alloc (.cells #[.int .i64 each] 3)).alloc (.cells #[.func (.func fn) #[] caps] 134)) w.heap.size (.int .i64 each) 3 := (Chg.alloc _ _ No).keep (heap_alloc_new w _) (fun e => e)
  have h2 : Box ((w.alloc (.cells #[.int .i64 each] 3)).alloc (.cells #[.func (.func fn) #[] caps] 134)) (w.heap.size + 1) (.func (.func fn) #[] caps) 134 := by
    have := heap_alloc_new (w.alloc (.cells #[.int .i64 each] 3)) (.cells #[.func (.func fn) #[] caps] 134)
    simp only [World.size_alloc] at this
    exact this
  have HC := hid ((Chg.alloc w (.cells #[.int .i64 each] 3) No).trans (Chg.alloc _ (.cells #[.func (.func fn) #[] caps] 134) No) (c := No) (fun _ _ e => e) (fun _ _ e => e))
  have H1 := hid h1
  have H2 := hid h2
  clear h1 h2
  go_enter Tryz.func79, Tryz.ntmps79
  go_wp2_with fail
  go_ret
  exact ⟨w.heap.size, w.heap.size + 1, rfl, H1.out, H2.out, HC.out⟩

/-- What a table's keeper has captured. -/
def XT (c : LC) (X : World → Prop) (kb lb gk ge : Nat) (fn : Nat) (caps : Array Value) (cnt each : Int) (w : World) : Prop :=
  XB c kb lb cnt w ∧ Box w gk (.func (.func fn) #[] caps) 134 ∧ Box w ge (.int .i64 each) 3 ∧ X w
theorem goF_le {F : KeepF} {D : Nat} (h : ∀ s i n, (F s i n).2.sp.length ≤ s.sp.length + D) (at_ : Int) (s : TS) : (goF F at_ s).2.sp.length ≤ s.sp.length + 32 * D := by
  have := goK_le h (ptrsTo (secI s.wt at_) 32) s 32
  unfold goF
  simp only
  split <;> exact this
theorem tableF_le {F : KeepF} {D : Nat} (N M cnt each : Int) (h : ∀ s i n, (F s i n).2.sp.length ≤ s.sp.length + D) (s : TS) (i n : Int) : (tableF N M cnt each F s i n).2.sp.length ≤ s.sp.length + 32 * D := by
  unfold tableF
  split
  · exact goF_le (F := innerF each i F) (fun s i n => h s _ n) n _
  · exact Nat.le_add_right _ _

set_option maxRecDepth 100000 in
set_option maxHeartbeats 2000000 in
theorem table_any {c : LC} {sb : Nat} {X : World → Prop} {fn : Nat} {caps : Array Value} {U : Int} {D : Nat} {F : KeepF} {kb lb gk ge : Nat} {cnt each : Int} (h : Keeper c sb X fn caps U D F) (he : each = 1 ∨ each = 32) (hU2 : U ≤ 1000000)
    (s : TS) (f n : Int) (w : World) (ht : TE w c sb s) (hx : XT c X kb lb gk ge fn caps cnt each w) (hf : 0 ≤ f) (hU : f + each * 31 ≤ U) (hn0 : 0 ≤ n) (hn1 : n ≤ 4294967295) (hl : s.sp.length + 32 * D ≤ 1000000) :
    Calls Tryz.prog 80 #[.int .i64 f, .int .i64 n, PV kb, PV lb, PV gk, PV ge] w fun e w' => e = .returned (.bool (tableF c.N c.M cnt each F s f n).1) ∧ TE w' c sb (tableF c.N c.M cnt each F s f n).2 ∧ Chg w w' (Kt c sb w) := by
  obtain ⟨hXB, hgk, hge, hX⟩ := hx
  have HA := hid (Chg.alloc w (.cells #[.int .i64 f] 3) No)
  have hgf : Box (w.alloc (.cells #[.int .i64 f] 3)) w.heap.size (.int .i64 f) 3 := heap_alloc_new w _
  have hXI : XI X gk w.heap.size ge fn caps f each (w.alloc (.cells #[.int .i64 f] 3)) := ⟨hgk.call HA.out, hgf, hge.call HA.out, h.st _ _ hX (stays_no HA.out)⟩
  have k0 := hgf.cell
  have k1 := (hXB.1.call HA.out).cell
  have k2 := (hXB.2.call HA.out).cell
  have hT0 := ht.call HA.out
  have hK := inner_keeper (gk := gk) (gf := w.heap.size) (ge := ge) h he hf hU hU2
  unfold LP at k2
  by_cases hfc : f < cnt
  · have hCL := claim_any n _ hT0.p hT0.k ⟨by omega, by omega⟩
    cases hb : claimB c.N c.M s.cl n
    · have HF : Hid (tableF c.N c.M cnt each F s f n = (false, s)) := hid (by simp [tableF, hb])
      rw [hb] at hCL
      rw [HF.out]
      have HT0 := hid hT0
      clear ht hT0 hXB hgk hge hX hXI hgf hK h
      go_enter Tryz.func80, Tryz.ntmps80
      go_wp2_with (first
        | (go_at_call 78; go_must (refine hCL.mono ?_; rintro e w1 ⟨rfl, hp1, hk1, hc1⟩))
        | fail)
      go_ret
      exact ⟨rfl, HT0.out.claims hp1 hk1 hc1, kt_trans (kt_no HA.out) (claims_kt HT0.out hc1)⟩
    · have HF : Hid (tableF c.N c.M cnt each F s f n = goF (innerF each f F) n ⟨s.wt, Go.Proofs.YtpmignilhoihnaaGreat.putC s.cl n, s.sp⟩) := hid (by simp [tableF, hb, hfc])
      rw [hb] at hCL
      rw [HF.out]
      have hdat : (c.M : Int) < n ∧ n < c.N := by
        have : dataB c.M c.N n = true := by simp [claimB] at hb; exact hb.2
        simpa [dataB] using this
      obtain ⟨k, rfl⟩ : ∃ k : Nat, n = (k : Int) := ⟨n.toNat, by omega⟩
      have HGo := hid (fun (W : World) (hT : TE W c sb ⟨s.wt, Go.Proofs.YtpmignilhoihnaaGreat.putC s.cl (k : Int), s.sp⟩) (hxi : XI X gk w.heap.size ge fn caps f each W) => goThrough_any hK ⟨s.wt, Go.Proofs.YtpmignilhoihnaaGreat.putC s.cl (k : Int), s.sp⟩ k W hT hxi (by omega) (by omega) hl)
      have HT0 := hid hT0
      have HXI := hid hXI
      have HKst := hid hK.st
      have HBL := hid (hXB.2.call HA.out)
      clear ht hT0 hXB hgk hge hX hXI hgf hK h
      generalize goF (innerF each f F) (k : Int) ⟨s.wt, Go.Proofs.YtpmignilhoihnaaGreat.putC s.cl (k : Int), s.sp⟩ = q at *
      obtain ⟨qb, qs⟩ := q
      unfold LP at HGo
      cases qb
      · go_enter Tryz.func80, Tryz.ntmps80
        go_wp2_with (first
          | (go_at_call 78; go_must (refine hCL.mono ?_; rintro e w1 ⟨rfl, hp1, hk1, hc1⟩; simp only [if_true] at hk1; have hT1 := HT0.out.claims hp1 hk1 hc1; have hG := HGo.out w1 hT1 (HKst.out _ _ HXI.out (HT0.out.stays (claims_kt HT0.out hc1))); have k21 : w1.cell? ⟨lb, 0, none⟩ = some (.pointer (some ⟨c.b.p, 0, none⟩)) := Box.cell (HT0.out.stays (claims_kt HT0.out hc1) _ _ _ HBL.out (.inr (.inl rfl))); have HT1 := hid hT1; have HC1 := hid hc1; clear hp1 hk1 hT1 hc1))
          | (go_at_call 81; go_must (refine hG.mono ?_; rintro e w2 ⟨rfl, hT2, hc2⟩))
          | fail)
        go_ret
        exact ⟨rfl, hT2, kt_trans (kt_no HA.out) (kt_trans (claims_kt HT0.out HC1.out) hc2)⟩
      · go_enter Tryz.func80, Tryz.ntmps80
        go_wp2_with (first
          | (go_at_call 78; go_must (refine hCL.mono ?_; rintro e w1 ⟨rfl, hp1, hk1, hc1⟩; simp only [if_true] at hk1; have hT1 := HT0.out.claims hp1 hk1 hc1; have hG := HGo.out w1 hT1 (HKst.out _ _ HXI.out (HT0.out.stays (claims_kt HT0.out hc1))); have k21 : w1.cell? ⟨lb, 0, none⟩ = some (.pointer (some ⟨c.b.p, 0, none⟩)) := Box.cell (HT0.out.stays (claims_kt HT0.out hc1) _ _ _ HBL.out (.inr (.inl rfl))); have HT1 := hid hT1; have HC1 := hid hc1; clear hp1 hk1 hT1 hc1))
          | (go_at_call 81; go_must (refine hG.mono ?_; rintro e w2 ⟨rfl, hT2, hc2⟩))
          | fail)
        go_ret
        exact ⟨rfl, hT2, kt_trans (kt_no HA.out) (kt_trans (claims_kt HT0.out HC1.out) hc2)⟩
  · have HF : Hid (tableF c.N c.M cnt each F s f n = (false, s)) := hid (by simp [tableF, hfc])
    rw [HF.out]
    have HT0 := hid hT0
    clear ht hT0 hXB hgk hge hX hXI hgf hK h
    go_enter Tryz.func80, Tryz.ntmps80
    go_wp2_with fail
    go_ret
    exact ⟨rfl, HT0.out, kt_no HA.out⟩

theorem table_keeper {c : LC} {sb : Nat} {X : World → Prop} {fn : Nat} {caps : Array Value} {U U' : Int} {D : Nat} {F : KeepF} {kb lb gk ge : Nat} {cnt each : Int} (h : Keeper c sb X fn caps U D F) (he : each = 1 ∨ each = 32) (hU2 : U ≤ 1000000) (hU : U' + each * 31 ≤ U) :
    Keeper c sb (XT c X kb lb gk ge fn caps cnt each) 80 #[PV kb, PV lb, PV gk, PV ge] U' (32 * D) (tableF c.N c.M cnt each F) where
  en := enters_of Tryz.func80 (by kernel_rfl) rfl
  st := fun w w' hx hs => ⟨hx.1.stay hs, hs _ _ _ hx.2.1 (.inr (.inr rfl)), hs _ _ _ hx.2.2.1 (.inl rfl), h.st w w' hx.2.2.2 hs⟩
  le := tableF_le _ _ _ _ h.le
  run := fun s i n w ht hx h0 h1 hn0 hn1 hl => table_any h he hU2 s i n w ht hx h0 (by omega) hn0 hn1 hl

end Go.Proofs.YtpmignilhoihnaaGreat

namespace Go.Proofs.YtpmignilhoihnaaGreat
open Go.RowKit Go.Shelf

def IOwn (w : World) (B : Nat) (v : Value) (l : List Int) : Prop := w.ownsRow B 3 1 v l.length (l.map (Value.int .i64))
theorem infoI : ∃ i, Tryz.prog.info? 3 = some i ∧ i.zero = some (.int .i64 0) ∧ i.size = 1 ∧ i.bytes = 8 := by
  have h : (Tryz.prog.info? 3).map (fun i => (i.zero, i.size, i.bytes)) = some (some (.int .i64 0), 1, 8) := by kernel_rfl
  cases hq : Tryz.prog.info? 3 with
  | none => rw [hq] at h; cases h
  | some i =>
    rw [hq] at h
    simp at h
    exact ⟨i, rfl, h.1, h.2.1, h.2.2⟩
theorem IOwn.blk {w : World} {B : Nat} {v : Value} {l : List Int} (h : IOwn w B v l) {k : Nat} (e : v.ownBlock = some k) : B ≤ k ∧ ∃ A, w.heap[k]? = some (.cells A 3 (0, 0)) := by
  rcases h.2 with ⟨rfl, _⟩ | ⟨g, cap, cur, rfl, hb, hg, _⟩
  · cases e
  · have : g = k := by simpa [Value.ownBlock] using e
    subst this
    exact ⟨hb, cur, hg⟩
theorem IOwn.keep {w w' : World} {B : Nat} {v : Value} {l : List Int} {ks : Nat → Prop} (h : IOwn w B v l) (hc : Chg w w' ks) (hn : ∀ k, v.ownBlock = some k → ¬ ks k) : IOwn w' B v l := by
  refine ⟨h.1, ?_⟩
  rcases h.2 with k | ⟨g, cap, cur, rfl, hb, hg, r⟩
  · exact .inl k
  · exact .inr ⟨g, cap, cur, rfl, hb, hc.keep hg (hn g rfl), r⟩
theorem IOwn.lat {w : World} {B : Nat} {v : Value} {l : List Int} (h : IOwn w B v l) : ∃ a c, v = .slice a l.length c ∧ LAt w a l := by
  obtain ⟨a, c, rfl⟩ := row_shapeP h
  refine ⟨a, c, rfl, ?_⟩
  rcases Nat.eq_zero_or_pos l.length with h0 | h0
  · exact .inl (List.eq_nil_of_length_eq_zero h0)
  · rcases h.2 with ⟨e, _⟩ | ⟨g, cap, cur, e, hb, hg, r⟩
    · injection e; omega
    · cases e
      refine .inr ⟨g, rfl, ⟨cur, hg⟩, fun k hk => ?_⟩
      have := World.ownsRow.cells h (g := g) rfl k (.int .i64 (l.getD k 0)) (by simp [hk])
      have hadd : (⟨g, 0, none⟩ : Addr).add k = ⟨g, k, none⟩ := by unfold Addr.add; split <;> simp_all
      rw [hadd] at this
      exact this
section
variable {ops : Array Oper} {rest : List Oper} {o : Oper} {a : Act} {Q : Exit → Act → World → Prop} {w : World}
/-- append of one number, into a slot. -/
theorem wp_appI (hg : o.guard = none) (s x : Operand) (hop : o.op = .call { callee := .builtin .append, args := #[s, x], argTypes := #[24, 24] }) (B g c : Nat) (v : Value) (l : List Int) (y : Int) (hs : a.eval s = v) (hx : a.eval x = .slice (some ⟨g, 0, none⟩) 1 c)
    (hown : IOwn w B v l) (hat : w.cell? ⟨g, 0, none⟩ = some (.int .i64 y)) (hl : l.length ≤ 1000000000000) (hB : B ≤ w.heap.size)
    (hK : ∀ v' w', IOwn w' B v' (l ++ [y]) → Chg w w' (fun k => v.ownBlock = some k) → wpList Tryz.prog ops Q rest (a.put o.dst v') w') : wpList Tryz.prog ops Q (o :: rest) a w := by
  obtain ⟨i, hi, hz, hsz, hby⟩ := infoI
  refine wpList_append_own_at w hg s x 24 hop B 3 i _ 1 8 Tryz.underlying24 hi hz hsz hby rfl (by decide) v l.length (l.map (Value.int .i64)) hs hown ⟨g, 0, none⟩ 1 c [.int .i64 y] hx rfl (fun j u hj => ?_) (by simp [Value.oneCell']) (by unfold maxLen; omega) (by omega) hB ?_
  · cases j with
    | zero => simp at hj; subst hj; exact hat
    | succ j => simp at hj
  · intro v' w' h1 h2 _ _
    refine hK v' w' ?_ ((Chg.grown h2).mono fun j _ e => e.symm)
    unfold IOwn
    rw [List.map_append, List.length_append]
    exact h1
end
/-- Blocks that were found, in memory. -/
def SpAt (w : World) (a : Option Addr) (l : List (Int × Int)) : Prop := l = [] ∨ ∃ g, a = some ⟨g, 0, none⟩ ∧ g < w.heap.size ∧ ∀ (k : Nat) x, l[k]? = some x → w.cell? ⟨g, k * 2, none⟩ = some (.int .i64 x.1) ∧ w.cell? ⟨g, k * 2 + 1, none⟩ = some (.int .i64 x.2)
theorem SpAt.call {w w' : World} {a : Option Addr} {l : List (Int × Int)} (h : SpAt w a l) (hc : Chg w w' No) : SpAt w' a l := by
  rcases h with h | ⟨g, rfl, hg, h⟩
  · exact .inl h
  · exact .inr ⟨g, rfl, Nat.lt_of_lt_of_le hg hc.size, fun k x hk => ⟨cell_keep (h k x hk).1 hc hg (fun e => e), cell_keep (h k x hk).2 hc hg (fun e => e)⟩⟩
theorem spAt_of {w : World} {B : Nat} {v : Value} {l : List (Int × Int)} (h : w.ownsRow B 116 2 v l.length (cellsP l)) : ∃ a c, v = .slice a l.length c ∧ SpAt w a l := by
  obtain ⟨a, c, rfl⟩ := row_shapeP h
  refine ⟨a, c, rfl, ?_⟩
  rcases Nat.eq_zero_or_pos l.length with h0 | h0
  · exact .inl (List.eq_nil_of_length_eq_zero h0)
  · rcases h.2 with ⟨e, _⟩ | ⟨g, cap, cur, e, hb, hg, r⟩
    · injection e; omega
    · cases e
      refine .inr ⟨g, rfl, slt hg, fun k x hk => ?_⟩
      have hadd : ∀ k, (⟨g, 0, none⟩ : Addr).add k = ⟨g, k, none⟩ := fun k => by unfold Addr.add; split <;> simp_all
      have c0 := World.ownsRow.cells h (g := g) rfl (2 * k) (.int .i64 x.1) (by rw [(cellsP_get l k).1, hk]; rfl)
      have c1 := World.ownsRow.cells h (g := g) rfl (2 * k + 1) (.int .i64 x.2) (by rw [(cellsP_get l k).2, hk]; rfl)
      rw [hadd] at c0 c1
      rw [Nat.mul_comm k 2]
      exact ⟨c0, c1⟩

set_option maxRecDepth 100000 in
set_option maxHeartbeats 1000000 in
theorem sectorsOf_any (l : List (Int × Int)) (a : Option Addr) (cap : Nat) (w : World) (h : SpAt w a l) (hl : l.length ≤ 1000000) :
    Calls Tryz.prog 84 #[.slice a l.length cap] w fun e w' => ∃ a' c', e = .returned (.slice a' l.length c') ∧ LAt w' a' (l.map Prod.snd) ∧ Chg w w' No := by
  have HS := hid h
  generalize hm : l.length = m at *
  have HM := hid hm
  clear h hm
  go_enter Tryz.func84, Tryz.ntmps84
  go_wp2_with fail
  go_loopw [3, 8] (fun v i wr => ∃ (k : Nat) (vv : Value), vv = v ∧ k ≤ m ∧ i = .int .i64 k ∧ Hid (IOwn wr w.heap.size vv ((l.take k).map Prod.snd)) ∧ Hid (Chg w wr No)) (fun _ i _ => m - (intOf i).toNat)
  case atStart => exact ⟨0, _, rfl, by omega, rfl, hid (by simp; exact World.ownsRow_nil _ _ _ _), hid (Chg.refl _ _)⟩
  case round =>
    obtain ⟨k, vv, rfl, hk, rfl, HI, HC⟩ := hrel
    by_cases hlt : k < m
    · have i0 : (0 : Int) ≤ (k : Int) := by omega
      have i1 : (k : Int) < (m : Int) := by omega
      obtain ⟨x, hx⟩ : ∃ x, l[k]? = some x := ⟨_, List.getElem?_eq_getElem (by rw [HM.out]; exact hlt)⟩
      rcases HS.out with h0 | ⟨g, rfl, hg, hc⟩
      · rw [h0] at hx; simp at hx
      obtain ⟨c0, c1⟩ := hc k x hx
      have d0 := cell_keep c0 HC.out hg (fun e => e)
      have d1 := cell_keep c1 HC.out hg (fun e => e)
      have HX : Hid (l.take (k + 1) = l.take k ++ [x]) := hid (by
        rw [List.take_add_one, hx]; rfl)
      clear c0 c1 hc hx
      go_upto_region 5 with fail
      have e1 : (wr.alloc (.cells #[.int .i64 x.1, .int .i64 x.2] 116)).cell? ⟨wr.heap.size, 1, none⟩ = some (.int .i64 x.2) := (cell_of_row _ _ _ _ _ _ (heap_alloc_new wr _)).trans rfl
      have hz : (wr.alloc (.cells #[.int .i64 x.1, .int .i64 x.2] 116)).heap.size = wr.heap.size + 1 := by simp
      have e2 : ((wr.alloc (.cells #[.int .i64 x.1, .int .i64 x.2] 116)).alloc (.cells #[.int .i64 x.2] 3)).cell? ⟨wr.heap.size + 1, 0, none⟩ = some (.int .i64 x.2) := by
        rw [← hz]
        exact (cell_of_row _ _ _ _ _ _ (heap_alloc_new (wr.alloc (.cells #[.int .i64 x.1, .int .i64 x.2] 116)) _)).trans rfl
      have HC2 : Hid (Chg wr ((wr.alloc (.cells #[.int .i64 x.1, .int .i64 x.2] 116)).alloc (.cells #[.int .i64 x.2] 3)) No) := hid ((Chg.alloc wr _ No).trans (Chg.alloc _ _ No) (fun _ _ e => e) (fun _ _ e => e))
      have HI2 := hid (HI.out.keep HC2.out (fun _ _ e => e))
      have HB2 : Hid (w.heap.size ≤ ((wr.alloc (.cells #[.int .i64 x.1, .int .i64 x.2] 116)).alloc (.cells #[.int .i64 x.2] 3)).heap.size) := hid (Nat.le_trans HC.out.size HC2.out.size)
      have HT : Hid (((l.take k).map Prod.snd).length ≤ 1000000000000) := hid (by simp; have := HM.out; omega)
      clear hz
      go_wp2_with (first
        | (at_builtin; go_must (refine wp_appI rfl _ _ rfl w.heap.size (wr.heap.size + 1) 1 vv _ x.2 rfl rfl HI2.out e2 HT.out HB2.out ?_; intro v' w7 hI7 hc7))
        | fail)
      have hch : Chg w w7 No := (HC.out.trans HC2.out (c := No) (fun _ _ e => e) (fun _ _ e => e)).trans hc7 (fun _ _ e => e) (fun j hj e => by have := (HI2.out.blk e).1; omega)
      exact ⟨⟨k + 1, v', rfl, by omega, by go_num, hid (by rw [HX.out, List.map_append]; exact hI7), hid hch⟩, by simp [intOf]; omega⟩
    · have i1 : ¬ (k : Int) < (m : Int) := by omega
      obtain rfl : k = m := by omega
      have hI := HI.out
      rw [List.take_of_length_le (by rw [HM.out]; exact Nat.le_refl _)] at hI
      obtain ⟨a', c', rfl, hL⟩ := hI.lat
      have HLL := hid hL
      rw [List.length_map, HM.out]
      clear hL hI
      go_wp2_with fail
      go_ret
      exact ⟨a', ⟨c', rfl⟩, HLL.out, HC.out⟩

end Go.Proofs.YtpmignilhoihnaaGreat
