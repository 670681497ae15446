/-
  The book of answers: one more is kept.
-/
import Derived.Test.YtamoepninddbcaaGreatMC
namespace Go.Proofs.YtamoepninddbcaaGreat
open Go.RowKit

section
variable {ops : Array Oper} {Q : Exit → Act → World → Prop} {S : World → Prop} {fuel : Nat} {listed : Array Bool} {a : Act} {w : World}
/-- What a step's run is. -/
theorem stRun (i d : Nat) (v : Value) (w' : World) {o : Oper} (hop : ops[i]? = some o) (hd : o.dst = some d) (hw : Region.wanted o (yielded ops a.tmps) = true)
    (hrun : (execOp a.eval o).run Tryz.prog w = .ok (.value v) w')
    (h : S w' ∧ wpAnyH Tryz.prog .any ops Q S fuel (listed.setIfInBounds i true) { a with tmps := a.tmps.setIfInBounds d v } w') : St ops Q S fuel listed a w i := by
  refine wpOp_step hop (fun K hK => ?_)
  rw [if_pos hw]
  unfold Oper.wp
  rw [hrun]
  refine hK _ _ ⟨h.1, ?_⟩
  unfold Act.put
  rw [hd]
  exact h.2
theorem stAppR (i d : Nat) (v' : Value) (w' : World) {o : Oper} (hop : ops[i]? = some o) (hd : o.dst = some d) (hw : Region.wanted o (yielded ops a.tmps) = true) (s x : Operand) (t : TypeId)
    (ho : o.op = .call { callee := .builtin .append, args := #[s, x], argTypes := #[t, t] }) (v xv : Value) (hs : a.eval s = v) (hx : a.eval x = xv) (hr : (Builtin.append_ #[t, t] o.type #[v, xv]).run Tryz.prog w = .ok v' w')
    (h : S w' ∧ wpAnyH Tryz.prog .any ops Q S fuel (listed.setIfInBounds i true) { a with tmps := a.tmps.setIfInBounds d v' } w') : St ops Q S fuel listed a w i := by
  refine wpOp_step hop (fun K hK => ?_)
  rw [if_pos hw]
  unfold Oper.wp execOp
  simp only [ho, resolve, invoke, builtin, Sem.run_bind, Sem.run_pure, Result.andThen_ok, List.map_toArray, List.map_cons, List.map_nil, hs, hx, hr]
  refine hK _ _ ⟨h.1, ?_⟩
  unfold Act.put
  rw [hd]
  exact h.2
/-- append of one list, in a region that draws. -/
theorem stMore (i d : Nat) {o : Oper} (hop : ops[i]? = some o) (hd : o.dst = some d) (hw : Region.wanted o (yielded ops a.tmps) = true) (s x : Operand) (t eo : TypeId)
    (ho : o.op = .call { callee := .builtin .append, args := #[s, x], argTypes := #[t, t] }) (ht : Tryz.prog.underlying t = some (.slice eo)) (hinf : InfoL eo) (B e k g c : Nat) (v : Value) (V : List Lst) (y : Lst) (hne : eo ≠ e)
    (hs : a.eval s = v) (hx : a.eval x = .slice (some ⟨g, 0, none⟩) 1 c) (hl : Lot B eo e k v V w) (hat : w.cell? ⟨g, 0, none⟩ = some y.v) (hy : w.ownsRow B e k y.v y.n y.xs) (hap : ∀ (j : Nat) u g, V[j]? = some u → y.v.ownBlock = some g → u.v.ownBlock ≠ some g)
    (hn : V.length ≤ 10000) (hB : B ≤ w.heap.size)
    (h : ∀ v' w', Lot B eo e k v' (V ++ [y]) w' → Chg w w' (fun j => v.ownBlock = some j) → (v'.ownBlock = v.ownBlock ∨ v'.ownBlock = some w.heap.size) →
      S w' ∧ wpAnyH Tryz.prog .any ops Q S fuel (listed.setIfInBounds i true) { a with tmps := a.tmps.setIfInBounds d v' } w') : St ops Q S fuel listed a w i := by
  obtain ⟨inf, hi, hz, hsz, hby⟩ := hinf
  obtain ⟨v', w', hr, h1, h2, _, h4⟩ := run_append_own_at (P := Tryz.prog) w B t o.type eo inf _ 1 24 ht hi hz hsz hby rfl (by decide) v V.length (V.map Lst.v) hl.row ⟨g, 0, none⟩ 1 c [y.v] rfl (fun j u hj => by
    cases j with
    | zero => simp at hj; subst hj; exact hat
    | succ j => simp at hj) (by simpa using own_one hy) (by unfold maxLen; omega) (by omega) hB
  have hh := h v' w' (hl.more hne hy hap h1 h2) ((Chg.grown h2).mono fun j _ e => e.symm) h4
  refine wpOp_step hop (fun K hK => ?_)
  rw [if_pos hw]
  unfold Oper.wp execOp
  simp only [ho, resolve, invoke, builtin, Sem.run_bind, Sem.run_pure, Result.andThen_ok, List.map_toArray, List.map_cons, List.map_nil, hs, hx, hr]
  refine hK _ _ ⟨hh.1, ?_⟩
  unfold Act.put
  rw [hd]
  exact hh.2
end

/-- The book, when the first one of its lists has grown. -/
structure Bk1 (w w6 : World) (ok : Nat) (lv mv ev : Value) (V M E : List Lst) (v5 : Value) (V5 : List Lst) (X : Nat → Prop) : Prop where
  me : w6.heap[ok]? = some (.cells (BkC v5 mv ev) 57 (0, 0))
  l : Lot 0 27 3 1 v5 V5 w6
  m : Lot 0 27 3 1 mv M w6
  e : Lot 0 64 73 2 ev E w6
  bl : ∀ k, LotB v5 V5 k → LotB lv V k ∨ w.heap.size ≤ k ∨ X k
  ch : Chg w w6 (BkB ok lv mv ev V M E)
section
variable {w w1 w5 w6 w9 w10 : World} {ok : Nat} {lv mv ev v5 m' : Value} {V M E : List Lst} {x y : Lst}
theorem bk_l (h : IsBk w ok lv mv ev V M E) (hc1 : Chg w w1 No) (hL : Lot 0 27 3 1 v5 (V ++ [x]) w5) (hc : Chg w1 w5 (fun j => lv.ownBlock = some j)) (h4 : v5.ownBlock = lv.ownBlock ∨ v5.ownBlock = some w1.heap.size) :
    Bk1 w (w5.setCell ⟨ok, 0, none⟩ v5) ok lv mv ev V M E v5 (V ++ [x]) (fun k => x.v.ownBlock = some k) := by
  have h1 := h.call hc1
  have hs : Chg w5 (w5.setCell ⟨ok, 0, none⟩ v5) (· = ok) := Chg.setCell
  have me5 : w5.heap[ok]? = some (.cells (BkC lv mv ev) 57 (0, 0)) := hc.keep h1.me fun e => h1.okl (.inl e)
  have hc5 : Chg w w5 (BkB ok lv mv ev V M E) := hc1.trans hc (fun _ _ e => e.elim) fun j _ e => .inr (.inl (.inl e))
  have m5 := h1.m.kept hc fun g hg e => h.lm g (.inl e) hg
  have e5 := h1.e.kept hc fun g hg e => h.le_ (.inl e) hg
  refine ⟨?_, hL.kept hs fun g hg e => ?_, m5.kept hs fun g hg e => h.okm (e ▸ hg), e5.kept hs fun g hg e => h.oke (e ▸ hg), fun k hk => ?_, hc5.trans hs (fun _ _ e => e) fun j _ e => .inl e⟩
  · rw [heap_setCell_same w5 ok 0 _ _ _ me5]
    rfl
  · obtain ⟨cu, t, q1, q2⟩ := hL.type hg
    rw [e, me5] at q1
    cases q1
    rcases q2 with e | e <;> cases e
  · rcases lotB_more h4 hk with e | e | e
    · exact .inl e
    · exact .inr (.inl (by have := hc1.size; omega))
    · exact .inr (.inr e)
theorem bk_m (h : IsBk w ok lv mv ev V M E) (h1 : Bk1 w w6 ok lv mv ev V M E v5 (V ++ [x]) (fun k => x.v.ownBlock = some k)) (hX : ∀ k, x.v.ownBlock = some k → ¬ BkB ok lv mv ev V M E k) (hc : Chg w6 w9 No) (hyb : ∀ k, y.v.ownBlock = some k → w6.heap.size ≤ k)
    (hM : Lot 0 27 3 1 m' (M ++ [y]) w10) (hc10 : Chg w9 w10 (fun j => mv.ownBlock = some j)) (h4 : m'.ownBlock = mv.ownBlock ∨ m'.ownBlock = some w9.heap.size) (hn : V.length < 2000) (hxn : x.n ≤ 17592186044000) (hyn : y.n ≤ 17592186044000) :
    IsBk (w10.setCell ⟨ok, 1, none⟩ m') ok v5 m' ev (V ++ [x]) (M ++ [y]) E ∧ (∀ k, BkB ok v5 m' ev (V ++ [x]) (M ++ [y]) E k → BkB ok lv mv ev V M E k ∨ w.heap.size ≤ k ∨ x.v.ownBlock = some k) ∧ Chg w (w10.setCell ⟨ok, 1, none⟩ m') (BkB ok lv mv ev V M E) := by
  have hs : Chg w10 (w10.setCell ⟨ok, 1, none⟩ m') (· = ok) := Chg.setCell
  have s6 := h1.ch.size
  have s9 := hc.size
  have bm : ∀ k, LotB m' (M ++ [y]) k → LotB mv M k ∨ w6.heap.size ≤ k := fun k hk => by
    rcases lotB_more h4 hk with e | e | e
    · exact .inl e
    · exact .inr (by omega)
    · exact .inr (hyb k e)
  have lm1 : ∀ k, LotB v5 (V ++ [x]) k → ¬ LotB mv M k := fun k hk e => by
    rcases h1.bl k hk with q | q | q
    · exact h.lm k q e
    · have := h.m.blk_lt e
      omega
    · exact hX k q (.inr (.inr (.inl e)))
  have hok : ok < w6.heap.size := slt h1.me
  have me9 := hc.keep h1.me fun e => e
  have nk : ¬ mv.ownBlock = some ok := fun e => h.okm (.inl e)
  have me10 := hc10.keep me9 nk
  have l10 := (h1.l.kept hc fun _ _ e => e).kept hc10 fun g hg e => lm1 g hg (.inl e)
  have e10 := (h1.e.kept hc fun _ _ e => e).kept hc10 fun g hg e => h.me_ (.inl e) hg
  have hc10' : Chg w w10 (BkB ok lv mv ev V M E) := (h1.ch.trans hc (fun _ _ e => e) fun _ _ e => e.elim).trans hc10 (fun _ _ e => e) fun j _ e => .inr (.inr (.inl (.inl e)))
  have nl : ∀ g, LotB v5 (V ++ [x]) g → ¬ g = ok := fun g hg e => by
    obtain ⟨cu, t, q1, q2⟩ := h1.l.type hg
    rw [e, h1.me] at q1
    cases q1
    rcases q2 with e | e <;> cases e
  refine ⟨⟨?_, l10.kept hs fun g hg => nl g hg, hM.kept hs fun g hg e => ?_, e10.kept hs fun g hg e => h.oke (e ▸ hg), fun k hk e => ?_, by simp [h.len], by simp; omega, h.en, fun j u hu => ?_, fun j u hu => ?_, h.es⟩, fun k hk => ?_, hc10'.trans hs (fun _ _ e => e) fun j _ e => .inl e⟩
  · rw [heap_setCell_same w10 ok 1 _ _ _ me10]
    rfl
  · rcases bm g hg with q | q
    · exact h.okm (e ▸ q)
    · omega
  · rcases bm k e with q | q
    · exact lm1 k hk q
    · have := h1.l.blk_lt hk
      omega
  · rcases get_more hu with ⟨q, _⟩ | ⟨rfl, _⟩
    · exact h.vs j u q
    · exact hxn
  · rcases get_more hu with ⟨q, _⟩ | ⟨rfl, _⟩
    · exact h.ms j u q
    · exact hyn
  · rcases hk with e | e | e | e
    · exact .inl (.inl e)
    · rcases h1.bl k e with q | q | q
      · exact .inl (.inr (.inl q))
      · exact .inr (.inl q)
      · exact .inr (.inr q)
    · rcases bm k e with q | q
      · exact .inl (.inr (.inr (.inl q)))
      · exact .inr (.inl (by omega))
    · exact .inl (.inr (.inr (.inr e)))
theorem BkEq.more (hq : BkEq V M) (hlen : M.length = V.length) {l : List Int} (hx : x.xs = l.map (Value.int .i64)) (hy : y.xs = l.map (Value.int .i64)) (hxn : x.n = l.length) (hyn : y.n = l.length) : BkEq (V ++ [x]) (M ++ [y]) := by
  intro j u v hu hv
  rcases get_more hu with ⟨q1, q2⟩ | ⟨rfl, q2⟩
  · rcases get_more hv with ⟨q3, q4⟩ | ⟨rfl, q4⟩
    · exact hq j u v q1 q3
    · omega
  · rcases get_more hv with ⟨q3, q4⟩ | ⟨rfl, q4⟩
    · omega
    · exact ⟨l, hx, hy, hxn, hyn⟩
end
theorem row_mono0 {w : World} {B e k n : Nat} {v : Value} {xs : List Value} (h : w.ownsRow B e k v n xs) : w.ownsRow 0 e k v n xs := by
  refine ⟨h.1, ?_⟩
  rcases h.2 with h | ⟨g, cap, cur, hv, hb, r⟩
  · exact .inl h
  · exact .inr ⟨g, cap, cur, hv, Nat.zero_le _, r⟩
theorem build0I (w : World) : (Instr.buildSlice 27 0 #[]).run Tryz.prog w = .ok (.slice (some ⟨w.heap.size, 0, none⟩) 0 0) (w.alloc (.cells #[] 3)) := by kernel_rfl
theorem ints_new0 (w : World) : Ints (w.alloc (.cells #[] 3)) w.heap.size (.slice (some ⟨w.heap.size, 0, none⟩) 0 0) [] :=
  ⟨by simp, .inr ⟨w.heap.size, 0, _, rfl, Nat.le_refl _, heap_alloc_new _ _, Nat.le_refl _, by unfold maxLen; omega, rfl, rfl⟩⟩
set_option maxRecDepth 100000 in
set_option maxHeartbeats 8000000 in
theorem keeps_any {w : World} {ok : Nat} {lv mv ev : Value} {V M E : List Lst} (h : IsBk w ok lv mv ev V M E) (l : List Int) (xv : Value) (ad : Option Addr) (cc : Nat) (hx : Ints w 0 xv l) (hxf : ∀ k, xv.ownBlock = some k → ¬ BkB ok lv mv ev V M E k)
    (hy : LAt w ad l) (hyn : ad = none → cc = 0) (hyf : ∀ g, ad = some ⟨g, 0, none⟩ → ¬ BkB ok lv mv ev V M E g) (hl : l.length ≤ 17592186044000) :
    Calls Tryz.prog 84 #[.pointer (some ⟨ok, 0, none⟩), xv, .slice ad l.length cc] w fun e w' => e = .returned (.tuple #[]) ∧ ∃ lv' mv' V' M', IsBk w' ok lv' mv' ev V' M' E ∧ (∀ k, BkB ok lv' mv' ev V' M' E k → BkB ok lv mv ev V M E k ∨ w.heap.size ≤ k ∨ xv.ownBlock = some k) ∧ Chg w w' (BkB ok lv mv ev V M E) ∧ (BkEq V M → BkEq V' M') := by
  have HH := hid h
  have HX := hid hx
  have HXF := hid hxf
  have HY := hid hy
  have HYN := hid hyn
  have HYF := hid hyf
  obtain ⟨ax, cx, hxv, _, _⟩ := hx.lat
  obtain ⟨al, cl, hlv⟩ := row_shK h.l.row
  obtain ⟨am, cm, hmv⟩ := row_shK h.m.row
  obtain ⟨N, hN⟩ : ∃ N, N = V.length := ⟨_, rfl⟩
  have HNN := hid hN
  have k0 := h.c0
  have hNb := h.vn
  rw [hlv, ← hN] at k0
  rw [← hN] at hNb
  have HLV := hid hlv
  have HMV := hid hmv
  have HXV := hid hxv
  obtain ⟨m, hm⟩ : ∃ m, m = l.length := ⟨_, rfl⟩
  have HM := hid hm
  rw [hxv, ← hm]
  clear h hx hxf hy hyn hyf hxv hlv hmv hN hm
  by_cases hlt : N < 2000
  · have hltI : (N : Int) < 2000 := by omega
    have HRow : Hid (∀ o, (w.alloc o).ownsRow 0 3 1 (.slice ax m cx) m (l.map (Value.int .i64))) := hid (fun o => by
      have := row_keep HX.out (Chg.alloc w o No) (fun _ _ e => e)
      unfold Ints at this
      rw [HXV.out, ← HM.out] at this
      exact this)
    have HFar : Hid (∀ (j : Nat) u g, V[j]? = some u → (Value.slice ax m cx).ownBlock = some g → u.v.ownBlock ≠ some g) := hid (fun j u g hu hg e => HXF.out g (by rw [HXV.out, ← HM.out]; exact hg) (.inr (.inl (.inr ⟨j, u, hu, e⟩))))
    go_enter Tryz.func84, Tryz.ntmps84
    go_upto_region 2 with (first
      | (at_builtin; go_must (refine wp_more rfl _ _ 54 27 rfl Tryz.underlying54 infoLi 0 3 1 w.heap.size 1 lv V ⟨.slice ax m cx, m, l.map (Value.int .i64)⟩ (by decide) (by rw [HLV.out, ← HNN.out]; rfl) rfl ((HH.out.call (Chg.alloc w _ No)).l) ((cell_of_row _ _ _ _ _ _ (heap_alloc_new _ _)).trans rfl) (HRow.out _) HFar.out (by have := HNN.out; omega) (Nat.zero_le _) ?_; intro v5 w5 h51 h52 h53; have H1 := hid (bk_l HH.out (Chg.alloc w _ No) h51 h52 h53); obtain ⟨a5, c5, hv5⟩ := row_shK h51.row; obtain ⟨N1, hN1⟩ : ∃ q, q = (V ++ [(⟨.slice ax m cx, m, l.map (Value.int .i64)⟩ : Lst)]).length := ⟨_, rfl⟩; rw [← hN1] at hv5; have me5 := h52.keep ((HH.out.call (Chg.alloc w _ No)).me) (fun e => HH.out.okl (.inl e)); have k50 : w5.cell? ⟨ok, 0, none⟩ = some lv := (cell_of_row _ _ 0 _ _ _ me5).trans rfl; have f50 := frozen_of_row (j := 0) _ _ _ _ me5; subst hv5; clear h51 h52 h53 me5 hN1))
      | fail)
    clear k50 f50
    obtain ⟨v5, hv5⟩ : ∃ q, q = Value.slice a5 N1 c5 := ⟨_, rfl⟩
    rw [← hv5] at H1 ⊢
    clear hv5
    obtain ⟨w6, hw6⟩ : ∃ q, q = w5.setCell ⟨ok, 0, none⟩ v5 := ⟨_, rfl⟩
    rw [← hw6] at H1 ⊢
    clear hw6
    have HC6 := hid H1.out.ch
    obtain ⟨n0, hn0⟩ : ∃ q, q = M.length := ⟨_, rfl⟩
    have HN0 := hid hn0
    have HMV2 : Hid (mv = .slice am n0 cm) := hid (by rw [hn0]; exact HMV.out)
    clear hn0
    have HK : Hid (∀ W, Chg w6 W No → W.cell? ⟨ok, 1, none⟩ = some (.slice am n0 cm)) := hid (fun W hW => by
      have := hW.keep H1.out.me (fun e => e)
      rw [cell_of_row _ _ 1 _ _ _ this, ← HMV2.out]
      rfl)
    obtain ⟨wD, hwD⟩ : ∃ q, q = w6.drew := ⟨_, rfl⟩
    have HCD : Hid (Chg w6 wD No) := hid (by rw [hwD]; exact (Chg.refl w6 No).drew)
    have HSD : Hid (wD.heap.size = w6.heap.size) := hid (by rw [hwD]; rfl)
    have HY6 : Hid (LAt (wD.alloc (.cells #[] 3)) ad l) := hid ((HY.out.keep HC6.out HYF.out).call (HCD.out.tr (Chg.alloc _ _ _)))
    obtain ⟨v8, w8, hr8, h81, h82, h83⟩ := run_appL 27 (ints_new0 wD) HY6.out HYN.out (by have := HM.out; simp only [List.length_nil]; omega) (by simp)
    rw [← HM.out] at hr8
    have HC8 : Hid (Chg w6 w8 No) := hid ((HCD.out.tr (Chg.alloc _ _ No)).trans h82 (fun _ _ e => e) (fun j hj e => by have e : some wD.heap.size = some j := e; have := HSD.out; simp at e; omega))
    have HB8 : Hid (∀ k, v8.ownBlock = some k → w6.heap.size ≤ k) := hid (fun k hk => by have := (row_ge h81 hk).1; have := HSD.out; omega)
    obtain ⟨a8, c8, hv8, _, _⟩ := h81.lat
    obtain ⟨m8, hm8⟩ : ∃ q, q = ([] ++ l).length := ⟨_, rfl⟩
    rw [← hm8] at hv8
    have HM8 : Hid (m8 = l.length) := hid (by rw [hm8]; simp)
    have HI8 : Hid (w8.ownsRow 0 3 1 v8 m8 (l.map (Value.int .i64))) := hid (by
      have := h81
      rw [List.nil_append] at this
      unfold Ints at this
      rw [HM8.out]
      exact row_mono0 this)
    subst hv8
    clear h81 h82 h83 hm8
    refine wp_region_noPanic ?_
    refine wp_region_held_drew (S := fun _ => True) (by kernel_rfl) trivial (fun hHeld => ?_)
    rw [← hwD]
    clear hwD
    refine takeVal 0 22 (.pointer (some ⟨ok, 0, none⟩)) rfl (by kernel_rfl) (by kernel_rfl) (by kernel_rfl) rfl (by rfl) (fun _ _ _ h => h) hHeld (fun _ hw' => rfl) ?_
    simp only [List.setIfInBounds_toArray, List.set_cons_zero, List.set_cons_succ]
    refine takeVal 1 23 (.pointer (some ⟨ok, 0, none⟩)) rfl (by kernel_rfl) (by kernel_rfl) (by kernel_rfl) rfl (by rfl) (fun _ _ _ h => h) hHeld (fun _ hw' => rfl) ?_
    simp only [List.setIfInBounds_toArray, List.set_cons_zero, List.set_cons_succ]
    refine takeVal 2 24 (.pointer (some ⟨ok, 0, none⟩)) rfl (by kernel_rfl) (by kernel_rfl) (by kernel_rfl) rfl (by rfl) (fun _ _ _ h => h) hHeld (fun _ hw' => by go_simp) ?_
    simp only [List.setIfInBounds_toArray, List.set_cons_zero, List.set_cons_succ]
    refine takeVal 3 25 (.pointer (some ⟨ok, 1, none⟩)) rfl (by kernel_rfl) (by kernel_rfl) (by kernel_rfl) rfl (by rfl) (fun _ _ _ h => h) hHeld (fun _ hw' => by go_simp) ?_
    simp only [List.setIfInBounds_toArray, List.set_cons_zero, List.set_cons_succ]
    refine takeVal 6 28 (.slice ad m cc) rfl (by kernel_rfl) (by kernel_rfl) (by kernel_rfl) rfl (by rfl) (fun _ _ _ h => h) hHeld (fun _ hw' => rfl) ?_
    simp only [List.setIfInBounds_toArray, List.set_cons_zero, List.set_cons_succ]
    have hcut : ∀ {T G : Prop}, (T → G) → T → G := fun f t => f t
    apply hcut
    · intro hE
      refine step2 4 5 (by kernel_rfl) ?_ ?_
      ·
        refine stVal 4 26 (.slice am n0 cm) rfl rfl (by rfl) (by have hc := HK.out wD (HCD.out); go_simp) trivial ?_
        simp only [List.setIfInBounds_toArray, List.set_cons_zero, List.set_cons_succ]
        refine step1 5 (by kernel_rfl) ?_
        refine stNew 5 27 (.slice (some ⟨wD.heap.size, 0, none⟩) 0 0) (.cells #[] 3) rfl rfl (by rfl) (by first | go_simp | (simp [execOp, build0I, Result.andThen])) ⟨trivial, ?_⟩
        simp only [List.setIfInBounds_toArray, List.set_cons_zero, List.set_cons_succ]
        refine step1 7 (by kernel_rfl) ?_
        refine stAppR 7 29 (.slice a8 m8 c8) w8 rfl rfl (by rfl) _ _ 27 rfl _ _ rfl rfl hr8 ⟨trivial, ?_⟩
        simp only [List.setIfInBounds_toArray, List.set_cons_zero, List.set_cons_succ]
        refine step1 8 (by kernel_rfl) ?_
        refine stNew 8 30 (.slice (some ⟨w8.heap.size, 0, none⟩) 1 1) (.cells #[.slice a8 m8 c8] 27) rfl rfl (by rfl) (by go_simp) ⟨trivial, ?_⟩
        simp only [List.setIfInBounds_toArray, List.set_cons_zero, List.set_cons_succ]
        exact hE
      ·
        refine stNew 5 27 (.slice (some ⟨wD.heap.size, 0, none⟩) 0 0) (.cells #[] 3) rfl rfl (by rfl) (by first | go_simp | (simp [execOp, build0I, Result.andThen])) ⟨trivial, ?_⟩
        simp only [List.setIfInBounds_toArray, List.set_cons_zero, List.set_cons_succ]
        refine step2 4 7 (by kernel_rfl) ?_ ?_
        ·
          refine stVal 4 26 (.slice am n0 cm) rfl rfl (by rfl) (by have hc := HK.out (wD.alloc (.cells #[] 3)) (HCD.out.tr (Chg.alloc _ _ _)); go_simp) trivial ?_
          simp only [List.setIfInBounds_toArray, List.set_cons_zero, List.set_cons_succ]
          refine step1 7 (by kernel_rfl) ?_
          refine stAppR 7 29 (.slice a8 m8 c8) w8 rfl rfl (by rfl) _ _ 27 rfl _ _ rfl rfl hr8 ⟨trivial, ?_⟩
          simp only [List.setIfInBounds_toArray, List.set_cons_zero, List.set_cons_succ]
          refine step1 8 (by kernel_rfl) ?_
          refine stNew 8 30 (.slice (some ⟨w8.heap.size, 0, none⟩) 1 1) (.cells #[.slice a8 m8 c8] 27) rfl rfl (by rfl) (by go_simp) ⟨trivial, ?_⟩
          simp only [List.setIfInBounds_toArray, List.set_cons_zero, List.set_cons_succ]
          exact hE
        ·
          refine stAppR 7 29 (.slice a8 m8 c8) w8 rfl rfl (by rfl) _ _ 27 rfl _ _ rfl rfl hr8 ⟨trivial, ?_⟩
          simp only [List.setIfInBounds_toArray, List.set_cons_zero, List.set_cons_succ]
          refine step2 4 8 (by kernel_rfl) ?_ ?_
          ·
            refine stVal 4 26 (.slice am n0 cm) rfl rfl (by rfl) (by have hc := HK.out w8 (HC8.out); go_simp) trivial ?_
            simp only [List.setIfInBounds_toArray, List.set_cons_zero, List.set_cons_succ]
            refine step1 8 (by kernel_rfl) ?_
            refine stNew 8 30 (.slice (some ⟨w8.heap.size, 0, none⟩) 1 1) (.cells #[.slice a8 m8 c8] 27) rfl rfl (by rfl) (by go_simp) ⟨trivial, ?_⟩
            simp only [List.setIfInBounds_toArray, List.set_cons_zero, List.set_cons_succ]
            exact hE
          ·
            refine stNew 8 30 (.slice (some ⟨w8.heap.size, 0, none⟩) 1 1) (.cells #[.slice a8 m8 c8] 27) rfl rfl (by rfl) (by go_simp) ⟨trivial, ?_⟩
            simp only [List.setIfInBounds_toArray, List.set_cons_zero, List.set_cons_succ]
            refine step1 4 (by kernel_rfl) ?_
            refine stVal 4 26 (.slice am n0 cm) rfl rfl (by rfl) (by have hc := HK.out (w8.alloc (.cells #[.slice a8 m8 c8] 27)) (HC8.out.tr (Chg.alloc _ _ _)); go_simp) trivial ?_
            simp only [List.setIfInBounds_toArray, List.set_cons_zero, List.set_cons_succ]
            exact hE
    have HC9 : Hid (Chg w6 (w8.alloc (.cells #[.slice a8 m8 c8] 27)) No) := hid (HC8.out.tr (Chg.alloc _ _ _))
    refine step1 9 (by kernel_rfl) ?_
    refine stMore 9 31 rfl rfl (by rfl) _ _ 54 27 rfl Tryz.underlying54 infoLi 0 3 1 w8.heap.size 1 mv M ⟨.slice a8 m8 c8, m8, l.map (Value.int .i64)⟩ (by decide) (by rw [HMV2.out]; rfl) rfl (H1.out.m.kept HC9.out (fun _ _ e => e)) ((cell_of_row _ _ _ _ _ _ (heap_alloc_new _ _)).trans rfl) (row_keep HI8.out (Chg.alloc _ _ No) (fun _ _ e => e)) (fun j u g hu hg e => by
      have h9 := HB8.out g hg
      have := H1.out.m.blk_lt (.inr ⟨j, u, hu, e⟩)
      omega) (by have h9 := HH.out.len; have := HNN.out; omega) (Nat.zero_le _) ?_
    intro v10 w10 h101 h102 h103
    refine ⟨trivial, ?_⟩
    simp only [List.setIfInBounds_toArray, List.set_cons_zero, List.set_cons_succ]
    have me10 := h102.keep (HC9.out.keep H1.out.me (fun e => e)) (fun e => HH.out.okm (.inl e))
    have q10 : w10.cell? ⟨ok, 1, none⟩ = some mv := (cell_of_row _ _ 1 _ _ _ me10).trans rfl
    have f10 := frozen_of_row (j := 1) _ _ _ _ me10
    obtain ⟨b10, c10, hv10⟩ := row_shK h101.row
    refine takeVal 10 32 (.pointer (some ⟨ok, 0, none⟩)) rfl (by kernel_rfl) (by kernel_rfl) (by kernel_rfl) rfl (by rfl) (fun _ _ _ h => h) hHeld (fun _ hw' => by go_simp) ?_
    simp only [List.setIfInBounds_toArray, List.set_cons_zero, List.set_cons_succ]
    refine takeVal 11 33 (.pointer (some ⟨ok, 1, none⟩)) rfl (by kernel_rfl) (by kernel_rfl) (by kernel_rfl) rfl (by rfl) (fun _ _ _ h => h) hHeld (fun _ hw' => by go_simp) ?_
    simp only [List.setIfInBounds_toArray, List.set_cons_zero, List.set_cons_succ]
    refine step1 12 (by kernel_rfl) ?_
    refine stCell 12 (w10.setCell ⟨ok, 1, none⟩ v10) rfl rfl (by rfl) (by rw [hv10]; clear hv10; go_simp) ⟨trivial, ?_⟩
    refine wpAnyH_done (by kernel_rfl) ?_ _
    refine NoPanic.normal ?_
    have HF := hid (bk_m (y := ⟨.slice a8 m8 c8, m8, l.map (Value.int .i64)⟩) HH.out H1.out (fun k hk => HXF.out k (by rw [HXV.out, ← HM.out]; exact hk)) HC9.out HB8.out h101 h102 h103 (by have := HNN.out; omega) (by show m ≤ _; have := HM.out; omega) (by show m8 ≤ _; have := HM8.out; omega))
    clear hv10 me10 q10 f10 h101 h102 h103 hr8
    go_wp2_with fail
    go_end0
    obtain ⟨q1, q2, q3⟩ := HF.out
    refine ⟨rfl, v5, v10, _, _, q1, fun k hk => ?_, q3, fun e => e.more HH.out.len (l := l) rfl rfl (by show m = _; exact HM.out) (by show m8 = _; exact HM8.out)⟩
    rcases q2 k hk with e | e | e
    · exact .inl e
    · exact .inr (.inl e)
    · exact .inr (.inr e)
  · have hltI : ¬ (N : Int) < 2000 := by omega
    go_enter Tryz.func84, Tryz.ntmps84
    go_wp2_with fail
    go_end0
    exact ⟨rfl, lv, mv, V, M, HH.out, fun k e => .inl e, Chg.refl _ _, fun e => e⟩
end Go.Proofs.YtamoepninddbcaaGreat
