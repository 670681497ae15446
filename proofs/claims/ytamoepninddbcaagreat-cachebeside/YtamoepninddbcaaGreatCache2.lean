/-
  write: a dirty sector goes to the disk; append of a list to a list.
-/
import Derived.Test.YtamoepninddbcaaGreatCache1
namespace Go.Proofs.YtamoepninddbcaaGreat
open Go.RowKit

theorem szP : (Tryz.prog.info? 95).map (·.size) = some 129 := by kernel_rfl
theorem pend_size (s : List Int) (t : Value) : (pend s t).size = s.length + 1 := by simp [pend]
theorem pend_one {s : List Int} {t : Value} (ht : t.oneCell' = true) : (pend s t).all (·.oneCell') = true := by
  rw [Array.all_eq_true_iff_forall_mem]
  intro v hv
  simp only [pend, List.mem_toArray, List.mem_append, List.mem_map, List.mem_singleton] at hv
  rcases hv with ⟨x, _, rfl⟩ | rfl
  · rfl
  · exact ht
theorem pend_range {w : World} {b : Nat} {s : List Int} {t : Value} {ty : TypeId} (h : w.heap[b]? = some (.cells (pend s t) ty (0, 0))) : w.rangeAt b 0 (s.map (Value.int .u8)) := by
  intro j x hj
  rw [cell_of_row _ _ _ _ _ _ h, Nat.zero_add]
  have hl : j < (s.map (Value.int .u8)).length := by
    rcases Nat.lt_or_ge j (s.map (Value.int .u8)).length with k | k
    · exact k
    · rw [List.getElem?_eq_none k] at hj; cases hj
  simp only [pend, List.getElem?_toArray]
  rw [List.getElem?_append_left hl]
  exact hj
theorem pend_tag {w : World} {b : Nat} {s : List Int} {t : Value} {ty : TypeId} (hs : s.length = 128) (h : w.heap[b]? = some (.cells (pend s t) ty (0, 0))) : w.cell? ⟨b, 128, none⟩ = some t := by
  rw [cell_of_row _ _ _ _ _ _ h]
  simp only [pend, List.getElem?_toArray]
  rw [List.getElem?_append_right (by simp [hs])]
  simp [hs]
theorem ints_one {w : World} {base : Nat} {v : Value} {l : List Int} (h : Ints w base v l) : v.oneCell' = true := by
  rcases h.2 with ⟨rfl, _⟩ | ⟨g, cap, cur, rfl, _⟩ <;> rfl
theorem ints_cells (l : List Int) : ∀ u ∈ l.map (Value.int .i64), u.oneCell' = true := by
  intro v hv
  rw [List.mem_map] at hv
  obtain ⟨x, _, rfl⟩ := hv
  rfl
/-- append of nothing. -/
theorem run_app_none (w : World) (ty : TypeId) (a : Option Addr) (n c : Nat) (hn : n ≤ c) : (Builtin.append_ #[27, 27] ty #[.slice a n c, .slice none 0 0]).run Tryz.prog w = .ok (.slice a n c) w := by
  obtain ⟨i, hi, hz, hsz, hby⟩ := infoI
  cases a with
  | none => simp [Builtin.append_, run_underlying Tryz.underlying27, Builtin.lenOf, Builtin.firstCells, sizeOf, typeInfo, hi, hn]
  | some a => simp [Builtin.append_, run_underlying Tryz.underlying27, Builtin.lenOf, Builtin.firstCells, sizeOf, typeInfo, hi, hn, storeCells]
/-- append of a list. -/
theorem run_appL {w : World} {base : Nat} {v : Value} {l m : List Int} {a : Option Addr} {ca : Nat} (ty : TypeId) (h : Ints w base v l) (hm : LAt w a m) (hn : a = none → ca = 0) (hl : l.length + m.length ≤ 17592186044416) (hb : base ≤ w.heap.size) :
    ∃ v' w', (Builtin.append_ #[27, 27] ty #[v, .slice a m.length ca]).run Tryz.prog w = .ok v' w' ∧ Ints w' base v' (l ++ m) ∧ Chg w w' (fun k => v.ownBlock = some k) ∧ (v'.ownBlock = v.ownBlock ∨ v'.ownBlock = some w.heap.size) := by
  cases a with
  | none =>
    have hm0 : m = [] := by
      rcases hm with e | ⟨g, e, _⟩
      · exact e
      · cases e
    subst hm0
    have hca := hn rfl
    subst hca
    have hv : ∃ a n c, v = .slice a n c ∧ n ≤ c := by
      rcases h.2 with ⟨rfl, _⟩ | ⟨g, cap, cur, rfl, _, _, h1, _⟩
      · exact ⟨none, 0, 0, rfl, Nat.le_refl _⟩
      · exact ⟨_, _, _, rfl, h1⟩
    obtain ⟨a, n, c, rfl, hnc⟩ := hv
    exact ⟨_, w, run_app_none w ty a n c hnc, by rw [List.append_nil]; exact h, Chg.refl _ _, .inl rfl⟩
  | some ad =>
    obtain ⟨i, hi, hz, hsz, hby⟩ := infoI
    have hc : ∀ j u, (m.map (Value.int .i64))[j]? = some u → w.cell? (ad.add j) = some u := by
      intro j u hj
      rcases hm with e | ⟨g, e, _, hg⟩
      · subst e; simp at hj
      · cases e
        rw [D.addr_add, Nat.zero_add]
        have hlt : j < m.length := by
          rcases Nat.lt_or_ge j m.length with k | k
          · exact k
          · rw [List.getElem?_eq_none (by simpa using k)] at hj; cases hj
        rw [hg j hlt]
        rw [List.getElem?_map, List.getElem?_eq_getElem hlt] at hj
        rw [List.getD_eq_getElem?_getD, List.getElem?_eq_getElem hlt]
        simpa using hj
    obtain ⟨v', w', hr, h2, h3, _, h5⟩ := run_append_own_at (P := Tryz.prog) w base 27 ty 3 i _ 1 8 Tryz.underlying27 hi hz hsz hby rfl (by decide) v l.length (l.map (Value.int .i64)) h ad m.length ca (m.map (Value.int .i64)) (by simp) hc (ints_cells m) (by unfold maxLen; omega) (by omega) hb
    refine ⟨v', w', hr, ?_, (Chg.grown h3).mono fun j _ e => e.symm, h5⟩
    unfold Ints
    rw [List.map_append, List.length_append]
    exact h2
section
variable {ops : Array Oper} {Q : Exit → Act → World → Prop} {S : World → Prop} {fuel : Nat} {listed : Array Bool} {a : Act} {w : World} {rest : List Oper} {o : Oper}
theorem stCell (i : Nat) (w' : World) {o : Oper} (hop : ops[i]? = some o) (hd : o.dst = none) (hw : Region.wanted o (yielded ops a.tmps) = true)
    (hrun : (execOp a.eval o).run Tryz.prog w = .ok .skip w')
    (h : S w' ∧ wpAnyH Tryz.prog .any ops Q S fuel (listed.setIfInBounds i true) a w') : St ops Q S fuel listed a w i := by
  refine wpOp_step hop (fun K hK => ?_)
  rw [if_pos hw]
  unfold Oper.wp
  rw [hrun]
  refine hK _ _ ⟨h.1, ?_⟩
  unfold Act.put
  rw [hd]
  exact h.2
theorem stAppL (i d : Nat) {o : Oper} (hop : ops[i]? = some o) (hd : o.dst = some d) (hw : Region.wanted o (yielded ops a.tmps) = true) (s x : Operand)
    (ho : o.op = .call { callee := .builtin .append, args := #[s, x], argTypes := #[27, 27] }) (base : Nat) (v : Value) (l m : List Int) (ad : Option Addr) (ca : Nat) (hs : a.eval s = v) (hx : a.eval x = .slice ad m.length ca)
    (hown : Ints w base v l) (hat : LAt w ad m) (hn : ad = none → ca = 0) (hl : l.length + m.length ≤ 17592186044416) (hbase : base ≤ w.heap.size)
    (h : ∀ v' w', Ints w' base v' (l ++ m) → Chg w w' (fun k => v.ownBlock = some k) → (v'.ownBlock = v.ownBlock ∨ v'.ownBlock = some w.heap.size) →
      S w' ∧ wpAnyH Tryz.prog .any ops Q S fuel (listed.setIfInBounds i true) { a with tmps := a.tmps.setIfInBounds d v' } w') : St ops Q S fuel listed a w i := by
  obtain ⟨v', w', hr, h2, h3, h4⟩ := run_appL o.type hown hat hn hl hbase
  have hh := h v' w' h2 h3 h4
  refine wpOp_step hop (fun K hK => ?_)
  rw [if_pos hw]
  unfold Oper.wp execOp
  simp only [ho, resolve, invoke, builtin, Sem.run_bind, Sem.run_pure, Result.andThen_ok, List.map_toArray, List.map_cons, List.map_nil, hs, hx, hr]
  refine hK _ _ ⟨hh.1, ?_⟩
  unfold Act.put
  rw [hd]
  exact hh.2
theorem wp_appL (hg : o.guard = none) (s x : Operand) (hop : o.op = .call { callee := .builtin .append, args := #[s, x], argTypes := #[27, 27] }) (base : Nat) (v : Value) (l m : List Int) (ad : Option Addr) (ca : Nat) (hs : a.eval s = v) (hx : a.eval x = .slice ad m.length ca)
    (hown : Ints w base v l) (hat : LAt w ad m) (hn : ad = none → ca = 0) (hl : l.length + m.length ≤ 17592186044416) (hbase : base ≤ w.heap.size)
    (hK : ∀ v' w', Ints w' base v' (l ++ m) → Chg w w' (fun k => v.ownBlock = some k) → (v'.ownBlock = v.ownBlock ∨ v'.ownBlock = some w.heap.size) → wpList Tryz.prog ops Q rest (a.put o.dst v') w') : wpList Tryz.prog ops Q (o :: rest) a w := by
  obtain ⟨v', w', hr, h2, h3, h4⟩ := run_appL o.type hown hat hn hl hbase
  refine wpList_plain hg fun K' hK' => ?_
  unfold Oper.wp execOp
  simp only [hop, resolve, invoke, builtin, Sem.run_bind, Sem.run_pure, Result.andThen_ok, List.map_toArray, List.map_cons, List.map_nil, hs, hx, hr]
  exact hK' _ _ (hK v' w' h2 h3 h4)
end

theorem door_nil {fn : Func} {R : Ending → World → Prop} {tmps : Array Value} {w : World} (v : Value) (h : (results fn tmps).run Tryz.prog w = .ok v w) (hR : R (.returned v) w) : bodyPostD Tryz.prog fn R .ret { tmps := tmps, defers := [] } w := ⟨v, h, hR⟩
theorem lat_one (w : World) (x : Int) : LAt (w.alloc (.cells #[.int .i64 x] 3)) (some ⟨w.heap.size, 0, none⟩) [x] :=
  .inr ⟨_, rfl, by simp, fun k hk => by
    have : k = 0 := by simpa using hk
    subst this
    rw [cell_of_row _ _ _ _ _ _ (heap_alloc_new _ _)]
    rfl⟩

variable {w : World} {c p g n : Nat} {ρ : Nat → Option Role} {z : CSt}
theorem refC_one {x : Int} (h0 : 0 ≤ x) (h1 : x < n) : refC n z [x] = if z.lost = true then 22 else 0 := by
  unfold refC
  rw [if_pos]
  simp [okN, h0, h1]

set_option maxRecDepth 100000 in
set_option maxHeartbeats 1000000 in
theorem write_lost (x : Int) (h : IsC w c p g n ρ z) (hx : 0 ≤ x ∧ x < n) (hlo : z.lost = true) : Calls Tryz.prog 63 #[.pointer (some ⟨c, 0, none⟩), .int .i64 x] w fun e w' => e = .returned (.int .i64 22) ∧ Chg w w' No := by
  have hc1 : Chg w ((w.alloc (.cells #[.int .i64 0] 41)).alloc (.cells #[.int .i64 x] 3)) No := (Chg.alloc _ _ _).tr (Chg.alloc _ _ _)
  have HR := refusalC_any [x] (some ⟨(w.alloc (.cells #[.int .i64 0] 41)).heap.size, 0, none⟩) 1 (h.call hc1) (lat_one _ x) (by simp)
  rw [refC_one hx.1 hx.2, hlo] at HR
  simp only [World.size_alloc, List.length_singleton, if_true] at HR
  clear h hc1
  go_enter_defers Tryz.func63, Tryz.ntmps63
  go_wp2_with (first
    | (go_at_call 58; go_must (refine HR.mono ?_; rintro e w1 ⟨rfl, rfl⟩))
    | go_in)
  refine door_nil (.int .i64 22) ?_ ⟨rfl, ?_⟩
  · simp [results, Tryz.results63, go_sem]
  exact (Chg.alloc _ _ _).tr (Chg.alloc _ _ _)

theorem Ints.nilcap {w : World} {base : Nat} {l : List Int} {a : Option Addr} {m c : Nat} (h : Ints w base (.slice a m c) l) : (a = none → c = 0) ∧ ∀ ad, a = some ad → ad = ⟨ad.block, 0, none⟩ ∧ (Value.slice a m c).ownBlock = some ad.block := by
  rcases h.2 with ⟨e, _⟩ | ⟨g, cap, cur, e, _⟩
  · cases e
    exact ⟨fun _ => rfl, fun ad e => (by cases e)⟩
  · cases e
    exact ⟨fun e => (by cases e), fun ad e => (by cases e; exact ⟨rfl, rfl⟩)⟩
theorem pend0_size : pend0.size = 129 := by simp [pend0, pend_size, D.Zs_len]
theorem IsC0.drew {gp mb : Nat} {go : Nat → Prop} {tv : Int → Value} {lv : Value} (h : IsC0 w c p g n gp mb go tv lv ρ z) : IsC0 w.drew c p g n gp mb go tv lv ρ z := h.call (Chg.refl w No).drew
theorem wrC_down {q : List Int × List Int} {x : Int} (hlo : z.lost = false) (hq : z.P x = some q) (he : D.writeE z.d n x = 22) : wrC n z x = (⟨D.writeD z.d n x q.1, z.E, z.P, z.ld, true⟩, 22) := by
  unfold wrC
  rw [if_neg (by simp [hlo]), hq]
  simp [he]
theorem wrC_done {q : List Int × List Int} {x : Int} (hlo : z.lost = false) (hq : z.P x = some q) (he : D.writeE z.d n x = 0) : wrC n z x = (forC ⟨D.writeD z.d n x q.1, z.E, z.P, z.ld ++ q.2, z.lost⟩ x, 0) := by
  unfold wrC
  rw [if_neg (by simp [hlo]), hq]
  simp [he, forC]
/-- The cells of the cache, one of them turned. -/
theorem CC_lost (p gp mb : Nat) (lv : Value) (lo : Bool) (v : Value) : (CC p gp mb lv lo).setIfInBounds 4 v = #[.pointer (some ⟨p, 0, none⟩), .pointer (some ⟨gp, 0, none⟩), .map (some mb), lv, v] := by simp [CC]
theorem CC_ld (p gp mb : Nat) (lv : Value) (lo : Bool) (v : Value) : (CC p gp mb lv lo).setIfInBounds 3 v = CC p gp mb v lo := by simp [CC]
theorem inv_d {d' : D.St8} {l : List Int} {lo : Bool} (h : CInv n z) (h0 : 0 ≤ d'.wr) (hl : 0 ≤ d'.lf ∧ d'.lf ≤ 9223372036854775807) : CInv n ⟨d', z.E, z.P, l, lo⟩ := ⟨h.ed, h.ok, h.ln, h.ring, h.top, h0, hl⟩
/-- The disk has another state, and is lost. -/
theorem isC_down {w w' : World} {gp mb : Nat} {go : Nat → Prop} {tv : Int → Value} {lv : Value} {d' : D.St8} (h : IsC0 w c p g n gp mb go tv lv ρ z) (hd : D.IsD w' p g n d') (hc : Chg w w' (fun k => k = p ∨ k = g)) (h0 : 0 ≤ d'.wr) (hl : 0 ≤ d'.lf ∧ d'.lf ≤ 9223372036854775807) :
    IsC0 (w'.setCell ⟨c, 4, none⟩ (.bool true)) c p g n gp mb go tv lv ρ ⟨d', z.E, z.P, z.ld, true⟩ := by
  have hcp : c ≠ p := own_not h.rc h.rp (by simp)
  have hcg : c ≠ g := own_not h.rc h.rg (by simp)
  have hc2 : Chg w (w'.setCell ⟨c, 4, none⟩ (.bool true)) (fun k => (k = p ∨ k = g) ∨ k = c) := hc.trans Chg.setCell (fun _ _ e => .inl e) (fun _ _ e => .inr e)
  obtain ⟨q1, q2, q3, q4, q5, q6, q7⟩ := h.parts hc2 (fun r => r = .p ∨ r = .g ∨ r = .c) (fun k e r hr => by
    rcases e with (rfl | rfl) | rfl
    · rw [h.rp] at hr; cases hr; exact .inl rfl
    · rw [h.rg] at hr; cases hr; exact .inr (.inl rfl)
    · rw [h.rc] at hr; cases hr; exact .inr (.inr rfl))
  have hme : w'.heap[c]? = _ := hc.keep h.me (by simp [hcp, hcg])
  refine ⟨?_, isD_keep hd (Chg.setCell (w := w') (g := c)) (fun e => hcp e.symm) (fun e => hcg e.symm), q3 (by simp), q4 (by simp), fun x q hx => q5 x q (by simp) hx, q6 (by simp), h.rc, h.rp, h.rg, h.rr, h.rm, h.rt, h.rl, q7, inv_d h.inv h0 hl⟩
  rw [heap_setCell_same w' c 4 _ _ _ hme, CC_lost]
  rfl
/-- The disk has another state, and more tags have landed. -/
theorem isC_done {w w' w5 : World} {gp mb : Nat} {go : Nat → Prop} {tv : Int → Value} {lv v5 : Value} {d' : D.St8} {l : List Int} (h : IsC0 w c p g n gp mb go tv lv ρ z) (hd : D.IsD w' p g n d') (hc : Chg w w' (fun k => k = p ∨ k = g)) (h0 : 0 ≤ d'.wr) (hl : 0 ≤ d'.lf ∧ d'.lf ≤ 9223372036854775807)
    (h5 : Ints w5 0 v5 l) (hc5 : Chg w' w5 (fun k => lv.ownBlock = some k)) (ho5 : v5.ownBlock = lv.ownBlock ∨ v5.ownBlock = some w'.heap.size) :
    ∃ ρ', IsC (w5.setCell ⟨c, 3, none⟩ v5) c p g n ρ' ⟨d', z.E, z.P, l, z.lost⟩ ∧ (∀ k, Own ρ' k → Own ρ k ∨ w'.heap.size ≤ k) ∧ Chg w (w5.setCell ⟨c, 3, none⟩ v5) (Own ρ) := by
  have hcp : c ≠ p := own_not h.rc h.rp (by simp)
  have hcg : c ≠ g := own_not h.rc h.rg (by simp)
  have hlv : ∀ k, lv.ownBlock = some k → ρ k = some .ld := h.rl
  have hcl : ¬ lv.ownBlock = some c := fun e => by
    have := hlv c e
    rw [h.rc] at this
    cases this
  have hc15 : Chg w w5 (fun k => (k = p ∨ k = g) ∨ lv.ownBlock = some k) := hc.trans hc5 (fun _ _ e => .inl e) (fun _ _ e => .inr e)
  have hc2 : Chg w (w5.setCell ⟨c, 3, none⟩ v5) (fun k => ((k = p ∨ k = g) ∨ lv.ownBlock = some k) ∨ k = c) := hc15.trans Chg.setCell (fun _ _ e => .inl e) (fun _ _ e => .inr e)
  obtain ⟨q1, q2, q3, q4, q5, q6, q7⟩ := h.parts hc2 (fun r => r = .p ∨ r = .g ∨ r = .c ∨ r = .ld) (fun k e r hr => by
    rcases e with ((rfl | rfl) | e) | rfl
    · rw [h.rp] at hr; cases hr; exact .inl rfl
    · rw [h.rg] at hr; cases hr; exact .inr (.inl rfl)
    · rw [hlv k e] at hr; cases hr; exact .inr (.inr (.inr rfl))
    · rw [h.rc] at hr; cases hr; exact .inr (.inr (.inl rfl)))
  have hme : w5.heap[c]? = _ := hc15.keep h.me (by simp [hcp, hcg, hcl])
  have hpl : ¬ lv.ownBlock = some p := fun e => by
    have := hlv p e
    rw [h.rp] at this
    cases this
  have hgl : ¬ lv.ownBlock = some g := fun e => by
    have := hlv g e
    rw [h.rg] at this
    cases this
  have hd5 := isD_keep hd hc5 hpl hgl
  have hsz := hc.size
  have hs5 := hc5.size
  have old : ∀ k r, ρ k = some r → k ≠ w'.heap.size := fun k r hr e => by
    have := h.lt k r hr
    omega
  have hnew : ∀ k, v5.ownBlock = some k → lv.ownBlock = some k ∨ k = w'.heap.size := fun k hk => by
    rcases ho5 with e | e
    · exact .inl (by rw [← e]; exact hk)
    · rw [e] at hk
      cases hk
      exact .inr rfl
  have h5c : ¬ v5.ownBlock = some c := fun e => by
    rcases hnew c e with e | e
    · exact hcl e
    · exact old c _ h.rc e
  refine ⟨fun k => if k = w'.heap.size ∧ v5.ownBlock = some k then some .ld else ρ k, ⟨gp, mb, go, tv, v5, ⟨?_, isD_keep hd5 (Chg.setCell (w := w5) (g := c)) (fun e => hcp e.symm) (fun e => hcg e.symm), q3 (by simp), q4 (by simp), fun x q hx => q5 x q (by simp) hx, row_keep h5 (Chg.setCell (w := w5) (g := c)) (fun j hj e => h5c (by rw [← e]; exact hj)), ?_, ?_, ?_, ?_, ?_, ?_, ?_, ?_, inv_d h.inv h0 hl⟩⟩, ?_, hc2.mono fun k _ e => ?_⟩
  · rw [heap_setCell_same w5 c 3 _ _ _ hme, CC_ld]
  · rw [if_neg (fun e => old _ _ h.rc e.1)]; exact h.rc
  · rw [if_neg (fun e => old _ _ h.rp e.1)]; exact h.rp
  · rw [if_neg (fun e => old _ _ h.rg e.1)]; exact h.rg
  · intro k hk
    rw [if_neg (fun e => old _ _ (h.rr k hk) e.1)]; exact h.rr k hk
  · rw [if_neg (fun e => old _ _ h.rm e.1)]; exact h.rm
  · intro x k hx hk
    rw [if_neg (fun e => old _ _ (h.rt x k hx hk) e.1)]; exact h.rt x k hx hk
  · intro k hk
    rcases hnew k hk with e | e
    · rw [if_neg (fun e2 => old _ _ (h.rl k e) e2.1)]; exact h.rl k e
    · rw [if_pos ⟨e, hk⟩]
  · intro k r hr
    have hz : (w5.setCell ⟨c, 3, none⟩ v5).heap.size = w5.heap.size := by simp [World.setCell]
    rw [hz]
    by_cases e : k = w'.heap.size ∧ v5.ownBlock = some k
    · exact (row_ge h5 e.2).2
    · simp only [if_neg e] at hr
      have := h.lt k r hr
      omega
  · rintro k ⟨r, hr⟩
    by_cases e : k = w'.heap.size ∧ v5.ownBlock = some k
    · exact .inr (by omega)
    · simp only [if_neg e] at hr
      exact .inl ⟨r, hr⟩
  · rcases e with ((rfl | rfl) | e) | rfl
    · exact ⟨_, h.rp⟩
    · exact ⟨_, h.rg⟩
    · exact ⟨_, hlv k e⟩
    · exact ⟨_, h.rc⟩

set_option maxRecDepth 100000 in
set_option maxHeartbeats 2000000 in
theorem write_down (x : Int) (q : List Int × List Int) (h : IsC w c p g n ρ z) (hq : z.P x = some q) (hlo : z.lost = false) (hw : z.d.wr < 4611686018427387904) (he : D.writeE z.d n x = 22) :
    Calls Tryz.prog 63 #[.pointer (some ⟨c, 0, none⟩), .int .i64 x] w fun e w' => e = .returned (.int .i64 (wrC n z x).2) ∧ CPost w w' c p g n ρ (wrC n z x).1 := by
  have hdx : z.dirty x := by unfold CSt.dirty; rw [hq]; rfl
  have hx := h.inv.ok x hdx
  have hsec := h.inv.sec hdx
  have hc1 : Chg w ((w.alloc (.cells #[.int .i64 0] 41)).alloc (.cells #[.int .i64 x] 3)) No := (Chg.alloc _ _ _).tr (Chg.alloc _ _ _)
  have HR := refusalC_any [x] (some ⟨(w.alloc (.cells #[.int .i64 0] 41)).heap.size, 0, none⟩) 1 (h.call hc1) (lat_one _ x) (by simp)
  rw [refC_one hx.1 hx.2, hlo] at HR
  simp only [World.size_alloc, List.length_singleton, Bool.false_eq_true, if_false] at HR
  obtain ⟨gp, mb, go, tv, lv, h⟩ := h
  have hI := h.i64 hdx
  have hs := h.inv.ln x q hq
  have h1 := h.call hc1
  have k12 := h1.c2
  have HM := h1.mp
  have hzp := zeroP
  have hton := ints_one (h.tg x q hq)
  have HQ : Hid ((((w.alloc (.cells #[.int .i64 0] 41)).alloc (.cells #[.int .i64 x] 3)).alloc (.cells pend0 95)).heap[w.heap.size + 1 + 1]? = some (.cells pend0 95 (0, 0))) := by
    show _ = _
    rw [heap_alloc_if, if_pos (by simp)]
  have HE0 : Hid ((((w.alloc (.cells #[.int .i64 0] 41)).alloc (.cells #[.int .i64 x] 3)).alloc (.cells pend0 95)).heap[w.heap.size]? = some (.cells #[.int .i64 0] 41 (0, 0))) := by
    show _ = _
    rw [heap_alloc_if, if_neg (by simp; omega), heap_alloc_if, if_neg (by simp), heap_alloc_if, if_pos rfl]
  have hc2 := hc1.tr (Chg.alloc _ (.cells pend0 95) No)
  have HH := hid h
  have HC2 := hid hc2
  have HP := hid hq
  have hlp := h.lt _ _ h.rp
  have hlg := h.lt _ _ h.rg
  have Hnp : Hid (w.heap.size + 1 + 1 ≠ p) := by show _ ≠ _; omega
  have Hng : Hid (w.heap.size + 1 + 1 ≠ g) := by show _ ≠ _; omega
  have Hmp : Hid (w.heap.size ≠ p) := by show _ ≠ _; omega
  have Hmg : Hid (w.heap.size ≠ g) := by show _ ≠ _; omega
  have hcp : c ≠ p := own_not h.rc h.rp (by simp)
  have hcg : c ≠ g := own_not h.rc h.rg (by simp)
  have HLT := hid (And.intro hlp hlg)
  clear h h1 hc1 hc2 hlp hlg hq
  go_enter_defers Tryz.func63, Tryz.ntmps63
  go_wp2_with (first
    | (go_at_call 58; go_must (refine HR.mono ?_; rintro e w1 ⟨rfl, rfl⟩; clear HR))
    | (at_lookup; go_must (refine wp_lookV rfl _ _ rfl mb _ x (.agg (pend q.1 (tv x))) (by simp [HP.out]) rfl rfl HM hI ?_))
    | (refine D.store_row rfl 95 _ _ rfl (w.heap.size + 1 + 1) rfl (pend q.1 (tv x)) rfl pend0 HQ.out (by rw [szP, pend_size, hs]) (by rw [pend_size, hs, pend0_size]) (pend_one hton) ?_; intro w3 hw3; have hm3 : Chg w w3 No := HC2.out.trans (Chg.of_mod hw3.mod) (fun _ _ e => e) (fun j hj e => by simp at e; omega); have H3 := hid (HH.out.call hm3); have K30 := hid H3.out.c0; have HB3 := hid hw3.here; have HE3 := hid ((hw3.other w.heap.size (by omega)).trans HE0.out); have HZ3 := hid hw3.size; clear hw3)
    | go_in)
  have HW := D.write_any x q.1 w3.drew H3.out.dk.drew hs H3.out.inv.w0 hw H3.out.inv.lf
  rw [he] at HW
  have HM3 := hid hm3
  clear HM k12 hm3 hzp
  simp only [Act.put]
  refine wp_region_noPanic ?_
  refine wp_region_held_drew (S := fun w' => w'.cell? ⟨c, 0, none⟩ = some (.pointer (some ⟨p, 0, none⟩)) ∧ w'.rangeAt (w.heap.size + 1 + 1) 0 (q.1.map (Value.int .u8))) (by kernel_rfl) ⟨K30.out, pend_range HB3.out⟩ (fun hHeld => ?_)
  refine takeVal 0 22 (.pointer (some ⟨c, 0, none⟩)) rfl (by kernel_rfl) (by kernel_rfl) (by kernel_rfl) rfl (by rfl) (fun _ _ _ h => h) hHeld (fun _ hw' => rfl) ?_
  simp only [List.setIfInBounds_toArray, List.set_cons_zero, List.set_cons_succ]
  refine takeVal 1 23 (.pointer (some ⟨c, 0, none⟩)) rfl (by kernel_rfl) (by kernel_rfl) (by kernel_rfl) rfl (by rfl) (fun _ _ _ h => h) hHeld (fun _ hw' => by go_simp) ?_
  simp only [List.setIfInBounds_toArray, List.set_cons_zero, List.set_cons_succ]
  refine takeVal 2 24 (.pointer (some ⟨c, 0, none⟩)) rfl (by kernel_rfl) (by kernel_rfl) (by kernel_rfl) rfl (by rfl) (fun _ _ _ h => h) hHeld (fun _ hw' => by go_simp) ?_
  simp only [List.setIfInBounds_toArray, List.set_cons_zero, List.set_cons_succ]
  refine takeVal 3 25 (.pointer (some ⟨p, 0, none⟩)) rfl (by kernel_rfl) (by kernel_rfl) (by kernel_rfl) rfl (by rfl) (fun _ _ _ h => h) hHeld (fun _ hw' => by have hq' := hw'.1; go_simp) ?_
  simp only [List.setIfInBounds_toArray, List.set_cons_zero, List.set_cons_succ]
  refine takeVal 4 26 (.int .i64 x) rfl (by kernel_rfl) (by kernel_rfl) (by kernel_rfl) rfl (by rfl) (fun _ _ _ h => h) hHeld (fun _ hw' => rfl) ?_
  simp only [List.setIfInBounds_toArray, List.set_cons_zero, List.set_cons_succ]
  refine takeVal 5 27 (.pointer (some ⟨w.heap.size + 1 + 1, 0, none⟩)) rfl (by kernel_rfl) (by kernel_rfl) (by kernel_rfl) rfl (by rfl) (fun _ _ _ h => h) hHeld (fun _ hw' => by go_simp) ?_
  simp only [List.setIfInBounds_toArray, List.set_cons_zero, List.set_cons_succ]
  refine D.takeMidS 6 28 (.tmp 27) (w.heap.size + 1 + 1) 0 q.1 hs rfl (by kernel_rfl) (by kernel_rfl) (by kernel_rfl) rfl rfl rfl (by rfl) (fun _ _ _ h => h) hHeld (fun _ hw' => hw'.2) ?_
  simp only [List.setIfInBounds_toArray, List.set_cons_zero, List.set_cons_succ]
  refine step1 7 (by kernel_rfl) ?_
  refine stCall 7 29 16 #[.pointer (some ⟨p, 0, none⟩), .int .i64 x, .agg (D.SA q.1)] _ rfl rfl (by rfl) (by go_simp) (HW) ?_
  rintro e w4 ⟨rfl, hd4, hm4⟩
  have hc4 : Chg w3.drew w4 (fun k => k = p ∨ k = g) := (Chg.of_mod hm4).mono (fun k _ e => by simpa using e)
  have hc4' : Chg w3 w4 (fun k => k = p ∨ k = g) := ⟨hc4.os, hc4.tape, hc4.output, hc4.size, hc4.block⟩
  have hme4 := hc4'.keep H3.out.me (by simp [hcp, hcg])
  have hb4 := hc4'.keep HB3.out (by simp [Hnp.out, Hng.out])
  have hb5 := hc4'.keep HE3.out (by simp [Hmp.out, Hmg.out])
  have hHeld : w4.cell? ⟨c, 0, none⟩ = some (.pointer (some ⟨p, 0, none⟩)) ∧ w4.rangeAt (w.heap.size + 1 + 1) 0 (q.1.map (Value.int .u8)) := ⟨by rw [cell_of_row _ _ _ _ _ _ hme4]; rfl, pend_range hb4⟩
  refine ⟨_, rfl, hHeld, ?_⟩
  simp only [List.setIfInBounds_toArray, List.set_cons_zero, List.set_cons_succ]
  refine takeVal 8 7 (.int .i64 22) rfl (by kernel_rfl) (by kernel_rfl) (by kernel_rfl) rfl (by rfl) (fun _ _ _ h => h) hHeld (fun _ hw' => rfl) ?_
  simp only [List.setIfInBounds_toArray, List.set_cons_zero, List.set_cons_succ]
  refine wpAnyH_done (by kernel_rfl) ?_ _
  refine NoPanic.normal ?_

  have k4 := cell0 hb5
  have f4 := frozen_of_row w4 w.heap.size 0 _ _ hb5
  have HME4 := hid hme4
  clear hHeld hme4 hb4
  go_wp2
  have hbc : w.heap.size ≠ c := Nat.ne_of_gt (HH.out.lt _ _ HH.out.rc)
  refine leaves_cons (f := 66) (args := #[.pointer (some ⟨c, 0, none⟩), .pointer (some ⟨w.heap.size, 0, none⟩)]) (by simp) (by simp [go_sem]) ?_
  have hme5 : (w4.setCell ⟨w.heap.size, 0, none⟩ (.int .i64 22)).heap[c]? = _ := (heap_setCell_other w4 ⟨w.heap.size, 0, none⟩ c _ (fun e => hbc e.symm)).trans HME4.out
  have hbe : (w4.setCell ⟨w.heap.size, 0, none⟩ (.int .i64 22)).heap[w.heap.size]? = _ := heap_setCell_same w4 w.heap.size 0 _ _ _ hb5
  refine (markLoss_d w.heap.size 22 .returning _ c ?_ z.lost ?_ ?_).mono ?_
  · rw [cell_of_row _ _ _ _ _ _ hbe]; rfl
  · rw [cell_of_row _ _ _ _ _ _ hme5]; rfl
  · exact frozen_of_row _ c 4 _ _ hme5
  rintro e u' w'' ⟨rfl, rfl, rfl⟩
  rw [if_pos rfl]
  have hbe2 : ((w4.setCell ⟨w.heap.size, 0, none⟩ (.int .i64 22)).setCell ⟨c, 4, none⟩ (.bool true)).heap[w.heap.size]? = _ := (heap_setCell_other _ ⟨c, 4, none⟩ w.heap.size _ hbc).trans hbe
  have kbe := cell_of_row _ _ 0 _ _ _ hbe2
  refine ⟨.int .i64 22, ?_, ?_, ?_⟩
  · simp [results, Tryz.results63, go_sem, kbe]
  · rw [wrC_down hlo HP.out he]
  · rw [wrC_down hlo HP.out he]
    have hwr := writeD_wr z.d n x q.1
    have h0 := HH.out.inv.w0
    have hc44 : Chg w3 (w4.setCell ⟨w.heap.size, 0, none⟩ (.int .i64 22)) (fun k => (k = p ∨ k = g) ∨ k = w.heap.size) := hc4'.trans Chg.setCell (fun _ _ e => .inl e) (fun _ _ e => .inr e)
    have hc04 : Chg w (w4.setCell ⟨w.heap.size, 0, none⟩ (.int .i64 22)) (fun k => k = p ∨ k = g) := HM3.out.trans hc44 (fun _ _ e => e.elim) (fun j hj e => e.elim (fun e => e) (fun e => by omega))
    have hd5 : D.IsD (w4.setCell ⟨w.heap.size, 0, none⟩ (.int .i64 22)) p g n (D.writeD z.d n x q.1) := isD_keep hd4 (Chg.setCell (w := w4) (g := w.heap.size)) (fun e => Hmp.out e.symm) (fun e => Hmg.out e.symm)
    have hf := isC_down HH.out hd5 hc04 (by omega) (writeD_lf _ _ _ _ HH.out.inv.lf)
    refine ⟨ρ, ⟨gp, mb, go, tv, lv, hf⟩, fun _ k => .inl k, hc04.trans Chg.setCell (fun j _ e => ?_) (fun j _ e => ?_)⟩
    · rcases e with rfl | rfl
      · exact ⟨_, HH.out.rp⟩
      · exact ⟨_, HH.out.rg⟩
    · have e : j = c := e
      subst e
      exact ⟨_, HH.out.rc⟩

set_option maxRecDepth 100000 in
set_option maxHeartbeats 2000000 in
theorem write_done (x : Int) (q : List Int × List Int) (h : IsC w c p g n ρ z) (hq : z.P x = some q) (hlo : z.lost = false) (ht : TB z) (hw : z.d.wr < 4611686018427387904) (he : D.writeE z.d n x = 0) :
    Calls Tryz.prog 63 #[.pointer (some ⟨c, 0, none⟩), .int .i64 x] w fun e w' => e = .returned (.int .i64 (wrC n z x).2) ∧ CPost w w' c p g n ρ (wrC n z x).1 := by
  have hdx : z.dirty x := by unfold CSt.dirty; rw [hq]; rfl
  have hx := h.inv.ok x hdx
  have hsec := h.inv.sec hdx
  have hc1 : Chg w ((w.alloc (.cells #[.int .i64 0] 41)).alloc (.cells #[.int .i64 x] 3)) No := (Chg.alloc _ _ _).tr (Chg.alloc _ _ _)
  have HR := refusalC_any [x] (some ⟨(w.alloc (.cells #[.int .i64 0] 41)).heap.size, 0, none⟩) 1 (h.call hc1) (lat_one _ x) (by simp)
  rw [refC_one hx.1 hx.2, hlo] at HR
  simp only [World.size_alloc, List.length_singleton, Bool.false_eq_true, if_false] at HR
  obtain ⟨gp, mb, go, tv, lv, h⟩ := h
  have hI := h.i64 hdx
  have hs := h.inv.ln x q hq
  have h1 := h.call hc1
  have k12 := h1.c2
  have HM := h1.mp
  have hzp := zeroP
  have hton := ints_one (h.tg x q hq)
  have HQ : Hid ((((w.alloc (.cells #[.int .i64 0] 41)).alloc (.cells #[.int .i64 x] 3)).alloc (.cells pend0 95)).heap[w.heap.size + 1 + 1]? = some (.cells pend0 95 (0, 0))) := by
    show _ = _
    rw [heap_alloc_if, if_pos (by simp)]
  have HE0 : Hid ((((w.alloc (.cells #[.int .i64 0] 41)).alloc (.cells #[.int .i64 x] 3)).alloc (.cells pend0 95)).heap[w.heap.size]? = some (.cells #[.int .i64 0] 41 (0, 0))) := by
    show _ = _
    rw [heap_alloc_if, if_neg (by simp; omega), heap_alloc_if, if_neg (by simp), heap_alloc_if, if_pos rfl]
  have hc2 := hc1.tr (Chg.alloc _ (.cells pend0 95) No)
  have HH := hid h
  have HC2 := hid hc2
  have HP := hid hq
  have hlp := h.lt _ _ h.rp
  have hlg := h.lt _ _ h.rg
  have Hnp : Hid (w.heap.size + 1 + 1 ≠ p) := by show _ ≠ _; omega
  have Hng : Hid (w.heap.size + 1 + 1 ≠ g) := by show _ ≠ _; omega
  have Hmp : Hid (w.heap.size ≠ p) := by show _ ≠ _; omega
  have Hmg : Hid (w.heap.size ≠ g) := by show _ ≠ _; omega
  have hcp : c ≠ p := own_not h.rc h.rp (by simp)
  have hcg : c ≠ g := own_not h.rc h.rg (by simp)
  have HLT := hid (And.intro hlp hlg)
  clear h h1 hc1 hc2 hlp hlg hq
  go_enter_defers Tryz.func63, Tryz.ntmps63
  go_wp2_with (first
    | (go_at_call 58; go_must (refine HR.mono ?_; rintro e w1 ⟨rfl, rfl⟩; clear HR))
    | (at_lookup; go_must (refine wp_lookV rfl _ _ rfl mb _ x (.agg (pend q.1 (tv x))) (by simp [HP.out]) rfl rfl HM hI ?_))
    | (refine D.store_row rfl 95 _ _ rfl (w.heap.size + 1 + 1) rfl (pend q.1 (tv x)) rfl pend0 HQ.out (by rw [szP, pend_size, hs]) (by rw [pend_size, hs, pend0_size]) (pend_one hton) ?_; intro w3 hw3; have hm3 : Chg w w3 No := HC2.out.trans (Chg.of_mod hw3.mod) (fun _ _ e => e) (fun j hj e => by simp at e; omega); have H3 := hid (HH.out.call hm3); have K30 := hid H3.out.c0; have HB3 := hid hw3.here; have HE3 := hid ((hw3.other w.heap.size (by omega)).trans HE0.out); have HZ3 := hid hw3.size; clear hw3)
    | go_in)
  have HW := D.write_any x q.1 w3.drew H3.out.dk.drew hs H3.out.inv.w0 hw H3.out.inv.lf
  rw [he] at HW
  have HM3 := hid hm3
  clear HM k12 hm3 hzp
  simp only [Act.put]
  refine wp_region_noPanic ?_
  refine wp_region_held_drew (S := fun w' => w'.cell? ⟨c, 0, none⟩ = some (.pointer (some ⟨p, 0, none⟩)) ∧ w'.rangeAt (w.heap.size + 1 + 1) 0 (q.1.map (Value.int .u8))) (by kernel_rfl) ⟨K30.out, pend_range HB3.out⟩ (fun hHeld => ?_)
  refine takeVal 0 22 (.pointer (some ⟨c, 0, none⟩)) rfl (by kernel_rfl) (by kernel_rfl) (by kernel_rfl) rfl (by rfl) (fun _ _ _ h => h) hHeld (fun _ hw' => rfl) ?_
  simp only [List.setIfInBounds_toArray, List.set_cons_zero, List.set_cons_succ]
  refine takeVal 1 23 (.pointer (some ⟨c, 0, none⟩)) rfl (by kernel_rfl) (by kernel_rfl) (by kernel_rfl) rfl (by rfl) (fun _ _ _ h => h) hHeld (fun _ hw' => by go_simp) ?_
  simp only [List.setIfInBounds_toArray, List.set_cons_zero, List.set_cons_succ]
  refine takeVal 2 24 (.pointer (some ⟨c, 0, none⟩)) rfl (by kernel_rfl) (by kernel_rfl) (by kernel_rfl) rfl (by rfl) (fun _ _ _ h => h) hHeld (fun _ hw' => by go_simp) ?_
  simp only [List.setIfInBounds_toArray, List.set_cons_zero, List.set_cons_succ]
  refine takeVal 3 25 (.pointer (some ⟨p, 0, none⟩)) rfl (by kernel_rfl) (by kernel_rfl) (by kernel_rfl) rfl (by rfl) (fun _ _ _ h => h) hHeld (fun _ hw' => by have hq' := hw'.1; go_simp) ?_
  simp only [List.setIfInBounds_toArray, List.set_cons_zero, List.set_cons_succ]
  refine takeVal 4 26 (.int .i64 x) rfl (by kernel_rfl) (by kernel_rfl) (by kernel_rfl) rfl (by rfl) (fun _ _ _ h => h) hHeld (fun _ hw' => rfl) ?_
  simp only [List.setIfInBounds_toArray, List.set_cons_zero, List.set_cons_succ]
  refine takeVal 5 27 (.pointer (some ⟨w.heap.size + 1 + 1, 0, none⟩)) rfl (by kernel_rfl) (by kernel_rfl) (by kernel_rfl) rfl (by rfl) (fun _ _ _ h => h) hHeld (fun _ hw' => by go_simp) ?_
  simp only [List.setIfInBounds_toArray, List.set_cons_zero, List.set_cons_succ]
  refine D.takeMidS 6 28 (.tmp 27) (w.heap.size + 1 + 1) 0 q.1 hs rfl (by kernel_rfl) (by kernel_rfl) (by kernel_rfl) rfl rfl rfl (by rfl) (fun _ _ _ h => h) hHeld (fun _ hw' => hw'.2) ?_
  simp only [List.setIfInBounds_toArray, List.set_cons_zero, List.set_cons_succ]
  refine step1 7 (by kernel_rfl) ?_
  refine stCall 7 29 16 #[.pointer (some ⟨p, 0, none⟩), .int .i64 x, .agg (D.SA q.1)] _ rfl rfl (by rfl) (by go_simp) (HW) ?_
  rintro e w4 ⟨rfl, hd4, hm4⟩
  have hc4 : Chg w3.drew w4 (fun k => k = p ∨ k = g) := (Chg.of_mod hm4).mono (fun k _ e => by simpa using e)
  have hc4' : Chg w3 w4 (fun k => k = p ∨ k = g) := ⟨hc4.os, hc4.tape, hc4.output, hc4.size, hc4.block⟩
  have hme4 := hc4'.keep H3.out.me (by simp [hcp, hcg])
  have hb4 := hc4'.keep HB3.out (by simp [Hnp.out, Hng.out])
  have hb5 := hc4'.keep HE3.out (by simp [Hmp.out, Hmg.out])
  have hHeld : w4.cell? ⟨c, 0, none⟩ = some (.pointer (some ⟨p, 0, none⟩)) ∧ w4.rangeAt (w.heap.size + 1 + 1) 0 (q.1.map (Value.int .u8)) := ⟨by rw [cell_of_row _ _ _ _ _ _ hme4]; rfl, pend_range hb4⟩
  refine ⟨_, rfl, hHeld, ?_⟩
  simp only [List.setIfInBounds_toArray, List.set_cons_zero, List.set_cons_succ]
  refine takeVal 8 7 (.int .i64 0) rfl (by kernel_rfl) (by kernel_rfl) (by kernel_rfl) rfl (by rfl) (fun _ _ _ h => h) hHeld (fun _ hw' => rfl) ?_
  simp only [List.setIfInBounds_toArray, List.set_cons_zero, List.set_cons_succ]
  refine wpAnyH_done (by kernel_rfl) ?_ _
  refine NoPanic.normal ?_

  obtain ⟨ta, tc, htv, hta, _⟩ := (HH.out.tg x q HP.out).lat
  obtain ⟨la, lc, hlv, _, _⟩ := HH.out.ld.lat
  subst hlv
  have hcl : ¬ (Value.slice la z.ld.length lc).ownBlock = some c := fun e => by
    have := HH.out.rl c e
    rw [HH.out.rc] at this
    cases this
  have htg := HH.out.tg x q HP.out
  rw [htv] at htg
  have hc04 : Chg w w4 (fun k => k = p ∨ k = g) := HM3.out.trans hc4' (fun _ _ e => e.elim) (fun _ _ e => e)
  have h4 := HH.out.parts hc04 (fun r => r = .p ∨ r = .g) (fun k e r hr => by
    rcases e with rfl | rfl
    · rw [HH.out.rp] at hr; cases hr; exact .inl rfl
    · rw [HH.out.rg] at hr; cases hr; exact .inr rfl)
  have HTA : Hid (LAt w4.drew ta q.2) := by
    have := hta.keep hc04 (fun k hk => ?_)
    · exact this.call (Chg.refl w4 No).drew
    · have hb := htg.nilcap.2 _ hk
      have hr := HH.out.rt x k hdx (by rw [htv]; exact hb.2)
      rintro (rfl | rfl)
      · rw [HH.out.rp] at hr; cases hr
      · rw [HH.out.rg] at hr; cases hr
  have HTN := hid htg.nilcap.1
  have HTB : Hid (z.ld.length + q.2.length ≤ 17592186044000) := by
    have := tsum_le z.P x hsec
    rw [HP.out] at this
    simp only [tl] at this
    unfold TB at ht
    show _ ≤ _
    omega
  have HLD := hid (row_keep (h4.2.2.2.2.2.1 (by simp)) (Chg.refl w4 No).drew (fun _ _ e => e))
  rw [htv] at hb4
  have HB4 := hid hb4
  have HE4 := hid hb5
  have HME4 := hid hme4
  have HCL := hid hcl
  have HBL : Hid (∀ k, w.heap.size ≤ k → ¬ (Value.slice la z.ld.length lc).ownBlock = some k) := fun k hk e => by
    have := HH.out.lt _ _ (HH.out.rl k e)
    omega
  have hcw := HH.out.lt _ _ HH.out.rc
  have HBC : Hid (w.heap.size + 1 + 1 ≠ c ∧ w.heap.size ≠ c) := ⟨by omega, by omega⟩
  have KL4 : Hid (w4.drew.cell? ⟨c, 3, none⟩ = some (.slice la z.ld.length lc)) := by
    show _ = _
    rw [cell_of_row _ _ _ _ _ _ (show w4.drew.heap[c]? = _ from hme4)]
    rfl
  clear hHeld hme4 hb4 hb5 h4 hcl hta htg
  go_wp2
  refine wp_region_noPanic ?_
  refine wp_region_held_drew (S := fun w' => w'.cell? ⟨w.heap.size + 1 + 1, 128, none⟩ = some (.slice ta q.2.length tc)) (by kernel_rfl) (pend_tag hs HB4.out) (fun hHeld => ?_)
  refine takeVal 0 33 (.pointer (some ⟨c, 0, none⟩)) rfl (by kernel_rfl) (by kernel_rfl) (by kernel_rfl) rfl (by rfl) (fun _ _ _ h => h) hHeld (fun _ hw' => rfl) ?_
  simp only [List.setIfInBounds_toArray, List.set_cons_zero, List.set_cons_succ]
  refine takeVal 1 34 (.pointer (some ⟨c, 0, none⟩)) rfl (by kernel_rfl) (by kernel_rfl) (by kernel_rfl) rfl (by rfl) (fun _ _ _ h => h) hHeld (fun _ hw' => rfl) ?_
  simp only [List.setIfInBounds_toArray, List.set_cons_zero, List.set_cons_succ]
  refine takeVal 2 35 (.pointer (some ⟨c, 0, none⟩)) rfl (by kernel_rfl) (by kernel_rfl) (by kernel_rfl) rfl (by rfl) (fun _ _ _ h => h) hHeld (fun _ hw' => by go_simp) ?_
  simp only [List.setIfInBounds_toArray, List.set_cons_zero, List.set_cons_succ]
  refine takeVal 3 36 (.pointer (some ⟨c, 3, none⟩)) rfl (by kernel_rfl) (by kernel_rfl) (by kernel_rfl) rfl (by rfl) (fun _ _ _ h => h) hHeld (fun _ hw' => by go_simp) ?_
  simp only [List.setIfInBounds_toArray, List.set_cons_zero, List.set_cons_succ]
  refine takeVal 5 38 (.pointer (some ⟨w.heap.size + 1 + 1, 128, none⟩)) rfl (by kernel_rfl) (by kernel_rfl) (by kernel_rfl) rfl (by rfl) (fun _ _ _ h => h) hHeld (fun _ hw' => by go_simp) ?_
  simp only [List.setIfInBounds_toArray, List.set_cons_zero, List.set_cons_succ]
  refine takeVal 6 39 (.slice ta q.2.length tc) rfl (by kernel_rfl) (by kernel_rfl) (by kernel_rfl) rfl (by rfl) (fun _ _ _ h => h) hHeld (fun _ hw' => by have hq' := hw'; go_simp) ?_
  simp only [List.setIfInBounds_toArray, List.set_cons_zero, List.set_cons_succ]
  refine step1 4 (by kernel_rfl) ?_
  refine stVal 4 37 (.slice la z.ld.length lc) rfl rfl (by rfl) (by have hq' := KL4.out; go_simp) hHeld ?_
  simp only [List.setIfInBounds_toArray, List.set_cons_zero, List.set_cons_succ]
  refine step1 7 (by kernel_rfl) ?_
  refine stAppL 7 40 rfl rfl (by rfl) _ _ rfl 0 (.slice la z.ld.length lc) z.ld q.2 ta tc rfl rfl HLD.out HTA.out HTN.out (by have := HTB.out; omega) (Nat.zero_le _) ?_
  intro v5 w5 h5 hc5 ho5
  have hb45 := hc5.keep (show w4.drew.heap[w.heap.size + 1 + 1]? = _ from HB4.out) (HBL.out _ (by omega))
  have hE45 := hc5.keep (show w4.drew.heap[w.heap.size]? = _ from HE4.out) (HBL.out _ (Nat.le_refl _))
  have hme45 := hc5.keep (show w4.drew.heap[c]? = _ from HME4.out) HCL.out
  have hHeld : w5.cell? ⟨w.heap.size + 1 + 1, 128, none⟩ = some (.slice ta q.2.length tc) := pend_tag hs hb45
  refine ⟨hHeld, ?_⟩
  simp only [List.setIfInBounds_toArray, List.set_cons_zero, List.set_cons_succ]
  refine takeVal 8 41 (.pointer (some ⟨c, 0, none⟩)) rfl (by kernel_rfl) (by kernel_rfl) (by kernel_rfl) rfl (by rfl) (fun _ _ _ h => h) hHeld (fun _ hw' => by go_simp) ?_
  simp only [List.setIfInBounds_toArray, List.set_cons_zero, List.set_cons_succ]
  refine takeVal 9 42 (.pointer (some ⟨c, 3, none⟩)) rfl (by kernel_rfl) (by kernel_rfl) (by kernel_rfl) rfl (by rfl) (fun _ _ _ h => h) hHeld (fun _ hw' => by go_simp) ?_
  simp only [List.setIfInBounds_toArray, List.set_cons_zero, List.set_cons_succ]
  refine step1 10 (by kernel_rfl) ?_
  have fc3 := frozen_of_row w5 c 3 _ _ hme45
  have kc3 : w5.cell? ⟨c, 3, none⟩ = some (.slice la z.ld.length lc) := (by rw [cell_of_row _ _ _ _ _ _ hme45]; rfl)
  refine stCell 10 (w5.setCell ⟨c, 3, none⟩ v5) rfl rfl (by rfl) (by obtain ⟨va, vc, hv5, _, _⟩ := h5.lat; rw [hv5]; clear hv5; go_simp) ?_
  have hb46 : (w5.setCell ⟨c, 3, none⟩ v5).heap[w.heap.size + 1 + 1]? = _ := (heap_setCell_other w5 ⟨c, 3, none⟩ (w.heap.size + 1 + 1) _ HBC.out.1).trans hb45
  refine ⟨pend_tag hs hb46, ?_⟩
  refine wpAnyH_done (by kernel_rfl) ?_ _
  refine NoPanic.normal ?_

  have hd44 : D.IsD w4.drew p g n (D.writeD z.d n x q.1) := hd4.drew
  have hc44 : Chg w w4.drew (fun k => k = p ∨ k = g) := ⟨hc04.os, hc04.tape, hc04.output, hc04.size, hc04.block⟩
  have hwr := writeD_wr z.d n x q.1
  have h00 := HH.out.inv.w0
  obtain ⟨ρ1, hC1, ho1, hg1⟩ := isC_done HH.out hd44 hc44 (by omega) (writeD_lf _ _ _ _ HH.out.inv.lf) h5 hc5 ho5
  have HF := forget_any x hC1 hsec
  have hE46 : (w5.setCell ⟨c, 3, none⟩ v5).heap[w.heap.size]? = _ := (heap_setCell_other w5 ⟨c, 3, none⟩ w.heap.size _ HBC.out.2).trans hE45
  have hsz5 := hc5.size
  have hsz4 := hc4'.size
  have hsz3 : w3.heap.size = w.heap.size + 1 + 1 + 1 := by rw [HZ3.out]; simp
  have hB1 : ¬ Own ρ1 w.heap.size := fun ⟨r, hr⟩ => by
    rcases ho1 w.heap.size ⟨r, hr⟩ with ⟨r2, e⟩ | e
    · have := HH.out.lt _ _ e
      omega
    · have e : w4.heap.size ≤ w.heap.size := e
      omega
  have k44 := cell0 hE46
  have f44 := frozen_of_row _ w.heap.size 0 _ _ hE46
  have HP1 := hid (And.intro ho1 hg1)
  have HC1 := hid hC1
  clear hC1 ho1 hg1
  clear h5 hc5 ho5 hHeld
  generalize hw6 : w5.setCell ⟨c, 3, none⟩ v5 = w6 at *
  clear hw6
  go_wp2_with (first
    | (go_at_call 79; go_must (refine HF.mono ?_; rintro e w7 ⟨rfl, ρ2, hC2, ho2, hg2⟩; have hE7 := hg2.keep hE46 hB1; have k47 := cell0 hE7; have f47 := frozen_of_row _ w.heap.size 0 _ _ hE7; have HC2 := hid (And.intro hC2 (And.intro ho2 hg2)); clear hC2 ho2 hg2))
    | go_in)
  refine leaves_cons (f := 66) (args := #[.pointer (some ⟨c, 0, none⟩), .pointer (some ⟨w.heap.size, 0, none⟩)]) (by simp) (by simp [go_sem]) ?_
  obtain ⟨hC2, ho2, hg2⟩ := HC2.out
  have hB2 : ¬ Own ρ2 w.heap.size := fun hr => by
    rcases ho2 w.heap.size hr with e | e
    · exact hB1 e
    · have := slt hE46
      omega
  have hC3 : IsC (w7.setCell ⟨w.heap.size, 0, none⟩ (.int .i64 0)) c p g n ρ2 _ := hC2.keep Chg.setCell (fun k hk e => hB2 (by rw [← e]; exact hk))
  have hbe : (w7.setCell ⟨w.heap.size, 0, none⟩ (.int .i64 0)).heap[w.heap.size]? = _ := heap_setCell_same w7 w.heap.size 0 _ _ _ hE7
  have hC3' := hC3
  obtain ⟨gp', mb', go', tv', lv', h3'⟩ := hC3'
  refine (markLoss_d w.heap.size 0 .returning _ c ?_ _ h3'.c4 (h3'.fz 4)).mono ?_
  · rw [cell_of_row _ _ _ _ _ _ hbe]; rfl
  rintro e u' w'' ⟨rfl, rfl, rfl⟩
  rw [if_neg (by decide)]
  have kbe := cell_of_row _ _ 0 _ _ _ hbe
  refine ⟨.int .i64 0, ?_, ?_, ?_⟩
  · simp [results, Tryz.results63, go_sem, kbe]
  · rw [wrC_done hlo HP.out he]
  · rw [wrC_done hlo HP.out he]
    have hsz6 := HP1.out.2.size
    refine ⟨ρ2, hC3, fun k hk => ?_, ?_⟩
    · rcases ho2 k hk with e | e
      · rcases HP1.out.1 k e with e | e
        · exact .inl e
        · have e : w4.heap.size ≤ k := e
          exact .inr (by omega)
      · exact .inr (by omega)
    · refine (HP1.out.2.trans (hg2.trans Chg.setCell (c := fun k => Own ρ1 k ∨ k = w.heap.size) (fun _ _ e => .inl e) (fun _ _ e => .inr e)) (fun _ _ e => e) (fun j hj e => ?_))
      rcases e with e | e
      · rcases HP1.out.1 j e with e | e
        · exact e
        · have e : w4.heap.size ≤ j := e
          omega
      · omega

/-- write, as one. -/
theorem writeC_any (x : Int) (h : IsC w c p g n ρ z) (hx : z.dirty x) (ht : TB z) (hw : z.d.wr < 4611686018427387904) :
    Calls Tryz.prog 63 #[.pointer (some ⟨c, 0, none⟩), .int .i64 x] w fun e w' => e = .returned (.int .i64 (wrC n z x).2) ∧ CPost w w' c p g n ρ (wrC n z x).1 := by
  have hok := h.inv.ok x hx
  cases hlo : z.lost with
  | true =>
    refine (write_lost x h hok hlo).mono ?_
    rintro e w' ⟨rfl, hc⟩
    have e : wrC n z x = (z, 22) := by unfold wrC; rw [if_pos hlo]
    rw [e]
    exact ⟨rfl, CPost.same h hc⟩
  | false =>
    obtain ⟨q, hq⟩ := Option.isSome_iff_exists.1 hx
    rcases writeE_cases z.d n x hok.1 hok.2 with he | he
    · exact write_done x q h hq hlo ht hw he
    · exact write_down x q h hq hlo hw he

end Go.Proofs.YtamoepninddbcaaGreat
