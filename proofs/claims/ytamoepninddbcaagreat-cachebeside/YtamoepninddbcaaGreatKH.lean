/-
  The document's cache: write.
-/
import Derived.Test.YtamoepninddbcaaGreatKG
namespace Go.Proofs.YtamoepninddbcaaGreat
open Go.RowKit

section
variable {ops : Array Oper} {Q : Exit → Act → World → Prop} {S : World → Prop} {fuel : Nat} {listed : Array Bool} {a : Act} {w : World}
theorem stStoreRow (i : Nat) {o : Oper} (hop : ops[i]? = some o) (hd : o.dst = none) (hw : Region.wanted o (yielded ops a.tmps) = true) (t : TypeId) (x y : Operand) (ho : o.op = .store t x y)
    (g : Nat) (hx : a.eval x = .pointer (some ⟨g, 0, none⟩)) (c : Array Value) (hy : a.eval y = .agg c) (old : Array Value) (hg : w.heap[g]? = some (.cells old t (0, 0))) (hs : (Tryz.prog.info? t).map (·.size) = some c.size) (hz : old.size = c.size) (h1 : c.all (·.oneCell') = true)
    (h : ∀ w', D.Put w g (.cells c t (0, 0)) w' → S w' ∧ wpAnyH Tryz.prog .any ops Q S fuel (listed.setIfInBounds i true) a w') : St ops Q S fuel listed a w i := by
  refine wpOp_step hop (fun K hK => ?_)
  rw [if_pos hw]
  refine wp_store_row t x y ho g c hx hy t old hg hs hz h1 ?_
  have := h _ (D.put_row c hg)
  refine hK _ _ ⟨this.1, ?_⟩
  unfold Act.put
  rw [hd]
  exact this.2
theorem takeIt (i d : Nat) (x : Operand) (g k : Nat) (c : List Value) (hc : c.length = 130) {o : Oper} (hop : ops[i]? = some o) (hs : Region.noSelect ops = true) (hf : Region.free .any ops listed i = true) (hr : (Region.ready .any ops listed).contains i = true)
    (hd : o.dst = some d) (ho : o.op = .load 109 x) (hx : a.eval x = .pointer (some ⟨g, k, none⟩)) (hw : Region.wanted o (yielded ops a.tmps) = true) (hQ : ∀ c a w, ¬ Q (.panic c) a w) (hS : S w)
    (hg : ∀ w, S w → w.rangeAt g k c)
    (h : wpAnyH Tryz.prog .any ops Q S fuel (listed.setIfInBounds i true) { a with tmps := a.tmps.setIfInBounds d (.agg c.toArray) } w) : wpAnyH Tryz.prog .any ops Q S (fuel + 1) listed a w := by
  refine takeVal i d (.agg c.toArray) hop hs hf hr hd hw hQ hS (fun w hw' => ?_) h
  unfold execOp
  simp only [ho, hx, Instr.loadAt, Instr.sureAddr, Sem.run_bind, Sem.run_pure, Result.andThen_ok, run_loadVar_mid w g k 109 c _ (hg w hw') Tryz.underlying109 rfl (by rw [szIt, hc])]
end
theorem zeroIt (w : World) : (zeroValue 109).run Tryz.prog w = .ok (.agg ItZ) w := by kernel_rfl
theorem all_one {l : List Value} (h : ∀ u ∈ l, u.oneCell' = true) : l.toArray.all (·.oneCell') = true := by
  rw [Array.all_eq_true_iff_forall_mem]
  intro v hv
  exact h v (by simpa using hv)
section
variable {w w' w1 w2 : World} {r rd rk n rc : Nat} {X : Array Value} {v0 v1 lv : Value} {tv : Int → Value} {W : List (Int × Int)} {ρ ρ1 : Nat → Option RRole} {z : CSt}
theorem RPost.pre (hc : Chg w w1 (OwnR ρ)) (h : RPost w1 w2 r rd n ρ z) : RPost w w2 r rd n ρ z := by
  obtain ⟨ρ', h1, h2, h3⟩ := h
  exact ⟨ρ', h1, fun k hk => (h2 k hk).imp (fun e => e) (fun e => Nat.le_trans hc.size e), hc.trans h3 (fun _ _ e => e) (fun _ _ e => e)⟩
theorem RPost.and (ho : ∀ k, OwnR ρ1 k → OwnR ρ k ∨ w.heap.size ≤ k) (hg : Chg w w1 (OwnR ρ)) (h : RPost w1 w2 r rd n ρ1 z) : RPost w w2 r rd n ρ z := by
  obtain ⟨ρ', h1, h2, h3⟩ := h
  refine ⟨ρ', h1, fun k hk => ?_, hg.trans h3 (fun _ _ e => e) (fun k hk e => ?_)⟩
  · rcases h2 k hk with e | e
    · exact ho k e
    · exact .inr (Nat.le_trans hg.size e)
  · rcases ho k e with e | e
    · exact e
    · omega
theorem IsRC0.down (h : IsRC0 w r rd rk n rc X v0 v1 lv tv W ρ z) {d' : D.St8} (hd : D.IsQ w' rd rk n rc X d') (hc : Chg w w' (fun k => k = rd ∨ k = rk)) (h0 : 0 ≤ d'.wr) (hl : 0 ≤ d'.lf ∧ d'.lf ≤ 9223372036854775807) : IsRC0 w' r rd rk n rc X v0 v1 lv tv W ρ ⟨d', z.E, z.P, z.ld, z.lost⟩ := by
  have hne : ∀ {k : Nat} {q : RRole}, ρ k = some q → q ≠ .dk → q ≠ .sr → ¬ (k = rd ∨ k = rk) := fun hk hq hq2 e => e.elim (fun e => ownR_not hk h.rd_ hq e) (fun e => ownR_not hk h.rs hq2 e)
  exact ⟨hc.keep h.me (hne h.rm (by intro e; cases e) (by intro e; cases e)), hd, row_keep h.it hc fun k hk => hne (h.ri k hk) (by intro e; cases e) (by intro e; cases e), row_keep h.wy hc fun k hk => hne (h.rw_ k hk) (by intro e; cases e) (by intro e; cases e),
    fun x q hx => row_keep (h.tg x q hx) hc fun k hk => hne (h.rt x k (by unfold CSt.dirty; rw [show z.P x = some q from hx]; rfl) hk) (by intro e; cases e) (by intro e; cases e), row_keep h.ld hc fun k hk => hne (h.rl k hk) (by intro e; cases e) (by intro e; cases e),
    h.wd, h.we, h.rm, h.rd_, h.rs, h.ri, h.rw_, h.rt, h.rl, fun k q hk => Nat.lt_of_lt_of_le (h.lt k q hk) hc.size, inv_d h.inv h0 hl⟩
theorem IsRC0.tagged (h : IsRC0 w r rd rk n rc X v0 v1 lv tv W ρ z) {lv' : Value} {l : List Int} (hc : Chg w w' (fun k => lv.ownBlock = some k)) (hi : Ints w' 0 lv' l) (hb : lv'.ownBlock = lv.ownBlock ∨ lv'.ownBlock = some w.heap.size) : RPost w (w'.setCell ⟨r, 3, none⟩ lv') r rd n ρ ⟨z.d, z.E, z.P, l, z.lost⟩ := by
  have hcs : Chg w' (w'.setCell ⟨r, 3, none⟩ lv') (· = r) := Chg.setCell
  have hcb : Chg w (w'.setCell ⟨r, 3, none⟩ lv') (fun k => lv.ownBlock = some k ∨ k = r) := hc.trans hcs (fun _ _ e => .inl e) (fun _ _ e => .inr e)
  have hne : ∀ {k : Nat} {q : RRole}, ρ k = some q → q ≠ .tg → q ≠ .me → ¬ (lv.ownBlock = some k ∨ k = r) := fun hk hq hq2 e => e.elim (fun e => by
    have := h.rl _ e
    rw [hk] at this
    cases this
    exact hq rfl) (fun e => ownR_not hk h.rm hq2 e)
  have hrl : ¬ lv.ownBlock = some r := fun e => by
    have := h.rl _ e
    rw [h.rm] at this
    cases this
  have hold : ∀ {k : Nat} {q : RRole}, ρ k = some q → (if lv'.ownBlock = some k then some RRole.tg else ρ k) = some q := fun {k q} hk => by
    by_cases e : lv'.ownBlock = some k
    · rw [if_pos e]
      rcases hb with e2 | e2
      · rw [e2] at e
        rw [← h.rl k e, hk]
      · rw [e2] at e
        cases e
        have := h.lt _ _ hk
        omega
    · rw [if_neg e]; exact hk
  have hlr : ∀ k, lv'.ownBlock = some k → ¬ k = r := fun k hk e => by
    rcases hb with e2 | e2
    · rw [e2, e] at hk; exact hrl hk
    · rw [e2] at hk
      cases hk
      have := h.lt _ _ h.rm
      omega
  refine ⟨fun k => if lv'.ownBlock = some k then some .tg else ρ k, ⟨rk, rc, X, v0, v1, lv', tv, W, ?_⟩, ?_, hcb.mono fun k _ e => ?_⟩
  · refine ⟨heap_setCell_same w' r 3 _ _ _ (hc.keep h.me hrl), isQ_keep h.dk hcb (hne h.rd_ (by intro e; cases e) (by intro e; cases e)) (hne h.rs (by intro e; cases e) (by intro e; cases e)), row_keep h.it hcb fun k hk => hne (h.ri k hk) (by intro e; cases e) (by intro e; cases e), row_keep h.wy hcb fun k hk => hne (h.rw_ k hk) (by intro e; cases e) (by intro e; cases e),
      fun x q hx => row_keep (h.tg x q hx) hcb fun k hk => hne (h.rt x k (by unfold CSt.dirty; rw [show z.P x = some q from hx]; rfl) hk) (by intro e; cases e) (by intro e; cases e), row_keep hi hcs hlr,
      h.wd, h.we, hold h.rm, hold h.rd_, hold h.rs, fun k hk => hold (h.ri k hk), fun k hk => hold (h.rw_ k hk), fun y k hy hk => hold (h.rt y k hy hk), fun k hk => if_pos hk, fun k q hk => ?_, ⟨h.inv.ed, h.inv.ok, h.inv.ln, h.inv.ring, h.inv.top, h.inv.w0, h.inv.lf⟩⟩
    have hs1 := hcb.size
    by_cases e : lv'.ownBlock = some k
    · have := (row_ge hi e).2
      have := hcs.size
      omega
    · simp only [if_neg e] at hk
      have := h.lt _ _ hk
      omega
  · rintro k ⟨q, hk⟩
    by_cases e : lv'.ownBlock = some k
    · rcases hb with e2 | e2
      · rw [e2] at e
        exact .inl ⟨_, h.rl k e⟩
      · rw [e2] at e
        cases e
        exact .inr (Nat.le_refl _)
    · simp only [if_neg e] at hk
      exact .inl ⟨q, hk⟩
  · rcases e with e | e
    · exact ⟨_, h.rl k e⟩
    · rw [e]; exact ⟨_, h.rm⟩
end
section
variable {r rd n : Nat} {ρ : Nat → Option RRole} {z : CSt}
set_option maxHeartbeats 2000000 in
set_option maxRecDepth 100000 in
theorem rheard_quiet (e : Int) (he : e ≠ 22) (w : World) : Calls Tryz.prog 103 #[.pointer (some ⟨r, 0, none⟩), .int .i64 e] w fun e' w' => e' = .returned (.int .i64 e) ∧ w' = w := by
  have z1 : (e == 22) = false := beq_eq_false_iff_ne.2 he
  go_enter Tryz.func103, Tryz.ntmps103
  go_wp2_with fail
  go_ret
  exact ⟨rfl, rfl⟩
set_option maxHeartbeats 2000000 in
set_option maxRecDepth 100000 in
theorem rwrite_lost (x : Int) (w : World) (h : IsRC w r rd n ρ z) (hlo : z.lost = true) : Calls Tryz.prog 76 #[.pointer (some ⟨r, 0, none⟩), .int .i64 x] w fun e w' => e = .returned (.int .i64 22) ∧ w' = w := by
  obtain ⟨rk, rc, X, v0, v1, lv, tv, W, h⟩ := h
  have q4 := h.c4
  rw [hlo] at q4
  clear h
  go_enter Tryz.func76, Tryz.ntmps76
  go_wp2_with fail
  go_ret
  exact ⟨rfl, rfl⟩
theorem row_secK {W : World} {g : Nat} {cs : List Value} {t0 : TypeId} {s : List Int} {a t : Value} (h : W.heap[g]? = some (.cells cs.toArray t0 (0, 0))) (hc : cs = a :: (s.map (Value.int .u8) ++ [t])) (hs : s.length = 128) : W.rangeAt g 1 (s.map (Value.int .u8)) := fun i v hv => by
  have hi : i < 128 := by
    rcases Nat.lt_or_ge i 128 with c | c
    · exact c
    · rw [List.getElem?_eq_none (by rw [List.length_map, hs]; exact c)] at hv; cases hv
  rw [cell_of_row _ _ _ _ _ _ h, List.getElem?_toArray, hc, Nat.add_comm, List.getElem?_cons_succ, List.getElem?_append_left (by rw [List.length_map, hs]; exact hi)]
  exact hv
set_option maxHeartbeats 8000000 in
set_option maxRecDepth 100000 in
theorem rwrite_down (x : Int) (q : List Int × List Int) (w : World) (h : IsRC w r rd n ρ z) (hq : z.P x = some q) (hlo : z.lost = false) (ht : TB z) (hw : z.d.wr < 4611686018427387904) (he : D.writeE z.d n x = 22) :
    Calls Tryz.prog 76 #[.pointer (some ⟨r, 0, none⟩), .int .i64 x] w fun e w' => e = .returned (.int .i64 (wrC n z x).2) ∧ RPost w w' r rd n ρ (wrC n z x).1 := by
  have hdx : z.dirty x := by unfold CSt.dirty; rw [hq]; rfl
  have hsec := h.inv.sec hdx
  obtain ⟨j, hj, hpl⟩ := flat_secs h.inv hdx
  have HPl : Hid (∀ W', Chg w W' No → Calls Tryz.prog 74 #[.pointer (some ⟨r, 0, none⟩), .int .i64 x] W' fun e w' => e = .returned (.int .i64 (j : Int)) ∧ w' = W') := hid (fun W' hW => by
    have := rplace_any x W' (h.call hW)
    rw [hpl] at this
    exact this)
  obtain ⟨rk, rc, X, v0, v1, lv, tv, W, h⟩ := h
  have H := hid h
  have HP := hid hq
  have HDx := hid hdx
  have HE := hid he
  obtain ⟨g, cp, hv, _, _, hcs⟩ := h.item hj
  have HK1 : Hid (∀ W', Chg w W' No → W'.cell? ⟨r, 1, none⟩ = some (.slice (some ⟨g, 0, none⟩) (secs z.dirty).length cp)) := hid (fun W' hW => by
    have := (h.call hW).c1
    rw [hv] at this
    exact this)
  have HRg : Hid (∀ W', Chg w W' No → W'.rangeAt g (j * 130) (itC z tv x)) := hid (fun W' hW => by
    obtain ⟨g2, cp2, hv2, _, _, hcs2⟩ := (h.call hW).item hj
    rw [hv] at hv2
    cases hv2
    exact item_range hcs2 (itC_len h.inv x))
  have HIl := hid (itC_len (tv := tv) h.inv x)
  have HI1 := hid (itC_one z tv x (ints_one (h.tg x q hq)))
  have HQi := hid (itC_is (tv := tv) hq)
  have HQl := hid (h.inv.ln x q hq)
  have HWb := hid hw
  have hwr := writeD_wr z.d n x q.1
  have h00 := h.inv.w0
  have HWn : Hid (0 ≤ (D.writeD z.d n x q.1).wr) := hid (by omega)
  have HLf := hid (writeD_lf z.d n x q.1 h.inv.lf)
  have hlr := h.lt _ _ h.rm
  have hld := h.lt _ _ h.rd_
  have hlk := h.lt _ _ h.rs
  have HNd : Hid (¬ (w.heap.size = rd ∨ w.heap.size = rk)) := hid (by omega)
  have HNr : Hid (¬ w.heap.size = r) := hid (by omega)
  have HTB : Hid (z.ld.length + q.2.length ≤ 17592186044000) := hid (by
    have := tsum_le z.P x hsec
    rw [hq] at this
    simp only [tl] at this
    unfold TB at ht
    omega)
  have HA := hid (wrC_down hlo hq he)
  have hjl := (List.getElem?_eq_some_iff.1 hj).1
  have h4 := secs_len z.dirty
  have hj0 : (0 : Int) ≤ (j : Int) := by omega
  have hj1 : (j : Int) < ((secs z.dirty).length : Int) := by omega
  have q4 := h.c4
  rw [hlo] at q4
  generalize hmm : (secs z.dirty).length = m at *
  have hm4 : (m : Int) ≤ 4096 := by omega
  clear h hq hlo he hj hpl hdx hsec hv hcs hwr h00 hlr hld hlk ht hw hmm
  go_enter Tryz.func76, Tryz.ntmps76
  go_wp2_with fail
  refine wp_region_noPanic ?_
  refine wp_region_held_drew (S := fun W => Chg w W No) (by kernel_rfl) (Chg.refl w No).drew (fun hHeld => ?_)
  refine takeVal 0 11 (.pointer (some ⟨r, 0, none⟩)) rfl (by kernel_rfl) (by kernel_rfl) (by kernel_rfl) rfl (by rfl) (fun _ _ _ h => h) hHeld (fun _ hw' => rfl) ?_
  simp only [List.setIfInBounds_toArray, List.set_cons_zero, List.set_cons_succ]
  refine takeVal 1 12 (.pointer (some ⟨r, 0, none⟩)) rfl (by kernel_rfl) (by kernel_rfl) (by kernel_rfl) rfl (by rfl) (fun _ _ _ h => h) hHeld (fun _ hw' => by go_simp) ?_
  simp only [List.setIfInBounds_toArray, List.set_cons_zero, List.set_cons_succ]
  refine takeVal 2 13 (.pointer (some ⟨r, 1, none⟩)) rfl (by kernel_rfl) (by kernel_rfl) (by kernel_rfl) rfl (by rfl) (fun _ _ _ h => h) hHeld (fun _ hw' => by go_simp) ?_
  simp only [List.setIfInBounds_toArray, List.set_cons_zero, List.set_cons_succ]
  refine takeVal 3 14 (.slice (some ⟨g, 0, none⟩) m cp) rfl (by kernel_rfl) (by kernel_rfl) (by kernel_rfl) rfl (by rfl) (fun _ _ _ h => h) hHeld (fun _ hw' => by have hc := HK1.out _ hw'; go_simp) ?_
  simp only [List.setIfInBounds_toArray, List.set_cons_zero, List.set_cons_succ]
  refine takeVal 4 15 (.pointer (some ⟨r, 0, none⟩)) rfl (by kernel_rfl) (by kernel_rfl) (by kernel_rfl) rfl (by rfl) (fun _ _ _ h => h) hHeld (fun _ hw' => rfl) ?_
  simp only [List.setIfInBounds_toArray, List.set_cons_zero, List.set_cons_succ]
  refine takeVal 5 16 (.int .i64 x) rfl (by kernel_rfl) (by kernel_rfl) (by kernel_rfl) rfl (by rfl) (fun _ _ _ h => h) hHeld (fun _ hw' => rfl) ?_
  simp only [List.setIfInBounds_toArray, List.set_cons_zero, List.set_cons_succ]
  refine step2 6 9 (by kernel_rfl) ?_ ?_
  ·
    refine stCall 6 17 74 #[.pointer (some ⟨r, 0, none⟩), .int .i64 x] _ rfl rfl (by rfl) (by go_simp) (HPl.out _ hHeld) ?_
    rintro e9 w' ⟨rfl, hw⟩
    subst hw
    refine ⟨_, rfl, hHeld, ?_⟩
    simp only [List.setIfInBounds_toArray, List.set_cons_zero, List.set_cons_succ]
    refine takeVal 7 18 (.pointer (some ⟨g, j * 130, none⟩)) rfl (by kernel_rfl) (by kernel_rfl) (by kernel_rfl) rfl (by rfl) (fun _ _ _ h => h) hHeld (fun _ hw' => by go_simp) ?_
    simp only [List.setIfInBounds_toArray, List.set_cons_zero, List.set_cons_succ]
    refine takeIt 8 19 (.tmp 18) g (j * 130) (itC z tv x) HIl.out rfl (by kernel_rfl) (by kernel_rfl) (by kernel_rfl) rfl rfl rfl (by rfl) (fun _ _ _ h => h) hHeld (fun _ hw' => HRg.out _ hw') ?_
    simp only [List.setIfInBounds_toArray, List.set_cons_zero, List.set_cons_succ]
    refine step1 9 (by kernel_rfl) ?_
    have hzi := zeroIt
    refine stNew 9 5 (.pointer (some ⟨w.drew.heap.size, 0, none⟩)) (.cells ItZ 109) rfl rfl (by rfl) (by go_simp) ⟨hHeld.tr (Chg.alloc _ _ _), ?_⟩
    have hHeld := hHeld.tr (Chg.alloc w.drew (.cells ItZ 109) No)
    clear hzi
    simp only [List.setIfInBounds_toArray, List.set_cons_zero, List.set_cons_succ]
    refine step1 10 (by kernel_rfl) ?_
    refine stStoreRow 10 rfl rfl (by rfl) 109 _ _ rfl w.drew.heap.size rfl (itC z tv x).toArray rfl ItZ (heap_alloc_new _ _) (by rw [szIt, List.size_toArray, HIl.out]) (by rw [ItZ_size, List.size_toArray, HIl.out]) (all_one HI1.out) ?_
    intro w3 hw3
    have hHeld3 : Chg w w3 No := hHeld.trans (Chg.of_mod hw3.mod) (fun _ _ e => e) (fun j hj e => by have e2 : j = w.heap.size := (by simpa using e); omega)
    refine ⟨hHeld3, ?_⟩
    refine wpAnyH_done (by kernel_rfl) ?_ _
    refine NoPanic.normal ?_
    have HB3 : Hid (w3.heap[w.heap.size]? = some (.cells (itC z tv x).toArray 109 (0, 0))) := hid hw3.here
    have HC3 := hid hHeld3
    clear hHeld hHeld3 hw3
    go_wp2_with fail
    have HI3 := hid (H.out.call HC3.out)
    have HWr := D.rwrite_any x q.1 w3.drew HI3.out.dk.drew HQl.out HI3.out.inv.w0 HWb.out HI3.out.inv.lf
    refine wp_region_noPanic ?_
    refine wp_region_held_drew (S := fun W => W.cell? ⟨r, 0, none⟩ = some (.pointer (some ⟨rd, 0, none⟩)) ∧ W.heap[w.heap.size]? = some (.cells (itC z tv x).toArray 109 (0, 0))) (by kernel_rfl) ⟨HI3.out.c0, HB3.out⟩ (fun hHeld => ?_)
    refine takeVal 0 20 (.pointer (some ⟨r, 0, none⟩)) rfl (by kernel_rfl) (by kernel_rfl) (by kernel_rfl) rfl (by rfl) (fun _ _ _ h => h) hHeld (fun _ hw' => rfl) ?_
    simp only [List.setIfInBounds_toArray, List.set_cons_zero, List.set_cons_succ]
    refine takeVal 1 21 (.pointer (some ⟨r, 0, none⟩)) rfl (by kernel_rfl) (by kernel_rfl) (by kernel_rfl) rfl (by rfl) (fun _ _ _ h => h) hHeld (fun _ hw' => rfl) ?_
    simp only [List.setIfInBounds_toArray, List.set_cons_zero, List.set_cons_succ]
    refine takeVal 2 22 (.pointer (some ⟨r, 0, none⟩)) rfl (by kernel_rfl) (by kernel_rfl) (by kernel_rfl) rfl (by rfl) (fun _ _ _ h => h) hHeld (fun _ hw' => by go_simp) ?_
    simp only [List.setIfInBounds_toArray, List.set_cons_zero, List.set_cons_succ]
    refine takeVal 3 23 (.pointer (some ⟨r, 0, none⟩)) rfl (by kernel_rfl) (by kernel_rfl) (by kernel_rfl) rfl (by rfl) (fun _ _ _ h => h) hHeld (fun _ hw' => by go_simp) ?_
    simp only [List.setIfInBounds_toArray, List.set_cons_zero, List.set_cons_succ]
    refine takeVal 4 24 (.pointer (some ⟨rd, 0, none⟩)) rfl (by kernel_rfl) (by kernel_rfl) (by kernel_rfl) rfl (by rfl) (fun _ _ _ h => h) hHeld (fun _ hw' => by have hc := hw'.1; go_simp) ?_
    simp only [List.setIfInBounds_toArray, List.set_cons_zero, List.set_cons_succ]
    refine takeVal 5 25 (.int .i64 x) rfl (by kernel_rfl) (by kernel_rfl) (by kernel_rfl) rfl (by rfl) (fun _ _ _ h => h) hHeld (fun _ hw' => rfl) ?_
    simp only [List.setIfInBounds_toArray, List.set_cons_zero, List.set_cons_succ]
    refine takeVal 6 26 (.pointer (some ⟨w.heap.size, 1, none⟩)) rfl (by kernel_rfl) (by kernel_rfl) (by kernel_rfl) rfl (by rfl) (fun _ _ _ h => h) hHeld (fun _ hw' => by go_simp) ?_
    simp only [List.setIfInBounds_toArray, List.set_cons_zero, List.set_cons_succ]
    refine D.takeMidS 7 27 (.tmp 26) (w.heap.size) 1 q.1 HQl.out rfl (by kernel_rfl) (by kernel_rfl) (by kernel_rfl) rfl rfl rfl (by rfl) (fun _ _ _ h => h) hHeld (fun _ hw' => row_secK hw'.2 HQi.out HQl.out) ?_
    simp only [List.setIfInBounds_toArray, List.set_cons_zero, List.set_cons_succ]
    rw [HE.out] at HWr
    refine step1 8 (by kernel_rfl) ?_
    refine stCall 8 28 17 #[.pointer (some ⟨rd, 0, none⟩), .int .i64 x, .agg (D.SA q.1)] _ rfl rfl (by rfl) (by go_simp) HWr ?_
    rintro e w4 ⟨rfl, hq4, hm4⟩
    have hc4 : Chg w3.drew w4 (fun k => k = rd ∨ k = rk) := (Chg.of_mod hm4).mono (fun k _ e => by simpa using e)
    have hI4 := HI3.out.down hq4 ((Chg.refl w3 No).drew.trans hc4 (c := fun k => k = rd ∨ k = rk) (fun _ _ e => e.elim) (fun _ _ e => e)) HWn.out HLf.out
    have hb4 : w4.heap[w.heap.size]? = some (.cells (itC z tv x).toArray 109 (0, 0)) := hc4.keep HB3.out HNd.out
    have hHeld : w4.cell? ⟨r, 0, none⟩ = some (.pointer (some ⟨rd, 0, none⟩)) ∧ w4.heap[w.heap.size]? = some (.cells (itC z tv x).toArray 109 (0, 0)) := ⟨hI4.c0, hb4⟩
    refine ⟨_, rfl, hHeld, ?_⟩
    simp only [List.setIfInBounds_toArray, List.set_cons_zero, List.set_cons_succ]
    have HHe := rheard_any 22 w4 ⟨rk, rc, X, v0, v1, lv, tv, W, hI4⟩
    refine step1 9 (by kernel_rfl) ?_
    refine stCall 9 29 103 #[.pointer (some ⟨r, 0, none⟩), .int .i64 22] _ rfl rfl (by rfl) (by go_simp) HHe ?_
    rintro e w5 ⟨rfl, hI5, hc5⟩
    have hc03 : Chg w w4 (fun k => k = rd ∨ k = rk) := HC3.out.trans ((Chg.refl w3 No).drew.trans hc4 (c := fun k => k = rd ∨ k = rk) (fun _ _ e => e.elim) (fun _ _ e => e)) (fun _ _ e => e.elim) (fun _ _ e => e)
    have hc05 : Chg w w5 (OwnR ρ) := hc03.trans hc5 (fun _ _ e => e.elim (fun e => by rw [e]; exact ⟨_, H.out.rd_⟩) (fun e => by rw [e]; exact ⟨_, H.out.rs⟩)) (fun k _ e => by rw [show k = r from e]; exact ⟨_, H.out.rm⟩)
    have hHeld2 : w5.cell? ⟨r, 0, none⟩ = some (.pointer (some ⟨rd, 0, none⟩)) ∧ w5.heap[w.heap.size]? = some (.cells (itC z tv x).toArray 109 (0, 0)) := ⟨by obtain ⟨_, _, _, _, _, _, _, _, h9⟩ := hI5; exact h9.c0, hc5.keep hb4 HNr.out⟩
    clear hHeld
    have hHeld := hHeld2
    clear hHeld2
    refine ⟨_, rfl, hHeld, ?_⟩
    simp only [List.setIfInBounds_toArray, List.set_cons_zero, List.set_cons_succ]
    refine takeVal 10 6 (.int .i64 22) rfl (by kernel_rfl) (by kernel_rfl) (by kernel_rfl) rfl (by rfl) (fun _ _ _ h => h) hHeld (fun _ hw' => rfl) ?_
    simp only [List.setIfInBounds_toArray, List.set_cons_zero, List.set_cons_succ]
    refine wpAnyH_done (by kernel_rfl) ?_ _
    refine NoPanic.normal ?_
    clear hHeld
    go_wp2_with fail
    go_ret
    rw [HA.out]
    exact ⟨rfl, ρ, hI5, fun _ k => .inl k, hc05⟩
  ·
    have hzi := zeroIt
    refine stNew 9 5 (.pointer (some ⟨w.drew.heap.size, 0, none⟩)) (.cells ItZ 109) rfl rfl (by rfl) (by go_simp) ⟨hHeld.tr (Chg.alloc _ _ _), ?_⟩
    have hHeld := hHeld.tr (Chg.alloc w.drew (.cells ItZ 109) No)
    clear hzi
    simp only [List.setIfInBounds_toArray, List.set_cons_zero, List.set_cons_succ]
    refine step1 6 (by kernel_rfl) ?_
    refine stCall 6 17 74 #[.pointer (some ⟨r, 0, none⟩), .int .i64 x] _ rfl rfl (by rfl) (by go_simp) (HPl.out _ hHeld) ?_
    rintro e9 w' ⟨rfl, hw⟩
    subst hw
    refine ⟨_, rfl, hHeld, ?_⟩
    simp only [List.setIfInBounds_toArray, List.set_cons_zero, List.set_cons_succ]
    refine takeVal 7 18 (.pointer (some ⟨g, j * 130, none⟩)) rfl (by kernel_rfl) (by kernel_rfl) (by kernel_rfl) rfl (by rfl) (fun _ _ _ h => h) hHeld (fun _ hw' => by go_simp) ?_
    simp only [List.setIfInBounds_toArray, List.set_cons_zero, List.set_cons_succ]
    refine takeIt 8 19 (.tmp 18) g (j * 130) (itC z tv x) HIl.out rfl (by kernel_rfl) (by kernel_rfl) (by kernel_rfl) rfl rfl rfl (by rfl) (fun _ _ _ h => h) hHeld (fun _ hw' => HRg.out _ hw') ?_
    simp only [List.setIfInBounds_toArray, List.set_cons_zero, List.set_cons_succ]
    refine step1 10 (by kernel_rfl) ?_
    refine stStoreRow 10 rfl rfl (by rfl) 109 _ _ rfl w.drew.heap.size rfl (itC z tv x).toArray rfl ItZ (heap_alloc_new _ _) (by rw [szIt, List.size_toArray, HIl.out]) (by rw [ItZ_size, List.size_toArray, HIl.out]) (all_one HI1.out) ?_
    intro w3 hw3
    have hHeld3 : Chg w w3 No := hHeld.trans (Chg.of_mod hw3.mod) (fun _ _ e => e) (fun j hj e => by have e2 : j = w.heap.size := (by simpa using e); omega)
    refine ⟨hHeld3, ?_⟩
    refine wpAnyH_done (by kernel_rfl) ?_ _
    refine NoPanic.normal ?_
    have HB3 : Hid (w3.heap[w.heap.size]? = some (.cells (itC z tv x).toArray 109 (0, 0))) := hid hw3.here
    have HC3 := hid hHeld3
    clear hHeld hHeld3 hw3
    go_wp2_with fail
    have HI3 := hid (H.out.call HC3.out)
    have HWr := D.rwrite_any x q.1 w3.drew HI3.out.dk.drew HQl.out HI3.out.inv.w0 HWb.out HI3.out.inv.lf
    refine wp_region_noPanic ?_
    refine wp_region_held_drew (S := fun W => W.cell? ⟨r, 0, none⟩ = some (.pointer (some ⟨rd, 0, none⟩)) ∧ W.heap[w.heap.size]? = some (.cells (itC z tv x).toArray 109 (0, 0))) (by kernel_rfl) ⟨HI3.out.c0, HB3.out⟩ (fun hHeld => ?_)
    refine takeVal 0 20 (.pointer (some ⟨r, 0, none⟩)) rfl (by kernel_rfl) (by kernel_rfl) (by kernel_rfl) rfl (by rfl) (fun _ _ _ h => h) hHeld (fun _ hw' => rfl) ?_
    simp only [List.setIfInBounds_toArray, List.set_cons_zero, List.set_cons_succ]
    refine takeVal 1 21 (.pointer (some ⟨r, 0, none⟩)) rfl (by kernel_rfl) (by kernel_rfl) (by kernel_rfl) rfl (by rfl) (fun _ _ _ h => h) hHeld (fun _ hw' => rfl) ?_
    simp only [List.setIfInBounds_toArray, List.set_cons_zero, List.set_cons_succ]
    refine takeVal 2 22 (.pointer (some ⟨r, 0, none⟩)) rfl (by kernel_rfl) (by kernel_rfl) (by kernel_rfl) rfl (by rfl) (fun _ _ _ h => h) hHeld (fun _ hw' => by go_simp) ?_
    simp only [List.setIfInBounds_toArray, List.set_cons_zero, List.set_cons_succ]
    refine takeVal 3 23 (.pointer (some ⟨r, 0, none⟩)) rfl (by kernel_rfl) (by kernel_rfl) (by kernel_rfl) rfl (by rfl) (fun _ _ _ h => h) hHeld (fun _ hw' => by go_simp) ?_
    simp only [List.setIfInBounds_toArray, List.set_cons_zero, List.set_cons_succ]
    refine takeVal 4 24 (.pointer (some ⟨rd, 0, none⟩)) rfl (by kernel_rfl) (by kernel_rfl) (by kernel_rfl) rfl (by rfl) (fun _ _ _ h => h) hHeld (fun _ hw' => by have hc := hw'.1; go_simp) ?_
    simp only [List.setIfInBounds_toArray, List.set_cons_zero, List.set_cons_succ]
    refine takeVal 5 25 (.int .i64 x) rfl (by kernel_rfl) (by kernel_rfl) (by kernel_rfl) rfl (by rfl) (fun _ _ _ h => h) hHeld (fun _ hw' => rfl) ?_
    simp only [List.setIfInBounds_toArray, List.set_cons_zero, List.set_cons_succ]
    refine takeVal 6 26 (.pointer (some ⟨w.heap.size, 1, none⟩)) rfl (by kernel_rfl) (by kernel_rfl) (by kernel_rfl) rfl (by rfl) (fun _ _ _ h => h) hHeld (fun _ hw' => by go_simp) ?_
    simp only [List.setIfInBounds_toArray, List.set_cons_zero, List.set_cons_succ]
    refine D.takeMidS 7 27 (.tmp 26) (w.heap.size) 1 q.1 HQl.out rfl (by kernel_rfl) (by kernel_rfl) (by kernel_rfl) rfl rfl rfl (by rfl) (fun _ _ _ h => h) hHeld (fun _ hw' => row_secK hw'.2 HQi.out HQl.out) ?_
    simp only [List.setIfInBounds_toArray, List.set_cons_zero, List.set_cons_succ]
    rw [HE.out] at HWr
    refine step1 8 (by kernel_rfl) ?_
    refine stCall 8 28 17 #[.pointer (some ⟨rd, 0, none⟩), .int .i64 x, .agg (D.SA q.1)] _ rfl rfl (by rfl) (by go_simp) HWr ?_
    rintro e w4 ⟨rfl, hq4, hm4⟩
    have hc4 : Chg w3.drew w4 (fun k => k = rd ∨ k = rk) := (Chg.of_mod hm4).mono (fun k _ e => by simpa using e)
    have hI4 := HI3.out.down hq4 ((Chg.refl w3 No).drew.trans hc4 (c := fun k => k = rd ∨ k = rk) (fun _ _ e => e.elim) (fun _ _ e => e)) HWn.out HLf.out
    have hb4 : w4.heap[w.heap.size]? = some (.cells (itC z tv x).toArray 109 (0, 0)) := hc4.keep HB3.out HNd.out
    have hHeld : w4.cell? ⟨r, 0, none⟩ = some (.pointer (some ⟨rd, 0, none⟩)) ∧ w4.heap[w.heap.size]? = some (.cells (itC z tv x).toArray 109 (0, 0)) := ⟨hI4.c0, hb4⟩
    refine ⟨_, rfl, hHeld, ?_⟩
    simp only [List.setIfInBounds_toArray, List.set_cons_zero, List.set_cons_succ]
    have HHe := rheard_any 22 w4 ⟨rk, rc, X, v0, v1, lv, tv, W, hI4⟩
    refine step1 9 (by kernel_rfl) ?_
    refine stCall 9 29 103 #[.pointer (some ⟨r, 0, none⟩), .int .i64 22] _ rfl rfl (by rfl) (by go_simp) HHe ?_
    rintro e w5 ⟨rfl, hI5, hc5⟩
    have hc03 : Chg w w4 (fun k => k = rd ∨ k = rk) := HC3.out.trans ((Chg.refl w3 No).drew.trans hc4 (c := fun k => k = rd ∨ k = rk) (fun _ _ e => e.elim) (fun _ _ e => e)) (fun _ _ e => e.elim) (fun _ _ e => e)
    have hc05 : Chg w w5 (OwnR ρ) := hc03.trans hc5 (fun _ _ e => e.elim (fun e => by rw [e]; exact ⟨_, H.out.rd_⟩) (fun e => by rw [e]; exact ⟨_, H.out.rs⟩)) (fun k _ e => by rw [show k = r from e]; exact ⟨_, H.out.rm⟩)
    have hHeld2 : w5.cell? ⟨r, 0, none⟩ = some (.pointer (some ⟨rd, 0, none⟩)) ∧ w5.heap[w.heap.size]? = some (.cells (itC z tv x).toArray 109 (0, 0)) := ⟨by obtain ⟨_, _, _, _, _, _, _, _, h9⟩ := hI5; exact h9.c0, hc5.keep hb4 HNr.out⟩
    clear hHeld
    have hHeld := hHeld2
    clear hHeld2
    refine ⟨_, rfl, hHeld, ?_⟩
    simp only [List.setIfInBounds_toArray, List.set_cons_zero, List.set_cons_succ]
    refine takeVal 10 6 (.int .i64 22) rfl (by kernel_rfl) (by kernel_rfl) (by kernel_rfl) rfl (by rfl) (fun _ _ _ h => h) hHeld (fun _ hw' => rfl) ?_
    simp only [List.setIfInBounds_toArray, List.set_cons_zero, List.set_cons_succ]
    refine wpAnyH_done (by kernel_rfl) ?_ _
    refine NoPanic.normal ?_
    clear hHeld
    go_wp2_with fail
    go_ret
    rw [HA.out]
    exact ⟨rfl, ρ, hI5, fun _ k => .inl k, hc05⟩
set_option maxHeartbeats 8000000 in
set_option maxRecDepth 100000 in
theorem rwrite_done (x : Int) (q : List Int × List Int) (w : World) (h : IsRC w r rd n ρ z) (hq : z.P x = some q) (hlo : z.lost = false) (ht : TB z) (hw : z.d.wr < 4611686018427387904) (he : D.writeE z.d n x = 0) :
    Calls Tryz.prog 76 #[.pointer (some ⟨r, 0, none⟩), .int .i64 x] w fun e w' => e = .returned (.int .i64 (wrC n z x).2) ∧ RPost w w' r rd n ρ (wrC n z x).1 := by
  have hdx : z.dirty x := by unfold CSt.dirty; rw [hq]; rfl
  have hsec := h.inv.sec hdx
  obtain ⟨j, hj, hpl⟩ := flat_secs h.inv hdx
  have HPl : Hid (∀ W', Chg w W' No → Calls Tryz.prog 74 #[.pointer (some ⟨r, 0, none⟩), .int .i64 x] W' fun e w' => e = .returned (.int .i64 (j : Int)) ∧ w' = W') := hid (fun W' hW => by
    have := rplace_any x W' (h.call hW)
    rw [hpl] at this
    exact this)
  obtain ⟨rk, rc, X, v0, v1, lv, tv, W, h⟩ := h
  have H := hid h
  have HP := hid hq
  have HDx := hid hdx
  have HE := hid he
  obtain ⟨g, cp, hv, _, _, hcs⟩ := h.item hj
  have HK1 : Hid (∀ W', Chg w W' No → W'.cell? ⟨r, 1, none⟩ = some (.slice (some ⟨g, 0, none⟩) (secs z.dirty).length cp)) := hid (fun W' hW => by
    have := (h.call hW).c1
    rw [hv] at this
    exact this)
  have HRg : Hid (∀ W', Chg w W' No → W'.rangeAt g (j * 130) (itC z tv x)) := hid (fun W' hW => by
    obtain ⟨g2, cp2, hv2, _, _, hcs2⟩ := (h.call hW).item hj
    rw [hv] at hv2
    cases hv2
    exact item_range hcs2 (itC_len h.inv x))
  have HIl := hid (itC_len (tv := tv) h.inv x)
  have HI1 := hid (itC_one z tv x (ints_one (h.tg x q hq)))
  have HQi := hid (itC_is (tv := tv) hq)
  have HQl := hid (h.inv.ln x q hq)
  have HWb := hid hw
  have hwr := writeD_wr z.d n x q.1
  have h00 := h.inv.w0
  have HWn : Hid (0 ≤ (D.writeD z.d n x q.1).wr) := hid (by omega)
  have HLf := hid (writeD_lf z.d n x q.1 h.inv.lf)
  have hlr := h.lt _ _ h.rm
  have hld := h.lt _ _ h.rd_
  have hlk := h.lt _ _ h.rs
  have HNd : Hid (¬ (w.heap.size = rd ∨ w.heap.size = rk)) := hid (by omega)
  have HNr : Hid (¬ w.heap.size = r) := hid (by omega)
  have HTB : Hid (z.ld.length + q.2.length ≤ 17592186044000) := hid (by
    have := tsum_le z.P x hsec
    rw [hq] at this
    simp only [tl] at this
    unfold TB at ht
    omega)
  have HA := hid (wrC_done hlo hq he)
  have hjl := (List.getElem?_eq_some_iff.1 hj).1
  have h4 := secs_len z.dirty
  have hj0 : (0 : Int) ≤ (j : Int) := by omega
  have hj1 : (j : Int) < ((secs z.dirty).length : Int) := by omega
  have q4 := h.c4
  rw [hlo] at q4
  generalize hmm : (secs z.dirty).length = m at *
  have hm4 : (m : Int) ≤ 4096 := by omega
  clear h hq hlo he hj hpl hdx hsec hv hcs hwr h00 hlr hld hlk ht hw hmm
  go_enter Tryz.func76, Tryz.ntmps76
  go_wp2_with fail
  refine wp_region_noPanic ?_
  refine wp_region_held_drew (S := fun W => Chg w W No) (by kernel_rfl) (Chg.refl w No).drew (fun hHeld => ?_)
  refine takeVal 0 11 (.pointer (some ⟨r, 0, none⟩)) rfl (by kernel_rfl) (by kernel_rfl) (by kernel_rfl) rfl (by rfl) (fun _ _ _ h => h) hHeld (fun _ hw' => rfl) ?_
  simp only [List.setIfInBounds_toArray, List.set_cons_zero, List.set_cons_succ]
  refine takeVal 1 12 (.pointer (some ⟨r, 0, none⟩)) rfl (by kernel_rfl) (by kernel_rfl) (by kernel_rfl) rfl (by rfl) (fun _ _ _ h => h) hHeld (fun _ hw' => by go_simp) ?_
  simp only [List.setIfInBounds_toArray, List.set_cons_zero, List.set_cons_succ]
  refine takeVal 2 13 (.pointer (some ⟨r, 1, none⟩)) rfl (by kernel_rfl) (by kernel_rfl) (by kernel_rfl) rfl (by rfl) (fun _ _ _ h => h) hHeld (fun _ hw' => by go_simp) ?_
  simp only [List.setIfInBounds_toArray, List.set_cons_zero, List.set_cons_succ]
  refine takeVal 3 14 (.slice (some ⟨g, 0, none⟩) m cp) rfl (by kernel_rfl) (by kernel_rfl) (by kernel_rfl) rfl (by rfl) (fun _ _ _ h => h) hHeld (fun _ hw' => by have hc := HK1.out _ hw'; go_simp) ?_
  simp only [List.setIfInBounds_toArray, List.set_cons_zero, List.set_cons_succ]
  refine takeVal 4 15 (.pointer (some ⟨r, 0, none⟩)) rfl (by kernel_rfl) (by kernel_rfl) (by kernel_rfl) rfl (by rfl) (fun _ _ _ h => h) hHeld (fun _ hw' => rfl) ?_
  simp only [List.setIfInBounds_toArray, List.set_cons_zero, List.set_cons_succ]
  refine takeVal 5 16 (.int .i64 x) rfl (by kernel_rfl) (by kernel_rfl) (by kernel_rfl) rfl (by rfl) (fun _ _ _ h => h) hHeld (fun _ hw' => rfl) ?_
  simp only [List.setIfInBounds_toArray, List.set_cons_zero, List.set_cons_succ]
  refine step2 6 9 (by kernel_rfl) ?_ ?_
  ·
    refine stCall 6 17 74 #[.pointer (some ⟨r, 0, none⟩), .int .i64 x] _ rfl rfl (by rfl) (by go_simp) (HPl.out _ hHeld) ?_
    rintro e9 w' ⟨rfl, hw⟩
    subst hw
    refine ⟨_, rfl, hHeld, ?_⟩
    simp only [List.setIfInBounds_toArray, List.set_cons_zero, List.set_cons_succ]
    refine takeVal 7 18 (.pointer (some ⟨g, j * 130, none⟩)) rfl (by kernel_rfl) (by kernel_rfl) (by kernel_rfl) rfl (by rfl) (fun _ _ _ h => h) hHeld (fun _ hw' => by go_simp) ?_
    simp only [List.setIfInBounds_toArray, List.set_cons_zero, List.set_cons_succ]
    refine takeIt 8 19 (.tmp 18) g (j * 130) (itC z tv x) HIl.out rfl (by kernel_rfl) (by kernel_rfl) (by kernel_rfl) rfl rfl rfl (by rfl) (fun _ _ _ h => h) hHeld (fun _ hw' => HRg.out _ hw') ?_
    simp only [List.setIfInBounds_toArray, List.set_cons_zero, List.set_cons_succ]
    refine step1 9 (by kernel_rfl) ?_
    have hzi := zeroIt
    refine stNew 9 5 (.pointer (some ⟨w.drew.heap.size, 0, none⟩)) (.cells ItZ 109) rfl rfl (by rfl) (by go_simp) ⟨hHeld.tr (Chg.alloc _ _ _), ?_⟩
    have hHeld := hHeld.tr (Chg.alloc w.drew (.cells ItZ 109) No)
    clear hzi
    simp only [List.setIfInBounds_toArray, List.set_cons_zero, List.set_cons_succ]
    refine step1 10 (by kernel_rfl) ?_
    refine stStoreRow 10 rfl rfl (by rfl) 109 _ _ rfl w.drew.heap.size rfl (itC z tv x).toArray rfl ItZ (heap_alloc_new _ _) (by rw [szIt, List.size_toArray, HIl.out]) (by rw [ItZ_size, List.size_toArray, HIl.out]) (all_one HI1.out) ?_
    intro w3 hw3
    have hHeld3 : Chg w w3 No := hHeld.trans (Chg.of_mod hw3.mod) (fun _ _ e => e) (fun j hj e => by have e2 : j = w.heap.size := (by simpa using e); omega)
    refine ⟨hHeld3, ?_⟩
    refine wpAnyH_done (by kernel_rfl) ?_ _
    refine NoPanic.normal ?_
    have HB3 : Hid (w3.heap[w.heap.size]? = some (.cells (itC z tv x).toArray 109 (0, 0))) := hid hw3.here
    have HC3 := hid hHeld3
    clear hHeld hHeld3 hw3
    go_wp2_with fail
    have HI3 := hid (H.out.call HC3.out)
    have HWr := D.rwrite_any x q.1 w3.drew HI3.out.dk.drew HQl.out HI3.out.inv.w0 HWb.out HI3.out.inv.lf
    refine wp_region_noPanic ?_
    refine wp_region_held_drew (S := fun W => W.cell? ⟨r, 0, none⟩ = some (.pointer (some ⟨rd, 0, none⟩)) ∧ W.heap[w.heap.size]? = some (.cells (itC z tv x).toArray 109 (0, 0))) (by kernel_rfl) ⟨HI3.out.c0, HB3.out⟩ (fun hHeld => ?_)
    refine takeVal 0 20 (.pointer (some ⟨r, 0, none⟩)) rfl (by kernel_rfl) (by kernel_rfl) (by kernel_rfl) rfl (by rfl) (fun _ _ _ h => h) hHeld (fun _ hw' => rfl) ?_
    simp only [List.setIfInBounds_toArray, List.set_cons_zero, List.set_cons_succ]
    refine takeVal 1 21 (.pointer (some ⟨r, 0, none⟩)) rfl (by kernel_rfl) (by kernel_rfl) (by kernel_rfl) rfl (by rfl) (fun _ _ _ h => h) hHeld (fun _ hw' => rfl) ?_
    simp only [List.setIfInBounds_toArray, List.set_cons_zero, List.set_cons_succ]
    refine takeVal 2 22 (.pointer (some ⟨r, 0, none⟩)) rfl (by kernel_rfl) (by kernel_rfl) (by kernel_rfl) rfl (by rfl) (fun _ _ _ h => h) hHeld (fun _ hw' => by go_simp) ?_
    simp only [List.setIfInBounds_toArray, List.set_cons_zero, List.set_cons_succ]
    refine takeVal 3 23 (.pointer (some ⟨r, 0, none⟩)) rfl (by kernel_rfl) (by kernel_rfl) (by kernel_rfl) rfl (by rfl) (fun _ _ _ h => h) hHeld (fun _ hw' => by go_simp) ?_
    simp only [List.setIfInBounds_toArray, List.set_cons_zero, List.set_cons_succ]
    refine takeVal 4 24 (.pointer (some ⟨rd, 0, none⟩)) rfl (by kernel_rfl) (by kernel_rfl) (by kernel_rfl) rfl (by rfl) (fun _ _ _ h => h) hHeld (fun _ hw' => by have hc := hw'.1; go_simp) ?_
    simp only [List.setIfInBounds_toArray, List.set_cons_zero, List.set_cons_succ]
    refine takeVal 5 25 (.int .i64 x) rfl (by kernel_rfl) (by kernel_rfl) (by kernel_rfl) rfl (by rfl) (fun _ _ _ h => h) hHeld (fun _ hw' => rfl) ?_
    simp only [List.setIfInBounds_toArray, List.set_cons_zero, List.set_cons_succ]
    refine takeVal 6 26 (.pointer (some ⟨w.heap.size, 1, none⟩)) rfl (by kernel_rfl) (by kernel_rfl) (by kernel_rfl) rfl (by rfl) (fun _ _ _ h => h) hHeld (fun _ hw' => by go_simp) ?_
    simp only [List.setIfInBounds_toArray, List.set_cons_zero, List.set_cons_succ]
    refine D.takeMidS 7 27 (.tmp 26) (w.heap.size) 1 q.1 HQl.out rfl (by kernel_rfl) (by kernel_rfl) (by kernel_rfl) rfl rfl rfl (by rfl) (fun _ _ _ h => h) hHeld (fun _ hw' => row_secK hw'.2 HQi.out HQl.out) ?_
    simp only [List.setIfInBounds_toArray, List.set_cons_zero, List.set_cons_succ]
    rw [HE.out] at HWr
    refine step1 8 (by kernel_rfl) ?_
    refine stCall 8 28 17 #[.pointer (some ⟨rd, 0, none⟩), .int .i64 x, .agg (D.SA q.1)] _ rfl rfl (by rfl) (by go_simp) HWr ?_
    rintro e w4 ⟨rfl, hq4, hm4⟩
    have hc4 : Chg w3.drew w4 (fun k => k = rd ∨ k = rk) := (Chg.of_mod hm4).mono (fun k _ e => by simpa using e)
    have hI4 := HI3.out.down hq4 ((Chg.refl w3 No).drew.trans hc4 (c := fun k => k = rd ∨ k = rk) (fun _ _ e => e.elim) (fun _ _ e => e)) HWn.out HLf.out
    have hb4 : w4.heap[w.heap.size]? = some (.cells (itC z tv x).toArray 109 (0, 0)) := hc4.keep HB3.out HNd.out
    have hHeld : w4.cell? ⟨r, 0, none⟩ = some (.pointer (some ⟨rd, 0, none⟩)) ∧ w4.heap[w.heap.size]? = some (.cells (itC z tv x).toArray 109 (0, 0)) := ⟨hI4.c0, hb4⟩
    refine ⟨_, rfl, hHeld, ?_⟩
    simp only [List.setIfInBounds_toArray, List.set_cons_zero, List.set_cons_succ]
    have HHe := rheard_quiet (r := r) 0 (by decide) w4
    refine step1 9 (by kernel_rfl) ?_
    refine stCall 9 29 103 #[.pointer (some ⟨r, 0, none⟩), .int .i64 0] _ rfl rfl (by rfl) (by go_simp) HHe ?_
    rintro e w5 ⟨rfl, hw5⟩
    subst hw5
    refine ⟨_, rfl, hHeld, ?_⟩
    simp only [List.setIfInBounds_toArray, List.set_cons_zero, List.set_cons_succ]
    refine takeVal 10 6 (.int .i64 0) rfl (by kernel_rfl) (by kernel_rfl) (by kernel_rfl) rfl (by rfl) (fun _ _ _ h => h) hHeld (fun _ hw' => rfl) ?_
    simp only [List.setIfInBounds_toArray, List.set_cons_zero, List.set_cons_succ]
    refine wpAnyH_done (by kernel_rfl) ?_ _
    refine NoPanic.normal ?_
    have hc03 : Chg w w5 (fun k => k = rd ∨ k = rk) := HC3.out.trans ((Chg.refl w3 No).drew.trans hc4 (c := fun k => k = rd ∨ k = rk) (fun _ _ e => e.elim) (fun _ _ e => e)) (fun _ _ e => e.elim) (fun _ _ e => e)
    obtain ⟨ta, tc, htv, hta, _⟩ := (H.out.tg x q HP.out).lat
    obtain ⟨la, lc, hlv, _, _⟩ := H.out.ld.lat
    subst hlv
    have htg := H.out.tg x q HP.out
    rw [htv] at htg
    have HTA : Hid (LAt w5.drew ta q.2) := by
      have := hta.keep hc03 (fun k hk => ?_)
      · exact this.call (Chg.refl w5 No).drew
      · have hb := htg.nilcap.2 _ hk
        have hr := H.out.rt x k HDx.out (by rw [htv]; exact hb.2)
        rintro (rfl | rfl)
        · rw [H.out.rd_] at hr; cases hr
        · rw [H.out.rs] at hr; cases hr
    have HTN := hid htg.nilcap.1
    have HI4 := hid (hI4.call (Chg.refl w5 No).drew)
    have HB4 := hid hb4
    have HLr : Hid (¬ (Value.slice la z.ld.length lc).ownBlock = some r) := hid (fun e => by have := H.out.rl _ e; rw [H.out.rm] at this; cases this)
    have HLb : Hid (¬ (Value.slice la z.ld.length lc).ownBlock = some w.heap.size) := hid (fun e => by have := H.out.lt _ _ (H.out.rl _ e); omega)
    have HTg : Hid ((itC z tv x)[129]? = some (.slice ta q.2.length tc)) := hid (by rw [HQi.out, htv]; simp [HQl.out])
    have HC03 := hid hc03
    clear hHeld hI4 hb4 hc03 htg htv hta hc4 hm4 hq4 HHe
    go_wp2_with fail
    refine wp_region_noPanic ?_
    refine wp_region_held_drew (S := fun W => W.heap[w.heap.size]? = some (.cells (itC z tv x).toArray 109 (0, 0))) (by kernel_rfl) HB4.out (fun hHeld => ?_)
    refine takeVal 0 33 (.pointer (some ⟨r, 0, none⟩)) rfl (by kernel_rfl) (by kernel_rfl) (by kernel_rfl) rfl (by rfl) (fun _ _ _ h => h) hHeld (fun _ hw' => rfl) ?_
    simp only [List.setIfInBounds_toArray, List.set_cons_zero, List.set_cons_succ]
    refine takeVal 1 34 (.pointer (some ⟨r, 0, none⟩)) rfl (by kernel_rfl) (by kernel_rfl) (by kernel_rfl) rfl (by rfl) (fun _ _ _ h => h) hHeld (fun _ hw' => rfl) ?_
    simp only [List.setIfInBounds_toArray, List.set_cons_zero, List.set_cons_succ]
    refine takeVal 2 35 (.pointer (some ⟨r, 0, none⟩)) rfl (by kernel_rfl) (by kernel_rfl) (by kernel_rfl) rfl (by rfl) (fun _ _ _ h => h) hHeld (fun _ hw' => by go_simp) ?_
    simp only [List.setIfInBounds_toArray, List.set_cons_zero, List.set_cons_succ]
    refine takeVal 3 36 (.pointer (some ⟨r, 3, none⟩)) rfl (by kernel_rfl) (by kernel_rfl) (by kernel_rfl) rfl (by rfl) (fun _ _ _ h => h) hHeld (fun _ hw' => by go_simp) ?_
    simp only [List.setIfInBounds_toArray, List.set_cons_zero, List.set_cons_succ]
    refine takeVal 5 38 (.pointer (some ⟨w.heap.size, 129, none⟩)) rfl (by kernel_rfl) (by kernel_rfl) (by kernel_rfl) rfl (by rfl) (fun _ _ _ h => h) hHeld (fun _ hw' => by go_simp) ?_
    simp only [List.setIfInBounds_toArray, List.set_cons_zero, List.set_cons_succ]
    refine takeVal 6 39 (.slice ta q.2.length tc) rfl (by kernel_rfl) (by kernel_rfl) (by kernel_rfl) rfl (by rfl) (fun _ _ _ h => h) hHeld (fun _ hw' => by have hc := (cell_of_row _ _ 129 _ _ _ hw').trans ((List.getElem?_toArray ..).trans HTg.out); go_simp) ?_
    simp only [List.setIfInBounds_toArray, List.set_cons_zero, List.set_cons_succ]
    refine step1 4 (by kernel_rfl) ?_
    refine stVal 4 37 (.slice la z.ld.length lc) rfl rfl (by rfl) (by have hc := HI4.out.c3; go_simp) hHeld ?_
    simp only [List.setIfInBounds_toArray, List.set_cons_zero, List.set_cons_succ]
    refine step1 7 (by kernel_rfl) ?_
    refine stAppL 7 40 rfl rfl (by rfl) _ _ rfl 0 (.slice la z.ld.length lc) z.ld q.2 ta tc rfl rfl HI4.out.ld HTA.out HTN.out (by have := HTB.out; omega) (Nat.zero_le _) ?_
    intro v6 w6 h6 hc6 ho6
    have hHeld6 : w6.heap[w.heap.size]? = some (.cells (itC z tv x).toArray 109 (0, 0)) := hc6.keep hHeld HLb.out
    clear hHeld
    have hHeld := hHeld6
    clear hHeld6
    refine ⟨hHeld, ?_⟩
    simp only [List.setIfInBounds_toArray, List.set_cons_zero, List.set_cons_succ]
    refine takeVal 8 41 (.pointer (some ⟨r, 0, none⟩)) rfl (by kernel_rfl) (by kernel_rfl) (by kernel_rfl) rfl (by rfl) (fun _ _ _ h => h) hHeld (fun _ hw' => by go_simp) ?_
    simp only [List.setIfInBounds_toArray, List.set_cons_zero, List.set_cons_succ]
    refine takeVal 9 42 (.pointer (some ⟨r, 3, none⟩)) rfl (by kernel_rfl) (by kernel_rfl) (by kernel_rfl) rfl (by rfl) (fun _ _ _ h => h) hHeld (fun _ hw' => by go_simp) ?_
    simp only [List.setIfInBounds_toArray, List.set_cons_zero, List.set_cons_succ]
    have hme6 := hc6.keep HI4.out.me HLr.out
    have fc3 := frozen_of_row w6 r 3 _ _ hme6
    have kc3 : w6.cell? ⟨r, 3, none⟩ = some (.slice la z.ld.length lc) := (by rw [cell_of_row _ _ _ _ _ _ hme6]; rfl)
    refine step1 10 (by kernel_rfl) ?_
    refine stCell 10 (w6.setCell ⟨r, 3, none⟩ v6) rfl rfl (by rfl) (by obtain ⟨va, vc, hv6, _, _⟩ := h6.lat; rw [hv6]; clear hv6; go_simp) ?_
    refine ⟨(heap_setCell_other w6 ⟨r, 3, none⟩ w.heap.size _ HNr.out).trans hHeld, ?_⟩
    refine wpAnyH_done (by kernel_rfl) ?_ _
    refine NoPanic.normal ?_
    obtain ⟨ρ1, hI7, ho7, hg7⟩ := HI4.out.tagged hc6 h6 ho6
    have HF := rforget_any x _ hI7
    have H7 := hid (And.intro ho7 hg7)
    clear hI7 ho7 hg7 h6 hc6 ho6 hHeld hme6 fc3 kc3
    generalize hw7 : w6.setCell ⟨r, 3, none⟩ v6 = w7 at *
    clear hw7
    go_wp2_with (first
      | (go_at_call 80; go_must (refine HF.mono ?_; rintro e w8 ⟨rfl, hP8⟩; have HP8 := hid hP8; clear hP8))
      | fail)
    go_ret
    rw [HA.out]
    refine ⟨rfl, RPost.pre ?_ (RPost.and H7.out.1 H7.out.2 HP8.out)⟩
    exact (HC03.out.trans (Chg.refl w5 No).drew (c := fun k => k = rd ∨ k = rk) (fun _ _ e => e) (fun _ _ e => e.elim)).mono fun k _ e => e.elim (fun e => by rw [e]; exact ⟨_, H.out.rd_⟩) (fun e => by rw [e]; exact ⟨_, H.out.rs⟩)
  ·
    have hzi := zeroIt
    refine stNew 9 5 (.pointer (some ⟨w.drew.heap.size, 0, none⟩)) (.cells ItZ 109) rfl rfl (by rfl) (by go_simp) ⟨hHeld.tr (Chg.alloc _ _ _), ?_⟩
    have hHeld := hHeld.tr (Chg.alloc w.drew (.cells ItZ 109) No)
    clear hzi
    simp only [List.setIfInBounds_toArray, List.set_cons_zero, List.set_cons_succ]
    refine step1 6 (by kernel_rfl) ?_
    refine stCall 6 17 74 #[.pointer (some ⟨r, 0, none⟩), .int .i64 x] _ rfl rfl (by rfl) (by go_simp) (HPl.out _ hHeld) ?_
    rintro e9 w' ⟨rfl, hw⟩
    subst hw
    refine ⟨_, rfl, hHeld, ?_⟩
    simp only [List.setIfInBounds_toArray, List.set_cons_zero, List.set_cons_succ]
    refine takeVal 7 18 (.pointer (some ⟨g, j * 130, none⟩)) rfl (by kernel_rfl) (by kernel_rfl) (by kernel_rfl) rfl (by rfl) (fun _ _ _ h => h) hHeld (fun _ hw' => by go_simp) ?_
    simp only [List.setIfInBounds_toArray, List.set_cons_zero, List.set_cons_succ]
    refine takeIt 8 19 (.tmp 18) g (j * 130) (itC z tv x) HIl.out rfl (by kernel_rfl) (by kernel_rfl) (by kernel_rfl) rfl rfl rfl (by rfl) (fun _ _ _ h => h) hHeld (fun _ hw' => HRg.out _ hw') ?_
    simp only [List.setIfInBounds_toArray, List.set_cons_zero, List.set_cons_succ]
    refine step1 10 (by kernel_rfl) ?_
    refine stStoreRow 10 rfl rfl (by rfl) 109 _ _ rfl w.drew.heap.size rfl (itC z tv x).toArray rfl ItZ (heap_alloc_new _ _) (by rw [szIt, List.size_toArray, HIl.out]) (by rw [ItZ_size, List.size_toArray, HIl.out]) (all_one HI1.out) ?_
    intro w3 hw3
    have hHeld3 : Chg w w3 No := hHeld.trans (Chg.of_mod hw3.mod) (fun _ _ e => e) (fun j hj e => by have e2 : j = w.heap.size := (by simpa using e); omega)
    refine ⟨hHeld3, ?_⟩
    refine wpAnyH_done (by kernel_rfl) ?_ _
    refine NoPanic.normal ?_
    have HB3 : Hid (w3.heap[w.heap.size]? = some (.cells (itC z tv x).toArray 109 (0, 0))) := hid hw3.here
    have HC3 := hid hHeld3
    clear hHeld hHeld3 hw3
    go_wp2_with fail
    have HI3 := hid (H.out.call HC3.out)
    have HWr := D.rwrite_any x q.1 w3.drew HI3.out.dk.drew HQl.out HI3.out.inv.w0 HWb.out HI3.out.inv.lf
    refine wp_region_noPanic ?_
    refine wp_region_held_drew (S := fun W => W.cell? ⟨r, 0, none⟩ = some (.pointer (some ⟨rd, 0, none⟩)) ∧ W.heap[w.heap.size]? = some (.cells (itC z tv x).toArray 109 (0, 0))) (by kernel_rfl) ⟨HI3.out.c0, HB3.out⟩ (fun hHeld => ?_)
    refine takeVal 0 20 (.pointer (some ⟨r, 0, none⟩)) rfl (by kernel_rfl) (by kernel_rfl) (by kernel_rfl) rfl (by rfl) (fun _ _ _ h => h) hHeld (fun _ hw' => rfl) ?_
    simp only [List.setIfInBounds_toArray, List.set_cons_zero, List.set_cons_succ]
    refine takeVal 1 21 (.pointer (some ⟨r, 0, none⟩)) rfl (by kernel_rfl) (by kernel_rfl) (by kernel_rfl) rfl (by rfl) (fun _ _ _ h => h) hHeld (fun _ hw' => rfl) ?_
    simp only [List.setIfInBounds_toArray, List.set_cons_zero, List.set_cons_succ]
    refine takeVal 2 22 (.pointer (some ⟨r, 0, none⟩)) rfl (by kernel_rfl) (by kernel_rfl) (by kernel_rfl) rfl (by rfl) (fun _ _ _ h => h) hHeld (fun _ hw' => by go_simp) ?_
    simp only [List.setIfInBounds_toArray, List.set_cons_zero, List.set_cons_succ]
    refine takeVal 3 23 (.pointer (some ⟨r, 0, none⟩)) rfl (by kernel_rfl) (by kernel_rfl) (by kernel_rfl) rfl (by rfl) (fun _ _ _ h => h) hHeld (fun _ hw' => by go_simp) ?_
    simp only [List.setIfInBounds_toArray, List.set_cons_zero, List.set_cons_succ]
    refine takeVal 4 24 (.pointer (some ⟨rd, 0, none⟩)) rfl (by kernel_rfl) (by kernel_rfl) (by kernel_rfl) rfl (by rfl) (fun _ _ _ h => h) hHeld (fun _ hw' => by have hc := hw'.1; go_simp) ?_
    simp only [List.setIfInBounds_toArray, List.set_cons_zero, List.set_cons_succ]
    refine takeVal 5 25 (.int .i64 x) rfl (by kernel_rfl) (by kernel_rfl) (by kernel_rfl) rfl (by rfl) (fun _ _ _ h => h) hHeld (fun _ hw' => rfl) ?_
    simp only [List.setIfInBounds_toArray, List.set_cons_zero, List.set_cons_succ]
    refine takeVal 6 26 (.pointer (some ⟨w.heap.size, 1, none⟩)) rfl (by kernel_rfl) (by kernel_rfl) (by kernel_rfl) rfl (by rfl) (fun _ _ _ h => h) hHeld (fun _ hw' => by go_simp) ?_
    simp only [List.setIfInBounds_toArray, List.set_cons_zero, List.set_cons_succ]
    refine D.takeMidS 7 27 (.tmp 26) (w.heap.size) 1 q.1 HQl.out rfl (by kernel_rfl) (by kernel_rfl) (by kernel_rfl) rfl rfl rfl (by rfl) (fun _ _ _ h => h) hHeld (fun _ hw' => row_secK hw'.2 HQi.out HQl.out) ?_
    simp only [List.setIfInBounds_toArray, List.set_cons_zero, List.set_cons_succ]
    rw [HE.out] at HWr
    refine step1 8 (by kernel_rfl) ?_
    refine stCall 8 28 17 #[.pointer (some ⟨rd, 0, none⟩), .int .i64 x, .agg (D.SA q.1)] _ rfl rfl (by rfl) (by go_simp) HWr ?_
    rintro e w4 ⟨rfl, hq4, hm4⟩
    have hc4 : Chg w3.drew w4 (fun k => k = rd ∨ k = rk) := (Chg.of_mod hm4).mono (fun k _ e => by simpa using e)
    have hI4 := HI3.out.down hq4 ((Chg.refl w3 No).drew.trans hc4 (c := fun k => k = rd ∨ k = rk) (fun _ _ e => e.elim) (fun _ _ e => e)) HWn.out HLf.out
    have hb4 : w4.heap[w.heap.size]? = some (.cells (itC z tv x).toArray 109 (0, 0)) := hc4.keep HB3.out HNd.out
    have hHeld : w4.cell? ⟨r, 0, none⟩ = some (.pointer (some ⟨rd, 0, none⟩)) ∧ w4.heap[w.heap.size]? = some (.cells (itC z tv x).toArray 109 (0, 0)) := ⟨hI4.c0, hb4⟩
    refine ⟨_, rfl, hHeld, ?_⟩
    simp only [List.setIfInBounds_toArray, List.set_cons_zero, List.set_cons_succ]
    have HHe := rheard_quiet (r := r) 0 (by decide) w4
    refine step1 9 (by kernel_rfl) ?_
    refine stCall 9 29 103 #[.pointer (some ⟨r, 0, none⟩), .int .i64 0] _ rfl rfl (by rfl) (by go_simp) HHe ?_
    rintro e w5 ⟨rfl, hw5⟩
    subst hw5
    refine ⟨_, rfl, hHeld, ?_⟩
    simp only [List.setIfInBounds_toArray, List.set_cons_zero, List.set_cons_succ]
    refine takeVal 10 6 (.int .i64 0) rfl (by kernel_rfl) (by kernel_rfl) (by kernel_rfl) rfl (by rfl) (fun _ _ _ h => h) hHeld (fun _ hw' => rfl) ?_
    simp only [List.setIfInBounds_toArray, List.set_cons_zero, List.set_cons_succ]
    refine wpAnyH_done (by kernel_rfl) ?_ _
    refine NoPanic.normal ?_
    have hc03 : Chg w w5 (fun k => k = rd ∨ k = rk) := HC3.out.trans ((Chg.refl w3 No).drew.trans hc4 (c := fun k => k = rd ∨ k = rk) (fun _ _ e => e.elim) (fun _ _ e => e)) (fun _ _ e => e.elim) (fun _ _ e => e)
    obtain ⟨ta, tc, htv, hta, _⟩ := (H.out.tg x q HP.out).lat
    obtain ⟨la, lc, hlv, _, _⟩ := H.out.ld.lat
    subst hlv
    have htg := H.out.tg x q HP.out
    rw [htv] at htg
    have HTA : Hid (LAt w5.drew ta q.2) := by
      have := hta.keep hc03 (fun k hk => ?_)
      · exact this.call (Chg.refl w5 No).drew
      · have hb := htg.nilcap.2 _ hk
        have hr := H.out.rt x k HDx.out (by rw [htv]; exact hb.2)
        rintro (rfl | rfl)
        · rw [H.out.rd_] at hr; cases hr
        · rw [H.out.rs] at hr; cases hr
    have HTN := hid htg.nilcap.1
    have HI4 := hid (hI4.call (Chg.refl w5 No).drew)
    have HB4 := hid hb4
    have HLr : Hid (¬ (Value.slice la z.ld.length lc).ownBlock = some r) := hid (fun e => by have := H.out.rl _ e; rw [H.out.rm] at this; cases this)
    have HLb : Hid (¬ (Value.slice la z.ld.length lc).ownBlock = some w.heap.size) := hid (fun e => by have := H.out.lt _ _ (H.out.rl _ e); omega)
    have HTg : Hid ((itC z tv x)[129]? = some (.slice ta q.2.length tc)) := hid (by rw [HQi.out, htv]; simp [HQl.out])
    have HC03 := hid hc03
    clear hHeld hI4 hb4 hc03 htg htv hta hc4 hm4 hq4 HHe
    go_wp2_with fail
    refine wp_region_noPanic ?_
    refine wp_region_held_drew (S := fun W => W.heap[w.heap.size]? = some (.cells (itC z tv x).toArray 109 (0, 0))) (by kernel_rfl) HB4.out (fun hHeld => ?_)
    refine takeVal 0 33 (.pointer (some ⟨r, 0, none⟩)) rfl (by kernel_rfl) (by kernel_rfl) (by kernel_rfl) rfl (by rfl) (fun _ _ _ h => h) hHeld (fun _ hw' => rfl) ?_
    simp only [List.setIfInBounds_toArray, List.set_cons_zero, List.set_cons_succ]
    refine takeVal 1 34 (.pointer (some ⟨r, 0, none⟩)) rfl (by kernel_rfl) (by kernel_rfl) (by kernel_rfl) rfl (by rfl) (fun _ _ _ h => h) hHeld (fun _ hw' => rfl) ?_
    simp only [List.setIfInBounds_toArray, List.set_cons_zero, List.set_cons_succ]
    refine takeVal 2 35 (.pointer (some ⟨r, 0, none⟩)) rfl (by kernel_rfl) (by kernel_rfl) (by kernel_rfl) rfl (by rfl) (fun _ _ _ h => h) hHeld (fun _ hw' => by go_simp) ?_
    simp only [List.setIfInBounds_toArray, List.set_cons_zero, List.set_cons_succ]
    refine takeVal 3 36 (.pointer (some ⟨r, 3, none⟩)) rfl (by kernel_rfl) (by kernel_rfl) (by kernel_rfl) rfl (by rfl) (fun _ _ _ h => h) hHeld (fun _ hw' => by go_simp) ?_
    simp only [List.setIfInBounds_toArray, List.set_cons_zero, List.set_cons_succ]
    refine takeVal 5 38 (.pointer (some ⟨w.heap.size, 129, none⟩)) rfl (by kernel_rfl) (by kernel_rfl) (by kernel_rfl) rfl (by rfl) (fun _ _ _ h => h) hHeld (fun _ hw' => by go_simp) ?_
    simp only [List.setIfInBounds_toArray, List.set_cons_zero, List.set_cons_succ]
    refine takeVal 6 39 (.slice ta q.2.length tc) rfl (by kernel_rfl) (by kernel_rfl) (by kernel_rfl) rfl (by rfl) (fun _ _ _ h => h) hHeld (fun _ hw' => by have hc := (cell_of_row _ _ 129 _ _ _ hw').trans ((List.getElem?_toArray ..).trans HTg.out); go_simp) ?_
    simp only [List.setIfInBounds_toArray, List.set_cons_zero, List.set_cons_succ]
    refine step1 4 (by kernel_rfl) ?_
    refine stVal 4 37 (.slice la z.ld.length lc) rfl rfl (by rfl) (by have hc := HI4.out.c3; go_simp) hHeld ?_
    simp only [List.setIfInBounds_toArray, List.set_cons_zero, List.set_cons_succ]
    refine step1 7 (by kernel_rfl) ?_
    refine stAppL 7 40 rfl rfl (by rfl) _ _ rfl 0 (.slice la z.ld.length lc) z.ld q.2 ta tc rfl rfl HI4.out.ld HTA.out HTN.out (by have := HTB.out; omega) (Nat.zero_le _) ?_
    intro v6 w6 h6 hc6 ho6
    have hHeld6 : w6.heap[w.heap.size]? = some (.cells (itC z tv x).toArray 109 (0, 0)) := hc6.keep hHeld HLb.out
    clear hHeld
    have hHeld := hHeld6
    clear hHeld6
    refine ⟨hHeld, ?_⟩
    simp only [List.setIfInBounds_toArray, List.set_cons_zero, List.set_cons_succ]
    refine takeVal 8 41 (.pointer (some ⟨r, 0, none⟩)) rfl (by kernel_rfl) (by kernel_rfl) (by kernel_rfl) rfl (by rfl) (fun _ _ _ h => h) hHeld (fun _ hw' => by go_simp) ?_
    simp only [List.setIfInBounds_toArray, List.set_cons_zero, List.set_cons_succ]
    refine takeVal 9 42 (.pointer (some ⟨r, 3, none⟩)) rfl (by kernel_rfl) (by kernel_rfl) (by kernel_rfl) rfl (by rfl) (fun _ _ _ h => h) hHeld (fun _ hw' => by go_simp) ?_
    simp only [List.setIfInBounds_toArray, List.set_cons_zero, List.set_cons_succ]
    have hme6 := hc6.keep HI4.out.me HLr.out
    have fc3 := frozen_of_row w6 r 3 _ _ hme6
    have kc3 : w6.cell? ⟨r, 3, none⟩ = some (.slice la z.ld.length lc) := (by rw [cell_of_row _ _ _ _ _ _ hme6]; rfl)
    refine step1 10 (by kernel_rfl) ?_
    refine stCell 10 (w6.setCell ⟨r, 3, none⟩ v6) rfl rfl (by rfl) (by obtain ⟨va, vc, hv6, _, _⟩ := h6.lat; rw [hv6]; clear hv6; go_simp) ?_
    refine ⟨(heap_setCell_other w6 ⟨r, 3, none⟩ w.heap.size _ HNr.out).trans hHeld, ?_⟩
    refine wpAnyH_done (by kernel_rfl) ?_ _
    refine NoPanic.normal ?_
    obtain ⟨ρ1, hI7, ho7, hg7⟩ := HI4.out.tagged hc6 h6 ho6
    have HF := rforget_any x _ hI7
    have H7 := hid (And.intro ho7 hg7)
    clear hI7 ho7 hg7 h6 hc6 ho6 hHeld hme6 fc3 kc3
    generalize hw7 : w6.setCell ⟨r, 3, none⟩ v6 = w7 at *
    clear hw7
    go_wp2_with (first
      | (go_at_call 80; go_must (refine HF.mono ?_; rintro e w8 ⟨rfl, hP8⟩; have HP8 := hid hP8; clear hP8))
      | fail)
    go_ret
    rw [HA.out]
    refine ⟨rfl, RPost.pre ?_ (RPost.and H7.out.1 H7.out.2 HP8.out)⟩
    exact (HC03.out.trans (Chg.refl w5 No).drew (c := fun k => k = rd ∨ k = rk) (fun _ _ e => e) (fun _ _ e => e.elim)).mono fun k _ e => e.elim (fun e => by rw [e]; exact ⟨_, H.out.rd_⟩) (fun e => by rw [e]; exact ⟨_, H.out.rs⟩)
/-- write, as one. -/
theorem rwrite_any (x : Int) (w : World) (h : IsRC w r rd n ρ z) (hx : z.dirty x) (ht : TB z) (hw : z.d.wr < 4611686018427387904) :
    Calls Tryz.prog 76 #[.pointer (some ⟨r, 0, none⟩), .int .i64 x] w fun e w' => e = .returned (.int .i64 (wrC n z x).2) ∧ RPost w w' r rd n ρ (wrC n z x).1 := by
  cases hlo : z.lost with
  | true =>
    have e : wrC n z x = (z, 22) := by unfold wrC; rw [if_pos hlo]
    rw [e]
    exact (rwrite_lost x w h hlo).mono fun e w' ⟨h1, h2⟩ => ⟨h1, by rw [h2]; exact RPost.same h (Chg.refl w No)⟩
  | false =>
    have hd := hx
    unfold CSt.dirty at hx
    obtain ⟨q, hq⟩ := Option.isSome_iff_exists.1 hx
    obtain ⟨h0, h1⟩ := h.inv.ok x hd
    rcases writeE_cases z.d n x h0 h1 with he | he
    · exact rwrite_done x q w h hq hlo ht hw he
    · exact rwrite_down x q w h hq hlo ht hw he
end
end Go.Proofs.YtamoepninddbcaaGreat
