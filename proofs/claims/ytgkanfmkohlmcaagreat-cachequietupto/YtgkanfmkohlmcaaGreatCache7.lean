/-
  Put: a sector is put, to land behind others.
-/
import Derived.Test.YtgkanfmkohlmcaaGreatCacheP
namespace Go.Proofs.YtgkanfmkohlmcaaGreat
open Go.RowKit Go.Sort Go.Lib

variable {w : World} {c p g n : Nat} {ρ : Nat → Option Role} {z : CSt}

theorem dofC_mem (hi : CInv n z) {l : List Int} {x a : Int} : a ∈ dofC z l x ↔ a ∈ l ∧ z.dirty a ∧ a ≠ x := by
  unfold dofC
  rw [secs_mem]
  exact ⟨fun h => h.2, fun h => ⟨hi.sec h.2.1, h⟩⟩
theorem Ints.len_le {w : World} {base : Nat} {v : Value} {l : List Int} (h : Ints w base v l) : ∃ a ca, v = .slice a l.length ca := by
  obtain ⟨a, ca, e, _⟩ := h.lat
  exact ⟨a, ca, e⟩

set_option maxRecDepth 100000 in
set_option maxHeartbeats 2000000 in
theorem clearWay_any (x : Int) (l : List Int) (a : Option Addr) (ca : Nat) (h : IsC w c p g n ρ z) (hx : 0 ≤ x ∧ x < n) (hl : LAt w a l) (hm : l.length ≤ 1000000000000) (hI : ∀ k, k < l.length → I64 (l.getD k 0)) (ht : TB z) (hw : z.d.wr < 4611686018427380000) :
    Calls Tryz.prog 42 #[.pointer (some ⟨c, 0, none⟩), .int .i64 x, .slice a l.length ca] w fun e w' => e = .returned (.int .i64 (clearC n z x l).2) ∧ CPost w w' c p g n ρ (clearC n z x l).1 := by
  have HD := dirtyOf_any l a ca x h hl hm hI
  have HH := hid h
  have HINV := hid h.inv
  have hIx : I64 x := ⟨by omega, by have := h.inv.top; omega⟩
  have HT := hid (And.intro ht hw)
  have HX := hid hx
  have HMEM := hid (fun a => dofC_mem h.inv (l := l) (x := x) (a := a))
  clear h hl hI ht hw hx
  generalize hr : clearC n z x l = R at *
  have HR := hid hr
  clear hr
  generalize hdd : dofC z l x = dl at *
  have hdl : dl.length ≤ 4096 := by rw [← hdd]; exact secs_len _
  clear hdd
  go_enter Tryz.func42, Tryz.ntmps42
  go_wp2_with (first
    | (go_at_call 43; go_must (refine HD.mono ?_; rintro e w1 ⟨v1, rfl, hv1, hc1⟩; obtain ⟨a1, ca1, rfl, hlat1, hge1⟩ := hv1.lat; clear HD))
    | fail)
  have HLat := hid hlat1
  have HC1 := hid hc1
  clear hlat1 hc1 hge1 hv1
  generalize hlen : dl.length = m at *
  go_loopw [8, 14] (fun _ i wr => ∃ (k : Nat) (wq : World), wq = wr ∧ k ≤ m ∧ i = .int .i64 k ∧ Chg w1 wq No ∧ Hid (∀ j, j < k → ¬ Reach z.E x (dl.getD j 0))) (fun _ i _ => m - (intOf i).toNat)
  case atStart => exact ⟨0, w1, rfl, by omega, rfl, Chg.refl _ _, fun j hj => absurd hj (by omega)⟩
  case round =>
    obtain ⟨k, wA, rfl, hk, rfl, hcA, hall⟩ := hrel
    by_cases hlt : k < m
    · obtain ⟨gp, mb, go, tv, lv, hA⟩ := HH.out.call (HC1.out.tr hcA)
      rcases (HLat.out.call hcA) with h0 | ⟨g1, rfl, hg1, h1⟩
      · rw [h0] at hlen; simp at hlen; omega
      have p1 := h1 k (by omega)
      have hmem := getD_mem (l := dl) (k := k) (by omega)
      generalize hy : dl.getD k 0 = y at *
      have hy2 := (HMEM.out y).1 hmem
      have hIy := hA.i64 hy2.2.1
      have hi0 : (0 : Int) ≤ (k : Int) := by omega
      have hi1 : (k : Int) < (m : Int) := by omega
      have k1 := hA.c1
      have HRE := reaches_any x y hA.gr hIx hIy
      have HY := hid (And.intro hy hy2)
      have HA := hid hA
      clear hA h1 hy hy2 hmem
      go_wp2_with (first
        | (go_at_call 65; go_must (refine HRE.mono ?_; rintro e w2 ⟨r, rfl, hr, hc2⟩; have HDR := drain_any x ((HH.out.call (HC1.out.tr hcA)).call hc2) HX.out HT.out.1 HT.out.2; clear HRE))
        | (go_at_call 45; go_must (refine HDR.mono ?_; rintro e w3 ⟨rfl, hP3⟩))
        | fail)
      · go_ret
        have hre := hr.1 (by assumption)
        have hc : ∃ a, a ∈ l ∧ z.dirty a ∧ a ≠ x ∧ Reach z.E x a := ⟨y, HY.out.2.1, HY.out.2.2.1, HY.out.2.2.2, hre⟩
        have e : R = drainC n z x := by rw [← HR.out]; unfold clearC; rw [if_pos hc]
        rw [e]
        exact ⟨rfl, CPost.step (fun _ k => k) ((HC1.out.tr hcA).tr hc2) hP3⟩
      · have hrf : ¬ Reach z.E x y := fun e => by
          have := hr.2 e
          simp_all
        refine ⟨⟨k + 1, w2, rfl, by omega, by go_num, hcA.tr hc2, fun j hj => ?_⟩, by simp [intOf]; omega⟩
        by_cases e : j = k
        · subst e
          rw [HY.out.1]
          exact hrf
        · exact hall.out j (by omega)
    · have hkm : k = m := by omega
      have hno : ¬ ∃ a, a ∈ l ∧ z.dirty a ∧ a ≠ x ∧ Reach z.E x a := by
        rintro ⟨y, h1, h2, h3, h4⟩
        have hmem := (HMEM.out y).2 ⟨h1, h2, h3⟩
        obtain ⟨j, hj, e⟩ := List.getElem_of_mem hmem
        refine hall.out j (by omega) ?_
        rw [List.getD_eq_getElem?_getD, List.getElem?_eq_getElem hj, e]
        exact h4
      have e : R = (z, 0) := by rw [← HR.out]; unfold clearC; rw [if_neg hno]
      have HE := hid e
      clear hno e
      go_wp2_with fail
      go_ret
      rw [HE.out]
      exact ⟨rfl, CPost.same HH.out (HC1.out.tr hcA)⟩

end Go.Proofs.YtgkanfmkohlmcaaGreat

namespace Go.Proofs.YtgkanfmkohlmcaaGreat
open Go.RowKit Go.Sort Go.Lib

variable {w : World} {c p g n : Nat} {ρ : Nat → Option Role} {z : CSt}

def ovrL : List Value → Nat → List Value → List Value
  | l, _, [] => l
  | l, o, x :: r => ovrL (l.set o x) (o + 1) r
theorem ovrL_eq : ∀ (r l : List Value) (o : Nat), o + r.length ≤ l.length → ovrL l o r = l.take o ++ r ++ l.drop (o + r.length)
  | [], l, o, _ => by simp [ovrL]
  | x :: r, l, o, h => by
    simp only [List.length_cons] at h
    rw [ovrL, ovrL_eq r (l.set o x) (o + 1) (by rw [List.length_set]; omega)]
    have e1 : (l.set o x).take (o + 1) = l.take o ++ [x] := by
      rw [List.take_add_one, List.take_set_of_le (Nat.le_refl _), List.getElem?_set_self (by omega)]
      rfl
    have e2 : (l.set o x).drop (o + 1 + r.length) = l.drop (o + (r.length + 1)) := by
      rw [List.drop_set_of_lt (by omega), show o + 1 + r.length = o + (r.length + 1) by omega]
    rw [e1, e2]
    simp
theorem Put.trans' {w w1 w2 : World} {g : Nat} {o1 o2 : Obj} (h : D.Put w g o1 w1) (k : D.Put w1 g o2 w2) : D.Put w g o2 w2 :=
  ⟨k.here, fun j hj => (k.other j hj).trans (h.other j hj), k.size.trans h.size, k.os.trans h.os, k.tape.trans h.tape, k.output.trans h.output⟩
theorem setCells_put {g : Nat} {t : TypeId} : ∀ (r l : List Value) (o : Nat) (w : World), w.heap[g]? = some (.cells l.toArray t (0, 0)) → D.Put w g (.cells (ovrL l o r).toArray t (0, 0)) (w.setCells g o r)
  | [], l, o, w, h => ⟨h, fun _ _ => rfl, rfl, rfl, rfl, rfl⟩
  | x :: r, l, o, w, h => by
    have h1 := D.put_cell (j := o) x h
    have e : (l.toArray.setIfInBounds o x) = (l.set o x).toArray := by simp
    rw [e] at h1
    exact Put.trans' h1 (setCells_put r (l.set o x) (o + 1) _ h1.here)
section
variable {ops : Array Oper} {Q : Exit → Act → World → Prop} {S : World → Prop} {fuel : Nat} {listed : Array Bool} {a : Act} {w : World} {rest : List Oper} {o : Oper}
/-- The content is written over. -/
theorem store_cont (hgd : o.guard = none) (x y : Operand) (ho : o.op = .store 46 x y) (g : Nat) (hx : a.eval x = .pointer (some ⟨g, 0, none⟩)) (s s0 : List Int) (t : Value) (hy : a.eval y = .agg (D.SA s)) (hs : s.length = 128) (hs0 : s0.length = 128)
    (hg : w.heap[g]? = some (.cells (pend s0 t) 74 (0, 0))) (h : ∀ w', D.Put w g (.cells (pend s t) 74 (0, 0)) w' → wpList Tryz.prog ops Q rest (a.put o.dst undef) w') : wpList Tryz.prog ops Q (o :: rest) a w := by
  refine wpList_store_mid hgd 46 x y ho g 0 (D.SA s) hx hy (fun j hj => ?_) (by rw [D.sz26, D.SA_size, hs]) (D.SA_one s) (h _ ?_)
  · rw [D.SA_size, hs] at hj
    rw [cell_of_row _ _ _ _ _ _ hg]
    refine ⟨?_, frozen_of_row _ _ _ _ _ hg⟩
    rw [Array.getElem?_eq_getElem (by rw [pend_size]; omega)]
    rfl
  · have h1 := setCells_put (s.map (Value.int .u8)) (s0.map (Value.int .u8) ++ [t]) 0 w hg
    rw [ovrL_eq _ _ _ (by simp; omega)] at h1
    have e : List.take 0 (s0.map (Value.int .u8) ++ [t]) ++ s.map (Value.int .u8) ++ List.drop (0 + (s.map (Value.int .u8)).length) (s0.map (Value.int .u8) ++ [t]) = s.map (Value.int .u8) ++ [t] := by
      rw [List.drop_append_of_le_length (by simp; omega), List.drop_of_length_le (by simp; omega)]
      simp
    rw [e] at h1
    have e2 : (D.SA s).toList = s.map (Value.int .u8) := by simp [D.SA]
    rw [e2]
    exact h1
theorem stPutV (i : Nat) {o : Oper} (hop : ops[i]? = some o) (hd : o.dst = none) (hw : Region.wanted o (yielded ops a.tmps) = true) (m x v : Operand) (ho : o.op = Op.mapUpdate 69 m x v) (b : Nat) (f : Int → Option Value) (k : Int) (d : Value) (hm : a.eval m = .map (some b)) (hx : a.eval x = .int .i64 k) (hv : a.eval v = d)
    (h : MapV w b f) (hk : I64 k) (hf : ∃ L : List Int, L.length ≤ 5000 ∧ ∀ x, (f x).isSome = true → x ∈ L)
    (hK : ∀ w', MapV w' b (fun y => if y = k then some d else f y) → Chg w w' (· = b) → w'.heap.size = w.heap.size → S w' ∧ wpAnyH Tryz.prog .any ops Q S fuel (listed.setIfInBounds i true) a w') : St ops Q S fuel listed a w i := by
  obtain ⟨w', hrun, r1, r2, r3⟩ := h.store hk d hf
  have hh := hK w' r1 r2 r3
  refine wpOp_step hop (fun K hK' => ?_)
  rw [if_pos hw]
  unfold Oper.wp
  simp [execOp, ho, hm, hx, hv, hrun, Result.andThen]
  refine hK' _ _ ⟨hh.1, ?_⟩
  unfold Act.put
  rw [hd]
  exact hh.2
end
theorem load_pend {w : World} {b : Nat} {s : List Int} {t : Value} (hs : s.length = 128) (h : w.heap[b]? = some (.cells (pend s t) 74 (0, 0))) : (Instr.loadAt 74 (.pointer (some ⟨b, 0, none⟩))).run Tryz.prog w = .ok (.agg (pend s t)) w :=
  run_loadAt_mid w b 0 74 (s.map (Value.int .u8) ++ [t]) _ (fun j v hj => by
    rw [cell_of_row _ _ _ _ _ _ h, Nat.zero_add]
    simp only [pend, List.getElem?_toArray]
    exact hj) Tryz.underlying74 rfl (by rw [szP]; simp [hs])
theorem ints_new (w : World) (x : Int) : Ints (w.alloc (.cells #[.int .i64 x] 3)) w.heap.size (.slice (some ⟨w.heap.size, 0, none⟩) 1 1) [x] :=
  ⟨by simp, .inr ⟨w.heap.size, 1, _, rfl, Nat.le_refl _, heap_alloc_new _ _, Nat.le_refl _, by unfold maxLen; omega, rfl, rfl⟩⟩
/-- The tags' list that a sector has behind a Put. -/
def tagV (z : CSt) (tv : Int → Value) (x : Int) : Value := match z.P x with | some _ => tv x | none => .slice none 0 0
theorem pend_look (z : CSt) (tv : Int → Value) (x : Int) (hi : CInv n z) : ∃ s0 : List Int, s0.length = 128 ∧ (match (z.P x).map (fun q => Value.agg (pend q.1 (tv x))) with | some v => v | none => Value.agg pend0) = .agg (pend s0 (tagV z tv x)) := by
  unfold tagV
  cases h : z.P x with
  | none => exact ⟨D.Zs, D.Zs_len, rfl⟩
  | some q => exact ⟨q.1, hi.ln x q h, rfl⟩
/-- The map has the new content. -/
theorem isC_lay {w w' : World} {gp mb : Nat} {go : Nat → Prop} {tv : Int → Value} {lv : Value} {s : List Int} {x : Int} (h : IsC0 w c p g n gp mb go tv lv ρ z) (hx : 0 ≤ x ∧ x < n) (hs : s.length = 128)
    (hM : MapV w' mb (fun y => if y = x then some (.agg (pend s (tagV z tv x))) else (z.P y).map fun q => .agg (pend q.1 (tv y)))) (hc : Chg w w' (· = mb)) :
    IsC0 w' c p g n gp mb go (fun y => if y = x then tagV z tv x else tv y) lv ρ (layC z x s []) := by
  obtain ⟨q1, q2, q3, q4, q5, q6, q7⟩ := h.parts hc (fun r => r = .mb) (fun k e r hr => by
    subst e
    rw [h.rm] at hr; cases hr; rfl)
  refine ⟨q1 (by simp), q2 (by simp) (by simp), ?_, hM.cong fun y => ?_, fun y q hy => ?_, q6 (by simp), h.rc, h.rp, h.rg, h.rr, h.rm, fun y k hy hk => ?_, h.rl, q7, layC_inv h.inv hx hs ⟨fun a ha => (by cases ha), fun a ha => (by cases ha)⟩⟩
  · rw [layC_E, layE_nil]
    exact q3 (by simp)
  · rw [layC_P]
    by_cases e : y = x
    · simp [e]
    · simp [e]
  · rw [layC_P] at hy
    by_cases e : y = x
    · subst e
      rw [if_pos rfl] at hy ⊢
      cases hy
      unfold tagV
      cases hz : z.P y with
      | none => exact World.ownsRow_nil _ _ _ _
      | some q => exact q5 y q (by simp) hz
    · rw [if_neg e] at hy ⊢
      exact q5 y q (by simp) hy
  · by_cases e : y = x
    · subst e
      rw [if_pos rfl] at hk
      unfold tagV at hk
      cases hz : z.P y with
      | none => rw [hz] at hk; simp [Value.ownBlock] at hk
      | some q => rw [hz] at hk; exact h.rt y k (by unfold CSt.dirty; rw [hz]; rfl) hk
    · rw [if_neg e] at hk
      rw [layC_dirty] at hy
      exact h.rt y k (hy.resolve_right e) hk
/-- One edge more. -/
theorem isC_edge {w w' : World} {gp mb : Nat} {go go' : Nat → Prop} {tv : Int → Value} {lv : Value} {s m : List Int} {x y : Int} (h : IsC0 w c p g n gp mb go tv lv ρ (layC z x s m)) (hi : CInv n (layC z x s (m ++ [y])))
    (hG : IsG w' gp go' (layC z x s (m ++ [y])).E) (ho : ∀ k, go' k → go k ∨ (w.heap.size ≤ k ∧ k < w'.heap.size)) (hc : Chg w w' go) : CPost w w' c p g n ρ (layC z x s (m ++ [y])) := by
  obtain ⟨q1, q2, q3, q4, q5, q6, q7⟩ := h.parts hc (fun r => r = .gr) (fun k e r hr => by
    rw [h.rr k e] at hr; cases hr; rfl)
  have old : ∀ k r, ρ k = some r → ¬ (w.heap.size ≤ k ∧ k < w'.heap.size) := fun k r hr e => by
    have := h.lt k r hr
    omega
  refine ⟨fun k => if w.heap.size ≤ k ∧ k < w'.heap.size then some .gr else ρ k, ⟨gp, mb, go', tv, lv, ⟨q1 (by simp), q2 (by simp) (by simp), hG, q4 (by simp), fun y q hy => q5 y q (by simp) hy, q6 (by simp), ?_, ?_, ?_, ?_, ?_, ?_, ?_, ?_, hi⟩⟩, ?_, hc.mono fun k _ e => ⟨_, h.rr k e⟩⟩
  · simp only [if_neg (old _ _ h.rc)]; exact h.rc
  · simp only [if_neg (old _ _ h.rp)]; exact h.rp
  · simp only [if_neg (old _ _ h.rg)]; exact h.rg
  · intro k hk
    by_cases e : w.heap.size ≤ k ∧ k < w'.heap.size
    · simp only [if_pos e]
    · simp only [if_neg e]
      rcases ho k hk with e2 | e2
      · exact h.rr k e2
      · exact absurd e2 e
  · simp only [if_neg (old _ _ h.rm)]; exact h.rm
  · intro y k hy hk
    simp only [if_neg (old _ _ (h.rt y k hy hk))]; exact h.rt y k hy hk
  · intro k hk
    simp only [if_neg (old _ _ (h.rl k hk))]; exact h.rl k hk
  · intro k r hr
    by_cases e : w.heap.size ≤ k ∧ k < w'.heap.size
    · exact e.2
    · simp only [if_neg e] at hr
      exact q7 k r hr
  · rintro k ⟨r, hr⟩
    by_cases e : w.heap.size ≤ k ∧ k < w'.heap.size
    · exact .inr e.1
    · simp only [if_neg e] at hr
      exact .inl ⟨r, hr⟩

end Go.Proofs.YtgkanfmkohlmcaaGreat
