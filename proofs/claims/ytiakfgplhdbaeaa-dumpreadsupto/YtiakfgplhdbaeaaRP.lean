/-
  package dump: Read of bytes that are nodes'.
-/
import Derived.Test.YtiakfgplhdbaeaaRO
import Derived.Test.YtiakfgplhdbaeaaSM
namespace Go.Proofs.Ytiakfgplhdbaeaa
open Go.RowKit

/-- A list of nodes that is owned, their bytes too. -/
structure NOw (w : World) (B : Nat) (v : Value) (M : List Nod) : Prop where
  row : w.ownsRow B 47 5 v M.length (M.flatMap rowN)
  data : ∀ i, i < M.length → BytesAt w (M.getD i Nod.z).da (M.getD i Nod.z).data
  low : ∀ i, i < M.length → ∀ g o, (M.getD i Nod.z).da = some ⟨g, o, none⟩ → (M.getD i Nod.z).data ≠ [] → ∃ A t, w.heap[g]? = some (.cells A t (0, 0)) ∧ t = 5
section
variable {w w' : World} {B : Nat} {v : Value} {M : List Nod} {ks : Nat → Prop}
theorem NOw.blk (h : NOw w B v M) {k : Nat} (e : v.ownBlock = some k) : B ≤ k ∧ ∃ A, w.heap[k]? = some (.cells A 47 (0, 0)) := by
  rcases h.row.2 with ⟨rfl, _⟩ | ⟨g, cap, cur, rfl, hg, hb, _⟩
  · simp [Value.ownBlock] at e
  · have e : g = k := by simpa [Value.ownBlock] using e
    subst e
    exact ⟨hg, cur, hb⟩
/-- What turns no row of bytes, and not the list itself. -/
theorem NOw.keep (h : NOw w B v M) (hc : Chg w w' ks) (hn : ∀ k, v.ownBlock = some k → ¬ ks k) (h8 : ∀ k A, w.heap[k]? = some (.cells A 5 (0, 0)) → ¬ ks k) : NOw w' B v M := by
  refine ⟨⟨h.row.1, ?_⟩, fun i hi => ?_, fun i hi g o e hne => ?_⟩
  · rcases h.row.2 with h | ⟨g, cap, cur, rfl, hg, hk, r⟩
    · exact .inl h
    · exact .inr ⟨g, cap, cur, rfl, hg, hc.keep hk (hn g rfl), r⟩
  · by_cases hne : (M.getD i Nod.z).data = []
    · exact .inl hne
    · exact (h.data i hi).keep hc (fun g o e => by obtain ⟨A, t, hA, rfl⟩ := h.low i hi g o e hne; exact h8 g A hA)
  · obtain ⟨A, t, hA, rfl⟩ := h.low i hi g o e hne
    exact ⟨A, _, hc.keep hA (h8 g A hA), rfl⟩
theorem NOw.nil (w : World) (B : Nat) : NOw w B (.slice none 0 0) [] := ⟨World.ownsRow_nil w B 47 5, fun _ hi => absurd hi (Nat.not_lt_zero _), fun _ hi => absurd hi (Nat.not_lt_zero _)⟩
theorem flat_row : ∀ (M : List Nod) (i j : Nat) (x : Value), i < M.length → (rowN (M.getD i Nod.z))[j]? = some x → (M.flatMap rowN)[i * 5 + j]? = some x
  | [], i, _, _, h, _ => absurd h (Nat.not_lt_zero _)
  | n :: M, 0, j, x, _, hx => by
    have hj : j < 5 := (List.getElem?_eq_some_iff.1 hx).1
    rw [List.flatMap_cons, List.getElem?_append_left (by rw [rowN_len]; omega), Nat.zero_mul, Nat.zero_add]
    exact hx
  | n :: M, i + 1, j, x, h, hx => by
    rw [List.flatMap_cons, List.getElem?_append_right (by rw [rowN_len]; omega), rowN_len, show (i + 1) * 5 + j - 5 = i * 5 + j by omega]
    exact flat_row M i j x (by simpa using h) hx
theorem NOw.nat (h : NOw w B v M) : ∃ a cap, v = .slice a M.length cap ∧ NAt w a M := by
  rcases h.row.2 with ⟨rfl, e⟩ | ⟨g, cap, cur, rfl, hg, hb, hc, hm, hs, ht⟩
  · have e : M = [] := List.length_eq_zero_iff.1 e
    subst e
    exact ⟨none, 0, rfl, .inl rfl, h.data⟩
  · refine ⟨some ⟨g, 0, none⟩, cap, rfl, .inr ⟨g, 0, rfl, slt hb, fun i hi j x hx => ?_⟩, h.data⟩
    have h1 := flat_row M i j x hi hx
    rw [Nat.zero_add, cell_of_row _ _ _ _ _ _ hb, ← Array.getElem?_toList]
    rw [← ht, List.getElem?_take] at h1
    split at h1
    · exact h1
    · cases h1
theorem getD_snoc (M : List Nod) (n : Nod) (i : Nat) (h : i < (M ++ [n]).length) : (i < M.length ∧ (M ++ [n]).getD i Nod.z = M.getD i Nod.z) ∨ (i = M.length ∧ (M ++ [n]).getD i Nod.z = n) := by
  by_cases e : i < M.length
  · exact .inl ⟨e, getD_left e⟩
  · have e : i = M.length := by rw [List.length_append] at h; simp at h; omega
    exact .inr ⟨e, by rw [e]; exact getD_last⟩
end
section
variable {ops : Array Oper} {rest : List Oper} {o : Oper} {a : Act} {Q : Exit → Act → World → Prop} {w : World}
/-- append of one node. -/
theorem wp_appN1 (hg : o.guard = none) (s x : Operand) (hop : o.op = .call { callee := .builtin .append, args := #[s, x], argTypes := #[22, 22] }) (B g c : Nat) (v : Value) (M : List Nod) (n : Nod) (hs : a.eval s = v) (hx : a.eval x = .slice (some ⟨g, 0, none⟩) 1 c)
    (hown : NOw w B v M) (hat : w.heap[g]? = some (.cells (nodA n) 47 (0, 0))) (hl : M.length ≤ 1000000) (hB : B ≤ w.heap.size) (hd : BytesAt w n.da n.data) (hlo : ∀ g o, n.da = some ⟨g, o, none⟩ → n.data ≠ [] → ∃ A, w.heap[g]? = some (.cells A 5 (0, 0)))
    (hK : ∀ v' w', NOw w' B v' (M ++ [n]) → Chg w w' (fun k => v.ownBlock = some k) → wpList Try.prog ops Q rest (a.put o.dst v') w') : wpList Try.prog ops Q (o :: rest) a w := by
  obtain ⟨i, hi, hz, hsz, hby⟩ := infoNd
  refine wpList_append_own_at w hg s x 22 hop B 47 i _ 5 72 Try.underlying22 hi hz hsz hby rfl (by decide) v M.length (M.flatMap rowN) hs hown.row ⟨g, 0, none⟩ 1 c (rowN n) hx rfl (fun j u hj => ?_) (fun u hu => ?_) (by unfold maxLen; omega) (by omega) hB ?_
  · rw [addr_add, Nat.zero_add, cell_of_row _ _ _ _ _ _ hat]
    simpa [rowN] using hj
  · have := nodA_one n
    exact (Array.all_eq_true_iff_forall_mem.1 this) u (by simpa [rowN] using hu)
  · intro v' w' h1 h2 _ _
    have hc : Chg w w' (fun k => v.ownBlock = some k) := (Chg.grown h2).mono fun j _ e => e.symm
    have h8 : ∀ k A, w.heap[k]? = some (.cells A 5 (0, 0)) → ¬ v.ownBlock = some k := fun k A hA e => by
      obtain ⟨_, C, hC⟩ := hown.blk e
      rw [hA] at hC
      cases hC
    refine hK v' w' ⟨?_, fun j hj => ?_, fun j hj g o e hne => ?_⟩ hc
    · rw [List.length_append, List.flatMap_append]
      simpa using h1
    · rcases getD_snoc M n j hj with ⟨e1, e2⟩ | ⟨e1, e2⟩
      · rw [e2]
        by_cases hne : (M.getD j Nod.z).data = []
        · exact .inl hne
        · exact (hown.data j e1).keep hc (fun g o e => by obtain ⟨A, t, hA, rfl⟩ := hown.low j e1 g o e hne; exact h8 g A hA)
      · rw [e2]
        by_cases hne : n.data = []
        · exact .inl hne
        · exact hd.keep hc (fun g o e => by obtain ⟨A, hA⟩ := hlo g o e hne; exact h8 g A hA)
    · rcases getD_snoc M n j hj with ⟨e1, e2⟩ | ⟨e1, e2⟩
      · rw [e2] at e hne
        obtain ⟨A, t, hA, rfl⟩ := hown.low j e1 g o e hne
        exact ⟨A, _, hc.keep hA (h8 g A hA), rfl⟩
      · rw [e2] at e hne
        obtain ⟨A, hA⟩ := hlo g o e hne
        exact ⟨A, _, hc.keep hA (h8 g A hA), rfl⟩
end
section
variable {ops : Array Oper} {rest : List Oper} {o : Oper} {a : Act} {w : World} {Q : Exit → Act → World → Prop}
theorem load_W (hw : Region.wanted o (yielded ops a.tmps) = true) (t : TypeId) (x : Operand) (ho : o.op = .load t x) (ad : Addr) (hx : a.eval x = .pointer (some ad)) (v : Value) (hr : (loadVar t ad).run Try.prog w = .ok v w)
    (h : wpList Try.prog ops Q rest (a.put o.dst v) w) : wpList Try.prog ops Q (o :: rest) a w :=
  wpList_want hw fun _ hK => by
    unfold Oper.wp execOp
    simp only [ho, hx, Instr.loadAt, Instr.sureAddr, Sem.run_bind, Sem.run_pure, Result.andThen_ok, hr]
    exact hK _ _ h
end
theorem szRd2 : (Try.prog.info? 52).map (·.size) = some 2 := by kernel_rfl
theorem flat_drop {L : List Nod} {j : Nat} (h : j < L.length) : flatB (L.drop j) = nodeB (L.getD j Nod.z) ++ flatB (L.drop (j + 1)) := by
  rw [List.drop_eq_getElem_cons h]
  unfold flatB
  rw [List.flatMap_cons, List.getD_eq_getElem?_getD, List.getElem?_eq_getElem h]
  rfl
def lenAt (w : World) (g : Nat) : Nat := match w.cell? ⟨g, 0, none⟩ with | some (.slice _ n _) => n | _ => 0
theorem bow_u8 {w : World} {B : Nat} {da : Option Addr} {dc : Nat} {l : List Int} (h : BOw w B (.slice da l.length dc) l) : BytesAt w da l ∧ ∀ g o, da = some ⟨g, o, none⟩ → l ≠ [] → ∃ A, w.heap[g]? = some (.cells A 5 (0, 0)) := by
  obtain ⟨a, c, e, hb⟩ := h.one
  cases e
  refine ⟨hb, fun g o e hne => ?_⟩
  subst e
  rcases h.2 with ⟨e, _⟩ | ⟨g', cap, cur, e, _, hk, _⟩
  · cases e
  · cases e
    exact ⟨cur, hk⟩

set_option maxHeartbeats 4000000 in
set_option maxRecDepth 100000 in
theorem read_good {b o cap : Nat} (L : List Nod) (w : World) (h : At8 w b o (flatB L)) (hcp : (flatB L).length ≤ cap) (hf : L.all fitsB = true) (hl : L.length ≤ 100000) :
    Calls Try.prog 14 #[.slice (some ⟨b, o, none⟩) (flatB L).length cap] w fun e w' => ∃ v M, e = .returned (.tuple #[v, .int .i64 0]) ∧ NOw w' w.heap.size v M ∧ M.length = L.length ∧ (∀ i, i < L.length → alikeN (L.getD i Nod.z) (M.getD i Nod.z)) ∧ Chg w w' No := by
  have hb : ∀ W n, (Instr.build 52 #[(0, .slice (some ⟨b, o, none⟩) n cap)]).run Try.prog W = .ok (.agg #[.slice (some ⟨b, o, none⟩) n cap, .bool false]) W := fun W n => by kernel_rfl
  have hbs : ∀ W n, (Instr.buildSlice 22 1 #[(0, .agg (nodA n))]).run Try.prog W = .ok (.slice (some ⟨W.heap.size, 0, none⟩) 1 1) (W.alloc (.cells (nodA n) 47)) := fun W n => by kernel_rfl
  have HBs := hid hbs
  have HA := hid h
  have HF := hid hf
  have HCp := hid hcp
  obtain ⟨n0, hn0⟩ : ∃ y, y = (flatB L).length := ⟨_, rfl⟩
  rw [← hn0]
  have HN0 := hid hn0
  clear h hf hcp hn0 hbs
  go_enter Try.func14, Try.ntmps14
  go_wp2_with (first
    | (refine store_R rfl 52 _ _ rfl w.heap.size #[.slice (some ⟨b, o, none⟩) n0 cap, .bool false] rfl rfl 52 _ (heap_alloc_new _ _) (by rw [szRd2]; rfl) rfl (by simp [Value.oneCell']) ?_; intro w1 hw1)
    | fail)
  have hc1 : Chg w w1 No := (Chg.alloc w _ No).trans (kt_new hw1) (fun _ _ e => e) (fun j hj e => by omega)
  obtain ⟨gr, hgr⟩ : ∃ y, y = w.heap.size := ⟨_, rfl⟩
  have HRd1 : Hid (Rd w1 gr b o (flatB L) cap false) := hid ⟨by rw [hgr, ← HN0.out]; exact hw1.here, HA.out.keep hc1 (fun e => e), HCp.out, by have := HA.out.1; omega⟩
  have HC1 := hid hc1
  have HGr := hid hgr
  rw [← hgr]
  clear hw1 hc1 hgr hb
  go_frame
  go_loopw [4] (fun x4 wr => ∃ (j : Nat) (M : List Nod) (o' cap' : Nat), j ≤ L.length ∧ Hid (Rd wr gr b o' (flatB (L.drop j)) cap' false) ∧ Hid (NOw wr gr x4 M) ∧ M.length = j ∧ Hid (∀ i, i < j → alikeN (L.getD i Nod.z) (M.getD i Nod.z)) ∧ Hid (Chg w wr No)) (fun _ wr => lenAt wr gr)
  case atStart => exact ⟨0, [], o, cap, Nat.zero_le _, hid (by rw [List.drop_zero]; exact HRd1.out), hid (NOw.nil _ _), rfl, hid (fun _ hi => absurd hi (Nat.not_lt_zero _)), HC1⟩
  case round =>
    obtain ⟨j, M, o', cap', hj, HRd, HNo, hMj, HAl, HC⟩ := hrel
    clear HRd1 HC1
    have c0 := HRd.out.c0
    by_cases e : j = L.length
    · have e0 : (flatB (L.drop j)).length = 0 := by rw [e, List.drop_length]; rfl
      rw [e0] at c0
      go_wp2_with fail
      go_ret2
      exact ⟨_, M, rfl, by rw [← HGr.out]; exact HNo.out, by omega, fun i hi => HAl.out i (by omega), HC.out⟩
    · have hjl : j < L.length := by omega
      obtain ⟨n, hn⟩ : ∃ y, y = L.getD j Nod.z := ⟨_, rfl⟩
      have hfd := flat_drop hjl
      rw [← hn] at hfd
      have hfit : fitsB n = true := by
        rw [hn, List.getD_eq_getElem?_getD, List.getElem?_eq_getElem hjl]
        exact List.all_eq_true.1 HF.out _ (List.getElem_mem hjl)
      have hln : 0 < (flatB (L.drop j)).length := by rw [hfd, List.length_append, nodeB_len]; omega
      obtain ⟨q, hq⟩ : ∃ y, y = (flatB (L.drop j)).length := ⟨_, rfl⟩
      rw [← hq] at c0 hln
      have f1 : (0 : Int) < (q : Int) := by omega
      have hRd := HRd.out
      rw [hfd] at hRd
      have hNd := node_good n wr hRd hfit
      have HFd := hid hfd
      have HFi := hid hfit
      have HMe : Hid (lenAt wr gr = q) := hid (by unfold lenAt; rw [c0])
      have HQ : Hid (q = (nodeB n).length + (flatB (L.drop (j + 1))).length) := hid (by rw [hq, hfd, List.length_append])
      have HAn : Hid (∀ da dc, alikeN (L.getD j Nod.z) { n with da := da, dc := dc }) := hid (fun da dc => by rw [← hn]; exact ⟨rfl, rfl, rfl, rfl, rfl⟩)
      clear hRd hfd hfit hq hn hjl
      go_upto_region 5 with (first
        | (go_at_call 24; go_must (refine hNd.mono ?_; rintro e w2 ⟨⟨da, dc, rfl, hb2⟩, ⟨o2, cap2, hr2⟩, hc2⟩; have HB2 := hid hb2; have HR2 := hid hr2; have HC2 := hid hc2; clear hb2 hr2 hc2))
        | (refine store_R rfl 47 _ _ rfl w2.heap.size (nodA { n with da := da, dc := dc }) rfl rfl 47 _ (heap_alloc_new _ _) (nodA_sz _) rfl (nodA_one _) ?_; intro w3 hw3)
        | fail)
      have h23 : Chg w2 w3 No := (Chg.alloc w2 _ No).trans (kt_new hw3) (fun _ _ e => e) (fun k hk e => by omega)
      obtain ⟨n', hn'⟩ : ∃ y : Nod, y = { n with da := da, dc := dc } := ⟨_, rfl⟩
      rw [← hn'] at hw3 ⊢
      obtain ⟨g6, hg6⟩ : ∃ y, y = w2.heap.size := ⟨_, rfl⟩
      have HG3 : Hid (w3.heap[g6]? = some (.cells (nodA n') 47 (0, 0))) := hid (by rw [hg6]; exact hw3.here)
      rw [← hg6]
      have hFt : fitsB n' = true := by rw [hn']; exact HFi.out
      have hFi := fits_any n' w3
      rw [hFt] at hFi
      have HR3 := hid (HR2.out.call h23)
      have c1 := HR3.out.c1
      have HN3 : Hid (NOw w3 gr u4 M) := hid ((HNo.out.keep HC2.out (fun k e f => by obtain ⟨_, A, hA⟩ := HNo.out.blk e; rw [f, HRd.out.me] at hA; cases hA) (fun k A hA f => by rw [f, HRd.out.me] at hA; cases hA)).keep h23 (fun _ _ e => e) (fun _ _ _ e => e))
      obtain ⟨hby, hlo⟩ := bow_u8 HB2.out
      have HBy : Hid (BytesAt w3 n'.da n'.data) := hid (by rw [hn']; exact hby.call h23)
      have HLo : Hid (∀ g o, n'.da = some ⟨g, o, none⟩ → n'.data ≠ [] → ∃ A, w3.heap[g]? = some (.cells A 5 (0, 0))) := hid (fun g o e hne => by rw [hn'] at e hne; obtain ⟨A, hA⟩ := hlo g o e hne; exact ⟨A, h23.keep hA (fun e => e)⟩)
      have HC3 : Hid (Chg w w3 No) := hid ((HC.out.trans HC2.out (fun _ _ e => e) (fun k hk e => by have := HGr.out; omega)).tr h23)
      have HAl2 : Hid (alikeN (L.getD j Nod.z) n') := hid (by rw [hn']; exact HAn.out da dc)
      have sz := nodA_sz n'
      have HBl : Hid (b < gr) := hid (by rw [HGr.out]; exact HA.out.1)
      have HG3l : Hid ((loadVar 47 ⟨g6, 0, none⟩).run Try.prog w3 = .ok (.agg (nodA n')) w3) := hid (run_loadR w3 g6 47 47 (nodA n') _ HG3.out Try.underlying47 rfl sz)
      clear hNd hw3 h23 hn' hg6 hFt hby hlo c0 HNo HRd HC
      go_upto_region 7 with (first
        | (refine load_W (by rfl) 47 _ rfl ⟨g6, 0, none⟩ rfl _ HG3l.out ?_)
        | (go_at_call 21; go_must (refine hFi.mono ?_; rintro e w4 ⟨rfl, hc4⟩; have HC4 := hid hc4; clear hc4))
        | fail)
      have HG4 := hid (HC4.out.keep HG3.out (fun e => e))
      have HN4 : Hid (∀ X, NOw (w4.alloc X) gr u4 M) := hid (fun X => (HN3.out.keep HC4.out (fun _ _ e => e) (fun _ _ _ e => e)).keep (Chg.alloc _ _ No) (fun _ _ e => e) (fun _ _ _ e => e))
      have hn5 : (nodA n').size = 5 := rfl
      have HSz : Hid (gr ≤ w4.heap.size) := hid (by have := (HC3.out.tr HC4.out).size; rw [HGr.out]; exact this)
      have HMl : Hid (M.length ≤ 1000000) := hid (by omega)
      clear hFi c1 HG3l
      go_wp2_with (first
        | (refine load_R rfl 47 _ rfl g6 rfl 47 (nodA n') _ HG4.out Try.underlying47 rfl sz ?_)
        | (refine wp_appN1 rfl _ _ rfl gr w4.heap.size 1 u4 M n' rfl rfl (HN4.out _) (heap_alloc_new _ _) HMl.out (by have := HSz.out; simp; omega) ((HBy.out.call HC4.out).call (Chg.alloc _ _ No)) (fun g o e hne => by obtain ⟨A, hA⟩ := HLo.out g o e hne; exact ⟨A, (Chg.alloc _ _ No).keep (HC4.out.keep hA (fun e => e)) (fun e => e)⟩) ?_; intro v' w' h1 h2; have H1 := hid h1; have H2 := hid h2; clear h1 h2)
        | fail)
      have hRf : Rd w' gr b o2 (flatB (L.drop (j + 1))) cap2 false := ((HR3.out.call HC4.out).call (Chg.alloc w4 (.cells (nodA n') 47) No)).keep H2.out (fun e => by obtain ⟨_, A, hA⟩ := (HN4.out (.cells (nodA n') 47)).blk e; rw [((HR3.out.call HC4.out).call (Chg.alloc w4 (.cells (nodA n') 47) No)).me] at hA; cases hA) (fun e => by have := ((HN4.out (.cells (nodA n') 47)).blk e).1; have := HBl.out; omega)
      have hCf : Chg w w' No := ((HC3.out.tr HC4.out).tr (Chg.alloc w4 (.cells (nodA n') 47) No)).trans H2.out (fun _ _ e => e) (fun k hk e => by have := ((HN4.out (.cells (nodA n') 47)).blk e).1; have := HGr.out; omega)
      have hAf : ∀ i, i < j + 1 → alikeN (L.getD i Nod.z) ((M ++ [n']).getD i Nod.z) := fun i hi => by
        rcases getD_snoc M n' i (by simp; omega) with ⟨e1, e2⟩ | ⟨e1, e2⟩
        · rw [e2]
          exact HAl.out i (by omega)
        · rw [e2, e1, hMj]
          exact HAl2.out
      have hMs : lenAt w' gr < lenAt wr gr := by
        have : lenAt w' gr = (flatB (L.drop (j + 1))).length := by unfold lenAt; rw [hRf.c0]
        rw [this, HMe.out, HQ.out, nodeB_len]
        omega
      first
        | exact ⟨⟨j + 1, M ++ [n'], o2, cap2, by omega, hid hRf, H1, by simp; omega, hid hAf, hid hCf⟩, hMs⟩
        | (go_roundw; (case rel => exact ⟨j + 1, M ++ [n'], o2, cap2, by omega, hid hRf, H1, by simp; omega, hid hAf, hid hCf⟩); (case measure => exact hMs))
        | (trace_state; sorry)
end Go.Proofs.Ytiakfgplhdbaeaa
