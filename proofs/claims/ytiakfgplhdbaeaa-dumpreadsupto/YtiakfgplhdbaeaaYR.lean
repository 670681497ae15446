/-
  The document's Read of any bytes.
-/
import Derived.Test.YtiakfgplhdbaeaaYO
namespace Go.Proofs.Ytiakfgplhdbaeaa
open Go.RowKit

/-- A list of nodes that is owned; their bytes lie in rows of bytes. -/
structure ND (w : World) (B : Nat) (v : Value) (M : List Nod) : Prop where
  row : w.ownsRow B 47 5 v M.length (M.flatMap rowN)
  data : ∀ (i : Nat) n, M[i]? = some n → BytesAt w n.da n.data
  low : ∀ (i : Nat) n g o, M[i]? = some n → n.da = some ⟨g, o, none⟩ → B ≤ g ∧ ∃ A f, w.heap[g]? = some (.cells A 5 f)
section
variable {w w' : World} {B : Nat} {v : Value} {M : List Nod} {ks : Nat → Prop}
theorem ND.nil (w : World) (B : Nat) : ND w B (.slice none 0 0) [] := ⟨World.ownsRow_nil w B 47 5, fun i n h => (by simp at h), fun i n g o h => (by simp at h)⟩
theorem ND.blk (h : ND w B v M) {k : Nat} (e : v.ownBlock = some k) : B ≤ k ∧ ∃ A, w.heap[k]? = some (.cells A 47 (0, 0)) := by
  rcases h.row.2 with ⟨rfl, _⟩ | ⟨g, cap, cur, rfl, hg, hb, _⟩
  · simp [Value.ownBlock] at e
  · have e : g = k := by simpa [Value.ownBlock] using e
    subst e
    exact ⟨hg, cur, hb⟩
theorem ND.keep (h : ND w B v M) (hc : Chg w w' ks) (hn : ∀ k, v.ownBlock = some k → ¬ ks k) (h8 : ∀ k A f, w.heap[k]? = some (.cells A 5 f) → ¬ ks k) : ND w' B v M := by
  refine ⟨⟨h.row.1, ?_⟩, fun i n hi => (h.data i n hi).keep hc (fun g o e => ?_), fun i n g o hi e => ?_⟩
  · rcases h.row.2 with h | ⟨g, cap, cur, rfl, hg, hk, r⟩
    · exact .inl h
    · exact .inr ⟨g, cap, cur, rfl, hg, hc.keep hk (hn g rfl), r⟩
  · obtain ⟨_, A, f, hA⟩ := h.low i n g o hi e
    exact h8 g A f hA
  · obtain ⟨hB, A, f, hA⟩ := h.low i n g o hi e
    exact ⟨hB, A, f, hc.keep hA (h8 g A f hA)⟩
theorem ND.call (h : ND w B v M) (hc : Chg w w' No) : ND w' B v M := h.keep hc (fun _ _ e => e) (fun _ _ _ _ e => e)
theorem ND.nat (h : ND w B v M) : ∃ a cap, v = .slice a M.length cap ∧ NAt w a M := by
  have hd : ∀ i, i < M.length → BytesAt w (M.getD i Nod.z).da (M.getD i Nod.z).data := fun i hi => h.data i _ (getD_some hi)
  rcases h.row.2 with ⟨rfl, e⟩ | ⟨g, cap, cur, rfl, hg, hb, hc, hm, hs, ht⟩
  · have e : M = [] := List.length_eq_zero_iff.1 e
    subst e
    exact ⟨none, 0, rfl, .inl rfl, hd⟩
  · refine ⟨some ⟨g, 0, none⟩, cap, rfl, .inr ⟨g, 0, rfl, slt hb, fun i hi j x hx => ?_⟩, hd⟩
    have h1 := flat_row M i j x hi hx
    rw [Nat.zero_add, cell_of_row _ _ _ _ _ _ hb, ← Array.getElem?_toList]
    rw [← ht, List.getElem?_take] at h1
    split at h1
    · exact h1
    · cases h1
end
section
variable {ops : Array Oper} {rest : List Oper} {o : Oper} {a : Act} {Q : Exit → Act → World → Prop} {w : World}
/-- append of one node. -/
theorem wp_appN3 (hg : o.guard = none) (s x : Operand) (hop : o.op = .call { callee := .builtin .append, args := #[s, x], argTypes := #[22, 22] }) (B g c : Nat) (v : Value) (M : List Nod) (n : Nod) (hs : a.eval s = v) (hx : a.eval x = .slice (some ⟨g, 0, none⟩) 1 c)
    (hown : ND w B v M) (hat : w.heap[g]? = some (.cells (nodA n) 47 (0, 0))) (hl : M.length ≤ 1000000) (hB : B ≤ w.heap.size) (hd : BytesAt w n.da n.data) (hlo : ∀ g o, n.da = some ⟨g, o, none⟩ → B ≤ g ∧ ∃ A f, w.heap[g]? = some (.cells A 5 f))
    (hK : ∀ v' w', ND w' B v' (M ++ [n]) → Chg w w' (fun k => v.ownBlock = some k) → wpList Try.prog ops Q rest (a.put o.dst v') w') : wpList Try.prog ops Q (o :: rest) a w := by
  obtain ⟨i, hi, hz, hsz, hby⟩ := infoNd
  refine wpList_append_own_at w hg s x 22 hop B 47 i _ 5 72 Try.underlying22 hi hz hsz hby rfl (by decide) v M.length (M.flatMap rowN) hs hown.row ⟨g, 0, none⟩ 1 c (rowN n) hx rfl (fun j u hj => ?_) (fun u hu => ?_) (by unfold maxLen; omega) (by omega) hB ?_
  · rw [addr_add, Nat.zero_add, cell_of_row _ _ _ _ _ _ hat]
    simpa [rowN] using hj
  · have := nodA_one n
    exact (Array.all_eq_true_iff_forall_mem.1 this) u (by simpa [rowN] using hu)
  · intro v' w' h1 h2 _ _
    have hc : Chg w w' (fun k => v.ownBlock = some k) := (Chg.grown h2).mono fun j _ e => e.symm
    have h8 : ∀ k A f, w.heap[k]? = some (.cells A 5 f) → ¬ v.ownBlock = some k := fun k A f hA e => by
      obtain ⟨_, C, hC⟩ := hown.blk e
      rw [hA] at hC
      cases hC
    have split : ∀ (j : Nat) m, (M ++ [n])[j]? = some m → M[j]? = some m ∨ m = n := fun j m hm => by
      rcases Nat.lt_or_ge j M.length with k | k
      · rw [List.getElem?_append_left k] at hm; exact .inl hm
      · rw [List.getElem?_append_right k] at hm
        cases e : j - M.length with
        | zero => rw [e] at hm; simp at hm; exact .inr hm.symm
        | succ q => rw [e] at hm; simp at hm
    refine hK v' w' ⟨?_, fun j m hm => ?_, fun j m g o hm e => ?_⟩ hc
    · rw [List.length_append, List.flatMap_append]
      simpa using h1
    · rcases split j m hm with e1 | rfl
      · exact (hown.data j m e1).keep hc (fun g o e => by obtain ⟨_, A, f, hA⟩ := hown.low j m g o e1 e; exact h8 g A f hA)
      · exact hd.keep hc (fun g o e => by obtain ⟨_, A, f, hA⟩ := hlo g o e; exact h8 g A f hA)
    · rcases split j m hm with e1 | rfl
      · obtain ⟨hb, A, f, hA⟩ := hown.low j m g o e1 e; exact ⟨hb, A, f, hc.keep hA (h8 g A f hA)⟩
      · obtain ⟨hb, A, f, hA⟩ := hlo g o e; exact ⟨hb, A, f, hc.keep hA (h8 g A f hA)⟩
end

set_option maxHeartbeats 4000000 in
set_option maxRecDepth 100000 in
theorem rread_any {a : Option Addr} {cap : Nat} (zs : List Int) (w : World) (h : BytesAt w a zs) (hcp : zs.length ≤ cap) (hr : okB zs) (hl : zs.length ≤ 4000000) :
    Calls Try.prog 15 #[.slice a zs.length cap] w fun e w' => ∃ v M, e = .returned (.tuple #[v, .int .i64 (readE zs)]) ∧ ND w' w.heap.size v M ∧ Alike (readL zs) M ∧ Chg w w' No := by
  have HOk := hid hr
  have HOne : Hid (∀ W (k : Nat), Chg w W No → k < zs.length → Calls Try.prog 25 #[.slice a zs.length cap, .int .i64 (k : Int)] W fun e w' => OnePost zs k W e w') := hid (fun W k hW hk => rone_any k W (h.call hW) hr hl hcp hk)
  obtain ⟨n0, hn0⟩ : ∃ y, y = zs.length := ⟨_, rfl⟩
  obtain ⟨RE, hRE⟩ : ∃ y, y = readE zs := ⟨_, rfl⟩
  obtain ⟨RL, hRL⟩ : ∃ y, y = readL zs := ⟨_, rfl⟩
  rw [← hn0] at hl HOne
  rw [← hn0, ← hRE, ← hRL]
  have HN0 := hid hn0
  have HRES : Hid (∀ L, readZ n0 zs = some L → RE = 0 ∧ RL = L) := hid (fun L e => by rw [hRE, hRL]; unfold readE readL; rw [← hn0, e]; exact ⟨rfl, rfl⟩)
  have HREN : Hid (readZ n0 zs = none → RE = 170 ∧ RL = []) := hid (fun e => by rw [hRE, hRL]; unfold readE readL; rw [← hn0, e]; exact ⟨rfl, rfl⟩)
  obtain ⟨B, hB⟩ : ∃ y, y = w.heap.size := ⟨_, rfl⟩
  rw [← hB]
  have HBe := hid hB
  clear h hcp hr hn0 hRE hRL hB
  go_enter Try.func15, Try.ntmps15
  go_wp2_with fail
  go_loopw [4, 5] (fun x4 x5 wr => ∃ (k f : Nat) (L M : List Nod), x5 = .int .i64 (k : Int) ∧ k ≤ n0 ∧ Hid (ND wr B x4 M) ∧ Hid (Alike L M) ∧ Hid ((zs.drop k).length ≤ f) ∧ Hid (M.length * 21 ≤ k) ∧ Hid (readZ n0 zs = (readZ f (zs.drop k)).map (L ++ ·)) ∧ Hid (Chg w wr No)) (fun _ x5 _ => n0 - (intOf x5).toNat)
  case atStart => exact ⟨0, n0, [], [], rfl, Nat.zero_le _, hid (ND.nil _ _), hid Alike.nil, hid (by rw [HN0.out]; simp), hid (by simp), hid (by rw [List.drop_zero]; cases readZ n0 zs <;> rfl), hid (Chg.refl _ _)⟩
  case round =>
    obtain ⟨k, f, L, M, rfl, hk, HNo, HAl, HF, HM, HZ, HC⟩ := hrel
    by_cases e : k = n0
    · subst e
      obtain ⟨x1, x2⟩ := HRES.out L (by rw [HZ.out, List.drop_eq_nil_of_le (by rw [HN0.out]; exact Nat.le_refl _), read_nil0]; simp)
      have HX1 := hid x1
      have HX2 := hid x2
      clear x1 x2
      go_wp2_with fail
      go_ret2
      exact ⟨u4, M, by rw [HX1.out]; rfl, HNo.out, by rw [HX2.out]; exact HAl.out, HC.out⟩
    · have f1 : (k : Int) < (n0 : Int) := by omega
      have hOne := HOne.out wr k HC.out (by omega)
      have hdl : (zs.drop k).length = n0 - k := by rw [List.length_drop, ← HN0.out]
      have HDl := hid hdl
      have HK : Hid (k < n0) := hid (by omega)
      cases hO : oneZ (zs.drop k) with
      | none =>
        obtain ⟨x1, x2⟩ := HREN.out (by rw [HZ.out, read_none (by omega) hO]; rfl)
        have HX1 := hid x1
        have HX2 := hid x2
        have hT : Calls Try.prog 25 #[.slice a n0 cap, .int .i64 (k : Int)] wr fun e w' => ∃ m, e = .returned (.tuple #[.agg (nodA m), .int .i64 0, .bool false]) ∧ Chg wr w' No := hOne.mono (by
          rintro e w' ⟨h1, ⟨_, m, h2⟩ | ⟨n, r, da, dc, fin, h2, _⟩⟩
          · exact ⟨m, h2, h1⟩
          · rw [hO] at h2; cases h2)
        clear x1 x2 hO hOne hdl
        go_wp2_with (first
          | (go_at_call 25; go_must (refine hT.mono ?_; rintro e w2 ⟨m, rfl, hc2⟩; have HC2 := hid hc2; clear hc2))
          | (refine store_R rfl 47 _ _ rfl w2.heap.size (nodA m) rfl rfl 47 _ (heap_alloc_new _ _) (nodA_sz _) rfl (nodA_one _) ?_; intro w3 hw3)
          | fail)
        have h23 : Chg w2 w3 No := (Chg.alloc w2 _ No).trans (kt_new hw3) (fun _ _ e => e) (fun k hk e => by omega)
        go_ret2
        exact ⟨.slice none 0 0, [], by rw [HX1.out]; rfl, ND.nil _ _, by rw [HX2.out]; exact Alike.nil, (HC.out.tr HC2.out).tr h23⟩
      | some nr =>
        obtain ⟨n, r⟩ := nr
        have hT : Calls Try.prog 25 #[.slice a n0 cap, .int .i64 (k : Int)] wr fun e w' => ∃ da dc fin, e = .returned (.tuple #[.agg (nodA { n with da := da, dc := dc }), .int .i64 ((fin : Nat) : Int), .bool true]) ∧ Chg wr w' No ∧ r = zs.drop fin ∧ fin ≤ n0 ∧ BytesAt w' da n.data ∧ ∀ g o, da = some ⟨g, o, none⟩ → wr.heap.size ≤ g ∧ ∃ A f, w'.heap[g]? = some (.cells A 5 f) := hOne.mono (by
          rintro e w' ⟨h1, ⟨h2, _⟩ | ⟨n, r, da, dc, fin, h2, h3, h4, h5, h6, h7⟩⟩
          · rw [hO] at h2; cases h2
          · rw [hO] at h2; cases h2; exact ⟨da, dc, fin, h5, h1, h3, by rw [HN0.out]; exact h4, h6, h7⟩)
        obtain ⟨t1, t2⟩ := read_step (HOk.out.drop k) HF.out hO
        have HT1 := hid t1
        have HT2 := hid t2
        clear hO hOne hdl t1 t2
        go_upto_region 5 with (first
          | (go_at_call 25; go_must (refine hT.mono ?_; rintro e w2 ⟨da, dc, fin, rfl, hc2, hr2, hf2, hb2, hl2⟩; have HC2 := hid hc2; have HR2 := hid hr2; have HF2 := hid hf2; have HB2 := hid hb2; have HL2 := hid hl2; clear hc2 hr2 hb2 hl2))
          | (refine store_R rfl 47 _ _ rfl w2.heap.size (nodA { n with da := da, dc := dc }) rfl rfl 47 _ (heap_alloc_new _ _) (nodA_sz _) rfl (nodA_one _) ?_; intro w3 hw3)
          | fail)
        have h23 : Chg w2 w3 No := (Chg.alloc w2 _ No).trans (kt_new hw3) (fun _ _ e => e) (fun k hk e => by omega)
        obtain ⟨n', hn'⟩ : ∃ y : Nod, y = { n with da := da, dc := dc } := ⟨_, rfl⟩
        rw [← hn'] at hw3 ⊢
        obtain ⟨g6, hg6⟩ : ∃ y, y = w2.heap.size := ⟨_, rfl⟩
        have HG3 : Hid (w3.heap[g6]? = some (.cells (nodA n') 47 (0, 0))) := hid (by rw [hg6]; exact hw3.here)
        rw [← hg6]
        have HC3 : Hid (Chg wr w3 No) := hid (HC2.out.tr h23)
        have HAn : Hid (alikeN n n') := hid (by rw [hn']; exact ⟨rfl, rfl, rfl, rfl, rfl⟩)
        have HN4 : Hid (∀ X, ND (w3.alloc X) B u4 M) := hid (fun X => (HNo.out.call HC3.out).call (Chg.alloc _ _ No))
        have HBw : Hid (B ≤ wr.heap.size) := hid (by rw [HBe.out]; exact HC.out.size)
        have HBy : Hid (∀ X, BytesAt (w3.alloc X) n'.da n'.data) := hid (fun X => by have := (HB2.out.call h23).call (Chg.alloc w3 X No); rw [hn']; exact this)
        have HLo : Hid (∀ X g o, n'.da = some ⟨g, o, none⟩ → B ≤ g ∧ ∃ A f, (w3.alloc X).heap[g]? = some (.cells A 5 f)) := hid (fun X g o e => by
          rw [hn'] at e
          obtain ⟨h1, A, f, h2⟩ := HL2.out g o e
          exact ⟨Nat.le_trans HBw.out h1, A, f, (Chg.alloc w3 X No).keep (h23.keep h2 (fun e => e)) (fun e => e)⟩)
        have hn5 : (nodA n').size = 5 := rfl
        have sz := nodA_sz n'
        have hbs : ∀ W, (Instr.buildSlice 22 1 #[(0, .agg (nodA n'))]).run Try.prog W = .ok (.slice (some ⟨W.heap.size, 0, none⟩) 1 1) (W.alloc (.cells (nodA n') 47)) := fun W => by kernel_rfl
        have HSz : Hid (B ≤ w3.heap.size) := hid (by have := HC3.out.size; have := HBw.out; omega)
        have HMl : Hid (M.length ≤ 1000000) := hid (by have := HM.out; omega)
        have HFin : Hid (n0 - fin + 21 ≤ n0 - k) := hid (by have h1 := HT2.out; rw [HR2.out, List.length_drop, ← HN0.out, HDl.out] at h1; exact h1)
        have HZ2 : Hid (readZ n0 zs = (readZ (f - 1) (zs.drop fin)).map ((L ++ [n]) ++ ·)) := hid (by rw [HZ.out, HT1.out, HR2.out]; cases readZ (f - 1) (zs.drop fin) <;> simp)
        have HFf : Hid ((zs.drop fin).length ≤ f - 1) := hid (by have h1 := HF.out; rw [HDl.out] at h1; rw [List.length_drop, ← HN0.out]; have := HFin.out; have := HK.out; omega)
        have HM2 : Hid ((M.length + 1) * 21 ≤ fin) := hid (by have h1 := HM.out; have h2 := HFin.out; have h3 := HF2.out; have h4 := HK.out; omega)
        have HMs : Hid (n0 - fin < n0 - k) := hid (by have := HFin.out; omega)
        clear hT hw3 h23 hn' hg6 HB2 HL2
        go_wp2_with (first
          | (refine load_R rfl 47 _ rfl g6 rfl 47 (nodA n') _ HG3.out Try.underlying47 rfl sz ?_)
          | (refine wp_appN3 rfl _ _ rfl B w3.heap.size 1 u4 M n' rfl rfl (HN4.out _) (heap_alloc_new _ _) HMl.out (by have := HSz.out; simp; omega) (HBy.out _) (HLo.out _) ?_; intro v' w' h1 h2; have H1 := hid h1; have H2 := hid h2; clear h1 h2)
          | fail)
        have hCf : Chg w w' No := ((HC.out.tr HC3.out).tr (Chg.alloc w3 (.cells (nodA n') 47) No)).trans H2.out (fun _ _ e => e) (fun k hk e => by have := ((HN4.out (.cells (nodA n') 47)).blk e).1; have := HBe.out; omega)
        exact ⟨⟨fin, f - 1, L ++ [n], M ++ [n'], rfl, HF2.out, H1, hid (HAl.out.more HAn.out), HFf, hid (by rw [List.length_append]; exact HM2.out), HZ2, hid hCf⟩, by simp [intOf]; exact HMs.out⟩
end Go.Proofs.Ytiakfgplhdbaeaa
