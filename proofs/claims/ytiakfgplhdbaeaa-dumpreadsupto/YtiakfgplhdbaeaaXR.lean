/-
  package dump: Read of any bytes; what it tells is its asker's alone.
-/
import Derived.Test.YtiakfgplhdbaeaaXO
import Derived.Test.YtiakfgplhdbaeaaRP
namespace Go.Proofs.Ytiakfgplhdbaeaa
open Go.RowKit

def dataV (n : Nod) : Value := .slice n.da n.data.length n.dc
/-- A list of nodes that is owned; each one's bytes lie in a block of their own. -/
structure NO2 (w : World) (B : Nat) (v : Value) (M : List Nod) : Prop where
  row : w.ownsRow B 47 5 v M.length (M.flatMap rowN)
  own : ∀ (i : Nat) n, M[i]? = some n → BOw w B (dataV n) n.data
  two : ∀ (i j : Nat) m n g, M[i]? = some m → M[j]? = some n → (dataV m).ownBlock = some g → (dataV n).ownBlock = some g → i = j
section
variable {w w' : World} {B : Nat} {v : Value} {M : List Nod} {ks : Nat → Prop}
theorem NO2.nil (w : World) (B : Nat) : NO2 w B (.slice none 0 0) [] := ⟨World.ownsRow_nil w B 47 5, fun i n h => (by simp at h), fun i j m n g h => (by simp at h)⟩
theorem getD_some {M : List Nod} {i : Nat} (h : i < M.length) : M[i]? = some (M.getD i Nod.z) := by rw [List.getD_eq_getElem?_getD, List.getElem?_eq_getElem h]; rfl
theorem NO2.now (h : NO2 w B v M) : NOw w B v M := by
  refine ⟨h.row, fun i hi => ?_, fun i hi g o e hne => ?_⟩
  · exact (bow_u8 (h.own i _ (getD_some hi))).1
  · obtain ⟨A, hA⟩ := (bow_u8 (h.own i _ (getD_some hi))).2 g o e hne
    exact ⟨A, _, hA, rfl⟩
theorem NO2.blk (h : NO2 w B v M) {k : Nat} (e : v.ownBlock = some k) : B ≤ k ∧ ∃ A, w.heap[k]? = some (.cells A 47 (0, 0)) := h.now.blk e
theorem NO2.keep (h : NO2 w B v M) (hc : Chg w w' ks) (hn : ∀ k, v.ownBlock = some k → ¬ ks k) (h8 : ∀ k A, w.heap[k]? = some (.cells A 5 (0, 0)) → ¬ ks k) : NO2 w' B v M :=
  ⟨(h.now.keep hc hn h8).row, fun i n hi => (h.own i n hi).keep hc (fun k e => by obtain ⟨_, A, hA⟩ := (h.own i n hi).blk e; exact h8 k A hA), h.two⟩
theorem NO2.call (h : NO2 w B v M) (hc : Chg w w' No) : NO2 w' B v M := h.keep hc (fun _ _ e => e) (fun _ _ _ e => e)
end
section
variable {ops : Array Oper} {rest : List Oper} {o : Oper} {a : Act} {Q : Exit → Act → World → Prop} {w : World}
/-- append of one node. -/
theorem wp_appN2 (hg : o.guard = none) (s x : Operand) (hop : o.op = .call { callee := .builtin .append, args := #[s, x], argTypes := #[22, 22] }) (B g c : Nat) (v : Value) (M : List Nod) (n : Nod) (hs : a.eval s = v) (hx : a.eval x = .slice (some ⟨g, 0, none⟩) 1 c)
    (hown : NO2 w B v M) (hat : w.heap[g]? = some (.cells (nodA n) 47 (0, 0))) (hl : M.length ≤ 1000000) (hB : B ≤ w.heap.size) (hd : BOw w B (dataV n) n.data) (hap : ∀ (i : Nat) m g, M[i]? = some m → (dataV n).ownBlock = some g → (dataV m).ownBlock ≠ some g)
    (hK : ∀ v' w', NO2 w' B v' (M ++ [n]) → Chg w w' (fun k => v.ownBlock = some k) → wpList Try.prog ops Q rest (a.put o.dst v') w') : wpList Try.prog ops Q (o :: rest) a w := by
  obtain ⟨i, hi, hz, hsz, hby⟩ := infoNd
  refine wpList_append_own_at w hg s x 22 hop B 47 i _ 5 72 Try.underlying22 hi hz hsz hby rfl (by decide) v M.length (M.flatMap rowN) hs hown.row ⟨g, 0, none⟩ 1 c (rowN n) hx rfl (fun j u hj => ?_) (fun u hu => ?_) (by unfold maxLen; omega) (by omega) hB ?_
  · rw [addr_add, Nat.zero_add, cell_of_row _ _ _ _ _ _ hat]
    simpa [rowN] using hj
  · have := nodA_one n
    exact (Array.all_eq_true_iff_forall_mem.1 this) u (by simpa [rowN] using hu)
  · intro v' w' h1 h2 _ _
    have hc : Chg w w' (fun k => v.ownBlock = some k) := (Chg.grown h2).mono fun j _ e => e.symm
    have h8 : ∀ k A, w.heap[k]? = some (.cells A 5 (0, 0)) → ¬ v.ownBlock = some k := fun k A hA e => by
      obtain ⟨_, C, hC⟩ := hown.blk e
      rw [hA] at hC
      cases hC
    have hput : ∀ m, BOw w B (dataV m) m.data → BOw w' B (dataV m) m.data := fun m hm => hm.keep hc (fun k e => by obtain ⟨_, A, hA⟩ := hm.blk e; exact h8 k A hA)
    have split : ∀ (j : Nat) m, (M ++ [n])[j]? = some m → (M[j]? = some m ∧ j < M.length) ∨ (m = n ∧ j = M.length) := fun j m hm => by
      rcases Nat.lt_or_ge j M.length with k | k
      · rw [List.getElem?_append_left k] at hm; exact .inl ⟨hm, k⟩
      · rw [List.getElem?_append_right k] at hm
        cases e : j - M.length with
        | zero => rw [e] at hm; simp at hm; exact .inr ⟨hm.symm, by omega⟩
        | succ q => rw [e] at hm; simp at hm
    refine hK v' w' ⟨?_, fun j m hm => ?_, fun j k m m' g h3 h4 h5 h6 => ?_⟩ hc
    · rw [List.length_append, List.flatMap_append]
      simpa using h1
    · rcases split j m hm with ⟨e1, _⟩ | ⟨rfl, _⟩
      · exact hput m (hown.own j m e1)
      · exact hput m hd
    · rcases split j m h3 with ⟨e1, l1⟩ | ⟨rfl, l1⟩
      · rcases split k m' h4 with ⟨e2, l2⟩ | ⟨rfl, l2⟩
        · exact hown.two j k m m' g e1 e2 h5 h6
        · exact absurd h5 (hap j m g e1 h6)
      · rcases split k m' h4 with ⟨e2, l2⟩ | ⟨rfl, l2⟩
        · exact absurd h6 (hap k m' g e2 h5)
        · omega
end
def Alike (L M : List Nod) : Prop := M.length = L.length ∧ ∀ i, i < L.length → alikeN (L.getD i Nod.z) (M.getD i Nod.z)
theorem Alike.nil : Alike [] [] := ⟨rfl, fun _ hi => absurd hi (Nat.not_lt_zero _)⟩
theorem Alike.more {L M : List Nod} {n m : Nod} (h : Alike L M) (hn : alikeN n m) : Alike (L ++ [n]) (M ++ [m]) := by
  refine ⟨by simp [h.1], fun i hi => ?_⟩
  rcases getD_snoc L n i hi with ⟨e1, e2⟩ | ⟨e1, e2⟩
  · rw [e2, getD_left (by rw [h.1]; exact e1)]
    exact h.2 i e1
  · rw [e2, e1, ← h.1, getD_last]
    exact hn
def readL (zs : List Int) : List Nod := (readZ zs.length zs).getD []
def readE (zs : List Int) : Int := if (readZ zs.length zs).isSome then 0 else 170

set_option maxHeartbeats 4000000 in
set_option maxRecDepth 100000 in
theorem read_any {b o cap : Nat} (zs : List Int) (w : World) (h : At8 w b o zs) (hcp : zs.length ≤ cap) (hr : okB zs) (hl : zs.length ≤ 4000000) :
    Calls Try.prog 14 #[.slice (some ⟨b, o, none⟩) zs.length cap] w fun e w' => ∃ v M, e = .returned (.tuple #[v, .int .i64 (readE zs)]) ∧ NO2 w' w.heap.size v M ∧ Alike (readL zs) M ∧ Chg w w' No := by
  have hb : ∀ W n, (Instr.build 52 #[(0, .slice (some ⟨b, o, none⟩) n cap)]).run Try.prog W = .ok (.agg #[.slice (some ⟨b, o, none⟩) n cap, .bool false]) W := fun W n => by kernel_rfl
  have HA := hid h
  have HCp := hid hcp
  have HOk := hid hr
  obtain ⟨n0, hn0⟩ : ∃ y, y = zs.length := ⟨_, rfl⟩
  obtain ⟨RE, hRE⟩ : ∃ y, y = readE zs := ⟨_, rfl⟩
  obtain ⟨RL, hRL⟩ : ∃ y, y = readL zs := ⟨_, rfl⟩
  rw [← hn0] at hl
  rw [← hn0, ← hRE, ← hRL]
  have HN0 := hid hn0
  have HRES : Hid (∀ L, readZ n0 zs = some L → RE = 0 ∧ RL = L) := hid (fun L e => by rw [hRE, hRL]; unfold readE readL; rw [← hn0, e]; exact ⟨rfl, rfl⟩)
  have HREN : Hid (readZ n0 zs = none → RE = 170 ∧ RL = []) := hid (fun e => by rw [hRE, hRL]; unfold readE readL; rw [← hn0, e]; exact ⟨rfl, rfl⟩)
  clear h hcp hr hn0 hRE hRL
  go_enter Try.func14, Try.ntmps14
  go_wp2_with (first
    | (refine store_R rfl 52 _ _ rfl w.heap.size #[.slice (some ⟨b, o, none⟩) n0 cap, .bool false] rfl rfl 52 _ (heap_alloc_new _ _) (by rw [szRd2]; rfl) rfl (by simp [Value.oneCell']) ?_; intro w1 hw1)
    | fail)
  have hc1 : Chg w w1 No := (Chg.alloc w _ No).trans (kt_new hw1) (fun _ _ e => e) (fun j hj e => by omega)
  obtain ⟨gr, hgr⟩ : ∃ y, y = w.heap.size := ⟨_, rfl⟩
  have HRd1 : Hid (Rd w1 gr b o zs cap false) := hid ⟨by rw [hgr, ← HN0.out]; exact hw1.here, HA.out.keep hc1 (fun e => e), HCp.out, by have := HA.out.1; omega⟩
  have HC1 := hid hc1
  have HGr := hid hgr
  rw [← hgr]
  clear hw1 hc1 hgr hb
  go_frame
  go_loopw [4] (fun x4 wr => ∃ (f : Nat) (ys : List Int) (L M : List Nod) (o' cap' : Nat), Hid (Rd wr gr b o' ys cap' false) ∧ Hid (NO2 wr gr x4 M) ∧ Hid (Alike L M) ∧ Hid (okB ys) ∧ Hid (ys.length ≤ f) ∧ Hid (M.length * 21 + ys.length ≤ n0) ∧ Hid (readZ n0 zs = (readZ f ys).map (L ++ ·)) ∧ Hid (Chg w wr No)) (fun _ wr => lenAt wr gr)
  case atStart => exact ⟨n0, zs, [], [], o, cap, HRd1, hid (NO2.nil _ _), hid Alike.nil, HOk, hid (by rw [HN0.out]; exact Nat.le_refl _), hid (by rw [HN0.out]; simp), hid (by cases readZ n0 zs <;> rfl), HC1⟩
  case round =>
    obtain ⟨f, ys, L, M, o', cap', HRd, HNo, HAl, HOy, HF, HM, HZ, HC⟩ := hrel
    clear HRd1 HC1
    have c0 := HRd.out.c0
    by_cases e : ys.length = 0
    · rw [e] at c0
      obtain ⟨x1, x2⟩ := HRES.out L (by rw [HZ.out, List.eq_nil_of_length_eq_zero e, read_nil0]; simp)
      have HX1 := hid x1
      have HX2 := hid x2
      clear x1 x2
      go_wp2_with fail
      go_ret2
      exact ⟨u4, M, by rw [HX1.out]; rfl, by rw [← HGr.out]; exact HNo.out, by rw [HX2.out]; exact HAl.out, HC.out⟩
    · obtain ⟨q, hq⟩ : ∃ y, y = ys.length := ⟨_, rfl⟩
      rw [← hq] at c0
      have hq0 : 0 < q := by omega
      have f1 : (0 : Int) < (q : Int) := by omega
      have hNd := node_any wr HRd.out HOy.out (by have := HM.out; omega)
      have hno := nod_one HOy.out
      have HMe : Hid (lenAt wr gr = q) := hid (by unfold lenAt; rw [c0])
      have HQ := hid hq
      obtain ⟨X, hX⟩ : ∃ y, y = nodZ ys := ⟨_, rfl⟩
      rw [← hX] at hNd hno
      obtain ⟨n, zr, s⟩ := X
      simp only at hNd hno
      have HNO := hid hno
      clear hno hX hq e
      go_upto_region 5 with (first
        | (go_at_call 24; go_must (refine hNd.mono ?_; rintro e w2 ⟨⟨da, dc, rfl, hb2⟩, ⟨o2, cap2, hr2⟩, hc2⟩; have HB2 := hid hb2; have HR2 := hid hr2; have HC2 := hid hc2; clear hb2 hr2 hc2))
        | (refine store_R rfl 47 _ _ rfl w2.heap.size (nodA { n with da := da, dc := dc }) rfl rfl 47 _ (heap_alloc_new _ _) (nodA_sz _) rfl (nodA_one _) ?_; intro w3 hw3)
        | fail)
      have h23 : Chg w2 w3 No := (Chg.alloc w2 _ No).trans (kt_new hw3) (fun _ _ e => e) (fun k hk e => by omega)
      obtain ⟨n', hn'⟩ : ∃ y : Nod, y = { n with da := da, dc := dc } := ⟨_, rfl⟩
      rw [← hn'] at hw3 ⊢
      obtain ⟨g6, hg6⟩ : ∃ y, y = w2.heap.size := ⟨_, rfl⟩
      have HG3 : Hid (w3.heap[g6]? = some (.cells (nodA n') 47 (0, 0))) := hid (by rw [hg6]; exact hw3.here)
      rw [← hg6]
      have HFt : Hid (fitsB n' = fitsB n) := hid (by rw [hn']; rfl)
      have hFi := fits_any n' w3
      have HR3 := hid (HR2.out.call h23)
      have c1 := HR3.out.c1
      have HN3 : Hid (NO2 w3 gr u4 M) := hid ((HNo.out.keep HC2.out (fun k e f => by obtain ⟨_, A, hA⟩ := HNo.out.blk e; rw [f, HRd.out.me] at hA; cases hA) (fun k A hA f => by rw [f, HRd.out.me] at hA; cases hA)).call h23)
      have HB3 : Hid (BOw w3 wr.heap.size (dataV n') n'.data) := hid (by have := HB2.out.call h23; rw [hn']; exact this)
      have HMlt : Hid (∀ (i : Nat) m g, M[i]? = some m → (dataV m).ownBlock = some g → g < wr.heap.size) := hid (fun i m g hm e => by obtain ⟨_, A, hA⟩ := (HNo.out.own i m hm).blk e; exact slt hA)
      have HGw : Hid (gr ≤ wr.heap.size) := hid (by have := HC.out.size; have := HGr.out; omega)
      have HC3 : Hid (Chg w w3 No) := hid ((HC.out.trans HC2.out (fun _ _ e => e) (fun k hk e => by have := HGr.out; omega)).tr h23)
      have HAn : Hid (alikeN n n') := hid (by rw [hn']; exact ⟨rfl, rfl, rfl, rfl, rfl⟩)
      have sz := nodA_sz n'
      have HBl : Hid (b < gr) := hid (by rw [HGr.out]; exact HA.out.1)
      have HG3l : Hid ((loadVar 47 ⟨g6, 0, none⟩).run Try.prog w3 = .ok (.agg (nodA n')) w3) := hid (run_loadR w3 g6 47 47 (nodA n') _ HG3.out Try.underlying47 rfl sz)
      clear hNd hw3 h23 hn' hg6 c0 HNo HRd HC
      cases hO : oneZ ys with
      | none =>
        obtain ⟨x1, x2⟩ := HREN.out (by rw [HZ.out, read_none (by rw [← HQ.out]; exact hq0) hO]; rfl)
        have HX1 := hid x1
        have HX2 := hid x2
        have hs := HNO.out.1 hO
        clear x1 x2 hO HNO
        cases s
        · have hs := hs.resolve_left (by decide)
          rw [HFt.out, hs] at hFi
          clear hs
          go_upto_region 6 with (first
            | (refine load_W (by rfl) 47 _ rfl ⟨g6, 0, none⟩ rfl _ HG3l.out ?_)
            | (go_at_call 21; go_must (refine hFi.mono ?_; rintro e w4 ⟨rfl, hc4⟩; have HC4 := hid hc4; clear hc4))
            | fail)
          go_wp2_with fail
          go_ret2
          exact ⟨.slice none 0 0, [], by rw [HX1.out]; rfl, NO2.nil _ _, by rw [HX2.out]; exact Alike.nil, HC3.out.tr HC4.out⟩
        · clear hs
          go_upto_region 6 with fail
          go_wp2_with fail
          go_ret2
          exact ⟨.slice none 0 0, [], by rw [HX1.out]; rfl, NO2.nil _ _, by rw [HX2.out]; exact Alike.nil, HC3.out⟩
      | some nr =>
        obtain ⟨n2, r2⟩ := nr
        have hx := HNO.out.2 n2 r2 hO
        simp only [Prod.mk.injEq] at hx
        obtain ⟨rfl, rfl, rfl⟩ := hx
        obtain ⟨t1, t2⟩ := read_step HOy.out HF.out hO
        obtain ⟨_, t3, t4⟩ := one_some HOy.out hO
        rw [HFt.out, t3] at hFi
        have HZ2 : Hid (readZ n0 zs = (readZ (f - 1) zr).map ((L ++ [n]) ++ ·)) := hid (by rw [HZ.out, t1]; cases readZ (f - 1) zr <;> simp)
        have HF2 : Hid (zr.length ≤ f - 1) := hid (by have := HF.out; omega)
        have HM2 : Hid ((M.length + 1) * 21 + zr.length ≤ n0) := hid (by have := HM.out; omega)
        have HL2 : Hid (zr.length < q) := hid (by have := HQ.out; omega)
        have HOz := hid t4
        have HMl : Hid (M.length ≤ 1000000) := hid (by have := HM.out; omega)
        clear t1 t2 t3 t4 hO HNO HZ HF HM HRES HREN
        go_upto_region 7 with (first
          | (refine load_W (by rfl) 47 _ rfl ⟨g6, 0, none⟩ rfl _ HG3l.out ?_)
          | (go_at_call 21; go_must (refine hFi.mono ?_; rintro e w4 ⟨rfl, hc4⟩; have HC4 := hid hc4; clear hc4))
          | fail)
        have HG4 := hid (HC4.out.keep HG3.out (fun e => e))
        have HN4 : Hid (∀ X, NO2 (w4.alloc X) gr u4 M) := hid (fun X => (HN3.out.call HC4.out).call (Chg.alloc _ _ No))
        have HB4 : Hid (∀ X, BOw (w4.alloc X) gr (dataV n') n'.data) := hid (fun X => ((HB3.out.call HC4.out).call (Chg.alloc _ _ No)).lower HGw.out)
        have HAp : Hid (∀ (i : Nat) m g, M[i]? = some m → (dataV n').ownBlock = some g → (dataV m).ownBlock ≠ some g) := hid (fun i m g hm e1 e2 => by have h1 := (HB3.out.blk e1).1; have h2 := HMlt.out i m g hm e2; omega)
        have hn5 : (nodA n').size = 5 := rfl
        have hbs : ∀ W, (Instr.buildSlice 22 1 #[(0, .agg (nodA n'))]).run Try.prog W = .ok (.slice (some ⟨W.heap.size, 0, none⟩) 1 1) (W.alloc (.cells (nodA n') 47)) := fun W => by kernel_rfl
        have HSz : Hid (gr ≤ w4.heap.size) := hid (by have := (HC3.out.tr HC4.out).size; rw [HGr.out]; exact this)
        clear hFi c1 HG3l
        go_wp2_with (first
          | (refine load_R rfl 47 _ rfl g6 rfl 47 (nodA n') _ HG4.out Try.underlying47 rfl sz ?_)
          | (refine wp_appN2 rfl _ _ rfl gr w4.heap.size 1 u4 M n' rfl rfl (HN4.out _) (heap_alloc_new _ _) HMl.out (by have := HSz.out; simp; omega) (HB4.out _) HAp.out ?_; intro v' w' h1 h2; have H1 := hid h1; have H2 := hid h2; clear h1 h2)
          | fail)
        have hRf : Rd w' gr b o2 zr cap2 false := ((HR3.out.call HC4.out).call (Chg.alloc w4 (.cells (nodA n') 47) No)).keep H2.out (fun e => by obtain ⟨_, A, hA⟩ := (HN4.out (.cells (nodA n') 47)).blk e; rw [((HR3.out.call HC4.out).call (Chg.alloc w4 (.cells (nodA n') 47) No)).me] at hA; cases hA) (fun e => by have := ((HN4.out (.cells (nodA n') 47)).blk e).1; have := HBl.out; omega)
        have hCf : Chg w w' No := ((HC3.out.tr HC4.out).tr (Chg.alloc w4 (.cells (nodA n') 47) No)).trans H2.out (fun _ _ e => e) (fun k hk e => by have := ((HN4.out (.cells (nodA n') 47)).blk e).1; have := HGr.out; omega)
        have hMs : lenAt w' gr < lenAt wr gr := by
          have : lenAt w' gr = zr.length := by unfold lenAt; rw [hRf.c0]
          rw [this, HMe.out]
          exact HL2.out
        first
          | exact ⟨⟨f - 1, zr, L ++ [n], M ++ [n'], o2, cap2, hid hRf, H1, hid (HAl.out.more HAn.out), HOz, HF2, hid (by rw [List.length_append]; exact HM2.out), HZ2, hid hCf⟩, hMs⟩
          | (go_roundw; (case rel => exact ⟨f - 1, zr, L ++ [n], M ++ [n'], o2, cap2, hid hRf, H1, hid (HAl.out.more HAn.out), HOz, HF2, hid (by rw [List.length_append]; exact HM2.out), HZ2, hid hCf⟩); (case measure => exact hMs))
end Go.Proofs.Ytiakfgplhdbaeaa
