/-
  The statements' helper lend.
-/
import Derived.Test.YtiakfgplhdbaeaaLE
namespace Go.Proofs.Ytiakfgplhdbaeaa
open Go.RowKit

/-- The rows while nodes are lent: some are there, the others are zeros yet. -/
def rowsL (L : List Nod) (hs : List Nat) (z : Nat) : List (List Value) := (List.zipWith lentN L hs).map rowN ++ List.replicate z zN
def rowsM (L : List Nod) (hs : List Nat) (k z : Nat) : List (List Value) := (List.zipWith lentN L hs).map rowN ++ (List.replicate k (rowN markN) ++ List.replicate z zN)
theorem zip_len {L : List Nod} {hs : List Nat} (h : hs.length = L.length) : ((List.zipWith lentN L hs).map rowN).length = L.length := by simp [h]
theorem rowsL_len {L : List Nod} {hs : List Nat} {z : Nat} (h : hs.length = L.length) : (rowsL L hs z).length = L.length + z := by
  unfold rowsL
  rw [List.length_append, zip_len h, List.length_replicate]
theorem rowsL_set {L : List Nod} {hs : List Nat} {z : Nat} (h : hs.length = L.length) (n : Nod) (g : Nat) : (rowsL L hs (z + 1)).set L.length (rowN (lentN n g)) = rowsL (L ++ [n]) (hs ++ [g]) z := by
  unfold rowsL
  rw [List.zipWith_append h.symm, List.set_append_right _ _ (by rw [zip_len h]; exact Nat.le_refl _), zip_len h, Nat.sub_self, List.replicate_succ]
  simp
theorem rowsM_len {L : List Nod} {hs : List Nat} {k z : Nat} (h : hs.length = L.length) : (rowsM L hs k z).length = L.length + k + z := by
  unfold rowsM
  rw [List.length_append, zip_len h, List.length_append, List.length_replicate, List.length_replicate]
  omega
theorem rowsM_set {L : List Nod} {hs : List Nat} {k z : Nat} (h : hs.length = L.length) : (rowsM L hs k (z + 1)).set (L.length + k) (rowN markN) = rowsM L hs (k + 1) z := by
  unfold rowsM
  rw [List.set_append_right _ _ (by rw [zip_len h]; omega), zip_len h, show L.length + k - L.length = k by omega, List.set_append_right _ _ (by simp), List.length_replicate, Nat.sub_self, List.replicate_succ, List.set_cons_zero, List.replicate_succ']
  simp
def fillB (zs : List Int) (j : Nat) : List Int := zs ++ (List.replicate j 201 ++ List.replicate (5 - j) 0)
theorem fillB_set (zs : List Int) (j : Nat) (h : j < 5) : (fillB zs j).set (zs.length + j) 201 = fillB zs (j + 1) := by
  unfold fillB
  rw [List.set_append_right _ _ (by omega), show zs.length + j - zs.length = j by omega]
  congr 1
  have c : j = 0 ∨ j = 1 ∨ j = 2 ∨ j = 3 ∨ j = 4 := by omega
  rcases c with rfl | rfl | rfl | rfl | rfl <;> decide
theorem fillB_len (zs : List Int) (j : Nat) (h : j ≤ 5) : (fillB zs j).length = zs.length + 5 := by simp [fillB]; omega
theorem fillB_5 (zs : List Int) : fillB zs 5 = zs ++ F5 := rfl
theorem fillB_0 (zs : List Int) : zs ++ (List.replicate (zs.length + 5) (0 : Int)).drop zs.length = fillB zs 0 := by
  unfold fillB
  congr 1
  simp
theorem szLe : (Try.prog.info? 27).map (·.size) = some 2 := by kernel_rfl
theorem infoBs : ∃ i, Try.prog.info? 29 = some i ∧ i.zero = some (.slice none 0 0) ∧ i.size = 1 ∧ i.bytes = 24 := by
  have h : (Try.prog.info? 29).map (fun i => (i.zero, i.size, i.bytes)) = some (some (.slice none 0 0), 1, 24) := by kernel_rfl
  cases hq : Try.prog.info? 29 with
  | none => rw [hq] at h; cases h
  | some i =>
    rw [hq] at h
    have h := Option.some.inj h
    simp only [Prod.mk.injEq] at h
    exact ⟨i, rfl, h.1, h.2.1, h.2.2⟩
section
variable {ops : Array Oper} {rest : List Oper} {o : Oper} {a : Act} {Q : Exit → Act → World → Prop} {w : World}
/-- append of one row of bytes to a list of such. -/
theorem wp_appV (hg : o.guard = none) (s x : Operand) (hop : o.op = .call { callee := .builtin .append, args := #[s, x], argTypes := #[25, 25] }) (B g c : Nat) (v : Value) (n : Nat) (xs : List Value) (y : Value) (hs : a.eval s = v) (hx : a.eval x = .slice (some ⟨g, 0, none⟩) 1 c)
    (hown : w.ownsRow B 29 1 v n xs) (hat : w.cell? ⟨g, 0, none⟩ = some y) (hy : y.oneCell' = true) (hl : n ≤ 1000000000) (hB : B ≤ w.heap.size)
    (hK : ∀ v' w', w'.ownsRow B 29 1 v' (n + 1) (xs ++ [y]) → Chg w w' (fun k => v.ownBlock = some k) → wpList Try.prog ops Q rest (a.put o.dst v') w') : wpList Try.prog ops Q (o :: rest) a w := by
  obtain ⟨i, hi, hz, hsz, hby⟩ := infoBs
  refine wpList_append_own_at w hg s x 25 hop B 29 i _ 1 24 Try.underlying25 hi hz hsz hby rfl (by decide) v n xs hs hown ⟨g, 0, none⟩ 1 c [y] hx rfl (fun j u hj => ?_) (by simpa using hy) (by unfold maxLen; omega) (by omega) hB ?_
  · cases j with
    | zero => simp at hj; subst hj; exact hat
    | succ j => simp at hj
  · intro v' w' h1 h2 _ _
    exact hK v' w' h1 ((Chg.grown h2).mono fun j _ e => e.symm)
end
theorem szBs : (Try.prog.info? 25).map (·.size) = some 1 := by kernel_rfl
theorem rowV_one {w : World} {B n : Nat} {vb : Value} {xs : List Value} (h : w.ownsRow B 29 1 vb n xs) : vb.oneCell' = true := by
  rcases h.2 with ⟨rfl, _⟩ | ⟨g, cap, cur, rfl, _⟩ <;> rfl
theorem lent_one {w : World} {B n gN m : Nat} {vb : Value} {xs : List Value} (h : w.ownsRow B 29 1 vb n xs) : (#[.slice (some ⟨gN, 0, none⟩) m m, vb] : Array Value).all (·.oneCell') = true := by
  have : vb.oneCell' = true := by
    rcases h.2 with ⟨rfl, _⟩ | ⟨g, cap, cur, rfl, _⟩ <;> rfl
  simp [Value.oneCell'] at this ⊢
  exact this
theorem rowV_lower {w : World} {B C n : Nat} {v : Value} {xs : List Value} (h : w.ownsRow B 29 1 v n xs) (hc : C ≤ B) : w.ownsRow C 29 1 v n xs := by
  refine ⟨h.1, ?_⟩
  rcases h.2 with h | ⟨g, cap, cur, e, hg, r⟩
  · exact .inl h
  · exact .inr ⟨g, cap, cur, e, Nat.le_trans hc hg, r⟩
section
variable {ops : Array Oper} {Q : Exit → Act → World → Prop} {S : World → Prop} {fuel : Nat} {listed : Array Bool} {a : Act} {w : World}
theorem takeL (i d : Nat) (t : TypeId) (x : Operand) (ad : Addr) (v : Value) {o : Oper} (hop : ops[i]? = some o) (hs : Region.noSelect ops = true) (hf : Region.free .any ops listed i = true) (hr : (Region.ready .any ops listed).contains i = true)
    (hd : o.dst = some d) (ho : o.op = .load t x) (hx : a.eval x = .pointer (some ad)) (hw : Region.wanted o (yielded ops a.tmps) = true) (hQ : ∀ c a w, ¬ Q (.panic c) a w) (hS : S w)
    (hl : ∀ w, S w → (loadVar t ad).run Try.prog w = .ok v w)
    (h : wpAnyH Try.prog .any ops Q S fuel (listed.setIfInBounds i true) { a with tmps := a.tmps.setIfInBounds d v } w) : wpAnyH Try.prog .any ops Q S (fuel + 1) listed a w := by
  refine takeVal i d v hop hs hf hr hd hw hQ hS (fun w hw' => ?_) h
  unfold execOp
  simp only [ho, hx, Instr.loadAt, Instr.sureAddr, Sem.run_bind, Sem.run_pure, Result.andThen_ok, hl w hw']
end
/-- Nodes that are lent. -/
structure Lent (w0 w : World) (gN : Nat) (L : List Nod) (hs : List Nat) (vb : Value) : Prop where
  nr : NR w gN (rowsM L hs 3 0)
  bb : LB w0 w L hs
  vb : w.ownsRow w0.heap.size 29 1 vb L.length (List.zipWith hv L hs)
  ch : Chg w0 w No
  nN : w0.heap.size ≤ gN

set_option maxHeartbeats 4000000 in
set_option maxRecDepth 100000 in
theorem lend_any (L : List Nod) (a : Option Addr) (cap : Nat) (w : World) (h : NAt w a L) (hl : L.length ≤ 5000) (hd : ∀ i, i < L.length → (L.getD i Nod.z).data.length ≤ 2097152) :
    Calls Try.prog 9 #[.slice a L.length cap] w fun e w' => ∃ gN hs vb, e = .returned (.agg #[.slice (some ⟨gN, 0, none⟩) (L.length + 3) (L.length + 3), vb]) ∧ Lent w w' gN L hs vb := by
  have HN := hid h
  have HD := hid hd
  obtain ⟨w0, hw0⟩ : ∃ y, y = w.alloc (.cells #[.slice none 0 0, .slice none 0 0] 27) := ⟨_, rfl⟩
  have hc0 : Chg w w0 No := by rw [hw0]; exact Chg.alloc w _ No
  obtain ⟨A1, hmk, hnr⟩ := made_nodes (L.length + 3) (by omega) w0
  obtain ⟨m, hm⟩ : ∃ y, y = L.length := ⟨_, rfl⟩
  rw [← hm] at hl hmk hnr ⊢
  have HM := hid hm
  rw [hw0] at hmk
  have hmk2 : (Instr.makeSlice 22 (.int .i64 ((m : Int) + 3)) (.int .i64 ((m : Int) + 3))).run Try.prog (w.alloc (.cells #[.slice none 0 0, .slice none 0 0] 27)) = _ := hmk
  have hb1 : ∀ W g, (Instr.build 27 #[(0, .slice (some ⟨g, 0, none⟩) (m + 3) (m + 3))]).run Try.prog W = .ok (.agg #[.slice (some ⟨g, 0, none⟩) (m + 3) (m + 3), .slice none 0 0]) W := fun W g => by kernel_rfl
  have HNr := hid hnr
  have HC0 := hid hc0
  have HW0 := hid hw0
  clear h hd hm hc0 hnr hmk hw0
  go_enter Try.func9, Try.ntmps9
  go_upto_region 1 with fail
  have HA2 : Hid ((((w.alloc (.cells #[.slice none 0 0, .slice none 0 0] 27)).alloc (.cells A1 47)).alloc (.cells #[.slice none 0 0, .slice none 0 0] 27)).heap[w.heap.size + 2]? = some (.cells #[.slice none 0 0, .slice none 0 0] 27 (0, 0))) := hid (by
    have := heap_alloc_new ((w.alloc (.cells #[.slice none 0 0, .slice none 0 0] 27)).alloc (.cells A1 47)) (.cells #[.slice none 0 0, .slice none 0 0] 27)
    rw [show ((w.alloc (.cells #[.slice none 0 0, .slice none 0 0] 27)).alloc (.cells A1 47)).heap.size = w.heap.size + 2 by simp] at this
    exact this)
  go_upto_region 2 with (first
    | (refine store_R rfl 27 _ _ rfl (w.heap.size + 2) #[.slice (some ⟨w.heap.size + 1, 0, none⟩) (m + 3) (m + 3), .slice none 0 0] rfl rfl 27 _ HA2.out (by rw [szLe]; rfl) rfl (by simp [Value.oneCell']) ?_; intro w3 hw3)
    | fail)
  clear HA2
  have hs0 : w0.heap.size = w.heap.size + 1 := by rw [HW0.out]; simp
  have hLS : LS w0 w3 (w.heap.size + 2) (w.heap.size + 1) (m + 3) [] [] (.slice none 0 0) (rowsL [] [] (m + 3)) := by
    have hc1 : Chg w0 (w0.alloc (.cells A1 47)) No := Chg.alloc _ _ No
    have hc2 : Chg (w0.alloc (.cells A1 47)) ((w0.alloc (.cells A1 47)).alloc (.cells #[.slice none 0 0, .slice none 0 0] 27)) No := Chg.alloc _ _ No
    rw [← HW0.out] at hw3
    have hc3 := kt_new hw3
    have hn := HNr.out
    rw [hs0] at hn
    exact ⟨hw3.here, (hn.keep hc2 (fun e => e)).keep hc3 (by omega), LB.nil _ _, World.ownsRow_nil _ _ _ _, (hc1.tr hc2).trans hc3 (fun _ _ e => e) (fun j hj e => by omega), by omega, by omega⟩
  have HLS := hid hLS
  have HGR : Hid (w0.heap[w.heap.size]? = some (.cells #[.slice none 0 0, .slice none 0 0] 27 (0, 0))) := hid (by rw [HW0.out]; exact heap_alloc_new _ _)
  have HNa := hid (HN.out.call HC0.out)
  have HS0 := hid hs0
  obtain ⟨g3, hg3⟩ : ∃ y, y = w.heap.size + 2 := ⟨_, rfl⟩
  obtain ⟨gN, hgN⟩ : ∃ y, y = w.heap.size + 1 := ⟨_, rfl⟩
  rw [← hg3, ← hgN] at HLS
  rw [← hg3]
  have HGw : Hid (w.heap.size < gN) := hid (by omega)
  clear hLS hw3 hmk2 hb1 HNr HN HW0 hs0 hg3 hgN
  go_wp2_with fail
  go_loopw [4] (fun x4 wr => ∃ (i : Nat) (hs : List Nat) (vb : Value), x4 = .int .i64 (i : Int) ∧ i ≤ m ∧ Hid (LS w0 wr g3 gN (m + 3) (L.take i) hs vb (rowsL (L.take i) hs (m + 3 - i)))) (fun x4 _ => m - (intOf x4).toNat)
  case atStart => exact ⟨0, [], .slice none 0 0, rfl, Nat.zero_le _, HLS⟩
  case round =>
    obtain ⟨i, hs, vb, rfl, hi, HL1⟩ := hrel
    clear HLS
    by_cases e : i = m
    · subst e
      have HE : Hid (L.take i = L) := hid (by rw [HM.out]; exact List.take_length)
      have HL2 : Hid (LS w0 wr g3 gN (i + 3) L hs vb (rowsM L hs 0 3)) := hid (by
        have := HL1.out
        rw [HE.out, show i + 3 - i = 3 by omega] at this
        exact this)
      clear HL1 HE hi
      have c0 := HL2.out.c0
      go_wp2_with fail
      obtain ⟨wb, hwb⟩ : ∃ y, y = wr := ⟨_, rfl⟩
      rw [← hwb] at HL2 c0 ⊢
      clear hwb c0
      go_loopw [7] (fun x7 wr => ∃ k : Nat, x7 = .int .i64 ((i : Int) + (k : Int)) ∧ k ≤ 3 ∧ Hid (LS w0 wr g3 gN (i + 3) L hs vb (rowsM L hs k (3 - k)))) (fun x7 _ => ((i : Int) + 3 - intOf x7).toNat)
      case atStart => exact ⟨0, by simp, Nat.zero_le _, HL2⟩
      case round =>
        obtain ⟨k, rfl, hk, HL3⟩ := hrel
        clear HL2
        have c0 := HL3.out.c0
        by_cases e : k = 3
        · subst e
          have HG2 := hid (HL3.out.ch.keep HGR.out (fun e => e))
          have HS3 := hid HL3.out.st
          have HOne : Hid ((#[.slice (some ⟨gN, 0, none⟩) (i + 3) (i + 3), vb] : Array Value).all (·.oneCell') = true) := hid (lent_one HL3.out.vb)
          go_wp2_with (first
            | (refine load_R rfl 27 _ rfl g3 rfl 27 _ _ HS3.out Try.underlying27 rfl (by rw [szLe]; rfl) ?_)
            | (refine store_R rfl 27 _ _ rfl w.heap.size #[.slice (some ⟨gN, 0, none⟩) (i + 3) (i + 3), vb] rfl rfl 27 _ HG2.out (by rw [szLe]; rfl) rfl HOne.out ?_; intro wz hwz)
            | fail)
          have hk0 := kt_new hwz
          have hl := HL3.out
          have hs0 := HS0.out
          have hne : ∀ j, j < L.length → hs.getD j 0 ≠ w.heap.size := fun j hj e => by have := hl.bb.new j hj; omega
          refine bodyPost_ret (v := .agg #[.slice (some ⟨gN, 0, none⟩) (i + 3) (i + 3), vb]) (results_R1 Try.results9 _ _ w.heap.size _ 27 _ Try.underlying27 rfl (by rw [szLe]; rfl) rfl hwz.here) rfl ⟨gN, hs, vb, rfl, hl.nr.keep hk0 (by have := HGw.out; omega), ?_, ?_, (HC0.out.tr hl.ch).trans hk0 (fun _ _ e => e) (fun j hj e => by omega), by have := HGw.out; omega⟩
          · have h1 := hl.bb.keep hk0 hne
            exact ⟨h1.len, h1.at_, fun j hj => by have := h1.new j hj; omega, h1.ap⟩
          · have h1 := rowV_keep hl.vb hk0 (fun k e => by have := (rowV_blk hl.vb e).1; omega)
            exact rowV_lower h1 (by omega)
        · have f1 : (i : Int) + (k : Int) < (i : Int) + 3 := by omega
          have f2 : (0 : Int) ≤ (i : Int) + (k : Int) := by omega
          have hbM : ∀ W, (Instr.build 47 #[(0, .string ⟨#[109, 97, 114, 107]⟩)]).run Try.prog W = .ok (.agg (rowN markN).toArray) W := fun W => by kernel_rfl
          have tN : ((i : Int) + (k : Int)).toNat = i + k := by omega
          have hrl : i + k < (rowsM L hs k (3 - k)).length := by rw [rowsM_len HL3.out.bb.len, ← HM.out]; omega
          have HRl := hid hrl
          have HNr := hid HL3.out.nr
          have HMo : Hid ((rowN markN).toArray.all (·.oneCell') = true) := hid (by simp [rowN, nodA, Value.oneCell'])
          clear hrl
          go_wp2_with (first
            | (refine store_NR rfl _ _ rfl gN (i + k) rfl (rowN markN) rfl rfl HMo.out _ HNr.out HRl.out ?_; intro w5 hn5 hc5 hz5; have HN5 := hid hn5; have HC5 := hid hc5; clear hn5 hc5 hz5)
            | fail)
          refine ⟨⟨k + 1, by go_num, by omega, hid ?_⟩, by simp [intOf]; omega⟩
          have h5 := HN5.out
          rw [show 3 - k = (3 - (k + 1)) + 1 by omega, HM.out, rowsM_set HL3.out.bb.len] at h5
          exact HL3.out.turnN h5 HC5.out
    · have hil : i < L.length := by rw [← HM.out]; omega
      have f1 : (i : Int) < (m : Int) := by omega
      have f1b : (i : Int) < (m : Int) + 3 := by omega
      obtain ⟨n, hn⟩ : ∃ y, y = L.getD i Nod.z := ⟨_, rfl⟩
      have HTk : Hid (L.take (i + 1) = L.take i ++ [n]) := hid (by rw [hn]; exact take_more hil)
      have HLt : Hid ((L.take i).length = i) := hid (by rw [List.length_take]; omega)
      have hdl : n.data.length ≤ 2097152 := by rw [hn]; exact HD.out i hil
      obtain ⟨b, o, rfl, hcl⟩ : ∃ b o, a = some ⟨b, o, none⟩ ∧ ∀ W, Chg w0 W No → (loadVar 47 ⟨b, o + i * 5, none⟩).run Try.prog W = .ok (.agg (nodA n)) W ∧ W.cell? ⟨b, o + i * 5 + 4, none⟩ = some (.slice n.da n.data.length n.dc) := by
        rcases HNa.out.at_ with h | ⟨b, o, e, hb, _⟩
        · rw [h] at hil; exact absurd hil (Nat.not_lt_zero _)
        · refine ⟨b, o, e, fun W hW => ?_⟩
          obtain ⟨b', o', e', _, hl⟩ := (HNa.out.call hW).load hil
          rw [e] at e'
          cases e'
          rw [← hn] at hl
          refine ⟨hl, ?_⟩
          rcases (HNa.out.call hW).at_ with h | ⟨b', o', e', _, hc⟩
          · rw [h] at hil; exact absurd hil (Nat.not_lt_zero _)
          · rw [e] at e'
            cases e'
            exact hc i hil 4 _ (by rw [← hn]; rfl)
      have HCl := hid hcl
      have HDt : Hid (∀ W, Chg w0 W No → BytesAt W n.da n.data) := hid (fun W hW => by rw [hn]; exact (HNa.out.call hW).data i hil)
      have hmk : ∀ W, (Instr.makeSlice 29 (.int .i64 ((n.data.length : Int) + 5)) (.int .i64 ((n.data.length : Int) + 5))).run Try.prog W = .ok (.slice (some ⟨W.heap.size, 0, none⟩) (n.data.length + 5) (n.data.length + 5)) (W.alloc (.cells (SB (List.replicate (n.data.length + 5) 0)) 5)) := fun W => make_bytes (n.data.length + 5) (by omega) W
      have hdl2 : (n.data.length : Int) ≤ 2097152 := by omega
      obtain ⟨wo, hwo⟩ : ∃ y, y = wr := ⟨_, rfl⟩
      rw [← hwo] at HL1 ⊢
      have c4 := (HCl.out wo HL1.out.ch).2
      have HNe : Hid (∀ j, j < (L.take i).length → hs.getD j 0 ≠ wo.heap.size) := hid (fun j hj e => by have := slt (HL1.out.bb.at_ j hj); omega)
      clear hil hn hcl hwo
      go_upto_region 6 with fail
      obtain ⟨w1, hw1⟩ : ∃ y, y = wo.alloc (.cells (SB (List.replicate (n.data.length + 5) 0)) 5) := ⟨_, rfl⟩
      obtain ⟨h, hh⟩ : ∃ y, y = wo.heap.size := ⟨_, rfl⟩
      have hc1 : Chg wo w1 No := by rw [hw1]; exact Chg.alloc _ _ No
      have hg1 : w1.heap[h]? = some (.cells (SB (List.replicate (n.data.length + 5) 0)) 5 (0, 0)) := by rw [hw1, hh]; exact heap_alloc_new _ _
      rw [← hw1, ← hh]
      have HG1 := hid hg1
      have HC1 := hid hc1
      have HHo := hid hh
      have HH0 : Hid (w0.heap.size ≤ h) := hid (by rw [hh]; exact HL1.out.ch.size)
      rw [← hh] at HNe
      have HB1 := hid (HDt.out w1 (HL1.out.ch.tr hc1))
      replace c4 := (HCl.out w1 (HL1.out.ch.tr hc1)).2
      clear hw1 hh hc1 hg1 hmk
      go_upto_region 7 with (first
        | (refine copy_front rfl _ _ rfl n.da (n.data.length + 5) (n.data.length + 5) n.dc h n.data (List.replicate (n.data.length + 5) 0) rfl rfl 5 HG1.out (by omega) (by rw [List.length_replicate]; omega) HB1.out ?_; intro w2 hg2 hc2 hz2; have HG2 := hid hg2; have HC2 := hid (HC1.out.trans hc2 (fun _ _ e => e) (fun j hj e => by have := HHo.out; omega)); clear hg2 hc2 hz2)
        | fail)
      replace c4 := (HCl.out w2 (HL1.out.ch.tr HC2.out)).2
      have HG3 : Hid (w2.heap[h]? = some (.cells (SB (fillB n.data 0)) 5 (0, 0))) := hid (by rw [← fillB_0]; exact HG2.out)
      clear HG1 HC1 HB1 HG2
      go_wp2_with fail
      clear c4
      go_loopw [6] (fun x6 wq => ∃ k : Nat, x6 = .int .i64 ((n.data.length : Int) + (k : Int)) ∧ k ≤ 5 ∧ Hid (wq.heap[h]? = some (.cells (SB (fillB n.data k)) 5 (0, 0))) ∧ Hid (Chg wo wq No)) (fun x6 _ => ((n.data.length : Int) + 5 - intOf x6).toNat)
      case atStart => exact ⟨0, by simp, Nat.zero_le _, HG3, HC2⟩
      case round =>
        obtain ⟨k, rfl, hk, HG4, HC4⟩ := hrel
        clear HG3 HC2
        by_cases e5 : k = 5
        · subst e5
          have HL4 := hid (HL1.out.call HC4.out)
          rw [fillB_5] at HG4
          clear HL1
          obtain ⟨R, hR⟩ : ∃ y, y = rowsL (L.take i) hs (m + 3 - i) := ⟨_, rfl⟩
          have HRe := hid hR
          rw [← hR] at HL4
          have HRl : Hid (i < R.length) := hid (by rw [hR, rowsL_len HL4.out.bb.len, HLt.out]; omega)
          clear hR
          go_upto_region 11 with fail
          obtain ⟨wb, hwb⟩ : ∃ y, y = wr := ⟨_, rfl⟩
          rw [← hwb] at HL4 HG4 HC4 ⊢
          clear hwb
          refine wp_region_noPanic ?_
          refine wp_region_held_drew (S := fun W => ∃ R, LS w0 W g3 gN (m + 3) (L.take i) hs vb R) (by kernel_rfl) ⟨R, HL4.out.call (Chg.refl _ _).drew⟩ (fun hHeld => ?_)
          refine takeVal 0 49 (.pointer (some ⟨g3, 0, none⟩)) rfl (by kernel_rfl) (by kernel_rfl) (by kernel_rfl) rfl (by rfl) (fun _ _ _ h => h) hHeld (fun W' hw' => by go_simp) ?_
          simp only [List.setIfInBounds_toArray, List.set_cons_zero, List.set_cons_succ]
          refine takeVal 1 50 (.slice (some ⟨gN, 0, none⟩) (m + 3) (m + 3)) rfl (by kernel_rfl) (by kernel_rfl) (by kernel_rfl) rfl (by rfl) (fun _ _ _ h => h) hHeld (fun W' hw' => by obtain ⟨R', hw'⟩ := hw'; have hc := hw'.c0; go_simp) ?_
          simp only [List.setIfInBounds_toArray, List.set_cons_zero, List.set_cons_succ]
          refine takeVal 2 51 (.int .i64 (i : Int)) rfl (by kernel_rfl) (by kernel_rfl) (by kernel_rfl) rfl (by rfl) (fun _ _ _ h => h) hHeld (fun W' hw' => rfl) ?_
          simp only [List.setIfInBounds_toArray, List.set_cons_zero, List.set_cons_succ]
          refine takeVal 3 52 (.slice (some ⟨b, o, none⟩) m cap) rfl (by kernel_rfl) (by kernel_rfl) (by kernel_rfl) rfl (by rfl) (fun _ _ _ h => h) hHeld (fun W' hw' => rfl) ?_
          simp only [List.setIfInBounds_toArray, List.set_cons_zero, List.set_cons_succ]
          refine takeVal 4 53 (.int .i64 (i : Int)) rfl (by kernel_rfl) (by kernel_rfl) (by kernel_rfl) rfl (by rfl) (fun _ _ _ h => h) hHeld (fun W' hw' => rfl) ?_
          simp only [List.setIfInBounds_toArray, List.set_cons_zero, List.set_cons_succ]
          refine takeVal 5 54 (.pointer (some ⟨b, o + i * 5, none⟩)) rfl (by kernel_rfl) (by kernel_rfl) (by kernel_rfl) rfl (by rfl) (fun _ _ _ h => h) hHeld (fun W' hw' => by go_simp) ?_
          simp only [List.setIfInBounds_toArray, List.set_cons_zero, List.set_cons_succ]
          refine takeL 6 55 47 (.tmp 54) ⟨b, o + i * 5, none⟩ (.agg (nodA n)) rfl (by kernel_rfl) (by kernel_rfl) (by kernel_rfl) rfl rfl rfl (by rfl) (fun _ _ _ h => h) hHeld (fun W' hw' => by obtain ⟨R', hw'⟩ := hw'; exact (HCl.out W' hw'.ch).1) ?_
          simp only [List.setIfInBounds_toArray, List.set_cons_zero, List.set_cons_succ]
          refine takeVal 7 56 (.pointer (some ⟨gN, i * 5, none⟩)) rfl (by kernel_rfl) (by kernel_rfl) (by kernel_rfl) rfl (by rfl) (fun _ _ _ h => h) hHeld (fun W' hw' => by go_simp) ?_
          simp only [List.setIfInBounds_toArray, List.set_cons_zero, List.set_cons_succ]
          refine step1 8 (by kernel_rfl) ?_
          refine stStoreN 8 rfl rfl (by rfl) (.tmp 56) (.tmp 55) rfl gN i rfl (rowN n) rfl rfl (nodA_one n) R (HL4.out.call (Chg.refl _ _).drew).nr HRl.out ?_
          intro w5 hn5 hc5 hz5
          have hL5 := (HL4.out.call (Chg.refl wb No).drew).turnN hn5 hc5
          refine ⟨⟨_, hL5⟩, ?_⟩
          refine wpAnyH_done (by kernel_rfl) ?_ _
          refine NoPanic.normal ?_
          have HL5 := hid hL5
          have hcb : Chg wb w5 (· = gN) := (Chg.refl wb (· = gN)).drew.trans hc5 (fun _ _ e => e) (fun _ _ e => e)
          have HG5 := hid (hcb.keep HG4.out (by obtain ⟨A, hA⟩ := HL4.out.nr.isRow; exact obj_ne HG4.out hA (cne (by decide))))
          clear hHeld hn5 hc5 hz5 hL5 hcb HL4 HG4
          go_upto_region 12 with fail
          refine wp_region_noPanic ?_
          refine wp_region_held_drew (S := fun W => ∃ R, LS w0 W g3 gN (m + 3) (L.take i) hs vb R) (by kernel_rfl) ⟨_, HL5.out.call (Chg.refl _ _).drew⟩ (fun hHeld => ?_)
          refine takeVal 0 57 (.pointer (some ⟨g3, 0, none⟩)) rfl (by kernel_rfl) (by kernel_rfl) (by kernel_rfl) rfl (by rfl) (fun _ _ _ h => h) hHeld (fun W' hw' => by go_simp) ?_
          simp only [List.setIfInBounds_toArray, List.set_cons_zero, List.set_cons_succ]
          refine takeVal 1 58 (.slice (some ⟨gN, 0, none⟩) (m + 3) (m + 3)) rfl (by kernel_rfl) (by kernel_rfl) (by kernel_rfl) rfl (by rfl) (fun _ _ _ h => h) hHeld (fun W' hw' => by obtain ⟨R', hw'⟩ := hw'; have hc := hw'.c0; go_simp) ?_
          simp only [List.setIfInBounds_toArray, List.set_cons_zero, List.set_cons_succ]
          refine takeVal 2 59 (.int .i64 (i : Int)) rfl (by kernel_rfl) (by kernel_rfl) (by kernel_rfl) rfl (by rfl) (fun _ _ _ h => h) hHeld (fun W' hw' => rfl) ?_
          simp only [List.setIfInBounds_toArray, List.set_cons_zero, List.set_cons_succ]
          refine takeVal 3 60 (.slice (some ⟨h, 0, none⟩) (n.data.length + 5) (n.data.length + 5)) rfl (by kernel_rfl) (by kernel_rfl) (by kernel_rfl) rfl (by rfl) (fun _ _ _ h => h) hHeld (fun W' hw' => rfl) ?_
          simp only [List.setIfInBounds_toArray, List.set_cons_zero, List.set_cons_succ]
          refine takeVal 4 61 (.slice (some ⟨b, o, none⟩) m cap) rfl (by kernel_rfl) (by kernel_rfl) (by kernel_rfl) rfl (by rfl) (fun _ _ _ h => h) hHeld (fun W' hw' => rfl) ?_
          simp only [List.setIfInBounds_toArray, List.set_cons_zero, List.set_cons_succ]
          refine takeVal 5 62 (.int .i64 (i : Int)) rfl (by kernel_rfl) (by kernel_rfl) (by kernel_rfl) rfl (by rfl) (fun _ _ _ h => h) hHeld (fun W' hw' => rfl) ?_
          simp only [List.setIfInBounds_toArray, List.set_cons_zero, List.set_cons_succ]
          refine takeVal 6 63 (.pointer (some ⟨b, o + i * 5, none⟩)) rfl (by kernel_rfl) (by kernel_rfl) (by kernel_rfl) rfl (by rfl) (fun _ _ _ h => h) hHeld (fun W' hw' => by go_simp) ?_
          simp only [List.setIfInBounds_toArray, List.set_cons_zero, List.set_cons_succ]
          refine takeVal 7 64 (.pointer (some ⟨b, o + i * 5 + 4, none⟩)) rfl (by kernel_rfl) (by kernel_rfl) (by kernel_rfl) rfl (by rfl) (fun _ _ _ h => h) hHeld (fun W' hw' => by go_simp) ?_
          simp only [List.setIfInBounds_toArray, List.set_cons_zero, List.set_cons_succ]
          refine takeVal 8 65 (.slice n.da n.data.length n.dc) rfl (by kernel_rfl) (by kernel_rfl) (by kernel_rfl) rfl (by rfl) (fun _ _ _ h => h) hHeld (fun W' hw' => by obtain ⟨R', hw'⟩ := hw'; have hc := (HCl.out W' hw'.ch).2; go_simp) ?_
          simp only [List.setIfInBounds_toArray, List.set_cons_zero, List.set_cons_succ]
          refine takeVal 9 66 (.int .i64 (n.data.length : Nat)) rfl (by kernel_rfl) (by kernel_rfl) (by kernel_rfl) rfl (by rfl) (fun _ _ _ h => h) hHeld (fun W' hw' => by go_simp) ?_
          simp only [List.setIfInBounds_toArray, List.set_cons_zero, List.set_cons_succ]
          refine takeVal 10 67 (.slice (some ⟨h, 0, none⟩) n.data.length (n.data.length + 5)) rfl (by kernel_rfl) (by kernel_rfl) (by kernel_rfl) rfl (by rfl) (fun _ _ _ h => h) hHeld (fun W' hw' => by go_simp; intro hq; omega) ?_
          simp only [List.setIfInBounds_toArray, List.set_cons_zero, List.set_cons_succ]
          refine takeVal 11 68 (.pointer (some ⟨gN, i * 5, none⟩)) rfl (by kernel_rfl) (by kernel_rfl) (by kernel_rfl) rfl (by rfl) (fun _ _ _ h => h) hHeld (fun W' hw' => by go_simp) ?_
          simp only [List.setIfInBounds_toArray, List.set_cons_zero, List.set_cons_succ]
          refine takeVal 12 69 (.pointer (some ⟨gN, i * 5 + 4, none⟩)) rfl (by kernel_rfl) (by kernel_rfl) (by kernel_rfl) rfl (by rfl) (fun _ _ _ h => h) hHeld (fun W' hw' => by go_simp) ?_
          simp only [List.setIfInBounds_toArray, List.set_cons_zero, List.set_cons_succ]
          have hL5d := HL5.out.call (Chg.refl w5 No).drew
          have hget : (R.set i (rowN n))[i]? = some (rowN n) := by rw [List.getElem?_set, if_pos rfl, if_pos HRl.out]
          have hcN : w5.drew.cell? ⟨gN, i * 5 + 4, none⟩ = some (.slice n.da n.data.length n.dc) := hL5d.nr.range hget 4 _ rfl
          have hfN : w5.drew.frozen? ⟨gN, i * 5 + 4, none⟩ = false := by obtain ⟨A, hA⟩ := hL5d.nr.isRow; exact frozen_of_row _ _ _ _ _ hA
          refine step1 13 (by kernel_rfl) ?_
          refine stStoreC 13 rfl rfl (by rfl) gN i 4 (.slice (some ⟨h, 0, none⟩) n.data.length (n.data.length + 5)) (R.set i (rowN n)) (rowN n) hL5d.nr hget (by decide) (by go_simp) ?_
          intro w6 hn6 hc6 hz6
          have hL6 := hL5d.turnN hn6 hc6
          refine ⟨⟨_, hL6⟩, ?_⟩
          refine wpAnyH_done (by kernel_rfl) ?_ _
          refine NoPanic.normal ?_
          have hcb : Chg w5 w6 (· = gN) := (Chg.refl w5 (· = gN)).drew.trans hc6 (fun _ _ e => e) (fun _ _ e => e)
          have HG6 := hid (hcb.keep HG5.out (by obtain ⟨A, hA⟩ := HL5.out.nr.isRow; exact obj_ne HG5.out hA (cne (by decide))))
          have HR6 : Hid ((R.set i (rowN n)).set i ((rowN n).set 4 (.slice (some ⟨h, 0, none⟩) n.data.length (n.data.length + 5))) = rowsL (L.take i ++ [n]) (hs ++ [h]) (m + 3 - (i + 1))) := hid (by
            rw [List.set_set, HRe.out, show m + 3 - i = (m + 3 - (i + 1)) + 1 by omega]
            have := rowsL_set (z := m + 3 - (i + 1)) HL5.out.bb.len n h
            rw [HLt.out] at this
            exact this)
          have HL6 := hid hL6
          clear hHeld hL5d hget hcN hfN hn6 hc6 hz6 hL6 hcb HL5 HG5
          rw [HR6.out] at HL6
          have HL7 : Hid (∀ X, LS w0 (w6.alloc (.cells X 29)) g3 gN (m + 3) (L.take i) hs vb (rowsL (L.take i ++ [n]) (hs ++ [h]) (m + 3 - (i + 1)))) := hid (fun X => HL6.out.call (Chg.alloc _ _ No))
          have HG7 : Hid (∀ X, (w6.alloc (.cells X 29)).heap[h]? = some (.cells (SB (n.data ++ F5)) 5 (0, 0))) := hid (fun X => (Chg.alloc _ _ No).keep HG6.out (fun e => e))
          have c1 := HL6.out.c1
          have HLt2 : Hid ((L.take i).length ≤ 1000000000) := hid (by rw [HLt.out]; omega)
          have hsz : w0.heap.size ≤ w6.heap.size := HL6.out.ch.size
          go_wp2_with (first
            | (refine wp_appV rfl _ _ rfl w0.heap.size w6.heap.size 1 vb (L.take i).length (List.zipWith hv (L.take i) hs) (hv n h) rfl rfl (HL7.out _).vb ((cell_of_row _ _ _ _ _ _ (heap_alloc_new _ _)).trans rfl) rfl HLt2.out (by simp; omega) ?_; intro v' w8 h1 h2; have HSt : Hid (w8.heap[g3]? = some (.cells #[.slice (some ⟨gN, 0, none⟩) (m + 3) (m + 3), vb] 27 (0, 0))) := hid (h2.keep (HL7.out #[.slice (some ⟨h, 0, none⟩) (n.data.length + 5) (n.data.length + 5)]).st (fun e => by obtain ⟨_, B, hB⟩ := rowV_blk (HL7.out #[.slice (some ⟨h, 0, none⟩) (n.data.length + 5) (n.data.length + 5)]).vb e; rw [(HL7.out #[.slice (some ⟨h, 0, none⟩) (n.data.length + 5) (n.data.length + 5)]).st] at hB; cases hB)); have H1 := hid h1; have H2 := hid h2; clear h1 h2)
            | (refine store_one rfl 25 _ _ rfl g3 1 rfl v' rfl (rowV_one H1.out) szBs 27 _ HSt.out (by simp) ?_)
            | fail)
          refine ⟨⟨i + 1, hs ++ [h], v', by go_num, by omega, hid ?_⟩, by simp [intOf]; omega⟩
          rw [HTk.out]
          have hs0 := HS0.out
          have hb0 : w0.heap.size ≤ h := HH0.out
          exact (HL7.out _).more n h (HG7.out _) hb0 HNe.out H1.out H2.out
        · have tN : ((n.data.length : Int) + (k : Int)).toNat = n.data.length + k := by omega
          have f2 : (n.data.length : Int) + (k : Int) < (n.data.length : Int) + 5 := by omega
          have f3 : (0 : Int) ≤ (n.data.length : Int) + (k : Int) := by omega
          have hcc : wr.cell? ⟨h, n.data.length + k, none⟩ = some (.int .u8 ((fillB n.data k).getD (n.data.length + k) 0)) := by
            rw [cell_of_row _ _ _ _ _ _ HG4.out]
            exact SB_get _ _ (by rw [fillB_len _ _ hk]; omega)
          have hff := frozen_of_row wr h (n.data.length + k) _ _ HG4.out
          go_wp2_with fail
          refine ⟨⟨k + 1, by go_num, by omega, hid ?_, hid ?_⟩, by simp [intOf]; omega⟩
          · have := setB HG4.out (n.data.length + k) 201
            rw [fillB_set _ _ (by omega)] at this
            exact this
          · exact HC4.out.trans Chg.setCell (fun _ _ e => e) (fun j hj e => by have := HHo.out; omega)
end Go.Proofs.Ytiakfgplhdbaeaa
