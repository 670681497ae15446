/-
 The document's report, walked.
-/
import Derived.Test.YtpmignilhoihnaaGreatOR1
import Derived.BigQuiet
import Derived.Deep.CutRange
import Derived.Deep.DeepCutAuto
namespace Go.Proofs.YtpmignilhoihnaaGreat
open Go.RowKit Go.Shelf

theorem build_repW (g n wc : Nat) (W : World) : (Instr.build 26 #[(0, .slice (some ⟨g, 0, none⟩) n wc)]).run Tryz.prog W = .ok (.agg #[.slice (some ⟨g, 0, none⟩) n wc, .slice none 0 0, .slice none 0 0, .slice none 0 0]) W := by kernel_rfl
theorem IOwn.none (w : World) (B : Nat) : IOwn w B (.slice none 0 0) [] := ⟨rfl, .inl ⟨rfl, rfl⟩⟩
theorem apart_none (v : Value) : Apart (.slice none 0 0) v := fun j h => by cases h
theorem rw_start {w w2 : World} {c : KC} {gr fb : Nat} (h : Chg w w2 No) (hr : w2.heap[gr]? = some (.cells #[.slice (some ⟨c.g, 0, none⟩) c.N c.wc, .slice none 0 0, .slice none 0 0, .slice none 0 0] 26 (0, 0))) (hf : BAt w2 fb c.N (fun _ => false)) (h1 : w.heap.size ≤ gr) (h2 : w.heap.size ≤ fb) (hq : w2.heap[w.heap.size]? = some (.cells nil4 26 (0, 0))) (hn : gr ≠ w.heap.size) : RW w w2 c gr fb (.slice none 0 0) (.slice none 0 0) (.slice none 0 0) [] [] [] (fun _ => false) :=
 ⟨h, hr, hf, IOwn.none _ _, IOwn.none _ _, IOwn.none _ _, apart_none _, apart_none _, apart_none _, h1, h2, hq, hn⟩
section
variable {ops : Array Oper} {Q : Exit → Act → World → Prop} {S : World → Prop} {fuel : Nat} {listed : Array Bool} {a : Act} {w : World}
theorem takeNeqK (i d : Nat) (x y : Operand) (c c' : List Int) (b : Bool) (hc : c.length = 128) (hc' : c'.length = 128) (hb : decide (c = c') = b) {o : Oper} (hop : ops[i]? = some o) (hs : Region.noSelect ops = true) (hf : Region.free .any ops listed i = true) (hr : (Region.ready .any ops listed).contains i = true)
  (hd : o.dst = some d) (ho : o.op = .binOp .neq 33 x y 33) (hx : a.eval x = .agg (SA c)) (hy : a.eval y = .agg (SA c')) (hw : Region.wanted o (yielded ops a.tmps) = true) (hQ : ∀ c a w, ¬ Q (.panic c) a w) (hS : S w)
  (h : wpAnyH Tryz.prog .any ops Q S fuel (listed.setIfInBounds i true) { a with tmps := a.tmps.setIfInBounds d (.bool (!b)) } w) : wpAnyH Tryz.prog .any ops Q S (fuel + 1) listed a w := by
 refine takeVal i d _ hop hs hf hr hd hw hQ hS (fun w hw' => ?_) h
 have hq : (Op.equalIn 10000 33 (.agg (SA c)) (.agg (SA c'))).run Tryz.prog w = .ok b w := by rw [eq_sec _ _ hc hc', hb]
 unfold execOp
 simp only [ho, hx, hy, Sem.run_bind, run_eqGuard_agg _ _ _ _ _ _ _ guard_sec, run_neq_struct, hq, Result.andThen_ok, Sem.run_pure]
end
theorem own_mark {w : World} {B fb n N : Nat} {v : Value} {l : List Int} {f : Int → Bool} (h : IOwn w B v l) (hf : BAt w fb N f) : IOwn (w.setCell ⟨fb, n, none⟩ (.bool true)) B v l :=
 h.keep (Chg.setCell (w := w) (g := fb) (j := n) (v := .bool true)) fun k e => by
  obtain ⟨_, A, hA⟩ := h.blk e;obtain ⟨C, hC, _⟩ := hf
  exact obj_ne hA hC (by intro e; cases e)
theorem spo_mark {w : World} {B fb n N : Nat} {v : Value} {l : List Sp9} {f : Int → Bool} (h : SOwn w B v l) (hf : BAt w fb N f) : SOwn (w.setCell ⟨fb, n, none⟩ (.bool true)) B v l :=
 h.keep (Chg.setCell (w := w) (g := fb) (j := n) (v := .bool true)) fun k e => by
  obtain ⟨_, A, hA⟩ := h.blk e;obtain ⟨C, hC, _⟩ := hf
  exact obj_ne hA hC (by intro e; cases e)
theorem own_cell {w : World} {B n c : Nat} {a : Option Addr} {l : List Int} (h : IOwn w B (.slice a n c) l) {j : Nat} (hj : j < l.length) : ∃ g, a = some ⟨g, 0, none⟩ ∧ w.cell? ⟨g, j, none⟩ = some (.int .i64 (l.getD j 0)) := by
 obtain ⟨a', c', e, hL⟩ := h.lat
 cases e
 rcases hL with e | ⟨g, e, _, hc⟩
 ·rw [e] at hj; simp at hj
 ·exact ⟨g, e, hc j hj⟩

set_option maxHeartbeats 8000000 in
set_option maxRecDepth 100000 in
theorem rreport_k {c : KC} {k : KT} {F : LS} (w : World) (h : IsK w c k) (he : EK c.N c.M c.im k F) :
  Calls Tryz.prog 32 #[.pointer (some ⟨c.p, 0, none⟩)] w fun e w' => ∃ v1 v2 v3, e = .returned (.agg #[.slice (some ⟨c.g, 0, none⟩) c.N c.wc, v1, v2, v3]) ∧ Rep w w' v1 v2 v3 (catK (fun j => keysL c.N fun x => decide (wrKind c.M c.im k.wt F.wp x = j)) 3) (keysL (c.M + 1) fun x => (F.tk x).isSome) (keysL c.N F.cl) ∧ Chg w w' No := by
 have hz := zero_rep;have hbR := build_repW c.g c.N c.wc;have HK := hid h;have HE := hid he;have HNb := hid (And.intro h.n1 (And.intro h.n2 (And.intro h.m1 h.m2)));have hmB := make_bools c.N (by have := h.n2; omega)
 obtain ⟨b, o, hia, hIr⟩ : ∃ b o, c.ia = some ⟨b, o, none⟩ ∧ ∀ W, Chg w W No → ∀ m : Nat, m < c.N → W.rangeAt b (o + m * 128) ((secI c.im (m : Int)).map (Value.int .u8)) := by
  rcases h.ci.2 with e | ⟨b, o, e1, _, _⟩
  ·have h1 := h.il; have h2 := h.n1; rw [e] at h1; simp at h1; omega
  ·refine ⟨b, o, e1, fun W hW m hm => ?_⟩
   rcases (h.ci.keep hW (fun _ _ e => e)).2 with e | ⟨b', o', e2, _, e3⟩
   ·have h1 := h.il; have h2 := h.n1; rw [e] at h1; simp at h1; omega
   ·rw [e1] at e2
    cases e2
    exact e3 m _ (getD_at (by rw [h.il]; exact hm))
 have HIa := hid hia;have HIr := hid hIr;have HSecs : Hid (AllSec k.wt ∧ AllSec c.im) := hid ⟨allSec_of h.wt.1, allSec_of h.ci.1⟩;obtain ⟨pW, hpW⟩ : ∃ y, y = (fun (j : Nat) (x : Int) => decide (wrKind c.M c.im k.wt F.wp x = j)) := ⟨_, rfl⟩;obtain ⟨pI, hpI⟩ : ∃ y, y = (fun x : Int => (F.tk x).isSome) := ⟨_, rfl⟩
 have HpI : Hid (pI 0 = false ∧ ∀ i : Nat, i ≤ c.M → pI (i : Int) = k.tk (i : Int)) := hid (by
  rw [hpI]
  exact ⟨by show (F.tk 0).isSome = false; rw [he.out]; rfl, fun i hi => (he.tk i hi).symm⟩)
 have HpW : Hid (∀ (n : Int) (b : Bool), 0 ≤ n → (b = true ↔ FstK k c.M n) → ∀ R : Nat, R = (if n ≤ (c.M : Int) then 1 else if b then 0 else 2) → ∀ t : Nat, t < 3 → pW t n = (decide (R = t) && !decide (secI k.wt n = secI c.im n))) := hid (fun n b _ hb R hR t ht => by
  rw [hpW]
  show decide (wrKind c.M c.im k.wt F.wp n = t) = _
  by_cases hs : secI k.wt n = secI c.im n
  ·rw [wrKind_same hs, decide_eq_true hs, decide_eq_false (by omega)]
   simp
  ·have := he.row hb hs
   rw [← he.wt] at this;rw [this, ← hR, decide_eq_false hs]
   simp)
 obtain ⟨pC, hpC⟩ : ∃ y, y = F.cl := ⟨_, rfl⟩;have HpC : Hid (pC = k.cl) := hid (hpC.trans he.cl.symm)
 have hcat : (catK (fun j => keysL c.N fun x => decide (wrKind c.M c.im k.wt F.wp x = j)) 3) = catK (fun j => keysL c.N (pW j)) 3 := by rw [hpW]
 rw [hcat, ← hpI, ← hpC];clear h he hpW hpI hpC hcat hia hIr
 go_enter Tryz.func32, Tryz.ntmps32
 go_upto_region 1 with fail
 obtain ⟨w1, hw1⟩ : ∃ y, y = w.alloc (.cells nil4 26) := ⟨_, rfl⟩
 have hA1 : Chg w w1 No := by rw [hw1]; exact Chg.alloc _ _ No
 have hs1 : w1.heap.size = w.heap.size + 1 := by rw [hw1]; simp
 have HN1 : Hid (w1.heap[w.heap.size]? = some (.cells nil4 26 (0, 0))) := hid (by rw [hw1]; exact heap_alloc_new _ _);rw [← hw1];have HA1 := hid hA1;have HS1 := hid hs1;have c3 := (HK.out.call hA1).cW;clear hw1 hA1 hs1 hbR;unfold nil4 at hz
 go_upto_region 2 with fail
 obtain ⟨w2, hw2⟩ : ∃ y, y = w1.alloc (.cells #[.slice (some ⟨c.g, 0, none⟩) c.N c.wc, .slice none 0 0, .slice none 0 0, .slice none 0 0] 26) := ⟨_, rfl⟩;obtain ⟨gr, hgr⟩ : ∃ y, y = w1.heap.size := ⟨_, rfl⟩
 have hA2 : Chg w1 w2 No := by rw [hw2]; exact Chg.alloc _ _ No
 have HN2 : Hid (w2.heap[gr]? = some (.cells #[.slice (some ⟨c.g, 0, none⟩) c.N c.wc, .slice none 0 0, .slice none 0 0, .slice none 0 0] 26 (0, 0))) := hid (by rw [hw2, hgr]; exact heap_alloc_new _ _);rw [← hw2, ← hgr];have HA2 : Hid (Chg w w2 No) := hid (HA1.out.trans hA2 (fun _ _ e => e) (fun _ _ e => e));have HN1b : Hid (w2.heap[w.heap.size]? = some (.cells nil4 26 (0, 0))) := hid (hA2.keep HN1.out (fun e => e));have HGr : Hid (gr = w.heap.size + 1) := hid (by rw [hgr]; exact HS1.out);have c1 := (HK.out.call HA2.out).cI;clear hw2 hgr hA2 HN1 HA1 HS1 c3 hz
 go_upto_region 3 with fail
 obtain ⟨w3, hw3⟩ : ∃ y, y = w2.alloc (.cells (UA c.N) 4) := ⟨_, rfl⟩;obtain ⟨fb, hfb⟩ : ∃ y, y = w2.heap.size := ⟨_, rfl⟩
 have G0 : Hid (RW w w3 c gr fb (.slice none 0 0) (.slice none 0 0) (.slice none 0 0) [] [] [] (fun _ => false)) := hid (by
  rw [hw3, hfb];have hA := Chg.alloc w2 (.cells (UA c.N) 4) No
  exact rw_start (HA2.out.tr2 hA) (hA.keep HN2.out (fun e => e)) (bat_made _ _) (by have := HGr.out; omega) HA2.out.size (hA.keep HN1b.out (fun e => e)) (by have := HGr.out; omega))
 rw [← hw3, ← hfb];clear hw3 hfb HA2 HN1b HN2 c1 hmB;clear HGr
 go_wp2_with fail
 go_loopw [5] (fun x5 wr => ∃ i : Nat, 1 ≤ i ∧ i ≤ c.M + 1 ∧ x5 = .int .i64 (i : Int) ∧ Hid (∃ v2 f, RW w wr c gr fb (.slice none 0 0) v2 (.slice none 0 0) [] (keysL i pI) [] f ∧ MK c.N f (FstK k (i - 1)))) (fun x5 _ => c.M + 1 - (intOf x5).toNat)
 case atStart => exact ⟨1, by omega, by omega, rfl, hid ⟨_, _, by
  have e : keysL 1 pI = [] := by rw [keysL_out (k := 0) HpI.out.1]; rfl
  rw [e]
  exact G0.out, fun n _ _ => ⟨(fun e => by cases e), fun e => absurd e (FstK_zero k n)⟩⟩⟩
 case round =>
  as_aux_lemma =>
   obtain ⟨i, i1, i2, rfl, HX⟩ := hrel;clear G0;obtain ⟨v2, f, hR, hM⟩ := HX.out;have HR := hid hR;have HM := hid hM;have hKr := HK.out.call hR.ch;have d1 := hKr.cM;clear HX hM
   have m9 : c.M + 2 ≤ 4096 := by have := HNb.out; omega
   by_cases hlt : i ≤ c.M
   ·have j0 : (0 : Int) ≤ (i : Int) := by omega
    have j1 : (i : Int) ≤ (c.M : Int) := by omega
    have j3 : (i : Int) < (c.M : Int) + 1 := by omega
    have jb : (i : Int) ≤ 4096 := by omega
    have d2 := hKr.cT;obtain ⟨d3, d4⟩ := hKr.tk.cell (k := i) (by omega);clear d4 m9;have HKr : Hid (∀ W, Chg wr W No → IsK W c k) := hid (fun W hW => hKr.call hW)
    cases ht : k.tk (i : Int) with
    | false =>
     rw [ht] at d3
     have HNx : Hid (∃ v2 f, RW w wr c gr fb (.slice none 0 0) v2 (.slice none 0 0) [] (keysL (i + 1) pI) [] f ∧ MK c.N f (FstK k (i + 1 - 1))) := hid ⟨v2, f, by
      rw [keysL_out ((HpI.out.2 i hlt).trans ht)]
      exact HR.out, HM.out.same fun n => by
       obtain ⟨j, rfl⟩ : ∃ j, i = j + 1 := ⟨i - 1, by omega⟩;rw [Nat.add_sub_cancel, Nat.add_sub_cancel, FstK_succ]
       exact ⟨fun q => q.resolve_right (fun q => by rw [q.1] at ht; cases ht), .inl⟩⟩
     clear hR hKr HKr ht
     go_wp2_with fail
     exact ⟨⟨i + 1, by omega, by omega, by go_num, HNx⟩, by simp [intOf]; omega⟩
    | true =>
     rw [ht] at d3;have HKy : Hid (keysL (i + 1) pI = keysL i pI ++ [(i : Int)]) := hid (keysL_in ((HpI.out.2 i hlt).trans ht));have HTt := hid ht;clear hR hKr ht;obtain ⟨va, vc, hva, _⟩ := HR.out.o2.lat;have ca := HR.out.c2;subst hva;obtain ⟨wA, hwA⟩ : ∃ y, y = wr.alloc (.cells #[.int .i64 (i : Int)] 3) := ⟨_, rfl⟩
     have hAc : Chg wr wA No := by rw [hwA]; exact Chg.alloc wr _ No
     have HRA := hid (HR.out.call hAc)
     have e2 : wA.cell? ⟨wr.heap.size, 0, none⟩ = some (.int .i64 (i : Int)) := by rw [hwA]; exact (cell_of_row _ _ _ _ _ _ (heap_alloc_new wr (.cells #[.int .i64 (i : Int)] 3))).trans rfl
     have HRo := hid HRA.out.o2;have ca2 := HRA.out.c2;obtain ⟨ll, hll⟩ : ∃ y, y = keysL i pI := ⟨_, rfl⟩;rw [← hll] at HRo ca ca2;have HLL := hid hll;have HLn : Hid (ll.length ≤ 1000000000000) := hid (by rw [hll]; have := keysL_len i pI; omega)
     have HSt : Hid (∀ v' w', IOwn w' w.heap.size v' (ll ++ [(i : Int)]) → Chg wA w' (fun k => (Value.slice va ll.length vc).ownBlock = some k) → (v'.ownBlock = (Value.slice va ll.length vc).ownBlock ∨ v'.ownBlock = some wA.heap.size) → RW w (w'.setCell ⟨gr, 2, none⟩ v') c gr fb (.slice none 0 0) v' (.slice none 0 0) [] (ll ++ [(i : Int)]) [] f ∧ w'.cell? ⟨gr, 2, none⟩ = some (.slice va ll.length vc) ∧ w'.frozen? ⟨gr, 2, none⟩ = false) := hid (fun v' w' h1 h2 h3 => by
      rw [hll] at h2 h3 ⊢
      exact HRA.out.put2 (by rw [← hll]; exact h1) h2 h3)
     have HBs : Hid (w.heap.size ≤ wA.heap.size) := hid (HRA.out.ch.size);clear hAc HRA HR hll;rw [hwA] at e2 HRo HSt HBs ca2;clear hwA
     go_upto_region 8 with (first
      | (at_builtin; go_must (refine wp_appI2 rfl _ _ rfl w.heap.size wr.heap.size 1 _ _ (i : Int) rfl rfl HRo.out e2 HLn.out HBs.out ?_; intro v' w10 hI10 hc10 hn10; obtain ⟨k10, q10, f10⟩ := HSt.out v' w10 hI10 hc10 hn10; obtain ⟨na, nc, hv', _⟩ := hI10.lat; obtain ⟨nn, hnn⟩ : ∃ yy : Nat, yy = (ll ++ [(i : Int)]).length := ⟨_, rfl⟩; rw [← hnn] at hv'; subst hv'; have HF := hid k10; clear k10 hI10 hc10 hn10 hnn e2 ca ca2 HRo HSt))
      | fail)
     obtain ⟨wd, hwd⟩ : ∃ y, y = w10.setCell ⟨gr, 2, none⟩ (.slice na nn nc) := ⟨_, rfl⟩;rw [← hwd] at HF ⊢;clear hwd q10 f10 d1 d2 d3;clear HKr;have HCd := hid HF.out.ch;have HZl := hid (HK.out.i18 i);have htabs := HE.out.tabs i (by omega) hlt HTt.out;have hwl := HK.out.wl;obtain ⟨T, hT1, hT2⟩ := tables_in (im := k.wt) (z := k.ino i) (fun q hq => by have := htabs q hq; omega);obtain ⟨L, hL1, hL2⟩ := spots_in (HK.out.i18 i) (im := k.wt) (z := k.ino i) (fun q hq => by have := htabs q hq; omega);have HTm : Hid (∀ n, n ∈ T ↔ n ∈ tabsZ k.wt (k.ino i)) := hid hT2
     have HTr : Hid (∀ j, j < T.length → (c.M : Int) < T.getD j 0 ∧ T.getD j 0 < c.N) := hid (fun j hj => by
      have hm : T.getD j 0 ∈ T := by rw [List.getD_eq_getElem?_getD, List.getElem?_eq_getElem hj]; exact List.getElem_mem hj
      exact htabs _ ((hT2 _).1 hm))
     have HLm : Hid (∀ n, (∃ y ∈ spI k.wt (k.ino i), y.2 = n) ↔ n ∈ L.map Sp9.sec) := hid (fun n => by
      rw [← hL2, List.mem_map]
      constructor
      ·rintro ⟨y, hy, rfl⟩
       obtain ⟨x, hx, rfl⟩ := List.mem_map.1 hy
       exact ⟨x, hx, rfl⟩
      ·rintro ⟨x, hx, rfl⟩
       exact ⟨_, List.mem_map.2 ⟨x, hx, rfl⟩, rfl⟩)
     have HLr : Hid (∀ j, j < L.length → (c.M : Int) < (L.getD j ⟨0, 0, 0⟩).sec ∧ (L.getD j ⟨0, 0, 0⟩).sec < c.N) := hid (fun j hj => by
      have hm : L.getD j ⟨0, 0, 0⟩ ∈ L := by rw [List.getD_eq_getElem?_getD, List.getElem?_eq_getElem hj]; exact List.getElem_mem hj
      exact HE.out.spot i (by omega) hlt HTt.out (spP (L.getD j ⟨0, 0, 0⟩)) (by rw [← hL2]; exact List.mem_map.2 ⟨_, hm, rfl⟩))
     have HLs : Hid (∀ j, j < L.length → ((L.map Sp9.sec).getD j 0) = (L.getD j ⟨0, 0, 0⟩).sec) := hid (fun j hj => by
      rw [List.getD_eq_getElem?_getD, List.getElem?_map, List.getD_eq_getElem?_getD, List.getElem?_eq_getElem hj]
      rfl)
     clear htabs hwl hT2 hL2;obtain ⟨zi, hzi⟩ : ∃ y, y = k.ino i := ⟨_, rfl⟩
     have HRg : Hid (∀ W, Chg w W No → W.rangeAt c.ib (i * 18) (zi.map (Value.int .i64))) := hid (fun W hW => by
      rw [hzi]
      exact (HK.out.call hW).inn.range (by omega) (HK.out.i18 i))
     have HK0 : Hid (∀ W, Chg w W No → W.cell? ⟨c.ib, i * 18, none⟩ = some (.int .i64 (zi.getD 0 0))) := hid (fun W hW => by
      rw [hzi]
      exact (HK.out.call hW).inn.cell0 (by omega))
     have HZI := hid hzi;rw [← hzi] at HZl hT1 hL1;have HSr : Hid (∀ W, Chg w W No → Calls Tryz.prog 58 #[.pointer (some ⟨c.p, 0, none⟩)] W fun e w' => e = .returned (.agg (srcV (some ⟨c.g, 0, none⟩) c.wc ⟨k.wt, -1, 0⟩)) ∧ Chg W w' No) := hid (fun W hW => source_any W (HK.out.call hW))
     have HTb : Hid (∀ W, Chg w W No → Calls Tryz.prog 64 #[.agg (srcV (some ⟨c.g, 0, none⟩) c.wc ⟨k.wt, -1, 0⟩), .agg (NA zi)] W fun e w' => ∃ v, e = .returned (.tuple #[v, .int .i64 0]) ∧ IOwn w' w.heap.size v T ∧ Chg W w' No) := hid (fun W hW => by
      have hi := ImgAt.of_wt (HK.out.call hW).wt;refine (rTables_any (some ⟨c.g, 0, none⟩) c.wc ⟨k.wt, -1, 0⟩ zi W HZl.out hi).mono ?_
      rintro e w' ⟨v, rfl, h2, hb⟩
      rw [hT1] at h2 ⊢
      exact ⟨v, rfl, h2.base hW.size, Chg.of_below hb No⟩)
     have HSp : Hid (∀ W, Chg w W No → Calls Tryz.prog 59 #[.agg (srcV (some ⟨c.g, 0, none⟩) c.wc ⟨k.wt, -1, 0⟩), .agg (NA zi)] W fun e w' => ∃ v, e = .returned (.tuple #[v, .int .i64 0]) ∧ SOwn w' w.heap.size v L ∧ Chg W w' No) := hid (fun W hW => by
      have hi := ImgAt.of_wt (HK.out.call hW).wt;refine (rSpots_any (some ⟨c.g, 0, none⟩) c.wc ⟨k.wt, -1, 0⟩ zi W HZl.out hi).mono ?_
      rintro e w' ⟨v, rfl, h2, hb⟩
      rw [hL1] at h2 ⊢;refine ⟨v, rfl, ⟨h2.1, ?_⟩, Chg.of_below hb No⟩
      rcases h2.2 with e | ⟨g, cap, cur, e1, hbb, r⟩
      ·exact .inl e
      ·exact .inr ⟨g, cap, cur, e1, Nat.le_trans hW.size hbb, r⟩)
     obtain ⟨SV, hSV⟩ : ∃ y, y = srcV (some ⟨c.g, 0, none⟩) c.wc ⟨k.wt, -1, 0⟩ := ⟨_, rfl⟩;rw [← hSV] at HSr HTb HSp;clear hSV hT1 hL1 hzi;have HF0 : Hid (MK c.N f (fun n => FstK k (i - 1) n ∨ n ∈ T.take 0)) := hid (HM.out.same fun n => ⟨fun q => q.resolve_right (by simp), .inl⟩)
     have HEnd : Hid (∀ W v2' f', RW w W c gr fb (.slice none 0 0) v2' (.slice none 0 0) [] (ll ++ [(i : Int)]) [] f' → (MK c.N f' (fun n => FstK k (i - 1) n ∨ n ∈ T) ∧ zi.getD 0 0 ≠ 2 ∨ zi.getD 0 0 = 2 ∧ MK c.N f' (fun n => (FstK k (i - 1) n ∨ n ∈ T) ∨ n ∈ L.map Sp9.sec)) → ∃ v2 f, RW w W c gr fb (.slice none 0 0) v2 (.slice none 0 0) [] (keysL (i + 1) pI) [] f ∧ MK c.N f (FstK k (i + 1 - 1))) := hid (fun W v2' f' hrw hmk => ⟨v2', f', by rw [HKy.out, ← HLL.out]; exact hrw, by
      obtain ⟨j, rfl⟩ : ∃ j, i = j + 1 := ⟨i - 1, by omega⟩;rw [Nat.add_sub_cancel] at hmk ⊢
      rcases hmk with ⟨hmk, hn⟩ | ⟨hn, hmk⟩
      ·refine hmk.same fun n => ?_
       rw [FstK_succ, HTm.out n];refine or_congr Iff.rfl ⟨fun q => ?_, fun q => ⟨HTt.out, .inl q⟩⟩
       rcases q.2 with q | ⟨q, _⟩
       ·exact q
       ·rw [← HZI.out] at q; exact absurd q hn
      ·refine hmk.same fun n => ?_
       rw [FstK_succ, HTm.out n, or_assoc, ← HLm.out n];refine or_congr Iff.rfl ⟨fun q => ?_, fun q => ⟨HTt.out, ?_⟩⟩
       ·rcases q.2 with q | ⟨_, q⟩
        ·exact .inl q
        ·exact .inr q
       ·rcases q with q | q
        ·exact .inl q
        ·exact .inr ⟨by rw [← HZI.out]; exact hn, q⟩⟩)
     clear HM HKy HLL HTm HLm HTt HZI;refine wp_region_noPanic ?_;refine wp_region_held_drew (S := fun w' => Chg wd w' No) (by kernel_rfl) (Chg.refl _ _).drew (fun hH => ?_);refine tV 0 51 (.pointer (some ⟨c.p, 0, none⟩)) rfl (by kernel_rfl) rfl (by rfl) hH (fun W' hw' => rfl) ?_;simp only [sS];refine tV 2 53 (.pointer (some ⟨c.p, 0, none⟩)) rfl (by kernel_rfl) rfl (by rfl) hH (fun W' hw' => rfl) ?_;simp only [sS];refine tV 3 54 (.pointer (some ⟨c.p, 0, none⟩)) rfl (by kernel_rfl) rfl (by rfl) hH (fun W' hw' => by go_simp) ?_;simp only [sS];refine tV 4 55 (.pointer (some ⟨c.p, 6, none⟩)) rfl (by kernel_rfl) rfl (by rfl) hH (fun W' hw' => by go_simp) ?_;simp only [sS];refine tV 5 56 (.slice (some ⟨c.ib, 0, none⟩) (c.M + 1) (c.M + 1)) rfl (by kernel_rfl) rfl (by rfl) hH (fun W' hw' => by have hc := (HK.out.call (HCd.out.tr2 hw')).cN6; go_simp) ?_;simp only [sS];refine tV 6 57 (.int .i64 (i : Int)) rfl (by kernel_rfl) rfl (by rfl) hH (fun W' hw' => rfl) ?_;simp only [sS];refine tV 7 58 (.pointer (some ⟨c.ib, i * 18, none⟩)) rfl (by kernel_rfl) rfl (by rfl) hH (fun W' hw' => by go_simp) ?_;simp only [sS];refine takeIno 8 59 (.tmp 58) c.ib (i * 18) zi HZl.out rfl (by kernel_rfl) (by kernel_rfl) (by kernel_rfl) rfl rfl rfl (by rfl) (fun _ _ _ h => h) hH (fun _ hw' => HRg.out _ (HCd.out.tr2 hw')) ?_;simp only [sS];refine step1 1 (by kernel_rfl) ?_;refine stCall 1 52 58 #[.pointer (some ⟨c.p, 0, none⟩)] _ rfl rfl (by rfl) (by go_simp) (HSr.out _ (HCd.out.tr2 hH)) ?_
     rintro e w4 ⟨rfl, hb4⟩
     have hH4 : Chg wd w4 No := hH.tr2 hb4;refine ⟨_, rfl, hH4, ?_⟩;simp only [sS];refine step1 9 (by kernel_rfl) ?_;refine stCall 9 60 64 #[.agg SV, .agg (NA zi)] _ rfl rfl (by rfl) (by go_simp) (HTb.out _ (HCd.out.tr2 hH4)) ?_
     rintro e w5 ⟨vs, rfl, hS5, hb5⟩
     have hH5 : Chg wd w5 No := hH4.tr2 hb5;refine ⟨_, rfl, hH5, ?_⟩;simp only [sS];refine tV 10 50 (.tuple #[vs, .int .i64 0]) rfl (by kernel_rfl) rfl (by rfl) hH5 (fun W' hw' => rfl) ?_;simp only [sS];refine tV 11 61 (vs) rfl (by kernel_rfl) rfl (by rfl) hH5 (fun W' hw' => rfl) ?_;simp only [sS];refine tV 12 62 (.int .i64 0) rfl (by kernel_rfl) rfl (by rfl) hH5 (fun W' hw' => rfl) ?_;simp only [sS];refine tV 13 6 (vs) rfl (by kernel_rfl) rfl (by rfl) hH5 (fun W' hw' => rfl) ?_;simp only [sS];refine tV 14 7 (.int .i64 0) rfl (by kernel_rfl) rfl (by rfl) hH5 (fun W' hw' => rfl) ?_;simp only [sS];refine wpAnyH_done (by kernel_rfl) ?_ _;refine NoPanic.normal ?_;have HS5 := hid hS5;have HC5 := hid hH5;clear hS5 hH5 hH4 hb4 hb5 hH;have HF5 := hid (HF.out.call HC5.out);obtain ⟨ta, tc, hvs, _⟩ := HS5.out.lat;have HTB := hid (own_max HS5.out);subst hvs;have G1 : Hid (∃ f', RW w w5 c gr fb (.slice none 0 0) (.slice na nn nc) (.slice none 0 0) [] (ll ++ [(i : Int)]) [] f' ∧ MK c.N f' (fun n => FstK k (i - 1) n ∨ n ∈ T.take 0) ∧ IOwn w5 w.heap.size (.slice ta T.length tc) T) := hid ⟨f, HF5.out, HF0.out, HS5.out⟩;clear HF HF5 HS5 HC5 HF0 HTb HCd
     go_wp2_with fail
     go_loopw [8] (fun x8 wq => ∃ j : Nat, j ≤ T.length ∧ x8 = .int .i64 (j : Int) ∧ Hid (∃ f', RW w wq c gr fb (.slice none 0 0) (.slice na nn nc) (.slice none 0 0) [] (ll ++ [(i : Int)]) [] f' ∧ MK c.N f' (fun n => FstK k (i - 1) n ∨ n ∈ T.take j) ∧ IOwn wq w.heap.size (.slice ta T.length tc) T)) (fun x8 _ => T.length - (intOf x8).toNat)
     case atStart => exact ⟨0, by omega, rfl, G1⟩
     case round =>
      as_aux_lemma =>
       obtain ⟨j, hj, rfl, HX⟩ := hrel;clear G1;obtain ⟨f1, hR1, hM1, hT1⟩ := HX.out
       by_cases hjt : j < T.length
       ·have k5 : (0 : Int) ≤ (j : Int) := by omega
        have k6 : (j : Int) < (T.length : Int) := by omega
        have k7 : (j : Int) ≤ 9223372036854775806 := by have := HTB.out; omega
        obtain ⟨gT, hga, q5⟩ := own_cell hT1 hjt;obtain ⟨m, hm⟩ : ∃ m : Nat, T.getD j 0 = (m : Int) := ⟨(T.getD j 0).toNat, by have := HTr.out j hjt; omega⟩
        have hmN : m < c.N := by have := (HTr.out j hjt).2; omega
        rw [hm] at q5
        have k8 : (0 : Int) ≤ (m : Int) := by omega
        have k9 : (m : Int) < (c.N : Int) := by omega
        obtain ⟨q6, q7⟩ := hR1.f.cell (k := m) hmN;have HNx : Hid (∃ f', RW w (wr.setCell ⟨fb, m, none⟩ (.bool true)) c gr fb (.slice none 0 0) (.slice na nn nc) (.slice none 0 0) [] (ll ++ [(i : Int)]) [] f' ∧ MK c.N f' (fun n => FstK k (i - 1) n ∨ n ∈ T.take (j + 1)) ∧ IOwn (wr.setCell ⟨fb, m, none⟩ (.bool true)) w.heap.size (.slice ta T.length tc) T) := hid ⟨_, hR1.mark hmN, hM1.put (m : Int) (fun n => by rw [take_mem hjt, hm, or_assoc]), own_mark hT1 hR1.f⟩;subst hga
        generalize f1 (m : Int) = b6 at q6
        clear hR1 hM1 hT1 HX hm hmN
        go_wp2_with fail
        exact ⟨⟨j + 1, by omega, by go_num, HNx⟩, by simp [intOf]; omega⟩
       ·have k6 : ¬ (j : Int) < (T.length : Int) := by omega
        have hjT : T.take j = T := List.take_of_length_le (by omega);rw [hjT] at hM1;have c6 := (HK.out.call hR1.ch).cN6;have q0 := HK0.out wr hR1.ch;obtain ⟨K0, hK0⟩ : ∃ y, y = zi.getD 0 0 := ⟨_, rfl⟩;rw [← hK0] at q0 HEnd;have HR1 := hid hR1;have HM1 := hid hM1;clear hK0 hjT hR1 hM1 hT1 HX HK0 HTr
        by_cases hk2 : K0 = 2
        ·subst hk2
         go_upto_region 14 with fail
         have HCd := hid HR1.out.ch;refine wp_region_noPanic ?_;refine wp_region_held_drew (S := fun w' => Chg wr w' No) (by kernel_rfl) (Chg.refl _ _).drew (fun hH => ?_);refine tV 0 85 (.pointer (some ⟨c.p, 0, none⟩)) rfl (by kernel_rfl) rfl (by rfl) hH (fun W' hw' => rfl) ?_;simp only [sS];refine tV 2 87 (.pointer (some ⟨c.p, 0, none⟩)) rfl (by kernel_rfl) rfl (by rfl) hH (fun W' hw' => rfl) ?_;simp only [sS];refine tV 3 88 (.pointer (some ⟨c.p, 0, none⟩)) rfl (by kernel_rfl) rfl (by rfl) hH (fun W' hw' => by go_simp) ?_;simp only [sS];refine tV 4 89 (.pointer (some ⟨c.p, 6, none⟩)) rfl (by kernel_rfl) rfl (by rfl) hH (fun W' hw' => by go_simp) ?_;simp only [sS];refine tV 5 90 (.slice (some ⟨c.ib, 0, none⟩) (c.M + 1) (c.M + 1)) rfl (by kernel_rfl) rfl (by rfl) hH (fun W' hw' => by have hc := (HK.out.call (HCd.out.tr2 hw')).cN6; go_simp) ?_;simp only [sS];refine tV 6 91 (.int .i64 (i : Int)) rfl (by kernel_rfl) rfl (by rfl) hH (fun W' hw' => rfl) ?_;simp only [sS];refine tV 7 92 (.pointer (some ⟨c.ib, i * 18, none⟩)) rfl (by kernel_rfl) rfl (by rfl) hH (fun W' hw' => by go_simp) ?_;simp only [sS];refine takeIno 8 93 (.tmp 92) c.ib (i * 18) zi HZl.out rfl (by kernel_rfl) (by kernel_rfl) (by kernel_rfl) rfl rfl rfl (by rfl) (fun _ _ _ h => h) hH (fun _ hw' => HRg.out _ (HCd.out.tr2 hw')) ?_;simp only [sS];refine step1 1 (by kernel_rfl) ?_;refine stCall 1 86 58 #[.pointer (some ⟨c.p, 0, none⟩)] _ rfl rfl (by rfl) (by go_simp) (HSr.out _ (HCd.out.tr2 hH)) ?_
         rintro e w4 ⟨rfl, hb4⟩
         have hH4 : Chg wr w4 No := hH.tr2 hb4;refine ⟨_, rfl, hH4, ?_⟩;simp only [sS];refine step1 9 (by kernel_rfl) ?_;refine stCall 9 94 59 #[.agg SV, .agg (NA zi)] _ rfl rfl (by rfl) (by go_simp) (HSp.out _ (HCd.out.tr2 hH4)) ?_
         rintro e w5 ⟨vs, rfl, hS5, hb5⟩
         have hH5 : Chg wr w5 No := hH4.tr2 hb5;refine ⟨_, rfl, hH5, ?_⟩;simp only [sS];refine tV 10 84 (.tuple #[vs, .int .i64 0]) rfl (by kernel_rfl) rfl (by rfl) hH5 (fun W' hw' => rfl) ?_;simp only [sS];refine tV 11 95 (vs) rfl (by kernel_rfl) rfl (by rfl) hH5 (fun W' hw' => rfl) ?_;simp only [sS];refine tV 12 96 (.int .i64 0) rfl (by kernel_rfl) rfl (by rfl) hH5 (fun W' hw' => rfl) ?_;simp only [sS];refine tV 13 9 (vs) rfl (by kernel_rfl) rfl (by rfl) hH5 (fun W' hw' => rfl) ?_;simp only [sS];refine tV 14 10 (.int .i64 0) rfl (by kernel_rfl) rfl (by rfl) hH5 (fun W' hw' => rfl) ?_;simp only [sS];refine wpAnyH_done (by kernel_rfl) ?_ _;refine NoPanic.normal ?_;have HS5 := hid hS5;have HC5 := hid hH5;clear hS5 hH5 hH4 hb4 hb5 hH;have HF5 := hid (HR1.out.call HC5.out);obtain ⟨sa, sc, hvs⟩ := HS5.out.shape;have HLB := hid (spo_max HS5.out);subst hvs;have G2 : Hid (∃ f', RW w w5 c gr fb (.slice none 0 0) (.slice na nn nc) (.slice none 0 0) [] (ll ++ [(i : Int)]) [] f' ∧ MK c.N f' (fun n => (FstK k (i - 1) n ∨ n ∈ T) ∨ n ∈ (L.map Sp9.sec).take 0) ∧ SOwn w5 w.heap.size (.slice sa L.length sc) L) := hid ⟨f1, HF5.out, HM1.out.same (fun n => ⟨fun q => q.resolve_right (by simp), .inl⟩), HS5.out⟩;clear HR1 HM1 HF5 HS5 HC5 HCd c6 q0
         go_wp2_with fail
         go_loopw [11] (fun x11 wq => ∃ j : Nat, j ≤ L.length ∧ x11 = .int .i64 (j : Int) ∧ Hid (∃ f', RW w wq c gr fb (.slice none 0 0) (.slice na nn nc) (.slice none 0 0) [] (ll ++ [(i : Int)]) [] f' ∧ MK c.N f' (fun n => (FstK k (i - 1) n ∨ n ∈ T) ∨ n ∈ (L.map Sp9.sec).take j) ∧ SOwn wq w.heap.size (.slice sa L.length sc) L)) (fun x11 _ => L.length - (intOf x11).toNat)
         case atStart => exact ⟨0, by omega, rfl, G2⟩
         case round =>
          as_aux_lemma =>
           obtain ⟨q, hq, rfl, HX⟩ := hrel;clear G2;obtain ⟨f2, hR2, hM2, hS2⟩ := HX.out
           by_cases hql : q < L.length
           ·have k5 : (0 : Int) ≤ (q : Int) := by omega
            have k6 : (q : Int) < (L.length : Int) := by omega
            have k7 : (q : Int) ≤ 9223372036854775806 := by have := HLB.out; omega
            obtain ⟨gT, hga, q5⟩ := hS2.sec hql;obtain ⟨m, hm⟩ : ∃ m : Nat, (L.getD q ⟨0, 0, 0⟩).sec = (m : Int) := ⟨(L.getD q ⟨0, 0, 0⟩).sec.toNat, by have := HLr.out q hql; omega⟩
            have hmN : m < c.N := by have := (HLr.out q hql).2; omega
            rw [hm] at q5
            have k8 : (0 : Int) ≤ (m : Int) := by omega
            have k9 : (m : Int) < (c.N : Int) := by omega
            obtain ⟨q6, q7⟩ := hR2.f.cell (k := m) hmN;have HNx : Hid (∃ f', RW w (wr.setCell ⟨fb, m, none⟩ (.bool true)) c gr fb (.slice none 0 0) (.slice na nn nc) (.slice none 0 0) [] (ll ++ [(i : Int)]) [] f' ∧ MK c.N f' (fun n => (FstK k (i - 1) n ∨ n ∈ T) ∨ n ∈ (L.map Sp9.sec).take (q + 1)) ∧ SOwn (wr.setCell ⟨fb, m, none⟩ (.bool true)) w.heap.size (.slice sa L.length sc) L) := hid ⟨_, hR2.mark hmN, hM2.put (m : Int) (fun n => by rw [take_mem (by rw [List.length_map]; exact hql), HLs.out q hql, hm, or_assoc (c := n = (m : Int))]), spo_mark hS2 hR2.f⟩;subst hga
            generalize f2 (m : Int) = b6 at q6
            clear hR2 hM2 hS2 HX hm hmN
            go_wp2_with fail
            exact ⟨⟨q + 1, by omega, by go_num, HNx⟩, by simp [intOf]; omega⟩
           ·have k6 : ¬ (q : Int) < (L.length : Int) := by omega
            have hjT : (L.map Sp9.sec).take q = L.map Sp9.sec := List.take_of_length_le (by rw [List.length_map]; omega);rw [hjT] at hM2;have HNx := hid (HEnd.out wr _ f2 hR2 (.inr ⟨by trivial, hM2⟩));clear hR2 hM2 hS2 HX hjT HEnd
            go_wp2_with fail
            exact ⟨⟨i + 1, by omega, by omega, by go_num, HNx⟩, by simp [intOf]; omega⟩
        ·have hk2b : (K0 == 2) = false := beq_eq_false_iff_ne.2 hk2
         have hk2c : decide (K0 = 2) = false := decide_eq_false hk2;have HNx := hid (HEnd.out wr _ f1 HR1.out (.inl ⟨HM1.out, hk2⟩));clear HR1 HM1 HEnd
         go_wp2_with fail
         exact ⟨⟨i + 1, by omega, by omega, by go_num, HNx⟩, by simp [intOf]; omega⟩
   ·have hiM : i = c.M + 1 := by omega
    have j1 : ¬ (i : Int) ≤ (c.M : Int) := by omega
    have HR4 : Hid (RW w wr c gr fb (.slice none 0 0) v2 (.slice none 0 0) [] (keysL (c.M + 1) pI) (keysL 0 pC) f) := hid (by rw [← hiM]; exact HR.out);have HMf : Hid (MK c.N f (FstK k c.M)) := hid (by rw [hiM, Nat.add_sub_cancel] at HM; exact HM.out);have HM4 := hid m9;clear hR HR HM hKr hiM m9
    go_wp2_with fail
    go_loopw [12] (fun x12 wq => ∃ n : Nat, n ≤ c.N ∧ x12 = .int .i64 (n : Int) ∧ Hid (∃ v3, RW w wq c gr fb (.slice none 0 0) v2 v3 [] (keysL (c.M + 1) pI) (keysL n pC) f)) (fun x12 _ => c.N - (intOf x12).toNat)
    case atStart => exact ⟨0, by omega, rfl, hid ⟨_, HR4.out⟩⟩
    case round =>
     as_aux_lemma =>
      obtain ⟨n, hn, rfl, HX⟩ := hrel;clear HR4;obtain ⟨v3, hR⟩ := HX.out;have HR := hid hR;have hKr := HK.out.call hR.ch;have d1 := hKr.cI;have m9 := HNb.out.2.1;clear HX
      by_cases hlt : n < c.N
      ·have j0 : (0 : Int) ≤ (n : Int) := by omega
       have j3 : (n : Int) < (c.N : Int) := by omega
       have jb : (n : Int) ≤ 4096 := by omega
       have d2 := hKr.cC;obtain ⟨d3, d4⟩ := hKr.cl.cell (k := n) hlt
       have hpc : pC (n : Int) = k.cl (n : Int) := by rw [HpC.out]
       clear d4 m9
       cases ht : k.cl (n : Int) with
       | false =>
        rw [ht] at d3 hpc;have HNx : Hid (∃ v3, RW w wr c gr fb (.slice none 0 0) v2 v3 [] (keysL (c.M + 1) pI) (keysL (n + 1) pC) f) := hid ⟨v3, by rw [keysL_out hpc]; exact HR.out⟩;clear hR hKr ht hpc HR
        go_wp2_with fail
        exact ⟨⟨n + 1, by omega, by go_num, HNx⟩, by simp [intOf]; omega⟩
       | true =>
        rw [ht] at d3 hpc;have HKy : Hid (keysL (n + 1) pC = keysL n pC ++ [(n : Int)]) := hid (keysL_in hpc);clear hR hKr ht hpc;obtain ⟨va, vc, hva, _⟩ := HR.out.o3.lat;have ca := HR.out.c3;subst hva;obtain ⟨wA, hwA⟩ : ∃ y, y = wr.alloc (.cells #[.int .i64 (n : Int)] 3) := ⟨_, rfl⟩
        have hAc : Chg wr wA No := by rw [hwA]; exact Chg.alloc wr _ No
        have HRA := hid (HR.out.call hAc)
        have e2 : wA.cell? ⟨wr.heap.size, 0, none⟩ = some (.int .i64 (n : Int)) := by rw [hwA]; exact (cell_of_row _ _ _ _ _ _ (heap_alloc_new wr (.cells #[.int .i64 (n : Int)] 3))).trans rfl
        have HRo := hid HRA.out.o3;have ca2 := HRA.out.c3;obtain ⟨ll, hll⟩ : ∃ y, y = keysL n pC := ⟨_, rfl⟩;rw [← hll] at HRo ca ca2;have HLL := hid hll;have HLn : Hid (ll.length ≤ 1000000000000) := hid (by rw [hll]; have := keysL_len n pC; omega)
        have HSt : Hid (∀ v' w', IOwn w' w.heap.size v' (ll ++ [(n : Int)]) → Chg wA w' (fun k => (Value.slice va ll.length vc).ownBlock = some k) → (v'.ownBlock = (Value.slice va ll.length vc).ownBlock ∨ v'.ownBlock = some wA.heap.size) → RW w (w'.setCell ⟨gr, 3, none⟩ v') c gr fb (.slice none 0 0) v2 v' [] (keysL (c.M + 1) pI) (ll ++ [(n : Int)]) f ∧ w'.cell? ⟨gr, 3, none⟩ = some (.slice va ll.length vc) ∧ w'.frozen? ⟨gr, 3, none⟩ = false) := hid (fun v' w' h1 h2 h3 => by
         rw [hll] at h2 h3 ⊢
         exact HRA.out.put3 (by rw [← hll]; exact h1) h2 h3)
        have HBs : Hid (w.heap.size ≤ wA.heap.size) := hid (HRA.out.ch.size);clear hAc HRA HR hll;rw [hwA] at e2 HRo HSt HBs ca2;clear hwA
        go_wp2_with (first
         | (at_builtin; go_must (refine wp_appI2 rfl _ _ rfl w.heap.size wr.heap.size 1 _ _ (n : Int) rfl rfl HRo.out e2 HLn.out HBs.out ?_; intro v' w10 hI10 hc10 hn10; obtain ⟨k10, q10, f10⟩ := HSt.out v' w10 hI10 hc10 hn10; obtain ⟨na, nc, hv', _⟩ := hI10.lat; obtain ⟨nn, hnn⟩ : ∃ yy : Nat, yy = (ll ++ [(n : Int)]).length := ⟨_, rfl⟩; rw [← hnn] at hv'; subst hv'; have HF := hid k10; clear k10 hI10 hc10 hn10 hnn e2 ca ca2 HRo HSt))
         | fail)
        exact ⟨⟨n + 1, by omega, by go_num, hid ⟨_, by rw [HKy.out, ← HLL.out]; exact HF.out⟩⟩, by simp [intOf]; omega⟩
      ·have j3 : ¬ (n : Int) < (c.N : Int) := by omega
       obtain rfl : n = c.N := by omega
       have HR5 : Hid (∃ v1, RW w wr c gr fb v1 v2 v3 (catK (fun j => keysL c.N (pW j)) 0) (keysL (c.M + 1) pI) (keysL c.N pC) f) := hid ⟨_, HR.out⟩;clear hR hKr HR m9
       go_wp2_with fail
       go_loopw [13] (fun x13 wq => ∃ t : Nat, t ≤ 3 ∧ x13 = .int .i64 (t : Int) ∧ Hid (∃ v1, RW w wq c gr fb v1 v2 v3 (catK (fun j => keysL c.N (pW j)) t) (keysL (c.M + 1) pI) (keysL c.N pC) f)) (fun x13 _ => 3 - (intOf x13).toNat)
       case atStart => exact ⟨0, by omega, rfl, HR5⟩
       case round =>
        as_aux_lemma =>
         obtain ⟨t, ht3, rfl, HX⟩ := hrel;clear HR5
         by_cases htl : t < 3
         ·have j0 : (0 : Int) ≤ (t : Int) := by omega
          have j3 : (t : Int) < 3 := by omega
          have G6 : Hid (∃ v1, RW w wr c gr fb v1 v2 v3 (catK (fun j => keysL c.N (pW j)) t ++ keysL 0 (pW t)) (keysL (c.M + 1) pI) (keysL c.N pC) f) := hid (by
           obtain ⟨v1, hR⟩ := HX.out
           exact ⟨v1, by
            have e : keysL 0 (pW t) = [] := rfl;rw [e, List.append_nil]
            exact hR⟩)
          clear HX
          go_wp2_with fail
          go_loopw [14] (fun x14 wq => ∃ n : Nat, n ≤ c.N ∧ x14 = .int .i64 (n : Int) ∧ Hid (∃ v1, RW w wq c gr fb v1 v2 v3 (catK (fun j => keysL c.N (pW j)) t ++ keysL n (pW t)) (keysL (c.M + 1) pI) (keysL c.N pC) f)) (fun x14 _ => c.N - (intOf x14).toNat)
          case atStart => exact ⟨0, by omega, rfl, G6⟩
          case round =>
           as_aux_lemma =>
            obtain ⟨n, hn, rfl, HX⟩ := hrel;clear G6;obtain ⟨v1, hR⟩ := HX.out;have HR := hid hR;have hKr := HK.out.call hR.ch;have d1 := hKr.cI;clear HX
            by_cases hlt : n < c.N
            ·have j5 : (0 : Int) ≤ (n : Int) := by omega
             have j6 : (n : Int) < (c.N : Int) := by omega
             have jb : (n : Int) ≤ 4096 := by have := HNb.out.2.1; omega
             have c1 := hKr.cM;have hMf := HMf.out (n : Int) (by omega) (by omega);obtain ⟨d3, d4⟩ := HR.out.f.cell (k := n) hlt;obtain ⟨bb, hbb⟩ : ∃ y, y = f (n : Int) := ⟨_, rfl⟩;rw [← hbb] at d3 hMf;obtain ⟨R, hRR⟩ : ∃ y : Nat, y = (if (n : Int) ≤ (c.M : Int) then 1 else if bb then 0 else 2) := ⟨_, rfl⟩;have HpN := hid (HpW.out (n : Int) bb (by omega) hMf R hRR t htl);have HRR := hid hRR;clear hMf hbb hRR hR d4 hKr
             go_upto_if 151 with fail
             go_cut [15] (fun x15 wc => x15 = .int .i64 (R : Int) ∧ wc = wr)
             case first =>
              as_aux_lemma =>
               by_cases hnM : (n : Int) ≤ (c.M : Int)
               ·obtain rfl : R = 1 := by rw [HRR.out, if_pos hnM]
                go_wp2_with fail
                go_meet
                case rel => exact ⟨rfl, rfl⟩
               ·cases bb with
                | true =>
                 obtain rfl : R = 0 := by rw [HRR.out, if_neg hnM]; rfl
                 go_wp2_with fail
                 go_meet
                 case rel => exact ⟨rfl, rfl⟩
                | false =>
                 obtain rfl : R = 2 := by rw [HRR.out, if_neg hnM]; rfl
                 go_wp2_with fail
                 go_meet
                 case rel => exact ⟨rfl, rfl⟩
             case rest =>
              obtain ⟨rfl, rfl⟩ := hcut;clear HRR d3 c1 d1;have HCd := hid HR.out.ch
              by_cases hRt : R = t
              ·subst hRt
               obtain ⟨tk, htk⟩ : ∃ y, y = secI k.wt (n : Int) := ⟨_, rfl⟩;obtain ⟨ik, hik⟩ : ∃ y, y = secI c.im (n : Int) := ⟨_, rfl⟩;have HTS : Hid (tk.length = 128) := hid (by rw [htk]; exact (HSecs.out.1 _).1);have HIS : Hid (ik.length = 128) := hid (by rw [hik]; exact (HSecs.out.2 _).1)
               have HR1 : Hid (∀ W, Chg wc W No → W.rangeAt c.g (n * 128) (tk.map (Value.int .u8))) := hid (fun W hW => by
                rw [htk];have hk := HK.out.call (HCd.out.tr2 hW)
                exact hk.wt.range (k := n) (by rw [hk.wl]; exact hlt))
               have HR2 : Hid (∀ W, Chg wc W No → W.rangeAt b (o + n * 128) (ik.map (Value.int .u8))) := hid (fun W hW => by
                rw [hik]
                exact HIr.out W (HCd.out.tr2 hW) n hlt)
               have HQ1 : Hid (∀ W, Chg wc W No → W.cell? ⟨c.p, 3, none⟩ = some (.slice (some ⟨c.g, 0, none⟩) c.N c.wc)) := hid (fun W hW => (HK.out.call (HCd.out.tr2 hW)).cW)
               have HQ2 : Hid (∀ W, Chg wc W No → W.cell? ⟨c.p, 2, none⟩ = some (.slice (some ⟨b, o, none⟩) c.N c.ic)) := hid (fun W hW => by
                have := (HK.out.call (HCd.out.tr2 hW)).cI;rw [HIa.out] at this
                exact this)
               rw [← htk, ← hik, decide_eq_true rfl, Bool.true_and] at HpN;clear htk hik
               go_upto_region 35 with fail
               refine wp_region_noPanic ?_;refine wp_region_held_drew (S := fun w' => Chg wc w' No) (by kernel_rfl) (Chg.refl _ _).drew (fun hH => ?_);refine tV 0 156 (.int .i64 (R : Int)) rfl (by kernel_rfl) rfl (by rfl) hH (fun W' hw' => rfl) ?_;simp only [sS];refine tV 1 157 (.int .i64 (R : Int)) rfl (by kernel_rfl) rfl (by rfl) hH (fun W' hw' => rfl) ?_;simp only [sS];refine tV 2 158 (.bool true) rfl (by kernel_rfl) rfl (by rfl) hH (fun W' hw' => by clear HpN; go_simp) ?_;simp only [sS];refine tV 3 159 (.bool true) rfl (by kernel_rfl) rfl (by rfl) hH (fun W' hw' => rfl) ?_;simp only [sS];refine tV 4 160 (.pointer (some ⟨c.p, 0, none⟩)) rfl (by kernel_rfl) rfl (by rfl) hH (fun W' hw' => rfl) ?_;simp only [sS];refine tV 5 161 (.pointer (some ⟨c.p, 0, none⟩)) rfl (by kernel_rfl) rfl (by rfl) hH (fun W' hw' => by clear HpN; go_simp) ?_;simp only [sS];refine tV 6 162 (.pointer (some ⟨c.p, 3, none⟩)) rfl (by kernel_rfl) rfl (by rfl) hH (fun W' hw' => by clear HpN; go_simp) ?_;simp only [sS];refine tV 7 163 (.slice (some ⟨c.g, 0, none⟩) c.N c.wc) rfl (by kernel_rfl) rfl (by rfl) hH (fun W' hw' => by have hc := HQ1.out W' hw'; clear HpN; go_simp) ?_;simp only [sS];refine tV 8 164 (.int .i64 (n : Int)) rfl (by kernel_rfl) rfl (by rfl) hH (fun W' hw' => rfl) ?_;simp only [sS];refine tV 9 165 (.pointer (some ⟨c.g, n * 128, none⟩)) rfl (by kernel_rfl) rfl (by rfl) hH (fun W' hw' => by clear HpN; go_simp) ?_;simp only [sS];refine takeMid 10 166 (.tmp 165) c.g (n * 128) tk HTS.out rfl (by kernel_rfl) (by kernel_rfl) (by kernel_rfl) rfl rfl rfl (by rfl) (fun _ _ _ h => h) hH (fun W' hw' => HR1.out W' hw') ?_;simp only [sS];refine tV 11 167 (.pointer (some ⟨c.p, 0, none⟩)) rfl (by kernel_rfl) rfl (by rfl) hH (fun W' hw' => rfl) ?_;simp only [sS];refine tV 12 168 (.pointer (some ⟨c.p, 0, none⟩)) rfl (by kernel_rfl) rfl (by rfl) hH (fun W' hw' => by clear HpN; go_simp) ?_;simp only [sS];refine tV 13 169 (.pointer (some ⟨c.p, 2, none⟩)) rfl (by kernel_rfl) rfl (by rfl) hH (fun W' hw' => by clear HpN; go_simp) ?_;simp only [sS];refine tV 14 170 (.slice (some ⟨b, o, none⟩) c.N c.ic) rfl (by kernel_rfl) rfl (by rfl) hH (fun W' hw' => by have hc := HQ2.out W' hw'; clear HpN; go_simp) ?_;simp only [sS];refine tV 15 171 (.int .i64 (n : Int)) rfl (by kernel_rfl) rfl (by rfl) hH (fun W' hw' => rfl) ?_;simp only [sS];refine tV 16 172 (.pointer (some ⟨b, o + n * 128, none⟩)) rfl (by kernel_rfl) rfl (by rfl) hH (fun W' hw' => by clear HpN; go_simp) ?_;simp only [sS];refine takeMid 17 173 (.tmp 172) b (o + n * 128) ik HIS.out rfl (by kernel_rfl) (by kernel_rfl) (by kernel_rfl) rfl rfl rfl (by rfl) (fun _ _ _ h => h) hH (fun W' hw' => HR2.out W' hw') ?_;simp only [sS];have HR7 := hid (HR.out.call hH);obtain ⟨w7, hw7⟩ : ∃ y, y = wc.drew := ⟨_, rfl⟩;rw [← hw7] at HR7 hH ⊢;clear hw7
               by_cases hs : tk = ik
               ·refine takeNeqK 18 174 (.tmp 166) (.tmp 173) tk ik true HTS.out HIS.out (decide_eq_true hs) rfl (by kernel_rfl) (by kernel_rfl) (by kernel_rfl) rfl rfl rfl rfl (by rfl) (fun _ _ _ h => h) hH ?_
                simp only [sS];refine tV 19 175 (.bool false) rfl (by kernel_rfl) rfl (by rfl) hH (fun W' hw' => by clear HpN hs; go_simp) ?_;simp only [sS];refine wpAnyH_done (by kernel_rfl) ?_ _;refine NoPanic.normal ?_
                have HNx : Hid (∃ v1, RW w w7 c gr fb v1 v2 v3 (catK (fun j => keysL c.N (pW j)) R ++ keysL (n + 1) (pW R)) (keysL (c.M + 1) pI) (keysL c.N pC) f) := hid ⟨v1, by
                 rw [keysL_out (by rw [HpN.out, decide_eq_true hs]; rfl)]
                 exact HR7.out⟩
                clear hH hs
                go_wp2_with fail
                exact ⟨⟨n + 1, by omega, by go_num, HNx⟩, by simp [intOf]; omega⟩
               ·refine takeNeqK 18 174 (.tmp 166) (.tmp 173) tk ik false HTS.out HIS.out (decide_eq_false hs) rfl (by kernel_rfl) (by kernel_rfl) (by kernel_rfl) rfl rfl rfl rfl (by rfl) (fun _ _ _ h => h) hH ?_
                simp only [sS];refine tV 19 175 (.bool true) rfl (by kernel_rfl) rfl (by rfl) hH (fun W' hw' => by clear HpN hs; go_simp) ?_;simp only [sS];refine wpAnyH_done (by kernel_rfl) ?_ _;refine NoPanic.normal ?_;have HKy : Hid (keysL (n + 1) (pW R) = keysL n (pW R) ++ [(n : Int)]) := hid (keysL_in (by rw [HpN.out, decide_eq_false hs]; rfl));clear hH hs HR;have HR := HR7;clear HR7;obtain ⟨va, vc, hva, _⟩ := HR.out.o1.lat;have ca := HR.out.c1;subst hva;obtain ⟨wA, hwA⟩ : ∃ y, y = w7.alloc (.cells #[.int .i64 (n : Int)] 3) := ⟨_, rfl⟩
                have hAc : Chg w7 wA No := by rw [hwA]; exact Chg.alloc w7 _ No
                have HRA := hid (HR.out.call hAc)
                have e2 : wA.cell? ⟨w7.heap.size, 0, none⟩ = some (.int .i64 (n : Int)) := by rw [hwA]; exact (cell_of_row _ _ _ _ _ _ (heap_alloc_new w7 (.cells #[.int .i64 (n : Int)] 3))).trans rfl
                have HRo := hid HRA.out.o1;have ca2 := HRA.out.c1;obtain ⟨ll, hll⟩ : ∃ y, y = (catK (fun j => keysL c.N (pW j)) R ++ keysL n (pW R)) := ⟨_, rfl⟩;rw [← hll] at HRo ca ca2;have HLL := hid hll;have HLn : Hid (ll.length ≤ 1000000000000) := hid (by rw [hll]; rw [List.length_append]; have := keysL_len n (pW R); have := catK_le (xs := fun j => keysL c.N (pW j)) (b := c.N) (fun j => keysL_len c.N (pW j)) R; have := HNb.out.2.1; have : R * c.N ≤ 3 * c.N := Nat.mul_le_mul_right _ (by omega); omega)
                have HSt : Hid (∀ v' w', IOwn w' w.heap.size v' (ll ++ [(n : Int)]) → Chg wA w' (fun k => (Value.slice va ll.length vc).ownBlock = some k) → (v'.ownBlock = (Value.slice va ll.length vc).ownBlock ∨ v'.ownBlock = some wA.heap.size) → RW w (w'.setCell ⟨gr, 1, none⟩ v') c gr fb v' v2 v3 (ll ++ [(n : Int)]) (keysL (c.M + 1) pI) (keysL c.N pC) f ∧ w'.cell? ⟨gr, 1, none⟩ = some (.slice va ll.length vc) ∧ w'.frozen? ⟨gr, 1, none⟩ = false) := hid (fun v' w' h1 h2 h3 => by
                 rw [hll] at h2 h3 ⊢
                 exact HRA.out.put1 (by rw [← hll]; exact h1) h2 h3)
                have HBs : Hid (w.heap.size ≤ wA.heap.size) := hid (HRA.out.ch.size);clear hAc HRA HR hll;rw [hwA] at e2 HRo HSt HBs ca2;clear hwA
                go_wp2_with (first
                 | (at_builtin; go_must (refine wp_appI2 rfl _ _ rfl w.heap.size w7.heap.size 1 _ _ (n : Int) rfl rfl HRo.out e2 HLn.out HBs.out ?_; intro v' w10 hI10 hc10 hn10; obtain ⟨k10, q10, f10⟩ := HSt.out v' w10 hI10 hc10 hn10; obtain ⟨na, nc, hv', _⟩ := hI10.lat; obtain ⟨nn, hnn⟩ : ∃ yy : Nat, yy = (ll ++ [(n : Int)]).length := ⟨_, rfl⟩; rw [← hnn] at hv'; subst hv'; have HF := hid k10; clear k10 hI10 hc10 hn10 hnn e2 ca ca2 HRo HSt))
                 | fail)
                exact ⟨⟨n + 1, by omega, by go_num, hid ⟨_, by rw [HKy.out, ← List.append_assoc, ← HLL.out]; exact HF.out⟩⟩, by simp [intOf]; omega⟩
              ·have hb1 : ((R : Int) == (t : Int)) = false := beq_eq_false_iff_ne.2 (by omega)
               have hb2 : decide ((R : Int) = (t : Int)) = false := decide_eq_false (by omega);have hb3 : decide (R = t) = false := decide_eq_false hRt;have hb4 : (R == t) = false := beq_eq_false_iff_ne.2 hRt
               have HNx : Hid (∀ W, Chg wc W No → ∃ v1, RW w W c gr fb v1 v2 v3 (catK (fun j => keysL c.N (pW j)) t ++ keysL (n + 1) (pW t)) (keysL (c.M + 1) pI) (keysL c.N pC) f) := hid (fun W hW => ⟨v1, by
                rw [keysL_out (by rw [HpN.out, hb3]; rfl)]
                exact HR.out.call hW⟩)
               clear HpN hRt
               go_upto_region 35 with fail
               go_quiet (fail)
               go_wp2_with fail
               exact ⟨⟨n + 1, by omega, by go_num, hid (HNx.out _ (chg_drewN _ _))⟩, by simp [intOf]; omega⟩
            ·have k3 : ¬ (n : Int) < (c.N : Int) := by omega
             obtain rfl : n = c.N := by omega
             have HNx : Hid (∃ v1, RW w wr c gr fb v1 v2 v3 (catK (fun j => keysL c.N (pW j)) (t + 1)) (keysL (c.M + 1) pI) (keysL c.N pC) f) := hid ⟨v1, HR.out⟩;clear hR hKr HR
             go_wp2_with fail
             exact ⟨⟨t + 1, by omega, by go_num, HNx⟩, by simp [intOf]; omega⟩
         ·have j3 : ¬ (t : Int) < 3 := by omega
          obtain rfl : t = 3 := by omega
          obtain ⟨v1, hR⟩ := HX.out;have HR := hid hR;clear HX hR
          go_wp2_with (first
           | (refine load_R rfl 26 _ rfl gr rfl 26 _ _ HR.out.r Tryz.underlying26 rfl szRep ?_)
           | (refine store_R rfl 26 _ _ rfl w.heap.size #[.slice (some ⟨c.g, 0, none⟩) c.N c.wc, v1, v2, v3] rfl rfl 26 _ HR.out.q szRep rfl (rep_one _ _ _ HR.out.o1.one HR.out.o2.one HR.out.o3.one) ?_; intro w6 hw6)
           | fail)
          have hc6 := kt_new hw6;refine bodyPost_ret (v := .agg #[.slice (some ⟨c.g, 0, none⟩) c.N c.wc, v1, v2, v3]) (results_R1 Tryz.results32 _ _ w.heap.size _ 26 _ Tryz.underlying26 rfl szRep rfl hw6.here) rfl ⟨v1, v2, v3, rfl, ?_, ?_⟩
          ·exact ⟨HR.out.o1.keep hc6 (fun j e1 e2 => own_notQ HR.out HR.out.o1 (e2 ▸ e1)), HR.out.o2.keep hc6 (fun j e1 e2 => own_notQ HR.out HR.out.o2 (e2 ▸ e1)), HR.out.o3.keep hc6 (fun j e1 e2 => own_notQ HR.out HR.out.o3 (e2 ▸ e1)), HR.out.a12, HR.out.a13, HR.out.a23⟩
          ·exact HR.out.ch.trans hc6 (fun _ _ e => e) (fun j hj e => by omega)
end Go.Proofs.YtpmignilhoihnaaGreat
