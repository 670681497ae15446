/-
 The document's leaves and gone, walked.
-/
import Derived.Test.YtpmignilhoihnaaGreatS12
import Derived.Test.YtpmignilhoihnaaGreatJB
-- may lack
namespace Go.Proofs.YtpmignilhoihnaaGreat
open Go.RowKit

theorem layP_step (x : List Int) (n : Nat) : layS (numsPtr x (n + 1)) = putN (layS (numsPtr x n)) (4 * n) (x.getD n 0) 4 := by
 rw [numsPtr_succ, layS_snoc]
 have e : (4 * (n : Int)).toNat = 4 * n := by omega
 show putN _ ((4 * (n : Int)).toNat) (x.getD n 0) 4 = _
 rw [e]
theorem stLoadSec (i d : Nat) (x : Operand) (g : Nat) (c : List Int) (hc : c.length = 128) {ops : Array Oper} {Q : Exit → Act → World → Prop} {S : World → Prop} {fuel : Nat} {listed : Array Bool} {a : Act} {w : World} {o : Oper} (hop : ops[i]? = some o) (hd : o.dst = some d) (hw : Region.wanted o (yielded ops a.tmps) = true)
  (ho : o.op = .load 33 x) (hx : a.eval x = .pointer (some ⟨g, 0, none⟩)) (hg : w.heap[g]? = some (.cells (SA c) 33 (0, 0))) (hS : S w)
  (h : wpAnyH Tryz.prog .any ops Q S fuel (listed.setIfInBounds i true) { a with tmps := a.tmps.setIfInBounds d (.agg (SA c)) } w) : St ops Q S fuel listed a w i := by
 refine stVal i d _ hop hd hw ?_ hS h;unfold execOp
 simp only [ho, hx, Instr.loadAt, Instr.sureAddr, Sem.run_bind, Sem.run_pure, Result.andThen_ok, run_loadR w g 33 33 (SA c) _ hg Tryz.underlying33 rfl (by rw [sz26, SA_size, hc])]

set_option maxRecDepth 100000 in
set_option maxHeartbeats 2000000 in
theorem rpointersSector_any (x : List Int) (hx : x.length = 32) (w : World) :
  Calls Tryz.prog 95 #[.agg (NA x)] w fun e w' => e = .returned (.tuple #[.agg (SA (ptrS x)), .int .i64 (ptrE x)]) ∧ Below w.heap.size w w' := by
 have hz := zero_sec;have hbs := build_sec;obtain ⟨W, hW⟩ : ∃ y, y = ((w.alloc (.cells (NA x) 103)).alloc (.cells (SA Zs) 33)).alloc (.cells (SA Zs) 33) := ⟨_, rfl⟩;have hb2 : Below w.heap.size w ((w.alloc (.cells (NA x) 103)).alloc (.cells (SA Zs) 33)) := ((Below.refl _ _).alloc (Nat.le_refl _) _).alloc (by simp) _
 have hz2 : ((w.alloc (.cells (NA x) 103)).alloc (.cells (SA Zs) 33)).heap.size = w.heap.size + 2 := by simp
 have X0 : W.heap[w.heap.size]? = some (.cells (NA x) 103 (0, 0)) := by rw [hW, Below.heap_alloc _ _ _ (by omega)]; exact heap_alloc2_old w _ _
 have Y0 : W.heap[w.heap.size + 1]? = some (.cells (SA Zs) 33 (0, 0)) := by rw [hW, Below.heap_alloc _ _ _ (by omega)]; exact heap_alloc2_new w _ _
 have Z0 : W.heap[w.heap.size + 2]? = some (.cells (SA (layS (numsPtr x 0))) 33 (0, 0)) := by rw [hW, ← hz2]; exact heap_alloc_new _ _
 have B0 : Below w.heap.size w W := by rw [hW]; exact hb2.alloc (by omega) _
 go_enter Tryz.func95, Tryz.ntmps95
 go_upto_region 2 with fail
 rw [← hW];clear hW hb2 hz2
 go_upto_region 3 with fail
 go_loopw [5] (fun i wr => ∃ n : Nat, n ≤ 32 ∧ i = .int .i64 n ∧ wr.heap[w.heap.size]? = some (.cells (NA x) 103 (0, 0)) ∧ wr.heap[w.heap.size + 1]? = some (.cells (SA Zs) 33 (0, 0)) ∧ wr.heap[w.heap.size + 2]? = some (.cells (SA (layS (numsPtr x n))) 33 (0, 0)) ∧ Below w.heap.size w wr ∧ Hid (∀ i, i < n → okP x i)) (fun i _ => 32 - (intOf i).toNat)
 case atStart => exact ⟨0, by omega, rfl, X0, Y0, Z0, B0, fun i hi => absurd hi (Nat.not_lt_zero _)⟩
 case round =>
  obtain ⟨n, hn, rfl, h1, h2, h3, h4, hk⟩ := hrel;clear X0 Y0 Z0 B0;have H1 := hid h1;have H2 := hid h2;have H3 := hid h3
  by_cases hlt : n < 32
  ·have hlt' : (n : Int) < 32 := by omega
   have hcx := row_cell h1 n (by omega);have hstep := layP_step x n;have HLN := (layS_sec (numsPtr x n)).1;have HLM := (layS_sec (numsPtr x (n + 1))).1
   generalize hX : x.getD n 0 = X at *
   generalize hLM : layS (numsPtr x (n + 1)) = LM at *
   generalize layS (numsPtr x n) = LN at *
   clear h1 h2 h3
   by_cases hw : 0 ≤ X ∧ X ≤ 4294967295
   ·have hm1 : wiB X 0 4294967295 = true := wiB_true hw
    have e4 : ((4 * n : Nat) : Int) = 4 * (n : Int) := by omega
    have hlay := fun w' => rlay_any LN (4 * n) 4 X w' HLN (by omega) hw.1 (by omega)
    rw [← hstep, e4] at hlay
    have hk' : Hid (∀ i, i < n + 1 → okP x i) := fun i hi => by
     by_cases e : i = n
     ·subst e; unfold okP; rw [hX]; exact hw
     ·exact hk.out i (by omega)
    go_upto_region 7 with (first | (go_at_call 69; refine (rwithin_any _ _ _ _).mono ?_; rintro e w2 ⟨he, hw2⟩; have hw3 := hw2.symm; subst hw3; rw [hm1] at he; subst he))
    refine wp_region_noPanic ?_;refine wp_region_held_drew (S := fun w' => w'.heap[w.heap.size]? = some (.cells (NA x) 103 (0, 0))) (by kernel_rfl) H1.out (fun hH => ?_);refine tV 1 17 (.int .i64 (n : Int)) rfl (by kernel_rfl) rfl (by rfl) hH (fun x' hw' => rfl) ?_;simp only [sS];refine tV 2 18 (.int .i64 (4 * (n : Int))) rfl (by kernel_rfl) rfl (by rfl) hH (fun x' hw' => by go_simp; exact IntWalk.i64_in _ (by omega)) ?_;simp only [sS];refine tV 3 19 (.int .i64 (n : Int)) rfl (by kernel_rfl) rfl (by rfl) hH (fun x' hw' => rfl) ?_;simp only [sS];refine tV 4 20 (.pointer (some ⟨w.heap.size, n, none⟩)) rfl (by kernel_rfl) rfl (by rfl) hH (fun x' hw' => by go_simp) ?_;simp only [sS];refine tV 5 21 (.int .i64 X) rfl (by kernel_rfl) rfl (by rfl) hH (fun x' hw' => by have hc := row_cell hw' n (by omega); rw [hX] at hc; go_simp) ?_;simp only [sS];refine step1 0 (by kernel_rfl) ?_;refine stLoadSec 0 16 (.tmp 4) (w.heap.size + 2) LN HLN rfl rfl (by rfl) rfl rfl H3.out hH ?_;simp only [sS];refine step1 6 (by kernel_rfl) ?_;refine stCall 6 22 63 #[.agg (SA LN), .int .i64 (4 * (n : Int)), .int .i64 4, .int .i64 X] _ rfl rfl (by rfl) (by go_simp) (hlay _) ?_
    rintro e wA ⟨rfl, hbA⟩
    have hH : wA.heap[w.heap.size]? = some (.cells (NA x) 103 (0, 0)) := by rw [hbA.block _ (slt H1.out)]; exact H1.out
    have hA3 : wA.heap[w.heap.size + 2]? = some (.cells (SA LN) 33 (0, 0)) := by rw [hbA.block _ (slt H3.out)]; exact H3.out
    refine ⟨_, rfl, hH, ?_⟩;simp only [sS];refine step1 7 (by kernel_rfl) ?_;refine stStoreR 7 33 (.tmp 4) (.tmp 22) (w.heap.size + 2) (SA LM) 33 (SA LN) rfl rfl (by rfl) rfl rfl rfl hA3 (by rw [sz26, SA_size, HLM]) (by rw [SA_size, SA_size, HLN, HLM]) (SA_one _) ?_
    intro wT hT
    refine ⟨by rw [hT.other _ (by omega)]; exact hH, ?_⟩;refine wpAnyH_done (by kernel_rfl) ?_ _;refine NoPanic.normal ?_
    have q1 : wT.heap[w.heap.size]? = some (.cells (NA x) 103 (0, 0)) := by rw [hT.other _ (by omega)]; exact hH
    have q2 : wT.heap[w.heap.size + 1]? = some (.cells (SA Zs) 33 (0, 0)) := by rw [hT.other _ (by omega), hbA.block _ (slt H2.out)]; exact H2.out
    have q4 : Below w.heap.size w wT := hT.below (btr (below_drew h4) hbA h4.size) (by omega);have q3 := hT.here;clear hH
    go_wp2
    exact ⟨⟨n + 1, by omega, by go_num, q1, q2, by rw [hLM]; exact q3, q4, hk'⟩, by simp [intOf]; omega⟩
   ·have hm1 : wiB X 0 4294967295 = false := wiB_false hw
    have HB : Hid (ptrB x = false) := ptrB_false hlt (by unfold okP; rw [hX]; exact hw);clear hstep
    go_wp2_with (first | (go_at_call 69; refine (rwithin_any _ _ _ _).mono ?_; rintro e w2 ⟨he, hw2⟩; have hw3 := hw2.symm; subst hw3; rw [hm1] at he; subst he) | (refine store_sec rfl (.tmp 2) _ rfl (w.heap.size + 1) rfl Zs rfl Zs_len Zs Zs_len H2.out ?_; intro w5 hw5))
    rw [show ptrS x = Zs by unfold ptrS; rw [HB.out]; rfl, show ptrE x = 62 by unfold ptrE; rw [HB.out]; rfl]
    exact bodyPost_ret (v := .tuple #[.agg (SA Zs), .int .i64 62]) (results_sec Tryz.results95 _ _ (w.heap.size + 1) Zs Zs_len _ rfl rfl hw5.here) rfl ⟨rfl, hw5.below h4 (by omega)⟩
  ·have e : n = 32 := by omega
   subst e;have HB : Hid (ptrB x = true) := ptrB_true hk.out;have HSX : Hid (ptrS x = layS (numsPtr x 32) ∧ ptrE x = 0) := ⟨by unfold ptrS; rw [HB.out]; rfl, by unfold ptrE; rw [HB.out]; rfl⟩;have hlen := (layS_sec (numsPtr x 32)).1;clear h1 h2 h3
   go_wp2_with (first | refine load_sec rfl (.tmp 4) rfl (w.heap.size + 2) rfl _ hlen H3.out ?_ | (refine store_sec rfl (.tmp 2) _ rfl (w.heap.size + 1) rfl (layS (numsPtr x 32)) rfl hlen Zs Zs_len H2.out ?_; intro w5 hw5))
   rw [HSX.out.1, HSX.out.2]
   exact bodyPost_ret (v := .tuple #[.agg (SA (layS (numsPtr x 32))), .int .i64 0]) (results_sec Tryz.results95 _ _ (w.heap.size + 1) _ hlen _ rfl rfl hw5.here) rfl ⟨rfl, hw5.below h4 (by omega)⟩

end Go.Proofs.YtpmignilhoihnaaGreat

namespace Go.Proofs.YtpmignilhoihnaaGreat
open Go.RowKit Go.Shelf

structure KC where
 p : Nat
 g : Nat
 wc : Nat
 cb : Nat
 tb : Nat
 ib : Nat
 eb : Nat
 B : Nat
 N : Nat
 M : Nat
 ia : Option Addr
 ic : Nat
 im : Img
structure KT where
 wt : Img
 cl : Int → Bool
 tk : Int → Bool
 ino : Nat → List Int
 en : Int → Int
 v : Value
 row : List Int
def rlookV (c : KC) (v : Value) : Array Value := #[.int .i64 c.N, .int .i64 c.M, .slice c.ia c.N c.ic, .slice (some ⟨c.g, 0, none⟩) c.N c.wc, .slice (some ⟨c.cb, 0, none⟩) c.N c.N, .slice (some ⟨c.tb, 0, none⟩) (c.M + 1) (c.M + 1), .slice (some ⟨c.ib, 0, none⟩) (c.M + 1) (c.M + 1), .slice (some ⟨c.eb, 0, none⟩) (c.M + 1) (c.M + 1), v]
structure IsK (w : World) (c : KC) (s : KT) : Prop where
 me : w.heap[c.p]? = some (.cells (rlookV c s.v) 67 (0, 0))
 ci : ImgAt w c.ia c.im
 il : c.im.length = c.N
 n1 : 8 ≤ c.N
 n2 : c.N ≤ 4096
 m1 : 1 ≤ c.M
 m2 : c.M + 2 ≤ c.N
 wt : WtAt w c.g s.wt
 wl : s.wt.length = c.N
 cl : BAt w c.cb c.N s.cl
 tk : BAt w c.tb (c.M + 1) s.tk
 inn : InAt w c.ib (c.M + 1) s.ino
 i18 : ∀ i, (s.ino i).length = 18
 en : NAt w c.eb (c.M + 1) s.en
 row : IOwn w c.B s.v s.row
 d1 : c.cb ≠ c.tb
 d2 : c.eb < c.B
 d3 : ∀ k, blkOf c.ia k → k ≠ c.p ∧ k ≠ c.g ∧ k ≠ c.cb ∧ k ≠ c.tb ∧ k ≠ c.ib ∧ k ≠ c.eb ∧ k < c.B
theorem BAt.setb {w : World} {g n : Nat} {f : Int → Bool} (h : BAt w g n f) {k : Nat} (hk : k < n) (b : Bool) : BAt (w.setCell ⟨g, k, none⟩ (.bool b)) g n (fun x => if x = (k : Int) then b else f x) := by
 obtain ⟨A, h1, h2⟩ := h;refine ⟨_, heap_setCell_same w g k A _ _ h1, fun j hj => ?_⟩;rw [Array.getElem?_setIfInBounds];have hs : k < A.size := (Array.getElem?_eq_some_iff.1 (h2 k hk)).1
 by_cases e : k = j
 ·subst e
  rw [if_pos rfl, if_pos hs]
  show some (Value.bool b) = some (.bool (if (k : Int) = (k : Int) then b else f (k : Int)))
  rw [if_pos rfl]
 ·rw [if_neg e, h2 j hj]
  show some (Value.bool (f (j : Int))) = some (.bool (if (j : Int) = (k : Int) then b else f (j : Int)))
  rw [if_neg (by omega)]
theorem putC_if (f : Int → Bool) (k : Int) : putC f k = fun x => if x = k then true else f x := by
 funext x
 unfold putC
 by_cases e : x = k
 ·rw [if_pos e, e]; simp
 ·rw [if_neg e]; simp [e]
theorem delC_if (f : Int → Bool) (k : Int) : delC f k = fun x => if x = k then false else f x := by
 funext x
 unfold delC
 by_cases e : x = k
 ·rw [if_pos e, e]; simp
 ·rw [if_neg e]; simp [e]
section
variable {w w' : World} {c : KC} {s : KT}
theorem IsK.cN (h : IsK w c s) : w.cell? ⟨c.p, 0, none⟩ = some (.int .i64 c.N) := (cell_of_row _ _ _ _ _ _ h.me).trans rfl
theorem IsK.cM (h : IsK w c s) : w.cell? ⟨c.p, 1, none⟩ = some (.int .i64 c.M) := (cell_of_row _ _ _ _ _ _ h.me).trans rfl
theorem IsK.cI (h : IsK w c s) : w.cell? ⟨c.p, 2, none⟩ = some (.slice c.ia c.N c.ic) := (cell_of_row _ _ _ _ _ _ h.me).trans rfl
theorem IsK.cW (h : IsK w c s) : w.cell? ⟨c.p, 3, none⟩ = some (.slice (some ⟨c.g, 0, none⟩) c.N c.wc) := (cell_of_row _ _ _ _ _ _ h.me).trans rfl
theorem IsK.cC (h : IsK w c s) : w.cell? ⟨c.p, 4, none⟩ = some (.slice (some ⟨c.cb, 0, none⟩) c.N c.N) := (cell_of_row _ _ _ _ _ _ h.me).trans rfl
theorem IsK.cT (h : IsK w c s) : w.cell? ⟨c.p, 5, none⟩ = some (.slice (some ⟨c.tb, 0, none⟩) (c.M + 1) (c.M + 1)) := (cell_of_row _ _ _ _ _ _ h.me).trans rfl
theorem IsK.cE (h : IsK w c s) : w.cell? ⟨c.p, 7, none⟩ = some (.slice (some ⟨c.eb, 0, none⟩) (c.M + 1) (c.M + 1)) := (cell_of_row _ _ _ _ _ _ h.me).trans rfl
theorem IsK.cN6 (h : IsK w c s) : w.cell? ⟨c.p, 6, none⟩ = some (.slice (some ⟨c.ib, 0, none⟩) (c.M + 1) (c.M + 1)) := (cell_of_row _ _ _ _ _ _ h.me).trans rfl
theorem IsK.cR (h : IsK w c s) : w.cell? ⟨c.p, 8, none⟩ = some s.v := (cell_of_row _ _ _ _ _ _ h.me).trans rfl
theorem IsK.ne (h : IsK w c s) : c.p ≠ c.g ∧ c.p ≠ c.cb ∧ c.p ≠ c.tb ∧ c.p ≠ c.ib ∧ c.p ≠ c.eb ∧ c.g ≠ c.cb ∧ c.g ≠ c.tb ∧ c.g ≠ c.ib ∧ c.g ≠ c.eb ∧ c.cb ≠ c.ib ∧ c.cb ≠ c.eb ∧ c.tb ≠ c.ib ∧ c.tb ≠ c.eb ∧ c.ib ≠ c.eb := by
 obtain ⟨A1, e1⟩ := h.wt.isRow;obtain ⟨A2, e2, _⟩ := h.cl;obtain ⟨A3, e3, _⟩ := h.tk;obtain ⟨A4, e4, _⟩ := h.inn;obtain ⟨A5, e5, _⟩ := h.en
 exact ⟨obj_ne h.me e1 (by intro e; cases e), obj_ne h.me e2 (by intro e; cases e), obj_ne h.me e3 (by intro e; cases e), obj_ne h.me e4 (by intro e; cases e), obj_ne h.me e5 (by intro e; cases e),
  obj_ne e1 e2 (by intro e; cases e), obj_ne e1 e3 (by intro e; cases e), obj_ne e1 e4 (by intro e; cases e), obj_ne e1 e5 (by intro e; cases e), obj_ne e2 e4 (by intro e; cases e), obj_ne e2 e5 (by intro e; cases e), obj_ne e3 e4 (by intro e; cases e), obj_ne e3 e5 (by intro e; cases e), obj_ne e4 e5 (by intro e; cases e)⟩
theorem IsK.rowNe (h : IsK w c s) {k : Nat} (e : s.v.ownBlock = some k) : k ≠ c.p ∧ k ≠ c.g ∧ k ≠ c.cb ∧ k ≠ c.tb ∧ k ≠ c.ib ∧ k ≠ c.eb := by
 obtain ⟨hB, A, hA⟩ := h.row.blk e;obtain ⟨A1, e1⟩ := h.wt.isRow;obtain ⟨A2, e2, _⟩ := h.cl;obtain ⟨A3, e3, _⟩ := h.tk;obtain ⟨A4, e4, _⟩ := h.inn
 exact ⟨obj_ne hA h.me (by intro e; cases e), obj_ne hA e1 (by intro e; cases e), obj_ne hA e2 (by intro e; cases e), obj_ne hA e3 (by intro e; cases e), obj_ne hA e4 (by intro e; cases e), by have := h.d2; omega⟩
theorem IsK.call (h : IsK w c s) (hc : Chg w w' No) : IsK w' c s :=
 ⟨hc.keep h.me (fun e => e), h.ci.keep hc (fun _ _ e => e), h.il, h.n1, h.n2, h.m1, h.m2, h.wt.keep hc (fun e => e), h.wl, h.cl.keep hc (fun e => e), h.tk.keep hc (fun e => e), h.inn.keep hc (fun e => e), h.i18, h.en.keep hc (fun e => e), h.row.keep hc (fun _ _ e => e), h.d1, h.d2, h.d3⟩
theorem IsK.setC (h : IsK w c s) {k : Nat} (hk : k < c.N) (b : Bool) : IsK (w.setCell ⟨c.cb, k, none⟩ (.bool b)) c { s with cl := fun x => if x = (k : Int) then b else s.cl x } := by
 have hc : Chg w (w.setCell ⟨c.cb, k, none⟩ (.bool b)) (· = c.cb) := Chg.setCell;obtain ⟨n1, n2, n3, n4, n5, n6, n7, n8, n9, n10, n11, n12, n13, n14⟩ := h.ne
 exact ⟨hc.keep h.me n2, h.ci.keep hc (fun k hk e => (h.d3 k hk).2.2.1 e), h.il, h.n1, h.n2, h.m1, h.m2, h.wt.keep hc n6, h.wl, h.cl.setb hk b, h.tk.keep hc (fun e => h.d1 e.symm), h.inn.keep hc (fun e => n10 e.symm), h.i18, h.en.keep hc (fun e => n11 e.symm), h.row.keep hc (fun k e e2 => (h.rowNe e).2.2.1 e2), h.d1, h.d2, h.d3⟩
theorem IsK.setT (h : IsK w c s) {k : Nat} (hk : k < c.M + 1) (b : Bool) : IsK (w.setCell ⟨c.tb, k, none⟩ (.bool b)) c { s with tk := fun x => if x = (k : Int) then b else s.tk x } := by
 have hc : Chg w (w.setCell ⟨c.tb, k, none⟩ (.bool b)) (· = c.tb) := Chg.setCell;obtain ⟨n1, n2, n3, n4, n5, n6, n7, n8, n9, n10, n11, n12, n13, n14⟩ := h.ne
 exact ⟨hc.keep h.me n3, h.ci.keep hc (fun k hk e => (h.d3 k hk).2.2.2.1 e), h.il, h.n1, h.n2, h.m1, h.m2, h.wt.keep hc n7, h.wl, h.cl.keep hc h.d1, h.tk.setb hk b, h.inn.keep hc (fun e => n12 e.symm), h.i18, h.en.keep hc (fun e => n13 e.symm), h.row.keep hc (fun k e e2 => (h.rowNe e).2.2.2.1 e2), h.d1, h.d2, h.d3⟩
theorem IsK.setE (h : IsK w c s) {k : Nat} (hk : k < c.M + 1) (x : Int) : IsK (w.setCell ⟨c.eb, k, none⟩ (.int .i64 x)) c { s with en := putI s.en (k : Int) x } := by
 have hc : Chg w (w.setCell ⟨c.eb, k, none⟩ (.int .i64 x)) (· = c.eb) := Chg.setCell;obtain ⟨n1, n2, n3, n4, n5, n6, n7, n8, n9, n10, n11, n12, n13, n14⟩ := h.ne
 exact ⟨hc.keep h.me n5, h.ci.keep hc (fun k hk e => (h.d3 k hk).2.2.2.2.2.1 e), h.il, h.n1, h.n2, h.m1, h.m2, h.wt.keep hc n9, h.wl, h.cl.keep hc n11, h.tk.keep hc n13, h.inn.keep hc n14, h.i18, h.en.put hk x, h.row.keep hc (fun k e e2 => (h.rowNe e).2.2.2.2.2 e2), h.d1, h.d2, h.d3⟩
theorem IsK.setW (h : IsK w c s) {wt' : Img} (hw : WtAt w' c.g wt') (hl : wt'.length = c.N) (hc : Chg w w' (· = c.g)) : IsK w' c { s with wt := wt' } := by
 obtain ⟨n1, n2, n3, n4, n5, n6, n7, n8, n9, n10, n11, n12, n13, n14⟩ := h.ne
 exact ⟨hc.keep h.me n1, h.ci.keep hc (fun k hk e => (h.d3 k hk).2.1 e), h.il, h.n1, h.n2, h.m1, h.m2, hw, hl, h.cl.keep hc (fun e => n6 e.symm), h.tk.keep hc (fun e => n7 e.symm), h.inn.keep hc (fun e => n8 e.symm), h.i18, h.en.keep hc (fun e => n9 e.symm), h.row.keep hc (fun k e e2 => (h.rowNe e).2.1 e2), h.d1, h.d2, h.d3⟩
theorem IsK.setI (h : IsK w c s) {f : Nat → List Int} (hi : InAt w' c.ib (c.M + 1) f) (h18 : ∀ i, (f i).length = 18) (hc : Chg w w' (· = c.ib)) : IsK w' c { s with ino := f } := by
 obtain ⟨n1, n2, n3, n4, n5, n6, n7, n8, n9, n10, n11, n12, n13, n14⟩ := h.ne
 exact ⟨hc.keep h.me n4, h.ci.keep hc (fun k hk e => (h.d3 k hk).2.2.2.2.1 e), h.il, h.n1, h.n2, h.m1, h.m2, h.wt.keep hc n8, h.wl, h.cl.keep hc n10, h.tk.keep hc n12, hi, h18, h.en.keep hc (fun e => n14 e.symm), h.row.keep hc (fun k e e2 => (h.rowNe e).2.2.2.2.1 e2), h.d1, h.d2, h.d3⟩
end
def goodS (s : KT) (b : Bool) (x : Int) : KT := if b = true then { s with cl := putC s.cl x } else s

set_option maxHeartbeats 1000000 in
set_option maxRecDepth 100000 in
theorem good_any {c : KC} {s : KT} (x : Int) (w : World) (h : IsK w c s) :
  Calls Tryz.prog 53 #[.pointer (some ⟨c.p, 0, none⟩), .int .i64 x] w fun e w' => e = .returned (.bool (claimB c.N c.M s.cl x)) ∧ IsK w' c (goodS s (claimB c.N c.M s.cl x) x) ∧ Chg w w' (· = c.cb) := by
 have c0 := h.cN;have c1 := h.cM;have hID := risData_any (c.N : Int) (c.M : Int) x w;have HH := hid h;clear h
 cases h2 : dataB c.M c.N x
 ·have hB : claimB c.N c.M s.cl x = false := by simp [claimB, h2]
  rw [hB];rw [h2] at hID;clear h2 hB
  go_enter Tryz.func53, Tryz.ntmps53
  go_wp2_with (first
   | (go_at_call 94; go_must (refine hID.mono ?_; rintro e w2 ⟨rfl, hb2⟩))
   | fail)
  go_ret
  exact ⟨rfl, HH.out.call (Chg.of_below hb2 No), (Chg.of_below hb2 No).mono fun _ _ e => e.elim⟩
 ·have hd : (c.M : Int) < x ∧ x < c.N := by simpa [dataB] using h2
  obtain ⟨k, rfl⟩ : ∃ k : Nat, x = (k : Int) := ⟨x.toNat, by omega⟩
  have hk : k < c.N := by omega
  have k0 : (0 : Int) ≤ (k : Int) := by omega
  have k1 : (k : Int) < (c.N : Int) := by omega
  rw [h2] at hID
  cases h3 : s.cl (k : Int)
  ·have hB : claimB c.N c.M s.cl (k : Int) = true := by simp [claimB, h2, h3]
   rw [hB];have H3 := hid h3;have HG : Hid (∀ w', IsK w' c { s with cl := fun x => if x = (k : Int) then true else s.cl x } → IsK w' c (goodS s true (k : Int))) := hid (fun w' hw => by unfold goodS; rw [if_pos rfl, putC_if]; exact hw);clear h3 hB h2 hd
   go_enter Tryz.func53, Tryz.ntmps53
   go_wp2_with (first
    | (go_at_call 94; go_must (refine hID.mono ?_; rintro e w2 ⟨rfl, hb2⟩; have hS2 := HH.out.call (Chg.of_below hb2 No); have c3 := hS2.cC; obtain ⟨d1, d2⟩ := hS2.cl.cell hk; rw [H3.out] at d1))
    | fail)
   go_ret
   exact ⟨rfl, HG.out _ (hS2.setC hk true), (Chg.of_below hb2 No).trans Chg.setCell (fun _ _ e => e.elim) (fun _ _ e => e)⟩
  ·have hB : claimB c.N c.M s.cl (k : Int) = false := by simp [claimB, h3]
   rw [hB];have H3 := hid h3;clear h3 hB h2 hd
   go_enter Tryz.func53, Tryz.ntmps53
   go_wp2_with (first
    | (go_at_call 94; go_must (refine hID.mono ?_; rintro e w2 ⟨rfl, hb2⟩; have hS2 := HH.out.call (Chg.of_below hb2 No); have c3 := hS2.cC; obtain ⟨d1, d2⟩ := hS2.cl.cell hk; rw [H3.out] at d1))
    | fail)
   go_ret
   exact ⟨rfl, HH.out.call (Chg.of_below hb2 No), (Chg.of_below hb2 No).mono fun _ _ e => e.elim⟩
end Go.Proofs.YtpmignilhoihnaaGreat

namespace Go.Proofs.YtpmignilhoihnaaGreat
open Go.RowKit Go.Shelf

theorem IsK.aside {w w' : World} {c : KC} {s : KT} {g : Nat} {A : Array Value} {t : TypeId} {f : Nat × Nat} (h : IsK w c s) (hg : w.heap[g]? = some (.cells A t f)) (h0 : t ≠ 67) (h1 : t ≠ 33) (h2 : t ≠ 4) (h3 : t ≠ 51) (h4 : t ≠ 3) (h5 : ∀ k, blkOf c.ia k → ¬ k = g) (hc : Chg w w' (· = g)) : IsK w' c s := by
 obtain ⟨A1, e1⟩ := h.wt.isRow;obtain ⟨A2, e2, _⟩ := h.cl;obtain ⟨A3, e3, _⟩ := h.tk;obtain ⟨A4, e4, _⟩ := h.inn;obtain ⟨A5, e5, _⟩ := h.en
 exact ⟨hc.keep h.me (obj_ne h.me hg (by intro e; cases e; exact h0 rfl)), h.ci.keep hc (fun k hk e => h5 k hk e), h.il, h.n1, h.n2, h.m1, h.m2, h.wt.keep hc (obj_ne e1 hg (by intro e; cases e; exact h1 rfl)), h.wl, h.cl.keep hc (obj_ne e2 hg (by intro e; cases e; exact h2 rfl)), h.tk.keep hc (obj_ne e3 hg (by intro e; cases e; exact h2 rfl)), h.inn.keep hc (obj_ne e4 hg (by intro e; cases e; exact h3 rfl)), h.i18, h.en.keep hc (obj_ne e5 hg (by intro e; cases e; exact h4 rfl)), h.row.keep hc (fun k e e6 => by
  obtain ⟨_, C, hC⟩ := h.row.blk e
  exact obj_ne hC hg (by intro e; cases e; exact h4 rfl) e6), h.d1, h.d2, h.d3⟩
theorem blk_lt {w : World} {a : Option Addr} {im : Img} (h : ImgAt w a im) {k : Nat} (hk : blkOf a k) : k < w.heap.size ∨ im = [] := by
 rcases h.2 with e | ⟨b, o, rfl, hb, _⟩
 ·exact .inr e
 ·have : b = k := hk
  exact .inl (by omega)
def leavesS (s : KT) (at_ : Nat) (t : List Int) (left : Bool) : KT := if left = true then { s with wt := s.wt.set at_ (ptrS t) } else { s with cl := delC s.cl (at_ : Int) }

set_option maxHeartbeats 2000000 in
set_option maxRecDepth 100000 in
theorem leaves_any {c : KC} {s : KT} (at_ : Nat) (t : List Int) (left : Bool) (w : World) (h : IsK w c s) (ha : at_ < c.N) (ht : t.length = 32) :
  Calls Tryz.prog 56 #[.pointer (some ⟨c.p, 0, none⟩), .int .i64 (at_ : Int), .agg (NA t), .bool left] w fun e w' => e = .returned (.bool left) ∧ IsK w' c (leavesS s at_ t left) ∧ Chg w w' (fun k => k = c.g ∨ k = c.cb) := by
 have hA := Chg.alloc w (.cells (NA t) 103) No;have hN := heap_alloc_new w (.cells (NA t) 103);obtain ⟨w1, hw1⟩ : ∃ y, y = w.alloc (.cells (NA t) 103) := ⟨_, rfl⟩;obtain ⟨gt, hgt⟩ : ∃ y, y = w.heap.size := ⟨_, rfl⟩;have h1 := h.call hA;rw [← hw1] at hA hN h1;rw [← hgt] at hN;have H1 := hid h1;have HA := hid hA;have HN := hid hN;have HPS := hid (fun W => rpointersSector_any t ht W)
 have i0 : (0 : Int) ≤ (at_ : Int) := by omega
 have i1 : (at_ : Int) < (c.N : Int) := by omega
 have HTl := hid ht;clear h hA hN h1 ht
 go_enter Tryz.func56, Tryz.ntmps56
 go_upto_region 1 with fail
 rw [← hw1, ← hgt];clear hw1 hgt
 cases left with
 | false =>
  have c3 := H1.out.cC;obtain ⟨d1, d2⟩ := H1.out.cl.cell ha
  have HF : Hid (IsK (w1.setCell ⟨c.cb, at_, none⟩ (.bool false)) c (leavesS s at_ t false)) := hid (by
   have := H1.out.setC ha false;unfold leavesS;rw [if_neg (by decide), delC_if]
   exact this)
  go_wp2_with fail
  go_ret
  exact ⟨rfl, HF.out, HA.out.trans Chg.setCell (fun _ _ e => e.elim) (fun _ _ e => .inr e)⟩
 | true =>
  have HL := hid (H1.out.wl)
  go_upto_region 4 with fail
  refine wp_region_noPanic ?_;refine wp_region_held_drew (S := fun w' => Chg w1 w' (· = c.g)) (by kernel_rfl) (Chg.refl _ _).drew (fun hH => ?_)
  have HC : Hid (∀ W', Chg w1 W' (· = c.g) → W'.cell? ⟨c.p, 3, none⟩ = some (.slice (some ⟨c.g, 0, none⟩) c.N c.wc) ∧ W'.heap[gt]? = some (.cells (NA t) 103 (0, 0))) := hid (fun W' hW => by
   have hne := H1.out.ne.1;obtain ⟨A, hg⟩ := H1.out.wt.isRow
   exact ⟨(cell_of_row _ _ _ _ _ _ (hW.keep H1.out.me hne)).trans rfl, hW.keep HN.out (obj_ne HN.out hg (by intro e; cases e))⟩)
  refine tV 0 18 (.pointer (some ⟨c.p, 0, none⟩)) rfl (by kernel_rfl) rfl (by rfl) hH (fun W' hw' => rfl) ?_;simp only [sS];refine tV 1 19 (.pointer (some ⟨c.p, 0, none⟩)) rfl (by kernel_rfl) rfl (by rfl) hH (fun W' hw' => by go_simp) ?_;simp only [sS];refine tV 2 20 (.pointer (some ⟨c.p, 3, none⟩)) rfl (by kernel_rfl) rfl (by rfl) hH (fun W' hw' => by go_simp) ?_;simp only [sS];refine tV 3 21 (.slice (some ⟨c.g, 0, none⟩) c.N c.wc) rfl (by kernel_rfl) rfl (by rfl) hH (fun W' hw' => by have hc := (HC.out W' hw').1; go_simp) ?_;simp only [sS];refine tV 4 22 (.int .i64 (at_ : Int)) rfl (by kernel_rfl) rfl (by rfl) hH (fun W' hw' => rfl) ?_;simp only [sS];refine takeR 5 23 103 (.tmp 6) gt 103 (NA t) _ rfl (by kernel_rfl) (by kernel_rfl) (by kernel_rfl) rfl rfl rfl Tryz.underlying103 rfl (by rw [szP, NA_size, HTl.out]) (by rfl) (fun _ _ _ h => h) hH (fun W' hw' => (HC.out W' hw').2) ?_;simp only [sS];refine step1 6 (by kernel_rfl) ?_;refine stCall 6 24 95 #[.agg (NA t)] _ rfl rfl (by rfl) (by go_simp) (HPS.out _) ?_
  rintro e w2 ⟨rfl, hb2⟩
  have hH2 : Chg w1 w2 (· = c.g) := hH.trans (Chg.of_below hb2 No) (fun _ _ e => e) (fun _ _ e => e.elim);have HK2 : Hid (IsK w2 c s) := hid (H1.out.call (((Chg.refl w1 No).drew).tr (Chg.of_below hb2 No)));refine ⟨_, rfl, hH2, ?_⟩;simp only [sS];refine tV 7 17 (.tuple #[.agg (SA (ptrS t)), .int .i64 (ptrE t)]) rfl (by kernel_rfl) rfl (by rfl) hH2 (fun W' hw' => rfl) ?_;simp only [sS];refine tV 8 25 (.agg (SA (ptrS t))) rfl (by kernel_rfl) rfl (by rfl) hH2 (fun W' hw' => rfl) ?_;simp only [sS];refine tV 9 26 (.int .i64 (ptrE t)) rfl (by kernel_rfl) rfl (by rfl) hH2 (fun W' hw' => rfl) ?_;simp only [sS];refine tV 10 27 (.pointer (some ⟨c.g, at_ * 128, none⟩)) rfl (by kernel_rfl) rfl (by rfl) hH2 (fun W' hw' => by go_simp) ?_;simp only [sS];refine step1 11 (by kernel_rfl) ?_;refine stStoreW 11 (.tmp 27) (.tmp 25) c.g at_ (ptrS t) s.wt rfl rfl (by rfl) rfl rfl rfl (ptrS_sec t) HK2.out.wt (by rw [HL.out]; exact ha) ?_
  intro w3 hw3 hc3 _
  have hH3 : Chg w1 w3 (· = c.g) := hH2.trans hc3 (fun _ _ e => e) (fun _ _ e => e);refine ⟨hH3, ?_⟩;refine wpAnyH_done (by kernel_rfl) ?_ _;refine NoPanic.normal ?_
  have HF : Hid (IsK w3 c (leavesS s at_ t true)) := hid (by
   unfold leavesS;rw [if_pos rfl]
   exact HK2.out.setW hw3 (by rw [List.length_set]; exact HL.out) hc3)
  have HCh : Hid (Chg w w3 (fun k => k = c.g ∨ k = c.cb)) := hid (HA.out.trans hH3 (fun _ _ e => e.elim) (fun _ _ e => .inl e));clear hH3 hH2 hH hw3 hc3
  go_wp2_with fail
  go_ret
  exact ⟨rfl, HF.out, HCh.out⟩
def lfB (t : List Int) (k : Nat) : Bool := (List.range k).any fun j => decide (t.getD j 0 ≠ 0)
theorem lfB_succ (t : List Int) (k : Nat) : lfB t (k + 1) = (lfB t k || decide (t.getD k 0 ≠ 0)) := by
 unfold lfB;rw [List.range_succ, List.any_append]
 simp
theorem lfB_ext {t u : List Int} {k : Nat} (h : ∀ j, j < k → t.getD j 0 = u.getD j 0) : lfB t k = lfB u k := by
 induction k with
 | zero => rfl
 | succ k ih => rw [lfB_succ, lfB_succ, ih (fun j hj => h j (by omega)), h k (by omega)]
theorem lfB_end {t : List Int} (ht : t.length = 32) : lfB t 32 = !decide (t = Zp) := by
 by_cases e : t = Zp
 ·have h0 : lfB t 32 = false := by
   rw [e];unfold lfB;rw [List.any_eq_false]
   intro j _
   rw [Zp_get]
   simp
  rw [h0, decide_eq_true e]
  rfl
 ·rw [decide_eq_false e]
  show lfB t 32 = true
  unfold lfB;rw [List.any_eq_true]
  refine Decidable.byContradiction fun hn => e ?_
  refine ext_getZ (by rw [ht, Zp_len]) fun j hj => ?_
  rw [Zp_get]
  refine Decidable.byContradiction fun hq => hn ⟨j, List.mem_range.2 (by omega), decide_eq_true hq⟩
theorem block_wt (N M cnt f each : Int) (t : List Int) (s : TS) : ∀ k, (goK (innerF each f (blockF N M cnt)) t s k).2.wt = s.wt
 | 0 => rfl
 | k + 1 => by
  show (innerF each f (blockF N M cnt) (goK (innerF each f (blockF N M cnt)) t s k).2 k (t.getD k 0)).2.wt = s.wt
  rw [← block_wt N M cnt f each t s k];unfold innerF blockF
  split <;> rfl
theorem row_set {W : World} {gt k : Nat} {r : List Int} {t : TypeId} {x : Int} (h : W.heap[gt]? = some (.cells (NA r) t (0, 0))) : (W.setCell ⟨gt, k, none⟩ (.int .i64 x)).heap[gt]? = some (.cells (NA (r.set k x)) t (0, 0)) := by
 rw [heap_setCell_same W gt k _ _ _ h];unfold NA;rw [List.setIfInBounds_toArray, List.map_set]
theorem set_same {r : List Int} {k : Nat} {y : Int} (h : r.getD k 0 = y) : r.set k y = r := by
 refine List.ext_getElem? fun j => ?_
 rw [List.getElem?_set]
 split
 ·rename_i e
  subst e
  split
  ·rename_i hl
   rw [List.getD_eq_getElem?_getD, List.getElem?_eq_getElem hl] at h;rw [List.getElem?_eq_getElem hl]
   exact congrArg some h.symm
  ·rename_i hl
   rw [List.getElem?_eq_none (by omega)]
 ·rfl
theorem blockF_off {N M n i p : Int} {S : TS} (h : (decide (i < n) && claimB N M S.cl p) = false) : blockF N M n S i p = (false, S) := by unfold blockF; rw [h]; rfl
theorem blockF_on {N M n i p : Int} {S : TS} (h : (decide (i < n) && claimB N M S.cl p) = true) : blockF N M n S i p = (true, ⟨S.wt, putC S.cl p, S.sp ++ [(i, p)]⟩) := by unfold blockF; rw [h]; rfl
theorem kb_drop {N M n f each : Int} {t : List Int} {s : TS} {k : Nat} (h : (decide (f + each * (k : Int) < n) && claimB N M (goK (innerF each f (blockF N M n)) t s k).2.cl (t.getD k 0)) = false) : goK (innerF each f (blockF N M n)) t s (k + 1) = ((goK (innerF each f (blockF N M n)) t s k).1.set k 0, (goK (innerF each f (blockF N M n)) t s k).2) := by
 have e : innerF each f (blockF N M n) (goK (innerF each f (blockF N M n)) t s k).2 k (t.getD k 0) = (false, (goK (innerF each f (blockF N M n)) t s k).2) := by
  exact blockF_off h
 show (_, _) = _
 rw [e]
 rfl
theorem kb_keep {N M n f each : Int} {t : List Int} {s : TS} {k : Nat} (hk : k ≤ t.length) (h : (decide (f + each * (k : Int) < n) && claimB N M (goK (innerF each f (blockF N M n)) t s k).2.cl (t.getD k 0)) = true) : goK (innerF each f (blockF N M n)) t s (k + 1) = ((goK (innerF each f (blockF N M n)) t s k).1, ⟨(goK (innerF each f (blockF N M n)) t s k).2.wt, putC (goK (innerF each f (blockF N M n)) t s k).2.cl (t.getD k 0), (goK (innerF each f (blockF N M n)) t s k).2.sp ++ [(f + each * (k : Int), t.getD k 0)]⟩) := by
 have e : innerF each f (blockF N M n) (goK (innerF each f (blockF N M n)) t s k).2 k (t.getD k 0) = (true, ⟨(goK (innerF each f (blockF N M n)) t s k).2.wt, putC (goK (innerF each f (blockF N M n)) t s k).2.cl (t.getD k 0), (goK (innerF each f (blockF N M n)) t s k).2.sp ++ [(f + each * (k : Int), t.getD k 0)]⟩) := by
  exact blockF_on h
 have hg := goK_get (innerF each f (blockF N M n)) t s k k hk;rw [if_neg (by omega)] at hg
 show (_, _) = _
 rw [e]
 show ((goK (innerF each f (blockF N M n)) t s k).1.set k (t.getD k 0), _) = _
 rw [set_same hg]
theorem kb_zero {N M n f each : Int} (hM : 0 ≤ M) {t : List Int} {s : TS} {k : Nat} (hk : k ≤ t.length) (h : t.getD k 0 = 0) : goK (innerF each f (blockF N M n)) t s (k + 1) = goK (innerF each f (blockF N M n)) t s k := by
 have hcl : claimB N M (goK (innerF each f (blockF N M n)) t s k).2.cl (t.getD k 0) = false := by
  cases e : claimB N M (goK (innerF each f (blockF N M n)) t s k).2.cl (t.getD k 0) with
  | false => rfl
  | true =>
   obtain ⟨_, h2, _⟩ := claimB_of.1 e
   omega
 have hg := goK_get (innerF each f (blockF N M n)) t s k k hk;rw [if_neg (by omega), h] at hg;rw [kb_drop (by rw [hcl, Bool.and_false]), set_same hg]
structure GN (w0 w : World) (c : KC) (s : KT) (gt : Nat) (r : List Int × TS) : Prop where
 k : IsK w c { s with cl := r.2.cl }
 t : w.heap[gt]? = some (.cells (NA r.1) 103 (0, 0))
 ch : Chg w0 w (· = c.cb)
 l : r.1.length = 32
def goneS (s : KT) (x : TS) : KT := { s with wt := x.wt, cl := x.cl }

set_option maxHeartbeats 1500000 in
set_option maxRecDepth 100000 in
theorem gone_any {c : KC} {s : KT} (at_ : Nat) (f n : Int) (sp : List (Int × Int)) (w : World) (h : IsK w c s) (ha : at_ < c.N) (hf : 0 ≤ f ∧ f ≤ 100000) :
  Calls Tryz.prog 54 #[.pointer (some ⟨c.p, 0, none⟩), .int .i64 (at_ : Int), .int .i64 f, .int .i64 n] w fun e w' => e = .returned (.bool (goF (innerF 1 f (blockF c.N c.M n)) (at_ : Int) ⟨s.wt, s.cl, sp⟩).1) ∧ IsK w' c (goneS s (goF (innerF 1 f (blockF c.N c.M n)) (at_ : Int) ⟨s.wt, s.cl, sp⟩).2) ∧ Chg w w' (fun k => k = c.g ∨ k = c.cb) := by
 have hzp := zero_ptrs;have c3 := h.cW;have HR := hid (h.wt.range (k := at_) (by rw [h.wl]; exact ha));have hsec := h.wt.sec (at_ : Int);have HSl := hid hsec.1;have hRP := rptrs_c (secI s.wt (at_ : Int)) hsec w;have HH := hid h;obtain ⟨t0, ht0⟩ : ∃ y, y = ptrsTo (secI s.wt (at_ : Int)) 32 := ⟨_, rfl⟩;have HT0 := hid ht0;have HTl : Hid (t0.length = 32) := hid (by rw [ht0]; exact ptrsTo_len _ _);rw [← ht0] at hRP;obtain ⟨KF, hKF⟩ : ∃ y, y = innerF 1 f (blockF c.N c.M n) := ⟨_, rfl⟩;have HKF := hid hKF;obtain ⟨S0, hS0⟩ : ∃ y : TS, y = ⟨s.wt, s.cl, sp⟩ := ⟨_, rfl⟩;have HS0 := hid hS0
 have HGF : Hid (goF KF (at_ : Int) S0 = if (goK KF t0 S0 32).1 = Zp then (false, ⟨(goK KF t0 S0 32).2.wt, delC (goK KF t0 S0 32).2.cl (at_ : Int), (goK KF t0 S0 32).2.sp⟩) else (true, ⟨(goK KF t0 S0 32).2.wt.set at_ (ptrS (goK KF t0 S0 32).1), (goK KF t0 S0 32).2.cl, (goK KF t0 S0 32).2.sp⟩)) := hid (by
  rw [ht0, hS0]
  rfl)
 have HWt : Hid (∀ k, (goK KF t0 S0 k).2.wt = s.wt) := hid (fun k => by rw [hKF, hS0]; exact block_wt _ _ _ _ _ _ _ k);rw [← hKF, ← hS0];obtain ⟨gb, hgb⟩ : ∃ y, y = (goF KF (at_ : Int) S0).1 := ⟨_, rfl⟩;obtain ⟨gs, hgs⟩ : ∃ y, y = goneS s (goF KF (at_ : Int) S0).2 := ⟨_, rfl⟩;have HGb := hid hgb;have HGs := hid hgs;rw [← hgb, ← hgs];clear hgb hgs
 have i0 : (0 : Int) ≤ (at_ : Int) := by omega
 have i1 : (at_ : Int) < (c.N : Int) := by omega
 obtain ⟨sk, hsk⟩ : ∃ y, y = secI s.wt (at_ : Int) := ⟨_, rfl⟩;rw [← hsk] at HR HSl hRP;clear h hsec ht0 hKF hS0 hsk
 go_enter Tryz.func54, Tryz.ntmps54
 go_upto_region 2 with (first
  | (refine load_mid 33 _ rfl c.g (at_ * 128) rfl _ _ HR.out Tryz.underlying33 rfl (by rw [sz26, List.length_map, HSl.out]) (by rfl) ?_)
  | (go_at_call 55; go_must (refine hRP.mono ?_; rintro e w1 ⟨rfl, hc1⟩))
  | (refine store_R rfl 103 _ _ rfl w1.heap.size (NA t0) rfl rfl 103 _ (heap_alloc_new _ _) (by rw [szP, NA_size, HTl.out]) (by rw [NA_size, NA_size, HTl.out]; rfl) (NA_one _) ?_; intro w2 hw2)
  | fail)
 have h02 : Chg w w2 No := (hc1.trans (Chg.alloc w1 _ No) (c := No) (fun _ _ e => e) (fun _ _ e => e)).trans (putR_chg hw2) (fun _ _ e => e) (fun j hj e => by have := hc1.size; omega);obtain ⟨gt, hgt⟩ : ∃ y, y = w1.heap.size := ⟨_, rfl⟩
 have G0 : Hid (GN w w2 c s gt (goK KF t0 S0 0)) := hid ⟨by
  have := HH.out.call h02;rw [HS0.out]
  exact this, by rw [hgt]; exact hw2.here, h02.mono fun _ _ e => e.elim, HTl.out⟩
 rw [← hgt];have HGt : Hid (w.heap.size ≤ gt) := hid (by rw [hgt]; exact hc1.size)
 have HCb : Hid (∀ W, ∀ {r : List Int × TS}, GN w W c s gt r → ¬ gt = c.cb) := hid (fun W r hG => by
  obtain ⟨A, hA, _⟩ := hG.k.cl
  exact obj_ne hG.t hA (by intro e; cases e))
 have HAs : Hid (∀ W, ∀ {s' : KT} {A : Array Value}, IsK W c s' → W.heap[gt]? = some (.cells A 103 (0, 0)) → ∀ W', Chg W W' (· = gt) → IsK W' c s') := hid (fun W s' A hK hT W' hc => hK.aside hT (by intro e; cases e) (by intro e; cases e) (by intro e; cases e) (by intro e; cases e) (by intro e; cases e) (by
  have h1 := HGt.out
  intro k hk e
  have hn := HH.out.n1
  rcases blk_lt HH.out.ci hk with h2 | h2
  ·omega
  ·have h3 := HH.out.il; rw [h2] at h3; simp at h3; omega) hc)
 clear hgt hw2 hc1 h02 hRP HR HSl hzp c3
 go_wp2_with fail
 go_loopw [10, 11] (fun x10 x11 wr => ∃ k : Nat, k ≤ 32 ∧ x11 = .int .i64 k ∧ x10 = .bool (lfB (goK KF t0 S0 k).1 k) ∧ Hid (GN w wr c s gt (goK KF t0 S0 k))) (fun _ x11 _ => 32 - (intOf x11).toNat)
 case atStart => exact ⟨0, by omega, rfl, rfl, G0⟩
 case round =>
  obtain ⟨k, hk, rfl, rfl, HV⟩ := hrel;clear G0
  by_cases hlt : k < 32
  ·have j0 : (0 : Int) ≤ (k : Int) := by omega
   have j1 : (k : Int) < 32 := by omega
   have hgk := goK_get KF t0 S0 k k (by rw [HTl.out]; omega);rw [if_neg (by omega)] at hgk;have HGk := hid hgk;have q := row_cell HV.out.t k (by rw [HV.out.l]; exact hlt);rw [hgk] at q;obtain ⟨y, hy⟩ : ∃ y, y = t0.getD k 0 := ⟨_, rfl⟩;rw [← hy] at q
   have HDr : Hid ((decide (f + (k : Int) < n) && claimB c.N c.M (goK KF t0 S0 k).2.cl y) = false → goK KF t0 S0 (k + 1) = ((goK KF t0 S0 k).1.set k 0, (goK KF t0 S0 k).2)) := hid (fun e => by
    rw [hy] at e;rw [HKF.out] at e ⊢
    exact kb_drop (by rw [Int.one_mul]; exact e))
   have HKp : Hid ((decide (f + (k : Int) < n) && claimB c.N c.M (goK KF t0 S0 k).2.cl y) = true → goK KF t0 S0 (k + 1) = ((goK KF t0 S0 k).1, ⟨(goK KF t0 S0 k).2.wt, putC (goK KF t0 S0 k).2.cl y, (goK KF t0 S0 k).2.sp ++ [(f + 1 * (k : Int), y)]⟩)) := hid (fun e => by
    rw [hy] at e ⊢;rw [HKF.out] at e ⊢
    exact kb_keep (by rw [HTl.out]; omega) (by rw [Int.one_mul]; exact e))
   have HZr : Hid (y = 0 → goK KF t0 S0 (k + 1) = goK KF t0 S0 k) := hid (fun e => by
    rw [HKF.out]
    exact kb_zero (Int.natCast_nonneg _) (by rw [HTl.out]; omega) (by rw [← hy]; exact e))
   have HGy : Hid ((goK KF t0 S0 k).1.getD k 0 = y) := hid (by rw [HGk.out, hy]);have HSm : Hid (∀ j, j < k → ∀ v, ((goK KF t0 S0 k).1.set k v).getD j 0 = (goK KF t0 S0 k).1.getD j 0) := hid (fun j hj v => by rw [List.getD_eq_getElem?_getD, List.getElem?_set_ne (by omega), ← List.getD_eq_getElem?_getD]);obtain ⟨r, hr⟩ : ∃ y, y = goK KF t0 S0 k := ⟨_, rfl⟩;obtain ⟨lf, hlf⟩ : ∃ y, y = lfB (goK KF t0 S0 k).1 k := ⟨_, rfl⟩;have HLf := hid hlf;rw [← hlf];rw [← hr] at HV HDr HKp HZr HGy HSm HLf;obtain ⟨r', hr'⟩ : ∃ y, y = goK KF t0 S0 (k + 1) := ⟨_, rfl⟩;have HR' := hid hr';rw [← hr'] at HDr HKp HZr;clear hgk HGk hy hr hlf hr';have f0 := hf.1;have f1 := hf.2
   by_cases hy0 : y = 0
   ·have HE : Hid (r' = r) := hid (HZr.out hy0)
    have HL1 : Hid (lfB (goK KF t0 S0 (k + 1)).1 (k + 1) = lf) := hid (by
     rw [← HR'.out, HE.out, lfB_succ, HGy.out, hy0, HLf.out]
     simp)
    have HVn : Hid (GN w wr c s gt (goK KF t0 S0 (k + 1))) := hid (by rw [← HR'.out, HE.out]; exact HV.out);subst hy0
    cases lf with
    | true =>
     go_wp2_with fail
     exact ⟨⟨k + 1, by omega, by go_num, by rw [HL1.out], HVn⟩, by simp [intOf]; omega⟩
    | false =>
     go_wp2_with fail
     exact ⟨⟨k + 1, by omega, by go_num, by rw [HL1.out], HVn⟩, by simp [intOf]; omega⟩
   ·have hyb : (y == 0) = false := beq_eq_false_iff_ne.2 hy0
    have hyc : decide (y = 0) = false := decide_eq_false hy0
    have hyd : (y != 0) = true := by simpa using hy0
    have HZero : Hid (∀ W, GN w W c s gt (r.1, r.2) → r' = (r.1.set k 0, r.2) → GN w (W.setCell ⟨gt, k, none⟩ (.int .i64 0)) c s gt (goK KF t0 S0 (k + 1)) ∧ lfB (goK KF t0 S0 (k + 1)).1 (k + 1) = lf ∧ (W.setCell ⟨gt, k, none⟩ (.int .i64 0)).cell? ⟨gt, k, none⟩ = some (.int .i64 0)) := hid (fun W hG e1 => by
     have hE : goK KF t0 S0 (k + 1) = (r.1.set k 0, r.2) := by rw [← HR'.out]; exact e1
     have hl : r.1.length = 32 := hG.l;have hrow : (W.setCell ⟨gt, k, none⟩ (.int .i64 0)).heap[gt]? = some (.cells (NA (r.1.set k 0)) 103 (0, 0)) := row_set hG.t;have hc : Chg W (W.setCell ⟨gt, k, none⟩ (.int .i64 0)) (· = gt) := Chg.setCell;have hge : w.heap.size ≤ gt := HGt.out;refine ⟨?_, ?_, ?_⟩
     ·rw [hE]
      refine ⟨?_, hrow, hG.ch.trans hc (fun _ _ e => e) (fun j hj e => by omega), by rw [List.length_set]; exact hl⟩
      exact HAs.out W hG.k hG.t _ hc
     ·rw [hE, lfB_succ, lfB_ext (fun j hj => HSm.out j hj 0), HLf.out, List.getD_eq_getElem?_getD, List.getElem?_set_self (by show k < r.1.length; omega)]
      simp
     ·have := row_cell hrow k (by rw [List.length_set]; omega)
      rw [List.getD_eq_getElem?_getD, List.getElem?_set_self (by omega)] at this
      exact this)
    have HFz := hid (frozen_of_row wr gt k _ 103 HV.out.t)
    by_cases hfk : f + (k : Int) < n
    ·have g1 : ¬ (f + (k : Int) ≥ n) := by omega
     have hGd := good_any y wr HV.out.k;have g2 : decide (f + (k : Int) ≥ n) = false := decide_eq_false g1
     cases hcl : claimB c.N c.M r.2.cl y with
     | true =>
      have hGd : Calls Tryz.prog 53 #[.pointer (some ⟨c.p, 0, none⟩), .int .i64 y] wr fun e w' => e = .returned (.bool true) ∧ IsK w' c { s with cl := putC r.2.cl y } ∧ Chg wr w' (· = c.cb) := by
       refine hGd.mono ?_
       rintro e w' ⟨rfl, h2, h3⟩
       have hcl' : claimB c.N c.M (KT.cl { s with cl := r.2.cl }) y = true := hcl;rw [hcl'] at h2 ⊢
       exact ⟨rfl, h2, h3⟩
      have HE : Hid (goK KF t0 S0 (k + 1) = (r.1, ⟨r.2.wt, putC r.2.cl y, r.2.sp ++ [(f + 1 * (k : Int), y)]⟩)) := hid (by rw [← HR'.out]; exact HKp.out (by rw [hcl, decide_eq_true hfk]; rfl))
      have HL1 : Hid (lfB (goK KF t0 S0 (k + 1)).1 (k + 1) = true) := hid (by
       rw [HE.out, lfB_succ, HGy.out, decide_eq_true hy0, Bool.or_true])
      have HVn : Hid (∀ W, IsK W c { s with cl := putC r.2.cl y } → Chg wr W (· = c.cb) → GN w W c s gt (goK KF t0 S0 (k + 1)) ∧ W.cell? ⟨gt, k, none⟩ = some (.int .i64 y)) := hid (fun W h1 h2 => by
       have hn : ¬ gt = c.cb := HCb.out wr HV.out;have hk2 := h2.keep HV.out.t hn;rw [HE.out];refine ⟨⟨h1, hk2, HV.out.ch.trans h2 (fun _ _ e => e) (fun _ _ e => e), HV.out.l⟩, ?_⟩
       rw [row_cell hk2 k (by rw [HV.out.l]; exact hlt), HGy.out])
      clear HDr HKp HZr hcl hy0
      cases lf with
      | true =>
       go_wp2_with (first
        | (go_at_call 53; go_must (refine hGd.mono ?_; rintro e w3 ⟨rfl, hk3, hc3⟩; obtain ⟨hv3, q3⟩ := HVn.out w3 hk3 hc3))
        | fail)
       exact ⟨⟨k + 1, by omega, by go_num, by rw [HL1.out], hid hv3⟩, by simp [intOf]; omega⟩
      | false =>
       go_wp2_with (first
        | (go_at_call 53; go_must (refine hGd.mono ?_; rintro e w3 ⟨rfl, hk3, hc3⟩; obtain ⟨hv3, q3⟩ := HVn.out w3 hk3 hc3))
        | fail)
       exact ⟨⟨k + 1, by omega, by go_num, by rw [HL1.out], hid hv3⟩, by simp [intOf]; omega⟩
     | false =>
      have hGd : Calls Tryz.prog 53 #[.pointer (some ⟨c.p, 0, none⟩), .int .i64 y] wr fun e w' => e = .returned (.bool false) ∧ GN w w' c s gt (r.1, r.2) := by
       refine hGd.mono ?_
       rintro e w' ⟨rfl, h2, h3⟩
       have hcl' : claimB c.N c.M (KT.cl { s with cl := r.2.cl }) y = false := hcl;rw [hcl'] at h2 ⊢
       exact ⟨rfl, h2, h3.keep HV.out.t (HCb.out wr HV.out), HV.out.ch.trans h3 (fun _ _ e => e) (fun _ _ e => e), HV.out.l⟩
      have HN1 := hid (HDr.out (by rw [hcl, Bool.and_false]));clear HDr HKp HZr hcl hy0
      cases lf with
      | true =>
       go_wp2_with (first
        | (go_at_call 53; go_must (refine hGd.mono ?_; rintro e w3 ⟨rfl, hv3⟩; obtain ⟨z1, z2, z3⟩ := HZero.out w3 hv3 HN1.out; have q3 := row_cell hv3.t k (by rw [hv3.l]; exact hlt); have q4 := frozen_of_row w3 gt k _ 103 hv3.t))
        | fail)
       exact ⟨⟨k + 1, by omega, by go_num, by rw [z2], hid z1⟩, by simp [intOf]; omega⟩
      | false =>
       go_wp2_with (first
        | (go_at_call 53; go_must (refine hGd.mono ?_; rintro e w3 ⟨rfl, hv3⟩; obtain ⟨z1, z2, z3⟩ := HZero.out w3 hv3 HN1.out; have q3 := row_cell hv3.t k (by rw [hv3.l]; exact hlt); have q4 := frozen_of_row w3 gt k _ 103 hv3.t))
        | fail)
       exact ⟨⟨k + 1, by omega, by go_num, by rw [z2], hid z1⟩, by simp [intOf]; omega⟩
    ·have g1 : f + (k : Int) ≥ n := by omega
     have g2 : decide (f + (k : Int) ≥ n) = true := decide_eq_true g1;have HN1 := hid (HDr.out (by rw [decide_eq_false hfk, Bool.false_and]));obtain ⟨z1, z2, z3⟩ := HZero.out wr HV.out HN1.out;have HZ1 := hid z1;have HZ2 := hid z2;have q4 := HFz.out;clear HDr HKp HZr hy0 z1 z2
     cases lf with
     | true =>
      go_wp2_with fail
      exact ⟨⟨k + 1, by omega, by go_num, by rw [HZ2.out], HZ1⟩, by simp [intOf]; omega⟩
     | false =>
      go_wp2_with fail
      exact ⟨⟨k + 1, by omega, by go_num, by rw [HZ2.out], HZ1⟩, by simp [intOf]; omega⟩
  ·have j1 : ¬ (k : Int) < 32 := by omega
   obtain rfl : k = 32 := by omega
   have HL := hid (lfB_end HV.out.l);obtain ⟨r, hr⟩ : ∃ y, y = goK KF t0 S0 32 := ⟨_, rfl⟩;have HW32 := hid (HWt.out 32);rw [← hr] at HV HGF HL HW32 ⊢;obtain ⟨lf, hlf⟩ : ∃ y, y = lfB r.1 32 := ⟨_, rfl⟩;have HLf := hid hlf;have hLv := leaves_any at_ r.1 lf wr HV.out.k ha HV.out.l
   have HR1 : Hid ((goF KF (at_ : Int) S0).1 = lf) := hid (by
    rw [HGF.out, hlf, HL.out]
    by_cases e : r.1 = Zp
    ·rw [if_pos e, decide_eq_true e]; rfl
    ·rw [if_neg e, decide_eq_false e]; rfl)
   have HR2 : Hid (leavesS { s with cl := r.2.cl } at_ r.1 lf = goneS s (goF KF (at_ : Int) S0).2) := hid (by
    unfold leavesS goneS;rw [HGF.out, hlf, HL.out]
    by_cases e : r.1 = Zp
    ·rw [if_pos e, decide_eq_true e, if_neg (by decide)]
     simp only [HW32.out]
    ·rw [if_neg e, decide_eq_false e, if_pos (by decide)]
     simp only [HW32.out])
   have HTt := hid HV.out.t;have HLl := hid HV.out.l;rw [← hlf];have HCw := hid HV.out.ch;clear hlf hr HV
   go_wp2_with (first
    | (refine load_R rfl 103 _ rfl gt rfl 103 _ _ HTt.out Tryz.underlying103 rfl (by rw [szP, NA_size, HLl.out]) ?_)
    | (go_at_call 56; go_must (refine hLv.mono ?_; rintro e w4 ⟨rfl, hk4, hc4⟩))
    | fail)
   go_ret
   exact ⟨by rw [HGb.out, HR1.out]; rfl, by rw [HGs.out, ← HR2.out]; exact hk4, HCw.out.trans hc4 (fun _ _ e => .inr e) (fun _ _ e => e)⟩
end Go.Proofs.YtpmignilhoihnaaGreat
