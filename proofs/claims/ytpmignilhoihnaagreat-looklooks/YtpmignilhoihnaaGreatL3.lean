/-
 layout.ReadSuper returns what the first sector says, or the error, for every sector.
-/
import Derived.Test.YtpmignilhoihnaaGreatLR
import Derived.Deep.CutRange
import Derived.Deep.DeepCutAuto
namespace Go.Proofs.YtpmignilhoihnaaGreat
open Go.RowKit

def numsSup (a b : Int) : List Num := [(0, 4, 1464554050), (4, 4, a), (8, 4, b)]
def supS (a b : Int) : List Int := if supB a b = true then layS (numsSup a b) else Zs
def supE (a b : Int) : Int := if supB a b = true then 0 else 60
theorem supS_sec (a b : Int) : IsSec (supS a b) := by
 unfold supS; split
 ·exact layS_sec _
 ·exact Zs_sec
theorem okN_of {p n v : Int} (h1 : 1 ≤ n) (h2 : n ≤ 8) (h3 : 0 ≤ p) (h4 : p ≤ 128 - n) (h5 : 0 ≤ v) (h6 : v ≤ top) (h7 : v < pw n) : okN (p, n, v) := ⟨inB_true ⟨h1, h2, h3, h4⟩, fitB_true ⟨h5, h6, h7⟩⟩
theorem sup_ok {a b : Int} (h : 8 ≤ a ∧ a ≤ 4096 ∧ 1 ≤ b ∧ b ≤ 512 ∧ b + 2 ≤ a) : ∀ n ∈ numsSup a b, okN n := by
 intro n hn
 simp only [numsSup, List.mem_cons, List.not_mem_nil, or_false] at hn
 rcases hn with rfl | rfl | rfl
 ·exact okN_of (by decide) (by decide) (by decide) (by decide) (by decide) (by decide) (by decide)
 ·exact okN_of (by decide) (by decide) (by decide) (by decide) (by omega) (by rw [top_eq]; omega) (by rw [pw4]; omega)
 ·exact okN_of (by decide) (by decide) (by decide) (by decide) (by omega) (by rw [top_eq]; omega) (by rw [pw4]; omega)
theorem nums_new (w : World) (l : List Num) : NumsAt (w.alloc (.cells (cellsN l).toArray 144)) w.heap.size l :=
 ⟨by simp, fun j v hj => by rw [cell_of_row _ _ _ _ 144 (0, 0) (heap_alloc_new _ _)]; simpa using hj⟩
theorem szS : (Tryz.prog.info? 42).map (·.size) = some 2 := by kernel_rfl

theorem lay_sup {a b : Int} (h : ∀ n ∈ numsSup a b, okN n) (W : World) : Calls Tryz.prog 88 #[.slice (some ⟨W.heap.size, 0, none⟩) 3 3] (W.alloc (.cells #[.int .i64 0, .int .i64 4, .int .i64 1464554050, .int .i64 4, .int .i64 4, .int .i64 a, .int .i64 8, .int .i64 4, .int .i64 b] 144)) fun e w' =>
  e = .returned (.tuple #[.agg (SA (layS (numsSup a b))), .int .i64 0]) ∧ Below (W.heap.size + 1) (W.alloc (.cells #[.int .i64 0, .int .i64 4, .int .i64 1464554050, .int .i64 4, .int .i64 4, .int .i64 a, .int .i64 8, .int .i64 4, .int .i64 b] 144)) w' := by
 have k := lay_any (numsSup a b) W.heap.size 3 _ (nums_new W (numsSup a b)) h (by simp [numsSup]);rw [show (W.alloc (.cells (cellsN (numsSup a b)).toArray 144)).heap.size = W.heap.size + 1 by simp] at k
 exact k

set_option maxRecDepth 100000 in
set_option maxHeartbeats 1000000 in
theorem superSector_any (a b : Int) (w : World) :
  Calls Tryz.prog 72 #[.agg #[.int .i64 a, .int .i64 b]] w fun e w' => e = .returned (.tuple #[.agg (SA (supS a b)), .int .i64 (supE a b)]) ∧ Below w.heap.size w w' := by
 have hz := zero_sec;have hbs := build_sec
 have hm := fun w' => superMayBe_any a b w'
 have HZ : Hid (((w.alloc (.cells #[.int .i64 a, .int .i64 b] 42)).alloc (.cells (SA Zs) 33)).heap[w.heap.size + 1]? = some (.cells (SA Zs) 33 (0, 0))) := heap_alloc2_new w _ _;have HS : Hid (((w.alloc (.cells #[.int .i64 a, .int .i64 b] 42)).alloc (.cells (SA Zs) 33)).heap[w.heap.size]? = some (.cells #[.int .i64 a, .int .i64 b] 42 (0, 0))) := heap_alloc2_old w _ _;have hb : Below w.heap.size w ((w.alloc (.cells #[.int .i64 a, .int .i64 b] 42)).alloc (.cells (SA Zs) 33)) := ((Below.refl _ _).alloc (Nat.le_refl _) _).alloc (by simp) _
 have hsz : ((w.alloc (.cells #[.int .i64 a, .int .i64 b] 42)).alloc (.cells (SA Zs) 33)).heap.size = w.heap.size + 2 := by simp
 cases h : supB a b
 ·have HE : Hid (supS a b = Zs ∧ supE a b = 60) := ⟨by simp [supS, h], by simp [supE, h]⟩
  rw [h] at hm
  go_enter Tryz.func72, Tryz.ntmps72
  go_wp2_with (first | (go_at_call 100; refine (hm _).mono ?_; rintro e w2 ⟨rfl, hb2⟩; have HZ2 : Hid (w2.heap[w.heap.size + 1]? = some (.cells (SA Zs) 33 (0, 0))) := by { show _ = _; rw [hb2.block _ (by omega)]; exact HZ.out }) | (refine store_sec rfl _ _ rfl (w.heap.size + 1) rfl Zs rfl Zs_len Zs Zs_len HZ2.out ?_; intro w3 hw3))
  rw [HE.out.1, HE.out.2]
  exact bodyPost_ret (v := .tuple #[.agg (SA Zs), .int .i64 60]) (results_sec Tryz.results72 _ _ (w.heap.size + 1) Zs Zs_len _ rfl rfl hw3.here) rfl ⟨rfl, hw3.below (hb.trans (hb2.mono (by omega))) (by omega)⟩
 ·have HE : Hid (supS a b = layS (numsSup a b) ∧ supE a b = 0) := ⟨by simp [supS, h], by simp [supE, h]⟩
  have HOK := hid (sup_ok (of_decide_eq_true h));rw [h] at hm
  go_enter Tryz.func72, Tryz.ntmps72
  go_wp2_with (first | (go_at_call 100; refine (hm _).mono ?_; rintro e w2 ⟨rfl, hb2⟩; have HZ2 : Hid (w2.heap[w.heap.size + 1]? = some (.cells (SA Zs) 33 (0, 0))) := by { show _ = _; rw [hb2.block _ (by omega)]; exact HZ.out }; have HS2 : w2.heap[w.heap.size]? = some (.cells #[.int .i64 a, .int .i64 b] 42 (0, 0)) := by { rw [hb2.block _ (by omega)]; exact HS.out }; have hc0 := cell_of_row w2 w.heap.size 0 _ _ _ HS2; have hc1 := cell_of_row w2 w.heap.size 1 _ _ _ HS2) | (go_at_call 88; refine (lay_sup HOK.out _).mono ?_; rintro e w3 ⟨rfl, hb3⟩; have HZ3 : Hid (w3.heap[w.heap.size + 1]? = some (.cells (SA Zs) 33 (0, 0))) := by { show _ = _; rw [hb3.block _ (by have := hb2.size; omega), Below.heap_alloc _ _ _ (by have := hb2.size; omega)]; exact HZ2.out }) | (refine store_sec rfl _ _ rfl (w.heap.size + 1) rfl (layS (numsSup a b)) rfl (layS_sec _).1 Zs Zs_len HZ3.out ?_; intro w4 hw4))
  rw [HE.out.1, HE.out.2];have z2 := hb2.size
  exact bodyPost_ret (v := .tuple #[.agg (SA (layS (numsSup a b))), .int .i64 0]) (results_sec Tryz.results72 _ _ (w.heap.size + 1) _ (layS_sec _).1 _ rfl rfl hw4.here) rfl ⟨rfl, hw4.below (((hb.trans (hb2.mono (by omega))).alloc (by omega) _).trans (hb3.mono (by omega))) (by omega)⟩

end Go.Proofs.YtpmignilhoihnaaGreat

namespace Go.Proofs.YtpmignilhoihnaaGreat
open Go.RowKit

def SUA (a b : Int) : Array Value := #[.int .i64 a, .int .i64 b]
def rdSup (a b : Int) (s : List Int) : Int × Int × Int := if supB a b = true ∧ supS a b = s then (a, b, 0) else (0, 0, 60)

theorem after_new {w wc w2 w3 : World} {g : Nat} {t : TypeId} {s c : List Int} {r z : Array Value} (hb2 : Below wc.heap.size wc w2) (hw3 : Wrote (w2.alloc (.cells (SA Zs) 33)) w2.heap.size c w3)
  (h1 : wc.heap[w.heap.size]? = some (.cells (SA s) 33 (0, 0))) (h2 : wc.heap[w.heap.size + 1]? = some (.cells z t (0, 0))) (h3 : wc.heap[g]? = some (.cells r t (0, 0))) (h4 : Below w.heap.size w wc) :
  Hid (w3.heap[w.heap.size]? = some (.cells (SA s) 33 (0, 0))) ∧ Hid (w3.heap[w.heap.size + 1]? = some (.cells z t (0, 0))) ∧ Hid (w3.heap[g]? = some (.cells r t (0, 0))) ∧ Hid (Below w.heap.size w w3) := by
 have e1 := slt h1;have e2 := slt h2;have e3 := slt h3;have z2 := hb2.size
 have k : ∀ j, j < wc.heap.size → w3.heap[j]? = wc.heap[j]? := fun j hj => by
  rw [hw3.other _ (by omega), Below.heap_alloc _ _ _ (by omega), hb2.block _ hj]
 refine ⟨?_, ?_, ?_, hw3.below ((btr h4 hb2 (by omega)).alloc (by omega) _) (by omega)⟩
 ·show _ = _; rw [k _ e1]; exact h1
 ·show _ = _; rw [k _ e2]; exact h2
 ·show _ = _; rw [k _ e3]; exact h3

set_option maxRecDepth 100000 in
set_option maxHeartbeats 4000000 in
theorem readSuper_any (s : List Int) (hs : IsSec s) (w : World) :
  Calls Tryz.prog 40 #[.agg (SA s)] w fun e w' => e = .returned (.tuple #[.agg (SUA (rdSup (getV s 4 4) (getV s 8 4) s).1 (rdSup (getV s 4 4) (getV s 8 4) s).2.1), .int .i64 (rdSup (getV s 4 4) (getV s 8 4) s).2.2]) ∧ Below w.heap.size w w' := by
 have hz := zero_sec
 have hzs : ∀ w', (zeroValue 42).run Tryz.prog w' = .ok (.agg #[.int .i64 0, .int .i64 0]) w' := fun w' => by kernel_rfl
 have hbs : ∀ w', (Instr.build 42 #[]).run Tryz.prog w' = .ok (.agg #[.int .i64 0, .int .i64 0]) w' := fun w' => by kernel_rfl
 obtain ⟨W, hW⟩ : ∃ x, x = (w.alloc (.cells (SA s) 33)).alloc (.cells #[.int .i64 0, .int .i64 0] 42) := ⟨_, rfl⟩
 have hg1 : W.heap[w.heap.size]? = some (.cells (SA s) 33 (0, 0)) := by rw [hW]; exact heap_alloc2_old w _ _
 have hg2 : W.heap[w.heap.size + 1]? = some (.cells #[.int .i64 0, .int .i64 0] 42 (0, 0)) := by rw [hW]; exact heap_alloc2_new w _ _
 obtain ⟨B, hB⟩ : ∃ x, x = W.heap.size := ⟨_, rfl⟩
 have hB2 : B = w.heap.size + 2 := by rw [hB, hW]; simp
 have hbW : Below w.heap.size w W := by rw [hW]; exact ((Below.refl _ _).alloc (Nat.le_refl _) _).alloc (by simp) _
 go_enter Tryz.func40, Tryz.ntmps40
 go_upto_region 1 with fail
 rw [← hW]
 go_cut [4] (fun x wc => ∃ g : Nat, x = .pointer (some ⟨g, 0, none⟩) ∧ Hid (B ≤ g ∧ wc.heap[g]? = some (.cells #[.int .i64 (getV s 4 4), .int .i64 (getV s 8 4)] 42 (0, 0)) ∧ Below B W wc))
 case first =>
   refine wp_region_noPanic ?_;refine wp_region_held_drew (S := fun w' => w'.heap[w.heap.size]? = some (.cells (SA s) 33 (0, 0))) (by kernel_rfl) (hg1) (fun hH => ?_);have b0 : Below B W W.drew := below_drew (Below.refl _ _)
   have z0 : B ≤ W.drew.heap.size := by rw [hB]; exact Nat.le_refl _
   refine takeSec 0 7 (.tmp 1) w.heap.size s hs.1 rfl (by kernel_rfl) (by kernel_rfl) (by kernel_rfl) rfl rfl rfl (by rfl) (fun _ _ _ h => h) hH (fun _ h => h) ?_;simp only [sS];refine takeSec 2 9 (.tmp 1) w.heap.size s hs.1 rfl (by kernel_rfl) (by kernel_rfl) (by kernel_rfl) rfl rfl rfl (by rfl) (fun _ _ _ h => h) hH (fun _ h => h) ?_;simp only [sS];refine step2 1 5 (by kernel_rfl) ?_ ?_
   ·refine stCall 1 8 71 #[.agg (SA s), .int .i64 4, .int .i64 4] _ rfl rfl (by rfl) (by go_simp) (get1_any s 4 4 _ hs) ?_
    rintro e w1c ⟨rfl, hb1c⟩
    have b1c : Below B W w1c := btr b0 hb1c (by have := b0.size; omega)
    have z1c : B ≤ w1c.heap.size := by have := b1c.size; omega
    have hH : w1c.heap[w.heap.size]? = some (.cells (SA s) 33 (0, 0)) := by rw [b1c.block _ (by omega)]; exact hg1
    refine ⟨_, rfl, hH, ?_⟩;simp only [sS];refine step2 3 5 (by kernel_rfl) ?_ ?_
    ·refine stCall 3 10 71 #[.agg (SA s), .int .i64 8, .int .i64 4] _ rfl rfl (by rfl) (by go_simp) (get1_any s 8 4 _ hs) ?_
     rintro e w2c ⟨rfl, hb2c⟩
     have b2c : Below B W w2c := btr b1c hb2c (by have := b1c.size; omega)
     have z2c : B ≤ w2c.heap.size := by have := b2c.size; omega
     have hH : w2c.heap[w.heap.size]? = some (.cells (SA s) 33 (0, 0)) := by rw [b2c.block _ (by omega)]; exact hg1
     refine ⟨_, rfl, hH, ?_⟩;simp only [sS];refine tV 4 11 (.agg #[.int .i64 (getV s 4 4), .int .i64 (getV s 8 4)]) rfl (by kernel_rfl) rfl (by rfl) hH (fun _ hw' => by go_simp) ?_;simp only [sS];refine step1 5 (by kernel_rfl) ?_;refine stNew 5 4 (.pointer (some ⟨w2c.heap.size, 0, none⟩)) (.cells #[.int .i64 0, .int .i64 0] 42) rfl rfl (by rfl) (by go_simp) ?_;have b3a : Below B W (w2c.alloc (.cells #[.int .i64 0, .int .i64 0] 42)) := b2c.alloc (by have := b2c.size; omega) _
     have p3a : B ≤ w2c.heap.size := by have := b2c.size; omega
     have q3a : (w2c.alloc (.cells #[.int .i64 0, .int .i64 0] 42)).heap[w2c.heap.size]? = some (.cells #[.int .i64 0, .int .i64 0] 42 (0, 0)) := heap_alloc_new _ _
     have hH : (w2c.alloc (.cells #[.int .i64 0, .int .i64 0] 42)).heap[w.heap.size]? = some (.cells (SA s) 33 (0, 0)) := by rw [b3a.block _ (by omega)]; exact hg1
     refine ⟨hH, ?_⟩;simp only [sS];refine step1 6 (by kernel_rfl) ?_;refine stStoreR 6 42 (.tmp 4) (.tmp 11) (w2c.heap.size) #[.int .i64 (getV s 4 4), .int .i64 (getV s 8 4)] 42 #[.int .i64 0, .int .i64 0] rfl rfl (by rfl) rfl rfl rfl q3a (by rw [szS]; rfl) rfl (by simp [Value.oneCell']) ?_
     intro wT hT
     have bT := hT.below b3a (by omega);refine ⟨by rw [bT.block _ (by omega)]; exact hg1, ?_⟩;refine wpAnyH_done (by kernel_rfl) ?_ _;refine NoPanic.normal ?_;clear hH;have hP := hid (And.intro (show B ≤ w2c.heap.size by omega) (And.intro hT.here bT))
     go_wp2_with fail
     go_meet
     case rel => exact ⟨_, rfl, hP⟩
    ·refine stNew 5 4 (.pointer (some ⟨w1c.heap.size, 0, none⟩)) (.cells #[.int .i64 0, .int .i64 0] 42) rfl rfl (by rfl) (by go_simp) ?_
     have b4a : Below B W (w1c.alloc (.cells #[.int .i64 0, .int .i64 0] 42)) := b1c.alloc (by have := b1c.size; omega) _
     have p4a : B ≤ w1c.heap.size := by have := b1c.size; omega
     have q4a : (w1c.alloc (.cells #[.int .i64 0, .int .i64 0] 42)).heap[w1c.heap.size]? = some (.cells #[.int .i64 0, .int .i64 0] 42 (0, 0)) := heap_alloc_new _ _
     have hH : (w1c.alloc (.cells #[.int .i64 0, .int .i64 0] 42)).heap[w.heap.size]? = some (.cells (SA s) 33 (0, 0)) := by rw [b4a.block _ (by omega)]; exact hg1
     refine ⟨hH, ?_⟩;simp only [sS];refine step1 3 (by kernel_rfl) ?_;refine stCall 3 10 71 #[.agg (SA s), .int .i64 8, .int .i64 4] _ rfl rfl (by rfl) (by go_simp) (get1_any s 8 4 _ hs) ?_
     rintro e w5c ⟨rfl, hb5c⟩
     have b5c : Below B W w5c := btr b4a hb5c (by have := b4a.size; omega)
     have z5c : B ≤ w5c.heap.size := by have := b5c.size; omega
     have hH : w5c.heap[w.heap.size]? = some (.cells (SA s) 33 (0, 0)) := by rw [b5c.block _ (by omega)]; exact hg1
     have q5c : w5c.heap[w1c.heap.size]? = some (.cells #[.int .i64 0, .int .i64 0] 42 (0, 0)) := by rw [hb5c.block _ (slt q4a)]; exact q4a
     refine ⟨_, rfl, hH, ?_⟩;simp only [sS];refine tV 4 11 (.agg #[.int .i64 (getV s 4 4), .int .i64 (getV s 8 4)]) rfl (by kernel_rfl) rfl (by rfl) hH (fun _ hw' => by go_simp) ?_;simp only [sS];refine step1 6 (by kernel_rfl) ?_;refine stStoreR 6 42 (.tmp 4) (.tmp 11) (w1c.heap.size) #[.int .i64 (getV s 4 4), .int .i64 (getV s 8 4)] 42 #[.int .i64 0, .int .i64 0] rfl rfl (by rfl) rfl rfl rfl q5c (by rw [szS]; rfl) rfl (by simp [Value.oneCell']) ?_
     intro wT hT
     have bT := hT.below b5c (by omega);refine ⟨by rw [bT.block _ (by omega)]; exact hg1, ?_⟩;refine wpAnyH_done (by kernel_rfl) ?_ _;refine NoPanic.normal ?_;clear hH;have hP := hid (And.intro (show B ≤ w1c.heap.size by omega) (And.intro hT.here bT))
     go_wp2_with fail
     go_meet
     case rel => exact ⟨_, rfl, hP⟩
   ·refine stNew 5 4 (.pointer (some ⟨W.drew.heap.size, 0, none⟩)) (.cells #[.int .i64 0, .int .i64 0] 42) rfl rfl (by rfl) (by go_simp) ?_
    have b6a : Below B W (W.drew.alloc (.cells #[.int .i64 0, .int .i64 0] 42)) := b0.alloc (by have := b0.size; omega) _
    have p6a : B ≤ W.drew.heap.size := by have := b0.size; omega
    have q6a : (W.drew.alloc (.cells #[.int .i64 0, .int .i64 0] 42)).heap[W.drew.heap.size]? = some (.cells #[.int .i64 0, .int .i64 0] 42 (0, 0)) := heap_alloc_new _ _
    have hH : (W.drew.alloc (.cells #[.int .i64 0, .int .i64 0] 42)).heap[w.heap.size]? = some (.cells (SA s) 33 (0, 0)) := by rw [b6a.block _ (by omega)]; exact hg1
    refine ⟨hH, ?_⟩;simp only [sS];refine step1 1 (by kernel_rfl) ?_;refine stCall 1 8 71 #[.agg (SA s), .int .i64 4, .int .i64 4] _ rfl rfl (by rfl) (by go_simp) (get1_any s 4 4 _ hs) ?_
    rintro e w7c ⟨rfl, hb7c⟩
    have b7c : Below B W w7c := btr b6a hb7c (by have := b6a.size; omega)
    have z7c : B ≤ w7c.heap.size := by have := b7c.size; omega
    have hH : w7c.heap[w.heap.size]? = some (.cells (SA s) 33 (0, 0)) := by rw [b7c.block _ (by omega)]; exact hg1
    have q7c : w7c.heap[W.drew.heap.size]? = some (.cells #[.int .i64 0, .int .i64 0] 42 (0, 0)) := by rw [hb7c.block _ (slt q6a)]; exact q6a
    refine ⟨_, rfl, hH, ?_⟩;simp only [sS];refine step1 3 (by kernel_rfl) ?_;refine stCall 3 10 71 #[.agg (SA s), .int .i64 8, .int .i64 4] _ rfl rfl (by rfl) (by go_simp) (get1_any s 8 4 _ hs) ?_
    rintro e w8c ⟨rfl, hb8c⟩
    have b8c : Below B W w8c := btr b7c hb8c (by have := b7c.size; omega)
    have z8c : B ≤ w8c.heap.size := by have := b8c.size; omega
    have hH : w8c.heap[w.heap.size]? = some (.cells (SA s) 33 (0, 0)) := by rw [b8c.block _ (by omega)]; exact hg1
    have q8c : w8c.heap[W.drew.heap.size]? = some (.cells #[.int .i64 0, .int .i64 0] 42 (0, 0)) := by rw [hb8c.block _ (slt q7c)]; exact q7c
    refine ⟨_, rfl, hH, ?_⟩;simp only [sS];refine tV 4 11 (.agg #[.int .i64 (getV s 4 4), .int .i64 (getV s 8 4)]) rfl (by kernel_rfl) rfl (by rfl) hH (fun _ hw' => by go_simp) ?_;simp only [sS];refine step1 6 (by kernel_rfl) ?_;refine stStoreR 6 42 (.tmp 4) (.tmp 11) (W.drew.heap.size) #[.int .i64 (getV s 4 4), .int .i64 (getV s 8 4)] 42 #[.int .i64 0, .int .i64 0] rfl rfl (by rfl) rfl rfl rfl q8c (by rw [szS]; rfl) rfl (by simp [Value.oneCell']) ?_
    intro wT hT
    have bT := hT.below b8c (by omega);refine ⟨by rw [bT.block _ (by omega)]; exact hg1, ?_⟩;refine wpAnyH_done (by kernel_rfl) ?_ _;refine NoPanic.normal ?_;clear hH;have hP := hid (And.intro (show B ≤ W.drew.heap.size by omega) (And.intro hT.here bT))
    go_wp2_with fail
    go_meet
    case rel => exact ⟨_, rfl, hP⟩
 case rest =>
  obtain ⟨g, rfl, HG⟩ := hcut;obtain ⟨hge, hgr, hbc⟩ := HG.out
  have h1 : wc.heap[w.heap.size]? = some (.cells (SA s) 33 (0, 0)) := by rw [hbc.block _ (by omega)]; exact hg1
  have h2 : wc.heap[w.heap.size + 1]? = some (.cells #[.int .i64 0, .int .i64 0] 42 (0, 0)) := by rw [hbc.block _ (by omega)]; exact hg2
  have hcw : Below w.heap.size w wc := btr hbW hbc (by omega);have hgs := slt hgr;have H1 := hid h1;have H2 := hid h2;have HR := hid hgr;have HC := hid hcw
  have hsup := fun w' => superSector_any (getV s 4 4) (getV s 8 4) w'
  have HSC := supS_sec (getV s 4 4) (getV s 8 4);have hgd := guard_sec;have hl := hs.1;clear hg1 hg2 hbW hW hB hgr h1 h2 hcw hbc HG
  by_cases he : supB (getV s 4 4) (getV s 8 4) = true
  ·have hE : supE (getV s 4 4) (getV s 8 4) = 0 := by simp [supE, he]
   rw [hE] at hsup
   by_cases hq : supS (getV s 4 4) (getV s 8 4) = s
   ·have HV : Hid (rdSup (getV s 4 4) (getV s 8 4) s = ((getV s 4 4), (getV s 8 4), 0)) := by show _ = _; simp [rdSup, he, hq]
    have heq : ∀ w', (Op.equalIn 10000 33 (.agg (SA (supS (getV s 4 4) (getV s 8 4)))) (.agg (SA s))).run Tryz.prog w' = .ok true w' := fun w' => by rw [eq_sec _ _ HSC.1 hl, decide_eq_true hq]
    have HLS := hid HSC.1;clear hq HSC he
    go_wp2_with (first | refine load_R rfl 42 (.tmp 4) rfl g rfl 42 _ _ HR.out Tryz.underlying42 rfl (by rw [szS]; rfl) ?_ | (go_at_call 72; refine (hsup _).mono ?_; rintro e w2 ⟨rfl, hb2⟩) | (refine store_sec rfl (.tmp 5) _ rfl w2.heap.size rfl _ rfl HLS.out Zs Zs_len (heap_alloc_new _ _) ?_; intro w3 hw3; obtain ⟨HA1, HA2, HAR, HAC⟩ := after_new (t := 42) hb2 hw3 H1.out H2.out HR.out HC.out) | refine load_sec_g (.tmp 5) rfl w2.heap.size rfl _ HLS.out hw3.here rfl ?_ | refine load_sec_g (.tmp 1) rfl w.heap.size rfl s hl HA1.out rfl ?_ | refine load_R rfl 42 (.tmp 4) rfl g rfl 42 _ _ HAR.out Tryz.underlying42 rfl (by rw [szS]; rfl) ?_ | (refine store_R rfl 42 (.tmp 2) _ rfl (w.heap.size + 1) _ rfl rfl 42 _ HA2.out (by rw [szS]; rfl) rfl (by simp [Value.oneCell']) ?_; intro w4 hw4))
    rw [HV.out]
    exact bodyPost_ret (v := .tuple #[.agg (SUA (getV s 4 4) (getV s 8 4)), .int .i64 0]) (results_R Tryz.results40 _ _ (w.heap.size + 1) _ 42 _ _ Tryz.underlying42 rfl (by rw [szS]; rfl) rfl rfl hw4.here) rfl ⟨rfl, hw4.below HAC.out (by omega)⟩
   ·have HV : Hid (rdSup (getV s 4 4) (getV s 8 4) s = (0, 0, 60)) := by show _ = _; simp [rdSup, he, hq]
    have heq : ∀ w', (Op.equalIn 10000 33 (.agg (SA (supS (getV s 4 4) (getV s 8 4)))) (.agg (SA s))).run Tryz.prog w' = .ok false w' := fun w' => by rw [eq_sec _ _ HSC.1 hl, decide_eq_false hq]
    have HLS := hid HSC.1;clear hq HSC he
    go_wp2_with (first | refine load_R rfl 42 (.tmp 4) rfl g rfl 42 _ _ HR.out Tryz.underlying42 rfl (by rw [szS]; rfl) ?_ | (go_at_call 72; refine (hsup _).mono ?_; rintro e w2 ⟨rfl, hb2⟩) | (refine store_sec rfl (.tmp 5) _ rfl w2.heap.size rfl _ rfl HLS.out Zs Zs_len (heap_alloc_new _ _) ?_; intro w3 hw3; obtain ⟨HA1, HA2, HAR, HAC⟩ := after_new (t := 42) hb2 hw3 H1.out H2.out HR.out HC.out) | refine load_sec_g (.tmp 5) rfl w2.heap.size rfl _ HLS.out hw3.here rfl ?_ | refine load_sec_g (.tmp 1) rfl w.heap.size rfl s hl HA1.out rfl ?_ | (refine store_R rfl 42 (.tmp 2) _ rfl (w.heap.size + 1) _ rfl rfl 42 _ HA2.out (by rw [szS]; rfl) rfl (by simp [Value.oneCell']) ?_; intro w4 hw4))
    rw [HV.out]
    exact bodyPost_ret (v := .tuple #[.agg (SUA 0 0), .int .i64 60]) (results_R Tryz.results40 _ _ (w.heap.size + 1) _ 42 _ _ Tryz.underlying42 rfl (by rw [szS]; rfl) rfl rfl hw4.here) rfl ⟨rfl, hw4.below HAC.out (by omega)⟩
  ·have hE : supE (getV s 4 4) (getV s 8 4) = 60 := by simp [supE, he]
   have hS : supS (getV s 4 4) (getV s 8 4) = Zs := by simp [supS, he]
   rw [hE, hS] at hsup
   have HV : Hid (rdSup (getV s 4 4) (getV s 8 4) s = (0, 0, 60)) := by show _ = _; simp [rdSup, he]
   clear HSC he
   go_wp2_with (first | refine load_R rfl 42 (.tmp 4) rfl g rfl 42 _ _ HR.out Tryz.underlying42 rfl (by rw [szS]; rfl) ?_ | (go_at_call 72; refine (hsup _).mono ?_; rintro e w2 ⟨rfl, hb2⟩) | (refine store_sec rfl (.tmp 5) _ rfl w2.heap.size rfl _ rfl Zs_len Zs Zs_len (heap_alloc_new _ _) ?_; intro w3 hw3; obtain ⟨HA1, HA2, HAR, HAC⟩ := after_new (t := 42) hb2 hw3 H1.out H2.out HR.out HC.out) | (refine store_R rfl 42 (.tmp 2) _ rfl (w.heap.size + 1) _ rfl rfl 42 _ HA2.out (by rw [szS]; rfl) rfl (by simp [Value.oneCell']) ?_; intro w4 hw4))
   rw [HV.out]
   exact bodyPost_ret (v := .tuple #[.agg (SUA 0 0), .int .i64 60]) (results_R Tryz.results40 _ _ (w.heap.size + 1) _ 42 _ _ Tryz.underlying42 rfl (by rw [szS]; rfl) rfl rfl hw4.here) rfl ⟨rfl, hw4.below HAC.out (by omega)⟩

end Go.Proofs.YtpmignilhoihnaaGreat
