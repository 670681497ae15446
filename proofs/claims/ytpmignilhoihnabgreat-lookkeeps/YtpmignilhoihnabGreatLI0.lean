/-
 An inode as a list of eighteen numbers, and the table of its fields: where each stands, how great it may be, how it is had and given.
-/
import Derived.Test.YtpmignilhoihnabGreatLR
import Derived.Deep.CutRange
import Derived.Deep.DeepCutAuto
import Derived.Shelf.Abstract
namespace Go.Proofs.YtpmignilhoihnabGreat
open Go.RowKit

def NA (z : List Int) : Array Value := (z.map (Value.int .i64)).toArray
theorem NA_size (z : List Int) : (NA z).size = z.length := by simp [NA]
theorem NA_get (z : List Int) (j : Nat) (h : j < z.length) : (NA z)[j]? = some (.int .i64 (z.getD j 0)) := by simp [NA, h]
theorem NA_one (z : List Int) : (NA z).all (·.oneCell') = true := by
 rw [Array.all_eq_true_iff_forall_mem]
 intro v hv
 simp only [NA, List.mem_toArray, List.mem_map] at hv
 obtain ⟨x, _, rfl⟩ := hv
 rfl
theorem NA_set (z : List Int) (j : Nat) (x : Int) : (NA z).setIfInBounds j (.int .i64 x) = NA (z.set j x) := by simp [NA, List.map_set]
theorem row_cell {w : World} {g : Nat} {z : List Int} {t : TypeId} (hg : w.heap[g]? = some (.cells (NA z) t (0, 0))) (j : Nat) (h : j < z.length) : w.cell? ⟨g, j, none⟩ = some (.int .i64 (z.getD j 0)) := by
 rw [cell_of_row _ _ _ (NA z) t (0, 0) hg]
 exact NA_get z j h
theorem row_free {w : World} {g : Nat} {c : Array Value} {t : TypeId} (hg : w.heap[g]? = some (.cells c t (0, 0))) (j : Nat) : w.frozen? ⟨g, j, none⟩ = false := frozen_of_row w g j c t hg
theorem row_setCell {w : World} {g : Nat} {z : List Int} {t : TypeId} (hg : w.heap[g]? = some (.cells (NA z) t (0, 0))) (j : Nat) (x : Int) : PutR w g (NA (z.set j x)) t (w.setCell ⟨g, j, none⟩ (.int .i64 x)) := by
 refine ⟨?_, ?_, ?_, rfl, rfl, rfl⟩
 ·rw [heap_setCell_same w g j (NA z) t _ hg, NA_set]
 ·intro k hk
  exact heap_setCell_other w ⟨g, j, none⟩ k _ hk
 ·simp [World.setCell]

structure Fld where
 pl : Int
 wd : Int
 ct : Nat
 ms : Int
 gf : Nat
 pf : Nat
def flds : List Fld := [⟨0, 1, 1, 2, 79, 80⟩, ⟨1, 1, 1, 100, 81, 82⟩, ⟨4, 4, 1, 136704, 83, 84⟩, ⟨8, 8, 1, 1099511627776, 85, 86⟩,
 ⟨16, 4, 12, 4294967295, 87, 88⟩, ⟨64, 4, 1, 4294967295, 89, 90⟩, ⟨68, 4, 1, 4294967295, 91, 92⟩]
def base : Nat → Nat
 | 0 => 0
 | 1 => 1
 | 2 => 2
 | 3 => 3
 | 4 => 4
 | 5 => 16
 | 6 => 17
 | _ => 18
def cellF (f : Fld) : List Value := [.int .i64 f.pl, .int .i64 f.wd, .int .i64 f.ct, .int .i64 f.ms, .func (Fn.func f.gf) #[] #[], .func (Fn.func f.pf) #[] #[]]
def cellsF : List Value := flds.flatMap cellF
def FldsAt (w : World) (b : Nat) : Prop := w.heap[b]? = some (.cells cellsF.toArray 111 (0, 0))

theorem fld_cases {j : Nat} {f : Fld} (h : flds[j]? = some f) : j < 7 := by
 rcases Nat.lt_or_ge j 7 with k | k
 ·exact k
 ·rw [List.getElem?_eq_none (by simpa [flds] using k)] at h; cases h
theorem cellsF_get {j : Nat} {f : Fld} (h : flds[j]? = some f) : (cellsF.drop (j * 6)).take 6 = cellF f := by
 have hj := fld_cases h
 match j, hj, h with
 | 0, _, h | 1, _, h | 2, _, h | 3, _, h | 4, _, h | 5, _, h | 6, _, h =>
  cases h
  rfl
theorem FldsAt.range {w : World} {b j : Nat} {f : Fld} (hb : FldsAt w b) (h : flds[j]? = some f) : w.rangeAt b (j * 6) (cellF f) := by
 intro i v hv
 rw [cell_of_row _ _ _ _ 111 (0, 0) hb];rw [← cellsF_get h, List.getElem?_take] at hv
 split at hv
 ·rw [List.getElem?_drop] at hv
  simpa using hv
 ·cases hv
theorem szF : (Tryz.prog.info? 111).map (·.size) = some 6 := by kernel_rfl
theorem szI : (Tryz.prog.info? 39).map (·.size) = some 18 := by kernel_rfl
def Zi : List Int := List.replicate 18 0
theorem Zi_len : Zi.length = 18 := by simp [Zi]
theorem zero_inode (w : World) : (zeroValue 39).run Tryz.prog w = .ok (.agg (NA Zi)) w := by kernel_rfl
theorem build_inode (w : World) : (Instr.build 39 #[]).run Tryz.prog w = .ok (.agg (NA Zi)) w := by kernel_rfl

set_option maxRecDepth 100000 in
set_option maxHeartbeats 1000000 in
theorem inodeFields_any (w : World) :
  Calls Tryz.prog 56 #[] w fun e w' => e = .returned (.slice (some ⟨w.heap.size, 0, none⟩) 7 7) ∧ FldsAt w' w.heap.size ∧ Below w.heap.size w w' := by
 go_enter Tryz.func56, Tryz.ntmps56
 go_wp2
 go_ret
 exact ⟨rfl, heap_alloc_new _ _, (Below.refl _ _).alloc (Nat.le_refl _) _⟩

set_option maxHeartbeats 1000000 in
theorem place_any (f : Fld) (i : Nat) (w : World) (h0 : 0 ≤ f.pl) (h1 : f.pl ≤ 1000) (h2 : 0 ≤ (i : Int) * f.wd) (h3 : (i : Int) * f.wd ≤ 1000) :
  Calls Tryz.prog 57 #[.agg (cellF f).toArray, .int .i64 (i : Int)] w fun e w' => e = .returned (.int .i64 (f.pl + (i : Int) * f.wd)) ∧ Below w.heap.size w w' := by
 have hb : Below w.heap.size w (w.alloc (.cells (cellF f).toArray 111)) := (Below.refl _ _).alloc (Nat.le_refl _) _;unfold cellF at *
 go_enter Tryz.func57, Tryz.ntmps57
 go_wp2
 go_ret
 exact ⟨rfl, hb⟩

set_option maxHeartbeats 400000 in
theorem getF0 (z : List Int) (hz : z.length = 18) (w : World) (v : Value) :
  Calls Tryz.prog 79 #[.agg (NA z), v] w fun e w' => e = .returned (.int .i64 (z.getD 0 0)) ∧ Below w.heap.size w w' := by
 have hb : Below w.heap.size w (w.alloc (.cells (NA z) 39)) := (Below.refl _ _).alloc (Nat.le_refl _) _;have hc := row_cell (heap_alloc_new w (.cells (NA z) 39)) 0 (by omega)
 generalize z.getD 0 0 = X at *
 go_enter Tryz.func79, Tryz.ntmps79
 go_wp2
 go_ret
 exact ⟨rfl, hb⟩
set_option maxRecDepth 100000 in
set_option maxHeartbeats 1000000 in
theorem putF0 (z : List Int) (hz : z.length = 18) (x : Int) (w : World) (v : Value) :
  Calls Tryz.prog 80 #[.agg (NA z), v, .int .i64 x] w fun e w' => e = .returned (.agg (NA (z.set 0 x))) ∧ Below w.heap.size w w' := by
 have hzi := zero_inode;obtain ⟨W, hW⟩ : ∃ y, y = (w.alloc (.cells (NA z) 39)).alloc (.cells (NA Zi) 39) := ⟨_, rfl⟩
 have h1 : W.heap[w.heap.size]? = some (.cells (NA z) 39 (0, 0)) := by rw [hW]; exact heap_alloc2_old w _ _
 have h2 : W.heap[w.heap.size + 1]? = some (.cells (NA Zi) 39 (0, 0)) := by rw [hW]; exact heap_alloc2_new w _ _
 have hb : Below w.heap.size w W := by rw [hW]; exact ((Below.refl _ _).alloc (Nat.le_refl _) _).alloc (by simp) _
 have hc := row_cell h1 0 (by omega);have hf := row_free h1 0;have hp := row_setCell h1 0 x;have H1 := hid h1
 have H2 : Hid ((W.setCell ⟨w.heap.size, 0, none⟩ (.int .i64 x)).heap[w.heap.size + 1]? = some (.cells (NA Zi) 39 (0, 0))) := by show _ = _; rw [hp.other _ (by omega)]; exact h2
 have HP := hid hp;clear h1 h2 hp
 go_enter Tryz.func80, Tryz.ntmps80
 go_upto_region 1 with fail
 rw [← hW];clear hW
 go_wp2_with (first | refine load_R rfl 39 (.tmp 3) rfl w.heap.size rfl 39 _ _ HP.out.here Tryz.underlying39 rfl (by rw [szI, NA_size, List.length_set, hz]) ?_ | (refine store_R rfl 39 (.tmp 6) _ rfl (w.heap.size + 1) _ rfl rfl 39 _ H2.out (by rw [szI, NA_size, List.length_set, hz]) (by rw [NA_size, NA_size, List.length_set, hz]; rfl) (NA_one _) ?_; intro w2 hw2))
 exact bodyPost_ret (v := .agg (NA (z.set 0 x))) (results_R1 Tryz.results80 _ _ (w.heap.size + 1) _ 39 _ Tryz.underlying39 rfl (by rw [szI, NA_size, List.length_set, hz]) rfl hw2.here) rfl ⟨rfl, hw2.below (HP.out.below hb (by omega)) (by omega)⟩

set_option maxHeartbeats 400000 in
theorem getF1 (z : List Int) (hz : z.length = 18) (w : World) (v : Value) :
  Calls Tryz.prog 81 #[.agg (NA z), v] w fun e w' => e = .returned (.int .i64 (z.getD 1 0)) ∧ Below w.heap.size w w' := by
 have hb : Below w.heap.size w (w.alloc (.cells (NA z) 39)) := (Below.refl _ _).alloc (Nat.le_refl _) _;have hc := row_cell (heap_alloc_new w (.cells (NA z) 39)) 1 (by omega)
 generalize z.getD 1 0 = X at *
 go_enter Tryz.func81, Tryz.ntmps81
 go_wp2
 go_ret
 exact ⟨rfl, hb⟩
set_option maxRecDepth 100000 in
set_option maxHeartbeats 1000000 in
theorem putF1 (z : List Int) (hz : z.length = 18) (x : Int) (w : World) (v : Value) :
  Calls Tryz.prog 82 #[.agg (NA z), v, .int .i64 x] w fun e w' => e = .returned (.agg (NA (z.set 1 x))) ∧ Below w.heap.size w w' := by
 have hzi := zero_inode;obtain ⟨W, hW⟩ : ∃ y, y = (w.alloc (.cells (NA z) 39)).alloc (.cells (NA Zi) 39) := ⟨_, rfl⟩
 have h1 : W.heap[w.heap.size]? = some (.cells (NA z) 39 (0, 0)) := by rw [hW]; exact heap_alloc2_old w _ _
 have h2 : W.heap[w.heap.size + 1]? = some (.cells (NA Zi) 39 (0, 0)) := by rw [hW]; exact heap_alloc2_new w _ _
 have hb : Below w.heap.size w W := by rw [hW]; exact ((Below.refl _ _).alloc (Nat.le_refl _) _).alloc (by simp) _
 have hc := row_cell h1 1 (by omega);have hf := row_free h1 1;have hp := row_setCell h1 1 x;have H1 := hid h1
 have H2 : Hid ((W.setCell ⟨w.heap.size, 1, none⟩ (.int .i64 x)).heap[w.heap.size + 1]? = some (.cells (NA Zi) 39 (0, 0))) := by show _ = _; rw [hp.other _ (by omega)]; exact h2
 have HP := hid hp;clear h1 h2 hp
 go_enter Tryz.func82, Tryz.ntmps82
 go_upto_region 1 with fail
 rw [← hW];clear hW
 go_wp2_with (first | refine load_R rfl 39 (.tmp 3) rfl w.heap.size rfl 39 _ _ HP.out.here Tryz.underlying39 rfl (by rw [szI, NA_size, List.length_set, hz]) ?_ | (refine store_R rfl 39 (.tmp 6) _ rfl (w.heap.size + 1) _ rfl rfl 39 _ H2.out (by rw [szI, NA_size, List.length_set, hz]) (by rw [NA_size, NA_size, List.length_set, hz]; rfl) (NA_one _) ?_; intro w2 hw2))
 exact bodyPost_ret (v := .agg (NA (z.set 1 x))) (results_R1 Tryz.results82 _ _ (w.heap.size + 1) _ 39 _ Tryz.underlying39 rfl (by rw [szI, NA_size, List.length_set, hz]) rfl hw2.here) rfl ⟨rfl, hw2.below (HP.out.below hb (by omega)) (by omega)⟩

set_option maxHeartbeats 400000 in
theorem getF2 (z : List Int) (hz : z.length = 18) (w : World) (v : Value) :
  Calls Tryz.prog 83 #[.agg (NA z), v] w fun e w' => e = .returned (.int .i64 (z.getD 2 0)) ∧ Below w.heap.size w w' := by
 have hb : Below w.heap.size w (w.alloc (.cells (NA z) 39)) := (Below.refl _ _).alloc (Nat.le_refl _) _;have hc := row_cell (heap_alloc_new w (.cells (NA z) 39)) 2 (by omega)
 generalize z.getD 2 0 = X at *
 go_enter Tryz.func83, Tryz.ntmps83
 go_wp2
 go_ret
 exact ⟨rfl, hb⟩
set_option maxRecDepth 100000 in
set_option maxHeartbeats 1000000 in
theorem putF2 (z : List Int) (hz : z.length = 18) (x : Int) (w : World) (v : Value) :
  Calls Tryz.prog 84 #[.agg (NA z), v, .int .i64 x] w fun e w' => e = .returned (.agg (NA (z.set 2 x))) ∧ Below w.heap.size w w' := by
 have hzi := zero_inode;obtain ⟨W, hW⟩ : ∃ y, y = (w.alloc (.cells (NA z) 39)).alloc (.cells (NA Zi) 39) := ⟨_, rfl⟩
 have h1 : W.heap[w.heap.size]? = some (.cells (NA z) 39 (0, 0)) := by rw [hW]; exact heap_alloc2_old w _ _
 have h2 : W.heap[w.heap.size + 1]? = some (.cells (NA Zi) 39 (0, 0)) := by rw [hW]; exact heap_alloc2_new w _ _
 have hb : Below w.heap.size w W := by rw [hW]; exact ((Below.refl _ _).alloc (Nat.le_refl _) _).alloc (by simp) _
 have hc := row_cell h1 2 (by omega);have hf := row_free h1 2;have hp := row_setCell h1 2 x;have H1 := hid h1
 have H2 : Hid ((W.setCell ⟨w.heap.size, 2, none⟩ (.int .i64 x)).heap[w.heap.size + 1]? = some (.cells (NA Zi) 39 (0, 0))) := by show _ = _; rw [hp.other _ (by omega)]; exact h2
 have HP := hid hp;clear h1 h2 hp
 go_enter Tryz.func84, Tryz.ntmps84
 go_upto_region 1 with fail
 rw [← hW];clear hW
 go_wp2_with (first | refine load_R rfl 39 (.tmp 3) rfl w.heap.size rfl 39 _ _ HP.out.here Tryz.underlying39 rfl (by rw [szI, NA_size, List.length_set, hz]) ?_ | (refine store_R rfl 39 (.tmp 6) _ rfl (w.heap.size + 1) _ rfl rfl 39 _ H2.out (by rw [szI, NA_size, List.length_set, hz]) (by rw [NA_size, NA_size, List.length_set, hz]; rfl) (NA_one _) ?_; intro w2 hw2))
 exact bodyPost_ret (v := .agg (NA (z.set 2 x))) (results_R1 Tryz.results84 _ _ (w.heap.size + 1) _ 39 _ Tryz.underlying39 rfl (by rw [szI, NA_size, List.length_set, hz]) rfl hw2.here) rfl ⟨rfl, hw2.below (HP.out.below hb (by omega)) (by omega)⟩

set_option maxHeartbeats 400000 in
theorem getF3 (z : List Int) (hz : z.length = 18) (w : World) (v : Value) :
  Calls Tryz.prog 85 #[.agg (NA z), v] w fun e w' => e = .returned (.int .i64 (z.getD 3 0)) ∧ Below w.heap.size w w' := by
 have hb : Below w.heap.size w (w.alloc (.cells (NA z) 39)) := (Below.refl _ _).alloc (Nat.le_refl _) _;have hc := row_cell (heap_alloc_new w (.cells (NA z) 39)) 3 (by omega)
 generalize z.getD 3 0 = X at *
 go_enter Tryz.func85, Tryz.ntmps85
 go_wp2
 go_ret
 exact ⟨rfl, hb⟩
set_option maxRecDepth 100000 in
set_option maxHeartbeats 1000000 in
theorem putF3 (z : List Int) (hz : z.length = 18) (x : Int) (w : World) (v : Value) :
  Calls Tryz.prog 86 #[.agg (NA z), v, .int .i64 x] w fun e w' => e = .returned (.agg (NA (z.set 3 x))) ∧ Below w.heap.size w w' := by
 have hzi := zero_inode;obtain ⟨W, hW⟩ : ∃ y, y = (w.alloc (.cells (NA z) 39)).alloc (.cells (NA Zi) 39) := ⟨_, rfl⟩
 have h1 : W.heap[w.heap.size]? = some (.cells (NA z) 39 (0, 0)) := by rw [hW]; exact heap_alloc2_old w _ _
 have h2 : W.heap[w.heap.size + 1]? = some (.cells (NA Zi) 39 (0, 0)) := by rw [hW]; exact heap_alloc2_new w _ _
 have hb : Below w.heap.size w W := by rw [hW]; exact ((Below.refl _ _).alloc (Nat.le_refl _) _).alloc (by simp) _
 have hc := row_cell h1 3 (by omega);have hf := row_free h1 3;have hp := row_setCell h1 3 x;have H1 := hid h1
 have H2 : Hid ((W.setCell ⟨w.heap.size, 3, none⟩ (.int .i64 x)).heap[w.heap.size + 1]? = some (.cells (NA Zi) 39 (0, 0))) := by show _ = _; rw [hp.other _ (by omega)]; exact h2
 have HP := hid hp;clear h1 h2 hp
 go_enter Tryz.func86, Tryz.ntmps86
 go_upto_region 1 with fail
 rw [← hW];clear hW
 go_wp2_with (first | refine load_R rfl 39 (.tmp 3) rfl w.heap.size rfl 39 _ _ HP.out.here Tryz.underlying39 rfl (by rw [szI, NA_size, List.length_set, hz]) ?_ | (refine store_R rfl 39 (.tmp 6) _ rfl (w.heap.size + 1) _ rfl rfl 39 _ H2.out (by rw [szI, NA_size, List.length_set, hz]) (by rw [NA_size, NA_size, List.length_set, hz]; rfl) (NA_one _) ?_; intro w2 hw2))
 exact bodyPost_ret (v := .agg (NA (z.set 3 x))) (results_R1 Tryz.results86 _ _ (w.heap.size + 1) _ 39 _ Tryz.underlying39 rfl (by rw [szI, NA_size, List.length_set, hz]) rfl hw2.here) rfl ⟨rfl, hw2.below (HP.out.below hb (by omega)) (by omega)⟩

set_option maxHeartbeats 400000 in
theorem getF5 (z : List Int) (hz : z.length = 18) (w : World) (v : Value) :
  Calls Tryz.prog 89 #[.agg (NA z), v] w fun e w' => e = .returned (.int .i64 (z.getD 16 0)) ∧ Below w.heap.size w w' := by
 have hb : Below w.heap.size w (w.alloc (.cells (NA z) 39)) := (Below.refl _ _).alloc (Nat.le_refl _) _;have hc := row_cell (heap_alloc_new w (.cells (NA z) 39)) 16 (by omega)
 generalize z.getD 16 0 = X at *
 go_enter Tryz.func89, Tryz.ntmps89
 go_wp2
 go_ret
 exact ⟨rfl, hb⟩
set_option maxRecDepth 100000 in
set_option maxHeartbeats 1000000 in
theorem putF5 (z : List Int) (hz : z.length = 18) (x : Int) (w : World) (v : Value) :
  Calls Tryz.prog 90 #[.agg (NA z), v, .int .i64 x] w fun e w' => e = .returned (.agg (NA (z.set 16 x))) ∧ Below w.heap.size w w' := by
 have hzi := zero_inode;obtain ⟨W, hW⟩ : ∃ y, y = (w.alloc (.cells (NA z) 39)).alloc (.cells (NA Zi) 39) := ⟨_, rfl⟩
 have h1 : W.heap[w.heap.size]? = some (.cells (NA z) 39 (0, 0)) := by rw [hW]; exact heap_alloc2_old w _ _
 have h2 : W.heap[w.heap.size + 1]? = some (.cells (NA Zi) 39 (0, 0)) := by rw [hW]; exact heap_alloc2_new w _ _
 have hb : Below w.heap.size w W := by rw [hW]; exact ((Below.refl _ _).alloc (Nat.le_refl _) _).alloc (by simp) _
 have hc := row_cell h1 16 (by omega);have hf := row_free h1 16;have hp := row_setCell h1 16 x;have H1 := hid h1
 have H2 : Hid ((W.setCell ⟨w.heap.size, 16, none⟩ (.int .i64 x)).heap[w.heap.size + 1]? = some (.cells (NA Zi) 39 (0, 0))) := by show _ = _; rw [hp.other _ (by omega)]; exact h2
 have HP := hid hp;clear h1 h2 hp
 go_enter Tryz.func90, Tryz.ntmps90
 go_upto_region 1 with fail
 rw [← hW];clear hW
 go_wp2_with (first | refine load_R rfl 39 (.tmp 3) rfl w.heap.size rfl 39 _ _ HP.out.here Tryz.underlying39 rfl (by rw [szI, NA_size, List.length_set, hz]) ?_ | (refine store_R rfl 39 (.tmp 6) _ rfl (w.heap.size + 1) _ rfl rfl 39 _ H2.out (by rw [szI, NA_size, List.length_set, hz]) (by rw [NA_size, NA_size, List.length_set, hz]; rfl) (NA_one _) ?_; intro w2 hw2))
 exact bodyPost_ret (v := .agg (NA (z.set 16 x))) (results_R1 Tryz.results90 _ _ (w.heap.size + 1) _ 39 _ Tryz.underlying39 rfl (by rw [szI, NA_size, List.length_set, hz]) rfl hw2.here) rfl ⟨rfl, hw2.below (HP.out.below hb (by omega)) (by omega)⟩

set_option maxHeartbeats 400000 in
theorem getF6 (z : List Int) (hz : z.length = 18) (w : World) (v : Value) :
  Calls Tryz.prog 91 #[.agg (NA z), v] w fun e w' => e = .returned (.int .i64 (z.getD 17 0)) ∧ Below w.heap.size w w' := by
 have hb : Below w.heap.size w (w.alloc (.cells (NA z) 39)) := (Below.refl _ _).alloc (Nat.le_refl _) _;have hc := row_cell (heap_alloc_new w (.cells (NA z) 39)) 17 (by omega)
 generalize z.getD 17 0 = X at *
 go_enter Tryz.func91, Tryz.ntmps91
 go_wp2
 go_ret
 exact ⟨rfl, hb⟩
set_option maxRecDepth 100000 in
set_option maxHeartbeats 1000000 in
theorem putF6 (z : List Int) (hz : z.length = 18) (x : Int) (w : World) (v : Value) :
  Calls Tryz.prog 92 #[.agg (NA z), v, .int .i64 x] w fun e w' => e = .returned (.agg (NA (z.set 17 x))) ∧ Below w.heap.size w w' := by
 have hzi := zero_inode;obtain ⟨W, hW⟩ : ∃ y, y = (w.alloc (.cells (NA z) 39)).alloc (.cells (NA Zi) 39) := ⟨_, rfl⟩
 have h1 : W.heap[w.heap.size]? = some (.cells (NA z) 39 (0, 0)) := by rw [hW]; exact heap_alloc2_old w _ _
 have h2 : W.heap[w.heap.size + 1]? = some (.cells (NA Zi) 39 (0, 0)) := by rw [hW]; exact heap_alloc2_new w _ _
 have hb : Below w.heap.size w W := by rw [hW]; exact ((Below.refl _ _).alloc (Nat.le_refl _) _).alloc (by simp) _
 have hc := row_cell h1 17 (by omega);have hf := row_free h1 17;have hp := row_setCell h1 17 x;have H1 := hid h1
 have H2 : Hid ((W.setCell ⟨w.heap.size, 17, none⟩ (.int .i64 x)).heap[w.heap.size + 1]? = some (.cells (NA Zi) 39 (0, 0))) := by show _ = _; rw [hp.other _ (by omega)]; exact h2
 have HP := hid hp;clear h1 h2 hp
 go_enter Tryz.func92, Tryz.ntmps92
 go_upto_region 1 with fail
 rw [← hW];clear hW
 go_wp2_with (first | refine load_R rfl 39 (.tmp 3) rfl w.heap.size rfl 39 _ _ HP.out.here Tryz.underlying39 rfl (by rw [szI, NA_size, List.length_set, hz]) ?_ | (refine store_R rfl 39 (.tmp 6) _ rfl (w.heap.size + 1) _ rfl rfl 39 _ H2.out (by rw [szI, NA_size, List.length_set, hz]) (by rw [NA_size, NA_size, List.length_set, hz]; rfl) (NA_one _) ?_; intro w2 hw2))
 exact bodyPost_ret (v := .agg (NA (z.set 17 x))) (results_R1 Tryz.results92 _ _ (w.heap.size + 1) _ 39 _ Tryz.underlying39 rfl (by rw [szI, NA_size, List.length_set, hz]) rfl hw2.here) rfl ⟨rfl, hw2.below (HP.out.below hb (by omega)) (by omega)⟩

set_option maxHeartbeats 400000 in
theorem getF4 (z : List Int) (hz : z.length = 18) (w : World) (i : Nat) (hi : i < 12) :
  Calls Tryz.prog 87 #[.agg (NA z), .int .i64 (i : Int)] w fun e w' => e = .returned (.int .i64 (z.getD (4 + i) 0)) ∧ Below w.heap.size w w' := by
 have hb : Below w.heap.size w (w.alloc (.cells (NA z) 39)) := (Below.refl _ _).alloc (Nat.le_refl _) _;have hc := row_cell (heap_alloc_new w (.cells (NA z) 39)) (4 + i) (by omega)
 have hi' : (i : Int) < 12 := by omega
 go_enter Tryz.func87, Tryz.ntmps87
 go_wp2
 go_ret
 exact ⟨rfl, hb⟩
set_option maxRecDepth 100000 in
set_option maxHeartbeats 1000000 in
theorem putF4 (z : List Int) (hz : z.length = 18) (x : Int) (w : World) (i : Nat) (hi : i < 12) :
  Calls Tryz.prog 88 #[.agg (NA z), .int .i64 (i : Int), .int .i64 x] w fun e w' => e = .returned (.agg (NA (z.set (4 + i) x))) ∧ Below w.heap.size w w' := by
 have hzi := zero_inode;obtain ⟨W, hW⟩ : ∃ y, y = (w.alloc (.cells (NA z) 39)).alloc (.cells (NA Zi) 39) := ⟨_, rfl⟩
 have h1 : W.heap[w.heap.size]? = some (.cells (NA z) 39 (0, 0)) := by rw [hW]; exact heap_alloc2_old w _ _
 have h2 : W.heap[w.heap.size + 1]? = some (.cells (NA Zi) 39 (0, 0)) := by rw [hW]; exact heap_alloc2_new w _ _
 have hb : Below w.heap.size w W := by rw [hW]; exact ((Below.refl _ _).alloc (Nat.le_refl _) _).alloc (by simp) _
 have hc := row_cell h1 (4 + i) (by omega);have hf := row_free h1 (4 + i);have hp := row_setCell h1 (4 + i) x
 have hi' : (i : Int) < 12 := by omega
 have H1 := hid h1
 have H2 : Hid ((W.setCell ⟨w.heap.size, 4 + i, none⟩ (.int .i64 x)).heap[w.heap.size + 1]? = some (.cells (NA Zi) 39 (0, 0))) := by show _ = _; rw [hp.other _ (by omega)]; exact h2
 have HP := hid hp;clear h1 h2 hp
 go_enter Tryz.func88, Tryz.ntmps88
 go_upto_region 1 with fail
 rw [← hW];clear hW
 go_wp2_with (first | refine load_R rfl 39 (.tmp 3) rfl w.heap.size rfl 39 _ _ HP.out.here Tryz.underlying39 rfl (by rw [szI, NA_size, List.length_set, hz]) ?_ | (refine store_R rfl 39 (.tmp 6) _ rfl (w.heap.size + 1) _ rfl rfl 39 _ H2.out (by rw [szI, NA_size, List.length_set, hz]) (by rw [NA_size, NA_size, List.length_set, hz]; rfl) (NA_one _) ?_; intro w2 hw2))
 exact bodyPost_ret (v := .agg (NA (z.set (4 + i) x))) (results_R1 Tryz.results88 _ _ (w.heap.size + 1) _ 39 _ Tryz.underlying39 rfl (by rw [szI, NA_size, List.length_set, hz]) rfl hw2.here) rfl ⟨rfl, hw2.below (HP.out.below hb (by omega)) (by omega)⟩

theorem getF_any {j : Nat} {f : Fld} (h : flds[j]? = some f) (z : List Int) (hz : z.length = 18) (w : World) (i : Nat) (hi : i < f.ct) :
  Calls Tryz.prog f.gf #[.agg (NA z), .int .i64 (i : Int)] w fun e w' => e = .returned (.int .i64 (z.getD (base j + i) 0)) ∧ Below w.heap.size w w' := by
 have hj := fld_cases h
 match j, hj, h with
 | 0, _, h =>
  cases h
  obtain rfl : i = 0 := Nat.lt_one_iff.1 hi
  exact getF0 z hz w _
 | 1, _, h =>
  cases h
  obtain rfl : i = 0 := Nat.lt_one_iff.1 hi
  exact getF1 z hz w _
 | 2, _, h =>
  cases h
  obtain rfl : i = 0 := Nat.lt_one_iff.1 hi
  exact getF2 z hz w _
 | 3, _, h =>
  cases h
  obtain rfl : i = 0 := Nat.lt_one_iff.1 hi
  exact getF3 z hz w _
 | 4, _, h =>
  cases h
  exact getF4 z hz w i hi
 | 5, _, h =>
  cases h
  obtain rfl : i = 0 := Nat.lt_one_iff.1 hi
  exact getF5 z hz w _
 | 6, _, h =>
  cases h
  obtain rfl : i = 0 := Nat.lt_one_iff.1 hi
  exact getF6 z hz w _
theorem putF_any {j : Nat} {f : Fld} (h : flds[j]? = some f) (z : List Int) (hz : z.length = 18) (x : Int) (w : World) (i : Nat) (hi : i < f.ct) :
  Calls Tryz.prog f.pf #[.agg (NA z), .int .i64 (i : Int), .int .i64 x] w fun e w' => e = .returned (.agg (NA (z.set (base j + i) x))) ∧ Below w.heap.size w w' := by
 have hj := fld_cases h
 match j, hj, h with
 | 0, _, h =>
  cases h
  obtain rfl : i = 0 := Nat.lt_one_iff.1 hi
  exact putF0 z hz x w _
 | 1, _, h =>
  cases h
  obtain rfl : i = 0 := Nat.lt_one_iff.1 hi
  exact putF1 z hz x w _
 | 2, _, h =>
  cases h
  obtain rfl : i = 0 := Nat.lt_one_iff.1 hi
  exact putF2 z hz x w _
 | 3, _, h =>
  cases h
  obtain rfl : i = 0 := Nat.lt_one_iff.1 hi
  exact putF3 z hz x w _
 | 4, _, h =>
  cases h
  exact putF4 z hz x w i hi
 | 5, _, h =>
  cases h
  obtain rfl : i = 0 := Nat.lt_one_iff.1 hi
  exact putF5 z hz x w _
 | 6, _, h =>
  cases h
  obtain rfl : i = 0 := Nat.lt_one_iff.1 hi
  exact putF6 z hz x w _
theorem enters_gf {j : Nat} {f : Fld} (h : flds[j]? = some f) : ∀ args w, (callFunc f.gf args).run Tryz.prog w = .ok (.enter f.gf args) w := by
 have hj := fld_cases h
 match j, hj, h with
 | 0, _, h =>
  cases h
  exact enters_of Tryz.func79 (by kernel_rfl) rfl
 | 1, _, h =>
  cases h
  exact enters_of Tryz.func81 (by kernel_rfl) rfl
 | 2, _, h =>
  cases h
  exact enters_of Tryz.func83 (by kernel_rfl) rfl
 | 3, _, h =>
  cases h
  exact enters_of Tryz.func85 (by kernel_rfl) rfl
 | 4, _, h =>
  cases h
  exact enters_of Tryz.func87 (by kernel_rfl) rfl
 | 5, _, h =>
  cases h
  exact enters_of Tryz.func89 (by kernel_rfl) rfl
 | 6, _, h =>
  cases h
  exact enters_of Tryz.func91 (by kernel_rfl) rfl
theorem enters_pf {j : Nat} {f : Fld} (h : flds[j]? = some f) : ∀ args w, (callFunc f.pf args).run Tryz.prog w = .ok (.enter f.pf args) w := by
 have hj := fld_cases h
 match j, hj, h with
 | 0, _, h =>
  cases h
  exact enters_of Tryz.func80 (by kernel_rfl) rfl
 | 1, _, h =>
  cases h
  exact enters_of Tryz.func82 (by kernel_rfl) rfl
 | 2, _, h =>
  cases h
  exact enters_of Tryz.func84 (by kernel_rfl) rfl
 | 3, _, h =>
  cases h
  exact enters_of Tryz.func86 (by kernel_rfl) rfl
 | 4, _, h =>
  cases h
  exact enters_of Tryz.func88 (by kernel_rfl) rfl
 | 5, _, h =>
  cases h
  exact enters_of Tryz.func90 (by kernel_rfl) rfl
 | 6, _, h =>
  cases h
  exact enters_of Tryz.func92 (by kernel_rfl) rfl

end Go.Proofs.YtpmignilhoihnabGreat
