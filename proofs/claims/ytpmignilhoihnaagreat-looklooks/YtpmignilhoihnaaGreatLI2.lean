/-
 layout.InodeSector returns an inode's sector if it may be, else the error.
-/
import Derived.Test.YtpmignilhoihnaaGreatLR
import Derived.Deep.CutRange
import Derived.Deep.DeepCutAuto
import Derived.Shelf.Abstract
import Derived.Maps.AppendAt
namespace Go.Proofs.YtpmignilhoihnaaGreat
open Go.RowKit

def NA (z : List Int) : Array Value := (z.map (Value.int .i64)).toArray
theorem NA_size (z : List Int) : (NA z).size = z.length := by simp [NA]
theorem NA_get (z : List Int) (j : Nat) (h : j < z.length) : (NA z)[j]? = some (.int .i64 (z.getD j 0)) := by simp [NA, h]
theorem NA_one (z : List Int) : (NA z).all (·.oneCell') = true := by
 rw [Array.all_eq_true_iff_forall_mem]
 intro v hv
 simp only [NA, List.mem_toArray, List.mem_map] at hv
 obtain ⟨x, _, rfl⟩ := hv
 rfl
theorem NA_set (z : List Int) (j : Nat) (x : Int) : (NA z).setIfInBounds j (.int .i64 x) = NA (z.set j x) := by simp [NA, List.map_set]
theorem row_cell {w : World} {g : Nat} {z : List Int} {t : TypeId} (hg : w.heap[g]? = some (.cells (NA z) t (0, 0))) (j : Nat) (h : j < z.length) : w.cell? ⟨g, j, none⟩ = some (.int .i64 (z.getD j 0)) := by
 rw [cell_of_row _ _ _ (NA z) t (0, 0) hg]
 exact NA_get z j h
theorem row_free {w : World} {g : Nat} {c : Array Value} {t : TypeId} (hg : w.heap[g]? = some (.cells c t (0, 0))) (j : Nat) : w.frozen? ⟨g, j, none⟩ = false := frozen_of_row w g j c t hg
theorem row_setCell {w : World} {g : Nat} {z : List Int} {t : TypeId} (hg : w.heap[g]? = some (.cells (NA z) t (0, 0))) (j : Nat) (x : Int) : PutR w g (NA (z.set j x)) t (w.setCell ⟨g, j, none⟩ (.int .i64 x)) := by
 refine ⟨?_, ?_, ?_, rfl, rfl, rfl⟩
 ·rw [heap_setCell_same w g j (NA z) t _ hg, NA_set]
 ·intro k hk
  exact heap_setCell_other w ⟨g, j, none⟩ k _ hk
 ·simp [World.setCell]

structure Fld where
 pl : Int
 wd : Int
 ct : Nat
 ms : Int
 gf : Nat
 pf : Nat
def flds : List Fld := [⟨0, 1, 1, 2, 101, 102⟩, ⟨1, 1, 1, 100, 103, 104⟩, ⟨4, 4, 1, 136704, 105, 106⟩, ⟨8, 8, 1, 1099511627776, 107, 108⟩,
 ⟨16, 4, 12, 4294967295, 109, 110⟩, ⟨64, 4, 1, 4294967295, 111, 112⟩, ⟨68, 4, 1, 4294967295, 113, 114⟩]
def base : Nat → Nat
 | 0 => 0
 | 1 => 1
 | 2 => 2
 | 3 => 3
 | 4 => 4
 | 5 => 16
 | 6 => 17
 | _ => 18
def cellF (f : Fld) : List Value := [.int .i64 f.pl, .int .i64 f.wd, .int .i64 f.ct, .int .i64 f.ms, .func (Fn.func f.gf) #[] #[], .func (Fn.func f.pf) #[] #[]]
def cellsF : List Value := flds.flatMap cellF
def FldsAt (w : World) (b : Nat) : Prop := w.heap[b]? = some (.cells cellsF.toArray 131 (0, 0))

theorem fld_cases {j : Nat} {f : Fld} (h : flds[j]? = some f) : j < 7 := by
 rcases Nat.lt_or_ge j 7 with k | k
 ·exact k
 ·rw [List.getElem?_eq_none (by simpa [flds] using k)] at h; cases h
theorem cellsF_get {j : Nat} {f : Fld} (h : flds[j]? = some f) : (cellsF.drop (j * 6)).take 6 = cellF f := by
 have hj := fld_cases h
 match j, hj, h with
 | 0, _, h | 1, _, h | 2, _, h | 3, _, h | 4, _, h | 5, _, h | 6, _, h =>
  cases h
  rfl
theorem FldsAt.range {w : World} {b j : Nat} {f : Fld} (hb : FldsAt w b) (h : flds[j]? = some f) : w.rangeAt b (j * 6) (cellF f) := by
 intro i v hv
 rw [cell_of_row _ _ _ _ 131 (0, 0) hb];rw [← cellsF_get h, List.getElem?_take] at hv
 split at hv
 ·rw [List.getElem?_drop] at hv
  simpa using hv
 ·cases hv
theorem szF : (Tryz.prog.info? 131).map (·.size) = some 6 := by kernel_rfl
theorem szI : (Tryz.prog.info? 51).map (·.size) = some 18 := by kernel_rfl
def Zi : List Int := List.replicate 18 0
theorem Zi_len : Zi.length = 18 := by simp [Zi]
theorem zero_inode (w : World) : (zeroValue 51).run Tryz.prog w = .ok (.agg (NA Zi)) w := by kernel_rfl
theorem build_inode (w : World) : (Instr.build 51 #[]).run Tryz.prog w = .ok (.agg (NA Zi)) w := by kernel_rfl

set_option maxRecDepth 100000 in
set_option maxHeartbeats 1000000 in
theorem inodeFields_any (w : World) :
  Calls Tryz.prog 75 #[] w fun e w' => e = .returned (.slice (some ⟨w.heap.size, 0, none⟩) 7 7) ∧ FldsAt w' w.heap.size ∧ Below w.heap.size w w' := by
 go_enter Tryz.func75, Tryz.ntmps75
 go_wp2
 go_ret
 exact ⟨rfl, heap_alloc_new _ _, (Below.refl _ _).alloc (Nat.le_refl _) _⟩

set_option maxHeartbeats 1000000 in
theorem place_any (f : Fld) (i : Nat) (w : World) (h0 : 0 ≤ f.pl) (h1 : f.pl ≤ 1000) (h2 : 0 ≤ (i : Int) * f.wd) (h3 : (i : Int) * f.wd ≤ 1000) :
  Calls Tryz.prog 76 #[.agg (cellF f).toArray, .int .i64 (i : Int)] w fun e w' => e = .returned (.int .i64 (f.pl + (i : Int) * f.wd)) ∧ Below w.heap.size w w' := by
 have hb : Below w.heap.size w (w.alloc (.cells (cellF f).toArray 131)) := (Below.refl _ _).alloc (Nat.le_refl _) _;unfold cellF at *
 go_enter Tryz.func76, Tryz.ntmps76
 go_wp2
 go_ret
 exact ⟨rfl, hb⟩

set_option maxHeartbeats 400000 in
theorem getF0 (z : List Int) (hz : z.length = 18) (w : World) (v : Value) :
  Calls Tryz.prog 101 #[.agg (NA z), v] w fun e w' => e = .returned (.int .i64 (z.getD 0 0)) ∧ Below w.heap.size w w' := by
 have hb : Below w.heap.size w (w.alloc (.cells (NA z) 51)) := (Below.refl _ _).alloc (Nat.le_refl _) _;have hc := row_cell (heap_alloc_new w (.cells (NA z) 51)) 0 (by omega)
 generalize z.getD 0 0 = X at *
 go_enter Tryz.func101, Tryz.ntmps101
 go_wp2
 go_ret
 exact ⟨rfl, hb⟩
set_option maxRecDepth 100000 in
set_option maxHeartbeats 1000000 in
theorem putF0 (z : List Int) (hz : z.length = 18) (x : Int) (w : World) (v : Value) :
  Calls Tryz.prog 102 #[.agg (NA z), v, .int .i64 x] w fun e w' => e = .returned (.agg (NA (z.set 0 x))) ∧ Below w.heap.size w w' := by
 have hzi := zero_inode;obtain ⟨W, hW⟩ : ∃ y, y = (w.alloc (.cells (NA z) 51)).alloc (.cells (NA Zi) 51) := ⟨_, rfl⟩
 have h1 : W.heap[w.heap.size]? = some (.cells (NA z) 51 (0, 0)) := by rw [hW]; exact heap_alloc2_old w _ _
 have h2 : W.heap[w.heap.size + 1]? = some (.cells (NA Zi) 51 (0, 0)) := by rw [hW]; exact heap_alloc2_new w _ _
 have hb : Below w.heap.size w W := by rw [hW]; exact ((Below.refl _ _).alloc (Nat.le_refl _) _).alloc (by simp) _
 have hc := row_cell h1 0 (by omega);have hf := row_free h1 0;have hp := row_setCell h1 0 x;have H1 := hid h1
 have H2 : Hid ((W.setCell ⟨w.heap.size, 0, none⟩ (.int .i64 x)).heap[w.heap.size + 1]? = some (.cells (NA Zi) 51 (0, 0))) := by show _ = _; rw [hp.other _ (by omega)]; exact h2
 have HP := hid hp;clear h1 h2 hp
 go_enter Tryz.func102, Tryz.ntmps102
 go_upto_region 1 with fail
 rw [← hW];clear hW
 go_wp2_with (first | refine load_R rfl 51 (.tmp 3) rfl w.heap.size rfl 51 _ _ HP.out.here Tryz.underlying51 rfl (by rw [szI, NA_size, List.length_set, hz]) ?_ | (refine store_R rfl 51 (.tmp 6) _ rfl (w.heap.size + 1) _ rfl rfl 51 _ H2.out (by rw [szI, NA_size, List.length_set, hz]) (by rw [NA_size, NA_size, List.length_set, hz]; rfl) (NA_one _) ?_; intro w2 hw2))
 exact bodyPost_ret (v := .agg (NA (z.set 0 x))) (results_R1 Tryz.results102 _ _ (w.heap.size + 1) _ 51 _ Tryz.underlying51 rfl (by rw [szI, NA_size, List.length_set, hz]) rfl hw2.here) rfl ⟨rfl, hw2.below (HP.out.below hb (by omega)) (by omega)⟩

set_option maxHeartbeats 400000 in
theorem getF1 (z : List Int) (hz : z.length = 18) (w : World) (v : Value) :
  Calls Tryz.prog 103 #[.agg (NA z), v] w fun e w' => e = .returned (.int .i64 (z.getD 1 0)) ∧ Below w.heap.size w w' := by
 have hb : Below w.heap.size w (w.alloc (.cells (NA z) 51)) := (Below.refl _ _).alloc (Nat.le_refl _) _;have hc := row_cell (heap_alloc_new w (.cells (NA z) 51)) 1 (by omega)
 generalize z.getD 1 0 = X at *
 go_enter Tryz.func103, Tryz.ntmps103
 go_wp2
 go_ret
 exact ⟨rfl, hb⟩
set_option maxRecDepth 100000 in
set_option maxHeartbeats 1000000 in
theorem putF1 (z : List Int) (hz : z.length = 18) (x : Int) (w : World) (v : Value) :
  Calls Tryz.prog 104 #[.agg (NA z), v, .int .i64 x] w fun e w' => e = .returned (.agg (NA (z.set 1 x))) ∧ Below w.heap.size w w' := by
 have hzi := zero_inode;obtain ⟨W, hW⟩ : ∃ y, y = (w.alloc (.cells (NA z) 51)).alloc (.cells (NA Zi) 51) := ⟨_, rfl⟩
 have h1 : W.heap[w.heap.size]? = some (.cells (NA z) 51 (0, 0)) := by rw [hW]; exact heap_alloc2_old w _ _
 have h2 : W.heap[w.heap.size + 1]? = some (.cells (NA Zi) 51 (0, 0)) := by rw [hW]; exact heap_alloc2_new w _ _
 have hb : Below w.heap.size w W := by rw [hW]; exact ((Below.refl _ _).alloc (Nat.le_refl _) _).alloc (by simp) _
 have hc := row_cell h1 1 (by omega);have hf := row_free h1 1;have hp := row_setCell h1 1 x;have H1 := hid h1
 have H2 : Hid ((W.setCell ⟨w.heap.size, 1, none⟩ (.int .i64 x)).heap[w.heap.size + 1]? = some (.cells (NA Zi) 51 (0, 0))) := by show _ = _; rw [hp.other _ (by omega)]; exact h2
 have HP := hid hp;clear h1 h2 hp
 go_enter Tryz.func104, Tryz.ntmps104
 go_upto_region 1 with fail
 rw [← hW];clear hW
 go_wp2_with (first | refine load_R rfl 51 (.tmp 3) rfl w.heap.size rfl 51 _ _ HP.out.here Tryz.underlying51 rfl (by rw [szI, NA_size, List.length_set, hz]) ?_ | (refine store_R rfl 51 (.tmp 6) _ rfl (w.heap.size + 1) _ rfl rfl 51 _ H2.out (by rw [szI, NA_size, List.length_set, hz]) (by rw [NA_size, NA_size, List.length_set, hz]; rfl) (NA_one _) ?_; intro w2 hw2))
 exact bodyPost_ret (v := .agg (NA (z.set 1 x))) (results_R1 Tryz.results104 _ _ (w.heap.size + 1) _ 51 _ Tryz.underlying51 rfl (by rw [szI, NA_size, List.length_set, hz]) rfl hw2.here) rfl ⟨rfl, hw2.below (HP.out.below hb (by omega)) (by omega)⟩

set_option maxHeartbeats 400000 in
theorem getF2 (z : List Int) (hz : z.length = 18) (w : World) (v : Value) :
  Calls Tryz.prog 105 #[.agg (NA z), v] w fun e w' => e = .returned (.int .i64 (z.getD 2 0)) ∧ Below w.heap.size w w' := by
 have hb : Below w.heap.size w (w.alloc (.cells (NA z) 51)) := (Below.refl _ _).alloc (Nat.le_refl _) _;have hc := row_cell (heap_alloc_new w (.cells (NA z) 51)) 2 (by omega)
 generalize z.getD 2 0 = X at *
 go_enter Tryz.func105, Tryz.ntmps105
 go_wp2
 go_ret
 exact ⟨rfl, hb⟩
set_option maxRecDepth 100000 in
set_option maxHeartbeats 1000000 in
theorem putF2 (z : List Int) (hz : z.length = 18) (x : Int) (w : World) (v : Value) :
  Calls Tryz.prog 106 #[.agg (NA z), v, .int .i64 x] w fun e w' => e = .returned (.agg (NA (z.set 2 x))) ∧ Below w.heap.size w w' := by
 have hzi := zero_inode;obtain ⟨W, hW⟩ : ∃ y, y = (w.alloc (.cells (NA z) 51)).alloc (.cells (NA Zi) 51) := ⟨_, rfl⟩
 have h1 : W.heap[w.heap.size]? = some (.cells (NA z) 51 (0, 0)) := by rw [hW]; exact heap_alloc2_old w _ _
 have h2 : W.heap[w.heap.size + 1]? = some (.cells (NA Zi) 51 (0, 0)) := by rw [hW]; exact heap_alloc2_new w _ _
 have hb : Below w.heap.size w W := by rw [hW]; exact ((Below.refl _ _).alloc (Nat.le_refl _) _).alloc (by simp) _
 have hc := row_cell h1 2 (by omega);have hf := row_free h1 2;have hp := row_setCell h1 2 x;have H1 := hid h1
 have H2 : Hid ((W.setCell ⟨w.heap.size, 2, none⟩ (.int .i64 x)).heap[w.heap.size + 1]? = some (.cells (NA Zi) 51 (0, 0))) := by show _ = _; rw [hp.other _ (by omega)]; exact h2
 have HP := hid hp;clear h1 h2 hp
 go_enter Tryz.func106, Tryz.ntmps106
 go_upto_region 1 with fail
 rw [← hW];clear hW
 go_wp2_with (first | refine load_R rfl 51 (.tmp 3) rfl w.heap.size rfl 51 _ _ HP.out.here Tryz.underlying51 rfl (by rw [szI, NA_size, List.length_set, hz]) ?_ | (refine store_R rfl 51 (.tmp 6) _ rfl (w.heap.size + 1) _ rfl rfl 51 _ H2.out (by rw [szI, NA_size, List.length_set, hz]) (by rw [NA_size, NA_size, List.length_set, hz]; rfl) (NA_one _) ?_; intro w2 hw2))
 exact bodyPost_ret (v := .agg (NA (z.set 2 x))) (results_R1 Tryz.results106 _ _ (w.heap.size + 1) _ 51 _ Tryz.underlying51 rfl (by rw [szI, NA_size, List.length_set, hz]) rfl hw2.here) rfl ⟨rfl, hw2.below (HP.out.below hb (by omega)) (by omega)⟩

set_option maxHeartbeats 400000 in
theorem getF3 (z : List Int) (hz : z.length = 18) (w : World) (v : Value) :
  Calls Tryz.prog 107 #[.agg (NA z), v] w fun e w' => e = .returned (.int .i64 (z.getD 3 0)) ∧ Below w.heap.size w w' := by
 have hb : Below w.heap.size w (w.alloc (.cells (NA z) 51)) := (Below.refl _ _).alloc (Nat.le_refl _) _;have hc := row_cell (heap_alloc_new w (.cells (NA z) 51)) 3 (by omega)
 generalize z.getD 3 0 = X at *
 go_enter Tryz.func107, Tryz.ntmps107
 go_wp2
 go_ret
 exact ⟨rfl, hb⟩
set_option maxRecDepth 100000 in
set_option maxHeartbeats 1000000 in
theorem putF3 (z : List Int) (hz : z.length = 18) (x : Int) (w : World) (v : Value) :
  Calls Tryz.prog 108 #[.agg (NA z), v, .int .i64 x] w fun e w' => e = .returned (.agg (NA (z.set 3 x))) ∧ Below w.heap.size w w' := by
 have hzi := zero_inode;obtain ⟨W, hW⟩ : ∃ y, y = (w.alloc (.cells (NA z) 51)).alloc (.cells (NA Zi) 51) := ⟨_, rfl⟩
 have h1 : W.heap[w.heap.size]? = some (.cells (NA z) 51 (0, 0)) := by rw [hW]; exact heap_alloc2_old w _ _
 have h2 : W.heap[w.heap.size + 1]? = some (.cells (NA Zi) 51 (0, 0)) := by rw [hW]; exact heap_alloc2_new w _ _
 have hb : Below w.heap.size w W := by rw [hW]; exact ((Below.refl _ _).alloc (Nat.le_refl _) _).alloc (by simp) _
 have hc := row_cell h1 3 (by omega);have hf := row_free h1 3;have hp := row_setCell h1 3 x;have H1 := hid h1
 have H2 : Hid ((W.setCell ⟨w.heap.size, 3, none⟩ (.int .i64 x)).heap[w.heap.size + 1]? = some (.cells (NA Zi) 51 (0, 0))) := by show _ = _; rw [hp.other _ (by omega)]; exact h2
 have HP := hid hp;clear h1 h2 hp
 go_enter Tryz.func108, Tryz.ntmps108
 go_upto_region 1 with fail
 rw [← hW];clear hW
 go_wp2_with (first | refine load_R rfl 51 (.tmp 3) rfl w.heap.size rfl 51 _ _ HP.out.here Tryz.underlying51 rfl (by rw [szI, NA_size, List.length_set, hz]) ?_ | (refine store_R rfl 51 (.tmp 6) _ rfl (w.heap.size + 1) _ rfl rfl 51 _ H2.out (by rw [szI, NA_size, List.length_set, hz]) (by rw [NA_size, NA_size, List.length_set, hz]; rfl) (NA_one _) ?_; intro w2 hw2))
 exact bodyPost_ret (v := .agg (NA (z.set 3 x))) (results_R1 Tryz.results108 _ _ (w.heap.size + 1) _ 51 _ Tryz.underlying51 rfl (by rw [szI, NA_size, List.length_set, hz]) rfl hw2.here) rfl ⟨rfl, hw2.below (HP.out.below hb (by omega)) (by omega)⟩

set_option maxHeartbeats 400000 in
theorem getF5 (z : List Int) (hz : z.length = 18) (w : World) (v : Value) :
  Calls Tryz.prog 111 #[.agg (NA z), v] w fun e w' => e = .returned (.int .i64 (z.getD 16 0)) ∧ Below w.heap.size w w' := by
 have hb : Below w.heap.size w (w.alloc (.cells (NA z) 51)) := (Below.refl _ _).alloc (Nat.le_refl _) _;have hc := row_cell (heap_alloc_new w (.cells (NA z) 51)) 16 (by omega)
 generalize z.getD 16 0 = X at *
 go_enter Tryz.func111, Tryz.ntmps111
 go_wp2
 go_ret
 exact ⟨rfl, hb⟩
set_option maxRecDepth 100000 in
set_option maxHeartbeats 1000000 in
theorem putF5 (z : List Int) (hz : z.length = 18) (x : Int) (w : World) (v : Value) :
  Calls Tryz.prog 112 #[.agg (NA z), v, .int .i64 x] w fun e w' => e = .returned (.agg (NA (z.set 16 x))) ∧ Below w.heap.size w w' := by
 have hzi := zero_inode;obtain ⟨W, hW⟩ : ∃ y, y = (w.alloc (.cells (NA z) 51)).alloc (.cells (NA Zi) 51) := ⟨_, rfl⟩
 have h1 : W.heap[w.heap.size]? = some (.cells (NA z) 51 (0, 0)) := by rw [hW]; exact heap_alloc2_old w _ _
 have h2 : W.heap[w.heap.size + 1]? = some (.cells (NA Zi) 51 (0, 0)) := by rw [hW]; exact heap_alloc2_new w _ _
 have hb : Below w.heap.size w W := by rw [hW]; exact ((Below.refl _ _).alloc (Nat.le_refl _) _).alloc (by simp) _
 have hc := row_cell h1 16 (by omega);have hf := row_free h1 16;have hp := row_setCell h1 16 x;have H1 := hid h1
 have H2 : Hid ((W.setCell ⟨w.heap.size, 16, none⟩ (.int .i64 x)).heap[w.heap.size + 1]? = some (.cells (NA Zi) 51 (0, 0))) := by show _ = _; rw [hp.other _ (by omega)]; exact h2
 have HP := hid hp;clear h1 h2 hp
 go_enter Tryz.func112, Tryz.ntmps112
 go_upto_region 1 with fail
 rw [← hW];clear hW
 go_wp2_with (first | refine load_R rfl 51 (.tmp 3) rfl w.heap.size rfl 51 _ _ HP.out.here Tryz.underlying51 rfl (by rw [szI, NA_size, List.length_set, hz]) ?_ | (refine store_R rfl 51 (.tmp 6) _ rfl (w.heap.size + 1) _ rfl rfl 51 _ H2.out (by rw [szI, NA_size, List.length_set, hz]) (by rw [NA_size, NA_size, List.length_set, hz]; rfl) (NA_one _) ?_; intro w2 hw2))
 exact bodyPost_ret (v := .agg (NA (z.set 16 x))) (results_R1 Tryz.results112 _ _ (w.heap.size + 1) _ 51 _ Tryz.underlying51 rfl (by rw [szI, NA_size, List.length_set, hz]) rfl hw2.here) rfl ⟨rfl, hw2.below (HP.out.below hb (by omega)) (by omega)⟩

set_option maxHeartbeats 400000 in
theorem getF6 (z : List Int) (hz : z.length = 18) (w : World) (v : Value) :
  Calls Tryz.prog 113 #[.agg (NA z), v] w fun e w' => e = .returned (.int .i64 (z.getD 17 0)) ∧ Below w.heap.size w w' := by
 have hb : Below w.heap.size w (w.alloc (.cells (NA z) 51)) := (Below.refl _ _).alloc (Nat.le_refl _) _;have hc := row_cell (heap_alloc_new w (.cells (NA z) 51)) 17 (by omega)
 generalize z.getD 17 0 = X at *
 go_enter Tryz.func113, Tryz.ntmps113
 go_wp2
 go_ret
 exact ⟨rfl, hb⟩
set_option maxRecDepth 100000 in
set_option maxHeartbeats 1000000 in
theorem putF6 (z : List Int) (hz : z.length = 18) (x : Int) (w : World) (v : Value) :
  Calls Tryz.prog 114 #[.agg (NA z), v, .int .i64 x] w fun e w' => e = .returned (.agg (NA (z.set 17 x))) ∧ Below w.heap.size w w' := by
 have hzi := zero_inode;obtain ⟨W, hW⟩ : ∃ y, y = (w.alloc (.cells (NA z) 51)).alloc (.cells (NA Zi) 51) := ⟨_, rfl⟩
 have h1 : W.heap[w.heap.size]? = some (.cells (NA z) 51 (0, 0)) := by rw [hW]; exact heap_alloc2_old w _ _
 have h2 : W.heap[w.heap.size + 1]? = some (.cells (NA Zi) 51 (0, 0)) := by rw [hW]; exact heap_alloc2_new w _ _
 have hb : Below w.heap.size w W := by rw [hW]; exact ((Below.refl _ _).alloc (Nat.le_refl _) _).alloc (by simp) _
 have hc := row_cell h1 17 (by omega);have hf := row_free h1 17;have hp := row_setCell h1 17 x;have H1 := hid h1
 have H2 : Hid ((W.setCell ⟨w.heap.size, 17, none⟩ (.int .i64 x)).heap[w.heap.size + 1]? = some (.cells (NA Zi) 51 (0, 0))) := by show _ = _; rw [hp.other _ (by omega)]; exact h2
 have HP := hid hp;clear h1 h2 hp
 go_enter Tryz.func114, Tryz.ntmps114
 go_upto_region 1 with fail
 rw [← hW];clear hW
 go_wp2_with (first | refine load_R rfl 51 (.tmp 3) rfl w.heap.size rfl 51 _ _ HP.out.here Tryz.underlying51 rfl (by rw [szI, NA_size, List.length_set, hz]) ?_ | (refine store_R rfl 51 (.tmp 6) _ rfl (w.heap.size + 1) _ rfl rfl 51 _ H2.out (by rw [szI, NA_size, List.length_set, hz]) (by rw [NA_size, NA_size, List.length_set, hz]; rfl) (NA_one _) ?_; intro w2 hw2))
 exact bodyPost_ret (v := .agg (NA (z.set 17 x))) (results_R1 Tryz.results114 _ _ (w.heap.size + 1) _ 51 _ Tryz.underlying51 rfl (by rw [szI, NA_size, List.length_set, hz]) rfl hw2.here) rfl ⟨rfl, hw2.below (HP.out.below hb (by omega)) (by omega)⟩

set_option maxHeartbeats 400000 in
theorem getF4 (z : List Int) (hz : z.length = 18) (w : World) (i : Nat) (hi : i < 12) :
  Calls Tryz.prog 109 #[.agg (NA z), .int .i64 (i : Int)] w fun e w' => e = .returned (.int .i64 (z.getD (4 + i) 0)) ∧ Below w.heap.size w w' := by
 have hb : Below w.heap.size w (w.alloc (.cells (NA z) 51)) := (Below.refl _ _).alloc (Nat.le_refl _) _;have hc := row_cell (heap_alloc_new w (.cells (NA z) 51)) (4 + i) (by omega)
 have hi' : (i : Int) < 12 := by omega
 go_enter Tryz.func109, Tryz.ntmps109
 go_wp2
 go_ret
 exact ⟨rfl, hb⟩
set_option maxRecDepth 100000 in
set_option maxHeartbeats 1000000 in
theorem putF4 (z : List Int) (hz : z.length = 18) (x : Int) (w : World) (i : Nat) (hi : i < 12) :
  Calls Tryz.prog 110 #[.agg (NA z), .int .i64 (i : Int), .int .i64 x] w fun e w' => e = .returned (.agg (NA (z.set (4 + i) x))) ∧ Below w.heap.size w w' := by
 have hzi := zero_inode;obtain ⟨W, hW⟩ : ∃ y, y = (w.alloc (.cells (NA z) 51)).alloc (.cells (NA Zi) 51) := ⟨_, rfl⟩
 have h1 : W.heap[w.heap.size]? = some (.cells (NA z) 51 (0, 0)) := by rw [hW]; exact heap_alloc2_old w _ _
 have h2 : W.heap[w.heap.size + 1]? = some (.cells (NA Zi) 51 (0, 0)) := by rw [hW]; exact heap_alloc2_new w _ _
 have hb : Below w.heap.size w W := by rw [hW]; exact ((Below.refl _ _).alloc (Nat.le_refl _) _).alloc (by simp) _
 have hc := row_cell h1 (4 + i) (by omega);have hf := row_free h1 (4 + i);have hp := row_setCell h1 (4 + i) x
 have hi' : (i : Int) < 12 := by omega
 have H1 := hid h1
 have H2 : Hid ((W.setCell ⟨w.heap.size, 4 + i, none⟩ (.int .i64 x)).heap[w.heap.size + 1]? = some (.cells (NA Zi) 51 (0, 0))) := by show _ = _; rw [hp.other _ (by omega)]; exact h2
 have HP := hid hp;clear h1 h2 hp
 go_enter Tryz.func110, Tryz.ntmps110
 go_upto_region 1 with fail
 rw [← hW];clear hW
 go_wp2_with (first | refine load_R rfl 51 (.tmp 3) rfl w.heap.size rfl 51 _ _ HP.out.here Tryz.underlying51 rfl (by rw [szI, NA_size, List.length_set, hz]) ?_ | (refine store_R rfl 51 (.tmp 6) _ rfl (w.heap.size + 1) _ rfl rfl 51 _ H2.out (by rw [szI, NA_size, List.length_set, hz]) (by rw [NA_size, NA_size, List.length_set, hz]; rfl) (NA_one _) ?_; intro w2 hw2))
 exact bodyPost_ret (v := .agg (NA (z.set (4 + i) x))) (results_R1 Tryz.results110 _ _ (w.heap.size + 1) _ 51 _ Tryz.underlying51 rfl (by rw [szI, NA_size, List.length_set, hz]) rfl hw2.here) rfl ⟨rfl, hw2.below (HP.out.below hb (by omega)) (by omega)⟩

theorem getF_any {j : Nat} {f : Fld} (h : flds[j]? = some f) (z : List Int) (hz : z.length = 18) (w : World) (i : Nat) (hi : i < f.ct) :
  Calls Tryz.prog f.gf #[.agg (NA z), .int .i64 (i : Int)] w fun e w' => e = .returned (.int .i64 (z.getD (base j + i) 0)) ∧ Below w.heap.size w w' := by
 have hj := fld_cases h
 match j, hj, h with
 | 0, _, h =>
  cases h
  obtain rfl : i = 0 := Nat.lt_one_iff.1 hi
  exact getF0 z hz w _
 | 1, _, h =>
  cases h
  obtain rfl : i = 0 := Nat.lt_one_iff.1 hi
  exact getF1 z hz w _
 | 2, _, h =>
  cases h
  obtain rfl : i = 0 := Nat.lt_one_iff.1 hi
  exact getF2 z hz w _
 | 3, _, h =>
  cases h
  obtain rfl : i = 0 := Nat.lt_one_iff.1 hi
  exact getF3 z hz w _
 | 4, _, h =>
  cases h
  exact getF4 z hz w i hi
 | 5, _, h =>
  cases h
  obtain rfl : i = 0 := Nat.lt_one_iff.1 hi
  exact getF5 z hz w _
 | 6, _, h =>
  cases h
  obtain rfl : i = 0 := Nat.lt_one_iff.1 hi
  exact getF6 z hz w _
theorem putF_any {j : Nat} {f : Fld} (h : flds[j]? = some f) (z : List Int) (hz : z.length = 18) (x : Int) (w : World) (i : Nat) (hi : i < f.ct) :
  Calls Tryz.prog f.pf #[.agg (NA z), .int .i64 (i : Int), .int .i64 x] w fun e w' => e = .returned (.agg (NA (z.set (base j + i) x))) ∧ Below w.heap.size w w' := by
 have hj := fld_cases h
 match j, hj, h with
 | 0, _, h =>
  cases h
  obtain rfl : i = 0 := Nat.lt_one_iff.1 hi
  exact putF0 z hz x w _
 | 1, _, h =>
  cases h
  obtain rfl : i = 0 := Nat.lt_one_iff.1 hi
  exact putF1 z hz x w _
 | 2, _, h =>
  cases h
  obtain rfl : i = 0 := Nat.lt_one_iff.1 hi
  exact putF2 z hz x w _
 | 3, _, h =>
  cases h
  obtain rfl : i = 0 := Nat.lt_one_iff.1 hi
  exact putF3 z hz x w _
 | 4, _, h =>
  cases h
  exact putF4 z hz x w i hi
 | 5, _, h =>
  cases h
  obtain rfl : i = 0 := Nat.lt_one_iff.1 hi
  exact putF5 z hz x w _
 | 6, _, h =>
  cases h
  obtain rfl : i = 0 := Nat.lt_one_iff.1 hi
  exact putF6 z hz x w _
theorem enters_gf {j : Nat} {f : Fld} (h : flds[j]? = some f) : ∀ args w, (callFunc f.gf args).run Tryz.prog w = .ok (.enter f.gf args) w := by
 have hj := fld_cases h
 match j, hj, h with
 | 0, _, h =>
  cases h
  exact enters_of Tryz.func101 (by kernel_rfl) rfl
 | 1, _, h =>
  cases h
  exact enters_of Tryz.func103 (by kernel_rfl) rfl
 | 2, _, h =>
  cases h
  exact enters_of Tryz.func105 (by kernel_rfl) rfl
 | 3, _, h =>
  cases h
  exact enters_of Tryz.func107 (by kernel_rfl) rfl
 | 4, _, h =>
  cases h
  exact enters_of Tryz.func109 (by kernel_rfl) rfl
 | 5, _, h =>
  cases h
  exact enters_of Tryz.func111 (by kernel_rfl) rfl
 | 6, _, h =>
  cases h
  exact enters_of Tryz.func113 (by kernel_rfl) rfl
theorem enters_pf {j : Nat} {f : Fld} (h : flds[j]? = some f) : ∀ args w, (callFunc f.pf args).run Tryz.prog w = .ok (.enter f.pf args) w := by
 have hj := fld_cases h
 match j, hj, h with
 | 0, _, h =>
  cases h
  exact enters_of Tryz.func102 (by kernel_rfl) rfl
 | 1, _, h =>
  cases h
  exact enters_of Tryz.func104 (by kernel_rfl) rfl
 | 2, _, h =>
  cases h
  exact enters_of Tryz.func106 (by kernel_rfl) rfl
 | 3, _, h =>
  cases h
  exact enters_of Tryz.func108 (by kernel_rfl) rfl
 | 4, _, h =>
  cases h
  exact enters_of Tryz.func110 (by kernel_rfl) rfl
 | 5, _, h =>
  cases h
  exact enters_of Tryz.func112 (by kernel_rfl) rfl
 | 6, _, h =>
  cases h
  exact enters_of Tryz.func114 (by kernel_rfl) rfl

end Go.Proofs.YtpmignilhoihnaaGreat

namespace Go.Proofs.YtpmignilhoihnaaGreat
open Go.RowKit

theorem list18 {z : List Int} (h : z.length = 18) : ∃ a0 a1 a2 a3 a4 a5 a6 a7 a8 a9 a10 a11 a12 a13 a14 a15 a16 a17, z = [a0, a1, a2, a3, a4, a5, a6, a7, a8, a9, a10, a11, a12, a13, a14, a15, a16, a17] := by
 match z, h with
 | [a0, a1, a2, a3, a4, a5, a6, a7, a8, a9, a10, a11, a12, a13, a14, a15, a16, a17], _ => exact ⟨a0, a1, a2, a3, a4, a5, a6, a7, a8, a9, a10, a11, a12, a13, a14, a15, a16, a17, rfl⟩

theorem eqFields_run (d : Nat) (xs ys : Array Value) (E : Field → Bool) : ∀ (fs : List Field) (w : World), (∀ f ∈ fs, f.name ≠ "_" ∧ ∀ w, ∃ a b, (part f.type xs f.offset).run Tryz.prog w = .ok a w ∧ (part f.type ys f.offset).run Tryz.prog w = .ok b w ∧ (Op.equalIn d f.type a b).run Tryz.prog w = .ok (E f) w) →
  (Op.eqFields d xs ys fs).run Tryz.prog w = .ok (fs.all E) w
 | [], w, _ => by simp [Op.eqFields]
 | f :: fs, w, h => by
  obtain ⟨hn, hf⟩ := h f (by simp);obtain ⟨a, b, h1, h2, h3⟩ := hf w
  simp only [Op.eqFields, hn, ne_eq, not_false_eq_true, if_true, Sem.run_bind, h1, h2, h3, Result.andThen_ok]
  cases hE : E f
  ·simp [hE]
  ·simp only [Bool.not_true, Bool.false_eq_true, if_false, List.all_cons, hE, Bool.true_and]
   exact eqFields_run d xs ys E fs w fun g hg => h g (by simp [hg])
theorem part_int (z : List Int) (j : Nat) (h : j < z.length) (w : World) : (part 3 (NA z) j).run Tryz.prog w = .ok (.int .i64 (z.getD j 0)) w := by
 have hag : (isAgg 3).run Tryz.prog w = .ok false w := by kernel_rfl
 simp only [part, Sem.run_bind, hag, Result.andThen_ok, Bool.false_eq_true, if_false, NA_get z j h, Sem.run_pure, Sem.run_ite]
theorem eqItems_int (a b : List Int) (d : Nat) : ∀ (is : List Nat) (w : World), (∀ i ∈ is, i < a.length ∧ i < b.length) →
  (Op.eqItems (d + 1) 3 1 (NA a) (NA b) is).run Tryz.prog w = .ok (is.all fun i => a.getD i 0 == b.getD i 0) w
 | [], w, _ => by simp [Op.eqItems]
 | i :: is, w, h => by
  have hi := h i (by simp)
  simp only [Op.eqItems, Sem.run_bind, Nat.mul_one, part_int a i hi.1, part_int b i hi.2, Result.andThen_ok, run_equalIn_int _ d 3 .i64 .i64 _ _ Tryz.underlying3]
  cases hq : (a.getD i 0 == b.getD i 0)
  ·simp only [Bool.not_false, if_true, Sem.run_pure, List.all_cons, hq, Bool.false_and]
  ·simp only [Bool.not_true, Bool.false_eq_true, if_false, List.all_cons, hq, Bool.true_and]
   exact eqItems_int a b d is w fun j hj => h j (by simp [hj])
theorem cells3 : Tryz.prog.cellsOf 3 = 1 := by kernel_rfl
theorem info3 : ∃ i, Tryz.prog.info? 3 = some i := by
 cases h : Tryz.prog.info? 3 with
 | some i => exact ⟨i, rfl⟩
 | none =>
  have : (Tryz.prog.info? 3).isSome = true := by kernel_rfl
  rw [h] at this
  cases this
theorem eq_arr (t : TypeId) (n : Nat) (ht : Tryz.prog.underlying t = some (.array n 3)) (d : Nat) (a b : List Int) (ha : a.length = n) (hb : b.length = n) (w : World) :
  (Op.equalIn (d + 2) t (.agg (NA a)) (.agg (NA b))).run Tryz.prog w = .ok (decide (a = b)) w := by
 obtain ⟨i, hi⟩ := info3;rw [run_equalIn_array w (d + 1) (NA a) (NA b) ht hi, cells3, eqItems_int a b d _ w (by simp [ha, hb]), ← ha, all_eq a b (by omega)]
set_option maxRecDepth 100000 in
theorem part_arr (z : List Int) (hz : z.length = 18) (w : World) : (part 49 (NA z) 4).run Tryz.prog w = .ok (.agg (NA ((z.drop 4).take 12))) w := by
 have hag : (isAgg 49).run Tryz.prog w = .ok true w := by kernel_rfl
 have hsz : (sizeOf 49).run Tryz.prog w = .ok 12 w := by kernel_rfl
 simp only [part, Sem.run_bind, hag, hsz, Result.andThen_ok, if_true, Sem.run_pure, Sem.run_ite]
 congr 2
 obtain ⟨a0, a1, a2, a3, a4, a5, a6, a7, a8, a9, a10, a11, a12, a13, a14, a15, a16, a17, rfl⟩ := list18 hz
 rfl
set_option maxRecDepth 100000 in
theorem eq_inode (z y : List Int) (hz : z.length = 18) (hy : y.length = 18) (w : World) :
  (Op.equalIn 10000 51 (.agg (NA z)) (.agg (NA y))).run Tryz.prog w = .ok (decide (z = y)) w := by
 have hfm : ((Tryz.prog.fieldsOf 51).toList.map fun f => (f.type, f.offset)) = [(3, 0), (3, 1), (3, 2), (3, 3), (49, 4), (3, 16), (3, 17)] := by kernel_rfl
 have hnm : ((Tryz.prog.fieldsOf 51).toList.all fun f => f.name != "_") = true := by kernel_rfl
 let E' : Nat × Nat → Bool := fun p => if p.1 = 3 then z.getD p.2 0 == y.getD p.2 0 else decide ((z.drop 4).take 12 = (y.drop 4).take 12)
 rw [run_equalIn_struct w 9999 51 (NA z) (NA y) (by kernel_rfl) (by kernel_rfl), eqFields_run 9999 (NA z) (NA y) (fun f => E' (f.type, f.offset))]
 ·have e : ((Tryz.prog.fieldsOf 51).toList.all fun f => E' (f.type, f.offset)) = (((Tryz.prog.fieldsOf 51).toList.map fun f => (f.type, f.offset)).all E') := by rw [List.all_map]; rfl
  rw [e, hfm]
  congr 1
  obtain ⟨a0, a1, a2, a3, a4, a5, a6, a7, a8, a9, a10, a11, a12, a13, a14, a15, a16, a17, rfl⟩ := list18 hz;obtain ⟨b0, b1, b2, b3, b4, b5, b6, b7, b8, b9, b10, b11, b12, b13, b14, b15, b16, b17, rfl⟩ := list18 hy;rw [Bool.eq_iff_iff]
  simp [E']
  intros
  simp [and_assoc]
 ·intro f hf
  refine ⟨by simpa using List.all_eq_true.1 hnm f hf, fun w => ?_⟩;have hm : (f.type, f.offset) ∈ ((Tryz.prog.fieldsOf 51).toList.map fun f => (f.type, f.offset)) := List.mem_map.2 ⟨f, hf, rfl⟩;rw [hfm] at hm
  by_cases h4 : f.type = 49
  ·have h5 : f.offset = 4 := by
    simp only [List.mem_cons, Prod.mk.injEq, List.not_mem_nil, or_false] at hm
    rw [h4] at hm
    rcases hm with h | h | h | h | h | h | h
    ·exact absurd h.1 (by decide)
    ·exact absurd h.1 (by decide)
    ·exact absurd h.1 (by decide)
    ·exact absurd h.1 (by decide)
    ·exact h.2
    ·exact absurd h.1 (by decide)
    ·exact absurd h.1 (by decide)
   rw [h4, h5]
   exact ⟨_, _, part_arr z hz w, part_arr y hy w, eq_arr 49 12 (by kernel_rfl) 9997 _ _ (by simp [hz]) (by simp [hy]) w⟩
  ·have h5 : f.type = 3 ∧ f.offset < 18 := by
    simp only [List.mem_cons, Prod.mk.injEq, List.not_mem_nil, or_false] at hm
    rcases hm with h | h | h | h | h | h | h
    ·exact ⟨h.1, by rw [h.2]; decide⟩
    ·exact ⟨h.1, by rw [h.2]; decide⟩
    ·exact ⟨h.1, by rw [h.2]; decide⟩
    ·exact ⟨h.1, by rw [h.2]; decide⟩
    ·exact absurd h.1 h4
    ·exact ⟨h.1, by rw [h.2]; decide⟩
    ·exact ⟨h.1, by rw [h.2]; decide⟩
   rw [h5.1]
   exact ⟨_, _, part_int z _ (by omega) w, part_int y _ (by omega) w, run_equalIn_int _ 9998 3 .i64 .i64 _ _ Tryz.underlying3⟩
theorem guard_inode : Tryz.prog.eqGuardType Tryz.prog.depth 51 = false := by kernel_rfl

def most : List Int := [2, 100, 136704, 1099511627776, 4294967295, 4294967295, 4294967295, 4294967295, 4294967295, 4294967295, 4294967295, 4294967295, 4294967295, 4294967295, 4294967295, 4294967295, 4294967295, 4294967295]
def allB (z : List Int) : Bool := (List.range 18).all fun m => decide (0 ≤ z.getD m 0 ∧ z.getD m 0 ≤ most.getD m 0)
theorem allB_true {z : List Int} (h : ∀ m, m < 18 → 0 ≤ z.getD m 0 ∧ z.getD m 0 ≤ most.getD m 0) : allB z = true := by
 rw [allB, List.all_eq_true]
 intro m hm
 exact decide_eq_true (h m (List.mem_range.1 hm))
theorem allB_of {z : List Int} (h : allB z = true) (m : Nat) (hm : m < 18) : 0 ≤ z.getD m 0 ∧ z.getD m 0 ≤ most.getD m 0 := of_decide_eq_true (List.all_eq_true.1 h m (List.mem_range.2 hm))
theorem allB_false {z : List Int} {m : Nat} (hm : m < 18) (h : ¬ (0 ≤ z.getD m 0 ∧ z.getD m 0 ≤ most.getD m 0)) : allB z = false := by
 cases e : allB z
 ·rfl
 ·exact absurd (allB_of e m hm) h
def inoB (z : List Int) : Bool := if z.getD 0 0 = 0 then decide (z = Zi) else allB z && (z.getD 0 0 != 2 || z.getD 2 0 % 128 == 0)

theorem fld_facts {j : Nat} {f : Fld} (h : flds[j]? = some f) : base (j + 1) = base j + f.ct ∧ f.ct ≤ 12 ∧ 1 ≤ f.ct ∧ 0 ≤ f.ms ∧ f.ms ≤ 1099511627776 ∧ (∀ i, i < f.ct → most.getD (base j + i) 0 = f.ms) ∧ base j + f.ct ≤ 18 := by
 have hj := fld_cases h
 match j, hj, h with
 | 0, _, h | 1, _, h | 2, _, h | 3, _, h | 4, _, h | 5, _, h | 6, _, h => cases h; decide

set_option maxRecDepth 100000 in
set_option maxHeartbeats 2000000 in
theorem inodeMayBe_any (z : List Int) (hz : z.length = 18) (w : World) :
  Calls Tryz.prog 87 #[.agg (NA z)] w fun e w' => e = .returned (.bool (inoB z)) ∧ Below w.heap.size w w' := by
 have hg1 : (w.alloc (.cells (NA z) 51)).heap[w.heap.size]? = some (.cells (NA z) 51 (0, 0)) := heap_alloc_new _ _;have hb : Below w.heap.size w (w.alloc (.cells (NA z) 51)) := (Below.refl _ _).alloc (Nat.le_refl _) _;have hbi := build_inode;have heq := hid (eq_inode z Zi hz Zi_len);have hgd := hid guard_inode;have hk := row_cell hg1 0 (by omega)
 generalize hK : z.getD 0 0 = K at *
 have HG1 := hid hg1
 by_cases h0 : K = 0
 ·have HV : Hid (inoB z = decide (z = Zi)) := by show _ = _; rw [inoB, hK, if_pos h0]
  subst h0;clear hg1
  go_enter Tryz.func87, Tryz.ntmps87
  go_wp2_with (first | refine load_R rfl 51 (.tmp 1) rfl w.heap.size rfl 51 _ _ HG1.out Tryz.underlying51 rfl (by rw [szI, NA_size, hz]) ?_ | refine eql_R rfl 51 (.tmp 10) (.tmp 11) rfl (NA z) (NA Zi) _ rfl rfl heq.out hgd.out ?_)
  go_ret
  exact ⟨by rw [HV.out]; rfl, hb⟩
 ·have HV : Hid (inoB z = (allB z && (K != 2 || z.getD 2 0 % 128 == 0))) := by show _ = _; rw [inoB, hK, if_neg h0]
  have h0' : (K == 0) = false := by simp [h0]
  clear hg1 heq
  go_enter Tryz.func87, Tryz.ntmps87
  go_upto_region 4 with (go_at_call 75; refine (inodeFields_any _).mono ?_; rintro e w1 ⟨rfl, hF, hb1⟩)
  have hF' : FldsAt w1 (w.heap.size + 1) := by simpa using hF
  have hg1 : w1.heap[w.heap.size]? = some (.cells (NA z) 51 (0, 0)) := by rw [hb1.block _ (by simp)]; exact HG1.out
  have hbw : Below w.heap.size w w1 := btr hb hb1 (by simp)
  have HOK : Hid (∀ m, m < base 0 → 0 ≤ z.getD m 0 ∧ z.getD m 0 ≤ most.getD m 0) := fun m hm => absurd hm (Nat.not_lt_zero _)
  clear hF hb hb1 hk HG1 hbi hgd
  go_loopw [15] (fun i wr => ∃ j : Nat, j ≤ 7 ∧ i = .int .i64 j ∧ FldsAt wr (w.heap.size + 1) ∧ wr.heap[w.heap.size]? = some (.cells (NA z) 51 (0, 0)) ∧ Below w.heap.size w wr ∧ Hid (∀ m, m < base j → 0 ≤ z.getD m 0 ∧ z.getD m 0 ≤ most.getD m 0)) (fun i _ => 7 - (intOf i).toNat)
  case atStart => exact ⟨0, by omega, rfl, hF', hg1, hbw, HOK⟩
  case round =>
   obtain ⟨j, hj, rfl, hF, hg, hbr, HJ⟩ := hrel;obtain ⟨wo, hwo⟩ : ∃ x, x = wr := ⟨_, rfl⟩;subst hwo;clear hF' hg1 hbw HOK
   by_cases hlt : j < 7
   ·obtain ⟨f, hf⟩ : ∃ f, flds[j]? = some f := ⟨flds[j]'(by simpa [flds] using hlt), List.getElem?_eq_getElem (by simpa [flds] using hlt)⟩
    obtain ⟨q1, q2, q3, q4, q5, q6, q7⟩ := fld_facts hf;have hr := hF.range hf
    have hgf := fun w' i hi => getF_any hf z hz w' i hi
    have hen := enters_gf hf;have hsF := slt hF;have HR := hid hr;have HF := hid hF;have HG := hid hg;have HB := hid hbr;have HGF := hid hgf;have HQ6 := hid q6;have HFL := hid hf;clear hr hF hg hbr hgf q6 hf;unfold cellF at *
    go_upto_region 6 with (first | (refine wpList_load_mid rfl 131 (.tmp 17) rfl (w.heap.size + 1) (j * 6) rfl _ _ HR.out Tryz.underlying131 rfl (by rw [szF]; rfl) ?_) | (refine store_R rfl 131 (.tmp 4) _ rfl wo.heap.size _ rfl rfl 131 _ (heap_alloc_new _ _) (by rw [szF]; rfl) rfl (by simp [Value.oneCell']) ?_; intro W hW))
    have zW : W.heap.size = wo.heap.size + 1 := by rw [hW.size]; simp
    have HW1 : Hid (W.heap[w.heap.size]? = some (.cells (NA z) 51 (0, 0))) := by show _ = _; rw [hW.other _ (by omega), Below.heap_alloc _ _ _ (by omega)]; exact HG.out
    have HWF : Hid (FldsAt W (w.heap.size + 1)) := by show _ = _; rw [hW.other _ (by omega), Below.heap_alloc _ _ _ (by omega)]; exact HF.out
    have HWB : Hid (Below w.heap.size w W) := hW.below (HB.out.alloc (by omega) _) (by omega);have hW4 := hW.here;have HI0 : Hid (∀ m, m < base j + 0 → 0 ≤ z.getD m 0 ∧ z.getD m 0 ≤ most.getD m 0) := HJ.out;have hc2 := cell_of_row W wo.heap.size 2 _ _ _ hW4;have HW4 := hid hW4;clear hW hW4 HG HF HB HR
    go_upto_region 7 with fail
    clear hc2
    go_loopw [21] (fun i wi => ∃ m : Nat, m ≤ f.ct ∧ i = .int .i64 m ∧ wi.heap[wo.heap.size]? = some (.cells (cellF f).toArray 131 (0, 0)) ∧ Below W.heap.size W wi ∧ Hid (∀ k, k < base j + m → 0 ≤ z.getD k 0 ∧ z.getD k 0 ≤ most.getD k 0)) (fun i _ => f.ct - (intOf i).toNat)
    case atStart => exact ⟨0, by omega, rfl, HW4.out, Below.refl _ _, HI0⟩
    case round =>
     obtain ⟨m, hm, rfl, hC, hbi, HM⟩ := hrel
     have h1 : wr.heap[w.heap.size]? = some (.cells (NA z) 51 (0, 0)) := by rw [hbi.block _ (by omega)]; exact HW1.out
     by_cases hlm : m < f.ct
     ·have hC4 := cell_of_row wr wo.heap.size 4 _ _ _ hC
      have hC3 := fun (w' : World) (h : w'.heap[wo.heap.size]? = some (.cells (cellF f).toArray 131 (0, 0))) => cell_of_row w' wo.heap.size 3 _ _ _ h
      have HC := hid hC;have H1 := hid h1
      have hcall := fun w' => HGF.out w' m hlm
      have hX := HQ6.out m hlm
      generalize hXX : z.getD (base j + m) 0 = X at *
      have hcz : wo.heap.size < wr.heap.size := slt hC;have HX := hid hX;have HXX := hid hXX;have HBI := hid hbi;have HC3 := hid hC3;have HCL := hid hcall;clear hC h1 hX hXX hbi hC3 hcall;unfold cellF at hC4 HC
      by_cases hx0 : X < 0
      ·go_wp2_with (first | refine load_R rfl 51 (.tmp 1) rfl w.heap.size rfl 51 _ _ H1.out Tryz.underlying51 rfl (by rw [szI, NA_size, hz]) ?_ | (go_at_fn f.gf; refine (HCL.out _).mono ?_; rintro e w2 ⟨rfl, hb2⟩))
       go_ret
       refine ⟨?_, btr HWB.out (btr HBI.out hb2 (by have := HBI.out.size; omega)) (by omega)⟩;rw [HV.out, allB_false (m := base j + m) (by omega) (by rw [HXX.out]; omega)]
       rfl
      ·by_cases hx1 : f.ms < X
       ·go_wp2_with (first | refine load_R rfl 51 (.tmp 1) rfl w.heap.size rfl 51 _ _ H1.out Tryz.underlying51 rfl (by rw [szI, NA_size, hz]) ?_ | (go_at_fn f.gf; refine (HCL.out _).mono ?_; rintro e w2 ⟨rfl, hb2⟩; have hC3' := HC3.out w2 (by rw [hb2.block _ hcz]; exact HC.out); unfold cellF at hC3'))
        go_ret
        refine ⟨?_, btr HWB.out (btr HBI.out hb2 (by have := HBI.out.size; omega)) (by omega)⟩;rw [HV.out, allB_false (m := base j + m) (by omega) (by rw [HXX.out, HX.out]; omega)]
        rfl
       ·go_wp2_with (first | refine load_R rfl 51 (.tmp 1) rfl w.heap.size rfl 51 _ _ H1.out Tryz.underlying51 rfl (by rw [szI, NA_size, hz]) ?_ | (go_at_fn f.gf; refine (HCL.out _).mono ?_; rintro e w2 ⟨rfl, hb2⟩; have hC3' := HC3.out w2 (by rw [hb2.block _ hcz]; exact HC.out); unfold cellF at hC3'))
        refine ⟨⟨m + 1, by omega, by go_num, by rw [hb2.block _ hcz]; exact HC.out, btr HBI.out hb2 (by have := HBI.out.size; omega), fun k hk => ?_⟩, by simp [intOf]; omega⟩
        by_cases e : k = base j + m
        ·subst e; rw [HXX.out, HX.out]; omega
        ·exact HM.out k (by omega)
     ·have e : m = f.ct := by omega
      subst e;have zr := hbi.size
      have k1 : FldsAt wr (w.heap.size + 1) := by show _ = _; rw [hbi.block _ (by omega)]; exact HWF.out
      have k2 := btr HWB.out hbi (by omega)
      have HJ1 : Hid (∀ k, k < base (j + 1) → 0 ≤ z.getD k 0 ∧ z.getD k 0 ≤ most.getD k 0) := by rw [q1]; exact HM
      clear hC
      go_wp2
      exact ⟨⟨j + 1, by omega, by go_num, k1, h1, k2, HJ1⟩, by simp [intOf]; omega⟩
   ·have e : j = 7 := by omega
    subst e;have hk0 := row_cell hg 0 (by omega);have hk2 := row_cell hg 2 (by omega);have HA : Hid (allB z = true) := allB_true HJ.out;have hb2 := HJ.out 2 (by decide);rw [hK] at hk0;have hm2 : most.getD 2 0 = 136704 := rfl;rw [hm2] at hb2
    generalize hS : z.getD 2 0 = S at *
    by_cases h2 : K = 2
    ·subst h2
     have h5 : S.tmod 128 = S % 128 := Int.tmod_eq_emod_of_nonneg hb2.1
     by_cases h6 : S % 128 = 0
     ·go_wp2
      go_ret
      exact ⟨by rw [HV.out, HA.out]; simp [h6], hbr⟩
     ·go_wp2
      go_ret
      exact ⟨by rw [HV.out, HA.out]; simp, hbr⟩
    ·have h2' : (K != 2) = true := by simp [h2]
     go_wp2
     go_ret
     exact ⟨by rw [HV.out, HA.out, h2']; rfl, hbr⟩

end Go.Proofs.YtpmignilhoihnaaGreat

namespace Go.Proofs.YtpmignilhoihnaaGreat
open Go.RowKit

def pls : List (Int × Int) := [(0, 1), (1, 1), (4, 4), (8, 8), (16, 4), (20, 4), (24, 4), (28, 4), (32, 4), (36, 4), (40, 4), (44, 4), (48, 4), (52, 4), (56, 4), (60, 4), (64, 4), (68, 4)]
def numI (z : List Int) (m : Nat) : Num := ((pls.getD m (0, 0)).1, (pls.getD m (0, 0)).2, z.getD m 0)
def numsIno (z : List Int) (n : Nat) : List Num := (List.range n).map (numI z)
theorem numsIno_len (z : List Int) (n : Nat) : (numsIno z n).length = n := by simp [numsIno]
theorem numsIno_succ (z : List Int) (n : Nat) : numsIno z (n + 1) = numsIno z n ++ [numI z n] := by simp [numsIno, List.range_succ]
theorem fld_pls {j : Nat} {f : Fld} (h : flds[j]? = some f) : (∀ i, i < f.ct → pls.getD (base j + i) (0, 0) = (f.pl + (i : Int) * f.wd, f.wd)) ∧ 0 ≤ f.pl ∧ f.pl ≤ 1000 ∧ (∀ i : Nat, i < f.ct → 0 ≤ (i : Int) * f.wd ∧ (i : Int) * f.wd ≤ 1000) := by
 have hj := fld_cases h
 match j, hj, h with
 | 0, _, h | 1, _, h | 2, _, h | 3, _, h | 4, _, h | 5, _, h | 6, _, h => cases h; decide
theorem fld_num {j : Nat} {f : Fld} (h : flds[j]? = some f) (z : List Int) {i : Nat} (hi : i < f.ct) : numI z (base j + i) = (f.pl + (i : Int) * f.wd, f.wd, z.getD (base j + i) 0) := by
 unfold numI;rw [(fld_pls h).1 i hi]
theorem pls_ok : ∀ m, m < 18 → inB (pls.getD m (0, 0)).1 (pls.getD m (0, 0)).2 = true ∧ most.getD m 0 ≤ top ∧ most.getD m 0 < pw (pls.getD m (0, 0)).2 ∧ 0 ≤ most.getD m 0 := by decide
theorem ino_le {z : List Int} (h : inoB z = true) (m : Nat) (hm : m < 18) : 0 ≤ z.getD m 0 ∧ z.getD m 0 ≤ most.getD m 0 := by
 unfold inoB at h
 split at h
 ·have e := of_decide_eq_true h
  subst e
  have e0 : Zi.getD m 0 = 0 := by simp only [Zi, List.getD_eq_getElem?_getD, List.getElem?_replicate]; split <;> rfl
  rw [e0]
  exact ⟨Int.le_refl _, (pls_ok m hm).2.2.2⟩
 ·rw [Bool.and_eq_true] at h
  exact allB_of h.1 m hm
theorem ino_ok {z : List Int} (h : inoB z = true) : ∀ n ∈ numsIno z 18, okN n := by
 intro n hn
 obtain ⟨m, hm, rfl⟩ := List.mem_map.1 hn;have hm' := List.mem_range.1 hm;have hp := pls_ok m hm';have hz := ino_le h m hm'
 exact ⟨hp.1, fitB_true ⟨hz.1, Int.le_trans hz.2 hp.2.1, Int.lt_of_le_of_lt hz.2 hp.2.2.1⟩⟩

def NOwn (w : World) (B : Nat) (v : Value) (l : List Num) : Prop := w.ownsRow B 144 3 v l.length (cellsN l)
theorem NOwn.keep {w w' : World} {B : Nat} {v : Value} {l : List Num} (h : NOwn w B v l) (hk : ∀ g, v.ownBlock = some g → w'.heap[g]? = w.heap[g]?) : NOwn w' B v l := by
 refine ⟨h.1, ?_⟩
 rcases h.2 with h | ⟨g, cap, cur, rfl, r1, r2, r3⟩
 ·exact .inl h
 ·exact .inr ⟨g, cap, cur, rfl, r1, by rw [hk g rfl]; exact r2, r3⟩
theorem NOwn.lt {w : World} {B : Nat} {v : Value} {l : List Num} (h : NOwn w B v l) {g : Nat} (hg : v.ownBlock = some g) : B ≤ g ∧ g < w.heap.size := by
 rcases h.2 with h | ⟨g', cap, cur, rfl, r1, r2, r3⟩
 ·rw [h.1] at hg; cases hg
 ·cases hg; exact ⟨r1, slt r2⟩
theorem NOwn.at {w : World} {B : Nat} {v : Value} {l : List Num} (h : NOwn w B v l) (hl : 0 < l.length) : ∃ g cap, v = .slice (some ⟨g, 0, none⟩) l.length cap ∧ NumsAt w g l := by
 have hc := fun {g} (hg : v.ownBlock = some g) => World.ownsRow.cells h hg
 rcases h.2 with h' | ⟨g', cap, cur, rfl, r1, r2, r3⟩
 ·omega
 ·refine ⟨g', cap, rfl, slt r2, fun j u hj => ?_⟩
  have := hc rfl j u hj;rw [addr_add, Nat.zero_add] at this
  exact this
theorem infoN : ∃ i, Tryz.prog.info? 144 = some i ∧ i.zero = some (.agg #[.int .i64 0, .int .i64 0, .int .i64 0]) ∧ i.size = 3 ∧ i.bytes = 24 := by
 have h : (Tryz.prog.info? 144).map (fun i => (i.zero, i.size, i.bytes)) = some (some (.agg #[.int .i64 0, .int .i64 0, .int .i64 0]), 3, 24) := by kernel_rfl
 cases hq : Tryz.prog.info? 144 with
 | none => rw [hq] at h; cases h
 | some i =>
  rw [hq] at h
  simp at h
  exact ⟨i, rfl, h.1, h.2.1, h.2.2⟩
theorem run_appN {w : World} {B b ca : Nat} {v : Value} {l : List Num} (y : Num) (ty : TypeId) (hown : NOwn w B v l) (hb : w.heap[b]? = some (.cells (cellsN [y]).toArray 144 (0, 0))) (hl : l.length ≤ 1000) (hbase : B ≤ w.heap.size) :
  ∃ v' w', (Builtin.append_ #[142, 142] ty #[v, .slice (some ⟨b, 0, none⟩) 1 ca]).run Tryz.prog w = .ok v' w' ∧ NOwn w' B v' (l ++ [y]) ∧ w.grownBy w' v.ownBlock ∧ (v'.ownBlock = v.ownBlock ∨ v'.ownBlock = some w.heap.size) := by
 obtain ⟨i, hi, hz, hsz, hby⟩ := infoN
 obtain ⟨v', w', hr, h2, h3, _, h5⟩ := run_append_own_at (P := Tryz.prog) w B 142 ty 144 i _ 3 24 Tryz.underlying142 hi hz hsz hby rfl (by decide) v l.length (cellsN l) hown ⟨b, 0, none⟩ 1 ca (cellsN [y]) rfl (fun j u hj => by
   rw [addr_add, Nat.zero_add, cell_of_row _ _ _ _ _ _ hb]
   simpa using hj) (cellsN_one [y]) (by unfold maxLen; omega) (by omega) hbase
 refine ⟨v', w', hr, ?_, h3, h5⟩;unfold NOwn;rw [cellsN_append, List.length_append]
 exact h2
section
variable {ops : Array Oper} {rest : List Oper} {o : Oper} {a : Act} {Q : Exit → Act → World → Prop} {w : World} {S : World → Prop} {fuel : Nat} {listed : Array Bool}
theorem wp_appN (hg : o.guard = none) (s x : Operand) (hop : o.op = .call { callee := .builtin .append, args := #[s, x], argTypes := #[142, 142] }) (B b ca : Nat) (v : Value) (l : List Num) (y : Num) (hs : a.eval s = v) (hx : a.eval x = .slice (some ⟨b, 0, none⟩) 1 ca)
  (hown : NOwn w B v l) (hb : w.heap[b]? = some (.cells (cellsN [y]).toArray 144 (0, 0))) (hl : l.length ≤ 1000) (hbase : B ≤ w.heap.size)
  (hK : ∀ v' w', NOwn w' B v' (l ++ [y]) → w.grownBy w' v.ownBlock → (v'.ownBlock = v.ownBlock ∨ v'.ownBlock = some w.heap.size) → wpList Tryz.prog ops Q rest (a.put o.dst v') w') : wpList Tryz.prog ops Q (o :: rest) a w := by
 obtain ⟨v', w', hr, h2, h3, h4⟩ := run_appN y o.type hown hb hl hbase (ca := ca)
 refine wpList_plain hg fun K' hK' => ?_
 unfold Oper.wp execOp
 simp only [hop, resolve, invoke, builtin, Sem.run_bind, Sem.run_pure, Result.andThen_ok, List.map_toArray, List.map_cons, List.map_nil, hs, hx, hr]
 exact hK' _ _ (hK v' w' h2 h3 h4)
theorem stAppN (i d : Nat) {o : Oper} (hop : ops[i]? = some o) (hd : o.dst = some d) (hw : Region.wanted o (yielded ops a.tmps) = true) (s x : Operand)
  (ho : o.op = .call { callee := .builtin .append, args := #[s, x], argTypes := #[142, 142] }) (B b ca : Nat) (v : Value) (l : List Num) (y : Num) (hs : a.eval s = v) (hx : a.eval x = .slice (some ⟨b, 0, none⟩) 1 ca)
  (hown : NOwn w B v l) (hb : w.heap[b]? = some (.cells (cellsN [y]).toArray 144 (0, 0))) (hl : l.length ≤ 1000) (hbase : B ≤ w.heap.size)
  (h : ∀ v' w', NOwn w' B v' (l ++ [y]) → w.grownBy w' v.ownBlock → (v'.ownBlock = v.ownBlock ∨ v'.ownBlock = some w.heap.size) →
   S w' ∧ wpAnyH Tryz.prog .any ops Q S fuel (listed.setIfInBounds i true) { a with tmps := a.tmps.setIfInBounds d v' } w') : St ops Q S fuel listed a w i := by
 obtain ⟨v', w', hr, h2, h3, h4⟩ := run_appN y o.type hown hb hl hbase (ca := ca);have hh := h v' w' h2 h3 h4;refine wpOp_step hop (fun K hK => ?_);rw [if_pos hw];unfold Oper.wp execOp
 simp only [ho, resolve, invoke, builtin, Sem.run_bind, Sem.run_pure, Result.andThen_ok, List.map_toArray, List.map_cons, List.map_nil, hs, hx, hr]
 refine hK _ _ ⟨hh.1, ?_⟩;unfold Act.put;rw [hd]
 exact hh.2
end
def Z96 : List Int := List.replicate 96 0
theorem make_nums (w : World) : (Instr.makeSlice 142 (.int .i64 0) (.int .i64 32)).run Tryz.prog w = .ok (.slice (some ⟨w.heap.size, 0, none⟩) 0 32) (w.alloc (.cells (NA Z96) 144)) := by kernel_rfl

def inoS (z : List Int) : List Int := if inoB z = true then layS (numsIno z 18) else Zs
def inoE (z : List Int) : Int := if inoB z = true then 0 else 61
theorem inoS_sec (z : List Int) : IsSec (inoS z) := by
 unfold inoS; split
 ·exact layS_sec _
 ·exact Zs_sec

set_option maxRecDepth 100000 in
set_option maxHeartbeats 1000000 in
theorem inodeSector_bad (z : List Int) (hz : z.length = 18) (w : World) (h : inoB z = false) :
  Calls Tryz.prog 47 #[.agg (NA z)] w fun e w' => e = .returned (.tuple #[.agg (SA Zs), .int .i64 61]) ∧ Below w.heap.size w w' := by
 have hm := fun w' => inodeMayBe_any z hz w'
 rw [h] at hm;have hzz := zero_sec;have hbs := build_sec;have HG1 : Hid (((w.alloc (.cells (NA z) 51)).alloc (.cells (SA Zs) 33)).heap[w.heap.size]? = some (.cells (NA z) 51 (0, 0))) := heap_alloc2_old w _ _;have HZ : Hid (((w.alloc (.cells (NA z) 51)).alloc (.cells (SA Zs) 33)).heap[w.heap.size + 1]? = some (.cells (SA Zs) 33 (0, 0))) := heap_alloc2_new w _ _;have hb : Below w.heap.size w ((w.alloc (.cells (NA z) 51)).alloc (.cells (SA Zs) 33)) := ((Below.refl _ _).alloc (Nat.le_refl _) _).alloc (by simp) _
 have hsz : ((w.alloc (.cells (NA z) 51)).alloc (.cells (SA Zs) 33)).heap.size = w.heap.size + 2 := by simp
 go_enter Tryz.func47, Tryz.ntmps47
 go_wp2_with (first | refine load_R rfl 51 (.tmp 1) rfl w.heap.size rfl 51 _ _ HG1.out Tryz.underlying51 rfl (by rw [szI, NA_size, hz]) ?_ | (go_at_call 87; refine (hm _).mono ?_; rintro e w2 ⟨rfl, hb2⟩; have HZ2 : Hid (w2.heap[w.heap.size + 1]? = some (.cells (SA Zs) 33 (0, 0))) := by { show _ = _; rw [hb2.block _ (by omega)]; exact HZ.out }) | (refine store_sec rfl (.tmp 2) _ rfl (w.heap.size + 1) rfl Zs rfl Zs_len Zs Zs_len HZ2.out ?_; intro w3 hw3))
 exact bodyPost_ret (v := .tuple #[.agg (SA Zs), .int .i64 61]) (results_sec Tryz.results47 _ _ (w.heap.size + 1) Zs Zs_len _ rfl rfl hw3.here) rfl ⟨rfl, hw3.below (btr hb hb2 (by omega)) (by omega)⟩

structure IRun (w : World) (z : List Int) (bf n : Nat) (v : Value) (wr : World) : Prop where
 i : wr.heap[w.heap.size]? = some (.cells (NA z) 51 (0, 0))
 a : wr.heap[w.heap.size + 1]? = some (.cells (SA Zs) 33 (0, 0))
 t : FldsAt wr bf
 o : NOwn wr (w.heap.size + 2) v (numsIno z n)
 b : Below w.heap.size w wr
 q : ¬ v.ownBlock = some bf
 l : w.heap.size + 2 ≤ bf
theorem IRun.call {w wr w' : World} {z : List Int} {bf n : Nat} {v : Value} (h : IRun w z bf n v wr) (hb : Below wr.heap.size wr w') : IRun w z bf n v w' := by
 have s1 := slt h.i;have s2 := slt h.a;have s3 := slt h.t;have := h.b.size
 exact ⟨by rw [hb.block _ s1]; exact h.i, by rw [hb.block _ s2]; exact h.a, by show _ = _; rw [hb.block _ s3]; exact h.t, h.o.keep fun g hg => hb.block _ (h.o.lt hg).2, btr h.b hb (by omega), h.q, h.l⟩
theorem IRun.put {w wr w' : World} {z : List Int} {bf n : Nat} {v : Value} {c0 c : Array Value} {t : TypeId} (h : IRun w z bf n v wr) (hp : PutR (wr.alloc (.cells c0 t)) wr.heap.size c t w') : IRun w z bf n v w' :=
 h.call (hp.below ((Below.refl _ _).alloc (Nat.le_refl _) _) (Nat.le_refl _))
theorem IRun.app {w wr w' : World} {z : List Int} {bf n : Nat} {v v' : Value} {y : Num} (h : IRun w z bf n v wr) (hg : wr.grownBy w' v.ownBlock) (ho : NOwn w' (w.heap.size + 2) v' (numsIno z n ++ [y])) (hy : y = numI z n) (hv : v'.ownBlock = v.ownBlock ∨ v'.ownBlock = some wr.heap.size) : IRun w z bf (n + 1) v' w' := by
 have s1 := slt h.i;have s2 := slt h.a;have s3 := slt h.t
 have hne : ∀ k, k < w.heap.size + 2 → some k ≠ v.ownBlock := fun k hk e => by have := (h.o.lt e.symm).1; omega
 refine ⟨by rw [hg.block _ s1 (hne _ (by omega))]; exact h.i, by rw [hg.block _ s2 (hne _ (by omega))]; exact h.a, by show _ = _; rw [hg.block _ s3 (fun e => h.q e.symm)]; exact h.t, ?_, ?_, ?_, h.l⟩
 ·rw [numsIno_succ, ← hy]; exact ho
 ·exact h.b.trans ⟨hg.os, hg.tape, hg.output, hg.size, fun k hk => hg.block k (by have := h.b.size; omega) (hne k (by omega))⟩
 ·intro e
  rcases hv with k | k
  ·exact h.q (by rw [← k]; exact e)
  ·rw [k] at e; cases e; omega

end Go.Proofs.YtpmignilhoihnaaGreat
