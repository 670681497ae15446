/-
  A teller in memory, new since a world.
-/
import Derived.Test.YtgkanfmkohlmcaaGreatCLawK
namespace Go.Proofs.YtgkanfmkohlmcaaGreat
open Go.RowKit

/-- The content of a version, and the version of a content. -/
def verL (v : Int) : List Int := v % 256 :: (v / 256 % 256) :: (v / 65536 % 256) :: List.replicate 125 0
def verS (s : List Int) : Int := s.getD 0 0 + 256 * s.getD 1 0 + 65536 * s.getD 2 0
theorem verL_len (v : Int) : (verL v).length = 128 := by simp [verL]
theorem verL_sec (v : Int) : D.IsSec (verL v) := by
  refine ⟨verL_len v, fun x hx => ?_⟩
  simp only [verL, List.mem_cons, List.mem_replicate] at hx
  rcases hx with rfl | rfl | rfl | ⟨_, rfl⟩
  · omega
  · omega
  · omega
  · omega
theorem verS_verL {v : Int} (h0 : 0 ≤ v) (h1 : v < 16777216) : verS (verL v) = v := by
  simp only [verS, verL, List.getD_cons_zero, List.getD_cons_succ]
  omega
theorem verL_zero : verL 0 = D.Zs := by
  simp [verL, D.Zs, List.replicate_succ]

theorem verL_sets {v : Int} (h0 : 0 ≤ v) (h1 : v < 16777216) : ((D.Zs.set 0 (v % 256)).set 1 (v / 256 % 256)).set 2 (v / 65536) = verL v := by
  have e : v / 65536 % 256 = v / 65536 := by omega
  unfold verL D.Zs
  rw [e]
  simp [List.replicate_succ]

set_option maxRecDepth 100000 in
set_option maxHeartbeats 1000000 in
theorem version_any (s : List Int) (hs : D.IsSec s) (w : World) : Calls Tryz.prog 38 #[.agg (D.SA s)] w fun e w' => e = .returned (.int .i64 (verS s)) ∧ Chg w w' No := by
  have hb := heap_alloc_new w (.cells (D.SA s) 46)
  have k0 := D.sec_cell hb 0 (by rw [hs.1]; decide)
  have k1 := D.sec_cell hb 1 (by rw [hs.1]; decide)
  have k2 := D.sec_cell hb 2 (by rw [hs.1]; decide)
  have b0 := hs.at 0
  have b1 := hs.at 1
  have b2 := hs.at 2
  have HV : Hid (verS s = s.getD 0 0 + 256 * s.getD 1 0 + 65536 * s.getD 2 0) := rfl
  generalize s.getD 0 0 = x0 at *
  generalize s.getD 1 0 = x1 at *
  generalize s.getD 2 0 = x2 at *
  obtain ⟨b00, b01⟩ := b0
  obtain ⟨b10, b11⟩ := b1
  obtain ⟨b20, b21⟩ := b2
  clear hb hs
  go_enter Tryz.func38, Tryz.ntmps38
  go_wp2
  go_ret
  exact ⟨ret_int (by rw [HV.out]), Chg.alloc _ _ _⟩

set_option maxRecDepth 100000 in
set_option maxHeartbeats 1000000 in
theorem versioned_any (v : Int) (h0 : 0 ≤ v) (h1 : v < 16777216) (w : World) : Calls Tryz.prog 22 #[.int .i64 v] w fun e w' => e = .returned (.agg (D.SA (verL v))) ∧ Chg w w' No := by
  have hzs := D.zero_sec
  have hB1 : ((w.alloc (.cells (D.SA D.Zs) 46)).alloc (.cells (D.SA D.Zs) 46)).heap[w.heap.size + 1]? = some (.cells (D.SA D.Zs) 46 (0, 0)) := by
    rw [heap_alloc_if, if_pos (by simp)]
  have k0 := D.sec_cell hB1 0 (by rw [D.Zs_len]; decide)
  have k1 := D.sec_cell hB1 1 (by rw [D.Zs_len]; decide)
  have k2 := D.sec_cell hB1 2 (by rw [D.Zs_len]; decide)
  have f0 := frozen_of_row _ (w.heap.size + 1) 0 _ _ hB1
  have f1 := frozen_of_row _ (w.heap.size + 1) 1 _ _ hB1
  have f2 := frozen_of_row _ (w.heap.size + 1) 2 _ _ hB1
  clear hB1
  go_enter Tryz.func22, Tryz.ntmps22
  go_wp2_with (first
    | (refine wpList_load_row rfl 46 _ rfl (w.heap.size + 1) rfl 46 (D.SA (verL v)) (0, 0) _ (by rw [heap_alloc_if, if_pos (by simp), D.SA_set, D.SA_set, D.SA_set, verL_sets h0 h1]) Tryz.underlying46 rfl (by rw [D.sz26, D.SA_size, verL_len]) ?_)
    | (refine D.store_sec rfl _ _ rfl w.heap.size rfl (verL v) rfl (verL_len v) D.Zs D.Zs_len (by rw [heap_alloc_if, if_neg (by simp), heap_alloc_if, if_pos rfl]) ?_; intro w3 hw3)
    | fail)
  refine bodyPost_ret (v := .agg (D.SA (verL v))) (D.results_sec1 Tryz.results22 _ _ w.heap.size (verL v) (verL_len v) rfl hw3.here) rfl ⟨rfl, ((Chg.alloc _ _ _).tr (Chg.alloc _ _ _)).trans (wrote_chg hw3) (fun _ _ e => e) (fun j hj e => by omega)⟩

theorem size_any (x : Int) (hx : I64 x) (w : World) : Calls Tryz.prog 50 #[.int .i64 x] w fun e w' => e = .returned (.int .i64 (8 + D.pickN x 25)) ∧ w' = w := by
  have HP := D.pick_any x 25 w hx (by omega) (by omega)
  have hb := D.pickN_bd x (n := 25) (by omega)
  generalize D.pickN x 25 = y at *
  obtain ⟨h0, h1⟩ := hb
  go_enter Tryz.func50, Tryz.ntmps50
  go_wp2_with (first
    | (go_at_call 8; go_must (refine HP.mono ?_; rintro e w1 ⟨rfl, rfl⟩))
    | fail)
  go_ret
  exact ⟨rfl, rfl⟩

end Go.Proofs.YtgkanfmkohlmcaaGreat

namespace Go.Proofs.YtgkanfmkohlmcaaGreat
open Go.RowKit

/-- What a teller has. -/
structure TSt where
  z : CSt
  last : List Int
  di : List Bool
  od : List (Int × Int × Int × Int)
  nx : Int
def IA (l : List Int) : Array Value := (l.map (Value.int .i64)).toArray
def BA (l : List Bool) : Array Value := (l.map Value.bool).toArray
theorem IA_size (l : List Int) : (IA l).size = l.length := by simp [IA]
theorem IA_set (l : List Int) (k : Nat) (x : Int) : (IA l).setIfInBounds k (.int .i64 x) = IA (l.set k x) := by simp [IA, List.map_set]
theorem BA_set (l : List Bool) (k : Nat) (x : Bool) : (BA l).setIfInBounds k (.bool x) = BA (l.set k x) := by simp [BA, List.map_set]
theorem IA_get (l : List Int) {k : Nat} (h : k < l.length) : (IA l)[k]? = some (.int .i64 (l.getD k 0)) := by simp [IA, h]
theorem BA_get (l : List Bool) {k : Nat} (h : k < l.length) : (BA l)[k]? = some (.bool (l.getD k false)) := by simp [BA, h]
/-- An order's four cells. -/
def oc (o : Int × Int × Int × Int) : List Value := [.int .i64 o.1, .int .i64 o.2.1, .int .i64 o.2.2.1, .int .i64 o.2.2.2]
def ocs (l : List (Int × Int × Int × Int)) : List Value := l.flatMap oc
theorem ocs_len (l : List (Int × Int × Int × Int)) : (ocs l).length = l.length * 4 := by
  induction l with
  | nil => rfl
  | cons o l ih =>
    show (oc o ++ ocs l).length = _
    rw [List.length_append, ih]
    simp [oc]
    omega
theorem ocs_append (l m : List (Int × Int × Int × Int)) : ocs (l ++ m) = ocs l ++ ocs m := by simp [ocs]
theorem ocs_one : ∀ l, ∀ u ∈ ocs l, u.oneCell' = true := by
  intro l u hu
  simp only [ocs, List.mem_flatMap, oc] at hu
  obtain ⟨o, _, hu⟩ := hu
  simp at hu
  rcases hu with rfl | rfl | rfl | rfl <;> rfl
theorem ocs_get : ∀ (l : List (Int × Int × Int × Int)) (k j : Nat), k < l.length → j < 4 → (ocs l)[k * 4 + j]? = (oc (l.getD k (0, 0, 0, 0)))[j]?
  | [], k, j, h, _ => absurd h (by simp)
  | o :: l, 0, j, _, hj => by
    show (oc o ++ ocs l)[0 * 4 + j]? = _
    rw [List.getElem?_append_left (by simp [oc]; omega)]
    simp
  | o :: l, k + 1, j, h, hj => by
    show (oc o ++ ocs l)[(k + 1) * 4 + j]? = _
    rw [List.getElem?_append_right (by simp [oc]; omega)]
    have := ocs_get l k j (by simpa using h) hj
    rw [show (k + 1) * 4 + j - (oc o).length = k * 4 + j by simp [oc]; omega, this]
    simp
/-- A list of orders that lies in memory. -/
def Ords (w : World) (base : Nat) (v : Value) (l : List (Int × Int × Int × Int)) : Prop := w.ownsRow base 82 4 v l.length (ocs l)
def TC (p c lb db n : Nat) (ov : Value) (nx : Int) : Array Value := #[.pointer (some ⟨p, 0, none⟩), .pointer (some ⟨c, 0, none⟩), .slice (some ⟨lb, 0, none⟩) n n, .slice (some ⟨db, 0, none⟩) n n, ov, .int .i64 nx]

structure IsT (w0 w : World) (t c p g n lb db : Nat) (ρ : Nat → Option Role) (ov : Value) (s : TSt) : Prop where
  me : w.heap[t]? = some (.cells (TC p c lb db n ov s.nx) 33 (0, 0))
  ca : IsC w c p g n ρ s.z
  la : w.heap[lb]? = some (.cells (IA s.last) 3 (0, 0))
  da : w.heap[db]? = some (.cells (BA s.di) 4 (0, 0))
  oa : Ords w w0.heap.size ov s.od
  ll : s.last.length = n
  dl : s.di.length = n
  nt : ¬ Own ρ t
  nl : ¬ Own ρ lb
  nd : ¬ Own ρ db
  no : ∀ k, ov.ownBlock = some k → ¬ Own ρ k
  bt : w0.heap.size ≤ t
  bl : w0.heap.size ≤ lb
  bd : w0.heap.size ≤ db
  bo : ∀ k, Own ρ k → w0.heap.size ≤ k
  ch : Chg w0 w No
/-- A teller that is new since w0. -/
def FT (w0 w : World) (t c p g n : Nat) (s : TSt) : Prop := ∃ lb db ρ ov, IsT w0 w t c p g n lb db ρ ov s

section
variable {w0 w w' : World} {t c p g n lb db : Nat} {ρ : Nat → Option Role} {ov : Value} {s : TSt}
theorem cells_ne {w : World} {a b : Nat} {x y : Array Value} {t1 t2 : TypeId} (h : w.heap[a]? = some (.cells x t1 (0, 0))) (k : w.heap[b]? = some (.cells y t2 (0, 0))) (hne : t1 ≠ t2) : a ≠ b := fun e => by
  subst e
  rw [h] at k
  cases k
  exact hne rfl
theorem IsT.ov_cells (h : IsT w0 w t c p g n lb db ρ ov s) {k : Nat} (hk : ov.ownBlock = some k) : ∃ cur, w.heap[k]? = some (.cells cur 82 (0, 0)) := row_kind h.oa hk
theorem IsT.ntl (h : IsT w0 w t c p g n lb db ρ ov s) : t ≠ lb := cells_ne h.me h.la (by decide)
theorem IsT.ntd (h : IsT w0 w t c p g n lb db ρ ov s) : t ≠ db := cells_ne h.me h.da (by decide)
theorem IsT.nld (h : IsT w0 w t c p g n lb db ρ ov s) : lb ≠ db := cells_ne h.la h.da (by decide)
theorem IsT.nto (h : IsT w0 w t c p g n lb db ρ ov s) : ¬ ov.ownBlock = some t := fun e => by
  obtain ⟨cur, hc⟩ := h.ov_cells e
  exact cells_ne h.me hc (by decide) rfl
theorem IsT.nlo (h : IsT w0 w t c p g n lb db ρ ov s) : ¬ ov.ownBlock = some lb := fun e => by
  obtain ⟨cur, hc⟩ := h.ov_cells e
  exact cells_ne h.la hc (by decide) rfl
theorem IsT.ndo (h : IsT w0 w t c p g n lb db ρ ov s) : ¬ ov.ownBlock = some db := fun e => by
  obtain ⟨cur, hc⟩ := h.ov_cells e
  exact cells_ne h.da hc (by decide) rfl
theorem IsT.call (h : IsT w0 w t c p g n lb db ρ ov s) (hc : Chg w w' No) : IsT w0 w' t c p g n lb db ρ ov s :=
  ⟨hc.keep h.me (fun e => e), h.ca.call hc, hc.keep h.la (fun e => e), hc.keep h.da (fun e => e), row_keep h.oa hc (fun _ _ e => e), h.ll, h.dl, h.nt, h.nl, h.nd, h.no, h.bt, h.bl, h.bd, h.bo, h.ch.tr hc⟩
theorem FT.call (h : FT w0 w t c p g n s) (hc : Chg w w' No) : FT w0 w' t c p g n s := let ⟨lb, db, ρ, ov, h⟩ := h; ⟨lb, db, ρ, ov, h.call hc⟩
theorem IsT.c0 (h : IsT w0 w t c p g n lb db ρ ov s) : w.cell? ⟨t, 0, none⟩ = some (.pointer (some ⟨p, 0, none⟩)) := by rw [cell_of_row _ _ _ _ _ _ h.me]; rfl
theorem IsT.c1 (h : IsT w0 w t c p g n lb db ρ ov s) : w.cell? ⟨t, 1, none⟩ = some (.pointer (some ⟨c, 0, none⟩)) := by rw [cell_of_row _ _ _ _ _ _ h.me]; rfl
theorem IsT.c2 (h : IsT w0 w t c p g n lb db ρ ov s) : w.cell? ⟨t, 2, none⟩ = some (.slice (some ⟨lb, 0, none⟩) n n) := by rw [cell_of_row _ _ _ _ _ _ h.me]; rfl
theorem IsT.c3 (h : IsT w0 w t c p g n lb db ρ ov s) : w.cell? ⟨t, 3, none⟩ = some (.slice (some ⟨db, 0, none⟩) n n) := by rw [cell_of_row _ _ _ _ _ _ h.me]; rfl
theorem IsT.c4 (h : IsT w0 w t c p g n lb db ρ ov s) : w.cell? ⟨t, 4, none⟩ = some ov := by rw [cell_of_row _ _ _ _ _ _ h.me]; rfl
theorem IsT.c5 (h : IsT w0 w t c p g n lb db ρ ov s) : w.cell? ⟨t, 5, none⟩ = some (.int .i64 s.nx) := by rw [cell_of_row _ _ _ _ _ _ h.me]; rfl
theorem IsT.fz (h : IsT w0 w t c p g n lb db ρ ov s) (j : Nat) : w.frozen? ⟨t, j, none⟩ = false := frozen_of_row w t j _ _ h.me
theorem IsT.lc (h : IsT w0 w t c p g n lb db ρ ov s) {k : Nat} (hk : k < n) : w.cell? ⟨lb, k, none⟩ = some (.int .i64 (s.last.getD k 0)) := by rw [cell_of_row _ _ _ _ _ _ h.la]; exact IA_get _ (by rw [h.ll]; exact hk)
theorem IsT.dc (h : IsT w0 w t c p g n lb db ρ ov s) {k : Nat} (hk : k < n) : w.cell? ⟨db, k, none⟩ = some (.bool (s.di.getD k false)) := by rw [cell_of_row _ _ _ _ _ _ h.da]; exact BA_get _ (by rw [h.dl]; exact hk)
/-- The cache does something. -/
theorem IsT.cache {z' : CSt} (h : IsT w0 w t c p g n lb db ρ ov s) (hP : CPost w w' c p g n ρ z') : FT w0 w' t c p g n { s with z := z' } := by
  obtain ⟨ρ', k1, k2, k3⟩ := hP
  have hs := h.ch.size
  have keep : ∀ k, k < w.heap.size → ¬ Own ρ k → ¬ Own ρ' k := fun k hk hn ho => by
    rcases k2 k ho with e | e
    · exact hn e
    · omega
  refine ⟨lb, db, ρ', ov, k3.keep h.me h.nt, k1, k3.keep h.la h.nl, k3.keep h.da h.nd, row_keep h.oa k3 h.no, h.ll, h.dl, keep _ (slt h.me) h.nt, keep _ (slt h.la) h.nl, keep _ (slt h.da) h.nd, fun k hk => keep k (row_ge h.oa hk).2 (h.no k hk), h.bt, h.bl, h.bd, fun k hk => ?_, h.ch.trans k3 (fun _ _ e => e) (fun j hj e => ?_)⟩
  · rcases k2 k hk with e | e
    · exact h.bo k e
    · omega
  · have := h.bo j e
    omega
/-- A flag is turned. -/
theorem IsT.flag (h : IsT w0 w t c p g n lb db ρ ov s) (k : Nat) (b : Bool) : IsT w0 (w.setCell ⟨db, k, none⟩ (.bool b)) t c p g n lb db ρ ov { s with di := s.di.set k b } := by
  have hc : Chg w (w.setCell ⟨db, k, none⟩ (.bool b)) (· = db) := Chg.setCell
  refine ⟨hc.keep h.me h.ntd, h.ca.keep hc (fun j hj e => h.nd (by rw [← e]; exact hj)), hc.keep h.la h.nld, ?_, row_keep h.oa hc (fun j hj e => h.ndo (by rw [← e]; exact hj)), h.ll, by simp only [List.length_set]; exact h.dl, h.nt, h.nl, h.nd, h.no, h.bt, h.bl, h.bd, h.bo, h.ch.trans hc (fun _ _ e => e) (fun j hj e => by have := h.bd; omega)⟩
  rw [heap_setCell_same w db k _ _ _ h.da, BA_set]
/-- A version is told. -/
theorem IsT.told (h : IsT w0 w t c p g n lb db ρ ov s) (k : Nat) (b : Int) : IsT w0 (w.setCell ⟨lb, k, none⟩ (.int .i64 b)) t c p g n lb db ρ ov { s with last := s.last.set k b } := by
  have hc : Chg w (w.setCell ⟨lb, k, none⟩ (.int .i64 b)) (· = lb) := Chg.setCell
  refine ⟨hc.keep h.me h.ntl, h.ca.keep hc (fun j hj e => h.nl (by rw [← e]; exact hj)), ?_, hc.keep h.da (fun e => h.nld e.symm), row_keep h.oa hc (fun j hj e => h.nlo (by rw [← e]; exact hj)), by simp only [List.length_set]; exact h.ll, h.dl, h.nt, h.nl, h.nd, h.no, h.bt, h.bl, h.bd, h.bo, h.ch.trans hc (fun _ _ e => e) (fun j hj e => by have := h.bl; omega)⟩
  rw [heap_setCell_same w lb k _ _ _ h.la, IA_set]
/-- The next version. -/
theorem IsT.next (h : IsT w0 w t c p g n lb db ρ ov s) (x : Int) : IsT w0 (w.setCell ⟨t, 5, none⟩ (.int .i64 x)) t c p g n lb db ρ ov { s with nx := x } := by
  have hc : Chg w (w.setCell ⟨t, 5, none⟩ (.int .i64 x)) (· = t) := Chg.setCell
  refine ⟨?_, h.ca.keep hc (fun j hj e => h.nt (by rw [← e]; exact hj)), hc.keep h.la (fun e => h.ntl e.symm), hc.keep h.da (fun e => h.ntd e.symm), row_keep h.oa hc (fun j hj e => h.nto (by rw [← e]; exact hj)), h.ll, h.dl, h.nt, h.nl, h.nd, h.no, h.bt, h.bl, h.bd, h.bo, h.ch.trans hc (fun _ _ e => e) (fun j hj e => by have := h.bt; omega)⟩
  rw [heap_setCell_same w t 5 _ _ _ h.me]
  rfl
/-- Another list of orders. -/
theorem IsT.orders {w1 : World} {v : Value} {l : List (Int × Int × Int × Int)} (h : IsT w0 w1 t c p g n lb db ρ ov s) (hv : Ords w1 w0.heap.size v l) (hn : ∀ k, v.ownBlock = some k → ¬ Own ρ k) : IsT w0 (w1.setCell ⟨t, 4, none⟩ v) t c p g n lb db ρ v { s with od := l } := by
  have hc : Chg w1 (w1.setCell ⟨t, 4, none⟩ v) (· = t) := Chg.setCell
  have hvt : ∀ k, v.ownBlock = some k → k ≠ t := fun k hk e => by
    obtain ⟨cur, h2⟩ := row_kind hv hk
    subst e
    exact cells_ne h.me h2 (by decide) rfl
  refine ⟨?_, h.ca.keep hc (fun j hj e => h.nt (by rw [← e]; exact hj)), hc.keep h.la (fun e => h.ntl e.symm), hc.keep h.da (fun e => h.ntd e.symm), row_keep hv hc hvt, h.ll, h.dl, h.nt, h.nl, h.nd, hn, h.bt, h.bl, h.bd, h.bo, h.ch.trans hc (fun _ _ e => e) (fun j hj e => by have := h.bt; omega)⟩
  rw [heap_setCell_same w1 t 4 _ _ _ h.me]
  rfl
end

end Go.Proofs.YtgkanfmkohlmcaaGreat
