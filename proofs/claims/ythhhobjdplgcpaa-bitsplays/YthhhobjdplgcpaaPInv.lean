/-
  Two rows and the document's two side by side: what is known of them between two calls.
-/
import Derived.Test.YthhhobjdplgcpaaWRefused
import Derived.Deep.MidRow
namespace Go.Proofs.Ythhhobjdplgcpaa
open Go.RowKit

theorem cell_keep {w w' : World} {g j : Nat} {v : Value} {ks : Nat → Prop} (h : w.cell? ⟨g, j, none⟩ = some v) (hc : Chg w w' ks) (hg : g < w.heap.size) (hn : ¬ ks g) : w'.cell? ⟨g, j, none⟩ = some v := by
  rw [World.cell?_of_block (hc.block g hg hn)]
  exact h
theorem cell_lt {w : World} {b o : Nat} {v : Value} (h : w.cell? ⟨b, o, none⟩ = some v) : b < w.heap.size := by
  rcases Nat.lt_or_ge b w.heap.size with k | k
  · exact k
  · simp [World.cell?, Array.getElem?_eq_none k] at h
theorem chg_drew (w : World) : Chg w w.drew No := (Chg.refl w No).drew
theorem obj_ne {w : World} {a b : Nat} {x y : Array Value} {s t : TypeId} (ha : w.heap[a]? = some (.cells x s (0, 0))) (hb : w.heap[b]? = some (.cells y t (0, 0))) (h : s ≠ t) : a ≠ b := by
  intro e
  rw [e, hb] at ha
  injection ha with ha
  injection ha with _ h2
  exact h h2.symm
theorem IsB.gblock {w : World} {p g : Nat} {L : List Bool} (h : IsB w p g L) : ∃ x, w.heap[g]? = some (.cells x 55 (0, 0)) := by
  obtain ⟨W, hW, _⟩ := h.words
  exact ⟨_, hW⟩

def upd {α : Type} (f : Nat → α) (k : Nat) (v : α) : Nat → α := fun i => if i = k then v else f i
theorem upd_same {α : Type} (f : Nat → α) (k : Nat) (v : α) : upd f k v k = v := if_pos rfl
theorem upd_ne {α : Type} (f : Nat → α) {k i : Nat} (v : α) (h : i ≠ k) : upd f k v i = f i := if_neg h

structure PInv (w0 w : World) (x y z : Nat) (N P G R K : Nat → Nat) (SB SR : Nat → List Bool) : Prop where
  cx : ∀ i, i < 2 → w.cell? ⟨x, i, none⟩ = some (.int .i64 (N i : Int))
  cy : ∀ i, i < 2 → w.cell? ⟨y, i, none⟩ = some (.pointer (some ⟨P i, 0, none⟩))
  cz : ∀ i, i < 2 → w.cell? ⟨z, i, none⟩ = some (.pointer (some ⟨R i, 0, none⟩))
  ap : ∀ i q, i < 2 → q = x ∨ q = y ∨ q = z → q ≠ G i ∧ q ≠ K i
  b : ∀ i, i < 2 → IsB w (P i) (G i) (SB i)
  r : ∀ i, i < 2 → IsR w (R i) (K i) (SR i)
  gg : ∀ i j, i < 2 → j < 2 → i ≠ j → G i ≠ G j
  kk : ∀ i j, i < 2 → j < 2 → i ≠ j → K i ≠ K j
  nb : ∀ i, i < 2 → (SB i).length = N i
  nr : ∀ i, i < 2 → (SR i).length = N i
  low : ∀ i, i < 2 → w0.heap.size ≤ G i ∧ w0.heap.size ≤ K i
  old : Below w0.heap.size w0 w

theorem PInv.keep {w0 w w' : World} {x y z : Nat} {N P G R K : Nat → Nat} {SB SR : Nat → List Bool} (h : PInv w0 w x y z N P G R K SB SR) (hc : Chg w w' No) : PInv w0 w' x y z N P G R K SB SR :=
  ⟨fun i hi => cell_keep (h.cx i hi) hc (cell_lt (h.cx i hi)) (fun e => e), fun i hi => cell_keep (h.cy i hi) hc (cell_lt (h.cy i hi)) (fun e => e), fun i hi => cell_keep (h.cz i hi) hc (cell_lt (h.cz i hi)) (fun e => e),
   h.ap, fun i hi => (h.b i hi).keep hc (fun e => e) (fun e => e), fun i hi => (h.r i hi).keep hc (fun e => e) (fun e => e), h.gg, h.kk, h.nb, h.nr, h.low, hc.to h.old h.old.size (fun _ e => e.elim)⟩
theorem PInv.drew {w0 w : World} {x y z : Nat} {N P G R K : Nat → Nat} {SB SR : Nat → List Bool} (h : PInv w0 w x y z N P G R K SB SR) : PInv w0 w.drew x y z N P G R K SB SR := h.keep (chg_drew w)
theorem PInv.setB {w0 w w' : World} {x y z : Nat} {N P G R K : Nat → Nat} {SB SR : Nat → List Bool} (h : PInv w0 w x y z N P G R K SB SR) {k : Nat} (hk : k < 2) {L : List Bool} (hb : IsB w' (P k) (G k) L) (hc : Chg w w' (· = G k)) (hl : L.length = N k) : PInv w0 w' x y z N P G R K (upd SB k L) SR := by
  obtain ⟨gx, hgx⟩ := (h.b k hk).gblock
  refine ⟨fun i hi => cell_keep (h.cx i hi) hc (cell_lt (h.cx i hi)) (h.ap k x hk (.inl rfl)).1, fun i hi => cell_keep (h.cy i hi) hc (cell_lt (h.cy i hi)) (h.ap k y hk (.inr (.inl rfl))).1, fun i hi => cell_keep (h.cz i hi) hc (cell_lt (h.cz i hi)) (h.ap k z hk (.inr (.inr rfl))).1,
    h.ap, fun i hi => ?_, fun i hi => (h.r i hi).keep hc (obj_ne (h.r i hi).me hgx (by decide)) (obj_ne (h.r i hi).row hgx (by decide)), h.gg, h.kk, fun i hi => ?_, h.nr, h.low, hc.to h.old h.old.size (fun j e => by rw [e]; exact (h.low k hk).1)⟩
  · by_cases e : i = k
    · subst e; rw [upd_same]; exact hb
    · rw [upd_ne _ _ e]; exact (h.b i hi).keep hc (obj_ne (h.b i hi).me hgx (by decide)) (h.gg i k hi hk e)
  · by_cases e : i = k
    · subst e; rw [upd_same]; exact hl
    · rw [upd_ne _ _ e]; exact h.nb i hi
theorem PInv.setR {w0 w w' : World} {x y z : Nat} {N P G R K : Nat → Nat} {SB SR : Nat → List Bool} (h : PInv w0 w x y z N P G R K SB SR) {k : Nat} (hk : k < 2) {L : List Bool} (hb : IsR w' (R k) (K k) L) (hc : Chg w w' (· = K k)) (hl : L.length = N k) : PInv w0 w' x y z N P G R K SB (upd SR k L) := by
  have hgx := (h.r k hk).row
  refine ⟨fun i hi => cell_keep (h.cx i hi) hc (cell_lt (h.cx i hi)) (h.ap k x hk (.inl rfl)).2, fun i hi => cell_keep (h.cy i hi) hc (cell_lt (h.cy i hi)) (h.ap k y hk (.inr (.inl rfl))).2, fun i hi => cell_keep (h.cz i hi) hc (cell_lt (h.cz i hi)) (h.ap k z hk (.inr (.inr rfl))).2,
    h.ap, fun i hi => ?_, fun i hi => ?_, h.gg, h.kk, h.nb, fun i hi => ?_, h.low, hc.to h.old h.old.size (fun j e => by rw [e]; exact (h.low k hk).2)⟩
  · obtain ⟨bx, hbx⟩ := (h.b i hi).gblock
    exact (h.b i hi).keep hc (obj_ne (h.b i hi).me hgx (by decide)) (obj_ne hbx hgx (by decide))
  · by_cases e : i = k
    · subst e; rw [upd_same]; exact hb
    · rw [upd_ne _ _ e]; exact (h.r i hi).keep hc (obj_ne (h.r i hi).me hgx (by decide)) (h.kk i k hi hk e)
  · by_cases e : i = k
    · subst e; rw [upd_same]; exact hl
    · rw [upd_ne _ _ e]; exact h.nr i hi

/-- The call that is being done lies at o. -/
structure OI (w : World) (G K : Nat → Nat) (o : Nat) (at_ : Int) : Prop where
  c : w.cell? ⟨o, 2, none⟩ = some (.int .i64 at_)
  a : ∀ i, i < 2 → o ≠ G i ∧ o ≠ K i
theorem OI.keep {w w' : World} {G K : Nat → Nat} {o : Nat} {at_ : Int} (h : OI w G K o at_) (hc : Chg w w' No) : OI w' G K o at_ := ⟨cell_keep h.c hc (cell_lt h.c) (fun e => e), h.a⟩
theorem OI.drew {w : World} {G K : Nat → Nat} {o : Nat} {at_ : Int} (h : OI w G K o at_) : OI w.drew G K o at_ := h.keep (chg_drew w)
theorem OI.setB {w w' : World} {G K : Nat → Nat} {o : Nat} {at_ : Int} (h : OI w G K o at_) {k : Nat} (hk : k < 2) (hc : Chg w w' (· = G k)) : OI w' G K o at_ := ⟨cell_keep h.c hc (cell_lt h.c) (h.a k hk).1, h.a⟩
theorem OI.setR {w w' : World} {G K : Nat → Nat} {o : Nat} {at_ : Int} (h : OI w G K o at_) {k : Nat} (hk : k < 2) (hc : Chg w w' (· = K k)) : OI w' G K o at_ := ⟨cell_keep h.c hc (cell_lt h.c) (h.a k hk).2, h.a⟩
/-- What the operations of a call read. -/
structure S4 (x y z o k : Nat) (n p r : Nat) (at_ : Int) (w : World) : Prop where
  x : w.cell? ⟨x, k, none⟩ = some (.int .i64 (n : Int))
  y : w.cell? ⟨y, k, none⟩ = some (.pointer (some ⟨p, 0, none⟩))
  z : w.cell? ⟨z, k, none⟩ = some (.pointer (some ⟨r, 0, none⟩))
  o : w.cell? ⟨o, 2, none⟩ = some (.int .i64 at_)
theorem PInv.four {w0 w : World} {x y z : Nat} {N P G R K : Nat → Nat} {SB SR : Nat → List Bool} (h : PInv w0 w x y z N P G R K SB SR) {o : Nat} {at_ : Int} (ho : OI w G K o at_) {k : Nat} (hk : k < 2) : S4 x y z o k (N k) (P k) (R k) at_ w := ⟨h.cx k hk, h.cy k hk, h.cz k hk, ho.c⟩

/-- The first loop: both arrays are filled. -/
def pv (p : Nat) : Value := .pointer (some ⟨p, 0, none⟩)
structure Z0 (w0 w : World) (x y z n0 n1 : Nat) (vy vz : Value) (vy' vz' : Value) : Prop where
  hx : w.heap[x]? = some (.cells #[.int .i64 (n0 : Int), .int .i64 (n1 : Int)] 36 (0, 0))
  hy : w.heap[y]? = some (.cells #[vy, vy'] 37 (0, 0))
  hz : w.heap[z]? = some (.cells #[vz, vz'] 38 (0, 0))
  old : Below w0.heap.size w0 w
  lx : w0.heap.size ≤ y ∧ w0.heap.size ≤ z
theorem Z0.keep {w0 w w' : World} {x y z n0 n1 : Nat} {a b c d : Value} (h : Z0 w0 w x y z n0 n1 a b c d) (hc : Chg w w' No) : Z0 w0 w' x y z n0 n1 a b c d :=
  ⟨hc.keep h.hx (fun e => e), hc.keep h.hy (fun e => e), hc.keep h.hz (fun e => e), hc.to h.old h.old.size (fun _ e => e.elim), h.lx⟩
theorem Z0.put0 {w0 w : World} {x y z n0 n1 : Nat} {a b c d : Value} (h : Z0 w0 w x y z n0 n1 a b c d) (v u : Value) : Z0 w0 ((w.setCell ⟨y, 0, none⟩ v).setCell ⟨z, 0, none⟩ u) x y z n0 n1 v u c d := by
  have nxy := obj_ne h.hx h.hy (by decide)
  have nxz := obj_ne h.hx h.hz (by decide)
  have nyz := obj_ne h.hy h.hz (by decide)
  have e1 : (w.setCell ⟨y, 0, none⟩ v).heap[z]? = some (.cells #[b, d] 38 (0, 0)) := by rw [heap_setCell_other w ⟨y, 0, none⟩ z v (fun e => nyz e.symm)]; exact h.hz
  refine ⟨?_, ?_, ?_, ?_, h.lx⟩
  · rw [heap_setCell_other _ ⟨z, 0, none⟩ x u nxz, heap_setCell_other w ⟨y, 0, none⟩ x v nxy]; exact h.hx
  · rw [heap_setCell_other _ ⟨z, 0, none⟩ y u nyz, heap_setCell_same w y 0 _ 37 v h.hy]; rfl
  · rw [heap_setCell_same _ z 0 _ 38 u e1]; rfl
  · have c1 : Chg w (w.setCell ⟨y, 0, none⟩ v) (· = y) := Chg.setCell
    have b1 := c1.to h.old h.old.size (fun j e => by rw [e]; exact h.lx.1)
    exact (Chg.setCell (w := w.setCell ⟨y, 0, none⟩ v) (g := z) (j := 0) (v := u)).to b1 b1.size (fun j e => by rw [e]; exact h.lx.2)
theorem Z0.put1 {w0 w : World} {x y z n0 n1 : Nat} {a b c d : Value} (h : Z0 w0 w x y z n0 n1 a b c d) (v u : Value) : Z0 w0 ((w.setCell ⟨y, 1, none⟩ v).setCell ⟨z, 1, none⟩ u) x y z n0 n1 a b v u := by
  have nxy := obj_ne h.hx h.hy (by decide)
  have nxz := obj_ne h.hx h.hz (by decide)
  have nyz := obj_ne h.hy h.hz (by decide)
  have e1 : (w.setCell ⟨y, 1, none⟩ v).heap[z]? = some (.cells #[b, d] 38 (0, 0)) := by rw [heap_setCell_other w ⟨y, 1, none⟩ z v (fun e => nyz e.symm)]; exact h.hz
  refine ⟨?_, ?_, ?_, ?_, h.lx⟩
  · rw [heap_setCell_other _ ⟨z, 1, none⟩ x u nxz, heap_setCell_other w ⟨y, 1, none⟩ x v nxy]; exact h.hx
  · rw [heap_setCell_other _ ⟨z, 1, none⟩ y u nyz, heap_setCell_same w y 1 _ 37 v h.hy]; rfl
  · rw [heap_setCell_same _ z 1 _ 38 u e1]; rfl
  · have c1 : Chg w (w.setCell ⟨y, 1, none⟩ v) (· = y) := Chg.setCell
    have b1 := c1.to h.old h.old.size (fun j e => by rw [e]; exact h.lx.1)
    exact (Chg.setCell (w := w.setCell ⟨y, 1, none⟩ v) (g := z) (j := 1) (v := u)).to b1 b1.size (fun j e => by rw [e]; exact h.lx.2)
/-- Rows stand behind the two stores. -/
theorem Z0.rowB {w0 w : World} {x y z n0 n1 : Nat} {a b c d : Value} (h : Z0 w0 w x y z n0 n1 a b c d) {p g : Nat} {L : List Bool} (hb : IsB w p g L) (i : Nat) (v u : Value) : IsB ((w.setCell ⟨y, i, none⟩ v).setCell ⟨z, i, none⟩ u) p g L := by
  obtain ⟨gx, hgx⟩ := hb.gblock
  exact (hb.keep Chg.setCell (obj_ne hb.me h.hy (by decide)) (obj_ne hgx h.hy (by decide))).keep Chg.setCell (obj_ne hb.me h.hz (by decide)) (obj_ne hgx h.hz (by decide))
theorem Z0.rowR {w0 w : World} {x y z n0 n1 : Nat} {a b c d : Value} (h : Z0 w0 w x y z n0 n1 a b c d) {p g : Nat} {L : List Bool} (hb : IsR w p g L) (i : Nat) (v u : Value) : IsR ((w.setCell ⟨y, i, none⟩ v).setCell ⟨z, i, none⟩ u) p g L :=
  (hb.keep Chg.setCell (obj_ne hb.me h.hy (by decide)) (obj_ne hb.row h.hy (by decide))).keep Chg.setCell (obj_ne hb.me h.hz (by decide)) (obj_ne hb.row h.hz (by decide))
def two {α : Type} (a b : α) : Nat → α := fun i => if i = 0 then a else b
theorem Z0.inv {w0 w : World} {x y z n0 n1 p0 p1 g0 g1 r0 r1 k0 k1 : Nat} (h : Z0 w0 w x y z n0 n1 (pv p0) (pv r0) (pv p1) (pv r1)) (b0 : IsB w p0 g0 (noneL n0)) (b1 : IsB w p1 g1 (noneL n1)) (q0 : IsR w r0 k0 (noneL n0)) (q1 : IsR w r1 k1 (noneL n1)) (hg : g0 ≠ g1) (hk : k0 ≠ k1) (l0 : w0.heap.size ≤ g0 ∧ w0.heap.size ≤ k0) (l1 : w0.heap.size ≤ g1 ∧ w0.heap.size ≤ k1) :
    PInv w0 w x y z (two n0 n1) (two p0 p1) (two g0 g1) (two r0 r1) (two k0 k1) (two (noneL n0) (noneL n1)) (two (noneL n0) (noneL n1)) := by
  have two2 : ∀ {Q : Nat → Prop}, Q 0 → Q 1 → ∀ i, i < 2 → Q i := fun a b i hi => by
    match i, hi with
    | 0, _ => exact a
    | 1, _ => exact b
  have ap : ∀ {g : Nat} {X : Array Value} {t : TypeId}, w.heap[g]? = some (.cells X t (0, 0)) → t ≠ 36 → t ≠ 37 → t ≠ 38 → ∀ q, q = x ∨ q = y ∨ q = z → q ≠ g := by
    intro g X t hg h1 h2 h3 q hq
    rcases hq with rfl | rfl | rfl
    · exact obj_ne h.hx hg (fun e => h1 e.symm)
    · exact obj_ne h.hy hg (fun e => h2 e.symm)
    · exact obj_ne h.hz hg (fun e => h3 e.symm)
  obtain ⟨X0, hX0⟩ := b0.gblock
  obtain ⟨X1, hX1⟩ := b1.gblock
  refine ⟨two2 ?_ ?_, two2 ?_ ?_, two2 ?_ ?_, ?_, two2 b0 b1, two2 q0 q1, ?_, ?_, two2 (noneL_len n0) (noneL_len n1), two2 (noneL_len n0) (noneL_len n1), two2 l0 l1, h.old⟩
  · rw [cell_of_row _ _ _ _ _ _ h.hx]; rfl
  · rw [cell_of_row _ _ _ _ _ _ h.hx]; rfl
  · rw [cell_of_row _ _ _ _ _ _ h.hy]; rfl
  · rw [cell_of_row _ _ _ _ _ _ h.hy]; rfl
  · rw [cell_of_row _ _ _ _ _ _ h.hz]; rfl
  · rw [cell_of_row _ _ _ _ _ _ h.hz]; rfl
  · intro i q hi hq
    revert i
    exact two2 ⟨ap hX0 (by decide) (by decide) (by decide) q hq, ap q0.row (by decide) (by decide) (by decide) q hq⟩ ⟨ap hX1 (by decide) (by decide) (by decide) q hq, ap q1.row (by decide) (by decide) (by decide) q hq⟩
  · intro i j hi hj
    revert j
    revert i
    exact two2 (fun j hj => by revert j; exact two2 (fun e => absurd rfl e) (fun _ => hg)) (fun j hj => by revert j; exact two2 (fun _ => hg.symm) (fun e => absurd rfl e))
  · intro i j hi hj
    revert j
    revert i
    exact two2 (fun j hj => by revert j; exact two2 (fun e => absurd rfl e) (fun _ => hk)) (fun j hj => by revert j; exact two2 (fun _ => hk.symm) (fun e => absurd rfl e))

/-- One call of a script. -/
structure OpV where
  kd : Int
  on : Int
  at_ : Int
def OpV.z : OpV := ⟨0, 0, 0⟩
def OpV.cells (s : OpV) : List Value := [.int .i64 s.kd, .int .i64 s.on, .int .i64 s.at_]
def OpV.OK (s : OpV) : Prop := I64 s.kd ∧ I64 s.on ∧ I64 s.at_
/-- A script that lies in memory. -/
def ScriptAt (w : World) (ad : Option Addr) (ws : List OpV) : Prop :=
  ws = [] ∨ ∃ b o, ad = some ⟨b, o, none⟩ ∧ b < w.heap.size ∧ ∀ j, j < ws.length → ∀ i v, (ws.getD j OpV.z).cells[i]? = some v → w.cell? ⟨b, o + j * 3 + i, none⟩ = some v
theorem ScriptAt.range {w w' : World} {ad : Option Addr} {ws : List OpV} (h : ScriptAt w ad ws) (hb : Below w.heap.size w w') {j : Nat} (hj : j < ws.length) : ∃ b o, ad = some ⟨b, o, none⟩ ∧ w'.rangeAt b (o + j * 3) (ws.getD j OpV.z).cells := by
  rcases h with h | ⟨b, o, rfl, hl, h⟩
  · rw [h] at hj; exact absurd hj (Nat.not_lt_zero _)
  · refine ⟨b, o, rfl, fun i v hv => ?_⟩
    rw [hb.cell (p := ⟨b, o + j * 3 + i, none⟩) hl]
    exact h j hj i v hv
theorem szO : (Try.prog.info? 40).map (·.size) = some 3 := by kernel_rfl
theorem sz2i : (Try.prog.info? 36).map (·.size) = some 2 := by kernel_rfl
theorem zero_2i (w : World) : (zeroValue 36).run Try.prog w = .ok (.agg #[.int .i64 0, .int .i64 0]) w := by kernel_rfl
theorem zero_2B (w : World) : (zeroValue 37).run Try.prog w = .ok (.agg #[.pointer none, .pointer none]) w := by kernel_rfl
theorem zero_2R (w : World) : (zeroValue 38).run Try.prog w = .ok (.agg #[.pointer none, .pointer none]) w := by kernel_rfl
theorem zero_op (w : World) : (zeroValue 40).run Try.prog w = .ok (.agg #[.int .i64 0, .int .i64 0, .int .i64 0]) w := by kernel_rfl
theorem build_2i (a b : Int) (w : World) : (Instr.build 36 #[(0, .int .i64 a), (1, .int .i64 b)]).run Try.prog w = .ok (.agg #[.int .i64 a, .int .i64 b]) w := by kernel_rfl
/-- One block is written. -/
structure Put (w : World) (g : Nat) (o : Obj) (w' : World) : Prop where
  here : w'.heap[g]? = some o
  chg : Chg w w' (· = g)
  size : w'.heap.size = w.heap.size
theorem put_row {w : World} {g : Nat} {t : TypeId} {old : Array Value} (c : Array Value) (hg : w.heap[g]? = some (.cells old t (0, 0))) : Put w g (.cells c t (0, 0)) (w.setRow g c) := by
  refine ⟨?_, ⟨rfl, rfl, rfl, by simp [World.setRow], ?_⟩, by simp [World.setRow]⟩
  · simp [World.setRow, Array.getElem?_modify, hg]
  · intro k _ hk
    simp only [World.setRow, Array.getElem?_modify]
    rw [if_neg (fun e => hk e.symm)]
theorem store_row {ops : Array Oper} {rest : List Oper} {o : Oper} {a : Act} {w : World} {Q : Exit → Act → World → Prop} (hgd : o.guard = none) (t : TypeId) (x y : Operand) (ho : o.op = .store t x y)
    (g : Nat) (hx : a.eval x = .pointer (some ⟨g, 0, none⟩)) (c : Array Value) (hy : a.eval y = .agg c) (old : Array Value) (hg : w.heap[g]? = some (.cells old t (0, 0))) (hs : (Try.prog.info? t).map (·.size) = some c.size) (hz : old.size = c.size) (h1 : c.all (·.oneCell') = true)
    (h : ∀ w', Put w g (.cells c t (0, 0)) w' → wpList Try.prog ops Q rest (a.put o.dst undef) w') : wpList Try.prog ops Q (o :: rest) a w :=
  wpList_store_row hgd t x y ho g c hx hy t old hg hs hz h1 (h _ (put_row c hg))

end Go.Proofs.Ythhhobjdplgcpaa
