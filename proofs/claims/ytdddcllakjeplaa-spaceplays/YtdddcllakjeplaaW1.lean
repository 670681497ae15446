/-
  What is known of memory while a statement plays on one space.
-/
import Derived.Test.YtdddcllakjeplaaWR0
namespace Go.Proofs.Ytdddcllakjeplaa
open Go.RowKit

/-- Behind the statement's beginning w: a super of a sectors and b inodes lies at X, and a space at p. -/
structure Kit (w wk : World) (X lo hi p a b : Nat) (s : SS) : Prop where
  s : IsS wk lo hi p s
  x : wk.heap[X]? = some (.cells #[.int .i64 (a : Int), .int .i64 (b : Int)] 23 (0, 0))
  b : Below w.heap.size w wk
  l : X < lo ∧ w.heap.size ≤ lo
variable {w wk wk' : World} {X lo hi p a b : Nat} {s s' : SS}
theorem Kit.chg (h : Kit w wk X lo hi p a b s) (hs : IsS wk' lo hi p s') (hc : Chg wk wk' (Rg lo hi)) : Kit w wk' X lo hi p a b s' :=
  ⟨hs, hc.keep h.x (fun e => by have := e.1; have := h.l; omega), hc.to h.b h.b.size (fun k e => Nat.le_trans h.l.2 e.1), h.l⟩
theorem Kit.call (h : Kit w wk X lo hi p a b s) (hb : Below wk.heap.size wk wk') : Kit w wk' X lo hi p a b s :=
  ⟨h.s.call hb, (Chg.of_below hb No).keep h.x (fun e => e), h.b.trans (hb.mono h.b.size), h.l⟩
theorem Kit.boxed (h : Kit w wk X lo hi p a b s) (o : Obj) : Kit w (wk.alloc o) X lo hi p a b s := h.call (below_box wk o)
theorem Kit.drewN (h : Kit w wk X lo hi p a b s) (n : Nat) : Kit w (wk.drewN n) X lo hi p a b s := ⟨h.s.drewN n, h.x, below_drewN h.b n, h.l⟩
theorem Kit.c0 (h : Kit w wk X lo hi p a b s) : wk.cell? ⟨X, 0, none⟩ = some (.int .i64 (a : Int)) := (cell_of_row _ _ _ _ _ _ h.x).trans rfl
theorem Kit.c1 (h : Kit w wk X lo hi p a b s) : wk.cell? ⟨X, 1, none⟩ = some (.int .i64 (b : Int)) := (cell_of_row _ _ _ _ _ _ h.x).trans rfl
/-- A block that was there ahead of the space stays. -/
theorem Chg.old (hc : Chg wk wk' (Rg lo hi)) {g : Nat} {o : Obj} (hg : wk.heap[g]? = some o) (hl : g < lo) : wk'.heap[g]? = some o := hc.keep hg (fun e => by have := e.1; omega)
/-- So does one behind it. -/
theorem Chg.new (hc : Chg wk wk' (Rg lo hi)) {g : Nat} {o : Obj} (hg : wk.heap[g]? = some o) (hl : hi ≤ g) : wk'.heap[g]? = some o := hc.keep hg (fun e => by have := e.2; omega)

/-- The space is made over the super that lies at X. -/
theorem kit_start {w w2 w4 : World} {p a b : Nat} {s : SS} (h2 : Below w.heap.size w w2) (hs : IsS w4 (w2.alloc (.cells #[.int .i64 (a : Int), .int .i64 (b : Int)] 23)).heap.size w4.heap.size p s) (hb : Below (w2.alloc (.cells #[.int .i64 (a : Int), .int .i64 (b : Int)] 23)).heap.size (w2.alloc (.cells #[.int .i64 (a : Int), .int .i64 (b : Int)] 23)) w4) :
    Kit w w4 w2.heap.size (w2.heap.size + 1) w4.heap.size p a b s := by
  have e : (w2.alloc (.cells #[.int .i64 (a : Int), .int .i64 (b : Int)] 23)).heap.size = w2.heap.size + 1 := by simp
  have hb3 := below_box w2 (.cells #[.int .i64 (a : Int), .int .i64 (b : Int)] 23)
  refine ⟨e ▸ hs, box2 hb, (h2.trans (hb3.mono h2.size)).trans (hb.mono (Nat.le_trans h2.size hb3.size)), by omega, ?_⟩
  have := h2.size
  omega

end Go.Proofs.Ytdddcllakjeplaa
