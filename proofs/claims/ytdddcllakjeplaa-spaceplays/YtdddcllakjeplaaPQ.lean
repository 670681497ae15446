/-
  Two spaces and the document's two, side by side; a script that lies in memory.
-/
import Derived.Test.YtdddcllakjeplaaQ3
import Derived.Test.YtdddcllakjeplaaV0
namespace Go.Proofs.Ytdddcllakjeplaa
open Go.RowKit

def Dis (a b c d : Nat) : Prop := ∀ x, Rg a b x → ¬ Rg c d x
/-- Behind the statement's beginning w: the super at X, the spaces' places at S, the document's at R; each has its range of blocks. -/
structure Quad (w wr : World) (X S R a b : Nat) (P Q sl sh ql qh : Nat → Nat) (s : Nat → SS) : Prop where
  x : wr.heap[X]? = some (.cells #[.int .i64 (a : Int), .int .i64 (b : Int)] 23 (0, 0))
  sa : wr.heap[S]? = some (.cells #[.pointer (some ⟨P 0, 0, none⟩), .pointer (some ⟨P 1, 0, none⟩)] 47 (0, 0))
  ra : wr.heap[R]? = some (.cells #[.pointer (some ⟨Q 0, 0, none⟩), .pointer (some ⟨Q 1, 0, none⟩)] 48 (0, 0))
  ss : ∀ k, k < 2 → IsS wr (sl k) (sh k) (P k) (s k)
  qq : ∀ k, k < 2 → IsQ wr (ql k) (qh k) (Q k) (s k)
  l : ∀ k, k < 2 → (X < sl k ∧ S < sl k ∧ R < sl k ∧ w.heap.size ≤ sl k) ∧ (X < ql k ∧ S < ql k ∧ R < ql k ∧ w.heap.size ≤ ql k)
  d : ∀ k j, k < 2 → j < 2 → (k ≠ j → Dis (sl k) (sh k) (sl j) (sh j)) ∧ Dis (sl k) (sh k) (ql j) (qh j) ∧ (k ≠ j → Dis (ql k) (qh k) (ql j) (qh j))
  be : Below w.heap.size w wr
section
variable {w wr wr' : World} {X S R a b : Nat} {P Q sl sh ql qh : Nat → Nat} {s : Nat → SS}
theorem Quad.call (h : Quad w wr X S R a b P Q sl sh ql qh s) (hb : Below wr.heap.size wr wr') : Quad w wr' X S R a b P Q sl sh ql qh s :=
  have hc := Chg.of_below hb No
  ⟨hc.keep h.x (fun e => e), hc.keep h.sa (fun e => e), hc.keep h.ra (fun e => e), fun k hk => (h.ss k hk).call hb, fun k hk => (h.qq k hk).call hb, h.l, h.d, h.be.trans (hb.mono h.be.size)⟩
theorem Quad.drewN (h : Quad w wr X S R a b P Q sl sh ql qh s) (n : Nat) : Quad w (wr.drewN n) X S R a b P Q sl sh ql qh s := ⟨h.x, h.sa, h.ra, fun k hk => (h.ss k hk).drewN n, fun k hk => (h.qq k hk).drewN n, h.l, h.d, below_drewN h.be n⟩
theorem Quad.cS (h : Quad w wr X S R a b P Q sl sh ql qh s) {k : Nat} (hk : k < 2) : wr.cell? ⟨S, k, none⟩ = some (.pointer (some ⟨P k, 0, none⟩)) := by
  rw [cell_of_row _ _ _ _ _ _ h.sa]
  match k, hk with
  | 0, _ => rfl
  | 1, _ => rfl
theorem Quad.cR (h : Quad w wr X S R a b P Q sl sh ql qh s) {k : Nat} (hk : k < 2) : wr.cell? ⟨R, k, none⟩ = some (.pointer (some ⟨Q k, 0, none⟩)) := by
  rw [cell_of_row _ _ _ _ _ _ h.ra]
  match k, hk with
  | 0, _ => rfl
  | 1, _ => rfl
theorem Quad.c1 (h : Quad w wr X S R a b P Q sl sh ql qh s) : wr.cell? ⟨X, 1, none⟩ = some (.int .i64 (b : Int)) := (cell_of_row _ _ _ _ _ _ h.x).trans rfl
/-- A space turns: all but its own state stays. -/
structure Half (w w1 : World) (X S R a b : Nat) (P Q sl sh ql qh : Nat → Nat) (s : Nat → SS) (k : Nat) (s1 : SS) : Prop where
  x : w1.heap[X]? = some (.cells #[.int .i64 (a : Int), .int .i64 (b : Int)] 23 (0, 0))
  sa : w1.heap[S]? = some (.cells #[.pointer (some ⟨P 0, 0, none⟩), .pointer (some ⟨P 1, 0, none⟩)] 47 (0, 0))
  ra : w1.heap[R]? = some (.cells #[.pointer (some ⟨Q 0, 0, none⟩), .pointer (some ⟨Q 1, 0, none⟩)] 48 (0, 0))
  me : IsS w1 (sl k) (sh k) (P k) s1
  so : ∀ j, j < 2 → j ≠ k → IsS w1 (sl j) (sh j) (P j) (s j)
  qq : ∀ j, j < 2 → IsQ w1 (ql j) (qh j) (Q j) (s j)
  l : ∀ k, k < 2 → (X < sl k ∧ S < sl k ∧ R < sl k ∧ w.heap.size ≤ sl k) ∧ (X < ql k ∧ S < ql k ∧ R < ql k ∧ w.heap.size ≤ ql k)
  d : ∀ k j, k < 2 → j < 2 → (k ≠ j → Dis (sl k) (sh k) (sl j) (sh j)) ∧ Dis (sl k) (sh k) (ql j) (qh j) ∧ (k ≠ j → Dis (ql k) (qh k) (ql j) (qh j))
  be : Below w.heap.size w w1
variable {k : Nat} {s1 : SS} {w1 w2 : World}
theorem Quad.half (h : Quad w wr X S R a b P Q sl sh ql qh s) (hk : k < 2) (h1 : IsS w1 (sl k) (sh k) (P k) s1) (c : Chg wr w1 (Rg (sl k) (sh k))) : Half w w1 X S R a b P Q sl sh ql qh s k s1 := by
  have hl := (h.l k hk).1
  exact ⟨c.keep h.x (fun e => by have := e.1; omega), c.keep h.sa (fun e => by have := e.1; omega), c.keep h.ra (fun e => by have := e.1; omega), h1,
    fun j hj e => (h.ss j hj).keep c (fun x hx hy => (h.d j k hj hk).1 e x hx hy), fun j hj => (h.qq j hj).keep c (fun x hx hy => (h.d k j hk hj).2.1 x hy hx), h.l, h.d, c.to h.be h.be.size (fun x e => Nat.le_trans hl.2.2.2 e.1)⟩
theorem Half.call (h : Half w w1 X S R a b P Q sl sh ql qh s k s1) (hb : Below w1.heap.size w1 w2) : Half w w2 X S R a b P Q sl sh ql qh s k s1 :=
  have hc := Chg.of_below hb No
  ⟨hc.keep h.x (fun e => e), hc.keep h.sa (fun e => e), hc.keep h.ra (fun e => e), h.me.call hb, fun j hj e => (h.so j hj e).call hb, fun j hj => (h.qq j hj).call hb, h.l, h.d, h.be.trans (hb.mono h.be.size)⟩
theorem Half.drewN (h : Half w w1 X S R a b P Q sl sh ql qh s k s1) (n : Nat) : Half w (w1.drewN n) X S R a b P Q sl sh ql qh s k s1 := ⟨h.x, h.sa, h.ra, h.me.drewN n, fun j hj e => (h.so j hj e).drewN n, fun j hj => (h.qq j hj).drewN n, h.l, h.d, below_drewN h.be n⟩
/-- A block behind all of them may be written over. -/
theorem Half.spoil (h : Half w w1 X S R a b P Q sl sh ql qh s k s1) (hk : k < 2) {g : Nat} (c : Chg w1 w2 (· = g)) (h1 : ∀ j, j < 2 → sh j ≤ g ∧ qh j ≤ g) (h2 : X < g ∧ S < g ∧ R < g ∧ w.heap.size ≤ g) : Half w w2 X S R a b P Q sl sh ql qh s k s1 :=
  ⟨c.keep h.x (fun e => by omega), c.keep h.sa (fun e => by omega), c.keep h.ra (fun e => by omega), h.me.keep c (fun x hx e => by have := hx.2; have := (h1 k hk).1; omega),
    fun j hj e => (h.so j hj e).keep c (fun x hx e => by have := hx.2; have := (h1 j hj).1; omega), fun j hj => (h.qq j hj).keep c (fun x hx e => by have := hx.2; have := (h1 j hj).2; omega), h.l, h.d, c.to h.be h.be.size (fun x e => by omega)⟩
theorem Half.cR (h : Half w w1 X S R a b P Q sl sh ql qh s k s1) (hk : k < 2) : w1.cell? ⟨R, k, none⟩ = some (.pointer (some ⟨Q k, 0, none⟩)) := by
  rw [cell_of_row _ _ _ _ _ _ h.ra]
  match k, hk with
  | 0, _ => rfl
  | 1, _ => rfl
/-- The document's turns as the space did. -/
theorem Half.full (h : Half w w1 X S R a b P Q sl sh ql qh s k s1) (hk : k < 2) (h2 : IsQ w2 (ql k) (qh k) (Q k) s1) (c : Chg w1 w2 (Rg (ql k) (qh k))) : Quad w w2 X S R a b P Q sl sh ql qh (fun j => if j = k then s1 else s j) := by
  have hl := (h.l k hk).2
  refine ⟨c.keep h.x (fun e => by have := e.1; omega), c.keep h.sa (fun e => by have := e.1; omega), c.keep h.ra (fun e => by have := e.1; omega), fun j hj => ?_, fun j hj => ?_, h.l, h.d, c.to h.be h.be.size (fun x e => Nat.le_trans hl.2.2.2 e.1)⟩
  · show IsS w2 _ _ _ (if j = k then s1 else s j)
    by_cases e : j = k
    · subst e
      rw [if_pos rfl]
      exact h.me.keep c (fun x hx hy => (h.d j j hk hk).2.1 x hx hy)
    · rw [if_neg e]
      exact (h.so j hj e).keep c (fun x hx hy => (h.d j k hj hk).2.1 x hx hy)
  · show IsQ w2 _ _ _ (if j = k then s1 else s j)
    by_cases e : j = k
    · subst e
      rw [if_pos rfl]
      exact h2
    · rw [if_neg e]
      exact (h.qq j hj).keep c (fun x hx hy => (h.d j k hj hk).2.2 e x hx hy)
end

/-- One call of a script. -/
structure OpV where
  kd : Int
  on : Int
  n : Int
  l : List Int
def OpV.z : OpV := ⟨0, 0, 0, []⟩
def OpV.cells (s : OpV) (a : Option Addr) (c : Nat) : List Value := [.int .i64 s.kd, .int .i64 s.on, .int .i64 s.n, .slice a s.l.length c]
def OpV.OK (s : OpV) : Prop := I64 s.kd ∧ I64 s.on ∧ I64 s.n ∧ (∀ x, x ∈ s.l → I64 x) ∧ s.l.length ≤ 17592186043904
/-- A script that lies in memory. -/
def ScriptAt (w : World) (ad : Option Addr) (ws : List OpV) : Prop :=
  ws = [] ∨ ∃ b o, ad = some ⟨b, o, none⟩ ∧ b < w.heap.size ∧ ∀ j, j < ws.length → ∃ a c, (∀ i v, ((ws.getD j OpV.z).cells a c)[i]? = some v → w.cell? ⟨b, o + j * 4 + i, none⟩ = some v) ∧ IntsAt w a (ws.getD j OpV.z).l
theorem ScriptAt.range {w w' : World} {ad : Option Addr} {ws : List OpV} (h : ScriptAt w ad ws) (hb : Below w.heap.size w w') {j : Nat} (hj : j < ws.length) : ∃ b o a c, ad = some ⟨b, o, none⟩ ∧ w'.rangeAt b (o + j * 4) ((ws.getD j OpV.z).cells a c) ∧ IntsAt w a (ws.getD j OpV.z).l := by
  rcases h with h | ⟨b, o, rfl, hl, h⟩
  · rw [h] at hj; exact absurd hj (Nat.not_lt_zero _)
  · obtain ⟨a, c, h1, h2⟩ := h j hj
    refine ⟨b, o, a, c, rfl, fun i v hv => ?_, h2⟩
    rw [hb.cell (p := ⟨b, o + j * 4 + i, none⟩) hl]
    exact h1 i v hv
theorem szO : (Try.prog.info? 50).map (·.size) = some 4 := by kernel_rfl
theorem zero_2S (w : World) : (zeroValue 47).run Try.prog w = .ok (.agg #[.pointer none, .pointer none]) w := by kernel_rfl
theorem zero_2Q (w : World) : (zeroValue 48).run Try.prog w = .ok (.agg #[.pointer none, .pointer none]) w := by kernel_rfl
theorem zero_op (w : World) : (zeroValue 50).run Try.prog w = .ok (.agg #[.int .i64 0, .int .i64 0, .int .i64 0, .slice none 0 0]) w := by kernel_rfl
/-- While the spaces are made. -/
structure Z0 (w wr : World) (X S R a b : Nat) (p0 p1 q0 q1 : Value) : Prop where
  x : wr.heap[X]? = some (.cells #[.int .i64 (a : Int), .int .i64 (b : Int)] 23 (0, 0))
  sa : wr.heap[S]? = some (.cells #[p0, p1] 47 (0, 0))
  ra : wr.heap[R]? = some (.cells #[q0, q1] 48 (0, 0))
  ne : X ≠ S ∧ X ≠ R ∧ S ≠ R ∧ w.heap.size ≤ X ∧ w.heap.size ≤ S ∧ w.heap.size ≤ R
  be : Below w.heap.size w wr
theorem Z0.call {w wr wr' : World} {X S R a b : Nat} {p0 p1 q0 q1 : Value} (h : Z0 w wr X S R a b p0 p1 q0 q1) (hb : Below wr.heap.size wr wr') : Z0 w wr' X S R a b p0 p1 q0 q1 :=
  have hc := Chg.of_below hb No
  ⟨hc.keep h.x (fun e => e), hc.keep h.sa (fun e => e), hc.keep h.ra (fun e => e), h.ne, h.be.trans (hb.mono h.be.size)⟩
/-- Both places are written. -/
theorem Z0.put {w wr : World} {X S R a b : Nat} {p0 p1 q0 q1 : Value} (h : Z0 w wr X S R a b p0 p1 q0 q1) (j : Nat) (p q p0' p1' q0' q1' : Value) (e1 : (#[p0, p1] : Array Value).setIfInBounds j p = #[p0', p1']) (e2 : (#[q0, q1] : Array Value).setIfInBounds j q = #[q0', q1']) :
    Z0 w ((wr.setCell ⟨S, j, none⟩ p).setCell ⟨R, j, none⟩ q) X S R a b p0' p1' q0' q1' ∧ Chg wr ((wr.setCell ⟨S, j, none⟩ p).setCell ⟨R, j, none⟩ q) (fun k => k = S ∨ k = R) := by
  have hn := h.ne
  have c1 : Chg wr (wr.setCell ⟨S, j, none⟩ p) (· = S) := Chg.setCell
  have c2 : Chg (wr.setCell ⟨S, j, none⟩ p) ((wr.setCell ⟨S, j, none⟩ p).setCell ⟨R, j, none⟩ q) (· = R) := Chg.setCell
  have s1 : (wr.setCell ⟨S, j, none⟩ p).heap[S]? = some (.cells #[p0', p1'] 47 (0, 0)) := by rw [heap_setCell_same wr S j _ 47 _ h.sa, e1]
  have r1 := c1.keep h.ra (fun e => hn.2.2.1 e.symm)
  refine ⟨⟨c2.keep (c1.keep h.x hn.1) hn.2.1, c2.keep s1 hn.2.2.1, ?_, h.ne, c2.to (c1.to h.be h.be.size (fun k e => by omega)) (Nat.le_trans h.be.size c1.size) (fun k e => by omega)⟩, c1.trans c2 (fun _ _ e => .inl e) (fun _ _ e => .inr e)⟩
  rw [heap_setCell_same _ R j _ 48 _ r1, e2]

end Go.Proofs.Ytdddcllakjeplaa
