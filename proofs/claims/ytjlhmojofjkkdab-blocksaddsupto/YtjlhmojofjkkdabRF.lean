/-
  A range over a function: iterators gs lists of what they hand on, and loops over them.
-/
import Derived.RangeFuncNested
import Derived.RangeFuncBound
import Derived.RangeFuncCalls
import Derived.RangeFuncLeaves
import Derived.Shelf.Abstract
import Derived.Shelf.RegionOpen
import Derived.WalkKit
import Derived.OwnWalkIn
import Derived.TacticsInMore
import Derived.LoopNIn
import Derived.LoopIn
import Derived.Test.YtjlhmojofjkkdabProg
namespace Go.Proofs.Ytjlhmojofjkkdab
open Go.RowKit Go.Shelf

abbrev WF : Fence := Fence.wide
theorem wdep {p : Prop} (h : WF.depth.isSome = true) : p := Bool.noConfusion (show false = true from h)
theorem fold2 (p q : Tmp) (v u : Value) (t : Array Value) : ((#[p, q] : Array Tmp).zip #[v, u]).foldl (fun t (p, v) => t.setIfInBounds p v) t = (t.setIfInBounds p v).setIfInBounds q u := by simp
/-- By which jump a round's body is left. -/
def jumpOf : Exit → Option (Option Code)
  | .normal => some none
  | .ret => some (some .ret)
  | .exit id => some (some (.exit id))
  | .goto t => some (some (.goto t))
  | _ => none
def restR (r : Loop) (j : Option Code) : Loop := { r with state := if j.isNone then .ready else .done, pending := j }
def busyR (r : Loop) : Loop := { r with state := .busy }
/-- A call of yield is a round, out of the walks of the loop's assignment and body. -/
theorem yield_round {P : Program} {l m : Nat} {r : Loop} {args : Array Value} {W : World} {R : Ending → World → Prop} (hl : W.heap[l]? = some (.loop r)) (hs : r.state = .ready) (ha : args.size = r.params.size)
    (h : r.assign.wpIn (WF.inRound l) m P (Exit.then (fun a1 W1 => W1.heap[l]? = some (.loop r) ∧ r.body.wpIn (WF.inRound l) m P (fun e _ W2 => ∃ j, jumpOf e = some j ∧ W2.heap[l]? = some (.loop (busyR r)) ∧ R (.returned (.bool j.isNone)) (W2.putObj l (.loop (restR r j)))) a1 (W1.putObj l (.loop (busyR r)))) (fun _ _ _ => False))
      { tmps := (r.params.zip args).foldl (fun t (p, v) => t.setIfInBounds p v) r.tmps, defers := [] } W) : YieldAt WF m P l args W R := by
  refine ⟨_, _, _, _, run_yield hl ha, roundIn_of_wpIn trivial (wpIn_mono h ?_)⟩
  intro e a1 W1 h1
  cases e with
  | normal =>
    obtain ⟨h1, h2⟩ := h1
    refine ⟨_, run_beginRound h1 hs, wpIn_mono h2 ?_⟩
    rintro e a2 W2 ⟨j, hj, h3, h4⟩
    have he := run_endRound (P := P) j h3
    cases e <;> cases hj <;> exact ⟨_, _, he, h4⟩
  | _ => exact h1.elim

/-- What the blocks of cells alone decide, and blocks ahead of B. -/
abbrev Own1 (B : Nat) (S : World → Prop) : Prop := OwnFrom B (fun (_ : Unit) W => S W)
/-- An iterator that hands on xs, one by one, where S holds; a round that goes on keeps Kp. -/
def Iter {α : Type} (P : Program) (gf : Nat) (lb : Array Value) (Enc : α → Array Value → World → Prop) (Kp : World → World → Prop) (xs : List α) (S : World → Prop) : Prop :=
  ∀ (n l : Nat) (J : Nat → World → Prop) (Jx : World → Prop) (W : World), S W → l < W.heap.size → OwnFrom W.heap.size J → Own1 W.heap.size Jx →
    (∀ (k : Nat) (x : α) (gs : Array Value) (W1 : World) (m : Nat), xs[k]? = some x → Enc x gs W1 → J k W1 → YieldAt WF m P l gs W1 fun e W' => KeepsFrom (l + 1) W1 W' ∧ ((e = .returned (.bool true) ∧ J (k + 1) W' ∧ Kp W1 W') ∨ (e = .returned (.bool false) ∧ Jx W'))) →
    J 0 W → CallsIn WF n P gf (#[.func (.yield l) #[] #[]] ++ lb) W fun e W' => (∃ v, e = .returned v) ∧ (J xs.length W' ∨ Jx W')

/-- How a round's body is left. -/
def leftBy (B : Nat) (Kp : World → World → Prop) (I : Nat → World → Prop) (Ix : Code → World → Prop) (k : Nat) (W : World) (e : Exit) (W' : World) : Prop :=
  KeepsFrom B W W' ∧ ∃ j, jumpOf e = some j ∧ match j with
    | none => Kp W W' ∧ I k W'
    | some c => Ix c W'
section
variable {P : Program} {n : Nat} {α : Type} {g : Operand} {ps : Array Tmp} {assign body : Code} {a : Act} {w : World} {gf : Nat} {lb : Array Value} {Enc : α → Array Value → World → Prop} {Kp : World → World → Prop} {xs : List α} {S : World → Prop}
/-- The rounds of a loop whose record lies at l. -/
theorem rounds_ok {B l : Nat} {r : Loop} (hBl : B ≤ l) (hs : r.state = .ready) (hps : ∀ x gs W, Enc x gs W → gs.size = r.params.size)
    (hKt : ∀ {A B C : World}, Kp A B → Kp B C → Kp A C) (hKb : ∀ (W : World) (l : Nat) (o o' : Obj), B ≤ l → W.heap[l]? = some o → o.isCells = false → Kp W (W.putObj l o'))
    {I : Nat → World → Prop} {Ix : Code → World → Prop} (hI : OwnFrom B I) (hIx : ∀ c, Own1 B (Ix c)) {M : Nat → α → Act → World → Prop} (hM : ∀ k x a', Own1 B (M k x a'))
    (hassign : ∀ (k : Nat) (x : α) (gs : Array Value) (W : World) (m : Nat), xs[k]? = some x → Enc x gs W → I k W → r.assign.wpIn (WF.inRound l) m P (Exit.then (fun a' W' => KeepsFrom B W W' ∧ Kp W W' ∧ M k x a' W') (fun _ _ _ => False)) { tmps := (r.params.zip gs).foldl (fun t (p, v) => t.setIfInBounds p v) r.tmps, defers := [] } W)
    (hbody : ∀ (k : Nat) (x : α) (a' : Act) (W : World) (m : Nat), xs[k]? = some x → (∃ r, W.heap[l]? = some (.loop r)) → M k x a' W → r.body.wpIn (WF.inRound l) m P (fun e _ W' => leftBy B Kp I Ix (k + 1) W e W') a' W)
    {X : World → Prop} (hX : ∀ W W', X W → KeepsFrom B W W' → X W') (hXp : ∀ W o, X W → X (W.putObj l o))
    (k : Nat) (x : α) (gs : Array Value) (W1 : World) (m : Nat) (hx : xs[k]? = some x) (hen : Enc x gs W1) (hi : I k W1) (hl : W1.heap[l]? = some (.loop (restR r none))) (hr : r = restR r none) (hx1 : X W1) :
    YieldAt WF m P l gs W1 fun e W' => KeepsFrom (l + 1) W1 W' ∧ X W' ∧ ((e = .returned (.bool true) ∧ I (k + 1) W' ∧ W'.heap[l]? = some (.loop (restR r none)) ∧ Kp W1 W') ∨ (e = .returned (.bool false) ∧ ∃ c, Ix c W' ∧ W'.heap[l]? = some (.loop (restR r (some c))))) := by
  rw [← hr] at hl
  refine yield_round hl hs (hps x gs W1 hen) (wpIn_mono (hassign k x gs W1 m hx hen hi) ?_)
  intro e a1 W2 h2
  cases e with
  | normal =>
    obtain ⟨k2, p2, m2⟩ := h2
    have l2 : W2.heap[l]? = some (.loop r) := k2.same l _ hBl hl rfl
    have lt2 : l < W2.heap.size := (Array.getElem?_eq_some_iff.1 l2).1
    have l2' : (W2.putObj l (.loop (busyR r))).heap[l]? = some (.loop (busyR r)) := World.putObj_heap_same lt2
    refine ⟨l2, wpIn_mono (hbody k x a1 _ m hx ⟨_, l2'⟩ ((hM k x a1).putObj (s := ()) _ m2 hBl l2 rfl)) ?_⟩
    rintro e a3 W3 ⟨k3, j, hj, h3⟩
    have l3 : W3.heap[l]? = some (.loop (busyR r)) := k3.same l _ hBl l2' rfl
    have lt3 : l < W3.heap.size := (Array.getElem?_eq_some_iff.1 l3).1
    refine ⟨j, hj, l3, ⟨?_, ?_⟩, hXp _ _ (hX _ _ (hXp _ _ (hX _ _ hx1 k2)) k3), ?_⟩
    · have e1 : W1.heap.size ≤ W2.heap.size := k2.size
      have e2 : W2.heap.size ≤ W3.heap.size := by have := k3.size; simpa using this
      simp only [World.putObj_size]; omega
    · intro i o hi ho hc
      rw [World.putObj_heap_other (by omega)]
      refine k3.same i o (by omega) ?_ hc
      rw [World.putObj_heap_other (by omega)]
      exact k2.same i o (by omega) ho hc
    · cases j with
      | none =>
        obtain ⟨p3, i3⟩ := h3
        exact .inl ⟨rfl, hI.putObj _ i3 hBl l3 rfl, World.putObj_heap_same lt3, hKt p2 (hKt (hKb _ _ _ _ hBl l2 rfl) (hKt p3 (hKb _ _ _ _ hBl l3 rfl)))⟩
      | some c => exact .inr ⟨rfl, c, (hIx c).putObj (s := ()) _ h3 hBl l3 rfl, World.putObj_heap_same lt3⟩
  | _ => exact h2.elim

/-- A loop over an iterator, in no round. -/
theorem range_none {Q : Exit → Act → World → Prop} (hg : a.eval g = .func (.func gf) #[] lb) (eg : ∀ args w, (callFunc gf args).run P w = .ok (.enter gf args) w) (hit : Iter P gf lb Enc Kp xs S)
    (hS : ∀ o o', S ((w.alloc o).alloc o')) (hps : ∀ x gs W, Enc x gs W → gs.size = ps.size)
    (hKt : ∀ {A B C : World}, Kp A B → Kp B C → Kp A C) (hKb : ∀ (W : World) (l : Nat) (o o' : Obj), w.heap.size ≤ l → W.heap[l]? = some o → o.isCells = false → Kp W (W.putObj l o'))
    (I : Nat → World → Prop) (Ix : Code → World → Prop) (hI : OwnFrom w.heap.size I) (hIx : ∀ c, Own1 w.heap.size (Ix c)) (h0 : I 0 w) (M : Nat → α → Act → World → Prop) (hM : ∀ k x a', Own1 w.heap.size (M k x a'))
    (hassign : ∀ (l k : Nat) (x : α) (gs : Array Value) (W : World) (m : Nat), xs[k]? = some x → Enc x gs W → I k W → assign.wpIn (WF.inRound l) m P (Exit.then (fun a' W' => KeepsFrom w.heap.size W W' ∧ Kp W W' ∧ M k x a' W') (fun _ _ _ => False)) { tmps := (ps.zip gs).foldl (fun t (p, v) => t.setIfInBounds p v) a.tmps, defers := [] } W)
    (hbody : ∀ (l k : Nat) (x : α) (a' : Act) (W : World) (m : Nat), w.heap.size ≤ l → xs[k]? = some x → (∃ r, W.heap[l]? = some (.loop r)) → M k x a' W → body.wpIn (WF.inRound l) m P (fun e _ W' => leftBy w.heap.size Kp I Ix (k + 1) W e W') a' W)
    (hdone : ∀ (D : Nat) (W : World), w.heap.size ≤ D → I xs.length W → W.heap[D]? = some (.deferred (some [])) → Q .normal { a with defers := { target := .collected D, args := #[] } :: a.defers } W)
    (hstop : ∀ (D : Nat) (c : Code) (W : World), w.heap.size ≤ D → Ix c W → W.heap[D]? = some (.deferred (some [])) → c.wpIn WF n P Q { a with defers := { target := .collected D, args := #[] } :: a.defers } W) :
    (Code.rangeFunc g ps assign body).wpIn WF n P Q a w := by
  refine wpIn_rangeFunc fun fn _ => ?_
  obtain ⟨r, hr⟩ : ∃ r : Loop, r = { state := .ready, pending := none, fn, tmps := a.tmps, params := ps, assign, body, defers := w.heap.size } := ⟨_, rfl⟩
  have r1 : r.state = .ready := by rw [hr]
  have r2 : r = restR r none := by rw [hr]; rfl
  have r3 : r.params = ps := by rw [hr]
  have r4 : r.assign = assign := by rw [hr]
  have r5 : r.body = body := by rw [hr]
  have r6 : r.tmps = a.tmps := by rw [hr]
  obtain ⟨W1, hW1⟩ : ∃ W1, W1 = (w.alloc (.deferred (some []))).alloc (.loop r) := ⟨_, rfl⟩
  have z1 : W1.heap.size = w.heap.size + 2 := by rw [hW1]; simp
  have hl1 : W1.heap[w.heap.size + 1]? = some (.loop r) := by
    rw [hW1]; have := World.alloc_heap_new (w.alloc (.deferred (some []))) (.loop r); rwa [World.size_alloc] at this
  have hd1 : W1.heap[w.heap.size]? = some (.deferred (some [])) := by
    rw [hW1]; exact (Below.heap_alloc _ _ _ (by simp)).trans (World.alloc_heap_new w _)
  have hi1 : I 0 W1 := by rw [hW1]; exact hI.alloc _ (hI.alloc _ h0)
  refine ⟨w.heap.size + 1, [{ target := .collected w.heap.size, args := #[] }], W1, { target := .fn (.func gf) lb, args := #[.func (.yield (w.heap.size + 1)) #[] #[]] }, W1, gf, #[.func (.yield (w.heap.size + 1)) #[] #[]] ++ lb, W1, by rw [hW1, hr]; exact run_enterLoop_outer _ _ _ _ _, by simp only [resolve, hg]; simp [go_sem], fun _ _ => trivial, by simp [invoke, go_sem, eg], fun h => Bool.noConfusion (show false = true from h), ?_⟩
  have blk : ∀ {A B : World} {row : Option Nat} {i : Nat} {o : Obj}, i < W1.heap.size → A.heap[i]? = some o → A.grownBy B row → (∀ q, row = some q → W1.heap.size ≤ q ∧ ∃ o : Obj, A.heap[q]? = some o ∧ o.isCells = false) → B.heap[i]? = some o := by
    intro A B row i o hi ho hg hq
    rw [hg.block i (Array.getElem?_eq_some_iff.1 ho).1 (fun e => by have := (hq i e.symm).1; omega)]
    exact ho
  have far : ∀ {A : World} {row : Option Nat}, (∀ q, row = some q → W1.heap.size ≤ q ∧ ∃ o : Obj, A.heap[q]? = some o ∧ o.isCells = false) → (∀ q, row = some q → w.heap.size ≤ q ∧ ∃ o : Obj, A.heap[q]? = some o ∧ o.isCells = false) :=
    fun h q e => ⟨by have := (h q e).1; omega, (h q e).2⟩
  refine (hit (n - 1) (w.heap.size + 1) (fun k W => I k W ∧ W.heap[w.heap.size + 1]? = some (.loop (restR r none)) ∧ W.heap[w.heap.size]? = some (.deferred (some [])))
    (fun W => ∃ c, Ix c W ∧ W.heap[w.heap.size + 1]? = some (.loop (restR r (some c))) ∧ W.heap[w.heap.size]? = some (.deferred (some [])))
    W1 (by rw [hW1]; exact hS _ _) (by omega)
    (fun k A B row h hg hq => ⟨hI k A B row h.1 hg (far hq), blk (by omega) h.2.1 hg hq, blk (by omega) h.2.2 hg hq⟩)
    (fun _ A B row h hg hq => by
      obtain ⟨c, h1, h2, h3⟩ := h
      exact ⟨c, hIx c () A B row h1 hg (far hq), blk (by omega) h2 hg hq, blk (by omega) h3 hg hq⟩)
    ?_ ⟨hi1, by rw [← r2]; exact hl1, hd1⟩).mono ?_
  · rintro k x gs W m hx hen ⟨h1, h2, h3⟩
    refine (rounds_ok (P := P) (Kp := Kp) (Enc := Enc) (I := I) (Ix := Ix) (M := M) (B := w.heap.size) (l := w.heap.size + 1) (r := r) (xs := xs) (by omega) r1 (by rw [r3]; exact hps) (fun h k => hKt h k) hKb hI hIx hM (by rw [r3, r4, r6]; exact hassign _) (by rw [r5]; exact fun k x a' W m => hbody (w.heap.size + 1) k x a' W m (by omega))
      (X := fun W => W.heap[w.heap.size]? = some (.deferred (some []))) (fun W W' h hk => hk.same _ _ (Nat.le_refl _) h rfl) (fun W o h => by rw [World.putObj_heap_other (by omega)]; exact h) k x gs W m hx hen h1 h2 r2 h3).mono ?_
    rintro e W' ⟨q1, q2, ⟨rfl, q3, q4, q5⟩ | ⟨rfl, c, q3, q4⟩⟩
    · exact ⟨q1, .inl ⟨rfl, ⟨q3, q4, q2⟩, q5⟩⟩
    · exact ⟨q1, .inr ⟨rfl, c, q3, q4, q2⟩⟩
  · rintro e W2 ⟨⟨v, rfl⟩, ⟨h1, h2, h3⟩ | ⟨c, h1, h2, h3⟩⟩
    · refine ⟨_, _, run_endLoop h2 (by simp [restR]), ?_⟩
      show Q .normal _ _
      exact hdone _ _ (Nat.le_refl _) (hI.putObj _ h1 (by omega) h2 rfl) ((World.putObj_heap_other (by omega)).trans h3)
    · refine ⟨_, _, run_endLoop h2 (by simp [restR]), ?_⟩
      exact hstop _ c _ (Nat.le_refl _) ((hIx c).putObj (s := ()) _ h1 (by omega) h2 rfl) ((World.putObj_heap_other (by omega)).trans h3)

/-- A loop over an iterator, within a round of another loop. -/
theorem range_some {l₀ : Nat} {r₀ : Loop} {Q : Exit → Act → World → Prop} (hl₀ : w.heap[l₀]? = some (.loop r₀)) (hg : a.eval g = .func (.func gf) #[] lb) (eg : ∀ args w, (callFunc gf args).run P w = .ok (.enter gf args) w) (hit : Iter P gf lb Enc Kp xs S)
    (hS : ∀ o, S (w.alloc o)) (hps : ∀ x gs W, Enc x gs W → gs.size = ps.size)
    (hKt : ∀ {A B C : World}, Kp A B → Kp B C → Kp A C) (hKb : ∀ (W : World) (l : Nat) (o o' : Obj), w.heap.size ≤ l → W.heap[l]? = some o → o.isCells = false → Kp W (W.putObj l o'))
    (I : Nat → World → Prop) (Ix : Code → World → Prop) (hI : OwnFrom w.heap.size I) (hIx : ∀ c, Own1 w.heap.size (Ix c)) (h0 : I 0 w) (M : Nat → α → Act → World → Prop) (hM : ∀ k x a', Own1 w.heap.size (M k x a'))
    (hassign : ∀ (l k : Nat) (x : α) (gs : Array Value) (W : World) (m : Nat), xs[k]? = some x → Enc x gs W → I k W → assign.wpIn (WF.inRound l) m P (Exit.then (fun a' W' => KeepsFrom w.heap.size W W' ∧ Kp W W' ∧ M k x a' W') (fun _ _ _ => False)) { tmps := (ps.zip gs).foldl (fun t (p, v) => t.setIfInBounds p v) a.tmps, defers := [] } W)
    (hbody : ∀ (l k : Nat) (x : α) (a' : Act) (W : World) (m : Nat), w.heap.size ≤ l → xs[k]? = some x → (∃ r, W.heap[l]? = some (.loop r)) → M k x a' W → body.wpIn (WF.inRound l) m P (fun e _ W' => leftBy w.heap.size Kp I Ix (k + 1) W e W') a' W)
    (hdone : ∀ (W : World), I xs.length W → Q .normal a W)
    (hstop : ∀ (c : Code) (W : World), Ix c W → c.wpIn (WF.inRound l₀) n P Q a W) :
    (Code.rangeFunc g ps assign body).wpIn (WF.inRound l₀) n P Q a w := by
  refine wpIn_rangeFunc fun fn _ => ?_
  obtain ⟨r, hr⟩ : ∃ r : Loop, r = { state := .ready, pending := none, fn, tmps := a.tmps, params := ps, assign, body, defers := r₀.defers } := ⟨_, rfl⟩
  have r1 : r.state = .ready := by rw [hr]
  have r2 : r = restR r none := by rw [hr]; rfl
  have r3 : r.params = ps := by rw [hr]
  have r4 : r.assign = assign := by rw [hr]
  have r5 : r.body = body := by rw [hr]
  have r6 : r.tmps = a.tmps := by rw [hr]
  obtain ⟨W1, hW1⟩ : ∃ W1, W1 = w.alloc (.loop r) := ⟨_, rfl⟩
  have z1 : W1.heap.size = w.heap.size + 1 := by rw [hW1]; simp
  have hl1 : W1.heap[w.heap.size]? = some (.loop r) := by rw [hW1]; exact World.alloc_heap_new w _
  have hi1 : I 0 W1 := by rw [hW1]; exact hI.alloc _ h0
  refine ⟨w.heap.size, [], W1, { target := .fn (.func gf) lb, args := #[.func (.yield w.heap.size) #[] #[]] }, W1, gf, #[.func (.yield w.heap.size) #[] #[]] ++ lb, W1, by rw [hW1, hr]; exact run_enterLoop_inner hl₀ _ _ _ _ _, by simp only [resolve, hg]; simp [go_sem], fun _ _ => trivial, by simp [invoke, go_sem, eg], fun h => Bool.noConfusion (show false = true from h), ?_⟩
  have blk : ∀ {A B : World} {row : Option Nat} {i : Nat} {o : Obj}, i < W1.heap.size → A.heap[i]? = some o → A.grownBy B row → (∀ q, row = some q → W1.heap.size ≤ q ∧ ∃ o : Obj, A.heap[q]? = some o ∧ o.isCells = false) → B.heap[i]? = some o := by
    intro A B row i o hi ho hg hq
    rw [hg.block i (Array.getElem?_eq_some_iff.1 ho).1 (fun e => by have := (hq i e.symm).1; omega)]
    exact ho
  have far : ∀ {A : World} {row : Option Nat}, (∀ q, row = some q → W1.heap.size ≤ q ∧ ∃ o : Obj, A.heap[q]? = some o ∧ o.isCells = false) → (∀ q, row = some q → w.heap.size ≤ q ∧ ∃ o : Obj, A.heap[q]? = some o ∧ o.isCells = false) :=
    fun h q e => ⟨by have := (h q e).1; omega, (h q e).2⟩
  refine CallsIn.mono (CallsIn.inRound l₀ (hit (n - 1) w.heap.size (fun k W => I k W ∧ W.heap[w.heap.size]? = some (.loop (restR r none)))
    (fun W => ∃ c, Ix c W ∧ W.heap[w.heap.size]? = some (.loop (restR r (some c))))
    W1 (by rw [hW1]; exact hS _) (by omega)
    (fun k A B row h hg hq => ⟨hI k A B row h.1 hg (far hq), blk (by omega) h.2 hg hq⟩)
    (fun _ A B row h hg hq => by
      obtain ⟨c, h1, h2⟩ := h
      exact ⟨c, hIx c () A B row h1 hg (far hq), blk (by omega) h2 hg hq⟩)
    ?_ ⟨hi1, by rw [← r2]; exact hl1⟩)) ?_
  · rintro k x gs W m hx hen ⟨h1, h2⟩
    refine (rounds_ok (P := P) (Kp := Kp) (Enc := Enc) (I := I) (Ix := Ix) (M := M) (B := w.heap.size) (l := w.heap.size) (r := r) (xs := xs) (Nat.le_refl _) r1 (by rw [r3]; exact hps) (fun h k => hKt h k) hKb hI hIx hM (by rw [r3, r4, r6]; exact hassign _) (by rw [r5]; exact fun k x a' W m => hbody _ k x a' W m (Nat.le_refl _))
      (X := fun _ => True) (fun _ _ _ _ => trivial) (fun _ _ _ => trivial) k x gs W m hx hen h1 h2 r2 trivial).mono ?_
    rintro e W' ⟨q1, q2, ⟨rfl, q3, q4, q5⟩ | ⟨rfl, c, q3, q4⟩⟩
    · exact ⟨q1, .inl ⟨rfl, ⟨q3, q4⟩, q5⟩⟩
    · exact ⟨q1, .inr ⟨rfl, c, q3, q4⟩⟩
  · rintro e W2 ⟨⟨v, rfl⟩, ⟨h1, h2⟩ | ⟨c, h1, h2⟩⟩
    · refine ⟨_, _, run_endLoop h2 (by simp [restR]), ?_⟩
      show Q .normal _ _
      exact hdone _ (hI.putObj _ h1 (Nat.le_refl _) h2 rfl)
    · refine ⟨_, _, run_endLoop h2 (by simp [restR]), ?_⟩
      exact hstop c _ ((hIx c).putObj (s := ()) _ h1 (Nat.le_refl _) h2 rfl)
/-- The same, where the activation behind the assignment is told. -/
theorem range_noneA {Q : Exit → Act → World → Prop} (hg : a.eval g = .func (.func gf) #[] lb) (eg : ∀ args w, (callFunc gf args).run P w = .ok (.enter gf args) w) (hit : Iter P gf lb Enc Kp xs S)
    (hS : ∀ o o', S ((w.alloc o).alloc o')) (hps : ∀ x gs W, Enc x gs W → gs.size = ps.size)
    (hKt : ∀ {A B C : World}, Kp A B → Kp B C → Kp A C) (hKb : ∀ (W : World) (l : Nat) (o o' : Obj), w.heap.size ≤ l → W.heap[l]? = some o → o.isCells = false → Kp W (W.putObj l o'))
    (I : Nat → World → Prop) (Ix : Code → World → Prop) (hI : OwnFrom w.heap.size I) (hIx : ∀ c, Own1 w.heap.size (Ix c)) (h0 : I 0 w) {β : Type} (A : Act → α → β → Act) (E : Nat → α → β → World → Prop) (hE : ∀ k x b, Own1 w.heap.size (E k x b))
    (hassign : ∀ (l k : Nat) (x : α) (gs : Array Value) (W : World) (m : Nat), xs[k]? = some x → Enc x gs W → I k W → assign.wpIn (WF.inRound l) m P (Exit.then (fun a' W' => KeepsFrom w.heap.size W W' ∧ Kp W W' ∧ ∃ b, a' = A a x b ∧ E k x b W') (fun _ _ _ => False)) { tmps := (ps.zip gs).foldl (fun t (p, v) => t.setIfInBounds p v) a.tmps, defers := [] } W)
    (hbody : ∀ (l k : Nat) (x : α) (b : β) (W : World) (m : Nat), w.heap.size ≤ l → xs[k]? = some x → (∃ r, W.heap[l]? = some (.loop r)) → E k x b W → body.wpIn (WF.inRound l) m P (fun e _ W' => leftBy w.heap.size Kp I Ix (k + 1) W e W') (A a x b) W)
    (hdone : ∀ (D : Nat) (W : World), w.heap.size ≤ D → I xs.length W → W.heap[D]? = some (.deferred (some [])) → Q .normal { a with defers := { target := .collected D, args := #[] } :: a.defers } W)
    (hstop : ∀ (D : Nat) (c : Code) (W : World), w.heap.size ≤ D → Ix c W → W.heap[D]? = some (.deferred (some [])) → c.wpIn WF n P Q { a with defers := { target := .collected D, args := #[] } :: a.defers } W) :
    (Code.rangeFunc g ps assign body).wpIn WF n P Q a w :=
  range_none hg eg hit hS hps (fun h k => hKt h k) hKb I Ix hI hIx h0 (fun k x a' W => ∃ b, a' = A a x b ∧ E k x b W) (fun k x a' s X Y row h hg' hr => by obtain ⟨b, h1, h2⟩ := h; exact ⟨b, h1, hE k x b s X Y row h2 hg' hr⟩) hassign (fun l k x a' W m hl hx hr hM => by obtain ⟨b, rfl, h⟩ := hM; exact hbody l k x b W m hl hx hr h) hdone hstop
theorem range_someA {l₀ : Nat} {r₀ : Loop} {Q : Exit → Act → World → Prop} (hl₀ : w.heap[l₀]? = some (.loop r₀)) (hg : a.eval g = .func (.func gf) #[] lb) (eg : ∀ args w, (callFunc gf args).run P w = .ok (.enter gf args) w) (hit : Iter P gf lb Enc Kp xs S)
    (hS : ∀ o, S (w.alloc o)) (hps : ∀ x gs W, Enc x gs W → gs.size = ps.size)
    (hKt : ∀ {A B C : World}, Kp A B → Kp B C → Kp A C) (hKb : ∀ (W : World) (l : Nat) (o o' : Obj), w.heap.size ≤ l → W.heap[l]? = some o → o.isCells = false → Kp W (W.putObj l o'))
    (I : Nat → World → Prop) (Ix : Code → World → Prop) (hI : OwnFrom w.heap.size I) (hIx : ∀ c, Own1 w.heap.size (Ix c)) (h0 : I 0 w) {β : Type} (A : Act → α → β → Act) (E : Nat → α → β → World → Prop) (hE : ∀ k x b, Own1 w.heap.size (E k x b))
    (hassign : ∀ (l k : Nat) (x : α) (gs : Array Value) (W : World) (m : Nat), xs[k]? = some x → Enc x gs W → I k W → assign.wpIn (WF.inRound l) m P (Exit.then (fun a' W' => KeepsFrom w.heap.size W W' ∧ Kp W W' ∧ ∃ b, a' = A a x b ∧ E k x b W') (fun _ _ _ => False)) { tmps := (ps.zip gs).foldl (fun t (p, v) => t.setIfInBounds p v) a.tmps, defers := [] } W)
    (hbody : ∀ (l k : Nat) (x : α) (b : β) (W : World) (m : Nat), w.heap.size ≤ l → xs[k]? = some x → (∃ r, W.heap[l]? = some (.loop r)) → E k x b W → body.wpIn (WF.inRound l) m P (fun e _ W' => leftBy w.heap.size Kp I Ix (k + 1) W e W') (A a x b) W)
    (hdone : ∀ (W : World), I xs.length W → Q .normal a W)
    (hstop : ∀ (c : Code) (W : World), Ix c W → c.wpIn (WF.inRound l₀) n P Q a W) :
    (Code.rangeFunc g ps assign body).wpIn (WF.inRound l₀) n P Q a w :=
  range_some hl₀ hg eg hit hS hps (fun h k => hKt h k) hKb I Ix hI hIx h0 (fun k x a' W => ∃ b, a' = A a x b ∧ E k x b W) (fun k x a' s X Y row h hg' hr => by obtain ⟨b, h1, h2⟩ := h; exact ⟨b, h1, hE k x b s X Y row h2 hg' hr⟩) hassign (fun l k x a' W m hl hx hr hM => by obtain ⟨b, rfl, h⟩ := hM; exact hbody l k x b W m hl hx hr h) hdone hstop
end

end Go.Proofs.Ytjlhmojofjkkdab
