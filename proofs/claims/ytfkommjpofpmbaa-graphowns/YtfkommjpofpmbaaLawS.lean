/-
  A step of a script, done: what it answers, what edges there are behind it.
-/
import Derived.Test.YtfkommjpofpmbaaGraph5
import Derived.Test.YtfkommjpofpmbaaWPick
namespace Go.Proofs.Ytfkommjpofpmbaa
open Go.RowKit

/-- A step of a script. -/
structure StV where
  wh : Int
  what : Int
  a : Int
  b : Int
def StV.z : StV := ⟨0, 0, 0, 0⟩
def StV.cells (s : StV) : List Value := [.int .i64 s.wh, .int .i64 s.what, .int .i64 s.a, .int .i64 s.b]
def StV.OK (s : StV) : Prop := I64 s.wh ∧ I64 s.what ∧ I64 s.a ∧ I64 s.b

/-- What a step answers. -/
structure Ans where
  c : Int
  r : Bool
  L : List Int
  M : List (Int × Int)

/-- What a step answers, and what edges there are behind it. -/
def Says (E : Int → Int → Prop) (s : StV) (t : Ans) (E' : Int → Int → Prop) : Prop :=
  (pickN s.what 8 < 3 ∧ Added E s.a s.b t.c E' ∧ t.r = false ∧ t.L = [] ∧ t.M = []) ∨
  (pickN s.what 8 = 3 ∧ (t.r = true ↔ Reach E s.a s.b) ∧ t.c = 0 ∧ t.L = [] ∧ t.M = [] ∧ E' = E) ∨
  (pickN s.what 8 = 4 ∧ BList E s.a t.L ∧ t.c = 0 ∧ t.r = false ∧ t.M = [] ∧ E' = E) ∨
  (pickN s.what 8 = 5 ∧ (t.r = true ↔ ∀ x, ¬ E x s.a) ∧ t.c = 0 ∧ t.L = [] ∧ t.M = [] ∧ E' = E) ∨
  (pickN s.what 8 = 6 ∧ Removed E s.a t.c E' ∧ t.r = false ∧ t.L = [] ∧ t.M = []) ∨
  (pickN s.what 8 = 7 ∧ EList E t.M ∧ t.c = 0 ∧ t.r = false ∧ t.L = [] ∧ E' = E)

/-- The answer's cells. -/
def toldA (c : Int) (r : Bool) (vl ve : Value) : Array Value := #[.int .i64 c, .bool r, vl, ve]

theorem szT : (Try.prog.info? 32).map (·.size) = some 4 := by kernel_rfl

theorem row_shape {w : World} {base e k n : Nat} {v : Value} {xs : List Value} (h : w.ownsRow base e k v n xs) : ∃ a c, v = .slice a n c := by
  rcases h.2 with ⟨rfl, rfl⟩ | ⟨g, cap, cur, rfl, _⟩
  · exact ⟨_, _, rfl⟩
  · exact ⟨_, _, rfl⟩
theorem row_one {w : World} {base e k n : Nat} {v : Value} {xs : List Value} (h : w.ownsRow base e k v n xs) : v.oneCell' = true := by
  rcases h.2 with ⟨rfl, _⟩ | ⟨g, cap, cur, rfl, _⟩ <;> rfl

theorem told_one {c : Int} {r : Bool} {vl ve : Value} (h1 : vl.oneCell' = true) (h2 : ve.oneCell' = true) : (toldA c r vl ve).all (·.oneCell') = true := by
  rw [Array.all_eq_true_iff_forall_mem]
  intro v hv
  simp [toldA] at hv
  rcases hv with rfl | rfl | rfl | rfl
  · rfl
  · rfl
  · exact h1
  · exact h2

section
variable {ops : Array Oper} {rest : List Oper} {o : Oper} {a : Act} {Q : Exit → Act → World → Prop} {w : World}
theorem wp_storeT (hg : o.guard = none) (x y : Operand) (hop : o.op = .store 32 x y) (g : Nat) (c : Int) (r : Bool) (vl ve : Value) (hx : a.eval x = .pointer (some ⟨g, 0, none⟩)) (hy : a.eval y = .agg #[.int .i64 c, .bool r, vl, ve])
    (old : Array Value) (hw : w.heap[g]? = some (.cells old 32 (0, 0))) (ho : old.size = 4) (h1 : vl.oneCell' = true) (h2 : ve.oneCell' = true)
    (hK : ∀ w', w'.heap[g]? = some (.cells (toldA c r vl ve) 32 (0, 0)) → Chg w w' (· = g) → w'.heap.size = w.heap.size → wpList Try.prog ops Q rest (a.put o.dst undef) w') : wpList Try.prog ops Q (o :: rest) a w := by
  refine wpList_store_row hg 32 x y hop g (toldA c r vl ve) hx hy 32 old hw (by rw [szT]; rfl) (by rw [ho]; rfl) (told_one h1 h2) (hK _ ?_ ?_ ?_)
  · simp [World.setRow, Array.getElem?_modify, hw]
  · refine ⟨rfl, rfl, rfl, by simp [World.setRow], fun k _ hk => ?_⟩
    simp only [World.setRow, Array.getElem?_modify]
    rw [if_neg (fun e => hk e.symm)]
  · simp [World.setRow]
end

theorem results_told {fn : Func} {t : Tmp} (h : fn.results = #[.cell t 32]) (tmps : Array Value) (w : World) (g : Nat) (c : Int) (r : Bool) (vl ve : Value)
    (hp : tmps.getD t undef = .pointer (some ⟨g, 0, none⟩)) (hg : w.heap[g]? = some (.cells (toldA c r vl ve) 32 (0, 0))) :
    (results fn tmps).run Try.prog w = .ok (.agg (toldA c r vl ve)) w :=
  results_cell_row h tmps w g 32 (toldA c r vl ve) (0, 0) _ hp hg Try.underlying32 rfl (by rw [szT]; rfl)

/-- What a step leaves. -/
def SPost (E : Int → Int → Prop) (p : Nat) (own : Nat → Prop) (s : StV) (w : World) (e : Ending) (w' : World) : Prop :=
  ∃ (t : Ans) (vl ve : Value) (E' : Int → Int → Prop) (own' : Nat → Prop), e = .returned (.agg (toldA t.c t.r vl ve)) ∧ Says E s t E' ∧ Ints w' w.heap.size vl t.L ∧ Edgs w' w.heap.size ve t.M ∧
    IsG w' p own' E' ∧ (∀ k, own' k → own k ∨ (w.heap.size ≤ k ∧ k < w'.heap.size)) ∧ Chg w w' own

variable {w : World} {E : Int → Int → Prop} {p : Nat} {own : Nat → Prop}

/-- The two variables of a step, made ahead of all. -/
def sw (w : World) (s : StV) : World := (w.alloc (.cells #[.int .i64 s.wh, .int .i64 s.what, .int .i64 s.a, .int .i64 s.b] 35)).alloc (.cells #[.int .i64 0, .bool false, .slice none 0 0, .slice none 0 0] 32)
theorem sw_chg (w : World) (s : StV) (ks : Nat → Prop) : Chg w (sw w s) ks := (Chg.alloc w _ ks).trans (Chg.alloc _ _ ks) (fun _ _ e => e) (fun _ _ e => e)
theorem sw_size (w : World) (s : StV) : (sw w s).heap.size = w.heap.size + 2 := by simp [sw]
theorem sw_0 (w : World) (s : StV) : (sw w s).heap[w.heap.size]? = some (.cells #[.int .i64 s.wh, .int .i64 s.what, .int .i64 s.a, .int .i64 s.b] 35 (0, 0)) := by
  unfold sw
  rw [heap_alloc_if, if_neg (by simp), heap_alloc_if, if_pos rfl]
theorem sw_1 (w : World) (s : StV) : (sw w s).heap[w.heap.size + 1]? = some (.cells #[.int .i64 0, .bool false, .slice none 0 0, .slice none 0 0] 32 (0, 0)) := by
  unfold sw
  rw [heap_alloc_if, if_pos (by simp)]
theorem ints_nil (w : World) (base : Nat) : Ints w base (.slice none 0 0) [] := World.ownsRow_nil _ _ _ _
theorem edgs_nil (w : World) (base : Nat) : Edgs w base (.slice none 0 0) [] := World.ownsRow_nil _ _ _ _

set_option maxRecDepth 100000 in
set_option maxHeartbeats 2000000 in
theorem stepped_add0 (s : StV) (hk : pickN s.what 8 = 0) (hs : s.OK) (h : IsG w p own E) (ho : ∀ k, own k → k < w.heap.size) : Calls Try.prog 20 #[.pointer (some ⟨p, 0, none⟩), .agg #[.int .i64 s.wh, .int .i64 s.what, .int .i64 s.a, .int .i64 s.b]] w (SPost E p own s w) := by
  have HP := fun w => pick_any s.what 8 w hs.2.1 (by omega) (by omega)
  rw [hk] at HP
  have HS := h.keep (sw_chg w s No) (fun _ _ e => e)
  have HC := addG_any s.a s.b HS hs.2.2.1 hs.2.2.2
  have HS0 := hid HS
  have hz := sw_size w s
  unfold sw at HC
  have Hk := hid hk
  clear hk h HS
  unfold SPost
  go_enter Try.func20, Try.ntmps20
  go_wp2_with (first
    | (go_at_call 21; go_must (refine (HP _).mono ?_; rintro e w1 ⟨rfl, rfl⟩))
    | (go_at_call 17; go_must (refine HC.mono ?_; rintro e w3 ⟨c, E', own', rfl, h31, h32, h33, hcc⟩; change Chg (sw w s) w3 _ at hcc; have HT := hcc.keep (sw_1 w s) (fun k => by have := ho _ k; omega)))
    | (refine wp_storeT rfl _ _ rfl (w.heap.size + 1) c false (.slice none 0 0) (.slice none 0 0) rfl rfl _ HT rfl rfl rfl ?_; intro w4 h41 h42 h43)
    | go_in)
  refine bodyPost_ret (results_told rfl _ w4 (w.heap.size + 1) c false (.slice none 0 0) (.slice none 0 0) rfl h41) rfl ?_
  have hsz := hcc.size
  refine ⟨⟨c, false, [], []⟩, _, _, E', own', rfl, .inl ⟨by rw [Hk.out]; decide, h31, rfl, rfl, rfl⟩, ints_nil _ _, edgs_nil _ _, h32.keep h42 (fun k hk e => ?_), fun k hk => ?_, ?_⟩
  · rcases h33 k hk with j | j
    · have := ho k j; omega
    · have j : (sw w s).heap.size ≤ k ∧ _ := j; omega
  · rcases h33 k hk with j | j
    · exact .inl j
    · have j : (sw w s).heap.size ≤ k ∧ _ := j
      exact .inr ⟨by omega, by omega⟩
  · exact (sw_chg w s own).trans (hcc.trans h42 (c := fun k => own k ∨ k = w.heap.size + 1) (fun _ _ e => .inl e) (fun _ _ e => .inr e)) (fun _ _ e => e) (fun j hj e => e.elim (fun e => e) (fun e => by omega))

set_option maxRecDepth 100000 in
set_option maxHeartbeats 2000000 in
theorem stepped_add1 (s : StV) (hk : pickN s.what 8 = 1) (hs : s.OK) (h : IsG w p own E) (ho : ∀ k, own k → k < w.heap.size) : Calls Try.prog 20 #[.pointer (some ⟨p, 0, none⟩), .agg #[.int .i64 s.wh, .int .i64 s.what, .int .i64 s.a, .int .i64 s.b]] w (SPost E p own s w) := by
  have HP := fun w => pick_any s.what 8 w hs.2.1 (by omega) (by omega)
  rw [hk] at HP
  have HS := h.keep (sw_chg w s No) (fun _ _ e => e)
  have HC := addG_any s.a s.b HS hs.2.2.1 hs.2.2.2
  have HS0 := hid HS
  have hz := sw_size w s
  unfold sw at HC
  have Hk := hid hk
  clear hk h HS
  unfold SPost
  go_enter Try.func20, Try.ntmps20
  go_wp2_with (first
    | (go_at_call 21; go_must (refine (HP _).mono ?_; rintro e w1 ⟨rfl, rfl⟩))
    | (go_at_call 17; go_must (refine HC.mono ?_; rintro e w3 ⟨c, E', own', rfl, h31, h32, h33, hcc⟩; change Chg (sw w s) w3 _ at hcc; have HT := hcc.keep (sw_1 w s) (fun k => by have := ho _ k; omega)))
    | (refine wp_storeT rfl _ _ rfl (w.heap.size + 1) c false (.slice none 0 0) (.slice none 0 0) rfl rfl _ HT rfl rfl rfl ?_; intro w4 h41 h42 h43)
    | go_in)
  refine bodyPost_ret (results_told rfl _ w4 (w.heap.size + 1) c false (.slice none 0 0) (.slice none 0 0) rfl h41) rfl ?_
  have hsz := hcc.size
  refine ⟨⟨c, false, [], []⟩, _, _, E', own', rfl, .inl ⟨by rw [Hk.out]; decide, h31, rfl, rfl, rfl⟩, ints_nil _ _, edgs_nil _ _, h32.keep h42 (fun k hk e => ?_), fun k hk => ?_, ?_⟩
  · rcases h33 k hk with j | j
    · have := ho k j; omega
    · have j : (sw w s).heap.size ≤ k ∧ _ := j; omega
  · rcases h33 k hk with j | j
    · exact .inl j
    · have j : (sw w s).heap.size ≤ k ∧ _ := j
      exact .inr ⟨by omega, by omega⟩
  · exact (sw_chg w s own).trans (hcc.trans h42 (c := fun k => own k ∨ k = w.heap.size + 1) (fun _ _ e => .inl e) (fun _ _ e => .inr e)) (fun _ _ e => e) (fun j hj e => e.elim (fun e => e) (fun e => by omega))

set_option maxRecDepth 100000 in
set_option maxHeartbeats 2000000 in
theorem stepped_add2 (s : StV) (hk : pickN s.what 8 = 2) (hs : s.OK) (h : IsG w p own E) (ho : ∀ k, own k → k < w.heap.size) : Calls Try.prog 20 #[.pointer (some ⟨p, 0, none⟩), .agg #[.int .i64 s.wh, .int .i64 s.what, .int .i64 s.a, .int .i64 s.b]] w (SPost E p own s w) := by
  have HP := fun w => pick_any s.what 8 w hs.2.1 (by omega) (by omega)
  rw [hk] at HP
  have HS := h.keep (sw_chg w s No) (fun _ _ e => e)
  have HC := addG_any s.a s.b HS hs.2.2.1 hs.2.2.2
  have HS0 := hid HS
  have hz := sw_size w s
  unfold sw at HC
  have Hk := hid hk
  clear hk h HS
  unfold SPost
  go_enter Try.func20, Try.ntmps20
  go_wp2_with (first
    | (go_at_call 21; go_must (refine (HP _).mono ?_; rintro e w1 ⟨rfl, rfl⟩))
    | (go_at_call 17; go_must (refine HC.mono ?_; rintro e w3 ⟨c, E', own', rfl, h31, h32, h33, hcc⟩; change Chg (sw w s) w3 _ at hcc; have HT := hcc.keep (sw_1 w s) (fun k => by have := ho _ k; omega)))
    | (refine wp_storeT rfl _ _ rfl (w.heap.size + 1) c false (.slice none 0 0) (.slice none 0 0) rfl rfl _ HT rfl rfl rfl ?_; intro w4 h41 h42 h43)
    | go_in)
  refine bodyPost_ret (results_told rfl _ w4 (w.heap.size + 1) c false (.slice none 0 0) (.slice none 0 0) rfl h41) rfl ?_
  have hsz := hcc.size
  refine ⟨⟨c, false, [], []⟩, _, _, E', own', rfl, .inl ⟨by rw [Hk.out]; decide, h31, rfl, rfl, rfl⟩, ints_nil _ _, edgs_nil _ _, h32.keep h42 (fun k hk e => ?_), fun k hk => ?_, ?_⟩
  · rcases h33 k hk with j | j
    · have := ho k j; omega
    · have j : (sw w s).heap.size ≤ k ∧ _ := j; omega
  · rcases h33 k hk with j | j
    · exact .inl j
    · have j : (sw w s).heap.size ≤ k ∧ _ := j
      exact .inr ⟨by omega, by omega⟩
  · exact (sw_chg w s own).trans (hcc.trans h42 (c := fun k => own k ∨ k = w.heap.size + 1) (fun _ _ e => .inl e) (fun _ _ e => .inr e)) (fun _ _ e => e) (fun j hj e => e.elim (fun e => e) (fun e => by omega))

set_option maxRecDepth 100000 in
set_option maxHeartbeats 2000000 in
theorem stepped_remove (s : StV) (hk : pickN s.what 8 = 6) (hs : s.OK) (h : IsG w p own E) (ho : ∀ k, own k → k < w.heap.size) : Calls Try.prog 20 #[.pointer (some ⟨p, 0, none⟩), .agg #[.int .i64 s.wh, .int .i64 s.what, .int .i64 s.a, .int .i64 s.b]] w (SPost E p own s w) := by
  have HP := fun w => pick_any s.what 8 w hs.2.1 (by omega) (by omega)
  rw [hk] at HP
  have HS := h.keep (sw_chg w s No) (fun _ _ e => e)
  have HC := removeG_any s.a HS
  have HS0 := hid HS
  have hz := sw_size w s
  unfold sw at HC
  have Hk := hid hk
  clear hk h HS
  unfold SPost
  go_enter Try.func20, Try.ntmps20
  go_wp2_with (first
    | (go_at_call 21; go_must (refine (HP _).mono ?_; rintro e w1 ⟨rfl, rfl⟩))
    | (go_at_call 33; go_must (refine HC.mono ?_; rintro e w3 ⟨c, E', rfl, h31, h32, hcc⟩; change Chg (sw w s) w3 _ at hcc; have HT := hcc.keep (sw_1 w s) (fun k => by have := ho _ k; omega)))
    | (refine wp_storeT rfl _ _ rfl (w.heap.size + 1) c false (.slice none 0 0) (.slice none 0 0) rfl rfl _ HT rfl rfl rfl ?_; intro w4 h41 h42 h43)
    | go_in)
  refine bodyPost_ret (results_told rfl _ w4 (w.heap.size + 1) c false (.slice none 0 0) (.slice none 0 0) rfl h41) rfl ?_
  have hsz := hcc.size
  refine ⟨⟨c, false, [], []⟩, _, _, E', own, rfl, .inr (.inr (.inr (.inr (.inl ⟨Hk.out, h31, rfl, rfl, rfl⟩)))), ints_nil _ _, edgs_nil _ _, h32.keep h42 (fun k hk e => ?_), fun k hk => .inl hk, ?_⟩
  · have := ho k hk; omega
  · exact (sw_chg w s own).trans (hcc.trans h42 (c := fun k => own k ∨ k = w.heap.size + 1) (fun _ _ e => .inl e) (fun _ _ e => .inr e)) (fun _ _ e => e) (fun j hj e => e.elim (fun e => e) (fun e => by omega))

set_option maxRecDepth 100000 in
set_option maxHeartbeats 2000000 in
theorem stepped_reaches (s : StV) (hk : pickN s.what 8 = 3) (hs : s.OK) (h : IsG w p own E) (ho : ∀ k, own k → k < w.heap.size) : Calls Try.prog 20 #[.pointer (some ⟨p, 0, none⟩), .agg #[.int .i64 s.wh, .int .i64 s.what, .int .i64 s.a, .int .i64 s.b]] w (SPost E p own s w) := by
  have HP := fun w => pick_any s.what 8 w hs.2.1 (by omega) (by omega)
  rw [hk] at HP
  have HS := h.keep (sw_chg w s No) (fun _ _ e => e)
  have HC := reaches_any s.a s.b HS hs.2.2.1 hs.2.2.2
  have HS0 := hid HS
  have hz := sw_size w s
  unfold sw at HC
  have Hk := hid hk
  clear hk h HS
  unfold SPost
  go_enter Try.func20, Try.ntmps20
  go_wp2_with (first
    | (go_at_call 21; go_must (refine (HP _).mono ?_; rintro e w1 ⟨rfl, rfl⟩))
    | (go_at_call 18; go_must (refine HC.mono ?_; rintro e w3 ⟨r, rfl, h31, hcc⟩; change Chg (sw w s) w3 _ at hcc; have HT := hcc.keep (sw_1 w s) (fun e => e)))
    | (refine wp_storeT rfl _ _ rfl (w.heap.size + 1) 0 r (.slice none 0 0) (.slice none 0 0) rfl rfl _ HT rfl rfl rfl ?_; intro w4 h41 h42 h43)
    | go_in)
  refine bodyPost_ret (results_told rfl _ w4 (w.heap.size + 1) 0 r (.slice none 0 0) (.slice none 0 0) rfl h41) rfl ?_
  have hsz := hcc.size
  refine ⟨⟨0, r, [], []⟩, _, _, E, own, rfl, .inr (.inl ⟨Hk.out, h31, rfl, rfl, rfl, rfl⟩), ints_nil _ _, edgs_nil _ _, (HS0.out.call hcc).keep h42 (fun k hk e => ?_), fun k hk => .inl hk, ?_⟩
  · have := ho k hk; omega
  · exact (sw_chg w s own).trans (hcc.trans h42 (c := fun k => k = w.heap.size + 1) (fun _ _ e => e.elim) (fun _ _ e => e)) (fun _ _ e => e) (fun j hj e => by omega)

set_option maxRecDepth 100000 in
set_option maxHeartbeats 2000000 in
theorem stepped_free (s : StV) (hk : pickN s.what 8 = 5) (hs : s.OK) (h : IsG w p own E) (ho : ∀ k, own k → k < w.heap.size) : Calls Try.prog 20 #[.pointer (some ⟨p, 0, none⟩), .agg #[.int .i64 s.wh, .int .i64 s.what, .int .i64 s.a, .int .i64 s.b]] w (SPost E p own s w) := by
  have HP := fun w => pick_any s.what 8 w hs.2.1 (by omega) (by omega)
  rw [hk] at HP
  have HS := h.keep (sw_chg w s No) (fun _ _ e => e)
  have HC := (free_any s.a HS hs.2.2.1).mono (fun e w' h => (show ∃ r, e = .returned (.bool r) ∧ (r = true ↔ ∀ a, ¬ E a s.a) ∧ Chg (sw w s) w' No from let ⟨r, h1, h2, h3⟩ := h; ⟨r, h1, h2, h3 ▸ Chg.refl _ _⟩))
  have HS0 := hid HS
  have hz := sw_size w s
  unfold sw at HC
  have Hk := hid hk
  clear hk h HS
  unfold SPost
  go_enter Try.func20, Try.ntmps20
  go_wp2_with (first
    | (go_at_call 21; go_must (refine (HP _).mono ?_; rintro e w1 ⟨rfl, rfl⟩))
    | (go_at_call 19; go_must (refine HC.mono ?_; rintro e w3 ⟨r, rfl, h31, hcc⟩; change Chg (sw w s) w3 _ at hcc; have HT := hcc.keep (sw_1 w s) (fun e => e)))
    | (refine wp_storeT rfl _ _ rfl (w.heap.size + 1) 0 r (.slice none 0 0) (.slice none 0 0) rfl rfl _ HT rfl rfl rfl ?_; intro w4 h41 h42 h43)
    | go_in)
  refine bodyPost_ret (results_told rfl _ w4 (w.heap.size + 1) 0 r (.slice none 0 0) (.slice none 0 0) rfl h41) rfl ?_
  have hsz := hcc.size
  refine ⟨⟨0, r, [], []⟩, _, _, E, own, rfl, .inr (.inr (.inr (.inl ⟨Hk.out, h31, rfl, rfl, rfl, rfl⟩))), ints_nil _ _, edgs_nil _ _, (HS0.out.call hcc).keep h42 (fun k hk e => ?_), fun k hk => .inl hk, ?_⟩
  · have := ho k hk; omega
  · exact (sw_chg w s own).trans (hcc.trans h42 (c := fun k => k = w.heap.size + 1) (fun _ _ e => e.elim) (fun _ _ e => e)) (fun _ _ e => e) (fun j hj e => by omega)

set_option maxRecDepth 100000 in
set_option maxHeartbeats 2000000 in
theorem stepped_before (s : StV) (hk : pickN s.what 8 = 4) (hs : s.OK) (h : IsG w p own E) (ho : ∀ k, own k → k < w.heap.size) : Calls Try.prog 20 #[.pointer (some ⟨p, 0, none⟩), .agg #[.int .i64 s.wh, .int .i64 s.what, .int .i64 s.a, .int .i64 s.b]] w (SPost E p own s w) := by
  have HP := fun w => pick_any s.what 8 w hs.2.1 (by omega) (by omega)
  rw [hk] at HP
  have HS := h.keep (sw_chg w s No) (fun _ _ e => e)
  have HC := before_any s.a HS hs.2.2.1
  have HS0 := hid HS
  have hz := sw_size w s
  unfold sw at HC
  have Hk := hid hk
  clear hk h HS
  unfold SPost
  go_enter Try.func20, Try.ntmps20
  go_wp2_with (first
    | (go_at_call 21; go_must (refine (HP _).mono ?_; rintro e w1 ⟨rfl, rfl⟩))
    | (go_at_call 8; go_must (refine HC.mono ?_; rintro e w3 ⟨v, l, rfl, hv, h31, hcc⟩; obtain ⟨va, vc, rfl⟩ := row_shape hv; change Chg (sw w s) w3 _ at hcc; have HT := hcc.keep (sw_1 w s) (fun e => e)))
    | (refine wp_storeT rfl _ _ rfl (w.heap.size + 1) 0 false (.slice va l.length vc) (.slice none 0 0) rfl rfl _ HT rfl rfl rfl ?_; intro w4 h41 h42 h43)
    | go_in)
  refine bodyPost_ret (results_told rfl _ w4 (w.heap.size + 1) 0 false (.slice va l.length vc) (.slice none 0 0) rfl h41) rfl ?_
  have hsz := hcc.size
  have hv : Ints w3 (sw w s).heap.size (.slice va l.length vc) l := hv
  refine ⟨⟨0, false, l, []⟩, _, _, E, own, rfl, .inr (.inr (.inl ⟨Hk.out, h31, rfl, rfl, rfl, rfl⟩)), row_base (row_keep hv h42 (fun j hj e => by have := (row_ge hv hj).1; omega)) (by omega), edgs_nil _ _, (HS0.out.call hcc).keep h42 (fun k hk e => ?_), fun k hk => .inl hk, ?_⟩
  · have := ho k hk; omega
  · exact (sw_chg w s own).trans (hcc.trans h42 (c := fun k => k = w.heap.size + 1) (fun _ _ e => e.elim) (fun _ _ e => e)) (fun _ _ e => e) (fun j hj e => by omega)

set_option maxRecDepth 100000 in
set_option maxHeartbeats 2000000 in
theorem stepped_edges (s : StV) (hk : pickN s.what 8 = 7) (hs : s.OK) (h : IsG w p own E) (ho : ∀ k, own k → k < w.heap.size) : Calls Try.prog 20 #[.pointer (some ⟨p, 0, none⟩), .agg #[.int .i64 s.wh, .int .i64 s.what, .int .i64 s.a, .int .i64 s.b]] w (SPost E p own s w) := by
  have HP := fun w => pick_any s.what 8 w hs.2.1 (by omega) (by omega)
  rw [hk] at HP
  have HS := h.keep (sw_chg w s No) (fun _ _ e => e)
  have HC := edgesG_any HS
  have HS0 := hid HS
  have hz := sw_size w s
  unfold sw at HC
  have Hk := hid hk
  clear hk h HS
  unfold SPost
  go_enter Try.func20, Try.ntmps20
  go_wp2_with (first
    | (go_at_call 21; go_must (refine (HP _).mono ?_; rintro e w1 ⟨rfl, rfl⟩))
    | (go_at_call 9; go_must (refine HC.mono ?_; rintro e w3 ⟨v, l, rfl, hv, h31, hcc⟩; obtain ⟨va, vc, rfl⟩ := row_shape hv; change Chg (sw w s) w3 _ at hcc; have HT := hcc.keep (sw_1 w s) (fun e => e)))
    | (refine wp_storeT rfl _ _ rfl (w.heap.size + 1) 0 false (.slice none 0 0) (.slice va l.length vc) rfl rfl _ HT rfl rfl rfl ?_; intro w4 h41 h42 h43)
    | go_in)
  refine bodyPost_ret (results_told rfl _ w4 (w.heap.size + 1) 0 false (.slice none 0 0) (.slice va l.length vc) rfl h41) rfl ?_
  have hsz := hcc.size
  have hv : Edgs w3 (sw w s).heap.size (.slice va l.length vc) l := hv
  refine ⟨⟨0, false, [], l⟩, _, _, E, own, rfl, .inr (.inr (.inr (.inr (.inr ⟨Hk.out, h31, rfl, rfl, rfl, rfl⟩)))), ints_nil _ _, row_base (row_keep hv h42 (fun j hj e => by have := (row_ge hv hj).1; omega)) (by omega), (HS0.out.call hcc).keep h42 (fun k hk e => ?_), fun k hk => .inl hk, ?_⟩
  · have := ho k hk; omega
  · exact (sw_chg w s own).trans (hcc.trans h42 (c := fun k => k = w.heap.size + 1) (fun _ _ e => e.elim) (fun _ _ e => e)) (fun _ _ e => e) (fun j hj e => by omega)

theorem stepped_any (s : StV) (hs : s.OK) (h : IsG w p own E) (ho : ∀ k, own k → k < w.heap.size) : Calls Try.prog 20 #[.pointer (some ⟨p, 0, none⟩), .agg #[.int .i64 s.wh, .int .i64 s.what, .int .i64 s.a, .int .i64 s.b]] w (SPost E p own s w) := by
  obtain ⟨h0, h1⟩ := pickN_bd s.what (n := 8) (by omega)
  rcases (show pickN s.what 8 = 0 ∨ pickN s.what 8 = 1 ∨ pickN s.what 8 = 2 ∨ pickN s.what 8 = 3 ∨ pickN s.what 8 = 4 ∨ pickN s.what 8 = 5 ∨ pickN s.what 8 = 6 ∨ pickN s.what 8 = 7 by omega) with k | k | k | k | k | k | k | k
  · exact stepped_add0 s k hs h ho
  · exact stepped_add1 s k hs h ho
  · exact stepped_add2 s k hs h ho
  · exact stepped_reaches s k hs h ho
  · exact stepped_before s k hs h ho
  · exact stepped_free s k hs h ho
  · exact stepped_remove s k hs h ho
  · exact stepped_edges s k hs h ho

end Go.Proofs.Ytfkommjpofpmbaa
