/-
  A step of a script, as the document has it: what it answers, what edges there are behind it.
-/
import Derived.Test.YtfkommjpofpmbaaRef5
namespace Go.Proofs.Ytfkommjpofpmbaa
open Go.RowKit

/-- What a step leaves. -/
def RSPost (E : Int → Int → Prop) (p : Nat) (own : Nat → Prop) (s : StV) (w : World) (e : Ending) (w' : World) : Prop :=
  ∃ (t : Ans) (vl ve : Value) (E' : Int → Int → Prop) (own' : Nat → Prop), e = .returned (.agg (toldA t.c t.r vl ve)) ∧ Says E s t E' ∧ Ints w' w.heap.size vl t.L ∧ Edgs w' w.heap.size ve t.M ∧
    IsR w' p own' E' ∧ (∀ k, own' k → own k ∨ (w.heap.size ≤ k ∧ k < w'.heap.size)) ∧ Chg w w' own

variable {w : World} {E : Int → Int → Prop} {p : Nat} {own : Nat → Prop}

set_option maxRecDepth 100000 in
set_option maxHeartbeats 2000000 in
theorem wanted_add0 (s : StV) (hk : pickN s.what 8 = 0) (hs : s.OK) (h : IsR w p own E) (ho : ∀ k, own k → k < w.heap.size) : Calls Try.prog 7 #[.pointer (some ⟨p, 0, none⟩), .agg #[.int .i64 s.wh, .int .i64 s.what, .int .i64 s.a, .int .i64 s.b]] w (RSPost E p own s w) := by
  have HP := fun w => pick_any s.what 8 w hs.2.1 (by omega) (by omega)
  rw [hk] at HP
  have HS := h.keep (sw_chg w s No) (fun _ _ e => e)
  have HC := radd_any s.a s.b HS
  have HS0 := hid HS
  have hz := sw_size w s
  unfold sw at HC
  have Hk := hid hk
  clear hk h HS
  unfold RSPost
  go_enter Try.func7, Try.ntmps7
  go_wp2_with (first
    | (go_at_call 21; go_must (refine (HP _).mono ?_; rintro e w1 ⟨rfl, rfl⟩))
    | (go_at_call 22; go_must (refine HC.mono ?_; rintro e w3 ⟨c, E', own', rfl, h31, h32, h33, hcc⟩; change Chg (sw w s) w3 _ at hcc; have HT := hcc.keep (sw_1 w s) (fun k => by have := ho _ k; omega)))
    | (refine wp_storeT rfl _ _ rfl (w.heap.size + 1) c false (.slice none 0 0) (.slice none 0 0) rfl rfl _ HT rfl rfl rfl ?_; intro w4 h41 h42 h43)
    | go_in)
  refine bodyPost_ret (results_told rfl _ w4 (w.heap.size + 1) c false (.slice none 0 0) (.slice none 0 0) rfl h41) rfl ?_
  have hsz := hcc.size
  refine ⟨⟨c, false, [], []⟩, _, _, E', own', rfl, .inl ⟨by rw [Hk.out]; decide, h31, rfl, rfl, rfl⟩, ints_nil _ _, edgs_nil _ _, h32.keep h42 (fun k hk e => ?_), fun k hk => ?_, ?_⟩
  · rcases h33 k hk with j | j
    · have := ho k j; omega
    · have j : (sw w s).heap.size ≤ k ∧ _ := j; omega
  · rcases h33 k hk with j | j
    · exact .inl j
    · have j : (sw w s).heap.size ≤ k ∧ _ := j
      exact .inr ⟨by omega, by omega⟩
  · exact (sw_chg w s own).trans (hcc.trans h42 (c := fun k => own k ∨ k = w.heap.size + 1) (fun _ _ e => .inl e) (fun _ _ e => .inr e)) (fun _ _ e => e) (fun j hj e => e.elim (fun e => e) (fun e => by omega))

set_option maxRecDepth 100000 in
set_option maxHeartbeats 2000000 in
theorem wanted_add1 (s : StV) (hk : pickN s.what 8 = 1) (hs : s.OK) (h : IsR w p own E) (ho : ∀ k, own k → k < w.heap.size) : Calls Try.prog 7 #[.pointer (some ⟨p, 0, none⟩), .agg #[.int .i64 s.wh, .int .i64 s.what, .int .i64 s.a, .int .i64 s.b]] w (RSPost E p own s w) := by
  have HP := fun w => pick_any s.what 8 w hs.2.1 (by omega) (by omega)
  rw [hk] at HP
  have HS := h.keep (sw_chg w s No) (fun _ _ e => e)
  have HC := radd_any s.a s.b HS
  have HS0 := hid HS
  have hz := sw_size w s
  unfold sw at HC
  have Hk := hid hk
  clear hk h HS
  unfold RSPost
  go_enter Try.func7, Try.ntmps7
  go_wp2_with (first
    | (go_at_call 21; go_must (refine (HP _).mono ?_; rintro e w1 ⟨rfl, rfl⟩))
    | (go_at_call 22; go_must (refine HC.mono ?_; rintro e w3 ⟨c, E', own', rfl, h31, h32, h33, hcc⟩; change Chg (sw w s) w3 _ at hcc; have HT := hcc.keep (sw_1 w s) (fun k => by have := ho _ k; omega)))
    | (refine wp_storeT rfl _ _ rfl (w.heap.size + 1) c false (.slice none 0 0) (.slice none 0 0) rfl rfl _ HT rfl rfl rfl ?_; intro w4 h41 h42 h43)
    | go_in)
  refine bodyPost_ret (results_told rfl _ w4 (w.heap.size + 1) c false (.slice none 0 0) (.slice none 0 0) rfl h41) rfl ?_
  have hsz := hcc.size
  refine ⟨⟨c, false, [], []⟩, _, _, E', own', rfl, .inl ⟨by rw [Hk.out]; decide, h31, rfl, rfl, rfl⟩, ints_nil _ _, edgs_nil _ _, h32.keep h42 (fun k hk e => ?_), fun k hk => ?_, ?_⟩
  · rcases h33 k hk with j | j
    · have := ho k j; omega
    · have j : (sw w s).heap.size ≤ k ∧ _ := j; omega
  · rcases h33 k hk with j | j
    · exact .inl j
    · have j : (sw w s).heap.size ≤ k ∧ _ := j
      exact .inr ⟨by omega, by omega⟩
  · exact (sw_chg w s own).trans (hcc.trans h42 (c := fun k => own k ∨ k = w.heap.size + 1) (fun _ _ e => .inl e) (fun _ _ e => .inr e)) (fun _ _ e => e) (fun j hj e => e.elim (fun e => e) (fun e => by omega))

set_option maxRecDepth 100000 in
set_option maxHeartbeats 2000000 in
theorem wanted_add2 (s : StV) (hk : pickN s.what 8 = 2) (hs : s.OK) (h : IsR w p own E) (ho : ∀ k, own k → k < w.heap.size) : Calls Try.prog 7 #[.pointer (some ⟨p, 0, none⟩), .agg #[.int .i64 s.wh, .int .i64 s.what, .int .i64 s.a, .int .i64 s.b]] w (RSPost E p own s w) := by
  have HP := fun w => pick_any s.what 8 w hs.2.1 (by omega) (by omega)
  rw [hk] at HP
  have HS := h.keep (sw_chg w s No) (fun _ _ e => e)
  have HC := radd_any s.a s.b HS
  have HS0 := hid HS
  have hz := sw_size w s
  unfold sw at HC
  have Hk := hid hk
  clear hk h HS
  unfold RSPost
  go_enter Try.func7, Try.ntmps7
  go_wp2_with (first
    | (go_at_call 21; go_must (refine (HP _).mono ?_; rintro e w1 ⟨rfl, rfl⟩))
    | (go_at_call 22; go_must (refine HC.mono ?_; rintro e w3 ⟨c, E', own', rfl, h31, h32, h33, hcc⟩; change Chg (sw w s) w3 _ at hcc; have HT := hcc.keep (sw_1 w s) (fun k => by have := ho _ k; omega)))
    | (refine wp_storeT rfl _ _ rfl (w.heap.size + 1) c false (.slice none 0 0) (.slice none 0 0) rfl rfl _ HT rfl rfl rfl ?_; intro w4 h41 h42 h43)
    | go_in)
  refine bodyPost_ret (results_told rfl _ w4 (w.heap.size + 1) c false (.slice none 0 0) (.slice none 0 0) rfl h41) rfl ?_
  have hsz := hcc.size
  refine ⟨⟨c, false, [], []⟩, _, _, E', own', rfl, .inl ⟨by rw [Hk.out]; decide, h31, rfl, rfl, rfl⟩, ints_nil _ _, edgs_nil _ _, h32.keep h42 (fun k hk e => ?_), fun k hk => ?_, ?_⟩
  · rcases h33 k hk with j | j
    · have := ho k j; omega
    · have j : (sw w s).heap.size ≤ k ∧ _ := j; omega
  · rcases h33 k hk with j | j
    · exact .inl j
    · have j : (sw w s).heap.size ≤ k ∧ _ := j
      exact .inr ⟨by omega, by omega⟩
  · exact (sw_chg w s own).trans (hcc.trans h42 (c := fun k => own k ∨ k = w.heap.size + 1) (fun _ _ e => .inl e) (fun _ _ e => .inr e)) (fun _ _ e => e) (fun j hj e => e.elim (fun e => e) (fun e => by omega))

set_option maxRecDepth 100000 in
set_option maxHeartbeats 2000000 in
theorem wanted_remove (s : StV) (hk : pickN s.what 8 = 6) (hs : s.OK) (h : IsR w p own E) (ho : ∀ k, own k → k < w.heap.size) : Calls Try.prog 7 #[.pointer (some ⟨p, 0, none⟩), .agg #[.int .i64 s.wh, .int .i64 s.what, .int .i64 s.a, .int .i64 s.b]] w (RSPost E p own s w) := by
  have HP := fun w => pick_any s.what 8 w hs.2.1 (by omega) (by omega)
  rw [hk] at HP
  have HS := h.keep (sw_chg w s No) (fun _ _ e => e)
  have HC := rremove_any s.a HS
  have HS0 := hid HS
  have hz := sw_size w s
  unfold sw at HC
  have Hk := hid hk
  clear hk h HS
  unfold RSPost
  go_enter Try.func7, Try.ntmps7
  go_wp2_with (first
    | (go_at_call 21; go_must (refine (HP _).mono ?_; rintro e w1 ⟨rfl, rfl⟩))
    | (go_at_call 25; go_must (refine HC.mono ?_; rintro e w3 ⟨c, E', own', rfl, h31, h32, h33, hcc⟩; change Chg (sw w s) w3 _ at hcc; have HT := hcc.keep (sw_1 w s) (fun k => by have := ho _ k; omega)))
    | (refine wp_storeT rfl _ _ rfl (w.heap.size + 1) c false (.slice none 0 0) (.slice none 0 0) rfl rfl _ HT rfl rfl rfl ?_; intro w4 h41 h42 h43)
    | go_in)
  refine bodyPost_ret (results_told rfl _ w4 (w.heap.size + 1) c false (.slice none 0 0) (.slice none 0 0) rfl h41) rfl ?_
  have hsz := hcc.size
  refine ⟨⟨c, false, [], []⟩, _, _, E', own', rfl, .inr (.inr (.inr (.inr (.inl ⟨Hk.out, h31, rfl, rfl, rfl⟩)))), ints_nil _ _, edgs_nil _ _, h32.keep h42 (fun k hk e => ?_), fun k hk => ?_, ?_⟩
  · rcases h33 k hk with j | j
    · have := ho k j; omega
    · have j : (sw w s).heap.size ≤ k ∧ _ := j; omega
  · rcases h33 k hk with j | j
    · exact .inl j
    · have j : (sw w s).heap.size ≤ k ∧ _ := j
      exact .inr ⟨by omega, by omega⟩
  · exact (sw_chg w s own).trans (hcc.trans h42 (c := fun k => own k ∨ k = w.heap.size + 1) (fun _ _ e => .inl e) (fun _ _ e => .inr e)) (fun _ _ e => e) (fun j hj e => e.elim (fun e => e) (fun e => by omega))

set_option maxRecDepth 100000 in
set_option maxHeartbeats 2000000 in
theorem wanted_reaches (s : StV) (hk : pickN s.what 8 = 3) (hs : s.OK) (h : IsR w p own E) (ho : ∀ k, own k → k < w.heap.size) : Calls Try.prog 7 #[.pointer (some ⟨p, 0, none⟩), .agg #[.int .i64 s.wh, .int .i64 s.what, .int .i64 s.a, .int .i64 s.b]] w (RSPost E p own s w) := by
  have HP := fun w => pick_any s.what 8 w hs.2.1 (by omega) (by omega)
  rw [hk] at HP
  have HS := h.keep (sw_chg w s No) (fun _ _ e => e)
  have HC := rreaches_any s.a s.b HS
  have HS0 := hid HS
  have hz := sw_size w s
  unfold sw at HC
  have Hk := hid hk
  clear hk h HS
  unfold RSPost
  go_enter Try.func7, Try.ntmps7
  go_wp2_with (first
    | (go_at_call 21; go_must (refine (HP _).mono ?_; rintro e w1 ⟨rfl, rfl⟩))
    | (go_at_call 23; go_must (refine HC.mono ?_; rintro e w3 ⟨r, rfl, h31, hcc⟩; change Chg (sw w s) w3 _ at hcc; have HT := hcc.keep (sw_1 w s) (fun e => e)))
    | (refine wp_storeT rfl _ _ rfl (w.heap.size + 1) 0 r (.slice none 0 0) (.slice none 0 0) rfl rfl _ HT rfl rfl rfl ?_; intro w4 h41 h42 h43)
    | go_in)
  refine bodyPost_ret (results_told rfl _ w4 (w.heap.size + 1) 0 r (.slice none 0 0) (.slice none 0 0) rfl h41) rfl ?_
  have hsz := hcc.size
  refine ⟨⟨0, r, [], []⟩, _, _, E, own, rfl, .inr (.inl ⟨Hk.out, h31, rfl, rfl, rfl, rfl⟩), ints_nil _ _, edgs_nil _ _, (HS0.out.call hcc).keep h42 (fun k hk e => ?_), fun k hk => .inl hk, ?_⟩
  · have := ho k hk; omega
  · exact (sw_chg w s own).trans (hcc.trans h42 (c := fun k => k = w.heap.size + 1) (fun _ _ e => e.elim) (fun _ _ e => e)) (fun _ _ e => e) (fun j hj e => by omega)

set_option maxRecDepth 100000 in
set_option maxHeartbeats 2000000 in
theorem wanted_free (s : StV) (hk : pickN s.what 8 = 5) (hs : s.OK) (h : IsR w p own E) (ho : ∀ k, own k → k < w.heap.size) : Calls Try.prog 7 #[.pointer (some ⟨p, 0, none⟩), .agg #[.int .i64 s.wh, .int .i64 s.what, .int .i64 s.a, .int .i64 s.b]] w (RSPost E p own s w) := by
  have HP := fun w => pick_any s.what 8 w hs.2.1 (by omega) (by omega)
  rw [hk] at HP
  have HS := h.keep (sw_chg w s No) (fun _ _ e => e)
  have HC := (rfree_any s.a HS).mono (fun e w' h => (show ∃ r, e = .returned (.bool r) ∧ (r = true ↔ ∀ a, ¬ E a s.a) ∧ Chg (sw w s) w' No from let ⟨r, h1, h2, h3⟩ := h; ⟨r, h1, h2, h3 ▸ Chg.refl _ _⟩))
  have HS0 := hid HS
  have hz := sw_size w s
  unfold sw at HC
  have Hk := hid hk
  clear hk h HS
  unfold RSPost
  go_enter Try.func7, Try.ntmps7
  go_wp2_with (first
    | (go_at_call 21; go_must (refine (HP _).mono ?_; rintro e w1 ⟨rfl, rfl⟩))
    | (go_at_call 24; go_must (refine HC.mono ?_; rintro e w3 ⟨r, rfl, h31, hcc⟩; change Chg (sw w s) w3 _ at hcc; have HT := hcc.keep (sw_1 w s) (fun e => e)))
    | (refine wp_storeT rfl _ _ rfl (w.heap.size + 1) 0 r (.slice none 0 0) (.slice none 0 0) rfl rfl _ HT rfl rfl rfl ?_; intro w4 h41 h42 h43)
    | go_in)
  refine bodyPost_ret (results_told rfl _ w4 (w.heap.size + 1) 0 r (.slice none 0 0) (.slice none 0 0) rfl h41) rfl ?_
  have hsz := hcc.size
  refine ⟨⟨0, r, [], []⟩, _, _, E, own, rfl, .inr (.inr (.inr (.inl ⟨Hk.out, h31, rfl, rfl, rfl, rfl⟩))), ints_nil _ _, edgs_nil _ _, (HS0.out.call hcc).keep h42 (fun k hk e => ?_), fun k hk => .inl hk, ?_⟩
  · have := ho k hk; omega
  · exact (sw_chg w s own).trans (hcc.trans h42 (c := fun k => k = w.heap.size + 1) (fun _ _ e => e.elim) (fun _ _ e => e)) (fun _ _ e => e) (fun j hj e => by omega)

set_option maxRecDepth 100000 in
set_option maxHeartbeats 2000000 in
theorem wanted_before (s : StV) (hk : pickN s.what 8 = 4) (hs : s.OK) (h : IsR w p own E) (ho : ∀ k, own k → k < w.heap.size) : Calls Try.prog 7 #[.pointer (some ⟨p, 0, none⟩), .agg #[.int .i64 s.wh, .int .i64 s.what, .int .i64 s.a, .int .i64 s.b]] w (RSPost E p own s w) := by
  have HP := fun w => pick_any s.what 8 w hs.2.1 (by omega) (by omega)
  rw [hk] at HP
  have HS := h.keep (sw_chg w s No) (fun _ _ e => e)
  have HC := rbefore_any s.a HS
  have HS0 := hid HS
  have hz := sw_size w s
  unfold sw at HC
  have Hk := hid hk
  clear hk h HS
  unfold RSPost
  go_enter Try.func7, Try.ntmps7
  go_wp2_with (first
    | (go_at_call 21; go_must (refine (HP _).mono ?_; rintro e w1 ⟨rfl, rfl⟩))
    | (go_at_call 11; go_must (refine HC.mono ?_; rintro e w3 ⟨v, l, rfl, hv, h31, hcc⟩; obtain ⟨va, vc, rfl⟩ := row_shape hv; change Chg (sw w s) w3 _ at hcc; have HT := hcc.keep (sw_1 w s) (fun e => e)))
    | (refine wp_storeT rfl _ _ rfl (w.heap.size + 1) 0 false (.slice va l.length vc) (.slice none 0 0) rfl rfl _ HT rfl rfl rfl ?_; intro w4 h41 h42 h43)
    | go_in)
  refine bodyPost_ret (results_told rfl _ w4 (w.heap.size + 1) 0 false (.slice va l.length vc) (.slice none 0 0) rfl h41) rfl ?_
  have hsz := hcc.size
  have hv : Ints w3 (sw w s).heap.size (.slice va l.length vc) l := hv
  refine ⟨⟨0, false, l, []⟩, _, _, E, own, rfl, .inr (.inr (.inl ⟨Hk.out, h31, rfl, rfl, rfl, rfl⟩)), row_base (row_keep hv h42 (fun j hj e => by have := (row_ge hv hj).1; omega)) (by omega), edgs_nil _ _, (HS0.out.call hcc).keep h42 (fun k hk e => ?_), fun k hk => .inl hk, ?_⟩
  · have := ho k hk; omega
  · exact (sw_chg w s own).trans (hcc.trans h42 (c := fun k => k = w.heap.size + 1) (fun _ _ e => e.elim) (fun _ _ e => e)) (fun _ _ e => e) (fun j hj e => by omega)

set_option maxRecDepth 100000 in
set_option maxHeartbeats 2000000 in
theorem wanted_edges (s : StV) (hk : pickN s.what 8 = 7) (hs : s.OK) (h : IsR w p own E) (ho : ∀ k, own k → k < w.heap.size) : Calls Try.prog 7 #[.pointer (some ⟨p, 0, none⟩), .agg #[.int .i64 s.wh, .int .i64 s.what, .int .i64 s.a, .int .i64 s.b]] w (RSPost E p own s w) := by
  have HP := fun w => pick_any s.what 8 w hs.2.1 (by omega) (by omega)
  rw [hk] at HP
  have HS := h.keep (sw_chg w s No) (fun _ _ e => e)
  have HC := redges_any HS
  have HS0 := hid HS
  have hz := sw_size w s
  unfold sw at HC
  have Hk := hid hk
  clear hk h HS
  unfold RSPost
  go_enter Try.func7, Try.ntmps7
  go_wp2_with (first
    | (go_at_call 21; go_must (refine (HP _).mono ?_; rintro e w1 ⟨rfl, rfl⟩))
    | (go_at_call 13; go_must (refine HC.mono ?_; rintro e w3 ⟨v, l, rfl, hv, h31, hcc⟩; obtain ⟨va, vc, rfl⟩ := row_shape hv; change Chg (sw w s) w3 _ at hcc; have HT := hcc.keep (sw_1 w s) (fun e => e)))
    | (refine wp_storeT rfl _ _ rfl (w.heap.size + 1) 0 false (.slice none 0 0) (.slice va l.length vc) rfl rfl _ HT rfl rfl rfl ?_; intro w4 h41 h42 h43)
    | go_in)
  refine bodyPost_ret (results_told rfl _ w4 (w.heap.size + 1) 0 false (.slice none 0 0) (.slice va l.length vc) rfl h41) rfl ?_
  have hsz := hcc.size
  have hv : Edgs w3 (sw w s).heap.size (.slice va l.length vc) l := hv
  refine ⟨⟨0, false, [], l⟩, _, _, E, own, rfl, .inr (.inr (.inr (.inr (.inr ⟨Hk.out, h31, rfl, rfl, rfl, rfl⟩)))), ints_nil _ _, row_base (row_keep hv h42 (fun j hj e => by have := (row_ge hv hj).1; omega)) (by omega), (HS0.out.call hcc).keep h42 (fun k hk e => ?_), fun k hk => .inl hk, ?_⟩
  · have := ho k hk; omega
  · exact (sw_chg w s own).trans (hcc.trans h42 (c := fun k => k = w.heap.size + 1) (fun _ _ e => e.elim) (fun _ _ e => e)) (fun _ _ e => e) (fun j hj e => by omega)

theorem wanted_any (s : StV) (hs : s.OK) (h : IsR w p own E) (ho : ∀ k, own k → k < w.heap.size) : Calls Try.prog 7 #[.pointer (some ⟨p, 0, none⟩), .agg #[.int .i64 s.wh, .int .i64 s.what, .int .i64 s.a, .int .i64 s.b]] w (RSPost E p own s w) := by
  obtain ⟨h0, h1⟩ := pickN_bd s.what (n := 8) (by omega)
  rcases (show pickN s.what 8 = 0 ∨ pickN s.what 8 = 1 ∨ pickN s.what 8 = 2 ∨ pickN s.what 8 = 3 ∨ pickN s.what 8 = 4 ∨ pickN s.what 8 = 5 ∨ pickN s.what 8 = 6 ∨ pickN s.what 8 = 7 by omega) with k | k | k | k | k | k | k | k
  · exact wanted_add0 s k hs h ho
  · exact wanted_add1 s k hs h ho
  · exact wanted_add2 s k hs h ho
  · exact wanted_reaches s k hs h ho
  · exact wanted_before s k hs h ho
  · exact wanted_free s k hs h ho
  · exact wanted_remove s k hs h ho
  · exact wanted_edges s k hs h ho

end Go.Proofs.Ytfkommjpofpmbaa
