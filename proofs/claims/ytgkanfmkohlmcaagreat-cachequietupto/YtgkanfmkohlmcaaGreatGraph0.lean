/-
  Steps in memory: a map from numbers to sets of numbers; one step laid in, one taken away.
-/
import Derived.Test.YtgkanfmkohlmcaaGreatGMap
import Derived.Test.YtgkanfmkohlmcaaGreatWays
import Derived.Deep.DeepMust
namespace Go.Proofs.YtgkanfmkohlmcaaGreat
open Go.RowKit

/-- Steps lie at block b, the sets at what f says. -/
structure StepsAt (w : World) (b : Nat) (f : Int → Option Nat) (E : Int → Int → Prop) : Prop where
  map : MapAt w b f
  dom : ∀ x, (f x).isSome = true ↔ ∃ y, E x y
  sets : ∀ x c, f x = some c → SetAt w c (E x)
  inj : ∀ x y c, f x = some c → f y = some c → x = y
  ne : ∀ x c, f x = some c → c ≠ b

/-- The blocks of steps. -/
def SB (b : Nat) (f : Int → Option Nat) (k : Nat) : Prop := k = b ∨ ∃ x, f x = some k

variable {w w' : World} {b : Nat} {f : Int → Option Nat} {E : Int → Int → Prop} {ks : Nat → Prop}

theorem StepsAt.keep (h : StepsAt w b f E) (hc : Chg w w' ks) (hn : ∀ k, SB b f k → ¬ ks k) : StepsAt w' b f E :=
  ⟨h.map.keep hc (hn b (.inl rfl)), h.dom, fun x c hx => (h.sets x c hx).keep hc (hn c (.inr ⟨x, hx⟩)), h.inj, h.ne⟩
theorem StepsAt.lt (h : StepsAt w b f E) {k : Nat} (hk : SB b f k) : k < w.heap.size := by
  rcases hk with rfl | ⟨x, hx⟩
  · exact h.map.lt
  · exact (h.sets x k hx).lt
theorem StepsAt.none (h : StepsAt w b f E) {x : Int} (hx : f x = none) (y : Int) : ¬ E x y := fun hy => by
  have := (h.dom x).2 ⟨y, hy⟩
  rw [hx] at this
  cases this
theorem StepsAt.some (h : StepsAt w b f E) {x y : Int} (hy : E x y) : ∃ c, f x = some c := by
  have := (h.dom x).2 ⟨y, hy⟩
  exact Option.isSome_iff_exists.1 this
theorem Sec.i64 {x : Int} (h : Sec x) : I64 x := by obtain ⟨h0, h1⟩ := h; constructor <;> omega
theorem few5 {P : Int → Prop} (h : ∀ x, P x → Sec x) : ∃ L : List Int, L.length ≤ 5000 ∧ ∀ x, P x → x ∈ L := by
  obtain ⟨L, h1, h2⟩ := few_sec.mono h
  exact ⟨L, by omega, h2⟩
theorem StepsAt.few (h : StepsAt w b f E) (hs : InSec E) : ∃ L : List Int, L.length ≤ 5000 ∧ ∀ x, (f x).isSome = true → x ∈ L :=
  few5 fun x hx => let ⟨y, hy⟩ := (h.dom x).1 hx; (hs x y hy).1
theorem StepsAt.cong {F : Int → Int → Prop} (h : StepsAt w b f E) (hE : ∀ x y, E x y ↔ F x y) : StepsAt w b f F :=
  ⟨h.map, fun x => (h.dom x).trans ⟨fun ⟨y, hy⟩ => ⟨y, (hE x y).1 hy⟩, fun ⟨y, hy⟩ => ⟨y, (hE x y).2 hy⟩⟩, fun x c hx => (h.sets x c hx).cong (hE x), h.inj, h.ne⟩

theorem eq_nil0 (w : World) : (binOp BinOp.eql 101 (.map none) (.map none)).run Tryz.prog w = .ok (.bool true) w := by kernel_rfl
theorem eq_nil1 (c : Nat) (w : World) : (binOp BinOp.eql 101 (.map (some c)) (.map none)).run Tryz.prog w = .ok (.bool false) w := by kernel_rfl

set_option maxRecDepth 100000 in
set_option maxHeartbeats 1000000 in
theorem add_any (p q : Int) (h : StepsAt w b f E) (hs : InSec E) (hp : Sec p) (hq : Sec q) : Calls Tryz.prog 68 #[.map (some b), .int .i64 p, .int .i64 q] w fun e w' =>
    e = .returned (.tuple #[]) ∧ ∃ f', StepsAt w' b f' (addE E p q) ∧ Chg w w' (SB b f) ∧ ∀ k, SB b f' k → SB b f k ∨ w.heap.size ≤ k := by
  have Ip := hp.i64
  have Iq := hq.i64
  have HM := h.map
  cases hf : f p with
  | some c =>
    have hq1 := eq_nil1 c
    have hS := h.sets p c hf
    have hfew := few5 (P := E p) fun y hy => (hs p y hy).2
    have HH := hid h
    clear h hs hp hq
    go_enter Tryz.func68, Tryz.ntmps68
    go_wp2_with (first
      | (at_lookup; go_must (refine wp_look rfl _ _ rfl b f p (some c) hf rfl rfl HM Ip ?_))
      | (at_mapUpdate; go_must (refine wp_storeS rfl _ _ _ rfl c (E p) q rfl rfl rfl hS Iq hfew ?_; intro w1 h1 h2 h3))
      | go_in)
    go_end0
    have h := HH.out
    refine ⟨rfl, f, ⟨h.map.keep h2 (fun e => h.ne p c hf e.symm), fun x => ?_, fun x d hx => ?_, h.inj, h.ne⟩, h2.mono fun j _ e => .inr ⟨p, e ▸ hf⟩, fun k hk => .inl hk⟩
    · rw [h.dom x]
      constructor
      · rintro ⟨y, hy⟩
        exact ⟨y, .inr hy⟩
      · rintro ⟨y, ⟨rfl, rfl⟩ | hy⟩
        · exact (h.dom x).1 (by rw [hf]; rfl)
        · exact ⟨y, hy⟩
    · by_cases hxp : x = p
      · subst hxp
        rw [hf] at hx
        cases hx
        refine h1.cong fun y => ?_
        unfold addE
        simp
      · refine ((h.sets x d hx).keep h2 (fun e => hxp (h.inj x p d hx (e ▸ hf)))).cong fun y => ?_
        unfold addE
        simp [hxp]
  | none =>
    have HH := hid h
    have hfew := h.few hs
    have hb := h.map.lt
    have HM0 := h.map.keep (Chg.alloc w (.map #[] 0) No) (fun e => e)
    have HF0 : ∃ L : List Int, L.length ≤ 5000 ∧ ∀ x : Int, False → x ∈ L := ⟨[], by simp, fun x hx => hx.elim⟩
    have hmm := @run_makeMap Tryz.prog
    have hq0 := eq_nil0
    clear h hs hp hq
    go_enter Tryz.func68, Tryz.ntmps68
    go_wp2_with (first
      | (at_lookup; go_must (first | refine wp_look rfl _ _ rfl b f p none hf rfl rfl HM Ip ?_ | refine wp_look rfl _ _ rfl b _ p (some w.heap.size) (by simp) rfl rfl h1 Ip ?_))
      | (at_mapUpdate; go_must (first | (refine wp_storeM rfl _ _ _ rfl b f p w.heap.size rfl rfl rfl HM0 Ip hfew ?_; intro w1 h1 h2 h3; have hd1 := (SetAt.made w).keep h2 (by omega)) | (refine wp_storeS rfl _ _ _ rfl w.heap.size (fun _ => False) q rfl rfl rfl hd1 Iq HF0 ?_; intro w2 k1 k2 k3)))
      | go_in)
    go_end0
    have h := HH.out
    have hn : ∀ y, ¬ E p y := h.none hf
    have hlt : ∀ x c, f x = some c → c < w.heap.size := fun x c hx => h.lt (.inr ⟨x, hx⟩)
    have hsz : (w.alloc (.map #[] 0)).heap.size = w.heap.size + 1 := by simp
    refine ⟨rfl, fun y => if y = p then some w.heap.size else f y, ⟨h1.keep k2 (by omega), fun x => ?_, fun x d hx => ?_, fun x y c hx hy => ?_, fun x c hx => ?_⟩, ?_, fun k hk => ?_⟩
    · by_cases hxp : x = p
      · subst hxp
        simp only [if_pos, Option.isSome_some, true_iff]
        exact ⟨q, .inl ⟨rfl, rfl⟩⟩
      · simp only [hxp, if_false]
        rw [h.dom x]
        constructor
        · rintro ⟨y, hy⟩
          exact ⟨y, .inr hy⟩
        · rintro ⟨y, ⟨e, _⟩ | hy⟩
          · exact absurd e hxp
          · exact ⟨y, hy⟩
    · by_cases hxp : x = p
      · subst hxp
        simp at hx
        subst hx
        refine k1.cong fun y => ?_
        unfold addE
        simp [hn y]
      · simp only [hxp, if_false] at hx
        have := hlt x d hx
        have e1 := ((h.sets x d hx).keep (Chg.alloc w (.map #[] 0) No) (fun e => e)).keep h2 (h.ne x d hx)
        refine (e1.keep k2 (by omega)).cong fun y => ?_
        unfold addE
        simp [hxp]
    · by_cases hxp : x = p
      · by_cases hyp : y = p
        · rw [hxp, hyp]
        · simp [hxp] at hx
          simp only [hyp, if_false] at hy
          have := hlt y c hy
          omega
      · by_cases hyp : y = p
        · simp [hyp] at hy
          simp only [hxp, if_false] at hx
          have := hlt x c hx
          omega
        · simp only [hxp, if_false] at hx
          simp only [hyp, if_false] at hy
          exact h.inj x y c hx hy
    · by_cases hxp : x = p
      · simp [hxp] at hx
        omega
      · simp only [hxp, if_false] at hx
        exact h.ne x c hx
    · refine ((Chg.alloc w (.map #[] 0) No).trans (h2.trans k2 (c := fun j => j = b ∨ j = w.heap.size) (fun j _ e => .inl e) (fun j _ e => .inr e)) (fun j _ e => e.elim) (fun j hj e => ?_))
      rcases e with e | e
      · exact .inl e
      · omega
    · rcases hk with rfl | ⟨x, hx⟩
      · exact .inl (.inl rfl)
      · by_cases hxp : x = p
        · simp [hxp] at hx
          exact .inr (by omega)
        · simp only [hxp, if_false] at hx
          exact .inl (.inr ⟨x, hx⟩)

/-- One edge less. -/
def cutE (E : Int → Int → Prop) (p q a b : Int) : Prop := E a b ∧ ¬ (a = p ∧ b = q)

set_option maxRecDepth 100000 in
set_option maxHeartbeats 1000000 in
theorem remove_any (p q : Int) (h : StepsAt w b f E) (hs : InSec E) (hpq : E p q) : Calls Tryz.prog 78 #[.map (some b), .int .i64 p, .int .i64 q] w fun e w' =>
    e = .returned (.tuple #[]) ∧ ∃ f', StepsAt w' b f' (cutE E p q) ∧ Chg w w' (SB b f) ∧ ∀ k, SB b f' k → SB b f k := by
  have Ip := (hs p q hpq).1.i64
  have Iq := (hs p q hpq).2.i64
  have HM := h.map
  obtain ⟨c, hf⟩ := h.some hpq
  have hS := h.sets p c hf
  have hcb := h.ne p c hf
  have HH := hid h
  clear h hs hpq
  go_enter Tryz.func78, Tryz.ntmps78
  go_wp2_with (first
    | (at_lookup; go_must (first | refine wp_look rfl _ _ rfl b f p (some c) hf rfl rfl HM Ip ?_ | refine wp_look rfl _ _ rfl b f p (some c) hf rfl rfl HM1 Ip ?_))
    | (at_delete; go_must (first | (refine wp_delS rfl _ _ rfl c (E p) q rfl rfl hS Iq ?_; intro w1 h1 h2 h3; have HM1 := HM.keep h2 (fun e => hcb e.symm)) | (refine wp_delM rfl _ _ rfl b f p rfl rfl HM1 Ip ?_; intro w2 k1 k2 k3)))
    | (at_len; go_must (refine wp_len rfl _ rfl (some c) _ rfl (fun _ e => by cases e; exact h1) (fun e => by cases e) ?_; intro s hs))
    | go_in)
  all_goals go_end0
  · have h := HH.out
    have hall : ∀ x, E p x → x = q := by
      rename_i h0
      have : s = 0 := by simpa using h0
      intro x hx
      exact Classical.byContradiction fun k => hs.1 this x ⟨hx, k⟩
    refine ⟨rfl, fun y => if y = p then none else f y, ⟨k1, fun x => ?_, fun x d hx => ?_, fun x y c hx hy => ?_, fun x c hx => ?_⟩, ?_, fun k hk => ?_⟩
    · by_cases hxp : x = p
      · subst hxp
        simp only [if_pos, Option.isSome_none, Bool.false_eq_true, false_iff]
        rintro ⟨y, hy, hn⟩
        exact hn ⟨rfl, hall y hy⟩
      · simp only [hxp, if_false]
        rw [h.dom x]
        unfold cutE
        simp [hxp]
    · by_cases hxp : x = p
      · simp [hxp] at hx
      · simp only [hxp, if_false] at hx
        refine (((h.sets x d hx).keep h2 (fun e => hxp (h.inj x p d hx (e ▸ hf)))).keep k2 (h.ne x d hx)).cong fun y => ?_
        unfold cutE
        simp [hxp]
    · by_cases hxp : x = p
      · simp [hxp] at hx
      · by_cases hyp : y = p
        · simp [hyp] at hy
        · simp only [hxp, if_false] at hx
          simp only [hyp, if_false] at hy
          exact h.inj x y c hx hy
    · by_cases hxp : x = p
      · simp [hxp] at hx
      · simp only [hxp, if_false] at hx
        exact h.ne x c hx
    · exact h2.trans k2 (fun j _ e => .inr ⟨p, e ▸ hf⟩) (fun j _ e => .inl e)
    · rcases hk with rfl | ⟨x, hx⟩
      · exact .inl rfl
      · by_cases hxp : x = p
        · simp [hxp] at hx
        · simp only [hxp, if_false] at hx
          exact .inr ⟨x, hx⟩
  · have h := HH.out
    have hex : ∃ x, E p x ∧ x ≠ q := by
      rename_i h0
      have h0 : ¬ s = 0 := by simpa using h0
      exact Classical.byContradiction fun k => h0 (hs.2 fun x hx => k ⟨x, hx⟩)
    refine ⟨rfl, f, ⟨HM1, fun x => ?_, fun x d hx => ?_, h.inj, h.ne⟩, h2.mono fun j _ e => .inr ⟨p, e ▸ hf⟩, fun k hk => hk⟩
    · rw [h.dom x]
      constructor
      · rintro ⟨y, hy⟩
        by_cases hxp : x = p
        · obtain ⟨z, hz, hne⟩ := hex
          exact ⟨z, hxp ▸ hz, fun e => hne e.2⟩
        · exact ⟨y, hy, fun e => hxp e.1⟩
      · rintro ⟨y, hy, _⟩
        exact ⟨y, hy⟩
    · by_cases hxp : x = p
      · subst hxp
        rw [hf] at hx
        cases hx
        refine h1.cong fun y => ?_
        unfold cutE
        simp
      · refine ((h.sets x d hx).keep h2 (fun e => hxp (h.inj x p d hx (e ▸ hf)))).cong fun y => ?_
        unfold cutE
        simp [hxp]

end Go.Proofs.YtgkanfmkohlmcaaGreat
