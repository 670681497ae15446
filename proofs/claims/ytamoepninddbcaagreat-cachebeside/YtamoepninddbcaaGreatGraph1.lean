/-
  The walk over all ways: what it has seen behind it.
-/
import Derived.Test.YtamoepninddbcaaGreatGMap
import Derived.Test.YtamoepninddbcaaGreatWays
import Derived.Deep.DeepMust
namespace Go.Proofs.YtamoepninddbcaaGreat
open Go.RowKit

/-- Steps lie at block b, the sets at what f says. -/
structure StepsAt (w : World) (b : Nat) (f : Int → Option Nat) (E : Int → Int → Prop) : Prop where
  map : MapAt w b f
  dom : ∀ x, (f x).isSome = true ↔ ∃ y, E x y
  sets : ∀ x c, f x = some c → SetAt w c (E x)
  inj : ∀ x y c, f x = some c → f y = some c → x = y
  ne : ∀ x c, f x = some c → c ≠ b

/-- The blocks of steps. -/
def SB (b : Nat) (f : Int → Option Nat) (k : Nat) : Prop := k = b ∨ ∃ x, f x = some k

variable {w w' : World} {b : Nat} {f : Int → Option Nat} {E : Int → Int → Prop} {ks : Nat → Prop}

theorem StepsAt.keep (h : StepsAt w b f E) (hc : Chg w w' ks) (hn : ∀ k, SB b f k → ¬ ks k) : StepsAt w' b f E :=
  ⟨h.map.keep hc (hn b (.inl rfl)), h.dom, fun x c hx => (h.sets x c hx).keep hc (hn c (.inr ⟨x, hx⟩)), h.inj, h.ne⟩
theorem StepsAt.lt (h : StepsAt w b f E) {k : Nat} (hk : SB b f k) : k < w.heap.size := by
  rcases hk with rfl | ⟨x, hx⟩
  · exact h.map.lt
  · exact (h.sets x k hx).lt
theorem StepsAt.none (h : StepsAt w b f E) {x : Int} (hx : f x = none) (y : Int) : ¬ E x y := fun hy => by
  have := (h.dom x).2 ⟨y, hy⟩
  rw [hx] at this
  cases this
theorem StepsAt.some (h : StepsAt w b f E) {x y : Int} (hy : E x y) : ∃ c, f x = some c := by
  have := (h.dom x).2 ⟨y, hy⟩
  exact Option.isSome_iff_exists.1 this
theorem Sec.i64 {x : Int} (h : Sec x) : I64 x := by obtain ⟨h0, h1⟩ := h; constructor <;> omega
theorem few5 {P : Int → Prop} (h : ∀ x, P x → Sec x) : ∃ L : List Int, L.length ≤ 5000 ∧ ∀ x, P x → x ∈ L := by
  obtain ⟨L, h1, h2⟩ := few_sec.mono h
  exact ⟨L, by omega, h2⟩
theorem StepsAt.few (h : StepsAt w b f E) (hs : InSec E) : ∃ L : List Int, L.length ≤ 5000 ∧ ∀ x, (f x).isSome = true → x ∈ L :=
  few5 fun x hx => let ⟨y, hy⟩ := (h.dom x).1 hx; (hs x y hy).1
theorem StepsAt.cong {F : Int → Int → Prop} (h : StepsAt w b f E) (hE : ∀ x y, E x y ↔ F x y) : StepsAt w b f F :=
  ⟨h.map, fun x => (h.dom x).trans ⟨fun ⟨y, hy⟩ => ⟨y, (hE x y).1 hy⟩, fun ⟨y, hy⟩ => ⟨y, (hE x y).2 hy⟩⟩, fun x c hx => (h.sets x c hx).cong (hE x), h.inj, h.ne⟩

theorem eq_nil0 (w : World) : (binOp BinOp.eql 121 (.map none) (.map none)).run Tryz.prog w = .ok (.bool true) w := by kernel_rfl
theorem eq_nil1 (c : Nat) (w : World) : (binOp BinOp.eql 121 (.map (some c)) (.map none)).run Tryz.prog w = .ok (.bool false) w := by kernel_rfl

set_option maxRecDepth 100000 in
set_option maxHeartbeats 1000000 in
theorem add_any (p q : Int) (h : StepsAt w b f E) (hs : InSec E) (hp : Sec p) (hq : Sec q) : Calls Tryz.prog 96 #[.map (some b), .int .i64 p, .int .i64 q] w fun e w' =>
    e = .returned (.tuple #[]) ∧ ∃ f', StepsAt w' b f' (addE E p q) ∧ Chg w w' (SB b f) ∧ ∀ k, SB b f' k → SB b f k ∨ w.heap.size ≤ k := by
  have Ip := hp.i64
  have Iq := hq.i64
  have HM := h.map
  cases hf : f p with
  | some c =>
    have hq1 := eq_nil1 c
    have hS := h.sets p c hf
    have hfew := few5 (P := E p) fun y hy => (hs p y hy).2
    have HH := hid h
    clear h hs hp hq
    go_enter Tryz.func96, Tryz.ntmps96
    go_wp2_with (first
      | (at_lookup; go_must (refine wp_look rfl _ _ rfl b f p (some c) hf rfl rfl HM Ip ?_))
      | (at_mapUpdate; go_must (refine wp_storeS rfl _ _ _ rfl c (E p) q rfl rfl rfl hS Iq hfew ?_; intro w1 h1 h2 h3))
      | go_in)
    go_end0
    have h := HH.out
    refine ⟨rfl, f, ⟨h.map.keep h2 (fun e => h.ne p c hf e.symm), fun x => ?_, fun x d hx => ?_, h.inj, h.ne⟩, h2.mono fun j _ e => .inr ⟨p, e ▸ hf⟩, fun k hk => .inl hk⟩
    · rw [h.dom x]
      constructor
      · rintro ⟨y, hy⟩
        exact ⟨y, .inr hy⟩
      · rintro ⟨y, ⟨rfl, rfl⟩ | hy⟩
        · exact (h.dom x).1 (by rw [hf]; rfl)
        · exact ⟨y, hy⟩
    · by_cases hxp : x = p
      · subst hxp
        rw [hf] at hx
        cases hx
        refine h1.cong fun y => ?_
        unfold addE
        simp
      · refine ((h.sets x d hx).keep h2 (fun e => hxp (h.inj x p d hx (e ▸ hf)))).cong fun y => ?_
        unfold addE
        simp [hxp]
  | none =>
    have HH := hid h
    have hfew := h.few hs
    have hb := h.map.lt
    have HM0 := h.map.keep (Chg.alloc w (.map #[] 0) No) (fun e => e)
    have HF0 : ∃ L : List Int, L.length ≤ 5000 ∧ ∀ x : Int, False → x ∈ L := ⟨[], by simp, fun x hx => hx.elim⟩
    have hmm := @run_makeMap Tryz.prog
    have hq0 := eq_nil0
    clear h hs hp hq
    go_enter Tryz.func96, Tryz.ntmps96
    go_wp2_with (first
      | (at_lookup; go_must (first | refine wp_look rfl _ _ rfl b f p none hf rfl rfl HM Ip ?_ | refine wp_look rfl _ _ rfl b _ p (some w.heap.size) (by simp) rfl rfl h1 Ip ?_))
      | (at_mapUpdate; go_must (first | (refine wp_storeM rfl _ _ _ rfl b f p w.heap.size rfl rfl rfl HM0 Ip hfew ?_; intro w1 h1 h2 h3; have hd1 := (SetAt.made w).keep h2 (by omega)) | (refine wp_storeS rfl _ _ _ rfl w.heap.size (fun _ => False) q rfl rfl rfl hd1 Iq HF0 ?_; intro w2 k1 k2 k3)))
      | go_in)
    go_end0
    have h := HH.out
    have hn : ∀ y, ¬ E p y := h.none hf
    have hlt : ∀ x c, f x = some c → c < w.heap.size := fun x c hx => h.lt (.inr ⟨x, hx⟩)
    have hsz : (w.alloc (.map #[] 0)).heap.size = w.heap.size + 1 := by simp
    refine ⟨rfl, fun y => if y = p then some w.heap.size else f y, ⟨h1.keep k2 (by omega), fun x => ?_, fun x d hx => ?_, fun x y c hx hy => ?_, fun x c hx => ?_⟩, ?_, fun k hk => ?_⟩
    · by_cases hxp : x = p
      · subst hxp
        simp only [if_pos, Option.isSome_some, true_iff]
        exact ⟨q, .inl ⟨rfl, rfl⟩⟩
      · simp only [hxp, if_false]
        rw [h.dom x]
        constructor
        · rintro ⟨y, hy⟩
          exact ⟨y, .inr hy⟩
        · rintro ⟨y, ⟨e, _⟩ | hy⟩
          · exact absurd e hxp
          · exact ⟨y, hy⟩
    · by_cases hxp : x = p
      · subst hxp
        simp at hx
        subst hx
        refine k1.cong fun y => ?_
        unfold addE
        simp [hn y]
      · simp only [hxp, if_false] at hx
        have := hlt x d hx
        have e1 := ((h.sets x d hx).keep (Chg.alloc w (.map #[] 0) No) (fun e => e)).keep h2 (h.ne x d hx)
        refine (e1.keep k2 (by omega)).cong fun y => ?_
        unfold addE
        simp [hxp]
    · by_cases hxp : x = p
      · by_cases hyp : y = p
        · rw [hxp, hyp]
        · simp [hxp] at hx
          simp only [hyp, if_false] at hy
          have := hlt y c hy
          omega
      · by_cases hyp : y = p
        · simp [hyp] at hy
          simp only [hxp, if_false] at hx
          have := hlt x c hx
          omega
        · simp only [hxp, if_false] at hx
          simp only [hyp, if_false] at hy
          exact h.inj x y c hx hy
    · by_cases hxp : x = p
      · simp [hxp] at hx
        omega
      · simp only [hxp, if_false] at hx
        exact h.ne x c hx
    · refine ((Chg.alloc w (.map #[] 0) No).trans (h2.trans k2 (c := fun j => j = b ∨ j = w.heap.size) (fun j _ e => .inl e) (fun j _ e => .inr e)) (fun j _ e => e.elim) (fun j hj e => ?_))
      rcases e with e | e
      · exact .inl e
      · omega
    · rcases hk with rfl | ⟨x, hx⟩
      · exact .inl (.inl rfl)
      · by_cases hxp : x = p
        · simp [hxp] at hx
          exact .inr (by omega)
        · simp only [hxp, if_false] at hx
          exact .inl (.inr ⟨x, hx⟩)

/-- One edge less. -/
def cutE (E : Int → Int → Prop) (p q a b : Int) : Prop := E a b ∧ ¬ (a = p ∧ b = q)

set_option maxRecDepth 100000 in
set_option maxHeartbeats 1000000 in
theorem remove_any (p q : Int) (h : StepsAt w b f E) (hs : InSec E) (hpq : E p q) : Calls Tryz.prog 115 #[.map (some b), .int .i64 p, .int .i64 q] w fun e w' =>
    e = .returned (.tuple #[]) ∧ ∃ f', StepsAt w' b f' (cutE E p q) ∧ Chg w w' (SB b f) ∧ ∀ k, SB b f' k → SB b f k := by
  have Ip := (hs p q hpq).1.i64
  have Iq := (hs p q hpq).2.i64
  have HM := h.map
  obtain ⟨c, hf⟩ := h.some hpq
  have hS := h.sets p c hf
  have hcb := h.ne p c hf
  have HH := hid h
  clear h hs hpq
  go_enter Tryz.func115, Tryz.ntmps115
  go_wp2_with (first
    | (at_lookup; go_must (first | refine wp_look rfl _ _ rfl b f p (some c) hf rfl rfl HM Ip ?_ | refine wp_look rfl _ _ rfl b f p (some c) hf rfl rfl HM1 Ip ?_))
    | (at_delete; go_must (first | (refine wp_delS rfl _ _ rfl c (E p) q rfl rfl hS Iq ?_; intro w1 h1 h2 h3; have HM1 := HM.keep h2 (fun e => hcb e.symm)) | (refine wp_delM rfl _ _ rfl b f p rfl rfl HM1 Ip ?_; intro w2 k1 k2 k3)))
    | (at_len; go_must (refine wp_len rfl _ rfl (some c) _ rfl (fun _ e => by cases e; exact h1) (fun e => by cases e) ?_; intro s hs))
    | go_in)
  all_goals go_end0
  · have h := HH.out
    have hall : ∀ x, E p x → x = q := by
      rename_i h0
      have : s = 0 := by simpa using h0
      intro x hx
      exact Classical.byContradiction fun k => hs.1 this x ⟨hx, k⟩
    refine ⟨rfl, fun y => if y = p then none else f y, ⟨k1, fun x => ?_, fun x d hx => ?_, fun x y c hx hy => ?_, fun x c hx => ?_⟩, ?_, fun k hk => ?_⟩
    · by_cases hxp : x = p
      · subst hxp
        simp only [if_pos, Option.isSome_none, Bool.false_eq_true, false_iff]
        rintro ⟨y, hy, hn⟩
        exact hn ⟨rfl, hall y hy⟩
      · simp only [hxp, if_false]
        rw [h.dom x]
        unfold cutE
        simp [hxp]
    · by_cases hxp : x = p
      · simp [hxp] at hx
      · simp only [hxp, if_false] at hx
        refine (((h.sets x d hx).keep h2 (fun e => hxp (h.inj x p d hx (e ▸ hf)))).keep k2 (h.ne x d hx)).cong fun y => ?_
        unfold cutE
        simp [hxp]
    · by_cases hxp : x = p
      · simp [hxp] at hx
      · by_cases hyp : y = p
        · simp [hyp] at hy
        · simp only [hxp, if_false] at hx
          simp only [hyp, if_false] at hy
          exact h.inj x y c hx hy
    · by_cases hxp : x = p
      · simp [hxp] at hx
      · simp only [hxp, if_false] at hx
        exact h.ne x c hx
    · exact h2.trans k2 (fun j _ e => .inr ⟨p, e ▸ hf⟩) (fun j _ e => .inl e)
    · rcases hk with rfl | ⟨x, hx⟩
      · exact .inl rfl
      · by_cases hxp : x = p
        · simp [hxp] at hx
        · simp only [hxp, if_false] at hx
          exact .inr ⟨x, hx⟩
  · have h := HH.out
    have hex : ∃ x, E p x ∧ x ≠ q := by
      rename_i h0
      have h0 : ¬ s = 0 := by simpa using h0
      exact Classical.byContradiction fun k => h0 (hs.2 fun x hx => k ⟨x, hx⟩)
    refine ⟨rfl, f, ⟨HM1, fun x => ?_, fun x d hx => ?_, h.inj, h.ne⟩, h2.mono fun j _ e => .inr ⟨p, e ▸ hf⟩, fun k hk => hk⟩
    · rw [h.dom x]
      constructor
      · rintro ⟨y, hy⟩
        by_cases hxp : x = p
        · obtain ⟨z, hz, hne⟩ := hex
          exact ⟨z, hxp ▸ hz, fun e => hne e.2⟩
        · exact ⟨y, hy, fun e => hxp e.1⟩
      · rintro ⟨y, hy, _⟩
        exact ⟨y, hy⟩
    · by_cases hxp : x = p
      · subst hxp
        rw [hf] at hx
        cases hx
        refine h1.cong fun y => ?_
        unfold cutE
        simp
      · refine ((h.sets x d hx).keep h2 (fun e => hxp (h.inj x p d hx (e ▸ hf)))).cong fun y => ?_
        unfold cutE
        simp [hxp]

end Go.Proofs.YtamoepninddbcaaGreat

namespace Go.Proofs.YtamoepninddbcaaGreat
open Go.RowKit

/-- What the walk finds: its three variables, the steps, what it has seen. -/
structure WEnv (w : World) (ps pt pw bs b : Nat) (f : Int → Option Nat) (E : Int → Int → Prop) : Prop where
  c1 : w.heap[ps]? = some (.cells #[.map (some bs)] 121 (0, 0))
  c2 : w.heap[pt]? = some (.cells #[.map (some b)] 115 (0, 0))
  c3 : w.heap[pw]? = some (.cells #[.func (.func 116) #[] #[.pointer (some ⟨ps, 0, none⟩), .pointer (some ⟨pt, 0, none⟩), .pointer (some ⟨pw, 0, none⟩)]] 107 (0, 0))
  st : StepsAt w b f E
  nb : ¬ SB b f bs
  n1 : bs ≠ ps
  n2 : bs ≠ pt
  n3 : bs ≠ pw
theorem WEnv.keep {w w' : World} {ps pt pw bs b : Nat} {f : Int → Option Nat} {E : Int → Int → Prop} (h : WEnv w ps pt pw bs b f E) (hc : Chg w w' (· = bs)) : WEnv w' ps pt pw bs b f E :=
  ⟨hc.keep h.c1 (fun e => h.n1 e.symm), hc.keep h.c2 (fun e => h.n2 e.symm), hc.keep h.c3 (fun e => h.n3 e.symm), h.st.keep hc (fun _ hk e => h.nb (e ▸ hk)), h.nb, h.n1, h.n2, h.n3⟩

/-- What a walk from n leaves of what was seen. -/
structure Seen (E : Int → Int → Prop) (n : Int) (S T : Int → Prop) : Prop where
  old : ∀ x, S x → T x
  me : T n
  new : ∀ x, T x → S x ∨ Reach E n x
  shut : ∀ x, T x → ¬ S x → ∀ y, E x y → T y

theorem cell0 {w : World} {g : Nat} {v : Value} {t : TypeId} (h : w.heap[g]? = some (.cells #[v] t (0, 0))) : w.cell? ⟨g, 0, none⟩ = some v := by
  rw [cell_of_row _ _ _ _ _ _ h]; rfl

abbrev wargs (n : Int) (ps pt pw : Nat) : Array Value := #[.int .i64 n, .pointer (some ⟨ps, 0, none⟩), .pointer (some ⟨pt, 0, none⟩), .pointer (some ⟨pw, 0, none⟩)]

variable {ps pt pw bs b : Nat} {f : Int → Option Nat} {E : Int → Int → Prop}

set_option maxRecDepth 100000 in
set_option maxHeartbeats 1000000 in
theorem walk_seen (n : Int) (S : Int → Prop) (w : World) (h : WEnv w ps pt pw bs b f E) (hS : SetAt w bs S) (hn : S n) : Calls Tryz.prog 116 (wargs n ps pt pw) w fun e w' =>
    e = .returned (.tuple #[]) ∧ ∃ T, SetAt w' bs T ∧ Chg w w' (· = bs) ∧ Seen E n S T := by
  have hI := hS.i64 hn
  have k1 := cell0 h.c1
  clear h
  unfold wargs
  go_enter Tryz.func116, Tryz.ntmps116
  go_wp2_with (first
    | (at_lookup; go_must (refine wp_ok rfl _ _ rfl bs S n rfl rfl hS hI ?_; intro r hr; obtain rfl : r = true := hr.2 hn))
    | go_in)
  refine bodyPost_ret (results_none rfl _ _ _) rfl ?_
  exact ⟨rfl, S, hS.keep (Chg.alloc w _ No) (fun e => e), Chg.alloc _ _ _, ⟨fun _ h => h, hn, fun _ h => .inl h, fun _ h k => absurd h k⟩⟩

/-- What holds while the walk goes through the steps from n. -/
structure Going (E : Int → Int → Prop) (n : Int) (S left T : Int → Prop) : Prop where
  old : ∀ x, S x → T x
  me : T n
  new : ∀ x, T x → S x ∨ Reach E n x
  shut : ∀ x, T x → ¬ S x → x ≠ n → ∀ y, E x y → T y
  gone : ∀ y, E n y → left y ∨ T y
theorem Going.start (n : Int) (S : Int → Prop) : Going E n S (E n) (fun x => x = n ∨ S x) :=
  ⟨fun _ h => .inr h, .inl rfl, fun _ h => h.elim (fun e => .inr (.inl e.symm)) .inl, fun _ h k l => (h.elim (fun e => absurd e l) (fun e => absurd e k)), fun _ h => .inl h⟩
theorem Going.next {n m : Int} {S left T U : Int → Prop} (h : Going E n S left T) (hm : E n m) (k : Seen E m T U) : Going E n S (fun y => left y ∧ y ≠ m) U := by
  refine ⟨fun x hx => k.old x (h.old x hx), k.old n h.me, fun x hx => ?_, fun x hx hn hne y hy => ?_, fun y hy => ?_⟩
  · rcases k.new x hx with e | e
    · exact h.new x e
    · exact .inr (Reach.step hm e)
  · by_cases hT : T x
    · exact k.old y (h.shut x hT hn hne y hy)
    · exact k.shut x hx hT y hy
  · by_cases e : y = m
    · exact .inr (e ▸ k.me)
    · exact (h.gone y hy).elim (fun l => .inl ⟨l, e⟩) (fun l => .inr (k.old y l))
theorem Going.done {n : Int} {S left T : Int → Prop} (h : Going E n S left T) (hl : ∀ x, ¬ left x) : Seen E n S T :=
  ⟨h.old, h.me, h.new, fun x hx hn y hy => by
    by_cases e : x = n
    · subst e
      exact (h.gone y hy).elim (fun l => absurd l (hl y)) (fun l => l)
    · exact h.shut x hx hn e y hy⟩

/-- What a call of the walk leaves. -/
abbrev WPost (E : Int → Int → Prop) (bs : Nat) (n : Int) (S : Int → Prop) (w : World) (e : Ending) (w' : World) : Prop :=
  e = .returned (.tuple #[]) ∧ ∃ T, SetAt w' bs T ∧ Chg w w' (· = bs) ∧ Seen E n S T

set_option maxRecDepth 100000 in
set_option maxHeartbeats 2000000 in
theorem walk_body (hs : InSec E) (n0 n : Int) (S : Int → Prop) (w : World) (h : WEnv w ps pt pw bs b f E) (hS : SetAt w bs S) (hn : ¬ S n) (hI : I64 n) (hn0 : n = n0 ∨ Sec n) (hS0 : ∀ x, S x → x = n0 ∨ Sec x)
    (hcall : ∀ (m : Int) (T : Int → Prop) (w' : World), WEnv w' ps pt pw bs b f E → SetAt w' bs T → E n m → (∀ x, x = n ∨ S x → T x) → (∀ x, T x → x = n0 ∨ Sec x) → Calls Tryz.prog 116 (wargs m ps pt pw) w' (WPost E bs m T w')) :
    Calls Tryz.prog 116 (wargs n ps pt pw) w (WPost E bs n S w) := by
  have k1 := cell0 h.c1
  have k2 := cell0 h.c2
  have HH := hid h
  have hbs := hS.lt
  have hps := slt h.c1
  have hpt := slt h.c2
  have hA := Chg.alloc w (.cells #[] 128) (· = bs)
  have hSA := hS.keep (Chg.alloc w (.cells #[] 128) No) (fun e => e)
  have hfew : ∃ L : List Int, L.length ≤ 5000 ∧ ∀ x, S x → x ∈ L := by
    obtain ⟨L, h1, h2⟩ := few_sec.one n0
    exact ⟨L, by omega, fun x hx => h2 x (hS0 x hx)⟩
  generalize hE : E n = En
  have HF := hid (show ∀ c, f n = some c → SetAt w c En by rw [← hE]; exact fun c hc => h.st.sets n c hc)
  have HF0 := hid (show f n = none → ∀ x, ¬ En x by rw [← hE]; exact fun hc => h.st.none hc)
  obtain ⟨c, hc⟩ : ∃ c, f n = c := ⟨_, rfl⟩
  rw [hc] at HF HF0
  have HM := h.st.map
  have hcb : ∀ d, c = some d → d ≠ bs := fun d e ed => h.nb (.inr ⟨n, by rw [hc, e, ed]⟩)
  have hcl : ∀ d, c = some d → d < w.heap.size := fun d e => h.st.lt (.inr ⟨n, by rw [hc, e]⟩)
  have hbb : b ≠ bs := fun e => h.nb (.inl e.symm)
  have hn1 := h.n1
  have hn2 := h.n2
  clear h
  unfold wargs
  go_enter Tryz.func116, Tryz.ntmps116
  go_wp2_with (first
    | (at_lookup; go_must (first
        | (refine wp_ok rfl _ _ rfl bs S n rfl rfl hS hI ?_; intro r hr; obtain rfl : r = false := by cases r; rfl; exact absurd (hr.1 rfl) hn)
        | (refine wp_look rfl _ _ rfl b f n c hc rfl rfl ((HM.keep (Chg.alloc w _ No) (fun e => e)).keep h2 hbb) hI ?_)))
    | (at_mapUpdate; go_must (refine wp_storeS rfl _ _ _ rfl bs S n rfl rfl rfl hSA hI hfew ?_; intro w1 h1 h2 h3; have hA2 := hA.trans h2 (c := (· = bs)) (fun _ _ e => e) (fun _ _ e => e); have k2' : w1.cell? ⟨pt, 0, none⟩ = some (.map (some b)) := cell0 (hA2.keep HH.out.c2 (fun e => hn2 e.symm))))
    | (at_range; go_must (refine wp_rangeS rfl _ rfl c En rfl (fun d e => ((HF.out d e).keep hA2 (hcb d e))) HF0.out ?_; intro w2 cnt0 hr0 hc0 hz0))
    | go_in)
  go_frame
  have hsz : w.heap.size ≤ w1.heap.size := hA2.size
  have HS := hid (And.intro h3 hz0)
  clear h3 hz0
  generalize hrr : w1.heap.size = r at *
  go_loopw [7] (fun _ wr => ∃ (left : Int → Prop) (cnt : Nat) (T : Int → Prop), RangeS wr c r En left cnt ∧ SetAt wr bs T ∧ Chg w wr (· = bs) ∧ Going E n S left T) (fun _ wr => leftN wr c r)
  case atStart => exact ⟨En, cnt0, _, hr0, h1.keep hc0 (fun e => e), hA2.trans hc0 (fun _ _ e => e) (fun _ _ e => e.elim), hE ▸ Going.start n S⟩
  case round =>
    obtain ⟨left, cnt, T, hr, hT, hW, hG⟩ := hrel
    go_wp2_with (first
      | (at_next; go_must (refine wp_nextS rfl _ rfl c r En left cnt rfl hr ?_ ?_))
      | go_in)
    · intro hl
      go_wp2
      go_end0
      exact ⟨rfl, T, hT, hW, hG.done hl⟩
    · intro x w3 cnt3 hl hx hIx hr3 hlt hc3 hz3 hen
      clear hz3
      have hW3 : Chg w w3 (· = bs) := hW.trans hc3 (fun _ _ e => e) (fun j hj e => by omega)
      have hT3 : SetAt w3 bs T := hT.keep hc3 (by omega)
      have henv3 := HH.out.keep hW3
      have k3 := cell0 henv3.c3
      have hEx : E n x := by rw [hE]; exact hx
      have hC := hcall x T w3 henv3 hT3 hEx (fun y hy => hy.elim (fun e => e ▸ hG.me) (hG.old y)) (fun y hy => by
        rcases hG.new y hy with e | e | e
        · exact hS0 y e
        · exact e ▸ hn0
        · exact .inr (e.sec hs).2)
      have HR := hid (And.intro hr3 (And.intro hlt hr))
      clear hr3 hlt hr henv3
      go_wp2_with (go_at_call 116; go_must (refine hC.mono ?_; rintro e w4 ⟨rfl, U, hU, hc4, hSeen⟩))
      obtain ⟨hr3, hlt, hr⟩ := HR.out
      have hr4 := hr3.keep hc4 (fun d e => hcb d e) (by omega)
      go_roundw
      case rel => exact ⟨_, cnt3, U, hr4, hU, hW3.trans hc4 (fun _ _ e => e) (fun _ _ e => e), hG.next hEx hSeen⟩
      case measure => rw [hr4.leftN, hr.leftN]; exact hlt

set_option maxHeartbeats 2000000 in
theorem walk_new (hs : InSec E) (n0 : Int) : ∀ (k : Nat) (n : Int) (S : Int → Prop) (w : World), WEnv w ps pt pw bs b f E → SetAt w bs S → ¬ S n → I64 n → (n = n0 ∨ Sec n) → (∀ x, S x → x = n0 ∨ Sec x) → Few k (fun x => Sec x ∧ ¬ (x = n ∨ S x)) →
    Calls Tryz.prog 116 (wargs n ps pt pw) w (WPost E bs n S w) := by
  intro k
  induction k with
  | zero =>
    intro n S w h hS hn hI hn0 hS0 hF
    refine walk_body hs n0 n S w h hS hn hI hn0 hS0 fun m T w' h' hT hm hsub hT0 => ?_
    have hTm : T m := Classical.byContradiction fun hne => hF.none m ⟨(hs n m hm).2, fun e => hne (hsub m e)⟩
    exact walk_seen m T w' h' hT hTm
  | succ k ih =>
    intro n S w h hS hn hI hn0 hS0 hF
    refine walk_body hs n0 n S w h hS hn hI hn0 hS0 fun m T w' h' hT hm hsub hT0 => ?_
    by_cases hTm : T m
    · exact walk_seen m T w' h' hT hTm
    · have hsm := (hs n m hm).2
      refine ih m T w' h' hT hTm hsm.i64 (.inr hsm) hT0 (hF.less (m := m) ⟨hsm, fun e => hTm (hsub m e)⟩ fun x hx => ⟨⟨hx.1, fun e => hx.2 (.inr (hsub x e))⟩, fun e => hx.2 (.inl e)⟩)

end Go.Proofs.YtamoepninddbcaaGreat
