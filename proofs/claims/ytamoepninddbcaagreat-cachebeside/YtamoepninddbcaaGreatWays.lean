/-
  Edges, ways, rings: what holds of them without any program.
-/
import Derived.Test.YtamoepninddbcaaGreatBase
namespace Go.Proofs.YtamoepninddbcaaGreat

/-- There is a way. -/
inductive Way (E : Int → Int → Prop) : Int → Int → Prop
  | one {a b : Int} : E a b → Way E a b
  | more {a b c : Int} : E a b → Way E b c → Way E a c
def Reach (E : Int → Int → Prop) (a b : Int) : Prop := a = b ∨ Way E a b
def NoRing (E : Int → Int → Prop) : Prop := ∀ a, ¬ Way E a a
def Sec (x : Int) : Prop := 0 ≤ x ∧ x < 4096
def InSec (E : Int → Int → Prop) : Prop := ∀ a b, E a b → Sec a ∧ Sec b
def addE (E : Int → Int → Prop) (p q : Int) (a b : Int) : Prop := (a = p ∧ b = q) ∨ E a b
def delE (E : Int → Int → Prop) (n : Int) (a b : Int) : Prop := E a b ∧ a ≠ n ∧ b ≠ n
/-- The edges, each the other way round. -/
def rev (E : Int → Int → Prop) (a b : Int) : Prop := E b a

variable {E F : Int → Int → Prop} {a b c p q : Int}

theorem Way.trans (h : Way E a b) (k : Way E b c) : Way E a c := by
  induction h with
  | one h => exact .more h k
  | more h _ ih => exact .more h (ih k)
theorem Way.snoc (h : Way E a b) (k : E b c) : Way E a c := h.trans (.one k)
theorem Way.mono (h : Way E a b) (k : ∀ a b, E a b → F a b) : Way F a b := by
  induction h with
  | one h => exact .one (k _ _ h)
  | more h _ ih => exact .more (k _ _ h) ih
theorem Way.rev (h : Way E a b) : Way (rev E) b a := by
  induction h with
  | one h => exact .one h
  | more h _ ih => exact ih.snoc h
theorem Way.of_rev (h : Way (Go.Proofs.YtamoepninddbcaaGreat.rev E) a b) : Way E b a := by
  induction h with
  | one h => exact .one h
  | more h _ ih => exact ih.snoc h
theorem Way.last (h : Way E a b) : ∃ c, E c b := by
  induction h with
  | one h => exact ⟨_, h⟩
  | more _ _ ih => exact ih
theorem Way.first (h : Way E a b) : ∃ c, E a c := by
  cases h with
  | one h => exact ⟨_, h⟩
  | more h _ => exact ⟨_, h⟩
theorem Way.split (h : Way E a b) : ∃ c, E a c ∧ Reach E c b := by
  cases h with
  | one h => exact ⟨_, h, .inl rfl⟩
  | more h k => exact ⟨_, h, .inr k⟩
theorem Way.sec (h : Way E a b) (hs : InSec E) : Sec a ∧ Sec b := by
  induction h with
  | one h => exact hs _ _ h
  | more h _ ih => exact ⟨(hs _ _ h).1, ih.2⟩
theorem Reach.trans (h : Reach E a b) (k : Reach E b c) : Reach E a c := by
  rcases h with rfl | h
  · exact k
  · rcases k with rfl | k
    · exact .inr h
    · exact .inr (h.trans k)
theorem Reach.rev_iff : Reach (rev E) a b ↔ Reach E b a := by
  constructor
  · rintro (rfl | h)
    · exact .inl rfl
    · exact .inr h.of_rev
  · rintro (rfl | h)
    · exact .inl rfl
    · exact .inr h.rev
theorem Reach.step (h : E a b) (k : Reach E b c) : Reach E a c := Reach.trans (.inr (.one h)) k
/-- What is closed under steps holds all that is reached. -/
theorem Reach.closed {S : Int → Prop} (h : Reach E a b) (ha : S a) (hs : ∀ x y, S x → E x y → S y) : S b := by
  rcases h with rfl | h
  · exact ha
  · induction h with
    | one h => exact hs _ _ ha h
    | more h _ ih => exact ih (hs _ _ ha h)
theorem Way.congr (h : ∀ a b, E a b ↔ F a b) : Way E a b ↔ Way F a b := ⟨fun k => k.mono fun a b => (h a b).1, fun k => k.mono fun a b => (h a b).2⟩
theorem Reach.congr (h : ∀ a b, E a b ↔ F a b) : Reach E a b ↔ Reach F a b := by
  unfold Reach
  rw [Way.congr h]

theorem way_add (h : Way (addE E p q) a b) : Way E a b ∨ (Reach E a p ∧ Reach E q b) := by
  induction h with
  | one h =>
    rcases h with ⟨rfl, rfl⟩ | h
    · exact .inr ⟨.inl rfl, .inl rfl⟩
    · exact .inl (.one h)
  | more h _ ih =>
    rcases h with ⟨rfl, rfl⟩ | h
    · rcases ih with k | ⟨_, k⟩
      · exact .inr ⟨.inl rfl, .inr k⟩
      · exact .inr ⟨.inl rfl, k⟩
    · rcases ih with k | ⟨k, l⟩
      · exact .inl (.more h k)
      · exact .inr ⟨Reach.step h k, l⟩
theorem noRing_add (h : NoRing E) (hr : ¬ Reach E q p) : NoRing (addE E p q) := by
  intro a ha
  rcases way_add ha with k | ⟨k, l⟩
  · exact h a k
  · exact hr (l.trans k)
theorem noRing_del (n : Int) (h : NoRing E) : NoRing (delE E n) := fun a ha => h a (ha.mono fun _ _ k => k.1)
theorem inSec_add (h : InSec E) (hp : Sec p) (hq : Sec q) : InSec (addE E p q) := by
  rintro a b (⟨rfl, rfl⟩ | k)
  · exact ⟨hp, hq⟩
  · exact h a b k
theorem inSec_del (n : Int) (h : InSec E) : InSec (delE E n) := fun a b k => h a b k.1

/-- At most k things are so. -/
def Few (k : Nat) (P : Int → Prop) : Prop := ∃ L : List Int, L.length ≤ k ∧ ∀ x, P x → x ∈ L
theorem few_sec : Few 4096 Sec := ⟨(List.range 4096).map Int.ofNat, by simp, fun x hx => by
  obtain ⟨h0, h1⟩ := hx
  exact List.mem_map.2 ⟨x.toNat, by rw [List.mem_range]; omega, by simp; omega⟩⟩
theorem Few.mono {k : Nat} {P Q : Int → Prop} (h : Few k Q) (hs : ∀ x, P x → Q x) : Few k P := let ⟨L, h1, h2⟩ := h; ⟨L, h1, fun x hx => h2 x (hs x hx)⟩
theorem Few.none {P : Int → Prop} (h : Few 0 P) (x : Int) : ¬ P x := by
  obtain ⟨L, h1, h2⟩ := h
  have : L = [] := List.eq_nil_of_length_eq_zero (by omega)
  subst this
  exact fun hx => absurd (h2 x hx) (by simp)
theorem Few.less {k : Nat} {P Q : Int → Prop} {m : Int} (h : Few (k + 1) P) (hm : P m) (hs : ∀ x, Q x → P x ∧ x ≠ m) : Few k Q := by
  obtain ⟨L, h1, h2⟩ := h
  refine ⟨L.erase m, ?_, fun x hx => ?_⟩
  · rw [List.length_erase_of_mem (h2 m hm)]; omega
  · exact (List.mem_erase_of_ne (hs x hx).2).2 (h2 x (hs x hx).1)
theorem Few.one {k : Nat} {P : Int → Prop} (h : Few k P) (m : Int) : Few (k + 1) (fun x => x = m ∨ P x) := by
  obtain ⟨L, h1, h2⟩ := h
  refine ⟨m :: L, by simp; omega, fun x hx => ?_⟩
  rcases hx with rfl | hx
  · simp
  · simp [h2 x hx]

/-- Going back from a sector to which edges lead, one comes to one to which none does. -/
theorem free_before (hn : NoRing E) : ∀ (k : Nat) (a : Int), Few k (fun x => Way E x a) → ∃ c, Reach E c a ∧ ∀ x, ¬ E x c
  | 0, a, hf => ⟨a, .inl rfl, fun x hx => hf.none x (.one hx)⟩
  | k + 1, a, hf => by
    by_cases h : ∃ x, E x a
    · obtain ⟨x, hx⟩ := h
      obtain ⟨c, hc, hfree⟩ := free_before hn k x (hf.less (m := x) (.one hx) fun y hy => ⟨hy.snoc hx, fun e => hn x (e ▸ hy)⟩)
      exact ⟨c, hc.trans (.inr (.one hx)), hfree⟩
    · exact ⟨a, .inl rfl, fun x hx => h ⟨x, hx⟩⟩
theorem free_one (hn : NoRing E) (hs : InSec E) (he : E a b) : ∃ c d, E c d ∧ (∀ x, ¬ E x c) ∧ Reach E c a := by
  obtain ⟨c, hc, hf⟩ := free_before hn 4096 a (few_sec.mono fun x hx => (hx.sec hs).1)
  rcases hc with rfl | hc
  · exact ⟨_, _, he, hf, .inl rfl⟩
  · obtain ⟨d, hd⟩ := hc.first
    exact ⟨_, d, hd, hf, .inr hc⟩

end Go.Proofs.YtamoepninddbcaaGreat
