/-
  ways, the statements' own helper: which sectors a sector leads to by edges, however far.
-/
import Derived.Test.YtfkommjpofpmbaaLawQ
-- may lack
namespace Go.Proofs.Ytfkommjpofpmbaa
open Go.RowKit

/-- The edges of a list, forth or back. -/
def dirF (l : List (Int × Int)) (back : Bool) (x y : Int) : Prop := if back then (y, x) ∈ l else (x, y) ∈ l

/-- A search under way. -/
structure Bfs (F : Int → Int → Prop) (n : Int) (T : Int → Prop) (q : List Int) : Prop where
  new : ∀ x, T x → Way F n x
  que : ∀ x, x ∈ q → x = n ∨ T x
  shut : ∀ x, (x = n ∨ T x) → x ∉ q → ∀ y, F x y → T y
/-- A search under way, at x: D was looked at. -/
structure BfsIn (F : Int → Int → Prop) (n x : Int) (T : Int → Prop) (q : List Int) (D : Int → Prop) : Prop where
  at_ : x = n ∨ T x
  new : ∀ x, T x → Way F n x
  que : ∀ x, x ∈ q → x = n ∨ T x
  shut : ∀ z, (z = n ∨ T z) → z ∉ q → z ≠ x → ∀ y, F z y → T y
  done : ∀ y, D y → F x y → T y
variable {F : Int → Int → Prop} {n x : Int} {T : Int → Prop} {q : List Int} {D : Int → Prop}
theorem Bfs.pop (h : Bfs F n T (x :: q)) : BfsIn F n x T q (fun _ => False) :=
  ⟨h.que x (by simp), h.new, fun y hy => h.que y (by simp [hy]), fun z hz hq hx y hy => h.shut z hz (by simp [hq, hx]) y hy, fun _ e => e.elim⟩
theorem BfsIn.end_ (h : BfsIn F n x T q D) (hD : ∀ y, F x y → D y) : Bfs F n T q :=
  ⟨h.new, h.que, fun z hz hq y hy => by
    by_cases e : z = x
    · subst e; exact h.done y (hD y hy) hy
    · exact h.shut z hz hq e y hy⟩
theorem BfsIn.skip {D' : Int → Prop} (h : BfsIn F n x T q D) (hD : ∀ y, D' y → F x y → D y ∨ T y) : BfsIn F n x T q D' :=
  ⟨h.at_, h.new, h.que, h.shut, fun y hy hf => (hD y hy hf).elim (fun k => h.done y k hf) (fun k => k)⟩
theorem BfsIn.push {y : Int} {T' D' : Int → Prop} (h : BfsIn F n x T q D) (hy : F x y) (hT : ∀ z, T' z ↔ z = y ∨ T z) (hD : ∀ z, D' z → F x z → D z ∨ z = y) : BfsIn F n x T' (q ++ [y]) D' := by
  refine ⟨h.at_.elim .inl (fun k => .inr ((hT x).2 (.inr k))), fun z hz => ?_, fun z hz => ?_, fun z hz hq hx u hu => ?_, fun z hz hf => ?_⟩
  · rcases (hT z).1 hz with rfl | k
    · rcases h.at_ with rfl | k
      · exact .one hy
      · exact (h.new x k).snoc hy
    · exact h.new z k
  · rw [List.mem_append, List.mem_singleton] at hz
    rcases hz with k | rfl
    · exact (h.que z k).elim .inl (fun k => .inr ((hT z).2 (.inr k)))
    · exact .inr ((hT z).2 (.inl rfl))
  · rw [List.mem_append, List.mem_singleton] at hq
    have hz' : z = n ∨ T z := hz.elim .inl (fun k => ((hT z).1 k).elim (fun e => absurd (.inr e) hq) .inr)
    exact (hT u).2 (.inr (h.shut z hz' (fun k => hq (.inl k)) hx u hu))
  · rcases hD z hz hf with k | k
    · exact (hT z).2 (.inr (h.done z k hf))
    · exact (hT z).2 (.inl k)
theorem Bfs.end_ (h : Bfs F n T []) (y : Int) : T y ↔ Way F n y := by
  refine ⟨h.new y, fun k => ?_⟩
  obtain ⟨c, h1, h2⟩ := k.split
  exact h2.closed (h.shut n (.inl rfl) (by simp) c h1) fun a b ha hab => h.shut a (.inr ha) (by simp) b hab
/-- Who was seen. -/
def Tof (s : List Bool) (x : Int) : Prop := Sec x ∧ s.getD x.toNat false = true
theorem Tof_start (x : Int) : ¬ Tof Fs x := fun h => by
  have := h.2
  rw [Fs_get] at this
  cases this
theorem Tof_set {s : List Bool} (hl : s.length = 4096) {y : Int} (hy : Sec y) (z : Int) : Tof (s.set y.toNat true) z ↔ z = y ∨ Tof s z := by
  unfold Tof
  obtain ⟨h0, h1⟩ := hy
  constructor
  · rintro ⟨hz, h⟩
    by_cases e : z = y
    · exact .inl e
    · refine .inr ⟨hz, ?_⟩
      have hne : y.toNat ≠ z.toNat := by have := hz.1; omega
      rwa [List.getD_eq_getElem?_getD, List.getElem?_set_ne hne, ← List.getD_eq_getElem?_getD] at h
  · rintro (rfl | ⟨hz, h⟩)
    · refine ⟨⟨h0, h1⟩, ?_⟩
      rw [List.getD_eq_getElem?_getD, List.getElem?_set_self (by omega)]
      rfl
    · refine ⟨hz, ?_⟩
      by_cases e : y.toNat = z.toNat
      · rw [List.getD_eq_getElem?_getD, ← e, List.getElem?_set_self (by omega)]
        rfl
      · rwa [List.getD_eq_getElem?_getD, List.getElem?_set_ne e, ← List.getD_eq_getElem?_getD]
def lenV : Value → Nat
  | .slice _ n _ => n
  | _ => 0
theorem Que.lenV {w : World} {base : Nat} {v : Value} {q : List Int} (h : Que w base v q) : lenV v = q.length := by
  obtain ⟨g, o, cap, cur, rfl, _⟩ := h
  rfl
/-- The cells that nobody was seen in. -/
def FA : Array Value := (Fs.map Value.bool).toArray
theorem make_FA (w : World) : (Instr.makeSlice 67 (.int .i64 4096) (.int .i64 4096)).run Try.prog w = .ok (.slice (some ⟨w.heap.size, 0, none⟩) 4096 4096) (w.alloc (.cells FA 4)) := make_bools w
theorem nF_Fs : nF Fs ≤ 4096 := by
  have := List.countP_le_length (p := fun b : Bool => !b) (l := Fs)
  rw [Fs_len] at this
  exact this
/-- Who was looked at. -/
def Dk (l : List (Int × Int)) (back : Bool) (x : Int) (k : Nat) (y : Int) : Prop := if back then (y, x) ∈ l.take k else (x, y) ∈ l.take k
theorem Dk_succ {l : List (Int × Int)} {k : Nat} (hk : k < l.length) (back : Bool) (x y : Int) : Dk l back x (k + 1) y ↔ Dk l back x k y ∨ edK l k = (if back then (y, x) else (x, y)) := by
  have e : edK l k = l[k] := by simp [edK, hk]
  unfold Dk
  rw [List.take_succ_eq_append_getElem hk, e]
  cases back
  · simp only [Bool.false_eq_true, if_false, List.mem_append, List.mem_singleton]
    exact ⟨fun h => h.elim .inl (fun k => .inr k.symm), fun h => h.elim .inl (fun k => .inr k.symm)⟩
  · simp only [if_true, List.mem_append, List.mem_singleton]
    exact ⟨fun h => h.elim .inl (fun k => .inr k.symm), fun h => h.elim .inl (fun k => .inr k.symm)⟩

/-- What ways tells. -/
def WaysPost (l : List (Int × Int)) (n : Int) (back : Bool) (w : World) (e : Ending) (w' : World) : Prop :=
  ∃ g s, e = .returned (.slice (some ⟨g, 0, none⟩) 4096 4096) ∧ w.heap.size ≤ g ∧ BoolsAt w' g s ∧ (∀ x, Sec x → (s.getD x.toNat false = true ↔ Way (dirF l back) n x)) ∧ Chg w w' No

end Go.Proofs.Ytfkommjpofpmbaa
