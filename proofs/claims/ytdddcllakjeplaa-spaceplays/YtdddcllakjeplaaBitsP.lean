/-
  What a row tells, without a program: counts, the first one that is not set.
-/
import Derived.Test.YtdddcllakjeplaaBits2
namespace Go.Proofs.Ytdddcllakjeplaa
open Go.RowKit

theorem first_upto (L : List Bool) (k : Int) : ∀ m : Nat, m ≤ L.length → (∃ x, FirstIs L k x true) ∨ AllTo L k (m : Int)
  | 0, _ => .inr fun j _ h1 h2 _ => by omega
  | m + 1, h => by
    rcases first_upto L k m (by omega) with c | c
    · exact .inl c
    · by_cases hk : k ≤ (m : Int)
      · cases hh : hasL L (m : Int)
        · exact .inl ⟨m, ⟨fun _ => ⟨hk, by omega, by omega, hh, fun j j1 j2 j3 => c j j1 j2 j3 (by omega)⟩, fun e => Bool.noConfusion e⟩⟩
        · refine .inr fun j j1 j2 j3 j4 => ?_
          by_cases e : j = (m : Int)
          · rw [e]; exact hh
          · exact c j j1 j2 (by omega) j4
      · exact .inr fun j j1 j2 j3 j4 => c j j1 j2 (by omega) j4
theorem first_ex (L : List Bool) (k : Int) : ∃ x b, FirstIs L k x b := by
  rcases first_upto L k L.length (Nat.le_refl _) with ⟨x, h⟩ | h
  · exact ⟨x, true, h⟩
  · exact ⟨0, false, ⟨fun e => Bool.noConfusion e, fun _ => ⟨rfl, fun j j1 j2 j3 => h j j1 j2 j3 j3⟩⟩⟩
theorem first_to {p g : Nat} {L : List Bool} {k x : Int} {b : Bool} (hF : FirstIs L k x b) (w : World) (h : IsB w p g L) : Calls Try.prog 43 #[.pointer (some ⟨p, 0, none⟩), .int .i64 k] w fun e w' => e = .returned (.tuple #[.int .i64 x, .bool b]) ∧ w = w' := by
  refine (first_any k w h).mono ?_
  rintro e w' ⟨⟨y, c, rfl, hf⟩, rfl⟩
  obtain ⟨rfl, rfl⟩ := hf.one hF
  exact ⟨rfl, rfl⟩
theorem hasL_get (L : List Bool) (i : Nat) (h : i < L.length) : hasL L (i : Int) = L[i] := by
  rw [hasL_nat, List.getD_eq_getElem?_getD, List.getElem?_eq_getElem h]; rfl
theorem count_top (L : List Bool) : L.count true ≤ L.length := List.count_le_length
theorem count_put (L : List Bool) (i : Int) (b : Bool) (h : 0 ≤ i ∧ i < L.length) : (putL L i b).count true + (if hasL L i = true then 1 else 0) = L.count true + (if b = true then 1 else 0) := by
  obtain ⟨I, rfl⟩ := Int.eq_ofNat_of_zero_le h.1
  have hI : I < L.length := by omega
  rw [putL_in, List.count_set hI, hasL_get L I hI]
  have hp : L[I] = true → 1 ≤ L.count true := fun e => List.count_pos_iff.2 (e ▸ List.getElem_mem hI)
  cases e : L[I]
  · cases b <;> simp
  · have := hp e
    cases b <;> simp <;> omega
theorem count_full (L : List Bool) (h : L.count true = L.length) (i : Int) (hi : 0 ≤ i ∧ i < L.length) : hasL L i = true := by
  obtain ⟨I, rfl⟩ := Int.eq_ofNat_of_zero_le hi.1
  rw [hasL_get L I (by omega)]
  exact (List.count_eq_length.1 h _ (List.getElem_mem _)).symm
theorem full_count (L : List Bool) (h : ∀ i : Int, 0 ≤ i → i < L.length → hasL L i = true) : L.count true = L.length := by
  refine List.count_eq_length.2 fun b hb => ?_
  obtain ⟨i, hi, rfl⟩ := List.mem_iff_getElem.1 hb
  rw [← hasL_get L i hi, h i (by omega) (by omega)]
/-- Where not all are set there is a first one. -/
theorem first_some (L : List Bool) (h : L.count true < L.length) : ∃ x, FirstIs L 0 x true := by
  obtain ⟨x, b, hF⟩ := first_ex L 0
  cases b
  · have := full_count L (fun i h1 h2 => (hF.no rfl).2 i h1 h1 h2)
    omega
  · exact ⟨x, hF⟩
theorem first_none (L : List Bool) (k : Int) (h : ∀ i : Int, k ≤ i → 0 ≤ i → i < L.length → hasL L i = true) : FirstIs L k 0 false := ⟨fun e => Bool.noConfusion e, fun _ => ⟨rfl, h⟩⟩
theorem noneL_has (n : Nat) (i : Int) : hasL (noneL n) i = false := by
  unfold hasL
  rw [noneL_get, Bool.and_false]
theorem noneL_first (n : Nat) (h : 0 < n) : FirstIs (noneL n) 0 0 true := ⟨fun _ => ⟨by omega, by omega, by rw [noneL_len]; omega, noneL_has n 0, fun j _ h1 h2 => by omega⟩, fun e => Bool.noConfusion e⟩
theorem noneL_count (n : Nat) : (noneL n).count true = 0 := by simp [noneL, List.count_replicate]
theorem count_cnt (L : List Bool) : L.count true = cntL L L.length := by rw [cntL, List.take_length]
theorem cntL_le (L : List Bool) (k : Nat) : cntL L k ≤ k := by
  unfold cntL
  exact Nat.le_trans List.count_le_length (by rw [List.length_take]; omega)


/-- A list of ints that lies in memory. -/
def IntsAt (w : World) (a : Option Addr) (xs : List Int) : Prop :=
  xs = [] ∨ ∃ b o, a = some ⟨b, o, none⟩ ∧ b < w.heap.size ∧ ∀ j, j < xs.length → w.cell? ⟨b, o + j, none⟩ = some (.int .i64 (xs.getD j 0))
theorem IntsAt.get {w w' : World} {a : Option Addr} {xs : List Int} (h : IntsAt w a xs) (hb : Below w.heap.size w w') (k : Nat) (hk : k < xs.length) :
    ∃ b o, a = some ⟨b, o, none⟩ ∧ w'.cell? ⟨b, o + k, none⟩ = some (.int .i64 (xs.getD k 0)) := by
  rcases h with h | ⟨b, o, h1, h2, h3⟩
  · rw [h] at hk; exact absurd hk (Nat.not_lt_zero _)
  · exact ⟨b, o, h1, by rw [hb.cell (p := ⟨b, o + k, none⟩) h2]; exact h3 k hk⟩
theorem IntsAt.call {w w' : World} {a : Option Addr} {xs : List Int} (h : IntsAt w a xs) (hb : Below w.heap.size w w') : IntsAt w' a xs := by
  rcases h with h | ⟨b, o, h1, h2, h3⟩
  · exact .inl h
  · exact .inr ⟨b, o, h1, Nat.lt_of_lt_of_le h2 hb.size, fun j hj => by rw [hb.cell (p := ⟨b, o + j, none⟩) h2]; exact h3 j hj⟩
theorem all64 {xs : List Int} (h : ∀ x, x ∈ xs → I64 x) (k : Nat) (hk : k < xs.length) : I64 (xs.getD k 0) := by
  rw [List.getD_eq_getElem?_getD, List.getElem?_eq_getElem hk]
  exact h _ (List.getElem_mem hk)

end Go.Proofs.Ytdddcllakjeplaa
