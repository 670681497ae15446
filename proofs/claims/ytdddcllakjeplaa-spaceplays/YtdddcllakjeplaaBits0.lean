/-
  A row of places in memory: the words that hold it, and what it means to set, to clear and to ask.
-/
import Derived.Test.YtdddcllakjeplaaWPick
import Derived.Test.YtdddcllakjeplaaDrawn
namespace Go.Proofs.Ytdddcllakjeplaa
open Go.RowKit

/-- How many words. -/
def nb (n : Nat) : Nat := (n + 63) / 64
/-- The cells of words. -/
def UA (W : List Nat) : Array Value := (W.map fun (x : Nat) => Value.int .u64 (x : Int)).toArray
def bitW (W : List Nat) (i : Nat) : Bool := (W.getD (i / 64) 0).testBit (i % 64)
theorem UA_size (W : List Nat) : (UA W).size = W.length := by simp [UA]
theorem UA_get (W : List Nat) (j : Nat) (h : j < W.length) : (UA W)[j]? = some (.int .u64 (W.getD j 0 : Nat)) := by simp [UA, h]
theorem UA_set (W : List Nat) (j x : Nat) : (UA W).setIfInBounds j (.int .u64 (x : Int)) = UA (W.set j x) := by simp [UA, List.map_set]

/-- A row of bits lies at p, its words at g. -/
structure IsB (w : World) (p g : Nat) (L : List Bool) : Prop where
  me : w.heap[p]? = some (.cells #[.int .i64 L.length, .slice (some ⟨g, 0, none⟩) (nb L.length) (nb L.length)] 75 (0, 0))
  words : ∃ W : List Nat, w.heap[g]? = some (.cells (UA W) 72 (0, 0)) ∧ W.length = nb L.length ∧ (∀ x, x ∈ W → x < 18446744073709551616) ∧ ∀ i, i < L.length → bitW W i = L.getD i false
  top : L.length ≤ 4096
theorem IsB.keep {w w' : World} {p g : Nat} {L : List Bool} {ks : Nat → Prop} (h : IsB w p g L) (hc : Chg w w' ks) (hp : ¬ ks p) (hg : ¬ ks g) : IsB w' p g L := by
  obtain ⟨W, h1, h2, h3, h4⟩ := h.words
  exact ⟨hc.keep h.me hp, ⟨W, hc.keep h1 hg, h2, h3, h4⟩, h.top⟩
theorem IsB.call {w w' : World} {p g : Nat} {L : List Bool} (h : IsB w p g L) (hb : Below w.heap.size w w') : IsB w' p g L := h.keep (Chg.of_below hb No) (fun e => e) (fun e => e)
theorem IsB.ne {w : World} {p g : Nat} {L : List Bool} (h : IsB w p g L) : p ≠ g := by
  intro e
  obtain ⟨W, h2, _⟩ := h.words
  have h1 := h.me
  rw [e, h2] at h1
  injection h1 with h1
  injection h1 with _ h2
  revert h2
  decide
theorem IsB.c0 {w : World} {p g : Nat} {L : List Bool} (h : IsB w p g L) : w.cell? ⟨p, 0, none⟩ = some (.int .i64 L.length) := by rw [cell_of_row _ _ _ _ _ _ h.me]; rfl
theorem IsB.c1 {w : World} {p g : Nat} {L : List Bool} (h : IsB w p g L) : w.cell? ⟨p, 1, none⟩ = some (.slice (some ⟨g, 0, none⟩) (nb L.length) (nb L.length)) := by rw [cell_of_row _ _ _ _ _ _ h.me]; rfl

def hasL (L : List Bool) (i : Int) : Bool := decide (0 ≤ i) && L.getD i.toNat false
def putL (L : List Bool) (i : Int) (b : Bool) : List Bool := if 0 ≤ i then L.set i.toNat b else L
def placeB (L : List Bool) (i : Int) : Bool := decide (0 ≤ i ∧ i < L.length)
def putE (L : List Bool) (i : Int) : Int := if 0 ≤ i ∧ i < L.length then 0 else 51
/-- What First tells: x, is. -/
structure FirstIs (L : List Bool) (k : Int) (x : Int) (b : Bool) : Prop where
  yes : b = true → k ≤ x ∧ 0 ≤ x ∧ x < L.length ∧ hasL L x = false ∧ ∀ j : Int, k ≤ j → 0 ≤ j → j < x → hasL L j = true
  no : b = false → x = 0 ∧ ∀ j : Int, k ≤ j → 0 ≤ j → j < L.length → hasL L j = true
theorem FirstIs.one {L : List Bool} {k x y : Int} {b c : Bool} (h : FirstIs L k x b) (h' : FirstIs L k y c) : x = y ∧ b = c := by
  cases b <;> cases c
  · exact ⟨(h.no rfl).1.trans (h'.no rfl).1.symm, rfl⟩
  · obtain ⟨a1, a2, a3, a4, _⟩ := h'.yes rfl
    rw [(h.no rfl).2 y a1 a2 a3] at a4; cases a4
  · obtain ⟨a1, a2, a3, a4, _⟩ := h.yes rfl
    rw [(h'.no rfl).2 x a1 a2 a3] at a4; cases a4
  · obtain ⟨a1, a2, a3, a4, a5⟩ := h.yes rfl
    obtain ⟨b1, b2, b3, b4, b5⟩ := h'.yes rfl
    refine ⟨?_, rfl⟩
    rcases Int.lt_trichotomy x y with c | c | c
    · rw [b5 x a1 a2 c] at a4; cases a4
    · exact c
    · rw [a5 y b1 b2 c] at b4; cases b4

theorem putL_len (L : List Bool) (i : Int) (b : Bool) : (putL L i b).length = L.length := by unfold putL; split <;> simp
theorem putL_in (L : List Bool) (i : Nat) (b : Bool) : putL L (i : Int) b = L.set i b := by unfold putL; rw [if_pos (by omega), Int.toNat_natCast]
theorem putL_out (L : List Bool) (i : Int) (b : Bool) (h : ¬ (0 ≤ i ∧ i < L.length)) : putL L i b = L := by
  unfold putL
  split
  · rw [List.set_eq_of_length_le (by omega)]
  · rfl
theorem hasL_nat (L : List Bool) (i : Nat) : hasL L (i : Int) = L.getD i false := by simp [hasL]
theorem hasL_out (L : List Bool) (i : Int) (h : ¬ (0 ≤ i ∧ i < L.length)) : hasL L i = false := by
  unfold hasL
  by_cases h0 : 0 ≤ i
  · rw [decide_eq_true h0, Bool.true_and, List.getD_eq_getElem?_getD, List.getElem?_eq_none (by omega)]; rfl
  · rw [decide_eq_false h0]; rfl
theorem hasL_put (L : List Bool) (i j : Int) (b : Bool) (hi : 0 ≤ i ∧ i < L.length) : hasL (putL L i b) j = if j = i then b else hasL L j := by
  obtain ⟨I, rfl⟩ := Int.eq_ofNat_of_zero_le hi.1
  rw [putL_in]
  by_cases h0 : 0 ≤ j
  · obtain ⟨J, rfl⟩ := Int.eq_ofNat_of_zero_le h0
    rw [hasL_nat, hasL_nat, List.getD_eq_getElem?_getD, List.getElem?_set]
    by_cases e : I = J
    · subst e; rw [if_pos rfl, if_pos (by omega), if_pos rfl]; rfl
    · rw [if_neg e, if_neg (by omega), List.getD_eq_getElem?_getD]
  · rw [if_neg (by omega)]
    simp [hasL, h0]

theorem bit_set (W : List Nat) (i j : Nat) (f : Nat → Nat) (b : Bool) (hi : i / 64 < W.length) (hf : ∀ x k, k < 64 → (f x).testBit k = if k = i % 64 then b else x.testBit k) :
    bitW (W.set (i / 64) (f (W.getD (i / 64) 0))) j = if j = i then b else bitW W j := by
  unfold bitW
  rw [List.getD_eq_getElem?_getD, List.getElem?_set]
  by_cases e : i / 64 = j / 64
  · rw [if_pos e, if_pos (by omega), Option.getD_some, hf _ _ (Nat.mod_lt _ (by decide)), e]
    by_cases e2 : j % 64 = i % 64
    · rw [if_pos e2, if_pos (by omega)]
    · rw [if_neg e2, if_neg (by omega)]
  · rw [if_neg e, if_neg (fun h => e (by rw [h])), List.getD_eq_getElem?_getD]
theorem or_bit (x m k : Nat) : (x ||| 2 ^ m).testBit k = if k = m then true else x.testBit k := by
  rw [Nat.testBit_or, Nat.testBit_two_pow]
  by_cases h : k = m
  · subst h; simp
  · rw [decide_eq_false (fun e => h e.symm), if_neg h, Bool.or_false]

theorem tb_and (X r : Nat) (hX : X < 18446744073709551616) : (bits .and .u64 ((X : Int) / 2 ^ r) 1 == 1) = X.testBit r := by
  have e : (X : Int) / 2 ^ r = ((X / 2 ^ r : Nat) : Int) := by simp
  have hl : X / 2 ^ r < 18446744073709551616 := Nat.lt_of_le_of_lt (Nat.div_le_self _ _) hX
  have h1 := u64_and_nat (X / 2 ^ r) 1 hl (by decide)
  rw [e]
  rw [show ((1 : Nat) : Int) = 1 from rfl] at h1
  rw [h1, Nat.and_one_is_mod, Nat.testBit_eq_decide_div_mod_eq]
  rcases Nat.mod_two_eq_zero_or_one (X / 2 ^ r) with k | k
  · rw [k]; rfl
  · rw [k]; rfl
theorem pow63 {r : Nat} (hr : r < 64) : 2 ^ r < 18446744073709551616 := Nat.lt_of_lt_of_le (Nat.pow_lt_pow_right (by decide) hr) (by decide)
theorem not_bit (x m k : Nat) (hm : m < 64) (hk : k < 64) : (x &&& (18446744073709551615 - 2 ^ m)).testBit k = if k = m then false else x.testBit k := by
  have e : 18446744073709551615 - 2 ^ m = 2 ^ 64 - (2 ^ m + 1) := by omega
  rw [Nat.testBit_and, e, Nat.testBit_two_pow_sub_succ (pow63 hm), Nat.testBit_two_pow]
  by_cases h : k = m
  · subst h; simp
  · have h2 : ¬ m = k := fun e => h e.symm
    simp [h, h2, hk]
theorem full_bit {r : Nat} (hr : r < 64) : Nat.testBit 18446744073709551615 r = true := by
  rw [show (18446744073709551615 : Nat) = 2 ^ 64 - 1 from rfl, Nat.testBit_two_pow_sub_one]
  exact decide_eq_true hr

theorem orW (X m : Nat) (hX : X < 18446744073709551616) (hm : m < 64) : bits .or .u64 (X : Int) (IntKind.u64.wrap (2 ^ m)) = ((X ||| 2 ^ m : Nat) : Int) := by
  have hp := pow63 hm
  have e : (2 : Int) ^ m = ((2 ^ m : Nat) : Int) := by simp
  have h2 : ((2 ^ m : Nat) : Int) < 18446744073709551616 := Int.ofNat_lt.2 hp
  have h3 : (0 : Int) ≤ ((2 ^ m : Nat) : Int) := Int.natCast_nonneg _
  generalize 2 ^ m = Y at *
  rw [e, IntWalk.u64_in _ (by omega), u64_or_nat _ _ hX hp]
theorem notW (X m : Nat) (hX : X < 18446744073709551616) (hm : m < 64) : bits .andNot .u64 (X : Int) (IntKind.u64.wrap (2 ^ m)) = ((X &&& (18446744073709551615 - 2 ^ m) : Nat) : Int) := by
  have hp := pow63 hm
  have e : (2 : Int) ^ m = ((2 ^ m : Nat) : Int) := by simp
  have h2 : ((2 ^ m : Nat) : Int) < 18446744073709551616 := Int.ofNat_lt.2 hp
  have h3 : (0 : Int) ≤ ((2 ^ m : Nat) : Int) := Int.natCast_nonneg _
  generalize 2 ^ m = Y at *
  rw [e, IntWalk.u64_in _ (by omega), u64_andNot_nat _ _ hX hp]
theorem IsB.put {w : World} {p g : Nat} {L : List Bool} (h : IsB w p g L) (I : Nat) (b : Bool) (W : List Nat) (hW : w.heap[g]? = some (.cells (UA W) 72 (0, 0))) (hl : W.length = nb L.length) (hx : ∀ x, x ∈ W → x < 18446744073709551616) (hb : ∀ i, i < L.length → bitW W i = L.getD i false)
    (hi : I < L.length) (f : Nat → Nat) (hf : ∀ x k, k < 64 → (f x).testBit k = if k = I % 64 then b else x.testBit k) (hlt : ∀ x, x < 18446744073709551616 → f x < 18446744073709551616) :
    IsB (w.setCell ⟨g, I / 64, none⟩ (.int .u64 (f (W.getD (I / 64) 0) : Nat))) p g (L.set I b) := by
  have hq : I / 64 < W.length := by rw [hl]; unfold nb; omega
  refine ⟨?_, ⟨W.set (I / 64) (f (W.getD (I / 64) 0)), ?_, by simpa using hl, ?_, ?_⟩, by simpa using h.top⟩
  · rw [heap_setCell_other w ⟨g, I / 64, none⟩ p _ h.ne, List.length_set]
    exact h.me
  · rw [heap_setCell_same w g (I / 64) (UA W) 72 _ hW, UA_set]
  · intro x hx'
    rcases List.mem_or_eq_of_mem_set hx' with k | k
    · exact hx x k
    · rw [k]
      apply hlt
      rw [List.getD_eq_getElem?_getD, List.getElem?_eq_getElem hq]
      exact hx _ (List.getElem_mem hq)
  · intro i hi'
    rw [List.length_set] at hi'
    rw [bit_set W I i f b hq hf]
    rw [List.getD_eq_getElem?_getD, List.getElem?_set]
    by_cases e : i = I
    · subst e; rw [if_pos rfl, if_pos rfl, if_pos hi]; rfl
    · rw [if_neg e, if_neg (fun k => e k.symm), hb i hi', List.getD_eq_getElem?_getD]
theorem IsB.drew {w : World} {p g : Nat} {L : List Bool} (h : IsB w p g L) : IsB w.drew p g L := ⟨h.me, h.words, h.top⟩
theorem or_lt (x m : Nat) (hm : m < 64) (hx : x < 18446744073709551616) : x ||| 2 ^ m < 18446744073709551616 := Nat.or_lt_two_pow (n := 64) hx (pow63 hm)
theorem not_lt (x m : Nat) (hx : x < 18446744073709551616) : x &&& (18446744073709551615 - 2 ^ m) < 18446744073709551616 := Nat.lt_of_le_of_lt Nat.and_le_left hx
def cntL (L : List Bool) (k : Nat) : Nat := (L.take k).count true
theorem cntL_succ (L : List Bool) (k : Nat) (h : k < L.length) : cntL L (k + 1) = cntL L k + (if hasL L (k : Int) = true then 1 else 0) := by
  unfold cntL
  rw [hasL_nat, List.take_add_one, List.count_append, List.getElem?_eq_getElem h, List.getD_eq_getElem?_getD, List.getElem?_eq_getElem h]
  cases L[k] <;> simp

end Go.Proofs.Ytdddcllakjeplaa
