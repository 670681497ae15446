/-
 package plain: the calls of the statements' example.
-/
import Derived.Test.YtmgfilacepnjlaaGreatDoorQD
namespace Go.Proofs.YtmgfilacepnjlaaGreatDoor
open Go.RowKit

theorem sumN_false (s : PSt) : ∀ n, sumN s (fun _ => False) n = 0
 | 0 => rfl
 | n + 1 => by unfold sumN; rw [sumN_false s n, if_neg (fun e => e)]
theorem taken_one {s : PSt} {i : Nat} {x : Nd} (hi : i < 513) (hx : s.nd (i : Int) = some x) (ho : ∀ j : Nat, j < 513 → j ≠ i → s.nd (j : Int) = none) : takenN s = cardN x := by
 unfold takenN
 rw [sumN_congr (Q := fun k => False ∨ k = (i : Int)) 513 (fun j hj => ⟨fun e => ?_, fun e => ?_⟩), sumN_put hx (fun e => e) 513 hi, sumN_false]
 ·omega
 ·by_cases h : j = i
  ·exact .inr (by rw [h])
  ·exact absurd (ho j hj h) e
 ·have : j = i := by rcases e with e | e; exact e.elim; omega
  rw [this, hx]
  intro e
  cases e
theorem taken_two {s : PSt} {i k : Nat} {x y : Nd} (hi : i < 513) (hk : k < 513) (hne : i ≠ k) (hx : s.nd (i : Int) = some x) (hy : s.nd (k : Int) = some y) (ho : ∀ j : Nat, j < 513 → j ≠ i → j ≠ k → s.nd (j : Int) = none) : takenN s = cardN x + cardN y := by
 unfold takenN
 rw [sumN_congr (Q := fun z => (False ∨ z = (i : Int)) ∨ z = (k : Int)) 513 (fun j hj => ⟨fun e => ?_, fun e => ?_⟩), sumN_put (P := fun z => False ∨ z = (i : Int)) hy (fun e => by rcases e with e | e; exact e; omega) 513 hk, sumN_put (P := fun _ => False) hx (fun e => e) 513 hi, sumN_false]
 ·omega
 ·by_cases h : j = i
  ·exact .inl (.inr (by rw [h]))
  ·by_cases h2 : j = k
   ·exact .inr (by rw [h2])
   ·exact absurd (ho j hj h h2) e
 ·rcases e with (e | e) | e
  ·exact e.elim
  ·rw [show j = i by omega, hx]; intro e; cases e
  ·rw [show j = k by omega, hy]; intro e; cases e
theorem cardT_none : cardT (fun _ => false) = 0 := by simp [cardT]
theorem cardT_is {k : Nat} (hk : k < 1102) : cardT (fun i => decide (i = k)) = 1 := by
 have h := count_put (fun _ => false) k 1102 hk
 have e : (fun i => decide (i = k)) = (fun x => if x = k then true else false) := by
  funext i
  by_cases e : i = k
  ·rw [decide_eq_true e, if_pos e]
  ·rw [decide_eq_false e, if_neg e]
 unfold cardT
 rw [e, h]
 simp
theorem cardN_none {x : Nd} (hb : ∀ k : Nat, x.blk (k : Int) = none) (hs : x.sl = []) : cardN x = 0 := by
 rw [← cardN_of (F := fun _ => false) (x := x) (fun i => Iff.intro (fun e => nomatch e) (fun e => ?_)), cardT_none]
 rcases e with ⟨k, k1, _⟩ | ⟨k, k1, _⟩
 ·exact absurd (hb k) k1
 ·rw [hs] at k1
  exact absurd k1 (Nat.not_lt_zero _)
theorem cardN_is {x : Nd} {k : Nat} (hk : k < 1102) (h : ∀ i, TalP x i ↔ i = k) : cardN x = 1 := by
 rw [← cardN_of (F := fun i => decide (i = k)) (x := x) (fun i => ⟨fun e => (h i).2 (of_decide_eq_true e), fun e => decide_eq_true ((h i).1 e)⟩), cardT_is hk]
theorem cardQ_is {x : Nd} {a b k : Nat} (hk : k < 1102) (h : ∀ i, TalQ x a b i ↔ i = k) : cardQ x a b = 1 := by
 rw [← cardQ_of (F := fun i => decide (i = k)) (x := x) (fun i => ⟨fun e => (h i).2 (of_decide_eq_true e), fun e => decide_eq_true ((h i).1 e)⟩), cardT_is hk]
theorem nums_low {k : Nat} (hk : k < 12) : numsOf k = [k] := by
 unfold numsOf
 rw [if_neg (by omega), if_neg (by omega)]
theorem card_dir {x : Nd} (hb : ∀ k : Nat, x.blk (k : Int) = none) (hs : x.sl.length = 1) : cardN x = 1 :=
 cardN_is (k := 0) (by omega) fun i => by
  constructor
  ·rintro (⟨k, k1, _⟩ | ⟨k, k1, k2⟩)
   ·exact absurd (hb k) k1
   ·obtain rfl : k = 0 := by omega
    rw [nums_low (by omega)] at k2
    simpa using k2
  ·rintro rfl
   exact .inr ⟨0, by omega, by rw [nums_low (by omega)]; simp⟩
theorem card_file {x : Nd} {b : Nat} (hb12 : b < 12) (hb : ∀ k : Nat, x.blk (k : Int) ≠ none ↔ k = b) (hs : x.sl = []) : cardN x = 1 :=
 cardN_is (k := b) (by omega) fun i => by
  constructor
  ·rintro (⟨k, k1, k2⟩ | ⟨k, k1, _⟩)
   ·have := (hb k).1 k1
    subst this
    rw [nums_low hb12] at k2
    simpa using k2
   ·rw [hs] at k1
    exact absurd k1 (Nat.not_lt_zero _)
  ·rintro rfl
   exact .inl ⟨i, (hb i).2 rfl, by rw [nums_low hb12]; simp⟩
theorem cardQ_first {x : Nd} {b : Nat} (hb12 : b < 12) (hb : ∀ k : Nat, x.blk (k : Int) = none) (hs : x.sl = []) : cardQ x b (b + 1) = 1 :=
 cardQ_is (k := b) (by omega) fun i => by
  constructor
  ·rintro ((⟨k, k1, _⟩ | ⟨k, k1, _⟩) | ⟨k, k1, k2, k3⟩)
   ·exact absurd (hb k) k1
   ·rw [hs] at k1
    exact absurd k1 (Nat.not_lt_zero _)
   ·obtain rfl : k = b := by omega
    rw [nums_low hb12] at k3
    simpa using k3
  ·rintro rfl
   exact .inr ⟨i, Nat.le_refl _, by omega, by rw [nums_low hb12]; simp⟩
end Go.Proofs.YtmgfilacepnjlaaGreatDoor

namespace Go.Proofs.YtmgfilacepnjlaaGreatDoor
open Go.RowKit

def nA : ByteArray := ⟨#[97]⟩
def nB : ByteArray := ⟨#[98]⟩
def pA : ByteArray := ⟨#[47, 97]⟩
def pAB : ByteArray := ⟨#[47, 97, 47, 98]⟩
theorem split_A : splitR pA.data.toList = ([[97]], 0) := by kernel_rfl
theorem split_AB : splitR pAB.data.toList = ([[97], [98]], 0) := by kernel_rfl
theorem ls_A {ls : List ByteArray} (h : datas ls = (splitR pA.data.toList).1) : ls = [nA] := datas_inj (h.trans (by rw [split_A]; rfl))
theorem ls_AB {ls : List ByteArray} (h : datas ls = (splitR pAB.data.toList).1) : ls = [nA, nB] := datas_inj (h.trans (by rw [split_AB]; rfl))
def dX : List Int := [120, 121, 122]
def K0 : PSt := newS 40 8
def rootK : Nd := entN (newNd 2 0) 0 nA 2
def fileK : Nd := wroteN (newNd 1 5) 1 2 Zs dX
def K1 : PSt := makeS K0 1 (newNd 2 0) 0 nA 2 1 5
def K2 : PSt := K1.put 2 fileK
theorem K0_1 : K0.nd 1 = some (newNd 2 0) := rfl
theorem K0_o {j : Int} (h : j ≠ 1) : K0.nd j = none := if_neg h
theorem K1_1 : K1.nd 1 = some rootK := PSt.put_at _ _ _
theorem K1_2 : K1.nd 2 = some (newNd 1 5) := (PSt.put_ne _ _ (by decide)).trans (PSt.put_at _ _ _)
theorem K1_o {j : Int} (h : j ≠ 1) (h2 : j ≠ 2) : K1.nd j = none := (PSt.put_ne _ _ h).trans ((PSt.put_ne _ _ h2).trans (K0_o h))
theorem K2_1 : K2.nd 1 = some rootK := (PSt.put_ne _ _ (by decide)).trans K1_1
theorem K2_2 : K2.nd 2 = some fileK := PSt.put_at _ _ _
theorem K2_o {j : Int} (h : j ≠ 1) (h2 : j ≠ 2) : K2.nd j = none := (PSt.put_ne _ _ h2).trans (K1_o h h2)
theorem rootK_nm {n : ByteArray} {k : Int} (h : rootK.nm n = some k) : n = nA ∧ k = 0 := by
 have h : (if n = nA then some ((0 : Nat) : Int) else none) = some k := h
 by_cases e : n = nA
 ·rw [if_pos e] at h
  cases h
  exact ⟨e, rfl⟩
 ·rw [if_neg e] at h
  cases h
theorem rootK_sl : rootK.sl = [2] := rfl
theorem okK0 : OkS K0 := ⟨(by rw [K0_1]; intro e; cases e), fun i x n k hx hn => by
 by_cases e : i = 1
 ·subst e
  rw [K0_1] at hx
  cases hx
  cases hn
 ·rw [K0_o e] at hx
  cases hx⟩
theorem okK1 : OkS K1 := ⟨(by rw [K1_1]; intro e; cases e), fun i x n k hx hn => by
 by_cases e : i = 1
 ·subst e
  rw [K1_1] at hx
  cases hx
  obtain ⟨_, rfl⟩ := rootK_nm hn
  refine ⟨by decide, by rw [rootK_sl]; decide, ?_⟩
  show K1.nd 2 ≠ none
  rw [K1_2]
  intro e
  cases e
 ·by_cases e2 : i = 2
  ·subst e2
   rw [K1_2] at hx
   cases hx
   cases hn
  ·rw [K1_o e e2] at hx
   cases hx⟩
theorem okK2 : OkS K2 := ⟨(by rw [K2_1]; intro e; cases e), fun i x n k hx hn => by
 by_cases e : i = 1
 ·subst e
  rw [K2_1] at hx
  cases hx
  obtain ⟨_, rfl⟩ := rootK_nm hn
  refine ⟨by decide, by rw [rootK_sl]; decide, ?_⟩
  show K2.nd 2 ≠ none
  rw [K2_2]
  intro e
  cases e
 ·by_cases e2 : i = 2
  ·subst e2
   rw [K2_2] at hx
   cases hx
   cases hn
  ·rw [K2_o e e2] at hx
   cases hx⟩
theorem walk_K1 : walkL K1 [nA] 1 = (2, 0) := by rw [walkL_step K1_1]; rfl
theorem walk_K2 : walkL K2 [nA] 1 = (2, 0) := by rw [walkL_step K2_1]; rfl
theorem lastD_K0 : lastD K0 [nA] = 1 := rfl
theorem lastE_K0 : lastE K0 [nA] = 0 := by
 unfold lastE
 rw [if_neg (by intro e; cases e), lastD_K0, K0_1]
 rfl
theorem lastE_K2 : lastE K2 [nA, nB] = 113 := by
 have h : (walkL K2 ([nA, nB] : List ByteArray).dropLast 1) = (2, 0) := walk_K2
 have hd : lastD K2 [nA, nB] = 2 := by unfold lastD; rw [h]
 unfold lastE
 rw [if_neg (by intro e; cases e), hd, h, K2_2]
 rfl
theorem blk_new (a b : Int) (k : Nat) : (newNd a b).blk (k : Int) = none := rfl
theorem blk_rootK (k : Nat) : rootK.blk (k : Int) = none := rfl
theorem taken_K0 : takenN K0 = 0 := by
 rw [taken_one (i := 1) (x := newNd 2 0) (by decide) K0_1 (fun j _ hj => K0_o (by omega))]
 exact cardN_none (blk_new 2 0) rfl
theorem taken_K1 : takenN K1 = 1 := by
 rw [taken_two (i := 1) (k := 2) (x := rootK) (y := newNd 1 5) (by decide) (by decide) (by decide) K1_1 K1_2 (fun j _ h1 h2 => K1_o (by omega) (by omega)), card_dir blk_rootK rfl, cardN_none (blk_new 1 5) rfl]
theorem blk_fileK (k : Nat) : fileK.blk (k : Int) ≠ none ↔ k = 1 := by
 have h : fileK.blk (k : Int) = if (k : Int) = ((1 : Nat) : Int) then some (.agg (SA (laidL Zs 2 dX))) else none := rfl
 rw [h]
 by_cases e : k = 1
 ·rw [if_pos (by omega)]
  exact ⟨fun _ => e, fun _ e => by cases e⟩
 ·rw [if_neg (by omega)]
  exact ⟨fun h => absurd rfl h, fun h => absurd h e⟩
theorem taken_K2 : takenN K2 = 2 := by
 rw [taken_two (i := 1) (k := 2) (x := rootK) (y := fileK) (by decide) (by decide) (by decide) K2_1 K2_2 (fun j _ h1 h2 => K2_o (by omega) (by omega)), card_dir blk_rootK rfl, card_file (b := 1) (by decide) blk_fileK rfl]
theorem nodes_K0 : nodesN K0 = 1 := by kernel_rfl
theorem nodes_K2 : nodesN K2 = 2 := by kernel_rfl
theorem room_K0 : roomB K0 (newNd 2 0) 0 1 = true := by
 unfold roomB
 rw [taken_K0, cardN_none (blk_new 2 0) rfl, cardQ_first (b := 0) (by decide) (blk_new 2 0) rfl]
 rfl
theorem place_K0 : placeL K0 (newNd 2 0) = (((0 : Nat) : Int), 0) := by
 unfold placeL
 have h : least0 (newNd 2 0).sl = 0 := rfl
 rw [h, if_neg (by decide), if_pos room_K0]
theorem free_K0 : freeI K0 = 2 := by kernel_rfl
theorem room_K1 : roomB K1 (newNd 1 5) 1 2 = true := by
 unfold roomB
 rw [taken_K1, cardN_none (blk_new 1 5) rfl, cardQ_first (b := 1) (by decide) (blk_new 1 5) rfl]
 rfl
theorem ans_K0 : ansS 2 (newNd 1 5) = #[.int .i64 0, .int .i64 2, .int .i64 1, .int .i64 1, .int .i64 0, .int .i64 5, .int .i64 0, .slice none 0 0, .slice none 0 0, .bool false] := by
 unfold ansS
 rw [cardN_none (blk_new 1 5) rfl]
 rfl
theorem num_K2 : NumP K2 := ⟨by decide, by decide, by decide, by decide⟩
theorem read_K2 : ((laidL Zs 2 dX).drop 0).take 5 = [0, 0, 120, 121, 122] := by kernel_rfl
end Go.Proofs.YtmgfilacepnjlaaGreatDoor

namespace Go.Proofs.YtmgfilacepnjlaaGreatDoor
open Go.RowKit

def sZ : ByteArray := ⟨#[]⟩
structure KQ (w0 w : World) (q : PC) (s : PSt) : Prop where
 pl : IsPl w q s
 ch : Chg w0 w No
 mb : w0.heap.size ≤ q.mb
 bl : ∀ c, q.nc 1 = some c → ∀ k, BlkN c k → w0.heap.size ≤ k
theorem ML.keep {w w' : World} {ks : Nat → Prop} (h : ML w) (hc : Chg w w' ks) (hn : ∀ k, ks k → w.heap.size ≤ k) : ML w' := by
 obtain ⟨m, h⟩ := h
 refine ⟨m, ?_⟩
 have hlt := World.block_lt_of_cell? _ _ h
 unfold World.cell? at h ⊢
 rw [hc.block _ hlt (fun e => by have := hn _ e; exact absurd hlt (by omega))]
 exact h
theorem names_le {x : ByteArray} (hx : x ∈ [nA]) : x.size ≤ 1000 := by
 obtain rfl : x = nA := by simpa using hx
 decide
theorem names_le2 {x : ByteArray} (hx : x ∈ [nA, nB]) : x.size ≤ 1000 := by
 rcases (by simpa using hx : x = nA ∨ x = nB) with rfl | rfl
 ·decide
 ·decide
theorem ansS_ok : (ansS 2 (newNd 1 5)).size = 10 ∧ (ansS 2 (newNd 1 5)).all (·.oneCell') = true := by
 rw [ans_K0]
 exact ⟨rfl, by simp [Value.oneCell']⟩
theorem ansE_ok (e : Int) : (ansE e).size = 10 ∧ (ansE e).all (·.oneCell') = true := ⟨rfl, by simp [ansE, Value.oneCell']⟩
theorem ansD_ok (e : Int) (a : Option Addr) (n m : Nat) : (ansD e a n m).size = 10 ∧ (ansD e a n m).all (·.oneCell') = true := ⟨rfl, by simp [ansD, Value.oneCell']⟩

theorem k_create {w0 w : World} {q : PC} (h : KQ w0 w q K0) (hu : UB w0) (hm : ML w0) :
  Calls Tryz.prog 9 #[.pointer (some ⟨q.p, 0, none⟩), .agg (opA 1 pA sZ 0 0 none 0 0 5 0)] w fun e w' => e = .returned (.agg (ansS 2 (newNd 1 5))) ∧ ∃ q', q'.p = q.p ∧ IsPl w' q' K1 ∧ (∀ c2, q'.nc 2 = some c2 → ∀ k, BlkN c2 k → w0.heap.size ≤ k) ∧ Chg w0 w' No := by
 have hP := h.pl
 obtain ⟨c, x, hqc, hsx, hN, _, _⟩ := hP.at_ (i := 1) (by rw [K0_1]; intro e; cases e)
 rw [K0_1] at hsx
 cases hsx
 have hks : ∀ k, (k = q.mb ∨ BlkN c k) → k < w.heap.size := fun k hk => by
  rcases hk with rfl | hk
  ·exact hP.mp.lt
  ·exact hN.lt hk
 refine (do_create (q := q) pA sZ 0 0 none 0 0 5 0 w (fun A w' => A = ansS 2 (newNd 1 5) ∧ ∃ q', q'.p = q.p ∧ IsPl w' q' K1 ∧ ∀ c2, q'.nc 2 = some c2 → ∀ k, BlkN c2 k → w0.heap.size ≤ k) (fun k => k = q.mb ∨ BlkN c k) hks (hu.keep h.ch (fun e => e)) (hm.keep h.ch (fun _ e => e.elim)) (by kernel_rfl) (by decide) (by decide) (by rw [split_A]) ?_ ?_).mono ?_
 ·intro W a ls hc hd hl
  obtain rfl := ls_A hd
  have hg := makeOne_good (c := c) (x := newNd 2 0) [nA] a 1 5 0 W (hP.call hc) okK0 hl (by decide) (fun _ => names_le) lastE_K0 hqc K0_1 (by decide) rfl (by rw [nodes_K0]; decide) place_K0 (Nat.zero_le _) (by decide) (by decide) (by rw [free_K0]; decide) (by rw [free_K0]; decide) (by rw [free_K0]; rfl)
  rw [free_K0] at hg
  refine hg.mono ?_
  rintro e w' ⟨⟨q', rfl, hp, hq, hb⟩, hc'⟩
  refine ⟨_, rfl, ansS_ok.1, ansS_ok.2, ⟨rfl, q', hq, hp, fun c2 e2 k hk => ?_⟩, hc'⟩
  have := hb c2 e2 k hk
  have := (h.ch.tr hc).size
  omega
 ·rintro A w1 w2 r o ⟨rfl, q', h1, h2, h3⟩ ho hp
  exact ⟨rfl, q', h1, h2.putR hp ho, h3⟩
 ·rintro e w' ⟨A, rfl, ⟨rfl, q', h1, h2, h3⟩, hc⟩
  exact ⟨rfl, q', h1, h2, h3, h.ch.trans hc (fun _ _ e => e) (fun j hj e => by
   rcases e with rfl | e
   ·have := h.mb; omega
   ·have := h.bl c hqc j e; omega)⟩

theorem k_write {w0 w : World} {q : PC} (gd : Nat) (h : IsPl w q K1) (hb : ∀ c2, q.nc 2 = some c2 → ∀ k, BlkN c2 k → w0.heap.size ≤ k) (hch : Chg w0 w No) (hu : UB w0) (hm : ML w0) (t : TypeId) (fr : Nat × Nat) (hd : w.heap[gd]? = some (.cells (SA dX) t fr)) :
  Calls Tryz.prog 9 #[.pointer (some ⟨q.p, 0, none⟩), .agg (opA 7 pA sZ 130 0 (some ⟨gd, 0, none⟩) 3 3 0 0)] w fun e w' => e = .returned (.agg (ansE 0)) ∧ ∃ q', q'.p = q.p ∧ IsPl w' q' K2 ∧ Chg w0 w' No ∧ Chg w w' (fun k => ∃ c, q.nc 2 = some c ∧ BlkN c k) := by
 obtain ⟨c, x, hqc, hsx, hN, _, _⟩ := h.at_ (i := 2) (by rw [K1_2]; intro e; cases e)
 rw [K1_2] at hsx
 cases hsx
 refine (do_write (q := q) pA sZ 130 0 (some ⟨gd, 0, none⟩) 3 3 0 0 2 w (fun A w' => A = ansE 0 ∧ ∃ q', q'.p = q.p ∧ IsPl w' q' K2) (BlkN c) (fun k hk => hN.lt hk) (hu.keep hch (fun e => e)) (hm.keep hch (fun _ e => e.elim)) (by kernel_rfl) (by decide) (by decide) (by rw [split_A]) ?_ ?_ ?_).mono ?_
 ·intro W a ls hc hd hl
  obtain rfl := ls_A hd
  have hg := walk_any [nA] a ([nA] : List ByteArray).length W (h.call hc) okK1 hl (by decide) (fun _ => names_le)
  rw [walk_K1] at hg
  exact hg
 ·intro W hc
  have hW := h.call hc
  refine (doAt_write (c := c) (x := newNd 1 5) 2 pA sZ 130 0 (some ⟨gd, 0, none⟩) 3 3 0 0 W 0 (fun w' => ∃ q', q'.p = q.p ∧ IsPl w' q' K2) (BlkN c) (fun k hk => (hN.call hc).lt hk) hW hqc K1_2 (by decide) ?_ ?_).mono ?_
  ·intro W2 hc2
   have hW2 := hW.call hc2
   have hN2 := (hN.call hc).call hc2
   refine (write_one (s := K1) (c := c) (x := newNd 1 5) 1 2 Zs dX gd 0 3 W2 hW2 hN2 (by decide) (by decide) (by decide) rfl rfl room_K1 ?_ (by decide)).mono ?_
   ·intro W3 hc3 j v hj
    have hcell : W3.heap[gd]? = some (.cells (SA dX) t fr) := ((hc.tr hc2).tr hc3).keep hd (fun e => e)
    rw [addr_add]
    refine (cell_of_row _ _ _ _ _ _ hcell).trans ?_
    show (SA dX)[0 + j]? = some v
    rw [Nat.zero_add]
    unfold SA
    simpa using hj
   ·rintro e w' ⟨rfl, hn, hc'⟩
    exact ⟨rfl, ⟨q.put 2 c, rfl, hW2.turn hqc hn rfl rfl rfl rfl (.inl rfl) hc'⟩, hc'⟩
  ·rintro w1 w2 r o ⟨q', h1, h2⟩ ho hp
   exact ⟨q', h1, h2.putR hp ho⟩
  ·rintro e w' ⟨rfl, hr, hc'⟩
   exact ⟨_, rfl, (ansE_ok 0).1, (ansE_ok 0).2, ⟨rfl, hr⟩, hc'⟩
 ·rintro A w1 w2 r o ⟨rfl, q', h1, h2⟩ ho hp
  exact ⟨rfl, q', h1, h2.putR hp ho⟩
 ·rintro e w' ⟨A, rfl, ⟨rfl, q', h1, h2⟩, hc⟩
  exact ⟨rfl, q', h1, h2, hch.trans hc (fun _ _ e => e) (fun j hj e => by have := hb c hqc j e; omega), hc.mono fun _ _ e => ⟨c, hqc, e⟩⟩

theorem k_read {w0 w : World} {q : PC} (h : IsPl w q K2) (hch : Chg w0 w No) (hu : UB w0) (hm : ML w0) :
  Calls Tryz.prog 9 #[.pointer (some ⟨q.p, 0, none⟩), .agg (opA 9 pA sZ 128 99 none 0 0 0 0)] w fun e w' => ∃ g, e = .returned (.agg (ansD 0 (some ⟨g, 0, none⟩) 5 5)) ∧ w'.heap[g]? = some (.cells (SA [0, 0, 120, 121, 122]) 5 (0, 0)) ∧ Chg w w' No := by
 obtain ⟨c, x, hqc, hsx, hN, _, _⟩ := h.at_ (i := 2) (by rw [K2_2]; intro e; cases e)
 rw [K2_2] at hsx
 cases hsx
 refine (do_read (q := q) pA sZ 128 99 none 0 0 0 0 2 w (fun A w' => ∃ g, A = ansD 0 (some ⟨g, 0, none⟩) 5 5 ∧ w'.heap[g]? = some (.cells (SA [0, 0, 120, 121, 122]) 5 (0, 0))) No (fun _ e => e.elim) (hu.keep hch (fun e => e)) (hm.keep hch (fun _ e => e.elim)) (by kernel_rfl) (by decide) (by decide) (by rw [split_A]) ?_ ?_ ?_).mono ?_
 ·intro W a ls hc hd hl
  obtain rfl := ls_A hd
  have hg := walk_any [nA] a ([nA] : List ByteArray).length W (h.call hc) okK2 hl (by decide) (fun _ => names_le)
  rw [walk_K2] at hg
  exact hg
 ·intro W hc
  have hW := h.call hc
  refine (doAt_read (c := c) (x := fileK) 2 pA sZ 128 99 none 0 0 0 0 W 5 (SA [0, 0, 120, 121, 122]) hW hqc K2_2 (by decide) ?_).mono ?_
  ·intro W2 hc2
   have hN2 := (hN.call hc).call hc2
   have hr := read_one (c := c) (x := fileK) 1 0 5 99 (laidL Zs 2 dX) W2 hN2 (by decide) (by decide) (by decide) (by kernel_rfl) rfl (by decide) (by decide) (by decide) (by decide)
   rw [read_K2] at hr
   exact hr
  ·rintro e w' ⟨g, rfl, h1, h2, _⟩
   exact ⟨_, rfl, (ansD_ok _ _ _ _).1, (ansD_ok _ _ _ _).2, ⟨g, rfl, h1⟩, h2⟩
 ·rintro A w1 w2 r o ⟨g, rfl, h1⟩ ho hp
  refine ⟨g, rfl, putR_keep hp h1 fun e => ?_⟩
  rw [e, ho] at h1
  cases h1
 ·rintro e w' ⟨A, rfl, ⟨g, rfl, h1⟩, hc⟩
  exact ⟨g, rfl, h1, hc⟩

theorem k_mkdir {w0 w : World} {q : PC} (h : IsPl w q K2) (hch : Chg w0 w No) (hu : UB w0) (hm : ML w0) :
  Calls Tryz.prog 9 #[.pointer (some ⟨q.p, 0, none⟩), .agg (opA 2 pAB sZ 0 0 none 0 0 0 0)] w fun e w' => e = .returned (.agg (ansE 113)) ∧ Chg w w' No := by
 refine (do_mkdir (q := q) pAB sZ 0 0 none 0 0 0 0 w (fun A _ => A = ansE 113) No (fun _ e => e.elim) (hu.keep hch (fun e => e)) (hm.keep hch (fun _ e => e.elim)) (by kernel_rfl) (by decide) (by decide) (by rw [split_AB]) ?_ ?_).mono ?_
 ·intro W a ls hc hd hl
  obtain rfl := ls_AB hd
  have hg := makeOne_bad [nA, nB] a 2 0 W (h.call hc) okK2 hl (by decide) (fun _ => names_le2) (by rw [lastE_K2]; decide)
  rw [lastE_K2] at hg
  refine hg.mono ?_
  rintro e w' ⟨rfl, hc'⟩
  exact ⟨_, rfl, (ansE_ok 113).1, (ansE_ok 113).2, rfl, hc'⟩
 ·rintro A w1 w2 r o rfl ho hp
  rfl
 ·rintro e w' ⟨A, rfl, rfl, hc⟩
  exact ⟨rfl, hc⟩

theorem k_room {w : World} {q : PC} (h : IsPl w q K2) :
  Calls Tryz.prog 13 #[.pointer (some ⟨q.p, 0, none⟩)] w fun e w' => e = .returned (.agg #[.int .i64 29, .int .i64 0, .int .i64 6]) ∧ Chg w w' No := by
 have hr := room_any w h num_K2
 rw [taken_K2, nodes_K2] at hr
 exact hr
end Go.Proofs.YtmgfilacepnjlaaGreatDoor
