/-
  package plain: the states of the statements' example.
-/
import Derived.Test.YtbkddnibcpjkgaaDoorQS
namespace Go.Proofs.YtbkddnibcpjkgaaDoor
open Go.RowKit

def nA : ByteArray := ⟨#[97]⟩
def nB : ByteArray := ⟨#[98]⟩
def pA : ByteArray := ⟨#[47, 97]⟩
def pAB : ByteArray := ⟨#[47, 97, 47, 98]⟩
theorem split_A : splitR pA.data.toList = ([[97]], 0) := by kernel_rfl
theorem split_AB : splitR pAB.data.toList = ([[97], [98]], 0) := by kernel_rfl
theorem ls_A {ls : List ByteArray} (h : datas ls = (splitR pA.data.toList).1) : ls = [nA] := datas_inj (h.trans (by rw [split_A]; rfl))
theorem ls_AB {ls : List ByteArray} (h : datas ls = (splitR pAB.data.toList).1) : ls = [nA, nB] := datas_inj (h.trans (by rw [split_AB]; rfl))
def dX : List Int := [120, 121, 122]
def K0 : PSt := newS 40 8
def rootK : Nd := entN (newNd 2 0) 0 nA 2
def fileK : Nd := wroteN (newNd 1 5) 1 2 Zs dX
def K1 : PSt := makeS K0 1 (newNd 2 0) 0 nA 2 1 5
def K2 : PSt := K1.put 2 fileK
theorem K0_1 : K0.nd 1 = some (newNd 2 0) := rfl
theorem K0_o {j : Int} (h : j ≠ 1) : K0.nd j = none := if_neg h
theorem K1_1 : K1.nd 1 = some rootK := PSt.put_at _ _ _
theorem K1_2 : K1.nd 2 = some (newNd 1 5) := (PSt.put_ne _ _ (by decide)).trans (PSt.put_at _ _ _)
theorem K1_o {j : Int} (h : j ≠ 1) (h2 : j ≠ 2) : K1.nd j = none := (PSt.put_ne _ _ h).trans ((PSt.put_ne _ _ h2).trans (K0_o h))
theorem K2_1 : K2.nd 1 = some rootK := (PSt.put_ne _ _ (by decide)).trans K1_1
theorem K2_2 : K2.nd 2 = some fileK := PSt.put_at _ _ _
theorem K2_o {j : Int} (h : j ≠ 1) (h2 : j ≠ 2) : K2.nd j = none := (PSt.put_ne _ _ h2).trans (K1_o h h2)
theorem rootK_nm {n : ByteArray} {k : Int} (h : rootK.nm n = some k) : n = nA ∧ k = 0 := by
  have h : (if n = nA then some ((0 : Nat) : Int) else none) = some k := h
  by_cases e : n = nA
  · rw [if_pos e] at h
    cases h
    exact ⟨e, rfl⟩
  · rw [if_neg e] at h
    cases h
theorem rootK_sl : rootK.sl = [2] := rfl
theorem okK0 : OkS K0 := ⟨(by rw [K0_1]; intro e; cases e), fun i x n k hx hn => by
  by_cases e : i = 1
  · subst e
    rw [K0_1] at hx
    cases hx
    cases hn
  · rw [K0_o e] at hx
    cases hx⟩
theorem okK1 : OkS K1 := ⟨(by rw [K1_1]; intro e; cases e), fun i x n k hx hn => by
  by_cases e : i = 1
  · subst e
    rw [K1_1] at hx
    cases hx
    obtain ⟨_, rfl⟩ := rootK_nm hn
    refine ⟨by decide, by rw [rootK_sl]; decide, ?_⟩
    show K1.nd 2 ≠ none
    rw [K1_2]
    intro e
    cases e
  · by_cases e2 : i = 2
    · subst e2
      rw [K1_2] at hx
      cases hx
      cases hn
    · rw [K1_o e e2] at hx
      cases hx⟩
theorem okK2 : OkS K2 := ⟨(by rw [K2_1]; intro e; cases e), fun i x n k hx hn => by
  by_cases e : i = 1
  · subst e
    rw [K2_1] at hx
    cases hx
    obtain ⟨_, rfl⟩ := rootK_nm hn
    refine ⟨by decide, by rw [rootK_sl]; decide, ?_⟩
    show K2.nd 2 ≠ none
    rw [K2_2]
    intro e
    cases e
  · by_cases e2 : i = 2
    · subst e2
      rw [K2_2] at hx
      cases hx
      cases hn
    · rw [K2_o e e2] at hx
      cases hx⟩
theorem walk_K1 : walkL K1 [nA] 1 = (2, 0) := by rw [walkL_step K1_1]; rfl
theorem walk_K2 : walkL K2 [nA] 1 = (2, 0) := by rw [walkL_step K2_1]; rfl
theorem lastD_K0 : lastD K0 [nA] = 1 := rfl
theorem lastE_K0 : lastE K0 [nA] = 0 := by
  unfold lastE
  rw [if_neg (by intro e; cases e), lastD_K0, K0_1]
  rfl
theorem lastE_K2 : lastE K2 [nA, nB] = 113 := by
  have h : (walkL K2 ([nA, nB] : List ByteArray).dropLast 1) = (2, 0) := walk_K2
  have hd : lastD K2 [nA, nB] = 2 := by unfold lastD; rw [h]
  unfold lastE
  rw [if_neg (by intro e; cases e), hd, h, K2_2]
  rfl
theorem blk_new (a b : Int) (k : Nat) : (newNd a b).blk (k : Int) = none := rfl
theorem blk_rootK (k : Nat) : rootK.blk (k : Int) = none := rfl
theorem taken_K0 : takenN K0 = 0 := by
  rw [taken_one (i := 1) (x := newNd 2 0) (by decide) K0_1 (fun j _ hj => K0_o (by omega))]
  exact cardN_none (blk_new 2 0) rfl
theorem taken_K1 : takenN K1 = 1 := by
  rw [taken_two (i := 1) (k := 2) (x := rootK) (y := newNd 1 5) (by decide) (by decide) (by decide) K1_1 K1_2 (fun j _ h1 h2 => K1_o (by omega) (by omega)), card_dir blk_rootK rfl, cardN_none (blk_new 1 5) rfl]
theorem blk_fileK (k : Nat) : fileK.blk (k : Int) ≠ none ↔ k = 1 := by
  have h : fileK.blk (k : Int) = if (k : Int) = ((1 : Nat) : Int) then some (.agg (SA (laidL Zs 2 dX))) else none := rfl
  rw [h]
  by_cases e : k = 1
  · rw [if_pos (by omega)]
    exact ⟨fun _ => e, fun _ e => by cases e⟩
  · rw [if_neg (by omega)]
    exact ⟨fun h => absurd rfl h, fun h => absurd h e⟩
theorem taken_K2 : takenN K2 = 2 := by
  rw [taken_two (i := 1) (k := 2) (x := rootK) (y := fileK) (by decide) (by decide) (by decide) K2_1 K2_2 (fun j _ h1 h2 => K2_o (by omega) (by omega)), card_dir blk_rootK rfl, card_file (b := 1) (by decide) blk_fileK rfl]
theorem nodes_K0 : nodesN K0 = 1 := by kernel_rfl
theorem nodes_K2 : nodesN K2 = 2 := by kernel_rfl
theorem room_K0 : roomB K0 (newNd 2 0) 0 1 = true := by
  unfold roomB
  rw [taken_K0, cardN_none (blk_new 2 0) rfl, cardQ_first (b := 0) (by decide) (blk_new 2 0) rfl]
  rfl
theorem place_K0 : placeL K0 (newNd 2 0) = (((0 : Nat) : Int), 0) := by
  unfold placeL
  have h : least0 (newNd 2 0).sl = 0 := rfl
  rw [h, if_neg (by decide), if_pos room_K0]
theorem free_K0 : freeI K0 = 2 := by kernel_rfl
theorem room_K1 : roomB K1 (newNd 1 5) 1 2 = true := by
  unfold roomB
  rw [taken_K1, cardN_none (blk_new 1 5) rfl, cardQ_first (b := 1) (by decide) (blk_new 1 5) rfl]
  rfl
theorem ans_K0 : ansS 2 (newNd 1 5) = #[.int .i64 0, .int .i64 2, .int .i64 1, .int .i64 1, .int .i64 0, .int .i64 5, .int .i64 0, .slice none 0 0, .slice none 0 0, .bool false] := by
  unfold ansS
  rw [cardN_none (blk_new 1 5) rfl]
  rfl
theorem num_K2 : NumP K2 := ⟨by decide, by decide, by decide, by decide⟩
theorem read_K2 : ((laidL Zs 2 dX).drop 0).take 5 = [0, 0, 120, 121, 122] := by kernel_rfl
end Go.Proofs.YtbkddnibcpjkgaaDoor
