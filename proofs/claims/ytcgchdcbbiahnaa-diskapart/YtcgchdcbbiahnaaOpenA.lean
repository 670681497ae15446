/-
  What an image with writes ahead and behind looks like that is handed in.
-/
import Derived.Test.YtcgchdcbbiahnaaOpenW
namespace Go.Proofs.Ytcgchdcbbiahnaa
open Go.ChangeShapes Go.WideShapes Go.ChangeAt Go.RowKit Go.Joins

theorem okWide_agg {P : Program} {w : World} {r : Reach} {base : Nat} {t : TypeId} {fs : Array Field} {v : Value} (ht : P.underlying t = some (.struct fs)) (h : Value.okWide P w r base t v) : ∃ cs, v = .agg cs ∧ cs.size = P.cellsOf t := by
  simp only [Value.okWide, ht] at h
  obtain ⟨cs, h1, h2, _⟩ := h
  exact ⟨cs, h1, h2⟩

theorem open_apart {H : Type} {enc : TypeId × Value → H} {W : World} {r : Reach} {b0 : Nat} {v : Value} {d : DataW H} {p : List MemPlace}
    (hv : Value.okWide Try.prog W r b0 68 v) (h : DataW.Trod enc Try.prog W 0 (fun _ => true) true 68 v d p) (hw : ∀ n ∈ d.weights Try.prog 68, n ≤ reachBytes) :
    ∃ (im : List (List Int)) (a : Option Addr) (cap : Nat) (k : Int) (w1 : List (Int × List Int)) (b1 : Option Addr) (c1 : Nat) (w2 : List (Int × List Int)) (b2 : Option Addr) (c2 : Nat),
      v = .agg #[.slice a im.length cap, .int .i64 k, .slice b1 w1.length c1, .slice b2 w2.length c2] ∧ I64 k ∧ w1.length ≤ 140737488355328 ∧ w2.length ≤ 140737488355328 ∧ ImgAt W a im ∧ WrAt W b1 w1 ∧ (∀ x, x ∈ w1 → I64 x.1) ∧ WrAt W b2 w2 ∧ (∀ x, x ∈ w2 → I64 x.1) := by
  obtain ⟨cs, rfl, _⟩ := okWide_agg Try.underlying68 hv
  obtain ⟨fuel, hf⟩ := h
  obtain ⟨xs, m, _, hx1, hl, hlen, hx⟩ := DataW.trod_struct Try.underlying68 hf
  have hC : Try.prog.cellsOf 68 = 4 := by kernel_rfl
  rw [hC] at hl
  match xs, hlen with
  | [y0, y1, y2, y3], _ =>
    have k0 : Try.prog.cellsOf 3 = 1 := by kernel_rfl
    have k1 : Try.prog.cellsOf 35 = 1 := by kernel_rfl
    have k2 : Try.prog.cellsOf 58 = 1 := by kernel_rfl
    have q0 : DataW.trod enc Try.prog W 0 (fun _ => true) true m 35 ((cs.toList.drop 0).take (Try.prog.cellsOf 35)) = some y0 := hx 0 _ rfl
    have q1 : DataW.trod enc Try.prog W 0 (fun _ => true) true m 3 ((cs.toList.drop 1).take (Try.prog.cellsOf 3)) = some y1 := hx 1 _ rfl
    have q2 : DataW.trod enc Try.prog W 0 (fun _ => true) true m 58 ((cs.toList.drop 2).take (Try.prog.cellsOf 58)) = some y2 := hx 2 _ rfl
    have q3 : DataW.trod enc Try.prog W 0 (fun _ => true) true m 58 ((cs.toList.drop 3).take (Try.prog.cellsOf 58)) = some y3 := hx 3 _ rfl
    rw [k0] at q1
    rw [k1] at q0
    rw [k2] at q2 q3
    have hd : d = .agg [y0.1, y1.1, y2.1, y3.1] := congrArg Prod.fst hx1
    have hw2 : ∀ n ∈ y2.1.weights Try.prog 58, n ≤ reachBytes := by
      intro n hn
      apply hw
      rw [hd]
      simp only [DataW.weights, Try.underlying68]
      exact DataW.weights_mem_each (j := 2) (t := 58) (d := y2.1) rfl rfl _ hn
    have hw3 : ∀ n ∈ y3.1.weights Try.prog 58, n ≤ reachBytes := by
      intro n hn
      apply hw
      rw [hd]
      simp only [DataW.weights, Try.underlying68]
      exact DataW.weights_mem_each (j := 3) (t := 58) (d := y3.1) rfl rfl _ hn
    obtain ⟨a, cap, im, e0, hi⟩ := images_of_trod q0
    obtain ⟨k, e1, _, wk⟩ := DataW.trod_int Try.underlying3 q1
    obtain ⟨b1, c1, w1, e2, l1, hw1, h1⟩ := writes_of_trod q2 hw2
    obtain ⟨b2, c2, w2, e3, l2, hw2', h2⟩ := writes_of_trod q3 hw3
    refine ⟨im, a, cap, k, w1, b1, c1, w2, b2, c2, ?_, bounds_i64 wk, l1, l2, hi, hw1, h1, hw2', h2⟩
    have hl' : cs.toList.length = 4 := hl
    congr 1
    apply Array.toList_inj.1
    match hcs : cs.toList, hl' with
    | [x0, x1, x2, x3], _ =>
      rw [hcs] at e0 e1 e2 e3
      simp at e0 e1 e2 e3
      rw [e0, e1, e2, e3]

end Go.Proofs.Ytcgchdcbbiahnaa
