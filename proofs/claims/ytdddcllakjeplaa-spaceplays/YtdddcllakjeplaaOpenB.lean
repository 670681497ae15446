/-
  What is handed in looks like: what New is handed.
-/
import Derived.Test.YtdddcllakjeplaaOpens
namespace Go.Proofs.Ytdddcllakjeplaa
open Go.ChangeShapes Go.WideShapes Go.ChangeAt Go.RowKit Go.Joins

set_option maxRecDepth 100000
theorem ints_of_trod43 {H : Type} {enc : TypeId × Value → H} {W : World} {fuel : Nat} {cs : List Value} {x : DataW H × List MemPlace} (h : DataW.trod enc Try.prog W 0 (fun _ => true) true fuel 24 cs = some x) (hw : ∀ n ∈ x.1.weights Try.prog 24, n ≤ reachBytes) :
    ∃ (ad : Option Addr) (cap : Nat) (zs : List Int), cs = [.slice ad zs.length cap] ∧ zs.length ≤ 17592186043904 ∧ IntsAt W ad zs ∧ ∀ x ∈ zs, I64 x := by
  rcases open_ints Try.underlying24 Try.underlying3 (by kernel_rfl) h with ⟨hcs, _⟩ | ⟨a, l, c, zs, hcs, _, hl, hm, hz, hy, hcell, hwz⟩
  · exact ⟨none, 0, [], hcs, by decide, .inl rfl, by simp⟩
  · have hz' : zs.length = c := by simpa using hz
    have e : (zs.take l).length = l := by rw [List.length_take]; omega
    have hwt : zs.length * 8 ≤ reachBytes := by
      have hb : Try.prog.bytesOf 3 = 8 := by kernel_rfl
      have h2 : x.1 = .slice (lits .i64 (zs.take l)) (lits .i64 (zs.drop l)) := congrArg Prod.fst hy
      have h3 : ((lits (H := H) .i64 (zs.take l)).length + (lits (H := H) .i64 (zs.drop l)).length) * Try.prog.bytesOf 3 ∈ x.1.weights Try.prog 24 := by
        rw [h2]
        simp [DataW.weights, Try.underlying24]
      have h4 := hw _ h3
      rw [hb] at h4
      simp [lits] at h4
      omega
    refine ⟨some a, c, zs.take l, by rw [e]; exact hcs, ?_, ints_of hl hz' hcell, ?_⟩
    · rw [e]
      unfold reachBytes at hwt
      omega
    · intro y hy
      exact wfI (hwz y (List.mem_of_mem_take hy))
theorem open_begin {H : Type} {enc : TypeId × Value → H} {W : World} {r : Go.Reach} {b0 : Nat} {v : Value} {d : DataW H} {p : List MemPlace}
    (hv : Value.okWide Try.prog W r b0 26 v) (h : DataW.Trod enc Try.prog W 0 (fun _ => true) true 26 v d p) (hw : ∀ n ∈ d.weights Try.prog 26, n ≤ reachBytes) :
    ∃ (n k : Int) (xs ys : List Int) (a b : Option Addr) (c c' : Nat),
      v = .agg #[.int .i64 n, .int .i64 k, .slice a xs.length c, .slice b ys.length c'] ∧ I64 n ∧ I64 k ∧ xs.length ≤ 17592186043904 ∧ ys.length ≤ 17592186043904 ∧ IntsAt W a xs ∧ (∀ x, x ∈ xs → I64 x) ∧ IntsAt W b ys ∧ (∀ x, x ∈ ys → I64 x) := by
  obtain ⟨cs, rfl, _⟩ := okWide_agg Try.underlying26 hv
  obtain ⟨fuel, hf⟩ := h
  obtain ⟨xs, m, _, hx1, hl, hlen, hx⟩ := DataW.trod_struct Try.underlying26 hf
  have hC : Try.prog.cellsOf 26 = 4 := by kernel_rfl
  rw [hC] at hl
  match xs, hlen with
  | [y0, y1, y2], _ =>
    have k0 : Try.prog.cellsOf 3 = 1 := by kernel_rfl
    have k1 : Try.prog.cellsOf 24 = 1 := by kernel_rfl
    have k2 : Try.prog.cellsOf 23 = 2 := by kernel_rfl
    have q0 : DataW.trod enc Try.prog W 0 (fun _ => true) true m 23 ((cs.toList.drop 0).take (Try.prog.cellsOf 23)) = some y0 := hx 0 _ rfl
    have q1 : DataW.trod enc Try.prog W 0 (fun _ => true) true m 24 ((cs.toList.drop 2).take (Try.prog.cellsOf 24)) = some y1 := hx 1 _ rfl
    have q2 : DataW.trod enc Try.prog W 0 (fun _ => true) true m 24 ((cs.toList.drop 3).take (Try.prog.cellsOf 24)) = some y2 := hx 2 _ rfl
    rw [k2] at q0
    rw [k1] at q1 q2
    have hd : d = .agg [y0.1, y1.1, y2.1] := congrArg Prod.fst hx1
    have hw1 : ∀ n ∈ y1.1.weights Try.prog 24, n ≤ reachBytes := by
      intro n hn
      apply hw
      rw [hd]
      simp only [DataW.weights, Try.underlying26]
      exact DataW.weights_mem_each (j := 1) (t := 24) (d := y1.1) rfl rfl _ hn
    have hw2 : ∀ n ∈ y2.1.weights Try.prog 24, n ≤ reachBytes := by
      intro n hn
      apply hw
      rw [hd]
      simp only [DataW.weights, Try.underlying26]
      exact DataW.weights_mem_each (j := 2) (t := 24) (d := y2.1) rfl rfl _ hn
    obtain ⟨us, m2, _, hu1, hul, hulen, hu⟩ := DataW.trod_struct Try.underlying23 q0
    match us, hulen with
    | [z0, z1], _ =>
      have r0 : DataW.trod enc Try.prog W 0 (fun _ => true) true m2 3 ((((cs.toList.drop 0).take 2).drop 0).take (Try.prog.cellsOf 3)) = some z0 := hu 0 _ rfl
      have r1 : DataW.trod enc Try.prog W 0 (fun _ => true) true m2 3 ((((cs.toList.drop 0).take 2).drop 1).take (Try.prog.cellsOf 3)) = some z1 := hu 1 _ rfl
      rw [k0] at r0 r1
      obtain ⟨n, e0, _, wn⟩ := DataW.trod_int Try.underlying3 r0
      obtain ⟨k, e1, _, wk⟩ := DataW.trod_int Try.underlying3 r1
      obtain ⟨a, c, us, e2, l1, i1, f1⟩ := ints_of_trod43 q1 hw1
      obtain ⟨b, c', vs, e3, l2, i2, f2⟩ := ints_of_trod43 q2 hw2
      refine ⟨n, k, us, vs, a, b, c, c', ?_, wfI wn, wfI wk, l1, l2, i1, f1, i2, f2⟩
      have hl' : cs.toList.length = 4 := hl
      congr 1
      apply Array.toList_inj.1
      match hcs : cs.toList, hl' with
      | [x0, x1, x2, x3], _ =>
        rw [hcs] at e0 e1 e2 e3
        simp at e0 e1 e2 e3
        rw [e0, e1, e2, e3]

end Go.Proofs.Ytdddcllakjeplaa
