/-
  SectorApart returns true, for every sector and two things that are put into it: what is handed in, and the walk.
-/
import Derived.Test.YtibneoajkbblaaaWApart
import Derived.Test.YtibneoajkbblaaaOpenB
namespace Go.Proofs.Ytibneoajkbblaaa
open Go.ChangeShapes Go.WideShapes Go.ChangeAt Go.RowKit Go.Joins

theorem apart_walk (s : List Int) (a b vv tn : Int) (ad : Option Addr) (cap : Nat) (zs : List Int) (w : World) (hs : IsSec s) (ha : I64 a) (hb : I64 b) (hv : I64 vv) (ht : I64 tn)
    (hl : zs.length ≤ cap) (hz : BytesAt w ad zs) (hby : ∀ x ∈ zs, 0 ≤ x ∧ x ≤ 255) :
    Calls Try.prog 8 #[.agg (SA s), .agg (twoC a b vv tn ad zs.length cap)] w fun e w' => e = .returned (.bool true) ∧ Below w.heap.size w w' := by
  have hW := spW_bd b
  have hP := spP_bd a b
  have hin : inB (spP a b) (spW b) = true := inB_true (by omega)
  have hfit := valN_fit vv hW.1 hW.2
  have hzl : (zs.take 128).length = min zs.length 128 := by rw [List.length_take, Nat.min_comm]
  have hM8 : min zs.length 128 ≤ 128 := Nat.min_le_right _ _
  have hpk := pickN_bd tn (show (1 : Int) ≤ 129 - ((min zs.length 128 : Nat) : Int) by omega)
  obtain ⟨T, hT⟩ := Int.eq_ofNat_of_zero_le hpk.1
  have hby' : ∀ x ∈ zs.take 128, 0 ≤ x ∧ x ≤ 255 := fun x hx => hby x (List.mem_of_mem_take hx)
  have hTM : T + (zs.take 128).length ≤ 128 := by rw [hzl]; omega
  obtain ⟨A, B, C, D, hA, hB, hC, hD, e1, e2, e3, e4, e5, e6, e7, e8, e9, e10, e11⟩ := apart_all hs hin hfit T (zs.take 128) hTM hby'
  have hz' := bytes_take hz 128
  have hst := fun w => set_any s (spP a b) (spW b) (valN vv (spW b)) w hs.1
  have hst2 := fun w => set_any C (spP a b) (spW b) (valN vv (spW b)) w hC.1
  have hgd := fun w => get_any D (spP a b) (spW b) w hD
  rw [e1, e2] at hst
  rw [e6, e2] at hst2
  rw [e10, e11] at hgd
  have hpa := fun (w1 : World) (h : Below w.heap.size w w1) => splice_any A (T : Int) (zs.take 128) ad cap w1 hA.1 (bytes_below hz' h)
  have hps := fun (w1 : World) (h : Below w.heap.size w w1) => splice_any s (T : Int) (zs.take 128) ad cap w1 hs.1 (bytes_below hz' h)
  have hpb := fun (w1 : World) (h : Below w.heap.size w w1) => splice_any B (T : Int) (zs.take 128) ad cap w1 hB.1 (bytes_below hz' h)
  rw [e3, e4, hzl] at hpa
  rw [e5, e4, hzl] at hps
  rw [e7, e4, hzl] at hpb
  have hpick := fun w => pick_any tn (129 - ((min zs.length 128 : Nat) : Int)) w ht (by omega) (by omega)
  rw [hT] at hpick
  exact apart_way s a b vv tn ad zs.length (min zs.length 128) cap T w (spP a b) (spW b) (valN vv (spW b)) (zs.take 128) A B C D hs hA hB hC hD hl rfl hM8 (by omega) hW hP hzl hz'
    (fun w => spot_any a b w ha hb) hpick (fun w => value_any vv (spW b) w hv hW.1 hW.2) hst hst2 hpa hps hpb hgd (fun h => e8 (by rw [hzl]; exact h)) (fun k hk => e9 k (by rw [hzl]; exact hk))

theorem array5 {cs : Array Value} (h : cs.size = 5) : ∃ c0 c1 c2 c3 c4, cs = #[c0, c1, c2, c3, c4] := by
  obtain ⟨l⟩ := cs
  match l, h with
  | [c0, c1, c2, c3, c4], _ => exact ⟨c0, c1, c2, c3, c4, rfl⟩

theorem open_two {H : Type} {enc : TypeId × Value → H} {W : World} {r : Reach} {b0 : Nat} {v : Value} {d : DataW H} {p : List MemPlace}
    (hv : Value.okWide Try.prog W r b0 53 v) (h : DataW.Trod enc Try.prog W 0 (fun _ => true) true 53 v d p) :
    ∃ (a b c e : Int) (zs : List Int) (ad : Option Addr) (cap : Nat), v = .agg (twoC a b c e ad zs.length cap) ∧ I64 a ∧ I64 b ∧ I64 c ∧ I64 e ∧ zs.length ≤ cap ∧ BytesAt W ad zs ∧ ∀ x ∈ zs, 0 ≤ x ∧ x ≤ 255 := by
  obtain ⟨cs, rfl, hsz⟩ := okWide_struct Try.underlying53 hv
  have hC : Try.prog.cellsOf 53 = 5 := by kernel_rfl
  obtain ⟨c0, c1, c2, c3, c4, rfl⟩ := array5 (hsz.trans hC)
  obtain ⟨fuel, hf⟩ := h
  obtain ⟨xs, n, _, _, _, hlen, hx⟩ := DataW.trod_struct Try.underlying53 hf
  match xs, hlen with
  | [y0, y1, y2, y3, y4], _ =>
    have k0 : Try.prog.cellsOf 3 = 1 := by kernel_rfl
    have k4 : Try.prog.cellsOf 27 = 1 := by kernel_rfl
    have q0 : DataW.trod enc Try.prog W 0 (fun _ => true) true n 3 (([c0, c1, c2, c3, c4].drop 0).take (Try.prog.cellsOf 3)) = some y0 := hx 0 _ rfl
    rw [k0] at q0
    have g0 : DataW.trod enc Try.prog W 0 (fun _ => true) true n 3 [c0] = some y0 := q0
    have q1 : DataW.trod enc Try.prog W 0 (fun _ => true) true n 3 (([c0, c1, c2, c3, c4].drop 1).take (Try.prog.cellsOf 3)) = some y1 := hx 1 _ rfl
    rw [k0] at q1
    have g1 : DataW.trod enc Try.prog W 0 (fun _ => true) true n 3 [c1] = some y1 := q1
    have q2 : DataW.trod enc Try.prog W 0 (fun _ => true) true n 3 (([c0, c1, c2, c3, c4].drop 2).take (Try.prog.cellsOf 3)) = some y2 := hx 2 _ rfl
    rw [k0] at q2
    have g2 : DataW.trod enc Try.prog W 0 (fun _ => true) true n 3 [c2] = some y2 := q2
    have q3 : DataW.trod enc Try.prog W 0 (fun _ => true) true n 3 (([c0, c1, c2, c3, c4].drop 3).take (Try.prog.cellsOf 3)) = some y3 := hx 3 _ rfl
    rw [k0] at q3
    have g3 : DataW.trod enc Try.prog W 0 (fun _ => true) true n 3 [c3] = some y3 := q3
    have q4 : DataW.trod enc Try.prog W 0 (fun _ => true) true n 27 (([c0, c1, c2, c3, c4].drop 4).take (Try.prog.cellsOf 27)) = some y4 := hx 4 _ rfl
    rw [k4] at q4
    have g4 : DataW.trod enc Try.prog W 0 (fun _ => true) true n 27 [c4] = some y4 := q4
    obtain ⟨a, ea, _, wa⟩ := DataW.trod_int Try.underlying3 g0
    obtain ⟨b, eb, _, wb⟩ := DataW.trod_int Try.underlying3 g1
    obtain ⟨c, ec, _, wc⟩ := DataW.trod_int Try.underlying3 g2
    obtain ⟨e, ee, _, we⟩ := DataW.trod_int Try.underlying3 g3
    simp at ea eb ec ee
    subst ea eb ec ee
    rcases open_ints Try.underlying27 Try.underlying5 (by kernel_rfl) g4 with ⟨hcs, _⟩ | ⟨x, l, cp, zs, hcs, _, hl, hm, hz, _, hcell, hwz⟩
    · simp at hcs
      subst hcs
      exact ⟨a, b, c, e, [], none, 0, rfl, bounds_i64 wa, bounds_i64 wb, bounds_i64 wc, bounds_i64 we, by simp, .inl rfl, by simp⟩
    · simp at hcs
      subst hcs
      have hz' : zs.length = cp := by simpa using hz
      have el : (zs.take l).length = l := by rw [List.length_take]; omega
      refine ⟨a, b, c, e, zs.take l, some x, cp, by rw [el]; rfl, bounds_i64 wa, bounds_i64 wb, bounds_i64 wc, bounds_i64 we, by omega, bytes_of_ints hl hz' hcell, ?_⟩
      intro y hy
      exact bounds_u8 (hwz y (List.mem_of_mem_take hy))

end Go.Proofs.Ytibneoajkbblaaa
