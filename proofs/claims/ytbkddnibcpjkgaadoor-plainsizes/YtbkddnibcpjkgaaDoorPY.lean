/-
  package plain: bytes are laid into one block of a file.
-/
import Derived.Test.YtbkddnibcpjkgaaDoorPF
namespace Go.Proofs.YtbkddnibcpjkgaaDoor
open Go.RowKit

/-- A block with bytes laid into it. -/
def laidL (l : List Int) (o : Nat) (ds : List Int) : List Int := l.take o ++ ds ++ l.drop (o + ds.length)
theorem laid_SA (l ds : List Int) (o : Nat) : (SA l).toList.take o ++ ds.map (Value.int .u8) ++ (SA l).toList.drop (o + (ds.map (Value.int .u8)).length) = (laidL l o ds).map (Value.int .u8) := by
  simp [SA, laidL, List.map_take, List.map_drop]
theorem laid_len {l ds : List Int} {o : Nat} (hl : l.length = 128) (h : o + ds.length ≤ 128) : (laidL l o ds).length = 128 := by
  simp [laidL]
  omega
theorem run_sec (W : World) (gs o : Nat) (h : o < 128) : (Instr.sliceAt 111 (.pointer (some ⟨gs, 0, none⟩)) (some (.int .i64 (o : Int))) none none).run Tryd.prog W = .ok (.slice (some ⟨gs, o, none⟩) (128 - o) (128 - o)) W := by
  have ht : Tryd.prog.underlying 111 = some (.array (Tryd.prog.arrayLen 111) (Tryd.prog.elem 111)) := by kernel_rfl
  have ha : Tryd.prog.arrayLen 111 = 128 := by kernel_rfl
  have hs : ∀ w, (sizeOf (Tryd.prog.elem 111)).run Tryd.prog w = .ok 1 w := fun w => by kernel_rfl
  rw [run_sliceAt_array_l W 111 ⟨gs, 0, none⟩ ht .i64 (o : Int) (by omega) (by rw [ha]; omega), hs]
  simp only [Result.andThen_ok, slicedAt, ha, Int.toNat_natCast, Nat.mul_one]
  rw [if_neg (by omega), addr_add, Nat.zero_add]
def wroteN (x : Nd) (b o : Nat) (l ds : List Int) : Nd := { x with blk := fun y => if y = (b : Int) then some (.agg (SA (laidL l o ds))) else x.blk y, size := max x.size (128 * (b : Int) + o + ds.length) }

set_option maxHeartbeats 4000000 in
set_option maxRecDepth 100000 in
theorem write_one {q : PC} {s : PSt} {c : NC} {x : Nd} (b o : Nat) (l ds : List Int) (gd od dc : Nat) (w : World) (h : IsPl w q s) (hx : IsN w c x) (hb : b < 1068) (hd : 1 ≤ ds.length) (ho : o + ds.length ≤ 128) (hl : l.length = 128) (hbl : (match x.blk (b : Int) with | some v => v | none => Value.agg (SA Zs)) = .agg (SA l)) (hr : roomB s x b (b + 1) = true)
    (hda : ∀ (W : World), Chg w W No → ∀ (j : Nat) v, (ds.map (Value.int .u8))[j]? = some v → W.cell? ((⟨gd, od, none⟩ : Addr).add j) = some v) (hdc : ds.length ≤ dc) :
    Calls Tryd.prog 37 #[.pointer (some ⟨q.p, 0, none⟩), .pointer (some ⟨c.p, 0, none⟩), .int .i64 (128 * (b : Int) + o), .slice (some ⟨gd, od, none⟩) ds.length dc] w fun e w' => e = .returned (.int .i64 0) ∧ IsN w' c (wroteN x b o l ds) ∧ Chg w w' (BlkN c) := by
  have hRm := hasRoom_any (q := q) (s := s) b b w h hx (by omega) hb
  rw [hr] at hRm
  have HX := hid hx
  have HDa := hid hda
  have HBl := hid hbl
  have HL := hid hl
  obtain ⟨n, hn⟩ : ∃ y, y = ds.length := ⟨_, rfl⟩
  rw [← hn] at hd ho hdc ⊢
  have HNn := hid hn
  obtain ⟨of, hof⟩ : ∃ y : Int, y = 128 * (b : Int) + o := ⟨_, rfl⟩
  rw [← hof]
  have f0 : ¬ of < 0 := by omega
  have f0' : 0 ≤ of := by omega
  have f1 : ¬ (131072 : Int) < (n : Int) := by omega
  have f2 : ¬ (136704 : Int) - (n : Int) < of := by omega
  have f3 : ¬ (n : Int) = 0 := by omega
  have f3b : ((n : Int) == 0) = false := beq_eq_false_iff_ne.2 f3
  have f4 : of ≤ 136704 := by omega
  have f5 : (n : Int) ≤ 128 := by omega
  have t1 : of.tdiv 128 = (b : Int) := by rw [Int.tdiv_eq_ediv_of_nonneg f0']; omega
  have t2 : (of + (n : Int) - 1).tdiv 128 = (b : Int) := by rw [Int.tdiv_eq_ediv_of_nonneg (by omega)]; omega
  have t3 : of.tmod 128 = (o : Int) := by rw [Int.tmod_eq_emod_of_nonneg f0']; omega
  have HOf := hid hof
  clear h hx hda hbl hl hr hn hof
  go_enter Tryd.func37, Tryd.ntmps37
  go_upto_region 8 with (first
    | (go_at_call 46; go_must (refine hRm.mono ?_; rintro e w2 ⟨rfl, hc2⟩; have HC2 := hid hc2; clear hc2))
    | fail)
  clear hRm
  go_wp2_with fail
  go_loopw [10] (fun x10 wr => ∃ j : Nat, x10 = .int .i64 (j : Int) ∧ (j = 0 ∨ j = n) ∧ Hid ((j = 0 → Chg w wr No) ∧ (j = n → IsN wr c { x with blk := fun y => if y = (b : Int) then some (.agg (SA (laidL l o ds))) else x.blk y } ∧ Chg w wr (BlkN c)))) (fun x10 _ => n - (intOf x10).toNat)
  case atStart => exact ⟨0, rfl, .inl rfl, hid ⟨fun _ => HC2.out, fun e => by omega⟩⟩
  case round =>
    obtain ⟨j, rfl, hj, HJ⟩ := hrel
    clear HC2
    rcases hj with rfl | rfl
    · have HC : Hid (Chg w wr No) := hid (HJ.out.1 rfl)
      clear HJ
      have q4 := (HX.out.call HC.out).c4
      have HM := hid (HX.out.call HC.out).bl
      have hI : I64 (b : Int) := ⟨by omega, by omega⟩
      have j1 : (0 : Int) < (n : Int) := by omega
      have wv0 : IntKind.i64.wrap of = of := by rw [IntKind.wrap_i64]; omega
      have wv1 : IntKind.i64.wrap (n : Int) = (n : Int) := by rw [IntKind.wrap_i64]; omega
      have hol : o < 128 := by omega
      go_upto_region 12 with (first
        | (at_lookup; go_must (refine wp_lookVB rfl _ _ rfl c.bb x.blk (b : Int) _ HBl.out rfl rfl HM.out hI ?_))
        | (refine store_R rfl 111 _ _ rfl wr.heap.size (SA l) rfl rfl 111 _ (heap_alloc_new _ _) (by rw [szSec, SA_size, HL.out]) (by rw [SA_size, HL.out]; rfl) (SA_one l) ?_; intro w3 hw3; have HG3 := hid hw3.here; have HC3 : Hid (Chg w w3 No) := hid ((HC.out.tr (Chg.alloc wr _ No)).trans (kt_new hw3) (fun _ _ e => e) (fun j hj e => by have := HC.out.size; omega)); have HGe : Hid (w.heap.size ≤ wr.heap.size) := hid HC.out.size; clear hw3)
        | fail)
      obtain ⟨gs, hgs⟩ : ∃ y, y = wr.heap.size := ⟨_, rfl⟩
      rw [← hgs] at HG3 HGe ⊢
      clear hgs HM HC q4
      simp only [Act.put]
      refine wp_region_noPanic ?_
      refine wp_region_held_drew (S := fun w' => Chg w w' No) (by kernel_rfl) HC3.out.drew (fun hHeld => ?_)
      have hG : w3.drew.heap[gs]? = some (.cells (SA l) 111 (0, 0)) := HG3.out
      refine takeVal 0 57 (.int .i64 0) rfl (by kernel_rfl) (by kernel_rfl) (by kernel_rfl) rfl (by rfl) (fun _ _ _ h => h) hHeld (fun W' hw' => rfl) ?_
      simp only [List.setIfInBounds_toArray, List.set_cons_zero, List.set_cons_succ]
      refine takeVal 1 58 (.int .i64 of) rfl (by kernel_rfl) (by kernel_rfl) (by kernel_rfl) rfl (by rfl) (fun _ _ _ h => h) hHeld (fun W' hw' => rfl) ?_
      simp only [List.setIfInBounds_toArray, List.set_cons_zero, List.set_cons_succ]
      refine takeVal 2 59 (.int .i64 0) rfl (by kernel_rfl) (by kernel_rfl) (by kernel_rfl) rfl (by rfl) (fun _ _ _ h => h) hHeld (fun W' hw' => rfl) ?_
      simp only [List.setIfInBounds_toArray, List.set_cons_zero, List.set_cons_succ]
      refine takeVal 3 60 (.int .i64 of) rfl (by kernel_rfl) (by kernel_rfl) (by kernel_rfl) rfl (by rfl) (fun _ _ _ h => h) hHeld (fun W' hw' => by go_simp <;> exact wv0) ?_
      simp only [List.setIfInBounds_toArray, List.set_cons_zero, List.set_cons_succ]
      refine takeVal 4 61 (.int .i64 (o : Int)) rfl (by kernel_rfl) (by kernel_rfl) (by kernel_rfl) rfl (by rfl) (fun _ _ _ h => h) hHeld (fun W' hw' => by go_simp) ?_
      simp only [List.setIfInBounds_toArray, List.set_cons_zero, List.set_cons_succ]
      refine takeVal 5 62 (.slice (some ⟨gs, o, none⟩) (128 - o) (128 - o)) rfl (by kernel_rfl) (by kernel_rfl) (by kernel_rfl) rfl (by rfl) (fun _ _ _ h => h) hHeld (fun W' hw' => by go_simp; rw [run_sec _ gs o hol]; rfl) ?_
      simp only [List.setIfInBounds_toArray, List.set_cons_zero, List.set_cons_succ]
      refine takeVal 6 63 (.slice (some ⟨gd, od, none⟩) n dc) rfl (by kernel_rfl) (by kernel_rfl) (by kernel_rfl) rfl (by rfl) (fun _ _ _ h => h) hHeld (fun W' hw' => rfl) ?_
      simp only [List.setIfInBounds_toArray, List.set_cons_zero, List.set_cons_succ]
      refine takeVal 7 64 (.int .i64 0) rfl (by kernel_rfl) (by kernel_rfl) (by kernel_rfl) rfl (by rfl) (fun _ _ _ h => h) hHeld (fun W' hw' => rfl) ?_
      simp only [List.setIfInBounds_toArray, List.set_cons_zero, List.set_cons_succ]
      refine takeVal 8 65 (.slice (some ⟨gd, od, none⟩) n dc) rfl (by kernel_rfl) (by kernel_rfl) (by kernel_rfl) rfl (by rfl) (fun _ _ _ h => h) hHeld (fun W' hw' => by go_simp) ?_
      simp only [List.setIfInBounds_toArray, List.set_cons_zero, List.set_cons_succ]
      refine step1 9 (by kernel_rfl) ?_
      refine stCopy 9 66 (.tmp 62) (.tmp 65) gs o (128 - o) (128 - o) ⟨gd, od, none⟩ n dc (SA l) 111 (ds.map (Value.int .u8)) rfl rfl (by rfl) rfl rfl rfl hG (by rw [List.length_map, ← HNn.out]; exact (Nat.min_eq_left (by omega)).symm) (HDa.out _ hHeld) (by rw [List.length_map, ← HNn.out, SA_size, HL.out]; exact ho) (by intro v hv; obtain ⟨y, _, rfl⟩ := List.mem_map.1 hv; rfl) ?_
      intro w4 hw4
      rw [laid_SA] at hw4
      have hH4 : Chg w w4 No := hHeld.trans (kt_new hw4) (fun _ _ e => e) (fun j hj e => by have := HGe.out; omega)
      refine ⟨hH4, ?_⟩
      rw [List.length_map, ← HNn.out]
      simp only [List.setIfInBounds_toArray, List.set_cons_zero, List.set_cons_succ, goInt]
      refine takeVal 10 67 (.int .i64 (n : Int)) rfl (by kernel_rfl) (by kernel_rfl) (by kernel_rfl) rfl (by rfl) (fun _ _ _ h => h) hH4 (fun W' hw' => by go_simp <;> exact wv1) ?_
      simp only [List.setIfInBounds_toArray, List.set_cons_zero, List.set_cons_succ]
      refine takeVal 11 10 (.int .i64 (n : Int)) rfl (by kernel_rfl) (by kernel_rfl) (by kernel_rfl) rfl (by rfl) (fun _ _ _ h => h) hH4 (fun W' hw' => rfl) ?_
      simp only [List.setIfInBounds_toArray, List.set_cons_zero, List.set_cons_succ]
      refine wpAnyH_done (by kernel_rfl) ?_ _
      refine NoPanic.normal ?_
      have HG4 : Hid (w4.heap[gs]? = some (.cells (SA (laidL l o ds)) 111 (0, 0))) := hid hw4.here
      have HC4 := hid hH4
      clear hHeld hH4 hw4 hG HG3 HC3
      go_upto_region 13 with fail
      have HQ4 : Hid (∀ W, Chg w W (· = c.bb) → W.cell? ⟨c.p, 4, none⟩ = some (.map (some c.bb))) := hid (fun W hW => (cell_of_row _ _ _ _ _ _ (hW.keep HX.out.me HX.out.pNe.1)).trans rfl)
      refine wp_region_noPanic ?_
      refine wp_region_held_drew (S := fun w' => Chg w w' (· = c.bb) ∧ w'.heap[gs]? = some (.cells (SA (laidL l o ds)) 111 (0, 0))) (by kernel_rfl) ⟨(HC4.out.mono fun _ _ e => e.elim).drew, HG4.out⟩ (fun hHeld => ?_)
      refine takeVal 0 68 (.pointer (some ⟨c.p, 0, none⟩)) rfl (by kernel_rfl) (by kernel_rfl) (by kernel_rfl) rfl (by rfl) (fun _ _ _ h => h) hHeld (fun W' hw' => rfl) ?_
      simp only [List.setIfInBounds_toArray, List.set_cons_zero, List.set_cons_succ]
      refine takeVal 1 69 (.pointer (some ⟨c.p, 0, none⟩)) rfl (by kernel_rfl) (by kernel_rfl) (by kernel_rfl) rfl (by rfl) (fun _ _ _ h => h) hHeld (fun W' hw' => by go_simp) ?_
      simp only [List.setIfInBounds_toArray, List.set_cons_zero, List.set_cons_succ]
      refine takeVal 2 70 (.pointer (some ⟨c.p, 4, none⟩)) rfl (by kernel_rfl) (by kernel_rfl) (by kernel_rfl) rfl (by rfl) (fun _ _ _ h => h) hHeld (fun W' hw' => by go_simp) ?_
      simp only [List.setIfInBounds_toArray, List.set_cons_zero, List.set_cons_succ]
      refine takeVal 3 71 (.map (some c.bb)) rfl (by kernel_rfl) (by kernel_rfl) (by kernel_rfl) rfl (by rfl) (fun _ _ _ h => h) hHeld (fun W' hw' => by have hc := HQ4.out W' hw'.1; go_simp) ?_
      simp only [List.setIfInBounds_toArray, List.set_cons_zero, List.set_cons_succ]
      refine takeVal 4 72 (.int .i64 (b : Int)) rfl (by kernel_rfl) (by kernel_rfl) (by kernel_rfl) rfl (by rfl) (fun _ _ _ h => h) hHeld (fun W' hw' => rfl) ?_
      simp only [List.setIfInBounds_toArray, List.set_cons_zero, List.set_cons_succ]
      refine takeR 5 73 111 (.tmp 12) gs 111 (SA (laidL l o ds)) _ rfl (by kernel_rfl) (by kernel_rfl) (by kernel_rfl) rfl rfl rfl Tryd.underlying111 rfl (by rw [szSec, SA_size, laid_len HL.out (by rw [← HNn.out]; exact ho)]) (by rfl) (fun _ _ _ h => h) hHeld (fun W' hw' => hw'.2) ?_
      simp only [List.setIfInBounds_toArray, List.set_cons_zero, List.set_cons_succ]
      have hX5 : IsN w4.drew c x := HX.out.call HC4.out.drew
      refine step1 6 (by kernel_rfl) ?_
      refine stPutB 6 (.tmp 71) (.tmp 72) (.tmp 73) c.bb x.blk (b : Int) (.agg (SA (laidL l o ds))) rfl rfl (by rfl) rfl rfl rfl rfl hX5.bl hI hX5.small ?_
      intro w6 hm6 hc6 hz6
      have hgb : gs ≠ c.bb := by have := HX.out.bl.lt; have := HGe.out; omega
      refine ⟨⟨hHeld.1.trans hc6 (fun _ _ e => e) (fun _ _ e => e), hc6.keep hHeld.2 hgb⟩, ?_⟩
      refine wpAnyH_done (by kernel_rfl) ?_ _
      refine NoPanic.normal ?_
      have HX6 := hid (hX5.block ⟨by omega, by omega⟩ hm6 hc6)
      have HC6 : Hid (Chg w w6 (BlkN c)) := hid ((hHeld.1.trans hc6 (fun _ _ e => e) (fun _ _ e => e)).mono fun _ _ e => .inr (.inl e))
      clear hHeld hX5 hm6 hc6 hz6 HC4 HG4 HQ4
      go_wp2_with fail
      exact ⟨⟨n, rfl, .inr rfl, hid ⟨fun e => by omega, fun _ => ⟨HX6.out, HC6.out⟩⟩⟩, by simp [intOf]; omega⟩
    · obtain ⟨hX6, hC6⟩ := HJ.out.2 rfl
      have c3 := hX6.c3
      have HX6 := hid hX6
      have HC6 := hid hC6
      have fz : wr.frozen? ⟨c.p, 3, none⟩ = false := frozen_of_row _ _ _ _ _ hX6.me
      have c3 : wr.cell? ⟨c.p, 3, none⟩ = some (.int .i64 x.size) := c3
      have f7 : of + (j : Int) ≤ 200000 := by omega
      clear HJ hX6 hC6
      go_wp2_with fail
      go_ret
      obtain ⟨k1, k2⟩ := HX6.out.sized (max x.size (of + (j : Int)))
      refine ⟨rfl, ?_, HC6.out.trans k2 (fun _ _ e => e) (fun _ _ e => .inl e)⟩
      unfold wroteN
      rw [← HNn.out, ← HOf.out]
      exact k1
end Go.Proofs.YtbkddnibcpjkgaaDoor
