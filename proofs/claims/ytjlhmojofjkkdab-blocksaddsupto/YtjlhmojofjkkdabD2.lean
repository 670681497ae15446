/-
  known: the document's example is as it must be.
-/
import Derived.Test.YtjlhmojofjkkdabD1
import Derived.Laws.OwnMore
namespace Go.Proofs.Ytjlhmojofjkkdab
open Go.RowKit Go.Shelf

theorem ex_ans {l : List Spt} {c : Int} (h : SpotsAns (spotsOf (rowsL exS exZ)) l c) : c = 0 ∧ l = [⟨0, 20, 0⟩, ⟨11, 21, 0⟩, ⟨13, 22, 0⟩, ⟨44, 23, 0⟩, ⟨75, 24, 0⟩] := by
  rw [ex_spots] at h
  by_cases e : c = 0
  · exact ⟨e, (h.good e).1⟩
  · obtain ⟨_, k, x, hk, _, hx⟩ := h.bad e
    exfalso
    apply e
    rw [← hx]
    match k, hk with
    | 0, hk => cases hk; rfl
    | 1, hk => cases hk; rfl
    | 2, hk => cases hk; rfl
    | 3, hk => cases hk; rfl
    | 4, hk => cases hk; rfl
    | k + 5, hk => simp at hk
theorem row_form {w : World} {B e k n : Nat} {v : Value} {xs : List Value} (h : w.ownsRow B e k v n xs) (hn : 0 < n) : ∃ g cap, v = .slice (some ⟨g, 0, none⟩) n cap ∧ B ≤ g ∧ g < w.heap.size ∧ n ≤ cap ∧ ∀ j u, xs[j]? = some u → w.cell? ⟨g, j, none⟩ = some u := by
  rcases h.2 with ⟨rfl, h0⟩ | ⟨g, cap, cur, rfl, hb, hg, hc, _⟩
  · omega
  · refine ⟨g, cap, rfl, hb, slt hg, hc, fun j u hj => ?_⟩
    have := h.cells (g := g) rfl j u hj
    rwa [addr_add, Nat.zero_add] at this

theorem build_mem (x y z : Value) (w : World) : (Instr.build 35 #[(0, .agg #[x, y, z])]).run Try.prog w = .ok (.agg #[x, y, z]) w := by kernel_rfl
def ZR : Array Value := #[.slice none 0 0, .int .i64 0, .int .i64 0]

set_option maxRecDepth 100000 in
set_option maxHeartbeats 1000000 in
theorem known_any (w : World) : Calls Try.prog 6 #[] w fun e w' => e = .returned (.bool true) ∧ Below w.heap.size w w' := by
  have hz1 : ∀ w, (zeroValue 24).run Try.prog w = .ok (.agg (NA Z18)) w := fun w => by kernel_rfl
  have hz2 : ∀ w, (zeroValue 32).run Try.prog w = .ok (.agg ZR) w := fun w => by kernel_rfl
  have hE := example_any w
  go_enter Try.func6, Try.ntmps6
  go_upto_region 2 with (first
    | (go_at_call 12; go_must (refine hE.mono ?_; rintro e w2 ⟨g, rfl, hi, hb2⟩; have HI2 := hid hi; have HB2 := hid hb2; clear hi hb2; obtain ⟨SV, hSV⟩ : ∃ y, y = srcV (some ⟨g, 0, none⟩) 64 exS := ⟨_, rfl⟩; rw [← hSV]; have HSV := hid hSV; have hS3 : SV.size = 3 := (by rw [hSV]; rfl); have hS1 : SV.all (·.oneCell') = true := (by rw [hSV]; simp [srcV, Value.oneCell']); clear hSV))
    | (refine store_R rfl 24 (.tmp 1) (.tmp 19) rfl w2.heap.size (NA exZ) rfl rfl 24 (NA Z18) (heap_alloc2_old w2 _ _) (by rw [szI]; rfl) rfl (NA_one _) ?_; go_must (intro w3 p3; have H3 := hid p3.here; have H3b : Hid (w3.heap[w2.heap.size + 1]? = some (.cells ZR 32 (0, 0))) := hid (by rw [p3.other _ (by omega)]; exact heap_alloc2_new w2 _ _); have K3 : Hid (Below w2.heap.size w2 w3) := hid (p3.below (((Below.refl _ _).alloc (Nat.le_refl _) _).alloc (by simp) _) (Nat.le_refl _)); clear p3))
    | (refine store_R rfl 32 (.tmp 2) (.tmp 20) rfl (w2.heap.size + 1) SV rfl rfl 32 ZR H3b.out (by rw [szSrc, hS3]) (by rw [hS3]; rfl) hS1 ?_; go_must (intro w4 p4; have H4 := hid p4.here; have H4a : Hid (w4.heap[w2.heap.size]? = some (.cells (NA exZ) 24 (0, 0))) := hid (by rw [p4.other _ (by omega)]; exact H3.out); have K4 : Hid (Below w2.heap.size w2 w4) := hid (p4.below K3.out (by omega)); clear p4)))
  clear hz1 hz2
  have hbm : ∀ w, (Instr.build 35 #[(0, .agg SV)]).run Try.prog w = .ok (.agg SV) w := fun w => by rw [HSV.out]; exact build_mem _ _ _ w
  obtain ⟨V, hV⟩ : ∃ y, y = w4.alloc (.cells SV 35) := ⟨_, rfl⟩
  have KV : Below w4.heap.size w4 V := by rw [hV]; exact (Below.refl _ _).alloc (Nat.le_refl _) _
  have V0 : Hid (V.heap[w2.heap.size]? = some (.cells (NA exZ) 24 (0, 0))) := by rw [KV.block _ (slt H4a.out)]; exact H4a
  have KV2 : Hid (Below w2.heap.size w2 V) := hid (K4.out.trans (KV.mono K4.out.size))
  have VR : Hid (Rd V w4.heap.size exS) := hid ⟨some ⟨g, 0, none⟩, 64, by rw [hV, ← HSV.out]; exact heap_alloc_new _ _, HI2.out.below KV2.out⟩
  have VB : Hid (Below w.heap.size w V) := hid (btr HB2.out KV2.out HB2.out.size)
  go_upto_region 3 with (first
    | (refine load_R rfl 32 (.tmp 2) rfl (w2.heap.size + 1) rfl 32 SV _ H4.out Try.underlying32 rfl (by rw [szSrc, hS3]) ?_))
  have hfold : Array.foldl (fun (cs : Array Value) (x : Value × Nat) => cs.setIfInBounds x.snd x.fst) #[Value.slice none 0 0, Value.int .i64 0, Value.int .i64 0] SV.zipIdx 0 3 = SV := by rw [HSV.out]; rfl
  rw [hfold, ← hV]
  clear hV KV hfold
  obtain ⟨pm, hpm⟩ : ∃ y, y = w4.heap.size := ⟨_, rfl⟩
  obtain ⟨bX, hbX⟩ : ∃ y, y = w2.heap.size := ⟨_, rfl⟩
  rw [← hpm] at VR
  rw [← hbX] at V0
  rw [← hpm, ← hbX]
  clear hpm hbX hbm hS3 hS1 H3 H3b H4 H4a K3 K4 KV2 HI2 hE
  have hLd : ∀ (X : World), Below V.heap.size V X → X.heap[bX]? = some (.cells (NA exZ) 24 (0, 0)) := fun X hX => by rw [hX.block _ (slt V0.out)]; exact V0.out
  have HLd := hid hLd
  clear hLd
  go_upto_region 4 with (first
    | (refine load_R rfl 24 (.tmp 1) rfl bX rfl 24 (NA exZ) _ (HLd.out _ (Below.refl _ _)) Try.underlying24 rfl (by rw [szI]; rfl) ?_)
    | (go_at_call 11; go_must (refine (Find_any pm exS exZ 75 V rfl VR.out).mono ?_; rw [ex_find]; rintro e x1 ⟨rfl, hb1⟩; have X1 := hid hb1; clear hb1)))
  go_upto_region 5 with (first
    | (refine load_R rfl 24 (.tmp 1) rfl bX rfl 24 (NA exZ) _ (HLd.out _ X1.out) Try.underlying24 rfl (by rw [szI]; rfl) ?_)
    | (go_at_call 8; go_must (refine (Spots_any pm exS exZ x1 rfl (VR.out.below X1.out)).mono ?_; rintro e x2 ⟨v2, l2, c2, rfl, ha2, ho2, hb2⟩; obtain ⟨rfl, rfl⟩ := ex_ans ha2; obtain ⟨g2, k2, rfl, _, hg2, _, hc2⟩ := row_form ho2 (by decide); have X2 : Hid (Below V.heap.size V x2) := hid (btr X1.out hb2 X1.out.size); have d0 := hc2 8 _ rfl; have d1 := hc2 9 _ rfl; clear hb2 ho2 ha2 hc2)))
  go_upto_region 6 with (first
    | (refine load_R rfl 24 (.tmp 1) rfl bX rfl 24 (NA exZ) _ (HLd.out _ X2.out) Try.underlying24 rfl (by rw [szI]; rfl) ?_)
    | (go_at_call 9; go_must (refine (Tables_any pm exS exZ x2 rfl (VR.out.below X2.out)).mono ?_; rw [ex_tables]; rintro e x3 ⟨v3, rfl, ho3, hb3⟩; obtain ⟨g3, k3, rfl, _, hg3, _, hc3⟩ := row_form ho3 (by decide); have X3 : Hid (Below V.heap.size V x3) := hid (btr X2.out hb3 X2.out.size); have d2 := hc3 0 _ rfl; have d3 := hc3 3 _ rfl; rw [← hb3.cell (p := ⟨g2, 8, none⟩) hg2] at d0; rw [← hb3.cell (p := ⟨g2, 9, none⟩) hg2] at d1; have hg2' := Nat.lt_of_lt_of_le hg2 hb3.size; clear hb3 ho3 hc3)))
  clear hg2
  obtain ⟨Y, hY⟩ : ∃ y, y = x3.alloc (.cells #[.int .i64 76, .int .i64 107, .int .i64 108] 3) := ⟨_, rfl⟩
  have KY : Below x3.heap.size x3 Y := by rw [hY]; exact (Below.refl _ _).alloc (Nat.le_refl _) _
  have YB : Hid (Below V.heap.size V Y) := hid (btr X3.out KY X3.out.size)
  have YL : Hid (LI Y (some ⟨x3.heap.size, 0, none⟩) [76, 107, 108]) := hid (fun j k hj => ⟨_, _, rfl, by
    rw [hY, Nat.zero_add, cell_of_row _ _ _ _ _ _ (heap_alloc_new _ _)]
    match j, hj with
    | 0, hj => cases hj; rfl
    | 1, hj => cases hj; rfl
    | 2, hj => cases hj; rfl
    | j + 3, hj => simp at hj⟩)
  rw [← KY.cell (p := ⟨g2, 8, none⟩) hg2'] at d0
  rw [← KY.cell (p := ⟨g2, 9, none⟩) hg2'] at d1
  rw [← KY.cell (p := ⟨g3, 0, none⟩) hg3] at d2
  rw [← KY.cell (p := ⟨g3, 3, none⟩) hg3] at d3
  have g2Y := Nat.lt_of_lt_of_le hg2' KY.size
  have g3Y := Nat.lt_of_lt_of_le hg3 KY.size
  have HY := hid hY
  clear hY
  go_upto_region 7 with (first
    | (refine load_R rfl 24 (.tmp 1) rfl bX rfl 24 (NA exZ) _ (HLd.out _ X3.out) Try.underlying24 rfl (by rw [szI]; rfl) ?_)
    | (go_at_call 10; go_must (rw [← HY.out]; refine (Need_any pm exS exZ (some ⟨x3.heap.size, 0, none⟩) 3 [76, 107, 108] Y rfl (VR.out.below YB.out) YL.out (by decide)).mono ?_; rw [ex_need]; rintro e x4 ⟨rfl, hb4⟩; have X4 : Hid (Below V.heap.size V x4) := hid (btr YB.out hb4 YB.out.size); rw [← hb4.cell (p := ⟨g2, 8, none⟩) g2Y] at d0; rw [← hb4.cell (p := ⟨g2, 9, none⟩) g2Y] at d1; rw [← hb4.cell (p := ⟨g3, 0, none⟩) g3Y] at d2; rw [← hb4.cell (p := ⟨g3, 3, none⟩) g3Y] at d3; clear hb4)))
  go_upto_region 8 with (first
    | (go_at_call 13; go_must (refine (way_any 1067 x4).mono ?_; rw [ex_way]; rintro e x5 ⟨rfl, hx5⟩; have hx6 := hx5.symm; clear hx5; subst hx6; unfold wayV)))
  go_upto_region 9 with fail
  go_wp2_with fail
  go_ret
  exact ⟨rfl, btr VB.out X4.out VB.out.size⟩

end Go.Proofs.Ytjlhmojofjkkdab
