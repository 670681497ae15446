/-
  BlocksFinds: Find of any index, in any file, by any reader.
-/
import Derived.Test.YtjlhmojofjkkdaaF0
import Derived.Test.YtjlhmojofjkkdaaE1
namespace Go.Proofs.Ytjlhmojofjkkdaa
open Go.RowKit Go.Shelf

set_option maxRecDepth 100000 in
set_option maxHeartbeats 1000000 in
theorem finds_walk (z : List Int) (a : Option Addr) (c : Nat) (s : Src) (ak : Option Addr) (ck : Nat) (ks : List Int) (w : World) (hz : z.length = 18) (hi : ImgAt w a s.im) (hks : LI w ak ks) (hn : ks.length ≤ 9223372036854775807) :
    Calls Try.prog 4 #[.agg (fileV z a c s), .slice ak ks.length ck] w fun e w' => e = .returned (.bool true) ∧ Below w.heap.size w w' := by
  obtain ⟨N, hN⟩ : ∃ N, N = ks.length := ⟨_, rfl⟩
  have HN := hid hN
  rw [← hN] at hn
  rw [← hN]
  clear hN
  obtain ⟨FV, hFV⟩ : ∃ y, y = fileV z a c s := ⟨_, rfl⟩
  have hF21 : FV.size = 21 := by rw [hFV]; exact fileV_size hz a c s
  have hino : ∀ (j : Nat) v, (NA z)[j]? = some v → FV[0 + j]? = some v := by rw [hFV]; exact file_ino z a c s
  have hsrc := fun w => source_any z a c s w hz
  obtain ⟨SV, hSV⟩ : ∃ y, y = srcV a c s := ⟨_, rfl⟩
  rw [← hFV, ← hSV] at hsrc
  rw [← hFV]
  have HSV := hid hSV
  have hS3 : SV.size = 3 := by rw [hSV]; rfl
  have hS1 : SV.all (·.oneCell') = true := by rw [hSV]; simp [srcV, Value.oneCell']
  have HINO := hid hino
  clear hFV hSV hino
  obtain ⟨W, hW⟩ : ∃ y, y = w.alloc (.cells FV 32) := ⟨_, rfl⟩
  have HB : Hid (Below w.heap.size w W) := by rw [hW]; exact (Below.refl _ _).alloc (Nat.le_refl _) _
  have H0 : Hid (W.heap[w.heap.size]? = some (.cells FV 32 (0, 0))) := by rw [hW]; exact heap_alloc_new _ _
  have HL := hid (fun (X : World) (hX : Below W.heap.size W X) => (hX.block _ (slt H0.out)).trans H0.out)
  have hz2 : ∀ w, (zeroValue 35).run Try.prog w = .ok (.agg ZR) w := fun w => by kernel_rfl
  go_enter Try.func4, Try.ntmps4
  go_upto_region 1 with fail
  rw [← hW]
  clear hW
  go_upto_region 4 with (first
    | (go_at_call 9; go_must (refine (known_any W).mono ?_; rintro e x1 ⟨rfl, hb⟩; have X1 := hid hb; clear hb)))
  go_upto_region 5 with (first
    | (refine load_R rfl 32 (.tmp 2) rfl w.heap.size rfl 32 FV _ (HL.out _ X1.out) Try.underlying32 rfl (by rw [szFile, hF21]) ?_)
    | (go_at_call 12; go_must (refine (hsrc x1).mono ?_; rintro e x2 ⟨rfl, hb⟩; have X2 := hid (btr X1.out hb X1.out.size); clear hb))
    | (refine store_R rfl 35 (.tmp 6) (.tmp 17) rfl x2.heap.size SV rfl rfl 35 ZR (heap_alloc_new _ _) (by rw [szSrc, hS3]) (by rw [hS3]; rfl) hS1 ?_; go_must (intro x3 p3; have H3 := hid p3.here; have X3 : Hid (Below W.heap.size W x3) := hid (p3.below (X2.out.alloc X2.out.size _) X2.out.size); have X23 : Hid (x2.heap.size < x3.heap.size) := hid (by rw [p3.size]; simp); clear p3)))
  clear hz2
  obtain ⟨V, hV⟩ : ∃ y, y = x3.alloc (.cells SV 39) := ⟨_, rfl⟩
  have KV : Below x3.heap.size x3 V := by rw [hV]; exact (Below.refl _ _).alloc (Nat.le_refl _) _
  have VB : Hid (Below W.heap.size W V) := hid (btr X3.out KV X3.out.size)
  have VS : Hid (V.heap[x2.heap.size]? = some (.cells SV 35 (0, 0))) := by rw [KV.block _ (slt H3.out)]; exact H3
  have VR : Hid (Rd V x3.heap.size s) := hid ⟨a, c, by rw [hV, ← HSV.out]; exact heap_alloc_new _ _, (hi.below HB.out).below VB.out⟩
  go_upto_region 6 with (first
    | (refine load_R rfl 35 (.tmp 6) rfl x2.heap.size rfl 35 SV _ H3.out Try.underlying35 rfl (by rw [szSrc, hS3]) ?_))
  have hfold : Array.foldl (fun (cs : Array Value) (x : Value × Nat) => cs.setIfInBounds x.snd x.fst) #[Value.slice none 0 0, Value.int .i64 0, Value.int .i64 0] SV.zipIdx 0 3 = SV := by rw [HSV.out]; rfl
  rw [hfold, ← hV]
  obtain ⟨pm, hpm⟩ : ∃ y, y = x3.heap.size := ⟨_, rfl⟩
  obtain ⟨bS, hbS⟩ : ∃ y, y = x2.heap.size := ⟨_, rfl⟩
  rw [← hpm] at VR
  rw [← hbS] at VS
  rw [← hpm, ← hbS]
  clear hV KV hfold hpm hbS H3 X3 X23 X2 X1 hS1
  go_upto_region 7 with fail
  go_loopw [8] (fun i wr => ∃ (k : Nat), k ≤ N ∧ i = .int .i64 k ∧ Hid (Below V.heap.size V wr)) (fun i _ => N - (intOf i).toNat)
  case atStart => exact ⟨0, by omega, rfl, hid (Below.refl _ _)⟩
  case round =>
    obtain ⟨k, hk, rfl, HBr⟩ := hrel
    by_cases hlt : k < N
    · obtain ⟨x, hx⟩ : ∃ x, ks[k]? = some x := ⟨_, List.getElem?_eq_getElem (by rw [← HN.out]; exact hlt)⟩
      obtain ⟨g, o, ha, hcg⟩ := hks k x hx
      subst ha
      have hgw := World.block_lt_of_cell? _ _ hcg
      have hWr : Below W.heap.size W wr := btr VB.out HBr.out VB.out.size
      have hwr : Below w.heap.size w wr := btr HB.out hWr HB.out.size
      have hcp : wr.cell? ⟨g, o + k, none⟩ = some (.int .i64 x) := by rw [hwr.cell (p := ⟨g, o + k, none⟩) hgw]; exact hcg
      have j0 : (0 : Int) ≤ (k : Int) := by omega
      have j1 : (k : Int) < (N : Int) := by omega
      have hFi := fun X hX => Find_any pm s z x X hz (VR.out.below hX)
      have hQi := fun (X : World) (hX : Below w.heap.size w X) => rFind_any a c s z x X hz (hi.below hX)
      simp only [find_same] at hQi
      rw [← HSV.out] at hQi
      have HFi := hid hFi
      have HQi := hid hQi
      generalize findR s z x = F at *
      clear hFi hQi
      go_upto_region 9 with fail
      refine wp_region_noPanic ?_
      refine wp_region_held_drew (S := fun w' => w'.heap[w.heap.size]? = some (.cells FV 32 (0, 0)) ∧ w'.cell? ⟨g, o + k, none⟩ = some (.int .i64 x) ∧ w'.heap[bS]? = some (.cells SV 35 (0, 0)) ∧ Below V.heap.size V w') (by kernel_rfl) ⟨HL.out _ (below_drew hWr), hcp, (HBr.out.block _ (slt VS.out)).trans VS.out, below_drew HBr.out⟩ (fun hHeld => ?_)
      refine takeVal 0 28 (.pointer (some ⟨pm, 0, none⟩)) rfl (by kernel_rfl) (by kernel_rfl) (by kernel_rfl) rfl (by rfl) (fun _ _ _ h => h) hHeld (fun W' hw' => rfl) ?_
      simp only [List.setIfInBounds_toArray, List.set_cons_zero, List.set_cons_succ]
      refine takeVal 1 29 (rdV pm) rfl (by kernel_rfl) (by kernel_rfl) (by kernel_rfl) rfl (by rfl) (fun _ _ _ h => h) hHeld (fun W' hw' => by unfold rdV; go_simp) ?_
      simp only [List.setIfInBounds_toArray, List.set_cons_zero, List.set_cons_succ]
      refine takeVal 2 30 (.pointer (some ⟨w.heap.size, 0, none⟩)) rfl (by kernel_rfl) (by kernel_rfl) (by kernel_rfl) rfl (by rfl) (fun _ _ _ h => h) hHeld (fun W' hw' => by go_simp) ?_
      simp only [List.setIfInBounds_toArray, List.set_cons_zero, List.set_cons_succ]
      refine takeP 3 31 29 (.tmp 30) w.heap.size 0 32 FV (NA z) _ rfl (by kernel_rfl) (by kernel_rfl) (by kernel_rfl) rfl rfl rfl Try.underlying29 rfl (by rw [szI, NA_size, hz]) (by rfl) (fun _ _ _ h => h) hHeld HINO.out (fun W' hw' => hw'.1) ?_
      simp only [List.setIfInBounds_toArray, List.set_cons_zero, List.set_cons_succ]
      refine takeVal 4 32 (.slice (some ⟨g, o, none⟩) N ck) rfl (by kernel_rfl) (by kernel_rfl) (by kernel_rfl) rfl (by rfl) (fun _ _ _ h => h) hHeld (fun W' hw' => rfl) ?_
      simp only [List.setIfInBounds_toArray, List.set_cons_zero, List.set_cons_succ]
      refine takeVal 5 33 (.int .i64 (k : Int)) rfl (by kernel_rfl) (by kernel_rfl) (by kernel_rfl) rfl (by rfl) (fun _ _ _ h => h) hHeld (fun W' hw' => rfl) ?_
      simp only [List.setIfInBounds_toArray, List.set_cons_zero, List.set_cons_succ]
      refine takeVal 6 34 (.pointer (some ⟨g, o + k, none⟩)) rfl (by kernel_rfl) (by kernel_rfl) (by kernel_rfl) rfl (by rfl) (fun _ _ _ h => h) hHeld (fun W' hw' => by go_simp) ?_
      simp only [List.setIfInBounds_toArray, List.set_cons_zero, List.set_cons_succ]
      refine takeVal 7 35 (.int .i64 x) rfl (by kernel_rfl) (by kernel_rfl) (by kernel_rfl) rfl (by rfl) (fun _ _ _ h => h) hHeld (fun W' hw' => by have hq : W'.cell? ⟨g, o + k, none⟩ = some (.int .i64 x) := hw'.2.1; go_simp) ?_
      simp only [List.setIfInBounds_toArray, List.set_cons_zero, List.set_cons_succ]
      refine step1 8 (by kernel_rfl) ?_
      refine stCall 8 36 13 #[rdV pm, .agg (NA z), .int .i64 x] _ rfl rfl (by rfl) (by go_simp) (HFi.out _ hHeld.2.2.2) ?_
      rintro e x5 ⟨rfl, hb5⟩
      have h5 : x5.heap[w.heap.size]? = some (.cells FV 32 (0, 0)) ∧ x5.cell? ⟨g, o + k, none⟩ = some (.int .i64 x) ∧ x5.heap[bS]? = some (.cells SV 35 (0, 0)) ∧ Below V.heap.size V x5 := ⟨by rw [hb5.block _ (slt hHeld.1)]; exact hHeld.1, by rw [hb5.cell (p := ⟨g, o + k, none⟩) (World.block_lt_of_cell? _ _ hHeld.2.1)]; exact hHeld.2.1, by rw [hb5.block _ (slt hHeld.2.2.1)]; exact hHeld.2.2.1, btr hHeld.2.2.2 hb5 hHeld.2.2.2.size⟩
      refine ⟨_, rfl, h5, ?_⟩
      simp only [List.setIfInBounds_toArray, List.set_cons_zero, List.set_cons_succ]
      refine takeVal 9 27 (.tuple #[.int .i64 F.1, .int .i64 F.2]) rfl (by kernel_rfl) (by kernel_rfl) (by kernel_rfl) rfl (by rfl) (fun _ _ _ h => h) h5 (fun W' hw' => rfl) ?_
      simp only [List.setIfInBounds_toArray, List.set_cons_zero, List.set_cons_succ]
      refine takeVal 10 37 (.int .i64 F.1) rfl (by kernel_rfl) (by kernel_rfl) (by kernel_rfl) rfl (by rfl) (fun _ _ _ h => h) h5 (fun W' hw' => rfl) ?_
      simp only [List.setIfInBounds_toArray, List.set_cons_zero, List.set_cons_succ]
      refine takeVal 11 38 (.int .i64 F.2) rfl (by kernel_rfl) (by kernel_rfl) (by kernel_rfl) rfl (by rfl) (fun _ _ _ h => h) h5 (fun W' hw' => rfl) ?_
      simp only [List.setIfInBounds_toArray, List.set_cons_zero, List.set_cons_succ]
      refine takeVal 12 9 (.int .i64 F.1) rfl (by kernel_rfl) (by kernel_rfl) (by kernel_rfl) rfl (by rfl) (fun _ _ _ h => h) h5 (fun W' hw' => rfl) ?_
      simp only [List.setIfInBounds_toArray, List.set_cons_zero, List.set_cons_succ]
      refine takeVal 13 10 (.int .i64 F.2) rfl (by kernel_rfl) (by kernel_rfl) (by kernel_rfl) rfl (by rfl) (fun _ _ _ h => h) h5 (fun W' hw' => rfl) ?_
      simp only [List.setIfInBounds_toArray, List.set_cons_zero, List.set_cons_succ]
      refine wpAnyH_done (by kernel_rfl) ?_ _
      refine NoPanic.normal ?_
      have H5 := hid h5
      clear h5 hb5 hHeld hcp hcg hWr hwr
      go_upto_region 10 with fail
      refine wp_region_noPanic ?_
      refine wp_region_held_drew (S := fun w' => w'.heap[w.heap.size]? = some (.cells FV 32 (0, 0)) ∧ w'.cell? ⟨g, o + k, none⟩ = some (.int .i64 x) ∧ w'.heap[bS]? = some (.cells SV 35 (0, 0)) ∧ Below V.heap.size V w') (by kernel_rfl) ⟨H5.out.1, H5.out.2.1, H5.out.2.2.1, below_drew H5.out.2.2.2⟩ (fun hHeld => ?_)
      refine takeR 0 40 35 (.tmp 6) bS 35 SV _ rfl (by kernel_rfl) (by kernel_rfl) (by kernel_rfl) rfl rfl rfl Try.underlying35 rfl (by rw [szSrc, hS3]) (by rfl) (fun _ _ _ h => h) hHeld (fun W' hw' => hw'.2.2.1) ?_
      simp only [List.setIfInBounds_toArray, List.set_cons_zero, List.set_cons_succ]
      refine takeVal 1 41 (.pointer (some ⟨w.heap.size, 0, none⟩)) rfl (by kernel_rfl) (by kernel_rfl) (by kernel_rfl) rfl (by rfl) (fun _ _ _ h => h) hHeld (fun W' hw' => by go_simp) ?_
      simp only [List.setIfInBounds_toArray, List.set_cons_zero, List.set_cons_succ]
      refine takeP 2 42 29 (.tmp 41) w.heap.size 0 32 FV (NA z) _ rfl (by kernel_rfl) (by kernel_rfl) (by kernel_rfl) rfl rfl rfl Try.underlying29 rfl (by rw [szI, NA_size, hz]) (by rfl) (fun _ _ _ h => h) hHeld HINO.out (fun W' hw' => hw'.1) ?_
      simp only [List.setIfInBounds_toArray, List.set_cons_zero, List.set_cons_succ]
      refine takeVal 3 43 (.slice (some ⟨g, o, none⟩) N ck) rfl (by kernel_rfl) (by kernel_rfl) (by kernel_rfl) rfl (by rfl) (fun _ _ _ h => h) hHeld (fun W' hw' => rfl) ?_
      simp only [List.setIfInBounds_toArray, List.set_cons_zero, List.set_cons_succ]
      refine takeVal 4 44 (.int .i64 (k : Int)) rfl (by kernel_rfl) (by kernel_rfl) (by kernel_rfl) rfl (by rfl) (fun _ _ _ h => h) hHeld (fun W' hw' => rfl) ?_
      simp only [List.setIfInBounds_toArray, List.set_cons_zero, List.set_cons_succ]
      refine takeVal 5 45 (.pointer (some ⟨g, o + k, none⟩)) rfl (by kernel_rfl) (by kernel_rfl) (by kernel_rfl) rfl (by rfl) (fun _ _ _ h => h) hHeld (fun W' hw' => by go_simp) ?_
      simp only [List.setIfInBounds_toArray, List.set_cons_zero, List.set_cons_succ]
      refine takeVal 6 46 (.int .i64 x) rfl (by kernel_rfl) (by kernel_rfl) (by kernel_rfl) rfl (by rfl) (fun _ _ _ h => h) hHeld (fun W' hw' => by have hq : W'.cell? ⟨g, o + k, none⟩ = some (.int .i64 x) := hw'.2.1; go_simp) ?_
      simp only [List.setIfInBounds_toArray, List.set_cons_zero, List.set_cons_succ]
      refine step1 7 (by kernel_rfl) ?_
      refine stCall 7 47 14 #[.agg SV, .agg (NA z), .int .i64 x] _ rfl rfl (by rfl) (by go_simp) (HQi.out _ (btr HB.out (btr VB.out hHeld.2.2.2 VB.out.size) HB.out.size)) ?_
      rintro e x6 ⟨rfl, hb6⟩
      have h6 : x6.heap[w.heap.size]? = some (.cells FV 32 (0, 0)) ∧ x6.cell? ⟨g, o + k, none⟩ = some (.int .i64 x) ∧ x6.heap[bS]? = some (.cells SV 35 (0, 0)) ∧ Below V.heap.size V x6 := ⟨by rw [hb6.block _ (slt hHeld.1)]; exact hHeld.1, by rw [hb6.cell (p := ⟨g, o + k, none⟩) (World.block_lt_of_cell? _ _ hHeld.2.1)]; exact hHeld.2.1, by rw [hb6.block _ (slt hHeld.2.2.1)]; exact hHeld.2.2.1, btr hHeld.2.2.2 hb6 hHeld.2.2.2.size⟩
      refine ⟨_, rfl, h6, ?_⟩
      simp only [List.setIfInBounds_toArray, List.set_cons_zero, List.set_cons_succ]
      refine takeVal 8 39 (.tuple #[.int .i64 F.1, .int .i64 F.2]) rfl (by kernel_rfl) (by kernel_rfl) (by kernel_rfl) rfl (by rfl) (fun _ _ _ h => h) h6 (fun W' hw' => rfl) ?_
      simp only [List.setIfInBounds_toArray, List.set_cons_zero, List.set_cons_succ]
      refine takeVal 9 48 (.int .i64 F.1) rfl (by kernel_rfl) (by kernel_rfl) (by kernel_rfl) rfl (by rfl) (fun _ _ _ h => h) h6 (fun W' hw' => rfl) ?_
      simp only [List.setIfInBounds_toArray, List.set_cons_zero, List.set_cons_succ]
      refine takeVal 10 49 (.int .i64 F.2) rfl (by kernel_rfl) (by kernel_rfl) (by kernel_rfl) rfl (by rfl) (fun _ _ _ h => h) h6 (fun W' hw' => rfl) ?_
      simp only [List.setIfInBounds_toArray, List.set_cons_zero, List.set_cons_succ]
      refine takeVal 11 11 (.int .i64 F.1) rfl (by kernel_rfl) (by kernel_rfl) (by kernel_rfl) rfl (by rfl) (fun _ _ _ h => h) h6 (fun W' hw' => rfl) ?_
      simp only [List.setIfInBounds_toArray, List.set_cons_zero, List.set_cons_succ]
      refine takeVal 12 12 (.int .i64 F.2) rfl (by kernel_rfl) (by kernel_rfl) (by kernel_rfl) rfl (by rfl) (fun _ _ _ h => h) h6 (fun W' hw' => rfl) ?_
      simp only [List.setIfInBounds_toArray, List.set_cons_zero, List.set_cons_succ]
      refine wpAnyH_done (by kernel_rfl) ?_ _
      refine NoPanic.normal ?_
      have H6 := hid h6.2.2.2
      clear h6 hb6 hHeld H5
      go_wp2_with fail
      exact ⟨⟨k + 1, by omega, by go_num, H6⟩, by simp [intOf]; omega⟩
    · obtain rfl : k = N := by omega
      have hge : ¬ ((k : Int) < (k : Int)) := by omega
      go_wp2_with fail
      go_ret
      exact ⟨rfl, btr HB.out (btr VB.out HBr.out VB.out.size) HB.out.size⟩

end Go.Proofs.Ytjlhmojofjkkdaa
