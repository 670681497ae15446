/-
  The document's Copy: what it answers, for every disk.
-/
import Derived.Test.YtcgchdcbbiahnaaDiskQ
namespace Go.Proofs.Ytcgchdcbbiahnaa
open Go.RowKit

theorem rimageQ {r k n c : Nat} {X : Array Value} {d : St8} (w : World) (h : IsQ w r k n c X d) : Calls Try.prog 14 #[.pointer (some ⟨r, 0, none⟩)] w fun e w' => ∃ k2 c2 X2, e = .returned (.slice (some ⟨k2, 0, none⟩) n c2) ∧ w.heap.size ≤ k2 ∧ w'.heap[k2]? = some (.cells (SA d.S ++ X2) 41 (0, 0)) ∧ n ≤ c2 ∧ c2 ≤ maxLen ∧ X2.size = (c2 - n) * 128 ∧ Below w.heap.size w w' := by
  refine (rimage_any w h.isR).mono ?_
  rintro e w' ⟨u, rfl, ho, hb⟩
  rcases ho.2 with ⟨_, h0⟩ | ⟨g, cap, cur, rfl, hg, hc, hn, hm, hs, ht⟩
  · have := h.pos
    omega
  · refine ⟨g, cap, (cur.toList.drop (n * 128)).toArray, rfl, hg, ?_, hn, hm, ?_, hb⟩
    · rw [hc]
      congr 2
      apply Array.toList_inj.1
      rw [Array.toList_append]
      show cur.toList = d.S.map (Value.int .u8) ++ cur.toList.drop (n * 128)
      rw [← ht, List.take_append_drop]
    · rw [List.size_toArray, List.length_drop, Array.length_toList, hs, Nat.sub_mul]

set_option maxRecDepth 100000 in
set_option maxHeartbeats 2000000 in
theorem rcopy_any {r k n c : Nat} {X : Array Value} {d : St8} (w : World) (h : IsQ w r k n c X d) : Calls Try.prog 39 #[.pointer (some ⟨r, 0, none⟩)] w fun e w' => ∃ q k2 c2 X2, e = .returned (.pointer (some ⟨q, 0, none⟩)) ∧ w.heap.size ≤ q ∧ w.heap.size ≤ k2 ∧ IsQ w' q k2 n c2 X2 d ∧ Below w.heap.size w w' := by
  have HH : Hid (HB w [(r, .cells (RCv (.slice (some ⟨k, 0, none⟩) n c) d.wr d.ar d.lf d.dn) 56 (0, 0))] w) := ⟨fun x hx => by rw [List.mem_singleton.1 hx]; exact h.me, by simpa using slt h.me, Below.refl _ _⟩
  go_enter Try.func39, Try.ntmps39
  go_wp2_with fail
  refine wp_region_noPanic ?_
  refine wp_region_held_drew (S := HB w [(r, .cells (RCv (.slice (some ⟨k, 0, none⟩) n c) d.wr d.ar d.lf d.dn) 56 (0, 0))]) (by kernel_rfl) HH.out.drew (fun hHeld => ?_)
  have HDd := hid h.drew
  generalize hwd : w.drew = wd at *
  replace hwd := hid hwd
  refine takeVal 0 3 (.pointer (some ⟨r, 0, none⟩)) rfl (by kernel_rfl) (by kernel_rfl) (by kernel_rfl) rfl (by rfl) (fun _ _ _ h => h) hHeld (fun _ hw' => rfl) ?_
  simp only [List.setIfInBounds_toArray, List.set_cons_zero, List.set_cons_succ]
  refine takeVal 2 5 (.pointer (some ⟨r, 0, none⟩)) rfl (by kernel_rfl) (by kernel_rfl) (by kernel_rfl) rfl (by rfl) (fun _ _ _ h => h) hHeld (fun _ hw' => rfl) ?_
  simp only [List.setIfInBounds_toArray, List.set_cons_zero, List.set_cons_succ]
  refine takeVal 3 6 (.pointer (some ⟨r, 0, none⟩)) rfl (by kernel_rfl) (by kernel_rfl) (by kernel_rfl) rfl (by rfl) (fun _ _ _ h => h) hHeld (fun _ hw' => by go_simp) ?_
  simp only [List.setIfInBounds_toArray, List.set_cons_zero, List.set_cons_succ]
  refine takeVal 4 7 (.pointer (some ⟨r, 1, none⟩)) rfl (by kernel_rfl) (by kernel_rfl) (by kernel_rfl) rfl (by rfl) (fun _ _ _ h => h) hHeld (fun _ hw' => by go_simp) ?_
  simp only [List.setIfInBounds_toArray, List.set_cons_zero, List.set_cons_succ]
  refine takeVal 5 8 (.int .i64 d.wr) rfl (by kernel_rfl) (by kernel_rfl) (by kernel_rfl) rfl (by rfl) (fun _ _ _ h => h) hHeld (fun _ hw' => by have hc := cell_of_row _ _ 1 _ _ _ (hw'.get (g := r) (List.mem_singleton.2 rfl)); simp only [RCv, List.getElem?_toArray, List.getElem?_cons_zero, List.getElem?_cons_succ] at hc; go_simp) ?_
  simp only [List.setIfInBounds_toArray, List.set_cons_zero, List.set_cons_succ]
  refine takeVal 6 9 (.pointer (some ⟨r, 0, none⟩)) rfl (by kernel_rfl) (by kernel_rfl) (by kernel_rfl) rfl (by rfl) (fun _ _ _ h => h) hHeld (fun _ hw' => rfl) ?_
  simp only [List.setIfInBounds_toArray, List.set_cons_zero, List.set_cons_succ]
  refine takeVal 7 10 (.pointer (some ⟨r, 0, none⟩)) rfl (by kernel_rfl) (by kernel_rfl) (by kernel_rfl) rfl (by rfl) (fun _ _ _ h => h) hHeld (fun _ hw' => by go_simp) ?_
  simp only [List.setIfInBounds_toArray, List.set_cons_zero, List.set_cons_succ]
  refine takeVal 8 11 (.pointer (some ⟨r, 2, none⟩)) rfl (by kernel_rfl) (by kernel_rfl) (by kernel_rfl) rfl (by rfl) (fun _ _ _ h => h) hHeld (fun _ hw' => by go_simp) ?_
  simp only [List.setIfInBounds_toArray, List.set_cons_zero, List.set_cons_succ]
  refine takeVal 9 12 (.bool d.ar) rfl (by kernel_rfl) (by kernel_rfl) (by kernel_rfl) rfl (by rfl) (fun _ _ _ h => h) hHeld (fun _ hw' => by have hc := cell_of_row _ _ 2 _ _ _ (hw'.get (g := r) (List.mem_singleton.2 rfl)); simp only [RCv, List.getElem?_toArray, List.getElem?_cons_zero, List.getElem?_cons_succ] at hc; go_simp) ?_
  simp only [List.setIfInBounds_toArray, List.set_cons_zero, List.set_cons_succ]
  refine takeVal 10 13 (.pointer (some ⟨r, 0, none⟩)) rfl (by kernel_rfl) (by kernel_rfl) (by kernel_rfl) rfl (by rfl) (fun _ _ _ h => h) hHeld (fun _ hw' => rfl) ?_
  simp only [List.setIfInBounds_toArray, List.set_cons_zero, List.set_cons_succ]
  refine takeVal 11 14 (.pointer (some ⟨r, 0, none⟩)) rfl (by kernel_rfl) (by kernel_rfl) (by kernel_rfl) rfl (by rfl) (fun _ _ _ h => h) hHeld (fun _ hw' => by go_simp) ?_
  simp only [List.setIfInBounds_toArray, List.set_cons_zero, List.set_cons_succ]
  refine takeVal 12 15 (.pointer (some ⟨r, 3, none⟩)) rfl (by kernel_rfl) (by kernel_rfl) (by kernel_rfl) rfl (by rfl) (fun _ _ _ h => h) hHeld (fun _ hw' => by go_simp) ?_
  simp only [List.setIfInBounds_toArray, List.set_cons_zero, List.set_cons_succ]
  refine takeVal 13 16 (.int .i64 d.lf) rfl (by kernel_rfl) (by kernel_rfl) (by kernel_rfl) rfl (by rfl) (fun _ _ _ h => h) hHeld (fun _ hw' => by have hc := cell_of_row _ _ 3 _ _ _ (hw'.get (g := r) (List.mem_singleton.2 rfl)); simp only [RCv, List.getElem?_toArray, List.getElem?_cons_zero, List.getElem?_cons_succ] at hc; go_simp) ?_
  simp only [List.setIfInBounds_toArray, List.set_cons_zero, List.set_cons_succ]
  refine takeVal 14 17 (.pointer (some ⟨r, 0, none⟩)) rfl (by kernel_rfl) (by kernel_rfl) (by kernel_rfl) rfl (by rfl) (fun _ _ _ h => h) hHeld (fun _ hw' => rfl) ?_
  simp only [List.setIfInBounds_toArray, List.set_cons_zero, List.set_cons_succ]
  refine takeVal 15 18 (.pointer (some ⟨r, 0, none⟩)) rfl (by kernel_rfl) (by kernel_rfl) (by kernel_rfl) rfl (by rfl) (fun _ _ _ h => h) hHeld (fun _ hw' => by go_simp) ?_
  simp only [List.setIfInBounds_toArray, List.set_cons_zero, List.set_cons_succ]
  refine takeVal 16 19 (.pointer (some ⟨r, 4, none⟩)) rfl (by kernel_rfl) (by kernel_rfl) (by kernel_rfl) rfl (by rfl) (fun _ _ _ h => h) hHeld (fun _ hw' => by go_simp) ?_
  simp only [List.setIfInBounds_toArray, List.set_cons_zero, List.set_cons_succ]
  refine takeVal 17 20 (.bool d.dn) rfl (by kernel_rfl) (by kernel_rfl) (by kernel_rfl) rfl (by rfl) (fun _ _ _ h => h) hHeld (fun _ hw' => by have hc := cell_of_row _ _ 4 _ _ _ (hw'.get (g := r) (List.mem_singleton.2 rfl)); simp only [RCv, List.getElem?_toArray, List.getElem?_cons_zero, List.getElem?_cons_succ] at hc; go_simp) ?_
  simp only [List.setIfInBounds_toArray, List.set_cons_zero, List.set_cons_succ]
  refine step1 1 (by kernel_rfl) ?_
  refine stCall 1 4 14 #[.pointer (some ⟨r, 0, none⟩)] _ rfl rfl (by rfl) (by go_simp) (rimageQ _ HDd.out) ?_
  rintro e w2 ⟨k2, c2, X2, rfl, hk2, hr2, hn2, hm2, hx2, hb2⟩
  refine ⟨_, rfl, hHeld.call hb2, ?_⟩
  have hHeld1 := hHeld.call hb2
  clear hHeld
  have hHeld := hHeld1
  clear hHeld1
  simp only [List.setIfInBounds_toArray, List.set_cons_zero, List.set_cons_succ]
  refine takeVal 18 21 (.agg #[.slice (some ⟨k2, 0, none⟩) n c2, .int .i64 d.wr, .bool d.ar, .int .i64 d.lf, .bool d.dn]) rfl (by kernel_rfl) (by kernel_rfl) (by kernel_rfl) rfl (by rfl) (fun _ _ _ h => h) hHeld (fun _ hw' => by have hb := build_rdisk5 (.slice (some ⟨k2, 0, none⟩) n c2) _ _ _ rfl d.wr d.lf d.ar d.dn; go_simp) ?_
  simp only [List.setIfInBounds_toArray, List.set_cons_zero, List.set_cons_succ]
  refine step1 19 (by kernel_rfl) ?_
  refine stNew 19 22 (.pointer (some ⟨w2.heap.size, 0, none⟩)) (.cells #[.slice (some ⟨k2, 0, none⟩) n c2, .int .i64 d.wr, .bool d.ar, .int .i64 d.lf, .bool d.dn] 56) rfl rfl (by rfl) (by go_simp) ⟨(hHeld.alloc _).tail, ?_⟩
  have hHeld1 := (hHeld.alloc (.cells #[.slice (some ⟨k2, 0, none⟩) n c2, .int .i64 d.wr, .bool d.ar, .int .i64 d.lf, .bool d.dn] 56)).tail
  clear hHeld
  have hHeld := hHeld1
  clear hHeld1
  simp only [List.setIfInBounds_toArray, List.set_cons_zero, List.set_cons_succ]
  refine takeVal 20 2 (.pointer (some ⟨w2.heap.size, 0, none⟩)) rfl (by kernel_rfl) (by kernel_rfl) (by kernel_rfl) rfl (by rfl) (fun _ _ _ h => h) hHeld (fun _ hw' => rfl) ?_
  simp only [List.setIfInBounds_toArray, List.set_cons_zero, List.set_cons_succ]
  refine wpAnyH_done (by kernel_rfl) ?_ _
  refine NoPanic.normal ?_
  go_wp2_with fail
  go_ret
  have e1 : wd.heap.size = w.heap.size := by rw [← hwd.out]; rfl
  refine ⟨w2.heap.size, k2, c2, X2, rfl, by rw [← e1]; exact hb2.size, by rw [← e1]; exact hk2, ⟨heap_alloc_new _ _, ?_, h.len, h.pos, h.top, hn2, hm2, hx2⟩, hHeld.old⟩
  rw [Below.heap_alloc _ _ _ (slt hr2)]
  exact hr2

end Go.Proofs.Ytcgchdcbbiahnaa
