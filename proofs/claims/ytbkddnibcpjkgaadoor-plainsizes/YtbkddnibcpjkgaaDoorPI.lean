/-
  package plain: a file or a directory is made (refused: where its directory is not found).
-/
import Derived.Test.YtbkddnibcpjkgaaDoorPA
namespace Go.Proofs.YtbkddnibcpjkgaaDoor
open Go.RowKit

theorem szAn : (Tryd.prog.info? 37).map (·.size) = some 10 := by kernel_rfl
/-- An answer that has a code alone. -/
def ansE (e : Int) : Array Value := #[.int .i64 e, .int .i64 0, .int .i64 0, .int .i64 0, .int .i64 0, .int .i64 0, .int .i64 0, .slice none 0 0, .slice none 0 0, .bool false]
theorem putR_keep {w w' : World} {g k : Nat} {c : Array Value} {t : TypeId} {o : Obj} (h : PutR w g c t w') (hk : w.heap[k]? = some o) (hn : k ≠ g) : w'.heap[k]? = some o := by rw [h.other k hn]; exact hk

set_option maxHeartbeats 2000000 in
set_option maxRecDepth 100000 in
theorem makeOne_bad {q : PC} {s : PSt} (ls : List ByteArray) (a : Option Addr) (kind made : Int) (w : World) (h : IsPl w q s) (ho : OkS s) (hl : LAt w a ls) (hb : ls.length ≤ 1000) (hn : ∀ x ∈ ls, x.size ≤ 1000) (hE : lastE s ls ≠ 0) :
    Calls Tryd.prog 13 #[.pointer (some ⟨q.p, 0, none⟩), .slice a ls.length ls.length, .int .i64 kind, .int .i64 made] w fun e w' => e = .returned (.agg (ansE (lastE s ls))) ∧ Chg w w' No := by
  obtain ⟨w1, hw1⟩ : ∃ y, y = w.alloc (.cells (ansE 0) 37) := ⟨_, rfl⟩
  have hc1 : Chg w w1 No := by rw [hw1]; exact Chg.alloc w _ No
  have HQs : Hid (w1.heap[w.heap.size]? = some (.cells (ansE 0) 37 (0, 0))) := hid (by rw [hw1]; exact heap_alloc_new w _)
  have HC1 := hid hc1
  have hl1 : LAt w1 a ls := by
    rcases hl with e | ⟨g, k1, k2, k3⟩
    · exact .inl e
    · exact .inr ⟨g, k1, Nat.lt_of_lt_of_le k2 hc1.size, fun j x hj => by
        have := k3 j x hj
        unfold World.cell? at this ⊢
        rw [hc1.block _ k2 (fun e => e)]
        exact this⟩
  have hW := wlast_bad ls a w1 (h.call hc1) ho hl1 hb hn hE
  obtain ⟨E, hEE⟩ : ∃ y, y = lastE s ls := ⟨_, rfl⟩
  rw [← hEE] at hW hE ⊢
  obtain ⟨n, hnn⟩ : ∃ y, y = ls.length := ⟨_, rfl⟩
  rw [← hnn] at hW ⊢
  have b1 : (E == 0) = false := beq_eq_false_iff_ne.2 hE
  unfold ansE at hw1 HQs ⊢
  rw [hw1] at hW HQs HC1
  clear h ho hl hl1 hb hn hEE hnn hw1 hc1
  go_enter Tryd.func13, Tryd.ntmps13
  go_wp2_with (first
    | (go_at_call 23; go_must (refine hW.mono ?_; rintro e w2 ⟨rfl, hc2⟩; have HC2 := hid hc2; clear hc2))
    | (refine store_R rfl 75 _ _ rfl w2.heap.size zSpot rfl rfl 75 _ (heap_alloc_new _ _) (by rw [szSp]; rfl) rfl (by simp [zSpot, Value.oneCell']) ?_; intro w3 hw3; have HQ3 := hid (putR_keep hw3 ((Chg.alloc w2 _ No).keep (HC2.out.keep HQs.out (fun e => e)) (fun e => e)) (by have := HC2.out.size; simp at this; omega)); have HC3 := hid ((HC1.out.tr HC2.out).tr (Chg.alloc w2 (.cells zSpot 75) No) |>.trans (kt_new hw3) (fun _ _ e => e) (fun j hj e => by have := (HC1.out.tr HC2.out).size; omega)); clear hw3)
    | (refine store_R rfl 37 _ _ rfl w.heap.size #[.int .i64 E, .int .i64 0, .int .i64 0, .int .i64 0, .int .i64 0, .int .i64 0, .int .i64 0, .slice none 0 0, .slice none 0 0, .bool false] rfl rfl 37 _ HQ3.out (by rw [szAn]; rfl) rfl (by simp [Value.oneCell']) ?_; intro w6 hw6)
    | fail)
  exact bodyPost_ret (v := .agg #[.int .i64 E, .int .i64 0, .int .i64 0, .int .i64 0, .int .i64 0, .int .i64 0, .int .i64 0, .slice none 0 0, .slice none 0 0, .bool false]) (results_R1 Tryd.results13 _ _ w.heap.size _ 37 _ Tryd.underlying37 rfl (by rw [szAn]; rfl) rfl hw6.here) rfl ⟨rfl, HC3.out.trans (kt_new hw6) (fun _ _ e => e) (fun j hj e => by omega)⟩
end Go.Proofs.YtbkddnibcpjkgaaDoor
