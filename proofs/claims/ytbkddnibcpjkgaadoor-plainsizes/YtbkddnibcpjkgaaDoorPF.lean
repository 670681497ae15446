/-
  package plain: helpers for bytes that are laid into a file.
-/
import Derived.Test.YtbkddnibcpjkgaaDoorPD
import Derived.Laws.CopyRow
namespace Go.Proofs.YtbkddnibcpjkgaaDoor
open Go.RowKit

theorem szSec : (Tryd.prog.info? 111).map (·.size) = some 128 := by kernel_rfl
theorem sz5 : (Tryd.prog.info? 5).map (·.size) = some 1 := by kernel_rfl
theorem SA_size (l : List Int) : (SA l).size = l.length := by simp [SA]
theorem SA_one (l : List Int) : (SA l).all (·.oneCell') = true := by simp [SA, Value.oneCell']
section
variable {ops : Array Oper} {Q : Exit → Act → World → Prop} {S : World → Prop} {fuel : Nat} {listed : Array Bool} {a : Act} {w : World}
/-- Bytes are copied into a row. -/
theorem stCopy (i d : Nat) (x y : Operand) (g off dLen dCap : Nat) (ad : Addr) (sLen sCap : Nat) (cur : Array Value) (t : TypeId) (cs : List Value) {o : Oper} (hop : ops[i]? = some o) (hd : o.dst = some d) (hw : Region.wanted o (yielded ops a.tmps) = true)
    (ho : o.op = .call { callee := .builtin .copy, args := #[x, y], argTypes := #[34, 34] }) (hx : a.eval x = .slice (some ⟨g, off, none⟩) dLen dCap) (hy : a.eval y = .slice (some ad) sLen sCap)
    (hg : w.heap[g]? = some (.cells cur t (0, 0))) (hn : cs.length = Nat.min sLen dLen) (hsrc : ∀ j v, cs[j]? = some v → w.cell? (ad.add j) = some v) (hfit : off + cs.length ≤ cur.size) (h1 : ∀ v ∈ cs, v.oneCell' = true)
    (h : ∀ w', PutR w g (cur.toList.take off ++ cs ++ cur.toList.drop (off + cs.length)).toArray t w' → S w' ∧ wpAnyH Tryd.prog .any ops Q S fuel (listed.setIfInBounds i true) { a with tmps := a.tmps.setIfInBounds d (goInt cs.length) } w') : St ops Q S fuel listed a w i := by
  have hrun := run_copy_row (P := Tryd.prog) w 34 34 o.type 5 g off dLen dCap ad sLen sCap cur t cs Tryd.underlying34 sz5 hg hn hsrc hfit h1
  have hh := h _ (putR_setRow _ hg)
  refine wpOp_step hop (fun K hK => ?_)
  rw [if_pos hw]
  unfold Oper.wp
  simp [execOp, ho, resolve, invoke, builtin, hx, hy, hrun, Result.andThen]
  refine hK _ _ ?_
  unfold Act.put
  rw [hd]
  simpa using hh
theorem stPutB (i : Nat) (m x v : Operand) (b : Nat) (f : Int → Option Value) (k : Int) (d : Value) {o : Oper} (hop : ops[i]? = some o) (hd : o.dst = none) (hw : Region.wanted o (yielded ops a.tmps) = true) (ho : o.op = Op.mapUpdate 65 m x v)
    (hm : a.eval m = .map (some b)) (hx : a.eval x = .int .i64 k) (hv : a.eval v = d) (h : MapV w b f) (hk : I64 k) (hf : ∃ L : List Int, L.length ≤ 5000 ∧ ∀ x, (f x).isSome = true → x ∈ L)
    (hK : ∀ w', MapV w' b (fun y => if y = k then some d else f y) → Chg w w' (· = b) → w'.heap.size = w.heap.size → S w' ∧ wpAnyH Tryd.prog .any ops Q S fuel (listed.setIfInBounds i true) a w') : St ops Q S fuel listed a w i := by
  obtain ⟨w', hrun, r1, r2, r3⟩ := h.storeB hk d hf
  have hh := hK w' r1 r2 r3
  refine wpOp_step hop (fun K hK => ?_)
  rw [if_pos hw]
  unfold Oper.wp
  simp [execOp, ho, hm, hx, hv, hrun, Result.andThen]
  refine hK _ _ ⟨hh.1, ?_⟩
  unfold Act.put
  rw [hd]
  exact hh.2
end
section
variable {w w' : World} {c : NC} {x : Nd}
theorem IsN.small (h : IsN w c x) : ∃ L : List Int, L.length ≤ 5000 ∧ ∀ k, (x.blk k).isSome = true → k ∈ L := by
  refine ⟨(List.range 1068).map (fun i : Nat => (i : Int)), by simp, fun k hk => ?_⟩
  have := h.dom k (fun e => by rw [e] at hk; cases hk)
  exact List.mem_map.2 ⟨k.toNat, List.mem_range.2 (by omega), by omega⟩
/-- A block is another now. -/
theorem IsN.block (h : IsN w c x) {k : Int} {v : Value} (hk : 0 ≤ k ∧ k < 1068) (hM : MapV w' c.bb (fun y => if y = k then some v else x.blk y)) (hc : Chg w w' (· = c.bb)) : IsN w' c { x with blk := fun y => if y = k then some v else x.blk y } := by
  refine ⟨hc.keep h.me h.pNe.1, hM, h.sl.keep hc (fun j e e2 => (h.ownNe e).2.1 e2), h.nm.keep hc (fun e => h.ne e.symm), h.cn, h.ne, h.len, fun y hy => ?_⟩
  by_cases e : y = k
  · rw [e]; exact hk
  · refine h.dom y (fun e2 => hy ?_)
    show (if y = k then some v else x.blk y) = none
    rw [if_neg e]
    exact e2
/-- Its size is another now. -/
theorem IsN.sized (h : IsN w c x) (n : Int) : IsN (w.setCell ⟨c.p, 3, none⟩ (.int .i64 n)) c { x with size := n } ∧ Chg w (w.setCell ⟨c.p, 3, none⟩ (.int .i64 n)) (· = c.p) := by
  have hc : Chg w (w.setCell ⟨c.p, 3, none⟩ (.int .i64 n)) (· = c.p) := Chg.setCell
  refine ⟨⟨heap_setCell_same w c.p 3 _ _ _ h.me, h.bl.keep hc (fun e => h.pNe.1 e.symm), h.sl.keep hc (fun j e e2 => (h.ownNe e).1 e2), h.nm.keep hc (fun e => h.pNe.2 e.symm), h.cn, h.ne, h.len, h.dom⟩, hc⟩
end
end Go.Proofs.YtbkddnibcpjkgaaDoor
