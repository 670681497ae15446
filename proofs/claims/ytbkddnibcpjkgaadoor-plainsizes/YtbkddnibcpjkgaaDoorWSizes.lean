/-
  The walk of PlainSizes.
-/
import Derived.Test.YtbkddnibcpjkgaaDoorQP
import Derived.Test.YtbkddnibcpjkgaaDoorQX
namespace Go.Proofs.YtbkddnibcpjkgaaDoor
open Go.RowKit

def pR : ByteArray := ⟨#[47]⟩
theorem split_R : splitR pR.data.toList = ([], 0) := by kernel_rfl
theorem ls_R {ls : List ByteArray} (h : datas ls = (splitR pR.data.toList).1) : ls = [] := datas_inj (h.trans (by rw [split_R]; rfl))
section
variable {n m : Int}
theorem new_1 : (newS n m).nd 1 = some (newNd 2 0) := rfl
theorem new_o {j : Int} (h : j ≠ 1) : (newS n m).nd j = none := if_neg h
theorem ok_new : OkS (newS n m) := ⟨(by rw [new_1]; intro e; cases e), fun i x n k hx hn => by
  by_cases e : i = 1
  · subst e
    rw [new_1] at hx
    cases hx
    cases hn
  · rw [new_o e] at hx
    cases hx⟩
theorem taken_new : takenN (newS n m) = 0 := by
  rw [taken_one (i := 1) (x := newNd 2 0) (by decide) new_1 (fun j _ hj => new_o (by omega))]
  exact cardN_none (blk_new 2 0) rfl
theorem nodes_new : nodesN (newS n m) = 1 := nodes_K0
theorem ans_new : ansS 1 (newNd 2 0) = #[.int .i64 0, .int .i64 1, .int .i64 2, .int .i64 1, .int .i64 0, .int .i64 0, .int .i64 0, .slice none 0 0, .slice none 0 0, .bool false] := by
  unfold ansS
  rw [cardN_none (blk_new 2 0) rfl]
  rfl
theorem ansS_ok2 : (ansS 1 (newNd 2 0)).size = 10 ∧ (ansS 1 (newNd 2 0)).all (·.oneCell') = true := by
  rw [ans_new]
  exact ⟨rfl, by simp [Value.oneCell']⟩
theorem s_stat {w0 w : World} {q : PC} (h : IsPl w q (newS n m)) (hch : Chg w0 w No) (hu : UB w0) (hm : ML w0) :
    Calls Tryd.prog 8 #[.pointer (some ⟨q.p, 0, none⟩), .agg (opA 10 pR sZ 0 0 none 0 0 0 0)] w fun e w' => e = .returned (.agg (ansS 1 (newNd 2 0))) ∧ Chg w w' No := by
  obtain ⟨c, x, hqc, hsx, hN, _, _⟩ := h.at_ (i := 1) (by rw [new_1]; intro e; cases e)
  rw [new_1] at hsx
  cases hsx
  refine (do_stat (q := q) pR sZ 0 0 none 0 0 0 0 1 w (fun A _ => A = ansS 1 (newNd 2 0)) No (fun _ e => e.elim) (hu.keep hch (fun e => e)) (hm.keep hch (fun _ e => e.elim)) (by kernel_rfl) (by decide) (by decide) (by rw [split_R]) ?_ ?_ ?_).mono ?_
  · intro W a ls hc hd hl
    obtain rfl := ls_R hd
    exact walk_any [] a ([] : List ByteArray).length W (h.call hc) ok_new hl (by decide) (fun _ e => by cases e)
  · intro W hc
    refine (doAt_stat (c := c) (x := newNd 2 0) 1 pR sZ 0 0 none 0 0 0 0 W (h.call hc) hqc new_1).mono ?_
    rintro e w' ⟨rfl, hc'⟩
    exact ⟨_, rfl, ansS_ok2.1, ansS_ok2.2, rfl, hc'⟩
  · rintro A w1 w2 r o rfl ho hp
    rfl
  · rintro e w' ⟨A, rfl, rfl, hc⟩
    exact ⟨rfl, hc⟩
theorem s_list {w0 w : World} {q : PC} (h : IsPl w q (newS n m)) (hch : Chg w0 w No) (hu : UB w0) (hm : ML w0) :
    Calls Tryd.prog 8 #[.pointer (some ⟨q.p, 0, none⟩), .agg (opA 11 pR sZ 0 0 none 0 0 0 0)] w fun e w' => e = .returned (.agg (ansE 0)) ∧ Chg w w' No := by
  obtain ⟨c, x, hqc, hsx, hN, _, _⟩ := h.at_ (i := 1) (by rw [new_1]; intro e; cases e)
  rw [new_1] at hsx
  cases hsx
  refine (do_list (q := q) pR sZ 0 0 none 0 0 0 0 1 w (fun A _ => A = ansE 0) No (fun _ e => e.elim) (hu.keep hch (fun e => e)) (hm.keep hch (fun _ e => e.elim)) (by kernel_rfl) (by decide) (by decide) (by rw [split_R]) ?_ ?_ ?_).mono ?_
  · intro W a ls hc hd hl
    obtain rfl := ls_R hd
    exact walk_any [] a ([] : List ByteArray).length W (h.call hc) ok_new hl (by decide) (fun _ e => by cases e)
  · intro W hc
    refine (doAt_list (c := c) (x := newNd 2 0) 1 pR sZ 0 0 none 0 0 0 0 W (h.call hc) hqc new_1 rfl (fun W2 hc2 => list_none W2 ((hN.call hc).call hc2) rfl)).mono ?_
    rintro e w' ⟨rfl, hc'⟩
    exact ⟨_, rfl, (ansE_ok 0).1, (ansE_ok 0).2, rfl, hc'⟩
  · rintro A w1 w2 r o rfl ho hp
    rfl
  · rintro e w' ⟨A, rfl, rfl, hc⟩
    exact ⟨rfl, hc⟩
end

theorem eqFields_self (d : Nat) (xs ys : Array Value) : ∀ (fs : List Field) (w : World), (∀ f ∈ fs, f.name ≠ "_" ∧ ∀ w, ∃ a b, (part f.type xs f.offset).run Tryd.prog w = .ok a w ∧ (part f.type ys f.offset).run Tryd.prog w = .ok b w ∧ (Op.equalIn d f.type a b).run Tryd.prog w = .ok true w) →
    (Op.eqFields d xs ys fs).run Tryd.prog w = .ok true w
  | [], w, _ => by simp [Op.eqFields]
  | f :: fs, w, h => by
    obtain ⟨hn, hf⟩ := h f (by simp)
    obtain ⟨a, b, h1, h2, h3⟩ := hf w
    simp only [Op.eqFields, hn, ne_eq, not_false_eq_true, if_true, Sem.run_bind, h1, h2, h3, Result.andThen_ok, Bool.not_true, Bool.false_eq_true, if_false]
    exact eqFields_self d xs ys fs w fun g hg => h g (by simp [hg])
theorem part_at (A : Array Value) (j : Nat) (x : Int) (h : A[j]? = some (.int .i64 x)) (w : World) : (part 3 A j).run Tryd.prog w = .ok (.int .i64 x) w := by
  have hag : (isAgg 3).run Tryd.prog w = .ok false w := by kernel_rfl
  simp only [part, Sem.run_bind, hag, Result.andThen_ok, Bool.false_eq_true, if_false, h, Sem.run_pure, Sem.run_ite]
theorem eq_room (a b c : Int) (w : World) : (Op.equalIn 10000 42 (.agg #[.int .i64 a, .int .i64 b, .int .i64 c]) (.agg #[.int .i64 a, .int .i64 b, .int .i64 c])).run Tryd.prog w = .ok true w := by
  have hfm : ((Tryd.prog.fieldsOf 42).toList.map fun f => (f.type, f.offset)) = [(3, 0), (3, 1), (3, 2)] := by kernel_rfl
  have hnm : ((Tryd.prog.fieldsOf 42).toList.all fun f => f.name != "_") = true := by kernel_rfl
  rw [run_equalIn_struct w 9999 42 _ _ (by kernel_rfl) (by kernel_rfl)]
  refine eqFields_self 9999 _ _ _ w (fun f hf => ⟨by simpa using List.all_eq_true.1 hnm f hf, fun w => ?_⟩)
  have hm : (f.type, f.offset) ∈ ([(3, 0), (3, 1), (3, 2)] : List (TypeId × Nat)) := by rw [← hfm]; exact List.mem_map_of_mem hf
  simp only [List.mem_cons, Prod.mk.injEq, List.not_mem_nil, or_false] at hm
  rcases hm with ⟨h1, h2⟩ | ⟨h1, h2⟩ | ⟨h1, h2⟩
  all_goals
    rw [h1, h2]
    exact ⟨_, _, part_at _ _ _ rfl w, part_at _ _ _ rfl w, (run_equalIn_int _ 9998 3 .i64 .i64 _ _ Tryd.underlying3).trans (by rw [beq_self_eq_true])⟩
theorem s_room {n m : Int} {w : World} {q : PC} (h : IsPl w q (newS n m)) (hs : SizeOk n m) :
    Calls Tryd.prog 9 #[.pointer (some ⟨q.p, 0, none⟩)] w fun e w' => e = .returned (.agg #[.int .i64 (n - 1 - m), .int .i64 0, .int .i64 (m - 1)]) ∧ Chg w w' No := by
  obtain ⟨h1, h2, h3, h4, h5⟩ := hs
  have hr := room_any w h ⟨by show 0 ≤ n - 1 - m; omega, by show n - 1 - m ≤ 5000; omega, by show 0 ≤ m; omega, by show m ≤ 5000; omega⟩
  rw [taken_new, nodes_new] at hr
  have e1 : (newS n m).data - ((0 : Nat) : Int) = n - 1 - m := by show n - 1 - m - 0 = _; omega
  rw [e1] at hr
  exact hr
theorem part_ok2 (j : Nat) (v : Value) (hj : (#[.int .i64 1, .int .i64 2, .int .i64 1, .int .i64 0, .int .i64 0, .int .i64 0] : Array Value)[j]? = some v) :
    (#[.int .i64 0, .int .i64 1, .int .i64 2, .int .i64 1, .int .i64 0, .int .i64 0, .int .i64 0, .slice none 0 0, .slice none 0 0, .bool false] : Array Value)[1 + j]? = some v := by
  match j, hj with
  | 0, h => exact h
  | 1, h => exact h
  | 2, h => exact h
  | 3, h => exact h
  | 4, h => exact h
  | 5, h => exact h
  | n + 6, h => simp at h
section
variable {ops : Array Oper} {rest : List Oper} {o : Oper} {a : Act} {w : World} {Q : Exit → Act → World → Prop}
theorem load_partG (hw : Region.wanted o (yielded ops a.tmps) = true) (t : TypeId) (x : Operand) (ho : o.op = .load t x) (g off : Nat) (hx : a.eval x = .pointer (some ⟨g, off, none⟩)) (tb : TypeId) (c xs : Array Value) (d : TypeDesc) (hg : w.heap[g]? = some (.cells c tb (0, 0))) (hxs : ∀ (j : Nat) v, xs[j]? = some v → c[off + j]? = some v)
    (hu : Tryd.prog.underlying t = some d) (hd : d.isRow = true) (hi : (Tryd.prog.info? t).map (·.size) = some xs.size)
    (h : wpList Tryd.prog ops Q rest (a.put o.dst (.agg xs)) w) : wpList Tryd.prog ops Q (o :: rest) a w :=
  wpList_want hw fun _ hK => by
    have hp : (loadVar t ⟨g, off, none⟩).run Tryd.prog w = .ok (.agg xs) w := by
      have h := run_loadVar_mid (P := Tryd.prog) w g off t xs.toList d (fun j v hv => by rw [cell_of_row _ _ _ _ tb (0, 0) hg]; exact hxs j v (by simpa using hv)) hu hd (by simpa using hi)
      simpa using h
    unfold Oper.wp execOp
    simp only [ho, hx, Instr.loadAt, Instr.sureAddr, Sem.run_bind, Sem.run_pure, Result.andThen_ok, hp]
    exact hK _ _ h
end

set_option maxHeartbeats 4000000 in
set_option maxRecDepth 100000 in
theorem sizes_walk (n m : Int) (w : World) (hu : UB w) (hm : ML w) : Calls Tryd.prog 4 #[.int .i64 n, .int .i64 m] w fun e w' => e = .returned (.bool true) ∧ Below w.heap.size w w' := by
  have hkn : ∀ W, Chg w W No → Calls Tryd.prog 5 #[] W fun e w' => e = .returned (.bool true) ∧ Chg W w' No := fun W hW => known_any W (hu.keep hW (fun e => e)) (hm.keep hW (fun _ e => e.elim))
  have HK := hid hkn
  have HU := hid hu
  have HM := hid hm
  have hb1 : ∀ W, (Instr.build 40 #[(0, .int .i64 10), (1, .string ⟨#[47]⟩)]).run Tryd.prog W = .ok (.agg #[.int .i64 10, .string ⟨#[47]⟩, .string ⟨#[]⟩, .int .i64 0, .int .i64 0, .slice none 0 0, .int .i64 0, .int .i64 0]) W := fun W => by kernel_rfl
  have hb2 : ∀ W, (Instr.build 40 #[(0, .int .i64 11), (1, .string ⟨#[47]⟩)]).run Tryd.prog W = .ok (.agg #[.int .i64 11, .string ⟨#[47]⟩, .string ⟨#[]⟩, .int .i64 0, .int .i64 0, .slice none 0 0, .int .i64 0, .int .i64 0]) W := fun W => by kernel_rfl
  have hb3 : ∀ W, (Instr.build 33 #[(0, .int .i64 1), (1, .int .i64 2), (2, .int .i64 1)]).run Tryd.prog W = .ok (.agg #[.int .i64 1, .int .i64 2, .int .i64 1, .int .i64 0, .int .i64 0, .int .i64 0]) W := fun W => by kernel_rfl
  have hb4 : ∀ W (x y : Int), (Instr.build 42 #[(0, .int .i64 x), (2, .int .i64 y)]).run Tryd.prog W = .ok (.agg #[.int .i64 x, .int .i64 0, .int .i64 y]) W := fun W x y => by kernel_rfl
  clear hu hm hkn
  by_cases hs : SizeOk n m
  · have hNew := new_good n m w hs
    have hR : ∀ W, Calls Tryd.prog 7 #[.int .i64 n, .int .i64 m] W fun e w' => (∃ A : Array Value, e = .returned (.tuple #[.agg A, .int .i64 0]) ∧ OkT A) ∧ Chg W w' No := fun W => rnew2_good n m W hs
    have HR := hid hR
    have HS := hid hs
    clear hR hs
    go_enter Tryd.func4, Tryd.ntmps4
    go_upto_region 2 with (first
      | (go_at_call 6; go_must (refine hNew.mono ?_; rintro e w1 ⟨q, rfl, hP1, hc1, _, _, _⟩; have HP1 := hid hP1; have HC1 := hid hc1; clear hP1 hc1))
      | fail)
    have hRn := HR.out w1
    clear hNew
    go_upto_region 3 with (first
      | (go_at_call 7; go_must (refine hRn.mono ?_; rintro e w2 ⟨⟨A, rfl, hAz, hAo⟩, hc2⟩; have HAz := hid hAz; have HAo := hid hAo; have HC2 := hid hc2; clear hAz hAo hc2))
      | (refine store_R rfl 29 _ _ rfl w2.heap.size A rfl rfl 29 _ (heap_alloc_new _ _) (by rw [szTr, HAz.out]) (by rw [HAz.out]; rfl) HAo.out ?_; intro w3 hw3)
      | fail)
    have h13 : Chg w1 w3 No := (HC2.out.tr (Chg.alloc w2 _ No)).trans (kt_new hw3) (fun _ _ e => e) (fun j hj e => by have := HC2.out.size; omega)
    have HP3 := hid (HP1.out.call h13)
    have HC3 := hid (HC1.out.tr h13)
    have hKn := HK.out w3 HC3.out
    clear hRn h13 hw3 HC2 HAo HAz HP1 HC1 HR
    go_upto_region 7 with (first
      | (go_at_call 5; go_must (refine hKn.mono ?_; rintro e w4 ⟨rfl, hc4⟩; have HP4 := hid (HP3.out.call hc4); have HC4 := hid (HC3.out.tr hc4); clear hc4))
      | fail)
    have hSt := s_stat HP4.out HC4.out HU.out HM.out
    rw [ans_new] at hSt
    unfold opA pR sZ at hSt
    clear hKn HP3 HC3
    go_upto_region 8 with (first
      | (go_at_call 8; go_must (refine hSt.mono ?_; rintro e w5 ⟨rfl, hc5⟩; have HC5 := hid hc5; clear hc5))
      | (refine store_R rfl 37 _ _ rfl w5.heap.size #[.int .i64 0, .int .i64 1, .int .i64 2, .int .i64 1, .int .i64 0, .int .i64 0, .int .i64 0, .slice none 0 0, .slice none 0 0, .bool false] rfl rfl 37 _ (heap_alloc_new _ _) (by rw [szAn]; rfl) rfl (by simp [Value.oneCell']) ?_; intro w6 hw6)
      | fail)
    obtain ⟨hP6, hC6, _⟩ := laid_answer (HP4.out.call HC5.out) (HC4.out.tr HC5.out) hw6
    have HA6 := hid hw6.here
    obtain ⟨g6, hg6⟩ : ∃ y, y = w5.heap.size := ⟨_, rfl⟩
    rw [← hg6] at HA6 ⊢
    have HP6 := hid hP6
    have HC6 := hid hC6
    have hLi := s_list hP6 hC6 HU.out HM.out
    unfold opA pR sZ ansE at hLi
    clear hP6 hC6 hw6 hg6 hSt HP4 HC4 HC5
    go_upto_region 9 with (first
      | (go_at_call 8; go_must (refine hLi.mono ?_; rintro e w7 ⟨rfl, hc7⟩; have HC7 := hid hc7; clear hc7))
      | (refine store_R rfl 37 _ _ rfl w7.heap.size #[.int .i64 0, .int .i64 0, .int .i64 0, .int .i64 0, .int .i64 0, .int .i64 0, .int .i64 0, .slice none 0 0, .slice none 0 0, .bool false] rfl rfl 37 _ (heap_alloc_new _ _) (by rw [szAn]; rfl) rfl (by simp [Value.oneCell']) ?_; intro w8 hw8)
      | fail)
    obtain ⟨hP8, hC8, h78⟩ := laid_answer (HP6.out.call HC7.out) (HC6.out.tr HC7.out) hw8
    have HB8 := hid hw8.here
    obtain ⟨g8, hg8⟩ : ∃ y, y = w7.heap.size := ⟨_, rfl⟩
    rw [← hg8] at HB8 ⊢
    have HA8 := hid ((HC7.out.tr h78).keep HA6.out (fun e => e))
    have HC8 := hid hC8
    have hRm := s_room hP8 HS.out
    have q6 : w8.cell? ⟨g6, 0, none⟩ = some (.int .i64 0) := (cell_of_row _ _ _ _ _ _ HA8.out).trans rfl
    have q8 : w8.cell? ⟨g8, 0, none⟩ = some (.int .i64 0) := (cell_of_row _ _ _ _ _ _ HB8.out).trans rfl
    have q9 : w8.cell? ⟨g8, 8, none⟩ = some (.slice none 0 0) := (cell_of_row _ _ _ _ _ _ HB8.out).trans rfl
    obtain ⟨k1, k2, k3, k4, k5⟩ := HS.out
    clear hP8 hC8 h78 hw8 hg8 hLi HP6 HC6 HC7 HA6 HB8
    go_wp2_with (first
      | (refine load_partG (by rfl) 33 _ rfl g6 1 rfl 37 _ #[.int .i64 1, .int .i64 2, .int .i64 1, .int .i64 0, .int .i64 0, .int .i64 0] _ HA8.out part_ok2 Tryd.underlying33 rfl (by rw [szSt]; rfl) ?_)
      | (refine eql_R (by rfl) 33 _ _ rfl _ _ true rfl rfl (fun w => by kernel_rfl) (by kernel_rfl) ?_)
      | (go_at_call 9; go_must (refine hRm.mono ?_; rintro e w10 ⟨rfl, hc10⟩; have HC10 := hid hc10; clear hc10))
      | (refine eql_R (by rfl) 42 _ _ rfl _ _ true rfl rfl (fun w => eq_room _ _ _ w) (by kernel_rfl) ?_)
      | fail)
    go_ret
    exact ⟨rfl, (HC8.out.tr HC10.out).below⟩
  · have hNew := new_bad n m w hs
    have hRn := rnew2_bad n m w hs
    clear hs hb1 hb2 hb3 hb4
    go_enter Tryd.func4, Tryd.ntmps4
    go_upto_region 3 with (first
      | (go_at_call 6; go_must (refine hNew.mono ?_; rintro e w1 ⟨rfl, rfl⟩))
      | (go_at_call 7; go_must (refine hRn.mono ?_; rintro e w2 ⟨⟨A, rfl, hAz, hAo⟩, hc2⟩; have HAz := hid hAz; have HAo := hid hAo; have HC2 := hid hc2; clear hAz hAo hc2))
      | (refine store_R rfl 29 _ _ rfl w2.heap.size A rfl rfl 29 _ (heap_alloc_new _ _) (by rw [szTr, HAz.out]) (by rw [HAz.out]; rfl) HAo.out ?_; intro w3 hw3)
      | fail)
    have hC3 : Chg _ w3 No := (HC2.out.tr (Chg.alloc w2 _ No)).trans (kt_new hw3) (fun _ _ e => e) (fun j hj e => by have := HC2.out.size; omega)
    have HC3 := hid hC3
    have hKn := HK.out w3 HC3.out
    clear hRn hC3 hw3 HC2 HAo HAz hNew
    go_wp2_with (first
      | (go_at_call 5; go_must (refine hKn.mono ?_; rintro e w4 ⟨rfl, hc4⟩; have HC4 := hid (HC3.out.tr hc4); clear hc4))
      | fail)
    go_ret
    exact ⟨rfl, HC4.out.below⟩
end Go.Proofs.YtbkddnibcpjkgaaDoor
