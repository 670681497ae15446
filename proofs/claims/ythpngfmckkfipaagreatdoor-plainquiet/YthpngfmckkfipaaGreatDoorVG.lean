/-
  package plain: Do of any operation.
-/
import Derived.Test.YthpngfmckkfipaaGreatDoorVF
namespace Go.Proofs.YthpngfmckkfipaaGreatDoor
open Go.RowKit

theorem AnsIs.low {w : World} {B B' : Nat} {A : Array Value} {an : Ans} (h : AnsIs w B A an) (hb : B' ≤ B) : AnsIs w B' A an := by
  cases an with
  | err e => exact h
  | stat i x => exact h
  | data ds =>
    obtain ⟨g, h1, h2, h3⟩ := h
    exact ⟨g, h1, h2, Nat.le_trans hb h3⟩
  | list es =>
    obtain ⟨v, h1, h2⟩ := h
    exact ⟨v, h1, h2.low hb⟩
theorem walkL_bad {s : PSt} : ∀ (l : List ByteArray) (i : Int), (walkL s l i).2 ≠ 0 → (walkL s l i).1 = 0
  | [], i, h => absurd rfl h
  | n :: l, i, h => by
    cases hx : s.nd i with
    | none =>
      unfold walkL
      rw [hx]
    | some x =>
      rw [walkL_step hx] at h ⊢
      by_cases hk : x.kind = 2
      · rw [if_pos hk] at h ⊢
        cases hf : findN x n with
        | none => rfl
        | some j =>
          rw [hf] at h
          exact walkL_bad l j h
      · rw [if_neg hk]
theorem names_is {p : ByteArray} {ls : List ByteArray} (h : datas ls = (splitR p.data.toList).1) : ls = namesOf p := by
  refine datas_inj (h.trans ?_)
  unfold namesOf datas
  rw [List.map_map]
  exact ((List.map_congr_left (g := id) fun l _ => by simp).trans (List.map_id _)).symm
theorem names_few {p : ByteArray} (h : (splitR p.data.toList).2 = 0) : (namesOf p).length ≤ 1000 := by
  have hk := split_ok (l := p.data.toList) (xs := (splitR p.data.toList).1) (by rw [← h])
  have : ∀ xs : List (List UInt8), xs.length ≤ sizes xs := fun xs => by
    induction xs with
    | nil => exact Nat.zero_le _
    | cons x xs ih =>
      unfold sizes at ih ⊢
      simp only [List.map_cons, List.sum_cons, List.length_cons]
      omega
  have := this (splitR p.data.toList).1
  unfold namesOf
  rw [List.length_map]
  omega
theorem mayBe_no (o : OpS) (da : Option Addr) (dc : Nat) (w : World) (hu : UB w) (h : ¬ okOp o) :
    Calls Tryz.prog 19 #[.agg (opA o.kind o.path o.tto o.off o.len da o.data.length dc o.made o.pick)] w fun e w' => e = .returned (.bool false) ∧ Chg w w' No := by
  by_cases h1 : o.kind < 1
  · exact mayBe_low o.kind o.path o.tto o.off o.len da o.data.length dc o.made o.pick w h1
  by_cases h2 : 14 < o.kind
  · exact mayBe_high o.kind o.path o.tto o.off o.len da o.data.length dc o.made o.pick w h2
  obtain ⟨k, hk⟩ : ∃ k : Nat, o.kind = (k : Int) := ⟨o.kind.toNat, by omega⟩
  unfold okOp at h
  rw [hk, Int.toNat_natCast] at h
  rw [hk]
  by_cases hz : bits .andNot .i64 (givF o.path o.tto o.off o.len o.data.length o.made o.pick) (usedL.getD k 0) = 0
  · by_cases h3 : o.made < 0
    · exact mayBe_neg k o.path o.tto o.off o.len da o.data.length dc o.made o.pick w hu (by omega) (by omega) hz h3
    · exact mayBe_far k o.path o.tto o.off o.len da o.data.length dc o.made o.pick w hu (by omega) (by omega) hz (by
        refine Classical.byContradiction fun c => h ⟨by omega, hz, by omega, by omega⟩)
  · exact mayBe_used k o.path o.tto o.off o.len da o.data.length dc o.made o.pick w hu (by omega) (by omega) hz
set_option maxHeartbeats 2000000 in
/-- Do: the answer, and what it leaves. -/
theorem do_any {q : PC} {s : PSt} (o : OpS) (da : Option Addr) (dc : Nat) (w : World) (h : IsPl w q s) (hi : Inv s) (hu : UB w) (hm : ML w) (hd : DatAt w q da dc o.data) :
    Calls Tryz.prog 10 #[.pointer (some ⟨q.p, 0, none⟩), .agg (opA o.kind o.path o.tto o.off o.len da o.data.length dc o.made o.pick)] w fun e w' => ∃ A, e = .returned (.agg A) ∧ AnsIs w' w.heap.size A (doS s o).2 ∧ Left q (doS s o).1 w w' := by
  have ho := InvD.okS hi
  have hE : ∀ E (e : Ending) (w' : World), e = .returned (.agg (ansE E)) ∧ Chg w w' No → ∃ A, e = .returned (.agg A) ∧ AnsIs w' w.heap.size A (.err E) ∧ Left q s w w' := fun E e w' ⟨h1, hc⟩ => ⟨_, h1, rfl, Left.same h hc⟩
  have hks : ∀ k, PBlk q k → k < w.heap.size := fun k e => h.blkLt e
  have hRp : ∀ (s' : PSt) (w1 w2 : World) (r o : Array Value), (∃ q', IsPl w1 q' s' ∧ Nxt w q q') → w1.heap[w.heap.size + 1]? = some (.cells o 41 (0, 0)) → PutR w1 (w.heap.size + 1) r 41 w2 → ∃ q', IsPl w2 q' s' ∧ Nxt w q q' := fun s' w1 w2 r o ⟨q', h1, h2⟩ hg hp => ⟨q', h1.putR hp hg, h2⟩
  unfold doS
  by_cases e0 : okOp o
  · rw [if_neg (fun c => c e0)]
    obtain ⟨⟨r1, r2⟩, hz, hm0, hm1⟩ := e0
    by_cases e1 : o.kind = 12 ∨ o.kind = 14
    · rw [if_pos e1]
      rcases e1 with k | k
      · rw [k] at hz ⊢
        exact (do_sync o.path o.tto o.off o.len da o.data.length dc o.made o.pick w hu hz hm0 hm1).mono (hE 0)
      · rw [k] at hz ⊢
        exact (do_flush o.path o.tto o.off o.len da o.data.length dc o.made o.pick w hu hz hm0 hm1).mono (hE 0)
    rw [if_neg e1]
    by_cases e2 : (splitR o.path.data.toList).2 = 0
    · rw [if_neg (fun c => c e2)]
      have hn := namesOf_ok e2
      have hf := names_few e2
      by_cases e3 : (o.kind = 3 ∨ o.kind = 6) ∧ (splitR o.tto.data.toList).2 ≠ 0
      · rw [if_pos e3]
        rcases e3.1 with k | k
        · rw [k] at hz ⊢
          exact (do_tbad3 o.path o.tto o.off o.len da o.data.length dc o.made o.pick w hu hm hz hm0 hm1 _ rfl e2 e3.2).mono (hE _)
        · rw [k] at hz ⊢
          exact (do_tbad6 o.path o.tto o.off o.len da o.data.length dc o.made o.pick w hu hm hz hm0 hm1 _ rfl e2 e3.2).mono (hE _)
      rw [if_neg e3]
      have e4 : o.kind = 3 ∨ o.kind = 6 → (splitR o.tto.data.toList).2 = 0 := fun c => Classical.byContradiction fun c2 => e3 ⟨c, c2⟩
      by_cases k1 : o.kind = 1
      · rw [if_pos k1]
        rw [k1] at hz ⊢
        refine (do_create (q := q) o.path o.tto o.off o.len da o.data.length dc o.made o.pick w (fun A w' => AnsIs w' w.heap.size A (makeOp s (namesOf o.path) 1 o.made).2 ∧ ∃ q', IsPl w' q' (makeOp s (namesOf o.path) 1 o.made).1 ∧ Nxt w q q') (PBlk q) hks hu hm hz hm0 hm1 e2 (fun W a ls hW hl hL => ?_) (fun A w1 w2 r o h1 h2 h3 => ⟨h1.1.put h3 h2, hRp _ w1 w2 r o h1.2 h2 h3⟩)).mono ?_
        · have hls := names_is hl
          subst hls
          refine (make_any (namesOf o.path) a 1 o.made W (h.call hW) hi hL hf hn w.heap.size).mono ?_
          rintro e w' ⟨A, rfl, h1, h2, h3, ⟨q', h4, h5⟩, h6⟩
          exact ⟨A, rfl, h1, h2, ⟨h3, q', h4, h5.from hW.size⟩, h6⟩
        · rintro e w' ⟨A, rfl, ⟨h1, h2⟩, h3⟩
          exact ⟨A, rfl, h1, h2, h3⟩
      rw [if_neg k1]
      by_cases k2 : o.kind = 2
      · rw [if_pos k2]
        rw [k2] at hz ⊢
        refine (do_mkdir (q := q) o.path o.tto o.off o.len da o.data.length dc o.made o.pick w (fun A w' => AnsIs w' w.heap.size A (makeOp s (namesOf o.path) 2 o.made).2 ∧ ∃ q', IsPl w' q' (makeOp s (namesOf o.path) 2 o.made).1 ∧ Nxt w q q') (PBlk q) hks hu hm hz hm0 hm1 e2 (fun W a ls hW hl hL => ?_) (fun A w1 w2 r o h1 h2 h3 => ⟨h1.1.put h3 h2, hRp _ w1 w2 r o h1.2 h2 h3⟩)).mono ?_
        · have hls := names_is hl
          subst hls
          refine (make_any (namesOf o.path) a 2 o.made W (h.call hW) hi hL hf hn w.heap.size).mono ?_
          rintro e w' ⟨A, rfl, h1, h2, h3, ⟨q', h4, h5⟩, h6⟩
          exact ⟨A, rfl, h1, h2, ⟨h3, q', h4, h5.from hW.size⟩, h6⟩
        · rintro e w' ⟨A, rfl, ⟨h1, h2⟩, h3⟩
          exact ⟨A, rfl, h1, h2, h3⟩
      rw [if_neg k2]
      by_cases k3 : o.kind = 3
      · rw [if_pos k3]
        have e5 := e4 (by omega)
        rw [k3] at hz ⊢
        have hnt := namesOf_ok e5
        have hft := names_few e5
        refine (do_link (q := q) o.path o.tto o.off o.len da o.data.length dc o.made o.pick w (fun E w' => E = (linkOp s (namesOf o.path) (namesOf o.tto)).2 ∧ ∃ q', IsPl w' q' (linkOp s (namesOf o.path) (namesOf o.tto)).1 ∧ Nxt w q q') (PBlk q) hks hu hm hz hm0 hm1 e2 e5 (fun W a ls b ts hW hl hL ht hT => ?_) (fun A w1 w2 r o h1 h2 h3 => ⟨h1.1, hRp _ w1 w2 r o h1.2 h2 h3⟩)).mono ?_
        · have hls := names_is hl
          have hts := names_is ht
          subst hls hts
          refine (link_any (namesOf o.path) (namesOf o.tto) a b W (h.call hW) hi hL hf hn hT hft hnt).mono ?_
          rintro e w' ⟨rfl, ⟨q', h4, h5⟩, h6⟩
          exact ⟨_, rfl, ⟨rfl, q', h4, h5.from hW.size⟩, h6⟩
        · rintro e w' ⟨E, rfl, ⟨rfl, h2⟩, h3⟩
          exact ⟨_, rfl, rfl, h2, h3⟩
      rw [if_neg k3]
      by_cases k4 : o.kind = 4
      · rw [if_pos k4]
        rw [k4] at hz ⊢
        refine (do_unlink (q := q) o.path o.tto o.off o.len da o.data.length dc o.made o.pick w (fun E w' => E = (unlinkOp s (namesOf o.path)).2 ∧ ∃ q', IsPl w' q' (unlinkOp s (namesOf o.path)).1 ∧ Nxt w q q') (PBlk q) hks hu hm hz hm0 hm1 e2 (fun W a ls hW hl hL => ?_) (fun A w1 w2 r o h1 h2 h3 => ⟨h1.1, hRp _ w1 w2 r o h1.2 h2 h3⟩)).mono ?_
        · have hls := names_is hl
          subst hls
          refine (unlink_any (namesOf o.path) a W (h.call hW) hi hL hf hn).mono ?_
          rintro e w' ⟨rfl, ⟨q', h4, h5⟩, h6⟩
          exact ⟨_, rfl, ⟨rfl, q', h4, h5.from hW.size⟩, h6⟩
        · rintro e w' ⟨E, rfl, ⟨rfl, h2⟩, h3⟩
          exact ⟨_, rfl, rfl, h2, h3⟩
      rw [if_neg k4]
      by_cases k5 : o.kind = 5
      · rw [if_pos k5]
        rw [k5] at hz ⊢
        refine (do_rmdir (q := q) o.path o.tto o.off o.len da o.data.length dc o.made o.pick w (fun E w' => E = (rmdirOp s (namesOf o.path)).2 ∧ ∃ q', IsPl w' q' (rmdirOp s (namesOf o.path)).1 ∧ Nxt w q q') (PBlk q) hks hu hm hz hm0 hm1 e2 (fun W a ls hW hl hL => ?_) (fun A w1 w2 r o h1 h2 h3 => ⟨h1.1, hRp _ w1 w2 r o h1.2 h2 h3⟩)).mono ?_
        · have hls := names_is hl
          subst hls
          refine (rmdir_any (namesOf o.path) a W (h.call hW) hi hL hf hn).mono ?_
          rintro e w' ⟨rfl, ⟨q', h4, h5⟩, h6⟩
          exact ⟨_, rfl, ⟨rfl, q', h4, h5.from hW.size⟩, h6⟩
        · rintro e w' ⟨E, rfl, ⟨rfl, h2⟩, h3⟩
          exact ⟨_, rfl, rfl, h2, h3⟩
      rw [if_neg k5]
      by_cases k6 : o.kind = 6
      · rw [if_pos k6]
        have e5 := e4 (by omega)
        rw [k6] at hz ⊢
        have hnt := namesOf_ok e5
        have hft := names_few e5
        refine (do_rename (q := q) o.path o.tto o.off o.len da o.data.length dc o.made o.pick w (fun E w' => E = (renameOp s (namesOf o.path) (namesOf o.tto)).2 ∧ ∃ q', IsPl w' q' (renameOp s (namesOf o.path) (namesOf o.tto)).1 ∧ Nxt w q q') (PBlk q) hks hu hm hz hm0 hm1 e2 e5 (fun W a ls b ts hW hl hL ht hT => ?_) (fun A w1 w2 r o h1 h2 h3 => ⟨h1.1, hRp _ w1 w2 r o h1.2 h2 h3⟩)).mono ?_
        · have hls := names_is hl
          have hts := names_is ht
          subst hls hts
          refine (rename_any (namesOf o.path) (namesOf o.tto) a b W (h.call hW) hi hL hf hn hT hft hnt).mono ?_
          rintro e w' ⟨rfl, ⟨q', h4, h5⟩, h6⟩
          exact ⟨_, rfl, ⟨rfl, q', h4, h5.from hW.size⟩, h6⟩
        · rintro e w' ⟨E, rfl, ⟨rfl, h2⟩, h3⟩
          exact ⟨_, rfl, rfl, h2, h3⟩
      rw [if_neg k6]
      have hnm' : ∀ x ∈ namesOf o.path, x.size ≤ 1000 := fun x hx => nm_size' (hn x hx)
      by_cases kw : (walkL s (namesOf o.path) 1).2 = 0
      · rw [if_neg (fun c => c kw)]
        have hWk : ∀ W a ls, Chg w W No → datas ls = (splitR o.path.data.toList).1 → LAt W a ls → Calls Tryz.prog 26 #[.pointer (some ⟨q.p, 0, none⟩), .slice a ls.length ls.length] W fun e w' => e = .returned (.tuple #[.int .i64 (walkL s (namesOf o.path) 1).1, .int .i64 0]) ∧ w' = W := fun W a ls hW hl hL => by
          have hls := names_is hl
          subst hls
          have := walk_any (namesOf o.path) a (namesOf o.path).length W (h.call hW) ho hL hf hnm'
          rw [kw] at this
          exact this
        have hx := walkL_some ho (namesOf o.path) 1 ho.root kw
        have hRa : ∀ (A : Array Value) (w1 w2 : World) (r o' : Array Value), (AnsIs w1 w.heap.size A (atOp s (walkL s (namesOf o.path) 1).1 o).2 ∧ ∃ q', IsPl w1 q' (atOp s (walkL s (namesOf o.path) 1).1 o).1 ∧ Nxt w q q') → w1.heap[w.heap.size + 1]? = some (.cells o' 41 (0, 0)) → PutR w1 (w.heap.size + 1) r 41 w2 → (AnsIs w2 w.heap.size A (atOp s (walkL s (namesOf o.path) 1).1 o).2 ∧ ∃ q', IsPl w2 q' (atOp s (walkL s (namesOf o.path) 1).1 o).1 ∧ Nxt w q q') := fun A w1 w2 r o h1 h2 h3 => ⟨h1.1.put h3 h2, hRp _ w1 w2 r o h1.2 h2 h3⟩
        have hM : ∀ (k : Int), o.kind = k → (k = 7 ∨ k = 8 ∨ k = 9 ∨ k = 10 ∨ k = 11 ∨ k = 13) → ∀ W, Chg w W No → Calls Tryz.prog 27 #[.pointer (some ⟨q.p, 0, none⟩), .int .i64 (walkL s (namesOf o.path) 1).1, .agg (opA k o.path o.tto o.off o.len da o.data.length dc o.made o.pick)] W fun e w' => ∃ A, e = .returned (.agg A) ∧ A.size = 10 ∧ A.all (·.oneCell') = true ∧ (AnsIs w' w.heap.size A (atOp s (walkL s (namesOf o.path) 1).1 o).2 ∧ ∃ q', IsPl w' q' (atOp s (walkL s (namesOf o.path) 1).1 o).1 ∧ Nxt w q q') ∧ Chg W w' (PBlk q) := fun k hk hkk W hW => by
          subst hk
          refine (at_any (walkL s (namesOf o.path) 1).1 o da dc W (h.call hW) hi hx (hd.call hW) hkk).mono ?_
          rintro e w' ⟨A, rfl, h1, h2, h3, ⟨q', h4, h5⟩, h6⟩
          exact ⟨A, rfl, h1, h2, ⟨h3.low hW.size, q', h4, h5.from hW.size⟩, h6⟩
        have hFin : ∀ (e : Ending) (w' : World), (∃ A, e = .returned (.agg A) ∧ (AnsIs w' w.heap.size A (atOp s (walkL s (namesOf o.path) 1).1 o).2 ∧ ∃ q', IsPl w' q' (atOp s (walkL s (namesOf o.path) 1).1 o).1 ∧ Nxt w q q') ∧ Chg w w' (PBlk q)) → ∃ A, e = .returned (.agg A) ∧ AnsIs w' w.heap.size A (atOp s (walkL s (namesOf o.path) 1).1 o).2 ∧ Left q (atOp s (walkL s (namesOf o.path) 1).1 o).1 w w' := fun e w' ⟨A, h1, h2, h3⟩ => ⟨A, h1, h2.1, h2.2, h3⟩
        have hcs : o.kind = 7 ∨ o.kind = 8 ∨ o.kind = 9 ∨ o.kind = 10 ∨ o.kind = 11 ∨ o.kind = 13 := by omega
        rcases hcs with k | k | k | k | k | k
        · have hM' := hM 7 k (by omega)
          rw [k] at hz ⊢
          exact (do_write (q := q) o.path o.tto o.off o.len da o.data.length dc o.made o.pick (walkL s (namesOf o.path) 1).1 w _ (PBlk q) hks hu hm hz hm0 hm1 e2 hWk hM' hRa).mono hFin
        · have hM' := hM 8 k (by omega)
          rw [k] at hz ⊢
          exact (do_trunc (q := q) o.path o.tto o.off o.len da o.data.length dc o.made o.pick (walkL s (namesOf o.path) 1).1 w _ (PBlk q) hks hu hm hz hm0 hm1 e2 hWk hM' hRa).mono hFin
        · have hM' := hM 9 k (by omega)
          rw [k] at hz ⊢
          exact (do_read (q := q) o.path o.tto o.off o.len da o.data.length dc o.made o.pick (walkL s (namesOf o.path) 1).1 w _ (PBlk q) hks hu hm hz hm0 hm1 e2 hWk hM' hRa).mono hFin
        · have hM' := hM 10 k (by omega)
          rw [k] at hz ⊢
          exact (do_stat (q := q) o.path o.tto o.off o.len da o.data.length dc o.made o.pick (walkL s (namesOf o.path) 1).1 w _ (PBlk q) hks hu hm hz hm0 hm1 e2 hWk hM' hRa).mono hFin
        · have hM' := hM 11 k (by omega)
          rw [k] at hz ⊢
          exact (do_list (q := q) o.path o.tto o.off o.len da o.data.length dc o.made o.pick (walkL s (namesOf o.path) 1).1 w _ (PBlk q) hks hu hm hz hm0 hm1 e2 hWk hM' hRa).mono hFin
        · have hM' := hM 13 k (by omega)
          rw [k] at hz ⊢
          exact (do_fsync (q := q) o.path o.tto o.off o.len da o.data.length dc o.made o.pick (walkL s (namesOf o.path) 1).1 w _ (PBlk q) hks hu hm hz hm0 hm1 e2 hWk hM' hRa).mono hFin
      · rw [if_pos kw]
        have hWk : ∀ W a ls, Chg w W No → datas ls = (splitR o.path.data.toList).1 → LAt W a ls → Calls Tryz.prog 26 #[.pointer (some ⟨q.p, 0, none⟩), .slice a ls.length ls.length] W fun e w' => e = .returned (.tuple #[.int .i64 0, .int .i64 (walkL s (namesOf o.path) 1).2]) ∧ w' = W := fun W a ls hW hl hL => by
          have hls := names_is hl
          subst hls
          have := walk_any (namesOf o.path) a (namesOf o.path).length W (h.call hW) ho hL hf hnm'
          rw [walkL_bad _ _ kw] at this
          exact this
        have hcs : o.kind = 7 ∨ o.kind = 8 ∨ o.kind = 9 ∨ o.kind = 10 ∨ o.kind = 11 ∨ o.kind = 13 := by omega
        rcases hcs with k | k | k | k | k | k
        · rw [k] at hz ⊢
          exact (do_bad7 (q := q) o.path o.tto o.off o.len da o.data.length dc o.made o.pick _ w kw hu hm hz hm0 hm1 e2 hWk).mono (hE _)
        · rw [k] at hz ⊢
          exact (do_bad8 (q := q) o.path o.tto o.off o.len da o.data.length dc o.made o.pick _ w kw hu hm hz hm0 hm1 e2 hWk).mono (hE _)
        · rw [k] at hz ⊢
          exact (do_bad9 (q := q) o.path o.tto o.off o.len da o.data.length dc o.made o.pick _ w kw hu hm hz hm0 hm1 e2 hWk).mono (hE _)
        · rw [k] at hz ⊢
          exact (do_bad10 (q := q) o.path o.tto o.off o.len da o.data.length dc o.made o.pick _ w kw hu hm hz hm0 hm1 e2 hWk).mono (hE _)
        · rw [k] at hz ⊢
          exact (do_bad11 (q := q) o.path o.tto o.off o.len da o.data.length dc o.made o.pick _ w kw hu hm hz hm0 hm1 e2 hWk).mono (hE _)
        · rw [k] at hz ⊢
          exact (do_bad13 (q := q) o.path o.tto o.off o.len da o.data.length dc o.made o.pick _ w kw hu hm hz hm0 hm1 e2 hWk).mono (hE _)
    · rw [if_pos e2]
      have hcs : o.kind = 1 ∨ o.kind = 2 ∨ o.kind = 3 ∨ o.kind = 4 ∨ o.kind = 5 ∨ o.kind = 6 ∨ o.kind = 7 ∨ o.kind = 8 ∨ o.kind = 9 ∨ o.kind = 10 ∨ o.kind = 11 ∨ o.kind = 13 := by omega
      rcases hcs with k | k | k | k | k | k | k | k | k | k | k | k
      · rw [k] at hz ⊢
        exact (do_sbad1 (q := q) o.path o.tto o.off o.len da o.data.length dc o.made o.pick w hu hm hz hm0 hm1 _ rfl e2).mono (hE _)
      · rw [k] at hz ⊢
        exact (do_sbad2 (q := q) o.path o.tto o.off o.len da o.data.length dc o.made o.pick w hu hm hz hm0 hm1 _ rfl e2).mono (hE _)
      · rw [k] at hz ⊢
        exact (do_sbad3 (q := q) o.path o.tto o.off o.len da o.data.length dc o.made o.pick w hu hm hz hm0 hm1 _ rfl e2).mono (hE _)
      · rw [k] at hz ⊢
        exact (do_sbad4 (q := q) o.path o.tto o.off o.len da o.data.length dc o.made o.pick w hu hm hz hm0 hm1 _ rfl e2).mono (hE _)
      · rw [k] at hz ⊢
        exact (do_sbad5 (q := q) o.path o.tto o.off o.len da o.data.length dc o.made o.pick w hu hm hz hm0 hm1 _ rfl e2).mono (hE _)
      · rw [k] at hz ⊢
        exact (do_sbad6 (q := q) o.path o.tto o.off o.len da o.data.length dc o.made o.pick w hu hm hz hm0 hm1 _ rfl e2).mono (hE _)
      · rw [k] at hz ⊢
        exact (do_sbad7 (q := q) o.path o.tto o.off o.len da o.data.length dc o.made o.pick w hu hm hz hm0 hm1 _ rfl e2).mono (hE _)
      · rw [k] at hz ⊢
        exact (do_sbad8 (q := q) o.path o.tto o.off o.len da o.data.length dc o.made o.pick w hu hm hz hm0 hm1 _ rfl e2).mono (hE _)
      · rw [k] at hz ⊢
        exact (do_sbad9 (q := q) o.path o.tto o.off o.len da o.data.length dc o.made o.pick w hu hm hz hm0 hm1 _ rfl e2).mono (hE _)
      · rw [k] at hz ⊢
        exact (do_sbad10 (q := q) o.path o.tto o.off o.len da o.data.length dc o.made o.pick w hu hm hz hm0 hm1 _ rfl e2).mono (hE _)
      · rw [k] at hz ⊢
        exact (do_sbad11 (q := q) o.path o.tto o.off o.len da o.data.length dc o.made o.pick w hu hm hz hm0 hm1 _ rfl e2).mono (hE _)
      · rw [k] at hz ⊢
        exact (do_sbad13 (q := q) o.path o.tto o.off o.len da o.data.length dc o.made o.pick w hu hm hz hm0 hm1 _ rfl e2).mono (hE _)
  · rw [if_pos e0]
    exact (do_no (q := q) o.kind o.path o.tto o.off o.len da o.data.length dc o.made o.pick w (fun W hW => mayBe_no o da dc W (hu.keep hW (fun e => e)) e0)).mono (hE 150)
end Go.Proofs.YthpngfmckkfipaaGreatDoor
