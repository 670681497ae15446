/-
  Put, walked.
-/
import Derived.Test.YtamoepninddbcaaGreatCache7
namespace Go.Proofs.YtamoepninddbcaaGreat
open Go.RowKit Go.Sort Go.Lib

variable {w : World} {c p g n : Nat} {ρ : Nat → Option Role} {z : CSt}

theorem load_opP {a : Act} {o : Oper} {x : Operand} {w : World} {b : Nat} {s : List Int} {t : Value} (ho : o.op = .load 95 x) (hx : a.eval x = .pointer (some ⟨b, 0, none⟩)) (hs : s.length = 128) (h : w.heap[b]? = some (.cells (pend s t) 95 (0, 0))) :
    (execOp a.eval o).run Tryz.prog w = .ok (.value (.agg (pend s t))) w := by
  unfold execOp
  simp only [ho, hx, load_pend hs h, Sem.run_bind, Sem.run_pure, Result.andThen_ok]

theorem tagV_one {gp mb : Nat} {go : Nat → Prop} {tv : Int → Value} {lv : Value} {x : Int} (h : IsC0 w c p g n gp mb go tv lv ρ z) : (tagV z tv x).oneCell' = true := by
  unfold tagV
  cases hz : z.P x with
  | none => rfl
  | some q => exact ints_one (h.tg x q hz)

set_option maxRecDepth 100000 in
set_option maxHeartbeats 4000000 in
theorem put_refused (x : Int) (s l : List Int) (a : Option Addr) (ca : Nat) (h : IsC w c p g n ρ z) (_hs : s.length = 128) (_hIx : I64 x) (hl : LAt w a l) (hn : a = none → ca = 0) (hao : ∀ k, a = some ⟨k, 0, none⟩ → k < w.heap.size ∧ ¬ Own ρ k) (hm : l.length ≤ 17592186043910) (hI : ∀ k, k < l.length → I64 (l.getD k 0)) (ht : TB z) (hw : z.d.wr < 4611686018427380000) (h0 : ¬ refC n z (x :: l) = 0) :
    Calls Tryz.prog 20 #[.pointer (some ⟨c, 0, none⟩), .int .i64 x, .agg (D.SA s), .slice a l.length ca] w fun e w' => e = .returned (.int .i64 (putC n z x s l).2) ∧ CPost w w' c p g n ρ (putC n z x s l).1 := by
  have hc1 : Chg w ((w.alloc (.cells (D.SA s) 47)).alloc (.cells #[.int .i64 x] 3)) No := (Chg.alloc _ _ _).tr (Chg.alloc _ _ _)
  have HN := hid (ints_new (w.alloc (.cells (D.SA s) 47)) x)
  rw [World.size_alloc] at HN
  have HL2 := hid (hl.call hc1)
  have HLA := hid hl
  have HNN := hid hn
  have HH := hid h
  have HI := hid hI
  have HT := hid (And.intro ht hw)
  have HAO := hid hao
  have HC1 := hid hc1
  have HBX : Hid (((w.alloc (.cells (D.SA s) 47)).alloc (.cells #[.int .i64 x] 3)).heap[w.heap.size]? = some (.cells (D.SA s) 47 (0, 0))) := by
    show _ = _
    rw [heap_alloc_if, if_neg (by simp), heap_alloc_if, if_pos rfl]
  clear h hl hn hI ht hw hao hc1
  have e : putC n z x s l = (z, refC n z (x :: l)) := by unfold putC; rw [if_neg h0]
  rw [e]
  have hb0 : (refC n z (x :: l) != 0) = true := by simpa using h0
  obtain ⟨e0, he0⟩ : ∃ e0, refC n z (x :: l) = e0 := ⟨_, rfl⟩
  have HRE := hid he0
  rw [he0] at hb0 ⊢
  clear he0 h0 e
  go_enter Tryz.func20, Tryz.ntmps20
  go_wp2_with (first
    | (at_builtin; go_must (refine wp_appL rfl _ _ rfl (w.heap.size + 1) (.slice (some ⟨w.heap.size + 1, 0, none⟩) 1 1) [x] l a ca rfl rfl HN.out HL2.out HNN.out (by simp only [List.length_singleton]; omega) (by simp only [World.size_alloc]; omega) ?_; intro v5 w5 h51 h52 h53; obtain ⟨a5, c5, rfl, hlat5, hge5⟩ := h51.lat; have hc5 : Chg w w5 No := HC1.out.trans h52 (fun _ _ e => e) (fun j hj e => (by have e : some (w.heap.size + 1) = some j := e; simp at e; omega)); have HR := refusalC_any ([x] ++ l) a5 c5 (HH.out.call hc5) hlat5 (by simp only [List.length_append, List.length_singleton]; omega); simp only [List.cons_append, List.nil_append, List.length_cons] at HR; rw [HRE.out] at HR; have HB5 := hid (h52.keep HBX.out (fun e => by have e : some (w.heap.size + 1) = some w.heap.size := e; simp at e)); have HC5 := hid hc5; have HS5 := hid h52.size; clear h51 h52 h53 hlat5 hge5 hc5))
    | (go_at_call 58; go_must (refine HR.mono ?_; rintro e w6 ⟨rfl, rfl⟩; clear HR))
    | fail)
  go_ret
  exact ⟨rfl, CPost.same HH.out HC5.out⟩

set_option maxRecDepth 100000 in
set_option maxHeartbeats 4000000 in
theorem put_stop (x : Int) (s l : List Int) (a : Option Addr) (ca : Nat) (h : IsC w c p g n ρ z) (_hs : s.length = 128) (_hIx : I64 x) (hl : LAt w a l) (hn : a = none → ca = 0) (hao : ∀ k, a = some ⟨k, 0, none⟩ → k < w.heap.size ∧ ¬ Own ρ k) (hm : l.length ≤ 17592186043910) (hI : ∀ k, k < l.length → I64 (l.getD k 0)) (ht : TB z) (hw : z.d.wr < 4611686018427380000) (h0 : refC n z (x :: l) = 0) (h1 : ¬ (clearC n z x l).2 = 0) :
    Calls Tryz.prog 20 #[.pointer (some ⟨c, 0, none⟩), .int .i64 x, .agg (D.SA s), .slice a l.length ca] w fun e w' => e = .returned (.int .i64 (putC n z x s l).2) ∧ CPost w w' c p g n ρ (putC n z x s l).1 := by
  have hc1 : Chg w ((w.alloc (.cells (D.SA s) 47)).alloc (.cells #[.int .i64 x] 3)) No := (Chg.alloc _ _ _).tr (Chg.alloc _ _ _)
  have HN := hid (ints_new (w.alloc (.cells (D.SA s) 47)) x)
  rw [World.size_alloc] at HN
  have HL2 := hid (hl.call hc1)
  have HLA := hid hl
  have HNN := hid hn
  have HH := hid h
  have HI := hid hI
  have HT := hid (And.intro ht hw)
  have HAO := hid hao
  have HC1 := hid hc1
  have HBX : Hid (((w.alloc (.cells (D.SA s) 47)).alloc (.cells #[.int .i64 x] 3)).heap[w.heap.size]? = some (.cells (D.SA s) 47 (0, 0))) := by
    show _ = _
    rw [heap_alloc_if, if_neg (by simp), heap_alloc_if, if_pos rfl]
  clear h hl hn hI ht hw hao hc1
  have hx := (refC_zero h0).2 x (by simp)
  have HX := hid hx
  have HRE := hid h0
  have HT2 := HT.out
  have HW1 := hid (clearC_wrote HH.out.inv x l HT2.1 HT2.2)
  clear HT2 hx
  obtain ⟨⟨z1, e1⟩, hr1⟩ : ∃ r, clearC n z x l = r := ⟨_, rfl⟩
  have HEC := hid hr1
  have e : putC n z x s l = (z1, e1) := by unfold putC; rw [if_pos h0, if_neg h1, hr1]
  rw [hr1] at h1
  have h1 : ¬ e1 = 0 := h1
  have hb1 : (e1 != 0) = true := by simpa using h1
  rw [e]
  clear e hr1 h0 h1 HW1
  go_enter Tryz.func20, Tryz.ntmps20
  go_wp2_with (first
    | (at_builtin; go_must (refine wp_appL rfl _ _ rfl (w.heap.size + 1) (.slice (some ⟨w.heap.size + 1, 0, none⟩) 1 1) [x] l a ca rfl rfl HN.out HL2.out HNN.out (by simp only [List.length_singleton]; omega) (by simp only [World.size_alloc]; omega) ?_; intro v5 w5 h51 h52 h53; obtain ⟨a5, c5, rfl, hlat5, hge5⟩ := h51.lat; have hc5 : Chg w w5 No := HC1.out.trans h52 (fun _ _ e => e) (fun j hj e => (by have e : some (w.heap.size + 1) = some j := e; simp at e; omega)); have HR := refusalC_any ([x] ++ l) a5 c5 (HH.out.call hc5) hlat5 (by simp only [List.length_append, List.length_singleton]; omega); simp only [List.cons_append, List.nil_append, List.length_cons] at HR; rw [HRE.out] at HR; have HB5 := hid (h52.keep HBX.out (fun e => by have e : some (w.heap.size + 1) = some w.heap.size := e; simp at e)); have HC5 := hid hc5; have HS5 := hid h52.size; clear h51 h52 h53 hlat5 hge5 hc5))
    | (go_at_call 58; go_must (refine HR.mono ?_; rintro e w6 ⟨rfl, rfl⟩; clear HR; have HCW := clearWay_any x l a ca (HH.out.call HC5.out) HX.out (HLA.out.call HC5.out) (by omega) HI.out HT.out.1 HT.out.2; rw [HEC.out] at HCW))
    | (go_at_call 59; go_must (refine HCW.mono ?_; rintro e w7 ⟨rfl, hP7⟩; clear HCW))
    | fail)
  go_ret
  exact ⟨rfl, CPost.step (fun _ k => k) HC5.out hP7⟩

set_option maxRecDepth 100000 in
set_option maxHeartbeats 4000000 in
theorem put_lay (x : Int) (s l : List Int) (a : Option Addr) (ca : Nat) (h : IsC w c p g n ρ z) (hs : s.length = 128) (hIx : I64 x) (hl : LAt w a l) (hn : a = none → ca = 0) (hao : ∀ k, a = some ⟨k, 0, none⟩ → k < w.heap.size ∧ ¬ Own ρ k) (hm : l.length ≤ 17592186043910) (hI : ∀ k, k < l.length → I64 (l.getD k 0)) (ht : TB z) (hw : z.d.wr < 4611686018427380000) (h0 : refC n z (x :: l) = 0) (h1 : (clearC n z x l).2 = 0) :
    Calls Tryz.prog 20 #[.pointer (some ⟨c, 0, none⟩), .int .i64 x, .agg (D.SA s), .slice a l.length ca] w fun e w' => e = .returned (.int .i64 (putC n z x s l).2) ∧ CPost w w' c p g n ρ (putC n z x s l).1 := by
  have hc1 : Chg w ((w.alloc (.cells (D.SA s) 47)).alloc (.cells #[.int .i64 x] 3)) No := (Chg.alloc _ _ _).tr (Chg.alloc _ _ _)
  have HN := hid (ints_new (w.alloc (.cells (D.SA s) 47)) x)
  rw [World.size_alloc] at HN
  have HL2 := hid (hl.call hc1)
  have HLA := hid hl
  have HNN := hid hn
  have HH := hid h
  have HI := hid hI
  have HT := hid (And.intro ht hw)
  have HAO := hid hao
  have HC1 := hid hc1
  have HBX : Hid (((w.alloc (.cells (D.SA s) 47)).alloc (.cells #[.int .i64 x] 3)).heap[w.heap.size]? = some (.cells (D.SA s) 47 (0, 0))) := by
    show _ = _
    rw [heap_alloc_if, if_neg (by simp), heap_alloc_if, if_pos rfl]
  clear h hl hn hI ht hw hao hc1
  have hx := (refC_zero h0).2 x (by simp)
  have HX := hid hx
  have HRE := hid h0
  have HT2 := HT.out
  have HW1 := hid (clearC_wrote HH.out.inv x l HT2.1 HT2.2)
  clear HT2 hx
  have hlay := lay_of_clear HH.out.inv x l HT.out.1 HT.out.2 h1
  have hW1 := HW1.out
  obtain ⟨⟨z1, e1⟩, hr1⟩ : ∃ r, clearC n z x l = r := ⟨_, rfl⟩
  have HEC := hid hr1
  have e : putC n z x s l = (layC z1 x s (dofC z1 l x), 0) := by unfold putC; rw [if_pos h0, if_pos h1, hr1]
  rw [hr1] at h1 hlay hW1
  have h1 : e1 = 0 := h1
  subst h1
  rw [e]
  have HLAY := hid hlay
  have HINV1 := hid hW1.inv
  have hzp := zeroP
  clear e hr1 h0 hlay hW1 HW1
  go_enter Tryz.func20, Tryz.ntmps20
  go_wp2_with (first
    | (at_builtin; go_must (refine wp_appL rfl _ _ rfl (w.heap.size + 1) (.slice (some ⟨w.heap.size + 1, 0, none⟩) 1 1) [x] l a ca rfl rfl HN.out HL2.out HNN.out (by simp only [List.length_singleton]; omega) (by simp only [World.size_alloc]; omega) ?_; intro v5 w5 h51 h52 h53; obtain ⟨a5, c5, rfl, hlat5, hge5⟩ := h51.lat; have hc5 : Chg w w5 No := HC1.out.trans h52 (fun _ _ e => e) (fun j hj e => (by have e : some (w.heap.size + 1) = some j := e; simp at e; omega)); have HR := refusalC_any ([x] ++ l) a5 c5 (HH.out.call hc5) hlat5 (by simp only [List.length_append, List.length_singleton]; omega); simp only [List.cons_append, List.nil_append, List.length_cons] at HR; rw [HRE.out] at HR; have HB5 := hid (h52.keep HBX.out (fun e => by have e : some (w.heap.size + 1) = some w.heap.size := e; simp at e)); have HC5 := hid hc5; have HS5 := hid h52.size; clear h51 h52 h53 hlat5 hge5 hc5))
    | (go_at_call 58; go_must (refine HR.mono ?_; rintro e w6 ⟨rfl, rfl⟩; clear HR; have HCW := clearWay_any x l a ca (HH.out.call HC5.out) HX.out (HLA.out.call HC5.out) (by omega) HI.out HT.out.1 HT.out.2; rw [HEC.out] at HCW))
    | (go_at_call 59; go_must (refine HCW.mono ?_; rintro e w7 ⟨rfl, ρ1, hC7, ho7, hg7⟩; have HB7 := hid (hg7.keep HB5.out (fun e => by have := HH.out.lt e; omega)); have HLA7 := hid (((HLA.out.call HC5.out).keep hg7 (fun k hk => (HAO.out k hk).2))); obtain ⟨gp, mb, go, tv, lv, h7⟩ := hC7; have k72 := h7.c2; have HM7 := h7.mp; obtain ⟨s0, hs0, hlk⟩ := pend_look z1 tv x HINV1.out; have hton : (tagV z1 tv x).oneCell' = true := tagV_one h7; have HQ7 := hid (heap_alloc_new w7 (.cells pend0 95)); have HLK := hid hlk; have H7 := hid h7; have HOG := hid (And.intro ho7 hg7); clear HCW hlk h7 ho7 hg7))
    | (at_lookup; go_must (refine wp_lookV rfl _ _ rfl mb _ x (.agg (pend s0 (tagV z1 tv x))) HLK.out rfl rfl HM7 hIx ?_; clear HM7))
    | (refine D.store_row rfl 95 _ _ rfl w7.heap.size rfl (pend s0 (tagV z1 tv x)) rfl pend0 HQ7.out (by rw [szP, pend_size, hs0]) (by rw [pend_size, hs0, pend0_size]) (pend_one hton) ?_; intro w8 hw8; have HB8 := hid ((hw8.other w.heap.size (by have := slt HB7.out; omega)).trans (show (w7.alloc (.cells pend0 95)).heap[w.heap.size]? = _ from (Below.heap_alloc _ _ _ (slt HB7.out)).trans HB7.out)); have HP8 := hid hw8.here; have hc8 := hid ((Chg.alloc w7 (.cells pend0 95) No).trans (put_chg hw8) (c := No) (fun _ _ e => e) (fun j hj e => by omega)); have HZ8 := hid hw8.size; clear hw8)
    | (refine wpList_load_row rfl 47 _ rfl w.heap.size rfl 47 (D.SA s) (0, 0) _ HB8.out Tryz.underlying47 rfl (by rw [D.sz26, D.SA_size, hs]) ?_)
    | (refine store_cont rfl _ _ rfl w7.heap.size rfl s s0 (tagV z1 tv x) rfl hs hs0 HP8.out ?_; intro w10 hw10; have HP10 := hid hw10.here; have hc10 := hid ((hc8.out).trans (put_chg hw10) (c := No) (fun _ _ e => e) (fun j hj e => by omega)); have HZ10 := hid (hw10.size.trans HZ8.out); clear hw10)
    | fail)
  simp only [Act.put]
  have h10 := H7.out.call hc10.out
  have K10 := hid h10.c2
  have HM10 := hid (h10.mp.keep (Chg.refl w10 No).drew (fun e => e))
  have HME10 := hid h10.me
  have HFEW := hid h10.few
  have HCM : Hid (¬ c = mb) := own_not h10.rc h10.rm (by simp)
  have HPM : Hid (¬ w7.heap.size = mb) := fun e => by
    have := H7.out.lt _ _ H7.out.rm
    omega
  have H10 := hid h10
  clear h10 hzp k72
  refine wp_region_noPanic ?_
  refine wp_region_held_drew (S := fun w' => w'.cell? ⟨c, 2, none⟩ = some (.map (some mb)) ∧ w'.heap[w7.heap.size]? = some (.cells (pend s (tagV z1 tv x)) 95 (0, 0))) (by kernel_rfl) ⟨K10.out, HP10.out⟩ (fun hHeld => ?_)
  refine takeVal 0 39 (.pointer (some ⟨c, 0, none⟩)) rfl (by kernel_rfl) (by kernel_rfl) (by kernel_rfl) rfl (by rfl) (fun _ _ _ h => h) hHeld (fun _ hw' => rfl) ?_
  simp only [List.setIfInBounds_toArray, List.set_cons_zero, List.set_cons_succ]
  refine takeVal 1 40 (.pointer (some ⟨c, 0, none⟩)) rfl (by kernel_rfl) (by kernel_rfl) (by kernel_rfl) rfl (by rfl) (fun _ _ _ h => h) hHeld (fun _ hw' => by go_simp) ?_
  simp only [List.setIfInBounds_toArray, List.set_cons_zero, List.set_cons_succ]
  refine takeVal 2 41 (.pointer (some ⟨c, 2, none⟩)) rfl (by kernel_rfl) (by kernel_rfl) (by kernel_rfl) rfl (by rfl) (fun _ _ _ h => h) hHeld (fun _ hw' => by go_simp) ?_
  simp only [List.setIfInBounds_toArray, List.set_cons_zero, List.set_cons_succ]
  refine takeVal 3 42 (.map (some mb)) rfl (by kernel_rfl) (by kernel_rfl) (by kernel_rfl) rfl (by rfl) (fun _ _ _ h => h) hHeld (fun _ hw' => by have hq' := hw'.1; go_simp) ?_
  simp only [List.setIfInBounds_toArray, List.set_cons_zero, List.set_cons_succ]
  refine takeVal 4 43 (.int .i64 x) rfl (by kernel_rfl) (by kernel_rfl) (by kernel_rfl) rfl (by rfl) (fun _ _ _ h => h) hHeld (fun _ hw' => rfl) ?_
  simp only [List.setIfInBounds_toArray, List.set_cons_zero, List.set_cons_succ]
  refine takeVal 5 44 (.agg (pend s (tagV z1 tv x))) rfl (by kernel_rfl) (by kernel_rfl) (by kernel_rfl) rfl (by rfl) (fun _ _ _ h => h) hHeld (fun _ hw' => load_opP rfl rfl hs hw'.2) ?_
  simp only [List.setIfInBounds_toArray, List.set_cons_zero, List.set_cons_succ]
  refine step1 6 (by kernel_rfl) ?_
  refine stPutV 6 rfl rfl (by rfl) _ _ _ rfl mb _ x (.agg (pend s (tagV z1 tv x))) rfl rfl rfl HM10.out hIx HFEW.out ?_
  intro w11 hM11 hc11 hz11
  have hk11 := hc11.keep (show w10.drew.heap[c]? = _ from HME10.out) HCM.out
  have hp11 := hc11.keep (show w10.drew.heap[w7.heap.size]? = _ from HP10.out) HPM.out
  have hHeld : w11.cell? ⟨c, 2, none⟩ = some (.map (some mb)) ∧ w11.heap[w7.heap.size]? = some (.cells (pend s (tagV z1 tv x)) 95 (0, 0)) := ⟨by rw [cell_of_row _ _ _ _ _ _ hk11]; rfl, hp11⟩
  refine ⟨hHeld, ?_⟩
  refine wpAnyH_done (by kernel_rfl) ?_ _
  refine NoPanic.normal ?_

  have hc1011 : Chg w10 w11 (· = mb) := ⟨hc11.os, hc11.tape, hc11.output, hc11.size, hc11.block⟩
  have h11 := isC_lay H10.out HX.out hs hM11 hc1011
  have hc711 : Chg w7 w11 (· = mb) := hc10.out.trans hc1011 (fun _ _ e => e.elim) (fun _ _ e => e)
  have hsz5 := HC5.out.size
  have hsz7 := HOG.out.2.size
  have hsz11 := hc711.size
  have hmbo : Own ρ mb ∨ w5.heap.size ≤ mb := HOG.out.1 mb ⟨_, H7.out.rm⟩
  have hc011 : Chg w w11 (Own ρ) := HC5.out.trans ((HOG.out.2).trans hc711 (c := fun k => Own ρ k ∨ (k = mb)) (fun _ _ e => .inl e) (fun _ _ e => .inr e)) (fun _ _ e => e.elim) (fun j hj e => by
    rcases e with e | e
    · exact e
    · subst e
      rcases hmbo with e2 | e2
      · exact e2
      · omega)
  have hLA11 : LAt w11 a l := HLA7.out.keep hc711 (fun k hk e => by
    subst e
    have := HAO.out _ hk
    rcases hmbo with e2 | e2
    · exact this.2 e2
    · omega)
  have ho11 : ∀ k, Own ρ1 k → Own ρ k ∨ w.heap.size ≤ k := fun k hk => by
    rcases HOG.out.1 k hk with e | e
    · exact .inl e
    · exact .inr (by omega)
  have hC11 : IsC w11 c p g n ρ1 (layC z1 x s []) := ⟨_, _, _, _, _, h11⟩
  have HD := dirtyOf_any l a ca x hC11 hLA11 (by omega) HI.out
  have hdd : dofC (layC z1 x s []) l x = dofC z1 l x := secs_cong fun b => by
    rw [layC_dirty]
    constructor
    · rintro ⟨e1, e2, e3⟩
      exact ⟨e1, e2.resolve_right e3, e3⟩
    · rintro ⟨e1, e2, e3⟩
      exact ⟨e1, .inl e2, e3⟩
  rw [hdd] at HD
  have HC11 := hid (And.intro hC11 (And.intro ho11 hc011))
  clear hC11 ho11 hc011 h11 hM11 hc11 hc1011 hLA11 hdd hk11 hp11 hHeld
  generalize hdl : dofC z1 l x = dl at *
  have hdlen : dl.length ≤ 4096 := by rw [← hdl]; exact secs_len _
  have HDL := hid hdl
  clear hdl
  go_wp2_with (first
    | (go_at_call 60; go_must (refine HD.mono ?_; rintro e w12 ⟨v12, rfl, hv12, hc12⟩; obtain ⟨a12, c12, rfl, hlat12, hge12⟩ := hv12.lat; clear HD))
    | fail)
  have HLat := hid hlat12
  have HC12 := hid hc12
  have hsz12 := hc12.size
  have HG12 := hid (show ∀ k, a12 = some ⟨k, 0, none⟩ → w11.heap.size ≤ k ∧ k < w12.heap.size from fun k hk => by
    have hb := hv12.nilcap.2 _ hk
    exact row_ge hv12 hb.2)
  clear hlat12 hc12 hge12 hv12
  generalize hlen : dl.length = m at *
  go_loopw [13, 14, 50] (fun _ _ i wr => ∃ (k : Nat) (ρk : Nat → Option Role) (wq : World), wq = wr ∧ k ≤ m ∧ i = .int .i64 k ∧ IsC wq c p g n ρk (layC z1 x s (dl.take k)) ∧ (∀ j, Own ρk j → Own ρ1 j ∨ w12.heap.size ≤ j) ∧ Chg w12 wq (Own ρ1)) (fun _ _ i _ => m - (intOf i).toNat)
  case atStart => exact ⟨0, ρ1, w12, rfl, by omega, rfl, HC11.out.1.call HC12.out, fun _ k => .inl k, Chg.refl _ _⟩
  case round =>
    obtain ⟨k, ρk, wA, rfl, hk, rfl, hCk, hok, hck⟩ := hrel
    have hszk := hck.size
    by_cases hlt : k < m
    · have htk := take_snoc (l := dl) (k := k) (by omega)
      have hlatk := HLat.out.keep hck (fun j hj ho => by
        have h1 := HG12.out j hj
        have h2 := HC11.out.1.lt ho
        omega)
      rcases hlatk with h0 | ⟨g1, rfl, hg1, h1⟩
      · rw [h0] at hlen; simp at hlen; omega
      have p1 := h1 k (by omega)
      have hmem := getD_mem (l := dl) (k := k) (by omega)
      generalize hy : dl.getD k 0 = y at *
      obtain ⟨gpk, mbk, gok, tvk, lvk, hA⟩ := hCk
      have hdy := HLAY.out.di y hmem
      have hIy : I64 y := by
        have := HINV1.out.ok y hdy.1
        have := HINV1.out.top
        exact ⟨by omega, by omega⟩
      have hi0 : (0 : Int) ≤ (k : Int) := by omega
      have hi1 : (k : Int) < (m : Int) := by omega
      have k1 := hA.c1
      have HAD := addG_any y x hA.gr hIy hIx
      have hsub : ∀ b, b ∈ dl.take k → b ∈ dl := fun b hb => List.mem_of_mem_take hb
      have hnr : ¬ Reach (layC z1 x s (dl.take k)).E x y := fun e => HLAY.out.no y hmem (layE_reach _ (dl.take k) rfl (fun b hb => HLAY.out.no b (hsub b hb)) e)
      have hsy := HINV1.out.sec hdy.1
      have hsx : Sec x := ⟨HX.out.1, by have := HINV1.out.top; have := HX.out.2; omega⟩
      have hinv2 : CInv n (layC z1 x s (dl.take k ++ [y])) := layC_inv HINV1.out HX.out hs (HLAY.out.sub fun b hb => by
        rw [List.mem_append] at hb
        rcases hb with hb | hb
        · exact hsub b hb
        · simp at hb; rw [hb]; exact hmem)
      have HA := hid hA
      have HY := hid (And.intro hy (And.intro htk (And.intro hnr (And.intro hsy (And.intro hsx hinv2)))))
      clear hA h1 hy hmem htk hnr hsy hsx hinv2 hsub
      go_wp2_with (first
        | (go_at_call 61; go_must (refine HAD.mono ?_; rintro e w13 ⟨c13, E13, own13, rfl, hA13, hG13, ho13, hc13⟩; obtain ⟨rfl, rfl⟩ : c13 = 0 ∧ E13 = addE (layC z1 x s (dl.take k)).E y x := (by obtain ⟨_, _, e3, e4, e5, _⟩ := HY.out; rcases hA13 with ⟨q1, _⟩ | ⟨_, _, q1, _⟩ | ⟨_, _, _, q1, q2⟩; exact absurd ⟨e4, e5⟩ q1; exact absurd q1 e3; exact ⟨q1, q2⟩); clear HAD hA13))
        | fail)
      obtain ⟨_, e2, _, _, _, e6⟩ := HY.out
      have hG14 : IsG w13 gpk own13 (layC z1 x s (dl.take k ++ [y])).E := by
        rw [layC_E, layE_snoc]
        exact hG13
      obtain ⟨ρ2, r1, r2, r3⟩ := isC_edge HA.out e6 hG14 ho13 hc13
      refine ⟨⟨k + 1, ρ2, w13, rfl, by omega, by go_num, ?_, fun j hj => ?_, hck.trans r3 (fun _ _ e => e) (fun j hj e => ?_)⟩, by simp [intOf]; omega⟩
      · rw [e2]
        exact r1
      · rcases r2 j hj with e | e
        · exact hok j e
        · exact .inr (by omega)
      · rcases hok j e with e | e
        · exact e
        · omega
    · have hkm : k = m := by omega
      have htk : dl.take k = dl := List.take_of_length_le (by omega)
      rw [htk] at hCk
      have HK := hid (And.intro hCk (And.intro hok hck))
      clear hCk hok hck
      go_wp2_with fail
      go_ret
      obtain ⟨r1, r2, r3⟩ := HK.out
      obtain ⟨_, s2, s3⟩ := HC11.out
      rw [HDL.out]
      refine ⟨rfl, ρk, r1, fun j hj => ?_, s3.trans (HC12.out.trans r3 (c := Own ρ1) (fun _ _ e => e.elim) (fun _ _ e => e)) (fun _ _ e => e) (fun j hj e => ?_)⟩
      · rcases r2 j hj with e | e
        · exact s2 j e
        · exact .inr (by omega)
      · rcases s2 j e with e | e
        · exact e
        · omega

/-- Put, as one. -/
theorem put_any (x : Int) (s l : List Int) (a : Option Addr) (ca : Nat) (h : IsC w c p g n ρ z) (hs : s.length = 128) (hIx : I64 x) (hl : LAt w a l) (hn : a = none → ca = 0) (hao : ∀ k, a = some ⟨k, 0, none⟩ → k < w.heap.size ∧ ¬ Own ρ k) (hm : l.length ≤ 17592186043910) (hI : ∀ k, k < l.length → I64 (l.getD k 0)) (ht : TB z) (hw : z.d.wr < 4611686018427380000) :
    Calls Tryz.prog 20 #[.pointer (some ⟨c, 0, none⟩), .int .i64 x, .agg (D.SA s), .slice a l.length ca] w fun e w' => e = .returned (.int .i64 (putC n z x s l).2) ∧ CPost w w' c p g n ρ (putC n z x s l).1 := by
  by_cases h0 : refC n z (x :: l) = 0
  · by_cases h1 : (clearC n z x l).2 = 0
    · exact put_lay x s l a ca h hs hIx hl hn hao hm hI ht hw h0 h1
    · exact put_stop x s l a ca h hs hIx hl hn hao hm hI ht hw h0 h1
  · exact put_refused x s l a ca h hs hIx hl hn hao hm hI ht hw h0

end Go.Proofs.YtamoepninddbcaaGreat
