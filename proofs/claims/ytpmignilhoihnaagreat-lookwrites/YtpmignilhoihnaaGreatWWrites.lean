/-
  LookWrites: what is to be written are just the sectors that differ, each once, in three rows that rise.
-/
import Derived.Test.YtpmignilhoihnaaGreatZ3
import Derived.Test.YtpmignilhoihnaaGreatY3
import Derived.Test.YtpmignilhoihnaaGreatLF3
namespace Go.Proofs.YtpmignilhoihnaaGreat
open Go.RowKit Go.Shelf

theorem read_same {s : List Int} (hs : IsSec s) : rdSup (sayV s 4 4) (sayV s 8 4) s = rdSup (getV s 4 4) (getV s 8 4) s := by
  have e1 : sayV s 4 4 = numAt s 4 4 := sayV_small (P := 4) (L := 4) (by decide)
  have e2 : sayV s 8 4 = numAt s 8 4 := sayV_small (P := 8) (L := 4) (by decide)
  have e3 : getV s 4 4 = numAt s 4 4 := getV_small (P := 4) (L := 4) hs (by decide) (by decide) (by decide)
  have e4 : getV s 8 4 = numAt s 8 4 := getV_small (P := 8) (L := 4) hs (by decide) (by decide) (by decide)
  rw [e1, e2, e3, e4]
section
variable {ops : Array Oper} {Q : Exit → Act → World → Prop} {S : World → Prop} {fuel : Nat} {listed : Array Bool} {a : Act} {w : World}
theorem takeNeq (i d : Nat) (x y : Operand) (c c' : List Int) (b : Bool) (hc : c.length = 128) (hc' : c'.length = 128) (hb : decide (c = c') = b) {o : Oper} (hop : ops[i]? = some o) (hs : Region.noSelect ops = true) (hf : Region.free .any ops listed i = true) (hr : (Region.ready .any ops listed).contains i = true)
    (hd : o.dst = some d) (ho : o.op = .binOp .neq 33 x y 33) (hx : a.eval x = .agg (SA c)) (hy : a.eval y = .agg (SA c')) (hw : Region.wanted o (yielded ops a.tmps) = true) (hQ : ∀ c a w, ¬ Q (.panic c) a w) (hS : S w)
    (h : wpAnyH Tryz.prog .any ops Q S fuel (listed.setIfInBounds i true) { a with tmps := a.tmps.setIfInBounds d (.bool (!b)) } w) : wpAnyH Tryz.prog .any ops Q S (fuel + 1) listed a w := by
  refine takeVal i d _ hop hs hf hr hd hw hQ hS (fun w hw' => ?_) h
  have hq : (Op.equalIn 10000 33 (.agg (SA c)) (.agg (SA c'))).run Tryz.prog w = .ok b w := by rw [eq_sec _ _ hc hc', hb]
  unfold execOp
  simp only [ho, hx, hy, Sem.run_bind, run_eqGuard_agg _ _ _ _ _ _ _ guard_sec, run_neq_struct, hq, Result.andThen_ok, Sem.run_pure]
end
/-- What a look that is not refused leaves, as the statement wants it. -/
structure LkW (w0 w : World) (im T : Img) (M : Nat) (Wl P Q R : List Int) (gw wc s1 : Nat) (a1 : Option Addr) (v2 v3 : Value) : Prop where
  sup : rdSup (getV (secI im 0) 4 4) (getV (secI im 0) 8 4) (secI im 0) = ((im.length : Int), (M : Int), 0)
  n1 : 8 ≤ im.length
  n2 : im.length ≤ 4096
  wt : WtAt w gw T
  tl : T.length = im.length
  la : LAt w a1 Wl
  wl : Wl = P ++ Q ++ R
  dif : difN im T im.length = Wl.length
  hP : P.Pairwise (· < ·)
  hQ : Q.Pairwise (· < ·)
  hR : R.Pairwise (· < ·)
  pP : ∀ x ∈ P, 0 ≤ x ∧ ¬ x ≤ (M : Int)
  pQ : ∀ x ∈ Q, 0 ≤ x ∧ x ≤ (M : Int)
  pR : ∀ x ∈ R, 0 ≤ x ∧ ¬ x ≤ (M : Int)
  hd : ∀ x ∈ P, x ∉ R
  ml : ∀ x ∈ Wl, 1 ≤ x ∧ x < im.length ∧ secI im x ≠ secI T x
  o2 : v2.oneCell' = true
  o3 : v3.oneCell' = true
theorem look_w (ia : Option Addr) (ic : Nat) (im : Img) (w : World) (h : ImgAt w ia im) :
    Calls Tryz.prog 10 #[.slice ia im.length ic] w fun e w' => Chg w w' No ∧ ((∃ E, E ≠ 0 ∧ e = .returned (.tuple #[.agg nil4, .int .i64 E])) ∨ ∃ T M Wl P Q R gw wc s1 a1 v2 v3, e = .returned (.tuple #[.agg #[.slice (some ⟨gw, 0, none⟩) im.length wc, .slice a1 Wl.length s1, v2, v3], .int .i64 0]) ∧ LkW w w' im T M Wl P Q R gw wc s1 a1 v2 v3) := by
  by_cases he : (supOf im).2.2 = 0
  · refine (look_good ia ic im (supOf im).2.1.toNat w h he rfl).mono ?_
    rintro e w' ⟨r, rfl, hc, h1, h2⟩
    refine ⟨hc, ?_⟩
    obtain ⟨s1, s2, s3, s4, s5⟩ := supOf_ok he
    cases hb : rootB (supOf im).2.1.toNat im with
    | false => exact .inl ⟨121, by decide, by rw [h1 hb]; rfl⟩
    | true =>
      obtain ⟨g, wc, v1, v2, v3, rfl, _, hwt, hR⟩ := h2 hb
      have hkp := lookL_kp hb
      obtain ⟨M, hM⟩ : ∃ y, y = (supOf im).2.1.toNat := ⟨_, rfl⟩
      rw [← hM] at hR hwt hkp
      obtain ⟨a1, c1, rfl, hla⟩ := hR.o1.lat
      have e0 : supOf im = rdSup (getV (secI im 0) 4 4) (getV (secI im 0) 8 4) (secI im 0) := by
        unfold supOf at he ⊢
        split
        · rename_i hl
          rw [if_pos hl] at he
          simp only at he ⊢
          split
          · rfl
          · rename_i hr
            rw [if_neg hr] at he
            cases he
        · rename_i hl
          rw [if_neg hl] at he
          cases he
      refine .inr ⟨(lookL M im).wt, M, writeI M im (lookL M im), rowL M im (lookL M im) 0, rowL M im (lookL M im) 1, rowL M im (lookL M im) 2, g, wc, c1, a1, v2, v3, by rw [← hM, hkp.1]; rfl, ?_⟩
      exact { sup := by rw [← e0]; refine Prod.ext s1 (Prod.ext ?_ he); show (supOf im).2.1 = (M : Int); omega
              n1 := s2
              n2 := s3
              wt := hwt
              tl := hkp.1
              la := hla
              wl := writeI_rows _ _ _
              dif := dif_write _ _ _
              hP := row_up _ _ _ _
              hQ := row_up _ _ _ _
              hR := row_up _ _ _ _
              pP := fun x hx => by have := write_mem (by decide) hx; exact ⟨this.1, fun e => by have := this.2.2.2.2 e; omega⟩
              pQ := fun x hx => by have := write_mem (by decide) hx; exact ⟨this.1, this.2.2.2.1 rfl⟩
              pR := fun x hx => by have := write_mem (by decide) hx; exact ⟨this.1, fun e => by have := this.2.2.2.2 e; omega⟩
              hd := fun x hx hx2 => by have := rows_apart hx hx2; omega
              ml := fun x hx => by
                have hm : 0 ≤ x ∧ x < im.length ∧ secI (lookL M im).wt x ≠ secI im x := by
                  rw [writeI_rows, List.mem_append, List.mem_append] at hx
                  rcases hx with (hx | hx) | hx
                  · have := write_mem (by decide) hx; exact ⟨this.1, this.2.1, this.2.2.1⟩
                  · have := write_mem (by decide) hx; exact ⟨this.1, this.2.1, this.2.2.1⟩
                  · have := write_mem (by decide) hx; exact ⟨this.1, this.2.1, this.2.2.1⟩
                refine ⟨?_, hm.2.1, fun e => hm.2.2 e.symm⟩
                by_cases h0 : x = 0
                · subst h0
                  exact absurd hkp.sec hm.2.2
                · omega
              o2 := hR.o2.one
              o3 := hR.o3.one }
  · refine (look_bad ia ic im w h he).mono ?_
    rintro e w' ⟨rfl, hc⟩
    exact ⟨hc, .inl ⟨120, by decide, rfl⟩⟩

set_option maxHeartbeats 4000000 in
set_option maxRecDepth 100000 in
theorem writes_walk (ia : Option Addr) (ic : Nat) (im : Img) (W : World) (h : ImgAt W ia im) (hn : im.length ≤ 9223372036854775807) :
    Calls Tryz.prog 8 #[.slice ia im.length ic] W fun e w' => e = .returned (.bool true) ∧ Below W.heap.size W w' := by
  have hzr := zero_rep
  have hzs : ∀ w', (zeroValue 42).run Tryz.prog w' = .ok (.agg #[.int .i64 0, .int .i64 0]) w' := fun w' => by kernel_rfl
  have hK := known_any W
  have HI := hid h
  have HLk := hid (fun W' hW => look_w ia ic im W' hW)
  have HD : Hid (∀ j, j < im.length → im[j]? = some (secI im (j : Int))) := hid (fun j hj => getD_at hj)
  have HSec : Hid (∀ j, IsSec (secI im j)) := hid h.secI
  have HNil : Hid (im = [] → im.length = 0) := hid (fun e => by rw [e]; rfl)
  obtain ⟨n, hnn⟩ : ∃ y, y = im.length := ⟨_, rfl⟩
  have HNN := hid hnn
  rw [← hnn] at HLk HD HNil hn ⊢
  clear h hnn
  go_enter Tryz.func8, Tryz.ntmps8
  go_upto_region 4 with (first
    | (go_at_call 9; go_must (refine hK.mono ?_; rintro e w1 ⟨rfl, hc1⟩; have hLk := HLk.out w1 (HI.out.keep hc1 (fun _ _ e => e))))
    | fail)
  have HC1 := hid hc1
  clear hc1 hK
  go_upto_region 5 with (first
    | (go_at_call 10; go_must (refine hLk.mono ?_; rintro e w2 ⟨hc2, ⟨E, hE0, rfl⟩ | ⟨T, M, Wl, P, Q, R, gw, wc, s1, a1, v2, v3, rfl, hX⟩⟩))
    | (refine store_R rfl 26 _ _ rfl w2.heap.size nil4 rfl rfl 26 _ (heap_alloc_new _ _) szRep rfl nil4_one ?_; intro w3 hw3)
    | (refine store_R rfl 26 _ _ rfl w2.heap.size #[.slice (some ⟨gw, 0, none⟩) n wc, .slice a1 Wl.length s1, v2, v3] rfl rfl 26 _ (heap_alloc_new _ _) szRep rfl (rep_one _ _ _ rfl hX.o2 hX.o3) ?_; intro w3 hw3)
    | fail)
  · have h03 : Chg W w3 No := ((HC1.out.tr hc2).tr (Chg.alloc w2 _ No)).trans (kt_new hw3) (fun _ _ e => e) (fun j hj e => by have := (HC1.out.tr hc2).size; omega)
    have HC3 := hid h03
    have hEb : (E == 0) = false := by simpa using hE0
    clear h03 hw3 hc2 hE0 hLk
    go_wp2_with fail
    go_ret
    exact ⟨rfl, HC3.out.below⟩
  · have h23 : Chg w2 w3 No := (Chg.alloc w2 _ No).trans (kt_new hw3) (fun _ _ e => e) (fun j hj e => by omega)
    have HC3 : Hid (Chg W w3 No) := hid ((HC1.out.tr hc2).tr h23)
    have HX := hid hX
    have HWt := hid (hX.wt.keep h23 (fun e => e))
    have HLA := hid (hX.la.call h23)
    have HG3 := hid hw3.here
    obtain ⟨g4, hg4⟩ : ∃ y, y = w2.heap.size := ⟨_, rfl⟩
    rw [← hg4] at HG3 ⊢
    have hl1 := hX.n1
    have hl2 := hX.n2
    rw [← HNN.out] at hl1 hl2
    obtain ⟨b, o, hia, hb, hrg⟩ : ∃ b o, ia = some ⟨b, o, none⟩ ∧ b < w3.heap.size ∧ ∀ (j : Nat) s, im[j]? = some s → w3.rangeAt b (o + j * 128) (s.map (Value.int .u8)) := by
      rcases (HI.out.keep HC3.out (fun _ _ e => e)).2 with e | e
      · have := HNil.out e; omega
      · exact e
    subst hia
    have HBl := hid hb
    have HRg : Hid (∀ (W' : World) (_hW : Chg w3 W' No) (j : Nat) (_hj : j < n), W'.rangeAt b (o + j * 128) ((secI im (j : Int)).map (Value.int .u8))) := hid (fun W' hW j hj i x hx => cell_keep (hrg j _ (HD.out j hj) i x hx) hW HBl.out (fun e => e))
    have HRw : Hid (∀ (W' : World) (_hW : Chg w3 W' No) (j : Nat) (_hj : j < n), W'.rangeAt gw (j * 128) ((secI T (j : Int)).map (Value.int .u8))) := hid (fun W' hW j hj => (HWt.out.keep hW (fun e => e)).range (by rw [HX.out.tl, ← HNN.out]; exact hj))
    have HTs : Hid (∀ j, IsSec (secI T j)) := hid (fun j => HWt.out.sec j)
    have HQ : Hid (∀ (W' : World) (_hW : Chg w3 W' No), W'.cell? ⟨g4, 0, none⟩ = some (.slice (some ⟨gw, 0, none⟩) n wc) ∧ W'.cell? ⟨g4, 1, none⟩ = some (.slice a1 Wl.length s1)) := hid (fun W' hW => by
      have h0 := hW.keep HG3.out (fun e => e)
      exact ⟨(cell_of_row _ _ _ _ _ _ h0).trans rfl, (cell_of_row _ _ _ _ _ _ h0).trans rfl⟩)
    have HR0 := hid (HRg.out w3 (Chg.refl _ _) 0 (by omega))
    have HL0 := hid (HSec.out 0).1
    have hRS := fun w => rreadSuper_any (secI im 0) (HSec.out 0) w
    rw [read_same (HSec.out 0), HX.out.sup, ← HNN.out] at hRS
    have i3 : (0 : Int) < (n : Int) := by omega
    clear hX h23 hw3 hg4 hc2 hLk hb hrg HD HNil HI HLk
    go_upto_region 8 with (first
      | (refine load_mid 33 _ rfl b (o + 0 * 128) rfl _ _ HR0.out Tryz.underlying33 rfl (by rw [sz26, List.length_map]; exact congrArg some HL0.out.symm) (by rfl) ?_)
      | (go_at_call 19; go_must (refine (hRS _).mono ?_; rintro e w4 ⟨rfl, hb4⟩))
      | (refine store_R rfl 42 _ _ rfl w4.heap.size (SUA n M) rfl rfl 42 _ (heap_alloc_new _ _) szSU rfl (SUA_one _ _) ?_; intro w5 hw5)
      | fail)
    have h35 : Chg w3 w5 No := (((Chg.of_below hb4 No)).tr (Chg.alloc w4 _ No)).trans (kt_new hw5) (fun _ _ e => e) (fun j hj e => by have := hb4.size; omega)
    have H35 := hid h35
    obtain ⟨g6, hg6⟩ : ∃ y, y = w4.heap.size := ⟨_, rfl⟩
    have HG6 : Hid (∀ (W' : World) (_hW : Chg w5 W' No), W'.cell? ⟨g6, 1, none⟩ = some (.int .i64 (M : Int))) := hid (fun W' hW => by
      rw [hg6]
      exact (cell_of_row _ _ _ _ _ _ (hW.keep hw5.here (fun e => e))).trans rfl)
    rw [← hg6]
    obtain ⟨q0, q1⟩ := HQ.out w5 h35
    clear hb4 hw5 hg6 h35 hRS HR0 HL0 i3
    go_wp2_with fail
    go_loopw [8, 9] (fun x i wr => ∃ k : Nat, k ≤ n ∧ i = .int .i64 k ∧ x = .int .i64 (difN im T k : Nat) ∧ Hid (Chg w5 wr No)) (fun _ i _ => n - (intOf i).toNat)
    case atStart => exact ⟨0, by omega, rfl, rfl, hid (Chg.refl _ _)⟩
    case round =>
      clear q0 q1
      obtain ⟨k, hk, rfl, rfl, HC⟩ := hrel
      have h3r := H35.out.tr HC.out
      by_cases hlt : k < n
      · have i0 : (0 : Int) ≤ (k : Int) := by omega
        have i1 : (k : Int) < (n : Int) := by omega
        obtain ⟨ik, hik⟩ : ∃ y, y = secI im (k : Int) := ⟨_, rfl⟩
        obtain ⟨tk, htk⟩ : ∃ y, y = secI T (k : Int) := ⟨_, rfl⟩
        have HIS : Hid (IsSec ik) := hid (by rw [hik]; exact HSec.out _)
        have HTS : Hid (IsSec tk) := hid (by rw [htk]; exact HTs.out _)
        have hR1 := fun W' (hW : Chg wr W' No) => HRg.out W' (h3r.tr hW) k hlt
        have hR2 := fun W' (hW : Chg wr W' No) => HRw.out W' (h3r.tr hW) k hlt
        have hQ0 := fun W' (hW : Chg wr W' No) => (HQ.out W' (h3r.tr hW)).1
        rw [← hik] at hR1
        rw [← htk] at hR2
        have HDf : Hid (difN im T (k + 1) = difN im T k + if ik = tk then 0 else 1) := hid (by rw [difN, ← hik, ← htk])
        obtain ⟨df, hdf⟩ : ∃ y, y = difN im T k := ⟨_, rfl⟩
        have hdl : df ≤ k := by
          rw [hdf]
          clear hdf HDf hlt i0 i1 hik htk hR1 hR2 hQ0
          induction k with
          | zero => exact Nat.le_refl _
          | succ k ih =>
            have := ih (by omega)
            rw [difN]
            split <;> omega
        rw [← hdf] at HDf ⊢
        clear hik htk hdf
        go_upto_region 14 with fail
        refine wp_region_noPanic ?_
        refine wp_region_held_drew (S := fun w' => Chg wr w' No) (by kernel_rfl) (Chg.refl _ _).drew (fun hHeld => ?_)
        obtain ⟨w6, hw6⟩ : ∃ y, y = wr.drew := ⟨_, rfl⟩
        rw [← hw6] at hHeld ⊢
        clear hw6
        refine takeVal 0 49 (.slice (some ⟨b, o, none⟩) n ic) rfl (by kernel_rfl) (by kernel_rfl) (by kernel_rfl) rfl (by rfl) (fun _ _ _ h => h) hHeld (fun W' hw' => rfl) ?_
        simp only [List.setIfInBounds_toArray, List.set_cons_zero, List.set_cons_succ]
        refine takeVal 1 50 (.int .i64 (k : Int)) rfl (by kernel_rfl) (by kernel_rfl) (by kernel_rfl) rfl (by rfl) (fun _ _ _ h => h) hHeld (fun W' hw' => rfl) ?_
        simp only [List.setIfInBounds_toArray, List.set_cons_zero, List.set_cons_succ]
        refine takeVal 2 51 (.pointer (some ⟨b, o + k * 128, none⟩)) rfl (by kernel_rfl) (by kernel_rfl) (by kernel_rfl) rfl (by rfl) (fun _ _ _ h => h) hHeld (fun W' hw' => by clear hR1 hR2 hQ0; go_simp) ?_
        simp only [List.setIfInBounds_toArray, List.set_cons_zero, List.set_cons_succ]
        refine takeMid 3 52 (.tmp 51) b (o + k * 128) ik HIS.out.1 rfl (by kernel_rfl) (by kernel_rfl) (by kernel_rfl) rfl rfl rfl (by rfl) (fun _ _ _ h => h) hHeld (fun W' hw' => hR1 W' hw') ?_
        simp only [List.setIfInBounds_toArray, List.set_cons_zero, List.set_cons_succ]
        refine takeVal 4 53 (.pointer (some ⟨g4, 0, none⟩)) rfl (by kernel_rfl) (by kernel_rfl) (by kernel_rfl) rfl (by rfl) (fun _ _ _ h => h) hHeld (fun W' hw' => by clear hR1 hR2 hQ0; go_simp) ?_
        simp only [List.setIfInBounds_toArray, List.set_cons_zero, List.set_cons_succ]
        refine takeVal 5 54 (.slice (some ⟨gw, 0, none⟩) n wc) rfl (by kernel_rfl) (by kernel_rfl) (by kernel_rfl) rfl (by rfl) (fun _ _ _ h => h) hHeld (fun W' hw' => by have hc := hQ0 W' hw'; clear hR1 hR2 hQ0; go_simp) ?_
        simp only [List.setIfInBounds_toArray, List.set_cons_zero, List.set_cons_succ]
        refine takeVal 6 55 (.int .i64 (k : Int)) rfl (by kernel_rfl) (by kernel_rfl) (by kernel_rfl) rfl (by rfl) (fun _ _ _ h => h) hHeld (fun W' hw' => rfl) ?_
        simp only [List.setIfInBounds_toArray, List.set_cons_zero, List.set_cons_succ]
        refine takeVal 7 56 (.pointer (some ⟨gw, k * 128, none⟩)) rfl (by kernel_rfl) (by kernel_rfl) (by kernel_rfl) rfl (by rfl) (fun _ _ _ h => h) hHeld (fun W' hw' => by clear hR1 hR2 hQ0; go_simp) ?_
        simp only [List.setIfInBounds_toArray, List.set_cons_zero, List.set_cons_succ]
        refine takeMid 8 57 (.tmp 56) gw (k * 128) tk HTS.out.1 rfl (by kernel_rfl) (by kernel_rfl) (by kernel_rfl) rfl rfl rfl (by rfl) (fun _ _ _ h => h) hHeld (fun W' hw' => hR2 W' hw') ?_
        simp only [List.setIfInBounds_toArray, List.set_cons_zero, List.set_cons_succ]
        have HC6 : Hid (Chg w5 w6 No) := hid (HC.out.tr hHeld)
        clear hR1 hR2 hQ0
        by_cases he : ik = tk
        · have HD1 : Hid (difN im T (k + 1) = df) := hid (by rw [HDf.out, if_pos he]; rfl)
          refine takeNeq 9 58 (.tmp 52) (.tmp 57) ik tk true HIS.out.1 HTS.out.1 (decide_eq_true he) rfl (by kernel_rfl) (by kernel_rfl) (by kernel_rfl) rfl rfl rfl rfl (by rfl) (fun _ _ _ h => h) hHeld ?_
          simp only [List.setIfInBounds_toArray, List.set_cons_zero, List.set_cons_succ]
          refine wpAnyH_done (by kernel_rfl) ?_ _
          refine NoPanic.normal ?_
          clear hHeld HDf
          go_wp2_with fail
          exact ⟨⟨k + 1, by omega, by go_num, by rw [HD1.out], HC6⟩, by simp [intOf]; omega⟩
        · have HD1 : Hid (difN im T (k + 1) = df + 1) := hid (by rw [HDf.out, if_neg he])
          refine takeNeq 9 58 (.tmp 52) (.tmp 57) ik tk false HIS.out.1 HTS.out.1 (decide_eq_false he) rfl (by kernel_rfl) (by kernel_rfl) (by kernel_rfl) rfl rfl rfl rfl (by rfl) (fun _ _ _ h => h) hHeld ?_
          simp only [List.setIfInBounds_toArray, List.set_cons_zero, List.set_cons_succ]
          refine wpAnyH_done (by kernel_rfl) ?_ _
          refine NoPanic.normal ?_
          clear hHeld HDf
          go_wp2_with fail
          exact ⟨⟨k + 1, by omega, by go_num, by rw [HD1.out]; go_num, HC6⟩, by simp [intOf]; omega⟩
      · have i1 : ¬ (k : Int) < (n : Int) := by omega
        obtain rfl : k = n := by omega
        have HDn : Hid (difN im T k = Wl.length) := hid (by rw [HNN.out]; exact HX.out.dif)
        obtain ⟨df, hdf⟩ : ∃ y, y = difN im T k := ⟨_, rfl⟩
        rw [← hdf] at HDn ⊢
        obtain ⟨wl, hwl⟩ : ∃ y, y = Wl.length := ⟨_, rfl⟩
        have HWl := hid hwl
        rw [← hwl] at HDn HQ
        have hwb : wl ≤ 4096 := by
          have h1 := HDn.out
          have h2 : ∀ j, difN im T j ≤ j := fun j => by
            induction j with
            | zero => exact Nat.le_refl _
            | succ j ih => rw [difN]; split <;> omega
          have := h2 k
          omega
        clear hwl hdf
        obtain ⟨q0, q1⟩ := HQ.out wr h3r
        obtain rfl : df = wl := HDn.out
        go_wp2_with fail
        go_loopw [10, 11, 12, 13, 14] (fun x10 x11 x12 x13 x14 wq => ∃ (i : Nat) (row last : Int), i ≤ df ∧ x12 = .int .i64 i ∧ x10 = .int .i64 row ∧ x11 = .int .i64 last ∧ Hid (RInv P Q R i row last) ∧ Hid (Chg w5 wq No)) (fun _ _ x12 _ _ _ => df - (intOf x12).toNat)
        case atStart => exact ⟨0, 0, -1, by omega, rfl, rfl, rfl, hid ⟨fun _ => rfl, fun e => by omega, .inl ⟨by omega, rfl⟩⟩, HC⟩
        case round =>
          clear q0 q1 HC
          obtain ⟨i, row, last, hi, rfl, rfl, rfl, HRI, HCq⟩ := hrel
          have h3q := H35.out.tr HCq.out
          obtain ⟨q0, q1⟩ := HQ.out wr h3q
          by_cases hlt2 : i < df
          · have j0 : (0 : Int) ≤ (i : Int) := by omega
            have j1 : (i : Int) < (df : Int) := by omega
            have hX := HX.out
            obtain ⟨row', hst, hnx⟩ := HRI.out.step hX.hP hX.hQ hX.hR hX.pP hX.pQ hX.pR hX.hd (by rw [← hX.wl, ← HWl.out]; exact hlt2)
            rw [← hX.wl] at hst hnx
            obtain ⟨ga, ha1, hga, hca⟩ : ∃ ga, a1 = some ⟨ga, 0, none⟩ ∧ (∃ A, wr.heap[ga]? = some (.cells A 3 (0, 0))) ∧ ∀ j, j < Wl.length → wr.cell? ⟨ga, j, none⟩ = some (.int .i64 (Wl.getD j 0)) := by
              rcases HLA.out.call h3q with h | h
              · have := HWl.out; rw [h] at this; simp at this; omega
              · exact h
            rw [ha1] at q1
            have c1 := hca i (by rw [← HWl.out]; exact hlt2)
            obtain ⟨y1, y2, y3⟩ := hX.ml (Wl.getD i 0) (getD_mem (by rw [← HWl.out]; exact hlt2))
            rw [← HNN.out] at y2
            obtain ⟨y, hy⟩ : ∃ y, y = Wl.getD i 0 := ⟨_, rfl⟩
            rw [← hy] at hst hnx c1 y1 y2 y3
            obtain ⟨m, rfl⟩ : ∃ m : Nat, y = (m : Int) := ⟨y.toNat, by omega⟩
            have HNX := hid hnx
            have HST := hid hst
            obtain ⟨ik, hik⟩ : ∃ y, y = secI im (m : Int) := ⟨_, rfl⟩
            obtain ⟨tk, htk⟩ : ∃ y, y = secI T (m : Int) := ⟨_, rfl⟩
            have HIS : Hid (IsSec ik) := hid (by rw [hik]; exact HSec.out _)
            have HTS : Hid (IsSec tk) := hid (by rw [htk]; exact HTs.out _)
            have hR1 := fun W' (hW : Chg wr W' No) => HRg.out W' (h3q.tr hW) m (by omega)
            have hR2 := fun W' (hW : Chg wr W' No) => HRw.out W' (h3q.tr hW) m (by omega)
            have hQ0 := fun W' (hW : Chg wr W' No) => (HQ.out W' (h3q.tr hW)).1
            have hM := fun W' (hW : Chg wr W' No) => HG6.out W' (HCq.out.tr hW)
            rw [← hik] at hR1 y3
            rw [← htk] at hR2 y3
            have y4 : ¬ (m : Int) < 1 := by omega
            have y5 : ¬ (m : Int) ≥ (k : Int) := by omega
            have m0 : (0 : Int) ≤ (m : Int) := by omega
            clear hy hik htk hst hnx hca hga hX h3q
            go_upto_region 22 with fail
            refine wp_region_noPanic ?_
            refine wp_region_held_drew (S := fun w' => Chg wr w' No) (by kernel_rfl) (Chg.refl _ _).drew (fun hHeld => ?_)
            obtain ⟨w6, hw6⟩ : ∃ y, y = wr.drew := ⟨_, rfl⟩
            rw [← hw6] at hHeld ⊢
            clear hw6
            refine takeVal 0 73 (.int .i64 (m : Int)) rfl (by kernel_rfl) (by kernel_rfl) (by kernel_rfl) rfl (by rfl) (fun _ _ _ h => h) hHeld (fun W' hw' => rfl) ?_
            simp only [List.setIfInBounds_toArray, List.set_cons_zero, List.set_cons_succ]
            refine takeVal 1 74 (.bool false) rfl (by kernel_rfl) (by kernel_rfl) (by kernel_rfl) rfl (by rfl) (fun _ _ _ h => h) hHeld (fun W' hw' => by clear hR1 hR2 hQ0 hM; go_simp) ?_
            simp only [List.setIfInBounds_toArray, List.set_cons_zero, List.set_cons_succ]
            refine takeVal 2 75 (.bool false) rfl (by kernel_rfl) (by kernel_rfl) (by kernel_rfl) rfl (by rfl) (fun _ _ _ h => h) hHeld (fun W' hw' => rfl) ?_
            simp only [List.setIfInBounds_toArray, List.set_cons_zero, List.set_cons_succ]
            refine takeVal 3 76 (.int .i64 (m : Int)) rfl (by kernel_rfl) (by kernel_rfl) (by kernel_rfl) rfl (by rfl) (fun _ _ _ h => h) hHeld (fun W' hw' => rfl) ?_
            simp only [List.setIfInBounds_toArray, List.set_cons_zero, List.set_cons_succ]
            refine takeVal 4 77 (.slice (some ⟨b, o, none⟩) k ic) rfl (by kernel_rfl) (by kernel_rfl) (by kernel_rfl) rfl (by rfl) (fun _ _ _ h => h) hHeld (fun W' hw' => rfl) ?_
            simp only [List.setIfInBounds_toArray, List.set_cons_zero, List.set_cons_succ]
            refine takeVal 5 78 (.int .i64 (k : Int)) rfl (by kernel_rfl) (by kernel_rfl) (by kernel_rfl) rfl (by rfl) (fun _ _ _ h => h) hHeld (fun W' hw' => by clear hR1 hR2 hQ0 hM; go_simp) ?_
            simp only [List.setIfInBounds_toArray, List.set_cons_zero, List.set_cons_succ]
            refine takeVal 6 79 (.bool false) rfl (by kernel_rfl) (by kernel_rfl) (by kernel_rfl) rfl (by rfl) (fun _ _ _ h => h) hHeld (fun W' hw' => by clear hR1 hR2 hQ0 hM; go_simp) ?_
            simp only [List.setIfInBounds_toArray, List.set_cons_zero, List.set_cons_succ]
            refine takeVal 7 80 (.bool false) rfl (by kernel_rfl) (by kernel_rfl) (by kernel_rfl) rfl (by rfl) (fun _ _ _ h => h) hHeld (fun W' hw' => by clear hR1 hR2 hQ0 hM; go_simp) ?_
            simp only [List.setIfInBounds_toArray, List.set_cons_zero, List.set_cons_succ]
            refine takeVal 8 81 (.bool false) rfl (by kernel_rfl) (by kernel_rfl) (by kernel_rfl) rfl (by rfl) (fun _ _ _ h => h) hHeld (fun W' hw' => rfl) ?_
            simp only [List.setIfInBounds_toArray, List.set_cons_zero, List.set_cons_succ]
            refine takeVal 9 82 (.slice (some ⟨b, o, none⟩) k ic) rfl (by kernel_rfl) (by kernel_rfl) (by kernel_rfl) rfl (by rfl) (fun _ _ _ h => h) hHeld (fun W' hw' => rfl) ?_
            simp only [List.setIfInBounds_toArray, List.set_cons_zero, List.set_cons_succ]
            refine takeVal 10 83 (.int .i64 (m : Int)) rfl (by kernel_rfl) (by kernel_rfl) (by kernel_rfl) rfl (by rfl) (fun _ _ _ h => h) hHeld (fun W' hw' => rfl) ?_
            simp only [List.setIfInBounds_toArray, List.set_cons_zero, List.set_cons_succ]
            refine takeVal 11 84 (.pointer (some ⟨b, o + m * 128, none⟩)) rfl (by kernel_rfl) (by kernel_rfl) (by kernel_rfl) rfl (by rfl) (fun _ _ _ h => h) hHeld (fun W' hw' => by clear hR1 hR2 hQ0 hM; go_simp) ?_
            simp only [List.setIfInBounds_toArray, List.set_cons_zero, List.set_cons_succ]
            refine takeMid 12 85 (.tmp 84) b (o + m * 128) ik HIS.out.1 rfl (by kernel_rfl) (by kernel_rfl) (by kernel_rfl) rfl rfl rfl (by rfl) (fun _ _ _ h => h) hHeld (fun W' hw' => hR1 W' hw') ?_
            simp only [List.setIfInBounds_toArray, List.set_cons_zero, List.set_cons_succ]
            refine takeVal 13 86 (.pointer (some ⟨g4, 0, none⟩)) rfl (by kernel_rfl) (by kernel_rfl) (by kernel_rfl) rfl (by rfl) (fun _ _ _ h => h) hHeld (fun W' hw' => by clear hR1 hR2 hQ0 hM; go_simp) ?_
            simp only [List.setIfInBounds_toArray, List.set_cons_zero, List.set_cons_succ]
            refine takeVal 14 87 (.slice (some ⟨gw, 0, none⟩) k wc) rfl (by kernel_rfl) (by kernel_rfl) (by kernel_rfl) rfl (by rfl) (fun _ _ _ h => h) hHeld (fun W' hw' => by have hc := hQ0 W' hw'; clear hR1 hR2 hQ0 hM; go_simp) ?_
            simp only [List.setIfInBounds_toArray, List.set_cons_zero, List.set_cons_succ]
            refine takeVal 15 88 (.int .i64 (m : Int)) rfl (by kernel_rfl) (by kernel_rfl) (by kernel_rfl) rfl (by rfl) (fun _ _ _ h => h) hHeld (fun W' hw' => rfl) ?_
            simp only [List.setIfInBounds_toArray, List.set_cons_zero, List.set_cons_succ]
            refine takeVal 16 89 (.pointer (some ⟨gw, m * 128, none⟩)) rfl (by kernel_rfl) (by kernel_rfl) (by kernel_rfl) rfl (by rfl) (fun _ _ _ h => h) hHeld (fun W' hw' => by clear hR1 hR2 hQ0 hM; go_simp) ?_
            simp only [List.setIfInBounds_toArray, List.set_cons_zero, List.set_cons_succ]
            refine takeMid 17 90 (.tmp 89) gw (m * 128) tk HTS.out.1 rfl (by kernel_rfl) (by kernel_rfl) (by kernel_rfl) rfl rfl rfl (by rfl) (fun _ _ _ h => h) hHeld (fun W' hw' => hR2 W' hw') ?_
            simp only [List.setIfInBounds_toArray, List.set_cons_zero, List.set_cons_succ]
            refine takeEq 18 91 (.tmp 85) (.tmp 90) ik tk false HIS.out.1 HTS.out.1 (decide_eq_false y3) rfl (by kernel_rfl) (by kernel_rfl) (by kernel_rfl) rfl rfl rfl rfl (by rfl) (fun _ _ _ h => h) hHeld ?_
            simp only [List.setIfInBounds_toArray, List.set_cons_zero, List.set_cons_succ]
            refine takeVal 19 92 (.bool false) rfl (by kernel_rfl) (by kernel_rfl) (by kernel_rfl) rfl (by rfl) (fun _ _ _ h => h) hHeld (fun W' hw' => by clear hR1 hR2 hQ0 hM; go_simp) ?_
            simp only [List.setIfInBounds_toArray, List.set_cons_zero, List.set_cons_succ]
            refine wpAnyH_done (by kernel_rfl) ?_ _
            refine NoPanic.normal ?_
            have HC6 : Hid (Chg w5 w6 No) := hid (HCq.out.tr hHeld)
            have d1 := hM w6 hHeld
            clear hHeld hR1 hR2 hQ0 hM y3
            have hsi := HST.out
            clear HST
            cases hsi with
            | s1 h1 h2 =>
              have h3 : ¬ (m : Int) < last := by omega
              have h4 : ¬ (m : Int) ≤ last := by omega
              go_wp2_with fail
              exact ⟨⟨i + 1, 0, m, by omega, by go_num, rfl, rfl, HNX, HC6⟩, by simp [intOf]; omega⟩
            | s2 h1 =>
              have h4 : ¬ (m : Int) ≤ -1 := by omega
              go_wp2_with fail
              exact ⟨⟨i + 1, 1, m, by omega, by go_num, rfl, rfl, HNX, HC6⟩, by simp [intOf]; omega⟩
            | s3 h1 h2 =>
              have h4 : ¬ (m : Int) ≤ last := by omega
              go_wp2_with fail
              exact ⟨⟨i + 1, 1, m, by omega, by go_num, rfl, rfl, HNX, HC6⟩, by simp [intOf]; omega⟩
            | s4 h1 h2 =>
              have h4 : ¬ (m : Int) ≤ -1 := by omega
              go_wp2_with fail
              exact ⟨⟨i + 1, 2, m, by omega, by go_num, rfl, rfl, HNX, HC6⟩, by simp [intOf]; omega⟩
            | s5 h1 =>
              have h4 : ¬ (m : Int) ≤ -1 := by omega
              go_wp2_with fail
              exact ⟨⟨i + 1, 2, m, by omega, by go_num, rfl, rfl, HNX, HC6⟩, by simp [intOf]; omega⟩
            | s6 h1 h2 =>
              have h4 : ¬ (m : Int) ≤ last := by omega
              go_wp2_with fail
              exact ⟨⟨i + 1, 2, m, by omega, by go_num, rfl, rfl, HNX, HC6⟩, by simp [intOf]; omega⟩
          · have j1 : ¬ (i : Int) < (df : Int) := by omega
            have HCf : Hid (Chg W wr No) := hid (HC3.out.tr (H35.out.tr HCq.out))
            clear h3q
            go_wp2_with fail
            go_ret
            exact ⟨rfl, HCf.out.below⟩

end Go.Proofs.YtpmignilhoihnaaGreat
