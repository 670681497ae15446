/-
  PathLists, walked: a draft.
-/
import Derived.Test.YtfkmpbbemkkdaaaDoorQX
import Derived.Test.YtfkmpbbemkkdaaaDoorQJ
namespace Go.Proofs.YtfkmpbbemkkdaaaDoor
open Go.RowKit Go.Shelf

theorem own_newL (W : World) (B : Nat) (hB : B ≤ W.heap.size) : TOwn (W.alloc (.cells #[] 9)) B (.slice (some ⟨W.heap.size, 0, none⟩) 0 0) [] :=
  ⟨rfl, .inr ⟨W.heap.size, 0, #[], rfl, hB, heap_alloc_new _ _, Nat.le_refl _, Nat.zero_le _, rfl, rfl⟩⟩
theorem below_newL (w : World) (o : Obj) : Below w.heap.size w (w.alloc o) := (Below.refl _ _).alloc (Nat.le_refl _) _
theorem slice_headL (a : Option Addr) (n d I : Nat) (w : World) (h : I ≤ d) : (Instr.slice 22 (.slice a n d) none (some (.int .i64 (I : Int))) none).run Tryd.prog w = .ok (.slice a I d) w := by
  rw [run_slice_h w 22 a n d Tryd.underlying22 .i64 I (by omega) (by omega)]
  have e : Tryd.prog.elem 22 = 9 := by kernel_rfl
  rw [e, Tryd.sizeOf9, Result.andThen_ok]
  unfold sliced
  cases a with
  | none => simp
  | some x => simp [Addr.add]
def xsp : ByteArray := ⟨#[115, 112, 97, 114, 101]⟩
def xro : ByteArray := ⟨#[114, 111, 111, 109]⟩

set_option maxRecDepth 100000 in
set_option maxHeartbeats 4000000 in
theorem lists_walk (ls : List ByteArray) (p : ByteArray) (a : Option Addr) (c : Nat) (w : World) (hm : ML w) (h16 : (ls.length + 2) * 16 ≤ 140737488355328) (ha : TAt w a ls) :
    Calls Tryd.prog 3 #[.slice a ls.length c, .string p] w fun e w' => e = .returned (.bool true) ∧ Below w.heap.size w w' := by
  have HM := hid hm
  have HA := hid ha
  clear hm ha
  go_enter Tryd.func3, Tryd.ntmps3
  go_upto_region 2 with (first
    | (at_builtin; go_must (first
        | (refine wp_appL rfl _ _ rfl w.heap.size _ c a _ [] ls rfl rfl rfl (own_newL _ _ (Nat.le_refl _)) (HA.out.below (below_newL _ _)) (by simp <;> omega) (by simp) ?_; intro v1 w1 h11 h12 h13; have HT1 := hid h11; have HB1 := hid (h12.to (below_newL _ _) (below_newL _ _).size (fun k hk => by cases hk; exact Nat.le_refl _)); clear h11 h12 h13)
        | (refine wp_appL rfl _ _ rfl w.heap.size 2 2 (some ⟨w1.heap.size, 0, none⟩) _ ls [xsp, xro] rfl rfl rfl (row_below HT1.out (below_newL _ _)) (new_list w1 [xsp, xro]).at (by simp <;> omega) (by have := HB1.out.size; simp; omega) ?_; intro v2 w2 h21 h22 h23; have HT2 := hid h21; have HB2 := hid (h22.to (btr HB1.out (below_newL _ _) HB1.out.size) (by have := HB1.out.size; simp; omega) (fun k hk => (row_ge HT1.out hk).1)); clear h21 h22 h23))))
  obtain ⟨gF, dF, rfl, hgB, hgl, hle, hcell⟩ := row_cells HT2.out (by simp)
  have hn2 : (ls ++ [xsp, xro]).length = ls.length + 2 := by simp
  have HC0 : Hid (∀ (j : Nat) x, ls[j]? = some x → w2.cell? ⟨gF, j, none⟩ = some (.string x)) := fun j x hx => hcell j _ (by
    have hj : j < ls.length := by
      rcases Nat.lt_or_ge j ls.length with g | g
      · exact g
      · rw [List.getElem?_eq_none g] at hx; cases hx
    rw [List.getElem?_map, List.getElem?_append_left hj, hx]; rfl)
  have HC1 : Hid (w2.cell? ⟨gF, ls.length, none⟩ = some (.string xsp)) := hcell _ _ (by simp)
  have HC2 : Hid (w2.cell? ⟨gF, ls.length + 1, none⟩ = some (.string xro)) := hcell _ _ (by simp)
  rw [hn2] at hle ⊢
  have HL2 : Hid (LAt w2 (some ⟨gF, 0, none⟩) ls) := .inr ⟨gF, rfl, hgl, HC0.out⟩
  have HJ := hid (join_any ls (some ⟨gF, 0, none⟩) dF w2 HL2.out (by omega) (by omega))
  have HRJ : Hid (∀ w', Below w2.heap.size w2 w' → _) := fun w' hb => rjoin_any ls a c w' ((HA.out.below HB2.out).below hb) (by omega)
  have HSM : Hid (∀ w', Below w2.heap.size w2 w' → _) := fun w' hb => same_is ls ls true (some ⟨gF, 0, none⟩) a ls.length ls.length dF c w' rfl rfl (by omega) (by omega) (HL2.out.below hb).at ((HA.out.below HB2.out).below hb) (decide_eq_true rfl)
  clear hcell hn2 HT2 HT1 HB1 HC0
  have hsl := fun w' => slice_headL (some ⟨gF, 0, none⟩) (ls.length + 2) dF ls.length w' (by omega)
  have HRR : Hid (joinR (datas ls) = ((joinR (datas ls)).1, (joinR (datas ls)).2)) := rfl
  generalize (joinR (datas ls)).2 = jE at *
  have hm2 : ls.length + 2 ≤ 140737488355328 := by omega
  generalize hlen : ls.length = m at *
  have HLen := hid hlen
  clear hlen
  go_upto_region 4 with (first
    | (go_at_call 4; go_must (refine HJ.out.mono ?_; rintro e w3 ⟨t1, rfl, ht1, hb3⟩; have H31 := hid ht1; have HB3 := hid hb3; clear ht1))
    | (go_at_call 5; go_must (refine (HRJ.out _ HB3.out).mono ?_; rintro e w4 ⟨t2, rfl, ht2, hb4⟩; have H42 := hid ht2; have HB4 := hid (btr HB3.out hb4 HB3.out.size); clear ht2)))
  obtain rfl : t2 = t1 := data_inj (by rw [H42.out, H31.out])
  clear hb3 hb4 HB3 H42 HJ HRJ
  have HK1 : Hid (∀ w', Below w4.heap.size w4 w' → w'.cell? ⟨gF, m, none⟩ = some (.string xsp)) := fun w' hb => cell_below (btr HB4.out hb HB4.out.size) hgl HC1.out
  have HK2 : Hid (∀ w', Below w4.heap.size w4 w' → w'.cell? ⟨gF, m + 1, none⟩ = some (.string xro)) := fun w' hb => cell_below (btr HB4.out hb HB4.out.size) hgl HC2.out
  have i0 : (0 : Int) ≤ (m : Int) := by omega
  have i1 : (m : Int) < ((m + 2 : Nat) : Int) := by omega
  have i2 : (0 : Int) ≤ (m : Int) + 1 := by omega
  have i3 : (m : Int) + 1 < ((m + 2 : Nat) : Int) := by omega
  have i4 : ((m : Int) + 1).toNat = m + 1 := by omega
  go_upto_region 6 with (first
    | (go_at_call 6; go_must (refine (HSM.out _ HB4.out).mono ?_; rintro e w5 ⟨rfl, hb5⟩; have k1 : w5.cell? ⟨gF, m, none⟩ = some (.string ⟨#[115, 112, 97, 114, 101]⟩) := HK1.out w5 hb5; have k2 : w5.cell? ⟨gF, m + 1, none⟩ = some (.string ⟨#[114, 111, 111, 109]⟩) := HK2.out w5 hb5; have HB5 := hid (btr HB2.out (btr HB4.out hb5 HB4.out.size) HB2.out.size); clear hb5)))
  clear k1 k2 i0 i1 i2 i3 i4 HK1 HK2 HC1 HC2 HSM hsl HB4 HL2 HRR hle hgl hgB hm2 h16
  obtain ⟨W, hW⟩ : ∃ x, x = w5.alloc (.cells #[.string p, .string t2, .string p, .string t2, .string p] 9) := ⟨_, rfl⟩
  have HX : Hid (LAt W (some ⟨w5.heap.size, 0, none⟩) [p, t2, p, t2, p]) := by rw [hW]; exact new_list w5 [p, t2, p, t2, p]
  have HBW : Hid (Below w.heap.size w W) := by rw [hW]; exact btr HB5.out (below_newL _ _) HB5.out.size
  have HMW : Hid (ML W) := HM.out.below HBW.out
  have hgX : w5.heap.size < W.heap.size := by rw [hW]; simp
  obtain ⟨gX, hgX'⟩ : ∃ x, x = w5.heap.size := ⟨_, rfl⟩
  go_upto_region 7 with fail
  rw [← hW, ← hgX']
  rw [← hgX'] at HX hgX
  clear hW hgX' HB5 HB2 HM
  go_wp2_with fail
  go_loopw [11, 12] (fun v i wr => ∃ (k : Nat) (V : List Lst), k ≤ 5 ∧ V.length = k ∧ i = .int .i64 k ∧ Hid (Lot W.heap.size v V wr) ∧ Hid (Below W.heap.size W wr)) (fun _ i _ => 5 - (intOf i).toNat)
  case atStart => exact ⟨0, [], by omega, rfl, rfl, Lot.nil _ _, Below.refl _ _⟩
  case round =>
    obtain ⟨k, V, hk, hV, rfl, HLot, HBr⟩ := hrel
    by_cases hlt : k < 5
    · obtain ⟨s, hs⟩ : ∃ s, [p, t2, p, t2, p][k]? = some s := ⟨_, List.getElem?_eq_getElem (by simpa using hlt)⟩
      have p1 : wr.cell? ⟨gX, k, none⟩ = some (.string s) := by
        rcases HX.out with h | ⟨g, hg, _, h⟩
        · cases h
        · cases hg; exact cell_below HBr.out hgX (h k s hs)
      have hS := split_any s wr (HMW.out.below HBr.out)
      have hR := fun w' => rsplit_any s w'
      have HLB := hid (split_few s)
      have HP1 : Hid (∀ w', Below wr.heap.size wr w' → w'.cell? ⟨gX, k, none⟩ = some (.string s)) := fun w' hb => cell_below hb (Nat.lt_of_lt_of_le hgX HBr.out.size) p1
      generalize splitR s.data.toList = R at *
      have j0 : (0 : Int) ≤ (k : Int) := by omega
      have j1 : (k : Int) < 5 := by omega
      clear hs
      go_wp2_with (first
        | (go_at_call 7; go_must (refine hS.mono ?_; rintro e x2 ⟨a2, l2, rfl, d2, o2, hb2⟩; have HO2 := hid o2; have HD2 := hid d2; have p2 := HP1.out x2 hb2; have HN2 : Hid (l2.length ≤ 401) := (by have h1 := HLB.out; rw [← d2, datas_len] at h1; exact h1); clear d2 o2))
        | (go_at_call 8; go_must (refine (hR _).mono ?_; rintro e x3 ⟨a3, c3, l3, rfl, d3, o3, hb3⟩; have HA3 := hid o3; have HO3 := hid (HO2.out.below hb3); have HB3 := hid (btr hb2 hb3 hb2.size); have hEq : l2 = l3 := datas_inj (by rw [HD2.out, d3]); subst hEq; clear d3 o3))
        | (go_at_call 6; go_must (refine (same_is l2 l2 true a2 a3 _ _ _ c3 _ rfl rfl (by have := HN2.out; omega) (by have := HN2.out; omega) HO3.out.at.at HA3.out.at (by simp)).mono ?_; rintro e x4 ⟨rfl, hb4⟩; have HB4 := hid (btr HB3.out hb4 HB3.out.size); have HO4 := hid (HO3.out.below hb4); clear hb4))
        | (at_builtin; go_must (refine wp_appS rfl _ _ rfl W.heap.size x4.heap.size 1 _ (V.map valV) (.slice a2 l2.length l2.length) rfl rfl rfl (row_below (HLot.out.below HB4.out).row (below_newL _ _)) (by rw [cell_of_row _ _ _ _ _ _ (heap_alloc_new _ _)]; rfl) (by simp; omega) (by have h1 := HB4.out.size; have h2 := HBr.out.size; simp; omega) ?_; intro v5 x5 h51 h52 h53; have H51 := hid h51; have H52 := hid h52; have H53 := hid h53; clear h51 h52 h53)))
      obtain ⟨x, rfl, rfl, hx3⟩ := own_lst HO2.out
      have hWr := HBr.out.size
      have hL4 := (HLot.out.below HB4.out).below (below_newL x4 (.cells #[.slice (adr x) x.2.length x.2.length] 22))
      have hO4 := own_to (HO4.out.below (below_newL x4 (.cells #[.slice (adr x) x.2.length x.2.length] 22))) hWr
      have hL5 := hL4.more hO4 HN2.out (fun g hg => ⟨fun e => by have h1 := hx3 g hg; have h2 := (row_ge HLot.out.row e).2; omega, fun j y hy e => by have h1 := hx3 g hg; have h2 := slt (own_lt (HLot.out.own j y hy).1 e).2; omega⟩) (by rw [List.map_append]; exact H51.out) H52.out H53.out
      have hB5 : Below W.heap.size W x5 := H52.out.to (btr (btr HBr.out HB4.out hWr) (below_newL x4 _) (Nat.le_trans hWr HB4.out.size)) (Nat.le_trans hWr (Nat.le_trans HB4.out.size (below_newL x4 _).size)) (fun g hg => (row_ge HLot.out.row hg).1)
      exact ⟨⟨k + 1, V ++ [x], by omega, by simp [hV], by go_num, hL5, hB5⟩, by simp [intOf]; omega⟩
    · obtain rfl : k = 5 := by omega
      rw [show (((5 : Nat) : Int)) = 5 from rfl]
      obtain ⟨gL, dL, rfl, hgL, hgL2, hdL, hcL⟩ := row_cells HLot.out.row (by simp [hV])
      have hV5 : (V.map valV).length = 5 := by simp [hV]
      rw [hV5] at HLot ⊢
      obtain ⟨wa, hwa⟩ : ∃ x, x = wr := ⟨_, rfl⟩
      rw [← hwa] at HLot HBr ⊢
      clear hwa hcL hdL hgL2 hlt hk
      go_wp2_with fail
      go_loopw [17] (fun i wr => ∃ (k : Nat) (V : List Lst), k ≤ 5 ∧ V.length = 5 ∧ i = .int .i64 k ∧ Hid (Lot W.heap.size (.slice (some ⟨gL, 0, none⟩) 5 dL) V wr) ∧ Hid (Below W.heap.size W wr) ∧ Hid (∀ (j : Nat) x, j < k → V[j]? = some x → ∀ (q : Nat) t, x.2[q]? = some t → t = tagB j)) (fun i _ => 5 - (intOf i).toNat)
      case atStart => exact ⟨0, V, by omega, hV, rfl, HLot, HBr, fun j x hj => by omega⟩
      case round =>
        obtain ⟨k, V, hk, hV, rfl, HLot, HBr, HTg⟩ := hrel
        by_cases hlt : k < 5
        · obtain ⟨x, hx⟩ : ∃ x, V[k]? = some x := ⟨_, List.getElem?_eq_getElem (by omega)⟩
          obtain ⟨wb, hwb⟩ : ∃ x, x = wr := ⟨_, rfl⟩
          rw [← hwb] at HLot HBr ⊢
          clear hwb
          obtain ⟨n, hn⟩ : ∃ n, n = x.2.length := ⟨_, rfl⟩
          have hn401 : n ≤ 401 := by rw [hn]; exact (HLot.out.own k x hx).2
          have j0 : (0 : Int) ≤ (k : Int) := by omega
          have j1 : (k : Int) < 5 := by omega
          go_wp2_with fail
          go_loopw [18] (fun i wr => ∃ (q : Nat) (V2 : List Lst) (x2 : Lst), q ≤ n ∧ V2.length = 5 ∧ i = .int .i64 q ∧ Hid (V2[k]? = some x2) ∧ Hid (x2.2.length = n) ∧ Hid (Lot W.heap.size (.slice (some ⟨gL, 0, none⟩) 5 dL) V2 wr) ∧ Hid (Below W.heap.size W wr) ∧ Hid (∀ (j : Nat) x, j < k → V2[j]? = some x → ∀ (q : Nat) t, x.2[q]? = some t → t = tagB j) ∧ Hid (∀ (r : Nat) t, r < q → x2.2[r]? = some t → t = tagB k)) (fun i _ => n - (intOf i).toNat)
          case atStart => exact ⟨0, V, x, by omega, hV, rfl, hx, hn.symm, HLot, HBr, HTg, fun r t hr => by omega⟩
          case round =>
            obtain ⟨q, V2, x2, hq, hV2, rfl, HX2, HN2, HL2, HB2, HT2, HQ2⟩ := hrel
            have hc0 := (HL2.out.cell k x2 HX2.out).1
            unfold valV at hc0
            rw [HN2.out] at hc0
            by_cases hqn : q < n
            · obtain ⟨t0, ht0⟩ : ∃ t, x2.2[q]? = some t := ⟨_, List.getElem?_eq_getElem (by rw [HN2.out]; exact hqn)⟩
              obtain ⟨g, hg, hgl, hcg, _⟩ := HL2.out.text HX2.out ht0
              have had : adr x2 = some ⟨g, 0, none⟩ := by simp [adr, hg]
              rw [had] at hc0
              clear had
              have q0 : (0 : Int) ≤ (q : Int) := by omega
              have q1 : (q : Int) < (n : Int) := by omega
              have HT0 := hid ht0
              clear ht0
              clear hcg hx hn
              go_upto_region 22 with fail
              refine wp_region_noPanic ?_
              refine wp_region_held_drew (S := fun W => W.cell? ⟨gL, k, none⟩ = some (.slice (some ⟨g, 0, none⟩) n n)) (by kernel_rfl) hc0 (fun hHeld => ?_)
              refine takeVal 0 137 (.slice (some ⟨gL, 0, none⟩) 5 dL) rfl (by kernel_rfl) (by kernel_rfl) (by kernel_rfl) rfl (by rfl) (fun _ _ _ h => h) hHeld (fun _ hw' => rfl) ?_
              simp only [List.setIfInBounds_toArray, List.set_cons_zero, List.set_cons_succ]
              refine takeVal 1 138 (.int .i64 (k : Int)) rfl (by kernel_rfl) (by kernel_rfl) (by kernel_rfl) rfl (by rfl) (fun _ _ _ h => h) hHeld (fun _ hw' => rfl) ?_
              simp only [List.setIfInBounds_toArray, List.set_cons_zero, List.set_cons_succ]
              refine takeVal 2 139 (.pointer (some ⟨gL, k, none⟩)) rfl (by kernel_rfl) (by kernel_rfl) (by kernel_rfl) rfl (by rfl) (fun _ _ _ h => h) hHeld (fun _ hw' => by go_simp) ?_
              simp only [List.setIfInBounds_toArray, List.set_cons_zero, List.set_cons_succ]
              refine takeVal 3 140 (.slice (some ⟨g, 0, none⟩) n n) rfl (by kernel_rfl) (by kernel_rfl) (by kernel_rfl) rfl (by rfl) (fun _ _ _ h => h) hHeld (fun _ hw' => by have hs3 : World.cell? _ ⟨gL, k, none⟩ = some (.slice (some ⟨g, 0, none⟩) n n) := hw'; go_simp) ?_
              simp only [List.setIfInBounds_toArray, List.set_cons_zero, List.set_cons_succ]
              refine takeVal 4 141 (.int .i64 (q : Int)) rfl (by kernel_rfl) (by kernel_rfl) (by kernel_rfl) rfl (by rfl) (fun _ _ _ h => h) hHeld (fun _ hw' => rfl) ?_
              simp only [List.setIfInBounds_toArray, List.set_cons_zero, List.set_cons_succ]
              refine takeVal 5 142 (.int .i64 (k : Int)) rfl (by kernel_rfl) (by kernel_rfl) (by kernel_rfl) rfl (by rfl) (fun _ _ _ h => h) hHeld (fun _ hw' => rfl) ?_
              simp only [List.setIfInBounds_toArray, List.set_cons_zero, List.set_cons_succ]
              refine step1 6 (by kernel_rfl) ?_
              refine stCall 6 143 9 #[.int .i64 (k : Int)] _ rfl rfl (by rfl) (by go_simp) (tag_any k hlt _) ?_
              rintro e w6 ⟨rfl, hb6⟩
              have hc6 := cell_below hb6 (World.block_lt_of_cell? _ _ hHeld) hHeld
              have hL6 := (HL2.out.below (below_drewX (Below.refl _ _))).below hb6
              have hB6 := btr (below_drewX HB2.out) hb6 HB2.out.size
              refine ⟨_, rfl, hc6, ?_⟩
              simp only [List.setIfInBounds_toArray, List.set_cons_zero, List.set_cons_succ]
              refine takeVal 7 144 (.pointer (some ⟨g, q, none⟩)) rfl (by kernel_rfl) (by kernel_rfl) (by kernel_rfl) rfl (by rfl) (fun _ _ _ h => h) hc6 (fun _ hw' => by go_simp) ?_
              simp only [List.setIfInBounds_toArray, List.set_cons_zero, List.set_cons_succ]
              refine step1 8 (by kernel_rfl) ?_
              have hL7 := hL6.put (k := q) (t := tagB k) HX2.out hg
              obtain ⟨g', hg', _, hcg6, hfr⟩ := hL6.text HX2.out HT0.out
              rw [hg] at hg'
              cases hg'
              refine stPut 8 (w6.setCell ⟨g, q, none⟩ (.string (tagB k))) rfl rfl (by rfl) (by go_simp) ⟨?_, ?_⟩
              · have := (hL7.cell k _ (by rw [List.getElem?_set_self (by omega)])).1
                rw [this]
                simp [valV, adr, hg, HN2.out]
              refine wpAnyH_done (by kernel_rfl) ?_ _
              refine NoPanic.normal ?_
              have hB7 : Below W.heap.size W (w6.setCell ⟨g, q, none⟩ (.string (tagB k))) := (Chg.setCell (g := g) (j := q)).to hB6 hB6.size (fun i hi => by subst hi; exact (own_lt (HL2.out.own k x2 HX2.out).1 hg).1)
              have HL7 := hid hL7
              have HB7 := hid hB7
              clear hL7 hB7 hL6 hB6 hb6 hc6 hcg6 hfr hc0 hHeld
              go_wp2_with fail
              exact ⟨⟨q + 1, _, (x2.1, x2.2.set q (tagB k)), by omega, by simp [hV2], by go_num, hid (List.getElem?_set_self (by omega)), hid (by simp [HN2.out]), HL7, HB7, fun j y hj hy r t ht => HT2.out j y hj (by rw [List.getElem?_set_ne (by omega)] at hy; exact hy) r t ht, fun r t hr ht => by
                rcases Nat.lt_or_ge r q with e | e
                · rw [List.getElem?_set_ne (by omega)] at ht
                  exact HQ2.out r t e ht
                · obtain rfl : r = q := by omega
                  rw [List.getElem?_set_self (by rw [HN2.out]; exact hqn)] at ht
                  cases ht
                  rfl⟩, by simp [intOf]; omega⟩
            · obtain rfl : q = n := by omega
              have HC0 := hid hc0
              have hge : ¬ ((q : Int) < (q : Int)) := by omega
              go_wp2_with fail
              exact ⟨⟨k + 1, V2, by omega, hV2, by go_num, HL2, HB2, fun j y hj hy r t ht => by
                rcases Nat.lt_or_ge j k with e | e
                · exact HT2.out j y e hy r t ht
                · obtain rfl : j = k := by omega
                  rw [HX2.out] at hy
                  cases hy
                  refine HQ2.out r t ?_ ht
                  have := (List.getElem?_eq_some_iff.1 ht).1
                  rw [HN2.out] at this
                  exact this⟩, by simp [intOf]; omega⟩
        · obtain rfl : k = 5 := by omega
          rw [show (((5 : Nat) : Int)) = 5 from rfl]
          obtain ⟨wc, hwc⟩ : ∃ x, x = wr := ⟨_, rfl⟩
          rw [← hwc] at HLot HBr ⊢
          clear hwc hlt hk
          go_wp2_with fail
          go_loopw [19, 20] (fun v i wr => ∃ (k : Nat) (G : List Value), k ≤ 5 ∧ G.length = k ∧ i = .int .i64 k ∧ Hid (Grown wc.heap.size v G V wr) ∧ Hid (Below wc.heap.size wc wr)) (fun _ i _ => 5 - (intOf i).toNat)
          case atStart => exact ⟨0, [], by omega, rfl, rfl, Grown.nil _ _ _, Below.refl _ _⟩
          case round =>
            obtain ⟨k, G, hk, hG, rfl, HGr, HBc⟩ := hrel
            by_cases hlt : k < 5
            · obtain ⟨x, hx⟩ : ∃ x, V[k]? = some x := ⟨_, List.getElem?_eq_getElem (by omega)⟩
              obtain ⟨wd, hwd⟩ : ∃ x, x = wr := ⟨_, rfl⟩
              rw [← hwd] at HGr HBc ⊢
              clear hwd
              have hc0 := ((HLot.out.below HBc.out).cell k x hx).1
              have HO := hid ((HLot.out.below HBc.out).own k x hx)
              have HXT := hid (all_tags (fun q t ht => HTg.out k x hlt hx q t ht))
              have hn401 : x.2.length ≤ 401 := HO.out.2
              unfold valV at hc0
              have j0 : (0 : Int) ≤ (k : Int) := by omega
              have j1 : (k : Int) < 5 := by omega
              have hT := fun w' => tag_any k hlt w'
              go_wp2_with fail
              clear hc0
              go_loopw [21, 22] (fun g i wr => ∃ (q : Nat), q ≤ 9 ∧ i = .int .i64 q ∧ Hid (Below wd.heap.size wd wr) ∧ ((q = 0 ∧ g = valV x) ∨ (0 < q ∧ Hid (TOwn wr wd.heap.size g (x.2 ++ List.replicate q (tagB k)))))) (fun _ i _ => 9 - (intOf i).toNat)
              case atStart => exact ⟨0, by omega, rfl, Below.refl _ _, .inl ⟨rfl, rfl⟩⟩
              case round =>
                obtain ⟨q, hq, rfl, HBd, hcase⟩ := hrel
                by_cases hq9 : q < 9
                · have q1 : (q : Int) < 9 := by omega
                  rcases hcase with ⟨rfl, rfl⟩ | ⟨hq0, HT⟩
                  · go_wp2_with (first
                      | (go_at_call 9; go_must (refine (hT _).mono ?_; rintro e x2 ⟨rfl, hb2⟩; have HB2 := hid (btr HBd.out hb2 HBd.out.size); clear hb2))
                      | (at_builtin; go_must (refine wp_appF rfl _ _ rfl W.heap.size x2.heap.size 1 x (tagB k) rfl rfl ((HO.out.1.below HB2.out).below (below_newL _ _)) (by rw [cell_of_row _ _ _ _ _ _ (heap_alloc_new _ _)]; rfl) (by omega) ?_; intro v5 x5 h51 h52; have H51 := hid h51; have H52 := hid h52; clear h51 h52)))
                    exact ⟨⟨1, by omega, by go_num, btr (btr HB2.out (below_newL _ _) HB2.out.size) H52.out (by have := HB2.out.size; simp; omega), .inr ⟨by omega, by
                      obtain ⟨h1, h2⟩ := H51.out
                      refine ⟨h1, ?_⟩
                      rcases h2 with h2 | ⟨g, cap, cur, a1, a2, a3⟩
                      · exact .inl h2
                      · exact .inr ⟨g, cap, cur, a1, by have := HB2.out.size; simp at a2; omega, a3⟩⟩⟩, by simp [intOf]⟩
                  · go_wp2_with (first
                      | (go_at_call 9; go_must (refine (hT _).mono ?_; rintro e x2 ⟨rfl, hb2⟩; have HT2 := hid (row_below HT.out hb2); have HB2 := hid (btr HBd.out hb2 HBd.out.size); clear hb2))
                      | (at_builtin; go_must (refine wp_appT rfl _ _ rfl wd.heap.size 1 1 ⟨x2.heap.size, 0, none⟩ _ (x.2 ++ List.replicate q (tagB k)) [tagB k] rfl rfl rfl (row_below HT2.out (below_newL _ _)) (fun j y hy => by
                          cases j with
                          | zero => simp at hy; subst hy; rw [addr_add, cell_of_row _ _ _ _ _ _ (heap_alloc_new _ _)]; rfl
                          | succ j => simp at hy) (by simp; omega) (by have := HB2.out.size; simp; omega) ?_; intro v5 x5 h51 h52 h53; have H51 := hid h51; have H52 := hid h52; clear h51 h52 h53)))
                    exact ⟨⟨q + 1, by omega, by go_num, H52.out.to (btr HB2.out (below_newL _ _) HB2.out.size) (by have := HB2.out.size; simp; omega) (fun i hi => (row_ge HT2.out hi).1), .inr ⟨by omega, by
                      have h1 := H51.out
                      rw [List.append_assoc, ← List.replicate_succ'] at h1
                      exact h1⟩⟩, by simp [intOf]; omega⟩
                · obtain rfl : q = 9 := by omega
                  rcases hcase with ⟨h0, _⟩ | ⟨_, HT⟩
                  · omega
                  obtain ⟨n, hn⟩ : ∃ n, n = x.2.length := ⟨_, rfl⟩
                  have hTm := HT.out
                  rw [HXT.out, ← hn, List.replicate_append_replicate] at hTm
                  obtain ⟨ag, cg, hge, _, _⟩ := TOwn.at hTm
                  rw [List.length_replicate] at hge
                  subst hge
                  have hn9 : n ≤ 401 := by omega
                  have HNn := hid hn
                  clear hn
                  have HTM := hid hTm
                  have HGw := hid (HGr.out.below HBd.out)
                  clear hTm HT
                  go_wp2_with (first
                      | (at_builtin; go_must (refine wp_appS rfl _ _ rfl wc.heap.size wr.heap.size 1 _ G _ rfl rfl rfl (row_below HGw.out.row (below_newL _ _)) (by rw [cell_of_row _ _ _ _ _ _ (heap_alloc_new _ _)]; rfl) (by omega) (by have h1 := HBd.out.size; have h2 := HBc.out.size; simp; omega) ?_; intro v5 x5 h51 h52 h53; have H51 := hid h51; have H52 := hid h52; have H53 := hid h53; clear h51 h52 h53)))
                  have hWd := HBc.out.size
                  have hWr := HBd.out.size
                  have hG5 := (HGw.out.below (below_newL wr _)).more (m := n + 9) (D := wd.heap.size) (by omega) (fun y hy => by rw [hG, hx] at hy; cases hy; rw [← HNn.out]; omega) (by rw [hG]; exact row_below HTM.out (below_newL wr _)) (fun g hg => (row_ge HGr.out.row hg).2) hWd H51.out H52.out H53.out
                  have hB5 : Below wc.heap.size wc x5 := H52.out.to (btr (btr HBc.out HBd.out hWd) (below_newL wr _) (Nat.le_trans hWd hWr)) (Nat.le_trans hWd (Nat.le_trans hWr (below_newL wr _).size)) (fun g hg => (row_ge HGr.out.row hg).1)
                  exact ⟨⟨k + 1, _, by omega, by simp [hG], by go_num, hG5, hB5⟩, by simp [intOf]; omega⟩
            · obtain rfl : k = 5 := by omega
              rw [show (((5 : Nat) : Int)) = 5 from rfl]
              obtain ⟨gG, dG, hvG, hgG, hgG2, hdG, _⟩ := row_cells HGr.out.row (by omega)
              rw [hG] at hvG
              subst hvG
              obtain ⟨we, hwe⟩ : ∃ x, x = wr := ⟨_, rfl⟩
              rw [← hwe] at HGr HBc ⊢
              have HLe := hid (HLot.out.below HBc.out)
              have HBe := hid (btr HBr.out HBc.out HBr.out.size)
              clear hwe hgG2 hdG hlt hk HLot HBr HBc
              go_wp2_with fail
              go_loopw [23] (fun i wr => ∃ (k : Nat), k ≤ 5 ∧ i = .int .i64 k ∧ Hid (Below we.heap.size we wr)) (fun i _ => 5 - (intOf i).toNat)
              case atStart => exact ⟨0, by omega, rfl, Below.refl _ _⟩
              case round =>
                obtain ⟨k, hk, rfl, HBs⟩ := hrel
                by_cases hlt : k < 5
                · obtain ⟨x, hx⟩ : ∃ x, V[k]? = some x := ⟨_, List.getElem?_eq_getElem (by omega)⟩
                  obtain ⟨y, hy⟩ : ∃ y, G[k]? = some y := ⟨_, List.getElem?_eq_getElem (by omega)⟩
                  obtain ⟨M, hM, hxM, HTy, _⟩ := HGr.out.each k y hy
                  have hxM := hxM x hx
                  have HY := hid HTy
                  clear HTy
                  obtain ⟨ay, cy, hye, hcy, hLy⟩ := TOwn.at HY.out
                  rw [List.length_replicate] at hye
                  subst hye
                  obtain ⟨n, hn⟩ : ∃ n, n = x.2.length := ⟨_, rfl⟩
                  rw [← hn] at hxM
                  obtain ⟨wf, hwf⟩ : ∃ x, x = wr := ⟨_, rfl⟩
                  rw [← hwf] at HBs ⊢
                  have HNn := hid hn
                  clear hn
                  have HT5 : Hid (∀ q t, x.2[q]? = some t → t = tagB k) := fun q t ht => HTg.out k x hlt hx q t ht
                  have HCY : Hid (∀ w', Below we.heap.size we w' → w'.cell? ⟨gG, k, none⟩ = some (.slice ay M cy)) := fun w' hb => ((HGr.out.below hb).cell k _ hy).1
                  have HCX : Hid (∀ w', Below we.heap.size we w' → w'.cell? ⟨gL, k, none⟩ = some (.slice (adr x) n n)) := fun w' hb => by rw [HNn.out]; exact ((HLe.out.below hb).cell k x hx).1
                  have j0 : (0 : Int) ≤ (k : Int) := by omega
                  have j1 : (k : Int) < 5 := by omega
                  have hT := fun w' => tag_any k hlt w'
                  clear hwf hcy hLy
                  go_wp2_with fail
                  go_loopw [24] (fun i wr => ∃ (q : Nat), q ≤ M ∧ i = .int .i64 q ∧ Hid (Below we.heap.size we wr)) (fun i _ => M - (intOf i).toNat)
                  case atStart => exact ⟨0, by omega, rfl, HBs⟩
                  case round =>
                    obtain ⟨q, hq, rfl, HBq⟩ := hrel
                    have c1 := HCY.out _ HBq.out
                    by_cases hqM : q < M
                    · have q0 : (0 : Int) ≤ (q : Int) := by omega
                      have q1 : (q : Int) < (M : Int) := by omega
                      obtain ⟨gy, dy, hye, _, hgy, _, hcy⟩ := row_cells HY.out (by simp; omega)
                      rw [List.length_replicate] at hye
                      cases hye
                      have HCYQ := hid (hcy q (.string (tagB k)) (by simp [hqM]))
                      have c2 := cell_below HBq.out hgy (hcy q (.string (tagB k)) (by simp [hqM]))
                      have c3 := HCX.out _ HBq.out
                      clear hcy
                      by_cases hqn : q < n
                      · obtain ⟨t0, ht0⟩ : ∃ t, x.2[q]? = some t := ⟨_, List.getElem?_eq_getElem (by rw [← HNn.out]; exact hqn)⟩
                        obtain rfl := HT5.out q t0 ht0
                        obtain ⟨gx, hgx, hgxl, c4, _⟩ := HLe.out.text hx ht0
                        have had : adr x = some ⟨gx, 0, none⟩ := by simp [adr, hgx]
                        rw [had] at c3
                        have HC4 := hid c4
                        have hadx := hid had
                        have q2 : (q : Int) < (n : Int) := by omega
                        have C3 := hid c3
                        clear had ht0 c3 c4
                        have HS : Hid (∀ w', Below we.heap.size we w' → w'.cell? ⟨gG, k, none⟩ = some (.slice (some ⟨gy, 0, none⟩) M cy) ∧ w'.cell? ⟨gy, q, none⟩ = some (.string (tagB k)) ∧ w'.cell? ⟨gL, k, none⟩ = some (.slice (some ⟨gx, 0, none⟩) n n) ∧ w'.cell? ⟨gx, q, none⟩ = some (.string (tagB k))) := fun w' hb => ⟨HCY.out w' hb, cell_below hb hgy (HCYQ.out), by rw [HCX.out w' hb, hadx.out], cell_below hb hgxl HC4.out⟩
                        go_upto_region 39 with fail
                        refine wp_region_noPanic ?_
                        refine wp_region_held_drew (S := fun W => W.cell? ⟨gG, k, none⟩ = some (.slice (some ⟨gy, 0, none⟩) M cy) ∧ W.cell? ⟨gy, q, none⟩ = some (.string (tagB k)) ∧ W.cell? ⟨gL, k, none⟩ = some (.slice (some ⟨gx, 0, none⟩) n n) ∧ W.cell? ⟨gx, q, none⟩ = some (.string (tagB k))) (by kernel_rfl) (HS.out _ (below_drewX HBq.out)) (fun hHeld => ?_)
                        refine takeVal 0 183 (.slice (some ⟨gG, 0, none⟩) 5 dG) rfl (by kernel_rfl) (by kernel_rfl) (by kernel_rfl) rfl (by rfl) (fun _ _ _ h => h) hHeld (fun _ hw' => rfl) ?_
                        simp only [List.setIfInBounds_toArray, List.set_cons_zero, List.set_cons_succ]
                        refine takeVal 1 184 (.int .i64 (k : Int)) rfl (by kernel_rfl) (by kernel_rfl) (by kernel_rfl) rfl (by rfl) (fun _ _ _ h => h) hHeld (fun _ hw' => rfl) ?_
                        simp only [List.setIfInBounds_toArray, List.set_cons_zero, List.set_cons_succ]
                        refine takeVal 2 185 (.pointer (some ⟨gG, k, none⟩)) rfl (by kernel_rfl) (by kernel_rfl) (by kernel_rfl) rfl (by rfl) (fun _ _ _ h => h) hHeld (fun _ hw' => by go_simp) ?_
                        simp only [List.setIfInBounds_toArray, List.set_cons_zero, List.set_cons_succ]
                        refine takeVal 3 186 (.slice (some ⟨gy, 0, none⟩) M cy) rfl (by kernel_rfl) (by kernel_rfl) (by kernel_rfl) rfl (by rfl) (fun _ _ _ h => h) hHeld (fun _ hw' => by have hs3 : World.cell? _ ⟨gG, k, none⟩ = some (.slice (some ⟨gy, 0, none⟩) M cy) := hw'.1; go_simp) ?_
                        simp only [List.setIfInBounds_toArray, List.set_cons_zero, List.set_cons_succ]
                        refine takeVal 4 187 (.int .i64 (q : Int)) rfl (by kernel_rfl) (by kernel_rfl) (by kernel_rfl) rfl (by rfl) (fun _ _ _ h => h) hHeld (fun _ hw' => rfl) ?_
                        simp only [List.setIfInBounds_toArray, List.set_cons_zero, List.set_cons_succ]
                        refine takeVal 5 188 (.pointer (some ⟨gy, q, none⟩)) rfl (by kernel_rfl) (by kernel_rfl) (by kernel_rfl) rfl (by rfl) (fun _ _ _ h => h) hHeld (fun _ hw' => by go_simp) ?_
                        simp only [List.setIfInBounds_toArray, List.set_cons_zero, List.set_cons_succ]
                        refine takeVal 6 189 (.string (tagB k)) rfl (by kernel_rfl) (by kernel_rfl) (by kernel_rfl) rfl (by rfl) (fun _ _ _ h => h) hHeld (fun _ hw' => by have hs3 : World.cell? _ ⟨gy, q, none⟩ = some (.string (tagB k)) := hw'.2.1; go_simp) ?_
                        simp only [List.setIfInBounds_toArray, List.set_cons_zero, List.set_cons_succ]
                        refine takeVal 7 190 (.int .i64 (k : Int)) rfl (by kernel_rfl) (by kernel_rfl) (by kernel_rfl) rfl (by rfl) (fun _ _ _ h => h) hHeld (fun _ hw' => rfl) ?_
                        simp only [List.setIfInBounds_toArray, List.set_cons_zero, List.set_cons_succ]
                        refine step1 8 (by kernel_rfl) ?_
                        refine stCall 8 191 9 #[.int .i64 (k : Int)] _ rfl rfl (by rfl) (by go_simp) (hT _) ?_
                        rintro e w8 ⟨rfl, hbw8⟩
                        have hBw8 := btr (below_drewX HBq.out) hbw8 (by have := HBq.out.size; have := ((below_drewX HBq.out)).size; omega)
                        have hHw8 := HS.out _ hBw8
                        refine ⟨_, rfl, hHw8, ?_⟩
                        simp only [List.setIfInBounds_toArray, List.set_cons_zero, List.set_cons_succ]
                        refine takeVal 9 192 (.bool false) rfl (by kernel_rfl) (by kernel_rfl) (by kernel_rfl) rfl (by rfl) (fun _ _ _ h => h) hHw8 (fun _ hw' => by go_simp) ?_
                        simp only [List.setIfInBounds_toArray, List.set_cons_zero, List.set_cons_succ]
                        refine takeVal 10 193 (.bool false) rfl (by kernel_rfl) (by kernel_rfl) (by kernel_rfl) rfl (by rfl) (fun _ _ _ h => h) hHw8 (fun _ hw' => rfl) ?_
                        simp only [List.setIfInBounds_toArray, List.set_cons_zero, List.set_cons_succ]
                        refine takeVal 11 194 (.int .i64 (q : Int)) rfl (by kernel_rfl) (by kernel_rfl) (by kernel_rfl) rfl (by rfl) (fun _ _ _ h => h) hHw8 (fun _ hw' => rfl) ?_
                        simp only [List.setIfInBounds_toArray, List.set_cons_zero, List.set_cons_succ]
                        refine takeVal 12 195 (.slice (some ⟨gL, 0, none⟩) 5 dL) rfl (by kernel_rfl) (by kernel_rfl) (by kernel_rfl) rfl (by rfl) (fun _ _ _ h => h) hHw8 (fun _ hw' => rfl) ?_
                        simp only [List.setIfInBounds_toArray, List.set_cons_zero, List.set_cons_succ]
                        refine takeVal 13 196 (.int .i64 (k : Int)) rfl (by kernel_rfl) (by kernel_rfl) (by kernel_rfl) rfl (by rfl) (fun _ _ _ h => h) hHw8 (fun _ hw' => rfl) ?_
                        simp only [List.setIfInBounds_toArray, List.set_cons_zero, List.set_cons_succ]
                        refine takeVal 14 197 (.pointer (some ⟨gL, k, none⟩)) rfl (by kernel_rfl) (by kernel_rfl) (by kernel_rfl) rfl (by rfl) (fun _ _ _ h => h) hHw8 (fun _ hw' => by go_simp) ?_
                        simp only [List.setIfInBounds_toArray, List.set_cons_zero, List.set_cons_succ]
                        refine takeVal 15 198 (.slice (some ⟨gx, 0, none⟩) n n) rfl (by kernel_rfl) (by kernel_rfl) (by kernel_rfl) rfl (by rfl) (fun _ _ _ h => h) hHw8 (fun _ hw' => by have hs3 : World.cell? _ ⟨gL, k, none⟩ = some (.slice (some ⟨gx, 0, none⟩) n n) := hw'.2.2.1; go_simp) ?_
                        simp only [List.setIfInBounds_toArray, List.set_cons_zero, List.set_cons_succ]
                        refine takeVal 16 199 (.int .i64 (n : Int)) rfl (by kernel_rfl) (by kernel_rfl) (by kernel_rfl) rfl (by rfl) (fun _ _ _ h => h) hHw8 (fun _ hw' => by go_simp) ?_
                        simp only [List.setIfInBounds_toArray, List.set_cons_zero, List.set_cons_succ]
                        refine takeVal 17 200 (.bool true) rfl (by kernel_rfl) (by kernel_rfl) (by kernel_rfl) rfl (by rfl) (fun _ _ _ h => h) hHw8 (fun _ hw' => by go_simp) ?_
                        simp only [List.setIfInBounds_toArray, List.set_cons_zero, List.set_cons_succ]
                        refine takeVal 18 201 (.bool true) rfl (by kernel_rfl) (by kernel_rfl) (by kernel_rfl) rfl (by rfl) (fun _ _ _ h => h) hHw8 (fun _ hw' => rfl) ?_
                        simp only [List.setIfInBounds_toArray, List.set_cons_zero, List.set_cons_succ]
                        refine takeVal 19 202 (.slice (some ⟨gL, 0, none⟩) 5 dL) rfl (by kernel_rfl) (by kernel_rfl) (by kernel_rfl) rfl (by rfl) (fun _ _ _ h => h) hHw8 (fun _ hw' => rfl) ?_
                        simp only [List.setIfInBounds_toArray, List.set_cons_zero, List.set_cons_succ]
                        refine takeVal 20 203 (.int .i64 (k : Int)) rfl (by kernel_rfl) (by kernel_rfl) (by kernel_rfl) rfl (by rfl) (fun _ _ _ h => h) hHw8 (fun _ hw' => rfl) ?_
                        simp only [List.setIfInBounds_toArray, List.set_cons_zero, List.set_cons_succ]
                        refine takeVal 21 204 (.pointer (some ⟨gL, k, none⟩)) rfl (by kernel_rfl) (by kernel_rfl) (by kernel_rfl) rfl (by rfl) (fun _ _ _ h => h) hHw8 (fun _ hw' => by go_simp) ?_
                        simp only [List.setIfInBounds_toArray, List.set_cons_zero, List.set_cons_succ]
                        refine takeVal 22 205 (.slice (some ⟨gx, 0, none⟩) n n) rfl (by kernel_rfl) (by kernel_rfl) (by kernel_rfl) rfl (by rfl) (fun _ _ _ h => h) hHw8 (fun _ hw' => by have hs3 : World.cell? _ ⟨gL, k, none⟩ = some (.slice (some ⟨gx, 0, none⟩) n n) := hw'.2.2.1; go_simp) ?_
                        simp only [List.setIfInBounds_toArray, List.set_cons_zero, List.set_cons_succ]
                        refine takeVal 23 206 (.int .i64 (q : Int)) rfl (by kernel_rfl) (by kernel_rfl) (by kernel_rfl) rfl (by rfl) (fun _ _ _ h => h) hHw8 (fun _ hw' => rfl) ?_
                        simp only [List.setIfInBounds_toArray, List.set_cons_zero, List.set_cons_succ]
                        refine takeVal 24 207 (.pointer (some ⟨gx, q, none⟩)) rfl (by kernel_rfl) (by kernel_rfl) (by kernel_rfl) rfl (by rfl) (fun _ _ _ h => h) hHw8 (fun _ hw' => by go_simp) ?_
                        simp only [List.setIfInBounds_toArray, List.set_cons_zero, List.set_cons_succ]
                        refine takeVal 25 208 (.string (tagB k)) rfl (by kernel_rfl) (by kernel_rfl) (by kernel_rfl) rfl (by rfl) (fun _ _ _ h => h) hHw8 (fun _ hw' => by have hs3 : World.cell? _ ⟨gx, q, none⟩ = some (.string (tagB k)) := hw'.2.2.2; go_simp) ?_
                        simp only [List.setIfInBounds_toArray, List.set_cons_zero, List.set_cons_succ]
                        refine takeVal 26 209 (.int .i64 (k : Int)) rfl (by kernel_rfl) (by kernel_rfl) (by kernel_rfl) rfl (by rfl) (fun _ _ _ h => h) hHw8 (fun _ hw' => rfl) ?_
                        simp only [List.setIfInBounds_toArray, List.set_cons_zero, List.set_cons_succ]
                        refine step1 27 (by kernel_rfl) ?_
                        refine stCall 27 210 9 #[.int .i64 (k : Int)] _ rfl rfl (by rfl) (by go_simp) (hT _) ?_
                        rintro e w27 ⟨rfl, hbw27⟩
                        have hBw27 := btr hBw8 hbw27 (by have := HBq.out.size; have := (hBw8).size; omega)
                        have hHw27 := HS.out _ hBw27
                        refine ⟨_, rfl, hHw27, ?_⟩
                        simp only [List.setIfInBounds_toArray, List.set_cons_zero, List.set_cons_succ]
                        refine takeVal 28 211 (.bool false) rfl (by kernel_rfl) (by kernel_rfl) (by kernel_rfl) rfl (by rfl) (fun _ _ _ h => h) hHw27 (fun _ hw' => by go_simp) ?_
                        simp only [List.setIfInBounds_toArray, List.set_cons_zero, List.set_cons_succ]
                        refine takeVal 29 212 (.bool false) rfl (by kernel_rfl) (by kernel_rfl) (by kernel_rfl) rfl (by rfl) (fun _ _ _ h => h) hHw27 (fun _ hw' => rfl) ?_
                        simp only [List.setIfInBounds_toArray, List.set_cons_zero, List.set_cons_succ]
                        refine takeVal 30 213 (.bool false) rfl (by kernel_rfl) (by kernel_rfl) (by kernel_rfl) rfl (by rfl) (fun _ _ _ h => h) hHw27 (fun _ hw' => rfl) ?_
                        simp only [List.setIfInBounds_toArray, List.set_cons_zero, List.set_cons_succ]
                        refine wpAnyH_done (by kernel_rfl) ?_ _
                        refine NoPanic.normal ?_
                        have HBz := hid hBw27
                        clear hBw27 hbw27 hHw27 hBw8 hbw8 hHw8 hHeld
                        go_wp2_with fail
                        exact ⟨⟨q + 1, by omega, by go_num, HBz⟩, by simp [intOf]; omega⟩
                      · have q2 : ¬ (q : Int) < (n : Int) := by omega
                        have C3 := hid c3
                        clear c3
                        have HS : Hid (∀ w', Below we.heap.size we w' → w'.cell? ⟨gG, k, none⟩ = some (.slice (some ⟨gy, 0, none⟩) M cy) ∧ w'.cell? ⟨gy, q, none⟩ = some (.string (tagB k)) ∧ w'.cell? ⟨gL, k, none⟩ = some (.slice (adr x) n n) ∧ True) := fun w' hb => ⟨HCY.out w' hb, cell_below hb hgy (HCYQ.out), HCX.out w' hb, trivial⟩
                        go_upto_region 39 with fail
                        refine wp_region_noPanic ?_
                        refine wp_region_held_drew (S := fun W => W.cell? ⟨gG, k, none⟩ = some (.slice (some ⟨gy, 0, none⟩) M cy) ∧ W.cell? ⟨gy, q, none⟩ = some (.string (tagB k)) ∧ W.cell? ⟨gL, k, none⟩ = some (.slice (adr x) n n) ∧ True) (by kernel_rfl) (HS.out _ (below_drewX HBq.out)) (fun hHeld => ?_)
                        refine takeVal 0 183 (.slice (some ⟨gG, 0, none⟩) 5 dG) rfl (by kernel_rfl) (by kernel_rfl) (by kernel_rfl) rfl (by rfl) (fun _ _ _ h => h) hHeld (fun _ hw' => rfl) ?_
                        simp only [List.setIfInBounds_toArray, List.set_cons_zero, List.set_cons_succ]
                        refine takeVal 1 184 (.int .i64 (k : Int)) rfl (by kernel_rfl) (by kernel_rfl) (by kernel_rfl) rfl (by rfl) (fun _ _ _ h => h) hHeld (fun _ hw' => rfl) ?_
                        simp only [List.setIfInBounds_toArray, List.set_cons_zero, List.set_cons_succ]
                        refine takeVal 2 185 (.pointer (some ⟨gG, k, none⟩)) rfl (by kernel_rfl) (by kernel_rfl) (by kernel_rfl) rfl (by rfl) (fun _ _ _ h => h) hHeld (fun _ hw' => by go_simp) ?_
                        simp only [List.setIfInBounds_toArray, List.set_cons_zero, List.set_cons_succ]
                        refine takeVal 3 186 (.slice (some ⟨gy, 0, none⟩) M cy) rfl (by kernel_rfl) (by kernel_rfl) (by kernel_rfl) rfl (by rfl) (fun _ _ _ h => h) hHeld (fun _ hw' => by have hs3 : World.cell? _ ⟨gG, k, none⟩ = some (.slice (some ⟨gy, 0, none⟩) M cy) := hw'.1; go_simp) ?_
                        simp only [List.setIfInBounds_toArray, List.set_cons_zero, List.set_cons_succ]
                        refine takeVal 4 187 (.int .i64 (q : Int)) rfl (by kernel_rfl) (by kernel_rfl) (by kernel_rfl) rfl (by rfl) (fun _ _ _ h => h) hHeld (fun _ hw' => rfl) ?_
                        simp only [List.setIfInBounds_toArray, List.set_cons_zero, List.set_cons_succ]
                        refine takeVal 5 188 (.pointer (some ⟨gy, q, none⟩)) rfl (by kernel_rfl) (by kernel_rfl) (by kernel_rfl) rfl (by rfl) (fun _ _ _ h => h) hHeld (fun _ hw' => by go_simp) ?_
                        simp only [List.setIfInBounds_toArray, List.set_cons_zero, List.set_cons_succ]
                        refine takeVal 6 189 (.string (tagB k)) rfl (by kernel_rfl) (by kernel_rfl) (by kernel_rfl) rfl (by rfl) (fun _ _ _ h => h) hHeld (fun _ hw' => by have hs3 : World.cell? _ ⟨gy, q, none⟩ = some (.string (tagB k)) := hw'.2.1; go_simp) ?_
                        simp only [List.setIfInBounds_toArray, List.set_cons_zero, List.set_cons_succ]
                        refine takeVal 7 190 (.int .i64 (k : Int)) rfl (by kernel_rfl) (by kernel_rfl) (by kernel_rfl) rfl (by rfl) (fun _ _ _ h => h) hHeld (fun _ hw' => rfl) ?_
                        simp only [List.setIfInBounds_toArray, List.set_cons_zero, List.set_cons_succ]
                        refine step1 8 (by kernel_rfl) ?_
                        refine stCall 8 191 9 #[.int .i64 (k : Int)] _ rfl rfl (by rfl) (by go_simp) (hT _) ?_
                        rintro e w8 ⟨rfl, hbw8⟩
                        have hBw8 := btr (below_drewX HBq.out) hbw8 (by have := HBq.out.size; have := ((below_drewX HBq.out)).size; omega)
                        have hHw8 := HS.out _ hBw8
                        refine ⟨_, rfl, hHw8, ?_⟩
                        simp only [List.setIfInBounds_toArray, List.set_cons_zero, List.set_cons_succ]
                        refine takeVal 9 192 (.bool false) rfl (by kernel_rfl) (by kernel_rfl) (by kernel_rfl) rfl (by rfl) (fun _ _ _ h => h) hHw8 (fun _ hw' => by go_simp) ?_
                        simp only [List.setIfInBounds_toArray, List.set_cons_zero, List.set_cons_succ]
                        refine takeVal 10 193 (.bool false) rfl (by kernel_rfl) (by kernel_rfl) (by kernel_rfl) rfl (by rfl) (fun _ _ _ h => h) hHw8 (fun _ hw' => rfl) ?_
                        simp only [List.setIfInBounds_toArray, List.set_cons_zero, List.set_cons_succ]
                        refine takeVal 11 194 (.int .i64 (q : Int)) rfl (by kernel_rfl) (by kernel_rfl) (by kernel_rfl) rfl (by rfl) (fun _ _ _ h => h) hHw8 (fun _ hw' => rfl) ?_
                        simp only [List.setIfInBounds_toArray, List.set_cons_zero, List.set_cons_succ]
                        refine takeVal 12 195 (.slice (some ⟨gL, 0, none⟩) 5 dL) rfl (by kernel_rfl) (by kernel_rfl) (by kernel_rfl) rfl (by rfl) (fun _ _ _ h => h) hHw8 (fun _ hw' => rfl) ?_
                        simp only [List.setIfInBounds_toArray, List.set_cons_zero, List.set_cons_succ]
                        refine takeVal 13 196 (.int .i64 (k : Int)) rfl (by kernel_rfl) (by kernel_rfl) (by kernel_rfl) rfl (by rfl) (fun _ _ _ h => h) hHw8 (fun _ hw' => rfl) ?_
                        simp only [List.setIfInBounds_toArray, List.set_cons_zero, List.set_cons_succ]
                        refine takeVal 14 197 (.pointer (some ⟨gL, k, none⟩)) rfl (by kernel_rfl) (by kernel_rfl) (by kernel_rfl) rfl (by rfl) (fun _ _ _ h => h) hHw8 (fun _ hw' => by go_simp) ?_
                        simp only [List.setIfInBounds_toArray, List.set_cons_zero, List.set_cons_succ]
                        refine takeVal 15 198 (.slice (adr x) n n) rfl (by kernel_rfl) (by kernel_rfl) (by kernel_rfl) rfl (by rfl) (fun _ _ _ h => h) hHw8 (fun _ hw' => by have hs3 : World.cell? _ ⟨gL, k, none⟩ = some (.slice (adr x) n n) := hw'.2.2.1; go_simp) ?_
                        simp only [List.setIfInBounds_toArray, List.set_cons_zero, List.set_cons_succ]
                        refine takeVal 16 199 (.int .i64 (n : Int)) rfl (by kernel_rfl) (by kernel_rfl) (by kernel_rfl) rfl (by rfl) (fun _ _ _ h => h) hHw8 (fun _ hw' => by go_simp) ?_
                        simp only [List.setIfInBounds_toArray, List.set_cons_zero, List.set_cons_succ]
                        refine takeVal 17 200 (.bool false) rfl (by kernel_rfl) (by kernel_rfl) (by kernel_rfl) rfl (by rfl) (fun _ _ _ h => h) hHw8 (fun _ hw' => by go_simp) ?_
                        simp only [List.setIfInBounds_toArray, List.set_cons_zero, List.set_cons_succ]
                        refine takeVal 18 201 (.bool false) rfl (by kernel_rfl) (by kernel_rfl) (by kernel_rfl) rfl (by rfl) (fun _ _ _ h => h) hHw8 (fun _ hw' => rfl) ?_
                        simp only [List.setIfInBounds_toArray, List.set_cons_zero, List.set_cons_succ]
                        refine takeNot 19 202 rfl (by kernel_rfl) (by kernel_rfl) (by kernel_rfl) rfl (by rfl) (fun _ _ _ h => h) hHw8 ?_
                        simp only [List.setIfInBounds_toArray, List.set_cons_zero, List.set_cons_succ]
                        refine takeNot 20 203 rfl (by kernel_rfl) (by kernel_rfl) (by kernel_rfl) rfl (by rfl) (fun _ _ _ h => h) hHw8 ?_
                        simp only [List.setIfInBounds_toArray, List.set_cons_zero, List.set_cons_succ]
                        refine takeNot 21 204 rfl (by kernel_rfl) (by kernel_rfl) (by kernel_rfl) rfl (by rfl) (fun _ _ _ h => h) hHw8 ?_
                        simp only [List.setIfInBounds_toArray, List.set_cons_zero, List.set_cons_succ]
                        refine takeNot 22 205 rfl (by kernel_rfl) (by kernel_rfl) (by kernel_rfl) rfl (by rfl) (fun _ _ _ h => h) hHw8 ?_
                        simp only [List.setIfInBounds_toArray, List.set_cons_zero, List.set_cons_succ]
                        refine takeNot 23 206 rfl (by kernel_rfl) (by kernel_rfl) (by kernel_rfl) rfl (by rfl) (fun _ _ _ h => h) hHw8 ?_
                        simp only [List.setIfInBounds_toArray, List.set_cons_zero, List.set_cons_succ]
                        refine takeNot 24 207 rfl (by kernel_rfl) (by kernel_rfl) (by kernel_rfl) rfl (by rfl) (fun _ _ _ h => h) hHw8 ?_
                        simp only [List.setIfInBounds_toArray, List.set_cons_zero, List.set_cons_succ]
                        refine takeNot 25 208 rfl (by kernel_rfl) (by kernel_rfl) (by kernel_rfl) rfl (by rfl) (fun _ _ _ h => h) hHw8 ?_
                        simp only [List.setIfInBounds_toArray, List.set_cons_zero, List.set_cons_succ]
                        refine takeNot 26 209 rfl (by kernel_rfl) (by kernel_rfl) (by kernel_rfl) rfl (by rfl) (fun _ _ _ h => h) hHw8 ?_
                        simp only [List.setIfInBounds_toArray, List.set_cons_zero, List.set_cons_succ]
                        refine takeNot 27 210 rfl (by kernel_rfl) (by kernel_rfl) (by kernel_rfl) rfl (by rfl) (fun _ _ _ h => h) hHw8 ?_
                        simp only [List.setIfInBounds_toArray, List.set_cons_zero, List.set_cons_succ]
                        refine takeNot 28 211 rfl (by kernel_rfl) (by kernel_rfl) (by kernel_rfl) rfl (by rfl) (fun _ _ _ h => h) hHw8 ?_
                        simp only [List.setIfInBounds_toArray, List.set_cons_zero, List.set_cons_succ]
                        refine takeVal 29 212 (.bool false) rfl (by kernel_rfl) (by kernel_rfl) (by kernel_rfl) rfl (by rfl) (fun _ _ _ h => h) hHw8 (fun _ hw' => rfl) ?_
                        simp only [List.setIfInBounds_toArray, List.set_cons_zero, List.set_cons_succ]
                        refine takeVal 30 213 (.bool false) rfl (by kernel_rfl) (by kernel_rfl) (by kernel_rfl) rfl (by rfl) (fun _ _ _ h => h) hHw8 (fun _ hw' => rfl) ?_
                        simp only [List.setIfInBounds_toArray, List.set_cons_zero, List.set_cons_succ]
                        refine wpAnyH_done (by kernel_rfl) ?_ _
                        refine NoPanic.normal ?_
                        have HBz := hid hBw8
                        clear hBw8 hbw8 hHw8 hHeld
                        go_wp2_with fail
                        exact ⟨⟨q + 1, by omega, by go_num, HBz⟩, by simp [intOf]; omega⟩
                    · obtain rfl : q = M := by omega
                      have hge : ¬ ((q : Int) < (q : Int)) := by omega
                      go_wp2_with fail
                      exact ⟨⟨k + 1, by omega, by go_num, HBq⟩, by simp [intOf]; omega⟩
                · obtain rfl : k = 5 := by omega
                  rw [show (((5 : Nat) : Int)) = 5 from rfl]
                  have hBW : Below W.heap.size W wr := btr HBe.out HBs.out HBe.out.size
                  have HMr := hid (HMW.out.below hBW)
                  have HBr := hid (btr HBW.out hBW HBW.out.size)
                  have hS := split_any p wr HMr.out
                  have hR := fun w' => rsplit_any p w'
                  have HLB := hid (split_few p)
                  generalize splitR p.data.toList = R at *
                  clear hBW
                  go_wp2_with (first
                    | (go_at_call 7; go_must (refine hS.mono ?_; rintro e x2 ⟨a2, l2, rfl, d2, o2, hb2⟩; have HO2 := hid o2; have HD2 := hid d2; have HN2 : Hid (l2.length ≤ 401) := (by have h1 := HLB.out; rw [← d2, datas_len] at h1; exact h1); clear d2 o2))
                    | (go_at_call 8; go_must (refine (hR _).mono ?_; rintro e x3 ⟨a3, c3, l3, rfl, d3, o3, hb3⟩; have HA3 := hid o3; have HO3 := hid (HO2.out.below hb3); have HB3 := hid (btr hb2 hb3 hb2.size); have hEq : l2 = l3 := datas_inj (by rw [HD2.out, d3]); subst hEq; clear d3 o3))
                    | (go_at_call 6; go_must (refine (same_is l2 l2 true a2 a3 _ _ _ c3 _ rfl rfl (by have := HN2.out; omega) (by have := HN2.out; omega) HO3.out.at.at HA3.out.at (by simp)).mono ?_; rintro e x4 ⟨rfl, hb4⟩; have HB4 := hid (btr HB3.out hb4 HB3.out.size); clear hb4))
                    | (go_at_call 10; go_must (refine (known_any _ (HMr.out.below HB4.out)).mono ?_; rintro e x5 ⟨rfl, hb5⟩; have HB5 := hid (btr HB4.out hb5 HB4.out.size); clear hb5)))
                  go_ret
                  exact ⟨rfl, btr HBr.out HB5.out HBr.out.size⟩

end Go.Proofs.YtfkmpbbemkkdaaaDoor
