/-
  The statements' own owned: lists of nodes and their bytes that are marked and grow, none changes another.
-/
import Derived.Test.YtiakfgplhdbaeaaZL
import Derived.Test.YtiakfgplhdbaeaaXR
import Derived.Deep.Cut
namespace Go.Proofs.Ytiakfgplhdbaeaa
open Go.RowKit

theorem flat_off : ∀ (NL : List (List Nod)) (i : Nat) (M : List Nod), NL[i]? = some M → (NL.take (i + 1)).flatten.length = (NL.take i).flatten.length + M.length
  | [], i, M, h => by simp at h
  | L :: NL, 0, M, h => by simp at h; subst h; simp
  | L :: NL, i + 1, M, h => by
    have := flat_off NL i M (by simpa using h)
    simp only [List.take_succ_cons, List.flatten_cons, List.length_append] at this ⊢
    omega
theorem flat_at : ∀ (NL : List (List Nod)) (i : Nat) (M : List Nod) (k : Nat), NL[i]? = some M → k < M.length → NL.flatten[(NL.take i).flatten.length + k]? = M[k]?
  | [], i, M, k, h, _ => by simp at h
  | L :: NL, 0, M, k, h, hk => by
    simp at h
    subst h
    simp only [List.take_zero, List.flatten_nil, List.length_nil, Nat.zero_add, List.flatten_cons]
    rw [List.getElem?_append_left hk]
  | L :: NL, i + 1, M, k, h, hk => by
    have := flat_at NL i M k (by simpa using h) hk
    simp only [List.take_succ_cons, List.flatten_cons, List.length_append]
    rw [List.getElem?_append_right (by omega), Nat.add_assoc, Nat.add_sub_cancel_left]
    exact this
theorem flat_le (NL : List (List Nod)) (i : Nat) : (NL.take i).flatten.length ≤ NL.flatten.length := by
  have := congrArg List.length (congrArg List.flatten (List.take_append_drop i NL))
  rw [List.flatten_append, List.length_append] at this
  omega
def dL (n : Nod) : Lst := ⟨dataV n, n.data.length, n.data.map (Value.int .u8)⟩
def mkN (i : Nat) : Value := .int .i64 (-1 - (i : Int))
def mkB (i : Nat) : Value := .int .u8 ((i : Int) % 251)
theorem dl_some {A : List Nod} {q : Nat} {x : Lst} (h : (A.map dL)[q]? = some x) : ∃ n, A[q]? = some n ∧ x = dL n := by
  rw [List.getElem?_map] at h
  cases e : A[q]? with
  | none => rw [e] at h; cases h
  | some n => rw [e] at h; cases h; exact ⟨n, rfl, rfl⟩
theorem take_snoc {α : Type} {l : List α} {q : Nat} {x : α} (h : l[q]? = some x) : l.take q ++ [x] = l.take (q + 1) := by rw [List.take_add_one, h]; rfl
theorem lot_len {B eo e k n c : Nat} {ao : Option Addr} {V : List Lst} {w : World} (h : Lot B eo e k (.slice ao n c) V w) : V.length = n := by
  obtain ⟨a, c', e1, _⟩ := row_shape9 h.row
  injection e1 with _ e2 _
  exact e2.symm

set_option maxRecDepth 100000 in
set_option maxHeartbeats 20000000 in
theorem owned_any (B g0 c0 n : Nat) (NL : List (List Nod)) (V : List Lst) (w : World) (hB : B ≤ w.heap.size) (hn : NL.length = n) (hn1 : n ≤ 1000) (hV : Lot B 22 47 5 (.slice (some ⟨g0, 0, none⟩) n c0) V w)
    (hVM : ∀ (i : Nat) x, V[i]? = some x → ∃ M, NL[i]? = some M ∧ x.n = M.length ∧ x.xs = M.flatMap rowN) (hD : ∀ (q : Nat) x, NL.flatten[q]? = some x → BOw w B (dataV x) x.data)
    (h2 : ∀ (i j : Nat) x y g, NL.flatten[i]? = some x → NL.flatten[j]? = some y → (dataV x).ownBlock = some g → (dataV y).ownBlock = some g → i = j) (hsz : NL.flatten.length ≤ 200000) (hl : ∀ (q : Nat) x, NL.flatten[q]? = some x → x.data.length ≤ 5000000) :
    Calls Try.prog 17 #[.slice (some ⟨g0, 0, none⟩) n c0] w fun e w' => e = .returned (.bool true) ∧ Below B w w' := by
  have hVn : V.length = n := lot_len hV
  obtain ⟨A, hA⟩ : ∃ y, y = NL.flatten := ⟨_, rfl⟩
  rw [← hA] at hD h2 hsz hl
  obtain ⟨DF, hDF⟩ : ∃ y, y = A.map dL := ⟨_, rfl⟩
  have hDFn : DF.length = A.length := by rw [hDF, List.length_map]
  have HT2 : Hid (∀ (i j : Nat) x y g, DF[i]? = some x → DF[j]? = some y → x.v.ownBlock = some g → y.v.ownBlock = some g → i = j) := hid (fun i j x y g hx hy e1 e2 => by
    rw [hDF] at hx hy
    obtain ⟨a, ha, rfl⟩ := dl_some hx
    obtain ⟨b, hb, rfl⟩ := dl_some hy
    exact h2 i j a b g ha hb e1 e2)
  have HA0 : Hid (∀ (q : Nat) x, DF[q]? = some x → w.ownsRow B 5 1 x.v x.n x.xs) := hid (fun q x hx => by
    rw [hDF] at hx
    obtain ⟨a, ha, rfl⟩ := dl_some hx
    exact hD q a ha)
  have HLn : Hid (∀ (q : Nat) x, DF[q]? = some x → x.n ≤ 5000000) := hid (fun q x hx => by
    rw [hDF] at hx
    obtain ⟨a, ha, rfl⟩ := dl_some hx
    exact hl q a ha)
  have HMl : Hid (∀ (i : Nat) M, NL[i]? = some M → M.length ≤ 200000) := hid (fun i M hM => by
    have h1 := flat_off NL i M hM
    have h2 := flat_le NL (i + 1)
    rw [← hA] at h2
    omega)
  obtain ⟨off, hoff⟩ : ∃ f : Nat → Nat, f = fun i => (NL.take i).flatten.length := ⟨_, rfl⟩
  have HO0 : Hid (off 0 = 0) := hid (by rw [hoff]; simp)
  have HOn : Hid (off n = A.length) := hid (by rw [hoff, hA, ← hn]; simp)
  have HOs : Hid (∀ i M, NL[i]? = some M → off (i + 1) = off i + M.length) := hid (fun i M hM => by rw [hoff]; exact flat_off NL i M hM)
  have HAt : Hid (∀ i M k nd, NL[i]? = some M → M[k]? = some nd → DF[off i + k]? = some (dL nd)) := hid (fun i M k nd hM hk => by
    have := flat_at NL i M k hM (List.getElem?_eq_some_iff.1 hk).1
    rw [hDF, List.getElem?_map, hoff, hA]
    show Option.map dL NL.flatten[(NL.take i).flatten.length + k]? = _
    rw [this, hk]
    rfl)
  have HDFn := hid hDFn
  obtain ⟨N, hN⟩ : ∃ y, y = A.length := ⟨_, rfl⟩
  rw [← hN] at HOn HDFn hsz
  have HV0 := hid hV
  have HVM := hid hVM
  have HBw := hid hB
  have hbn : ∀ (W : World) (k : Int), (Instr.build 47 #[(1, .int .i64 k)]).run Try.prog W = .ok (.agg #[.string ⟨#[]⟩, .int .i64 k, .int .i64 0, .string ⟨#[]⟩, .slice none 0 0]) W := fun W k => by kernel_rfl
  have Hbn := hid hbn
  have HVn := hid hVn
  have HVl : Hid (MS 5 1 mkN 0 V) := hid (fun j x hx => ⟨by obtain ⟨M, hM, e1, _⟩ := hVM j x hx; have := HMl.out j M hM; omega, fun e => absurd e (Nat.not_lt_zero _)⟩)
  clear hA hDF hDFn hoff hD h2 hl hV hVM hB hN hbn hVn
  clear A
  go_enter Try.func17, Try.ntmps17
  go_upto_region 3 with fail
  go_loopw [3, 4] (fun x3 i wq => ∃ (k : Nat), k ≤ n ∧ i = .int .i64 k ∧ Hid (off k ≤ N) ∧ Hid (Lot B 22 47 5 (.slice (some ⟨g0, 0, none⟩) n c0) V wq) ∧ Hid (Lot B 29 5 1 x3 (DF.take (off k)) wq) ∧ Hid (∀ (q : Nat) x, DF[q]? = some x → wq.ownsRow B 5 1 x.v x.n x.xs) ∧ Hid (Below B w wq)) (fun _ i _ => n - (intOf i).toNat)
  case atStart => exact ⟨0, Nat.zero_le _, rfl, hid (by rw [HO0.out]; exact Nat.zero_le _), HV0, hid (by rw [HO0.out]; exact Lot.nil _ _ _ _ _), HA0, hid (Below.refl _ _)⟩
  case round =>
    clear HV0 HA0
    obtain ⟨k, hk, rfl, HOk, HV, HD, HA, HW⟩ := hrel
    by_cases hlt : k < n
    · as_aux_lemma =>
      obtain ⟨x, hx⟩ : ∃ x, V[k]? = some x := ⟨_, List.getElem?_eq_getElem (by rw [HVn.out]; exact hlt)⟩
      obtain ⟨M, hM, hxn, hxs⟩ := HVM.out k x hx
      have hMl := HMl.out k M hM
      have HOs1 := hid (HOs.out k M hM)
      have HAt1 := hid (HAt.out k M · · hM)
      have hOk1 : off k + M.length ≤ N := by
        have h1 := HOs1.out
        rcases Nat.lt_or_ge N (off (k + 1)) with h2 | h2
        · exfalso
          rcases Nat.eq_zero_or_pos M.length with h3 | h3
          · have := HOk.out; omega
          · obtain ⟨nd, hnd⟩ : ∃ nd, M[M.length - 1]? = some nd := ⟨_, List.getElem?_eq_getElem (by omega)⟩
            have h4 := (List.getElem?_eq_some_iff.1 (HAt1.out _ nd hnd)).1
            rw [HDFn.out] at h4
            omega
        · omega
      obtain ⟨ax, cx, hxv, hxc, hxd⟩ := row_shape9 (HV.out.own k x hx)
      clear hxc hxd
      obtain ⟨xv, xn, xs⟩ := x
      simp only at hxv hxn hxs
      subst hxv
      subst hxn
      have HX := hid hx
      have HXs := hid hxs
      obtain ⟨nM, hnM⟩ : ∃ y, y = M.length := ⟨_, rfl⟩
      rw [← hnM] at HX hMl hOk1 HOs1
      have HnM := hid hnM
      have hc : wr.cell? ⟨g0, k, none⟩ = some (.slice ax nM cx) := HV.out.at HX.out
      have j0 : (0 : Int) ≤ (k : Int) := by omega
      have j1 : (k : Int) < (n : Int) := by omega
      have HOk1 := hid hOk1
      clear hx hM hnM hxs hOk1
      go_upto_region 6 with fail
      clear hc
      obtain ⟨wo, hwo⟩ : ∃ y, y = wr := ⟨_, rfl⟩
      subst hwo
      go_loopw [3, 5] (fun x3 i wq => ∃ (q : Nat), q ≤ nM ∧ i = .int .i64 q ∧ Hid (Lot B 22 47 5 (.slice (some ⟨g0, 0, none⟩) n c0) V wq) ∧ Hid (Lot B 29 5 1 x3 (DF.take (off k + q)) wq) ∧ Hid (∀ (q : Nat) x, DF[q]? = some x → wq.ownsRow B 5 1 x.v x.n x.xs) ∧ Hid (Below B w wq)) (fun _ i _ => nM - (intOf i).toNat)
      case atStart => exact ⟨0, Nat.zero_le _, rfl, HV, HD, HA, HW⟩
      case round =>
        clear HV HD HA HW
        obtain ⟨q, hq, rfl, HV, HD, HA, HW⟩ := hrel
        have hc : wr.cell? ⟨g0, k, none⟩ = some (.slice ax nM cx) := HV.out.at HX.out
        by_cases hlq : q < nM
        · have q0 : (0 : Int) ≤ (q : Int) := by omega
          have q1 : (q : Int) < (nM : Int) := by omega
          obtain ⟨nd, hnd⟩ : ∃ nd, M[q]? = some nd := ⟨_, List.getElem?_eq_getElem (by rw [← HnM.out]; exact hlq)⟩
          have hdf := HAt1.out q nd hnd
          have hxo := HV.out.own k _ HX.out
          obtain ⟨gx, cx', hxv, _, _⟩ := hxo.form (by show 0 < nM; omega)
          injection hxv with e1 e2 e3
          subst e1 e3
          have hcn : wr.cell? ⟨gx, q * 5 + 4, none⟩ = some (dataV nd) := by
            refine own_cell hxo ?_
            show xs[q * 5 + 4]? = _
            rw [HXs.out]
            refine flat_row M q 4 _ (by rw [← HnM.out]; exact hlq) ?_
            rw [List.getD_eq_getElem?_getD, hnd]
            rfl
          have HDf := hid hdf
          obtain ⟨da, hda⟩ : ∃ y, y = nd.da := ⟨_, rfl⟩
          obtain ⟨dl, hdl⟩ : ∃ y, y = nd.data.length := ⟨_, rfl⟩
          obtain ⟨dc, hdc⟩ : ∃ y, y = nd.dc := ⟨_, rfl⟩
          have hdv : dataV nd = .slice da dl dc := by rw [hda, hdl, hdc]; rfl
          have HDv := hid hdv
          rw [hdv] at hcn
          have HDl : Hid ((DF.take (off k + q)).length ≤ 1000000) := hid (by rw [List.length_take, HDFn.out]; omega)
          have HBe : Hid (B ≤ wr.heap.size) := hid (Nat.le_trans HBw.out HW.out.size)
          have HAp : Hid (∀ (j : Nat) u g, (DF.take (off k + q))[j]? = some u → (dL nd).v.ownBlock = some g → u.v.ownBlock ≠ some g) := hid (fun j u g hu e1 e2 => by
            rw [List.getElem?_take] at hu
            split at hu
            · rename_i hj
              have := HT2.out j _ u (dL nd) g hu HDf.out e2 e1
              omega
            · cases hu)
          have HL1 : Hid (∀ X, Lot B 29 5 1 u3 (DF.take (off k + q)) (wr.alloc X)) := hid (fun X => HD.out.below (below_alloc _ _))
          have HO1 : Hid (∀ X, (wr.alloc X).ownsRow B 5 1 (dL nd).v (dL nd).n (dL nd).xs) := hid (fun X => ownr_below (HA.out _ _ HDf.out) (below_alloc _ _))
          clear hxo e2 hda hdl hdc hdv hdf hnd
          go_upto_region 7 with (first
            | (at_builtin; go_must (refine wp_more rfl _ _ 25 29 rfl Try.underlying25 infoLi B 5 1 wr.heap.size 1 u3 (DF.take (off k + q)) (dL nd) (by decide) rfl rfl (HL1.out _) (by show _ = some (dataV nd); rw [HDv.out]; go_simp) (HO1.out _) HAp.out HDl.out (by have := HBe.out; simp; omega) ?_; intro v7 w7 hd7 hg7))
            | fail)
          have HV7 := hid ((HV.out.below (below_alloc wr (.cells #[.slice da dl dc] 29))).grow hg7 (by decide) (by decide))
          have HA7 : Hid (∀ (q : Nat) x, DF[q]? = some x → w7.ownsRow B 5 1 x.v x.n x.xs) := hid (fun q x hx => ownr_grow (ownr_below (HA.out q x hx) (below_alloc _ _)) hg7 (by decide))
          have HW7 : Hid (Below B w w7) := hid ((HW.out.alloc HBe.out _).trans hg7.low)
          have HD7 : Hid (Lot B 29 5 1 v7 (DF.take (off k + (q + 1))) w7) := hid (by rw [← Nat.add_assoc, ← take_snoc HDf.out]; exact hd7)
          clear hd7 hg7 HD HA HW HL1 HO1 HV hcn hc
          go_wp2_with fail
          exact ⟨⟨q + 1, by omega, by go_num, HV7, HD7, HA7, HW7⟩, by simp [intOf]; omega⟩
        · have hqN : q = nM := by omega
          subst hqN
          have hge : ¬ ((q : Int) < (q : Int)) := by omega
          go_wp2_with fail
          exact ⟨⟨k + 1, by omega, by go_num, hid (by rw [HOs1.out]; exact HOk1.out), HV, hid (by rw [HOs1.out]; exact HD.out), HA, HW⟩, by simp [intOf]; omega⟩
    · have hkn : k = n := by omega
      subst hkn
      have hge : ¬ ((k : Int) < (k : Int)) := by omega
      have HDx : Hid (Lot B 29 5 1 u3 DF wr) := hid (by have h1 := HD.out; rw [HOn.out, List.take_of_length_le (by rw [HDFn.out]; exact Nat.le_refl _)] at h1; exact h1)
      clear HD
      have HD := HDx
      clear HDx
      obtain ⟨a3, c3, hu3, hz1, hz2⟩ := row_shape9 HD.out.row
      clear hz1 hz2
      rw [HDFn.out] at hu3
      subst hu3
      have HS0 : Hid (MS 1 0 mkB 0 DF) := hid (fun j x hx => ⟨by have := HLn.out j x hx; omega, fun e => absurd e (Nat.not_lt_zero _)⟩)
      go_upto_region 10 with fail
      obtain ⟨w5, hw5⟩ : ∃ y, y = wr := ⟨_, rfl⟩
      subst hw5
      obtain ⟨n, hnn⟩ : ∃ n, n = k := ⟨_, rfl⟩
      rw [← hnn] at hn1 HV HVn
      rw [← hnn]
      clear hge hlt hk HOk HVM HT2 HLn HMl HO0 HOn HOs HAt HA hnn hn
      go_loopw [6] (fun i wq => ∃ (k : Nat) (D : List Lst), k ≤ N ∧ i = .int .i64 k ∧ D.length = N ∧ Hid (Lot B 29 5 1 (.slice a3 N c3) D wq) ∧ Hid (MS 1 0 mkB k D) ∧ Hid (Lot B 22 47 5 (.slice (some ⟨g0, 0, none⟩) n c0) V wq) ∧ Hid (Below B w wq)) (fun i _ => N - (intOf i).toNat)
      case atStart => exact ⟨0, DF, Nat.zero_le _, rfl, HDFn.out, HD, HS0, HV, HW⟩
      case round =>
        clear HD HV HW HS0 HDFn
        obtain ⟨k, D, hk, rfl, hDk, HD, HS, HV, HW⟩ := hrel
        by_cases hlt : k < N
        · as_aux_lemma =>
          obtain ⟨gl, cl', hgl⟩ := HD.out.form (by omega)
          injection hgl with e1 e2 e3
          subst e1 e3
          clear e2
          obtain ⟨x, hx⟩ : ∃ x, D[k]? = some x := ⟨_, List.getElem?_eq_getElem (by omega)⟩
          obtain ⟨ax, cx, hxv, hxc, hxd⟩ := row_shape9 (HD.out.own k x hx)
          clear hxc hxd
          have hN : x.n ≤ 10000000 := (HS.out k x hx).1
          obtain ⟨xv, L, xs⟩ := x
          simp only at hxv hN
          subst hxv
          have HX := hid hx
          have j0 : (0 : Int) ≤ (k : Int) := by omega
          have j1 : (k : Int) < (N : Int) := by omega
          clear hx
          go_upto_region 13 with fail
          obtain ⟨wo, hwo⟩ : ∃ y, y = wr := ⟨_, rfl⟩
          subst hwo
          go_loopw [7] (fun i wq => ∃ (q : Nat) (D : List Lst) (xs : List Value), q ≤ L ∧ i = .int .i64 q ∧ D.length = N ∧ Hid (D[k]? = some ⟨.slice ax L cx, L, xs⟩) ∧ Hid (Lot B 29 5 1 (.slice (some ⟨gl, 0, none⟩) N c3) D wq) ∧ Hid (MS 1 0 mkB k D) ∧ Hid (∀ p, p < q → xs[p * 1 + 0]? = some (mkB k)) ∧ Hid (Lot B 22 47 5 (.slice (some ⟨g0, 0, none⟩) n c0) V wq) ∧ Hid (Below B w wq)) (fun i _ => L - (intOf i).toNat)
          case atStart => exact ⟨0, D, xs, Nat.zero_le _, rfl, hDk, HX, HD, HS, hid (fun p hp => absurd hp (Nat.not_lt_zero _)), HV, HW⟩
          case round =>
            clear HX HD HS HV HW hDk
            clear D xs
            obtain ⟨q, D, xs, hq, rfl, hDk, HX, HD, HS, HQ, HV, HW⟩ := hrel
            have hc : wr.cell? ⟨gl, k, none⟩ = some (.slice ax L cx) := HD.out.at HX.out
            by_cases hlq : q < L
            · have hxo := HD.out.own k _ HX.out
              obtain ⟨gx, cx', hxv, hBx, _⟩ := hxo.form (by show 0 < L; omega)
              injection hxv with e1 e2 e3
              subst e1 e3
              obtain ⟨_, cur, hcur⟩ := own_block hxo (show Value.ownBlock (.slice (some ⟨gx, 0, none⟩) L cx) = some gx from rfl)
              have hxl : xs.length = L * 1 := hxo.1
              have HC := hid hcur
              have q0 : (0 : Int) ≤ (q : Int) := by omega
              have q1 : (q : Int) < (L : Int) := by omega
              obtain ⟨u, hu⟩ : ∃ u, xs[q]? = some u := ⟨_, List.getElem?_eq_getElem (by omega)⟩
              have hcr : wr.cell? ⟨gx, q, none⟩ = some u := (World.ownsRow.cellAt hxo q (by omega)).trans hu
              have hfr : wr.frozen? ⟨gx, q, none⟩ = false := World.ownsRow.frozenAt hxo q
              have st := World.ownsRow.stored hxo q (mkB k)
              obtain ⟨w5, hw5⟩ : ∃ y, y = wr.setCell ⟨gx, q, none⟩ (.int .u8 ((k : Int) % 251)) := ⟨_, rfl⟩
              have hw6 : w5 = wr.setCell ⟨gx, q, none⟩ (mkB k) := hw5
              rw [← hw6] at st
              have L5 := hid (HD.out.put (by decide) HX.out rfl st.2 st.1)
              have V5 := hid (HV.out.other st.2 HC.out (by decide) (by decide))
              have W5 := hid (below_put HW.out HBw.out st.2 hBx)
              have m0 : (0 : Int) ≤ (k : Int) % 251 := by omega
              have m1 : (k : Int) % 251 < 256 := by omega
              have m2 : IntKind.u8.wrap ((k : Int) % 251) = (k : Int) % 251 := by rw [IntKind.wrap_u8]; omega
              clear hxo hcur st hu hw6
              go_upto_region 14 with fail
              rw [← hw5]
              clear hw5 hc hcr hfr
              go_wp2_with fail
              exact ⟨⟨q + 1, _, _, by omega, by go_num, by simp [hDk], hid (set_at HX.out), L5, hid (HS.out.put HX.out), hid (mark_put1 HQ.out (by show q < xs.length; omega)), V5, W5⟩, by simp [intOf]; omega⟩
            · have hqN : q = L := by omega
              subst hqN
              have hge : ¬ ((q : Int) < (q : Int)) := by omega
              have HS2 := hid (HS.out.next HX.out HQ.out)
              clear HS HQ HX
              go_wp2_with fail
              exact ⟨⟨k + 1, D, by omega, by go_num, hDk, HD, HS2, HV, HW⟩, by simp [intOf]; omega⟩
        · have hkn : k = N := by omega
          subst hkn
          have hge : ¬ ((k : Int) < (k : Int)) := by omega
          go_upto_region 17 with fail
          obtain ⟨w5, hw5⟩ : ∃ y, y = wr := ⟨_, rfl⟩
          subst hw5
          obtain ⟨N, hnn⟩ : ∃ n, n = k := ⟨_, rfl⟩
          rw [← hnn] at hsz hDk HD HS
          rw [← hnn]
          clear hge hlt hk hnn
          have HSD := HS
          clear HS
          go_loopw [8] (fun i wq => ∃ (k : Nat) (V : List Lst), k ≤ n ∧ i = .int .i64 k ∧ V.length = n ∧ Hid (Lot B 22 47 5 (.slice (some ⟨g0, 0, none⟩) n c0) V wq) ∧ Hid (MS 5 1 mkN k V) ∧ Hid (Lot B 29 5 1 (.slice a3 N c3) D wq) ∧ Hid (Below B w wq)) (fun i _ => n - (intOf i).toNat)
          case atStart => exact ⟨0, V, Nat.zero_le _, rfl, HVn.out, HV, HVl, HD, HW⟩
          case round =>
            clear HD HV HW HVn HVl
            obtain ⟨k, V, hk, rfl, hVk, HV, HS, HD, HW⟩ := hrel
            by_cases hlt : k < n
            · as_aux_lemma =>
              obtain ⟨x, hx⟩ : ∃ x, V[k]? = some x := ⟨_, List.getElem?_eq_getElem (by omega)⟩
              obtain ⟨ax, cx, hxv, hxc, hxd⟩ := row_shape9 (HV.out.own k x hx)
              clear hxc hxd
              have hN : x.n ≤ 10000000 := (HS.out k x hx).1
              obtain ⟨xv, L, xs⟩ := x
              simp only at hxv hN
              subst hxv
              have HX := hid hx
              have j0 : (0 : Int) ≤ (k : Int) := by omega
              have j1 : (k : Int) < (n : Int) := by omega
              clear hx
              go_upto_region 20 with fail
              obtain ⟨wo, hwo⟩ : ∃ y, y = wr := ⟨_, rfl⟩
              subst hwo
              go_loopw [9] (fun i wq => ∃ (q : Nat) (V : List Lst) (xs : List Value), q ≤ L ∧ i = .int .i64 q ∧ V.length = n ∧ Hid (V[k]? = some ⟨.slice ax L cx, L, xs⟩) ∧ Hid (Lot B 22 47 5 (.slice (some ⟨g0, 0, none⟩) n c0) V wq) ∧ Hid (MS 5 1 mkN k V) ∧ Hid (∀ p, p < q → xs[p * 5 + 1]? = some (mkN k)) ∧ Hid (Lot B 29 5 1 (.slice a3 N c3) D wq) ∧ Hid (Below B w wq)) (fun i _ => L - (intOf i).toNat)
              case atStart => exact ⟨0, V, xs, Nat.zero_le _, rfl, hVk, HX, HV, HS, hid (fun p hp => absurd hp (Nat.not_lt_zero _)), HD, HW⟩
              case round =>
                clear HX HD HS HV HW hVk
                clear V xs
                obtain ⟨q, V, xs, hq, rfl, hVk, HX, HV, HS, HQ, HD, HW⟩ := hrel
                have hc : wr.cell? ⟨g0, k, none⟩ = some (.slice ax L cx) := HV.out.at HX.out
                by_cases hlq : q < L
                · have hxo := HV.out.own k _ HX.out
                  obtain ⟨gx, cx', hxv, hBx, _⟩ := hxo.form (by show 0 < L; omega)
                  injection hxv with e1 e2 e3
                  subst e1 e3
                  obtain ⟨_, cur, hcur⟩ := own_block hxo (show Value.ownBlock (.slice (some ⟨gx, 0, none⟩) L cx) = some gx from rfl)
                  have hxl : xs.length = L * 5 := hxo.1
                  have HXl := hid hxl
                  have HC := hid hcur
                  have q0 : (0 : Int) ≤ (q : Int) := by omega
                  have q1 : (q : Int) < (L : Int) := by omega
                  have hbn := Hbn.out
                  clear hxo hcur hxl
                  go_upto_region 21 with (first
                    | (refine wp_putN rfl _ _ rfl B gx cx k q _ V ⟨.slice (some ⟨gx, 0, none⟩) L cx, L, xs⟩ (.string ⟨#[]⟩) (.int .i64 (-1 - (k : Int))) (.int .i64 0) (.string ⟨#[]⟩) (.slice none 0 0) (by simp [Value.oneCell']) rfl rfl HV.out HX.out rfl hlq ?_; intro w5 hl5 hg5)
                    | fail)
                  have L5 := hid hl5
                  have D5 := hid (HD.out.other hg5 HC.out (by decide) (by decide))
                  have W5 := hid (below_put HW.out HBw.out hg5 hBx)
                  clear hl5 hg5 hc hbn
                  go_wp2_with fail
                  exact ⟨⟨q + 1, _, _, by omega, by go_num, by simp [hVk], hid (set_at HX.out), L5, hid (HS.out.put HX.out), hid (mark_put5 HQ.out (by have := HXl.out; show q * 5 + 4 < xs.length; omega)), D5, W5⟩, by simp [intOf]; omega⟩
                · have hqN : q = L := by omega
                  subst hqN
                  have hge : ¬ ((q : Int) < (q : Int)) := by omega
                  have HS2 := hid (HS.out.next HX.out HQ.out)
                  clear HS HQ HX
                  go_wp2_with fail
                  exact ⟨⟨k + 1, V, by omega, by go_num, hVk, HV, HS2, HD, HW⟩, by simp [intOf]; omega⟩
            · have hkn : k = n := by omega
              subst hkn
              have hge : ¬ ((k : Int) < (k : Int)) := by omega
              go_upto_region 25 with fail
              obtain ⟨w5, hw5⟩ : ∃ y, y = wr := ⟨_, rfl⟩
              subst hw5
              obtain ⟨n, hnn⟩ : ∃ n, n = k := ⟨_, rfl⟩
              rw [← hnn] at hn1 hVk HV HS
              rw [← hnn]
              clear hge hlt hk hnn
              have HSV := HS
              clear HS
              have D0 := hid (Duo.start HD.out)
              clear HD
              go_loopw [10, 11] (fun m i wq => ∃ (k : Nat) (G : List Lst) (mv : Value), mv = m ∧ k ≤ N ∧ i = .int .i64 k ∧ G.length = k ∧ Hid (Duo B 29 5 1 (.slice a3 N c3) mv D G wq) ∧ Hid (GM 1 0 mkB 24 D G) ∧ Hid (Lot B 22 47 5 (.slice (some ⟨g0, 0, none⟩) n c0) V wq) ∧ Hid (Below B w wq)) (fun _ i _ => N - (intOf i).toNat)
              case atStart => exact ⟨0, [], _, rfl, Nat.zero_le _, rfl, rfl, D0, hid (GM.nil _ _ _ _ _), HV, HW⟩
              case round =>
                clear D0 HV HW
                obtain ⟨k, G, mv, rfl, hk, rfl, hGk, HD, HGM, HV, HW⟩ := hrel
                by_cases hlt : k < N
                · as_aux_lemma =>
                  obtain ⟨gl, cl', hgl⟩ := HD.out.l.form (by omega)
                  injection hgl with e1 e2 e3
                  subst e1 e3
                  clear e2
                  obtain ⟨x, hx⟩ : ∃ x, D[k]? = some x := ⟨_, List.getElem?_eq_getElem (by omega)⟩
                  have hN : x.n ≤ 10000000 := (HSD.out k x hx).1
                  have G0 := hid (HSD.out.gc hx hlt (HD.out.l.own k x hx).1)
                  have C0 := hid (HD.out.cur hx)
                  have hcx : wr.cell? ⟨gl, k, none⟩ = some x.v := HD.out.l.at hx
                  obtain ⟨ax, cx, hxv, hxc, hxd⟩ := row_shape9 (HD.out.l.own k x hx)
                  clear hxc hxd
                  have HXV := hid hxv
                  rw [hxv] at hcx
                  have HX := hid (show D[G.length]? = some x by rw [hGk]; exact hx)
                  have j0 : (0 : Int) ≤ (k : Int) := by omega
                  have j1 : (k : Int) < (N : Int) := by omega
                  clear hx hxv
                  obtain ⟨L, hNn⟩ : ∃ N, N = x.n := ⟨_, rfl⟩
                  rw [← hNn] at hcx hN
                  have HNn := hid hNn
                  clear hNn
                  go_upto_region 29 with fail
                  clear hcx
                  obtain ⟨wo, hwo⟩ : ∃ y, y = wr := ⟨_, rfl⟩
                  subst hwo
                  go_loopw [12, 13] (fun a i wq => ∃ (r : Nat) (A : Lst), r ≤ 24 ∧ i = .int .i64 r ∧ a = A.v ∧ Hid (A.n = L + r) ∧ Hid (Duo B 29 5 1 (.slice (some ⟨gl, 0, none⟩) N c3) mv D G wq) ∧ Hid (Cur B 5 1 D G x A wq) ∧ Hid (GC 1 0 (mkB k) A) ∧ Hid (Lot B 22 47 5 (.slice (some ⟨g0, 0, none⟩) n c0) V wq) ∧ Hid (Below B w wq)) (fun _ i _ => 24 - (intOf i).toNat)
                  case atStart => exact ⟨0, x, by omega, rfl, by rw [HXV.out, HNn.out], hid (by rw [HNn.out]; rfl), HD, C0, G0, HV, HW⟩
                  case round =>
                    clear HD C0 G0 HV HW
                    obtain ⟨r, A, hr, rfl, rfl, HAn, HD, C0, G0, HV, HW⟩ := hrel
                    have HBe : Hid (B ≤ wr.heap.size) := hid (Nat.le_trans HBw.out HW.out.size)
                    by_cases hlr : r < 24
                    · have q0 : (0 : Int) ≤ (r : Int) := by omega
                      have q1 : (r : Int) < 24 := by omega
                      have m0 : (0 : Int) ≤ (k : Int) % 251 := by omega
                      have m1 : (k : Int) % 251 < 256 := by omega
                      have m2 : IntKind.u8.wrap ((k : Int) % 251) = (k : Int) % 251 := by rw [IntKind.wrap_u8]; omega
                      go_upto_region 30 with (first
                        | (at_builtin; go_must (refine wp_growB rfl _ _ rfl B wr.heap.size 1 _ _ D G x A ((k : Int) % 251) rfl rfl (HD.out.below (below_alloc _ _)) (heap_alloc_new _ _) HX.out (C0.out.below (below_alloc _ _)) (by have := HAn.out; omega) (by have := HBe.out; simp; omega) ?_; intro g7 c7 w7 hd7 hc7 hg7))
                        | fail)
                      have D7 := hid hd7
                      have C7 := hid hc7
                      have V7 := hid ((HV.out.below (below_alloc wr (.cells #[.int .u8 ((k : Int) % 251)] 5))).grow hg7 (by decide) (by decide))
                      have W7 : Hid (Below B w w7) := hid ((HW.out.alloc HBe.out _).trans hg7.low)
                      have G7 := hid (G0.out.grow [.int .u8 ((k : Int) % 251)] rfl rfl (by decide) (.slice (some ⟨g7, 0, none⟩) (A.n + 1) c7))
                      clear hd7 hc7 hg7 HD C0 HV HW G0
                      go_wp2_with fail
                      exact ⟨⟨r + 1, _, by omega, by go_num, rfl, hid (by show A.n + 1 = _; rw [HAn.out]; omega), D7, C7, G7, V7, W7⟩, by simp [intOf]; omega⟩
                    · have hr24 : r = 24 := by omega
                      subst hr24
                      have hge : ¬ (((24 : Nat) : Int) < 24) := by decide
                      obtain ⟨aA, cA, hAv, ha1, ha2⟩ := row_shape9 C0.out.own
                      have HAv := hid hAv
                      obtain ⟨nA, hnA⟩ : ∃ y, y = A.n := ⟨_, rfl⟩
                      rw [← hnA] at HAv
                      rw [hAv, ← hnA]
                      clear ha1 ha2 hAv
                      have HnA := hid hnA
                      clear hnA
                      go_upto_region 26 with (first
                        | (at_builtin; go_must (refine wp_pushJ rfl _ _ 25 29 rfl Try.underlying25 infoLi B 5 1 wr.heap.size 1 _ _ D G x A (by decide) rfl rfl (HD.out.below (below_alloc _ _)) (by rw [HAv.out]; go_simp) HX.out (C0.out.below (below_alloc _ _)) (by omega) (by have := HBe.out; simp; omega) ?_; intro m7 w7 hd7 hg7))
                        | fail)
                      have D7 := hid hd7
                      have V7 := hid ((HV.out.below (below_alloc wr (.cells #[.slice aA nA cA] 29))).grow hg7 (by decide) (by decide))
                      have W7 : Hid (Below B w w7) := hid ((HW.out.alloc HBe.out _).trans hg7.low)
                      clear hd7 hg7 HD C0 HV HW
                      have HX' := HX.out
                      rw [hGk] at HX'
                      have M8 := hid (HGM.out.more hGk HX' (by rw [HAn.out, HNn.out]) G0.out)
                      clear HX'
                      go_wp2_with fail
                      exact ⟨⟨k + 1, _, _, rfl, by omega, by go_num, by simp [hGk], D7, M8, V7, W7⟩, by simp [intOf]; omega⟩
                · have hkn : k = N := by omega
                  have hge : ¬ ((k : Int) < (N : Int)) := by omega
                  go_upto_region 35 with fail
                  rw [hkn] at hGk
                  clear hge hlt hk hkn
                  obtain ⟨a10, c10, hmv, hz1, hz2⟩ := row_shape9 HD.out.r.row
                  rw [hGk] at hmv
                  clear hz1 hz2
                  subst hmv
                  obtain ⟨w6, hw6⟩ : ∃ y, y = wr := ⟨_, rfl⟩
                  subst hw6
                  have E0 := hid (Duo.start HV.out)
                  clear HV
                  have HGMD := HGM
                  clear HGM
                  go_loopw [14, 15] (fun m i wq => ∃ (k : Nat) (E : List Lst) (mv : Value), mv = m ∧ k ≤ n ∧ i = .int .i64 k ∧ E.length = k ∧ Hid (Duo B 22 47 5 (.slice (some ⟨g0, 0, none⟩) n c0) mv V E wq) ∧ Hid (GM 5 1 mkN 12 V E) ∧ Hid (Duo B 29 5 1 (.slice a3 N c3) (.slice a10 N c10) D G wq) ∧ Hid (Below B w wq)) (fun _ i _ => n - (intOf i).toNat)
                  case atStart => exact ⟨0, [], _, rfl, Nat.zero_le _, rfl, rfl, E0, hid (GM.nil _ _ _ _ _), HD, HW⟩
                  case round =>
                    clear E0 HD HW
                    obtain ⟨k, E, mv, rfl, hk, rfl, hEk, HE, HGM, HD, HW⟩ := hrel
                    by_cases hlt : k < n
                    · as_aux_lemma =>
                      obtain ⟨x, hx⟩ : ∃ x, V[k]? = some x := ⟨_, List.getElem?_eq_getElem (by omega)⟩
                      have hN : x.n ≤ 10000000 := (HSV.out k x hx).1
                      have G0 := hid (HSV.out.gc hx hlt (HE.out.l.own k x hx).1)
                      have C0 := hid (HE.out.cur hx)
                      have hcx : wr.cell? ⟨g0, k, none⟩ = some x.v := HE.out.l.at hx
                      obtain ⟨ax, cx, hxv, hxc, hxd⟩ := row_shape9 (HE.out.l.own k x hx)
                      clear hxc hxd
                      have HXV := hid hxv
                      rw [hxv] at hcx
                      have HX := hid (show V[E.length]? = some x by rw [hEk]; exact hx)
                      have j0 : (0 : Int) ≤ (k : Int) := by omega
                      have j1 : (k : Int) < (n : Int) := by omega
                      clear hx hxv
                      obtain ⟨L, hNn⟩ : ∃ N, N = x.n := ⟨_, rfl⟩
                      rw [← hNn] at hcx hN
                      have HNn := hid hNn
                      clear hNn
                      go_upto_region 39 with fail
                      clear hcx
                      obtain ⟨wo, hwo⟩ : ∃ y, y = wr := ⟨_, rfl⟩
                      subst hwo
                      go_loopw [16, 17] (fun a i wq => ∃ (r : Nat) (A : Lst), r ≤ 12 ∧ i = .int .i64 r ∧ a = A.v ∧ Hid (A.n = L + r) ∧ Hid (Duo B 22 47 5 (.slice (some ⟨g0, 0, none⟩) n c0) mv V E wq) ∧ Hid (Cur B 47 5 V E x A wq) ∧ Hid (GC 5 1 (mkN k) A) ∧ Hid (Duo B 29 5 1 (.slice a3 N c3) (.slice a10 N c10) D G wq) ∧ Hid (Below B w wq)) (fun _ i _ => 12 - (intOf i).toNat)
                      case atStart => exact ⟨0, x, by omega, rfl, by rw [HXV.out, HNn.out], hid (by rw [HNn.out]; rfl), HE, C0, G0, HD, HW⟩
                      case round =>
                        clear HD C0 G0 HE HW
                        obtain ⟨r, A, hr, rfl, rfl, HAn, HE, C0, G0, HD, HW⟩ := hrel
                        have HBe : Hid (B ≤ wr.heap.size) := hid (Nat.le_trans HBw.out HW.out.size)
                        by_cases hlr : r < 12
                        · have q0 : (0 : Int) ≤ (r : Int) := by omega
                          have q1 : (r : Int) < 12 := by omega
                          obtain ⟨cz, hcz⟩ : ∃ c : Array Value, c = #[.string ⟨#[]⟩, .int .i64 (-1 - (k : Int)), .int .i64 0, .string ⟨#[]⟩, .slice none 0 0] := ⟨_, rfl⟩
                          have HBs : Hid (∀ W, (Instr.buildSlice 22 1 #[(0, .agg cz)]).run Try.prog W = .ok (.slice (some ⟨W.heap.size, 0, none⟩) 1 1) (W.alloc (.cells cz 47))) := hid (fun W => by rw [hcz]; kernel_rfl)
                          have HBn2 : Hid (∀ W, (Instr.build 47 #[(1, .int .i64 (-1 - (k : Int)))]).run Try.prog W = .ok (.agg cz) W) := hid (fun W => by rw [hcz]; exact Hbn.out W _)
                          have HCz : Hid (cz.toList.length = 5 ∧ cz.toList[1]? = some (mkN k) ∧ ∀ u ∈ cz.toList, u.oneCell' = true) := hid (by rw [hcz]; exact ⟨rfl, rfl, by simp [Value.oneCell']⟩)
                          have HAb : Hid (A.n ≤ 1000000000) := hid (by have := HAn.out; omega)
                          have hba : Below wr.heap.size wr (wr.alloc (.cells cz 47)) := below_alloc _ _
                          have HEa := hid (HE.out.below hba)
                          have HCa := hid (C0.out.below hba)
                          have HBa : Hid (B ≤ (wr.alloc (.cells cz 47)).heap.size) := hid (Nat.le_trans HBe.out hba.size)
                          have HHa : Hid ((wr.alloc (.cells cz 47)).heap[wr.heap.size]? = some (.cells cz.toList.toArray 47 (0, 0))) := hid (by rw [Array.toArray_toList]; exact heap_alloc_new _ _)
                          have HDa := hid (HD.out.below hba)
                          have HWa : Hid (Below B w (wr.alloc (.cells cz 47))) := hid (HW.out.alloc HBe.out _)
                          clear hcz hba
                          go_upto_region 40 with (first
                            | (refine wp_buildN rfl _ rfl (-1 - (k : Int)) rfl cz HBn2.out ?_)
                            | (refine wp_listN rfl _ rfl cz rfl HBs.out ?_)
                            | (at_builtin; go_must (refine wp_growN rfl _ _ rfl B wr.heap.size 1 _ _ V E x A cz.toList HCz.out.1 HCz.out.2.2 rfl rfl HEa.out HHa.out HX.out HCa.out HAb.out HBa.out ?_; intro g7 c7 w7 hd7 hc7 hg7))
                            | fail)
                          have E7 := hid hd7
                          have C7 := hid hc7
                          have D7 := hid (HDa.out.grow hg7 (by decide) (by decide))
                          have W7 : Hid (Below B w w7) := hid (HWa.out.trans hg7.low)
                          have G7 := hid (G0.out.grow cz.toList HCz.out.1 HCz.out.2.1 (by decide) (.slice (some ⟨g7, 0, none⟩) (A.n + 1) c7))
                          clear hd7 hc7 hg7 HD C0 HE HW G0
                          go_wp2_with fail
                          exact ⟨⟨r + 1, _, by omega, by go_num, rfl, hid (by show A.n + 1 = _; rw [HAn.out]; omega), E7, C7, G7, D7, W7⟩, by simp [intOf]; omega⟩
                        · have hr12 : r = 12 := by omega
                          subst hr12
                          have hge : ¬ (((12 : Nat) : Int) < 12) := by decide
                          obtain ⟨aA, cA, hAv, ha1, ha2⟩ := row_shape9 C0.out.own
                          have HAv := hid hAv
                          obtain ⟨nA, hnA⟩ : ∃ y, y = A.n := ⟨_, rfl⟩
                          rw [← hnA] at HAv
                          rw [hAv, ← hnA]
                          clear ha1 ha2 hAv
                          have HnA := hid hnA
                          clear hnA
                          go_upto_region 36 with (first
                            | (at_builtin; go_must (refine wp_pushJ rfl _ _ 40 22 rfl Try.underlying40 infoLs B 47 5 wr.heap.size 1 _ _ V E x A (by decide) rfl rfl (HE.out.below (below_alloc _ _)) (by rw [HAv.out]; go_simp) HX.out (C0.out.below (below_alloc _ _)) (by omega) (by have := HBe.out; simp; omega) ?_; intro m7 w7 hd7 hg7))
                            | fail)
                          have E7 := hid hd7
                          have D7 := hid ((HD.out.below (below_alloc wr (.cells #[.slice aA nA cA] 22))).grow hg7 (by decide) (by decide))
                          have W7 : Hid (Below B w w7) := hid ((HW.out.alloc HBe.out _).trans hg7.low)
                          clear hd7 hg7 HD C0 HE HW
                          have HX' := HX.out
                          rw [hEk] at HX'
                          have M8 := hid (HGM.out.more hEk HX' (by rw [HAn.out, HNn.out]) G0.out)
                          clear HX'
                          go_wp2_with fail
                          exact ⟨⟨k + 1, _, _, rfl, by omega, by go_num, by simp [hEk], E7, M8, D7, W7⟩, by simp [intOf]; omega⟩
                    · have hkn : k = n := by omega
                      have hge : ¬ ((k : Int) < (n : Int)) := by omega
                      go_upto_region 44 with fail
                      rw [hkn] at hEk
                      clear hge hlt hk hkn
                      obtain ⟨a14, c14, hmv, hz1, hz2⟩ := row_shape9 HE.out.r.row
                      rw [hEk] at hmv
                      clear hz1 hz2
                      subst hmv
                      obtain ⟨w6, hw6⟩ : ∃ y, y = wr := ⟨_, rfl⟩
                      subst hw6
                      go_loopw [18] (fun i wq => ∃ (k : Nat), k ≤ N ∧ i = .int .i64 k ∧ wq = w6) (fun i _ => N - (intOf i).toNat)
                      case atStart => exact ⟨0, Nat.zero_le _, rfl, rfl⟩
                      case round =>
                        obtain ⟨k, hk, rfl, hwq⟩ := hrel
                        subst hwq
                        by_cases hlt : k < N
                        · as_aux_lemma =>
                          obtain ⟨gl, cl', hgl⟩ := HD.out.l.form (by omega)
                          injection hgl with e1 e2 e3
                          subst e1 e3
                          clear e2
                          obtain ⟨gm, cm', hgm⟩ := HD.out.r.form (by omega)
                          injection hgm with e1 e2 e3
                          subst e1 e3
                          clear e2
                          obtain ⟨ax, cx, L, gA, cA, LA, hN, hNA, hcx, hcA, t1, t2⟩ := HD.out.reads HGMD.out (by decide) (fun x hx => ⟨(HSD.out k x hx).1, HSD.out.gc hx hlt (HD.out.l.own k x hx).1⟩) hDk hGk hlt
                          have T1 := hid t1
                          have T2 := hid t2
                          have HNA := hid hNA
                          clear t1 t2 hNA
                          have j0 : (0 : Int) ≤ (k : Int) := by omega
                          have j1 : (k : Int) < (N : Int) := by omega
                          have hNAb : LA ≤ 10000024 := by have := HNA.out; omega
                          have m0 : (0 : Int) ≤ (k : Int) % 251 := by omega
                          have m1 : (k : Int) % 251 < 256 := by omega
                          have m2 : IntKind.u8.wrap ((k : Int) % 251) = (k : Int) % 251 := by rw [IntKind.wrap_u8]; omega
                          go_upto_region 47 with fail
                          obtain ⟨w7, hw7⟩ : ∃ y, y = wr := ⟨_, rfl⟩
                          subst hw7
                          go_loopw [19] (fun i wq => ∃ (q : Nat), q ≤ LA ∧ i = .int .i64 q ∧ wq = w7) (fun i _ => LA - (intOf i).toNat)
                          case atStart => exact ⟨0, Nat.zero_le _, rfl, rfl⟩
                          case round =>
                            obtain ⟨q, hq, rfl, hwq⟩ := hrel
                            subst hwq
                            by_cases hlq : q < LA
                            · have q0 : (0 : Int) ≤ (q : Int) := by omega
                              have q1 : (q : Int) < (LA : Int) := by omega
                              have hc := T1.out q hlq
                              rw [Nat.mul_one, Nat.add_zero] at hc
                              unfold mkB at hc
                              by_cases hqn : q < L
                              · have q2 : (q : Int) < (L : Int) := by omega
                                obtain ⟨gx, hgx, hc2⟩ := T2.out q hqn
                                subst hgx
                                rw [Nat.mul_one, Nat.add_zero] at hc2
                                unfold mkB at hc2
                                go_wp2_with fail
                                exact ⟨⟨q + 1, by omega, by go_num, by first | rfl | trivial⟩, by simp [intOf]; omega⟩
                              · have q2 : ¬ ((q : Int) < (L : Int)) := by omega
                                have q3 : (L : Int) ≤ (q : Int) := by omega
                                go_wp2_with fail
                                exact ⟨⟨q + 1, by omega, by go_num, by first | rfl | trivial⟩, by simp [intOf]; omega⟩
                            · have hqN : q = LA := by omega
                              subst hqN
                              have hge : ¬ ((q : Int) < (q : Int)) := by omega
                              go_wp2_with fail
                              exact ⟨⟨k + 1, by omega, by go_num, by first | rfl | trivial⟩, by simp [intOf]; omega⟩
                        · have hkn : k = N := by omega
                          have hge : ¬ ((k : Int) < (N : Int)) := by omega
                          go_upto_region 52 with fail
                          clear hge hlt hk hkn
                          go_loopw [20] (fun i wq => ∃ (k : Nat), k ≤ n ∧ i = .int .i64 k ∧ wq = wr) (fun i _ => n - (intOf i).toNat)
                          case atStart => exact ⟨0, Nat.zero_le _, rfl, rfl⟩
                          case round =>
                            obtain ⟨k, hk, rfl, hwq⟩ := hrel
                            have hwq := hwq.symm
                            subst hwq
                            by_cases hlt : k < n
                            · as_aux_lemma =>
                              obtain ⟨gm, cm', hgm⟩ := HE.out.r.form (by omega)
                              injection hgm with e1 e2 e3
                              subst e1 e3
                              clear e2
                              obtain ⟨ax, cx, L, gA, cA, LA, hN, hNA, hcx, hcA, t1, t2⟩ := HE.out.reads HGM.out (by decide) (fun x hx => ⟨(HSV.out k x hx).1, HSV.out.gc hx hlt (HE.out.l.own k x hx).1⟩) hVk hEk hlt
                              have T1 := hid t1
                              have T2 := hid t2
                              have HNA := hid hNA
                              clear t1 t2 hNA
                              have j0 : (0 : Int) ≤ (k : Int) := by omega
                              have j1 : (k : Int) < (n : Int) := by omega
                              have hNAb : LA ≤ 10000024 := by have := HNA.out; omega
                              go_upto_region 55 with fail
                              obtain ⟨w7, hw7⟩ : ∃ y, y = wr := ⟨_, rfl⟩
                              subst hw7
                              go_loopw [21] (fun i wq => ∃ (q : Nat), q ≤ LA ∧ i = .int .i64 q ∧ wq = w7) (fun i _ => LA - (intOf i).toNat)
                              case atStart => exact ⟨0, Nat.zero_le _, rfl, rfl⟩
                              case round =>
                                obtain ⟨q, hq, rfl, hwq⟩ := hrel
                                subst hwq
                                by_cases hlq : q < LA
                                · have q0 : (0 : Int) ≤ (q : Int) := by omega
                                  have q1 : (q : Int) < (LA : Int) := by omega
                                  have hc := T1.out q hlq
                                  unfold mkN at hc
                                  by_cases hqn : q < L
                                  · have q2 : (q : Int) < (L : Int) := by omega
                                    obtain ⟨gx, hgx, hc2⟩ := T2.out q hqn
                                    subst hgx
                                    unfold mkN at hc2
                                    go_wp2_with fail
                                    exact ⟨⟨q + 1, by omega, by go_num, by first | rfl | trivial⟩, by simp [intOf]; omega⟩
                                  · have q2 : ¬ ((q : Int) < (L : Int)) := by omega
                                    have q3 : (L : Int) ≤ (q : Int) := by omega
                                    go_wp2_with fail
                                    exact ⟨⟨q + 1, by omega, by go_num, by first | rfl | trivial⟩, by simp [intOf]; omega⟩
                                · have hqN : q = LA := by omega
                                  subst hqN
                                  have hge : ¬ ((q : Int) < (q : Int)) := by omega
                                  go_wp2_with fail
                                  exact ⟨⟨k + 1, by omega, by go_num, by first | rfl | trivial⟩, by simp [intOf]; omega⟩
                            · have hkn : k = n := by omega
                              have hge : ¬ ((k : Int) < (n : Int)) := by omega
                              go_wp2_with fail
                              go_ret
                              exact ⟨rfl, HW.out⟩
end Go.Proofs.Ytiakfgplhdbaeaa
