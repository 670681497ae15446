/-
  The statements' own rowsOwn: lists of edges that are marked and grow, none changes another.
-/
import Derived.Test.YtfkommjpofpmbaaK0
import Derived.Deep.Cut
namespace Go.Proofs.Ytfkommjpofpmbaa
open Go.RowKit

set_option maxRecDepth 100000 in
set_option maxHeartbeats 20000000 in
theorem rowsOwn_any (ao : Option Addr) (n cl B : Nat) (V : List Lst) (w : World) (hVn : V.length = n) (hn : n ≤ 1000) (hB : B ≤ w.heap.size) (hV : Lot B 30 48 2 (.slice ao n cl) V w) (hm : ∀ (j : Nat) x, V[j]? = some x → x.n ≤ 100000000) :
    Calls Try.prog 15 #[.slice ao n cl] w fun e w' => e = .returned (.bool true) ∧ Kps 48 30 B w w' := by
  have HV0 := hid hV
  have HS0 : Hid (MS 2 0 V) := hid (fun j x hx => ⟨hm j x hx, fun e => absurd e (Nat.not_lt_zero _)⟩)
  have HBw := hid hB
  clear hV hm hB
  go_enter Try.func15, Try.ntmps15
  go_upto_region 2 with fail
  go_loopw [3] (fun i wq => ∃ (k : Nat) (V : List Lst), k ≤ n ∧ i = .int .i64 k ∧ V.length = n ∧ Hid (Lot B 30 48 2 (.slice ao n cl) V wq) ∧ Hid (MS 2 k V) ∧ Hid (Kps 48 30 B w wq)) (fun i _ => n - (intOf i).toNat)
  case atStart => exact ⟨0, V, by omega, rfl, hVn, HV0, HS0, hid (Kps.refl _ _ _ _)⟩
  case round =>
    clear HV0 HS0 hVn
    clear V
    obtain ⟨k, V, hk, rfl, hVk, HV, HS, HK⟩ := hrel
    by_cases hlt : k < n
    · obtain ⟨gl, cl', hgl⟩ := HV.out.form (by omega)
      injection hgl with e1 e2 e3
      subst e1 e3
      clear e2
      obtain ⟨x, hx⟩ : ∃ x, V[k]? = some x := ⟨_, List.getElem?_eq_getElem (by omega)⟩
      obtain ⟨ax, cx, hxv, hxc, hxd⟩ := row_shape9 (HV.out.own k x hx)
      clear hxc hxd
      have hN : x.n ≤ 100000000 := (HS.out k x hx).1
      obtain ⟨xv, N, xs⟩ := x
      simp only at hxv hN
      subst hxv
      have HX := hid hx
      have j0 : (0 : Int) ≤ (k : Int) := by omega
      have j1 : (k : Int) < (n : Int) := by omega
      clear hx
      go_upto_region 5 with fail
      obtain ⟨wo, hwo⟩ : ∃ y, y = wr := ⟨_, rfl⟩
      subst hwo
      go_loopw [4] (fun i wq => ∃ (q : Nat) (V : List Lst) (xs : List Value), q ≤ N ∧ i = .int .i64 q ∧ V.length = n ∧ Hid (V[k]? = some ⟨.slice ax N cx, N, xs⟩) ∧ Hid (Lot B 30 48 2 (.slice (some ⟨gl, 0, none⟩) n cl) V wq) ∧ Hid (MS 2 k V) ∧ Hid (∀ p, p < q → xs[p * 2]? = some (.int .i64 (-(k : Int) - 1))) ∧ Hid (Kps 48 30 B w wq)) (fun i _ => N - (intOf i).toNat)
      case atStart => exact ⟨0, V, xs, by omega, rfl, hVk, HX, HV, HS, hid (fun p hp => absurd hp (Nat.not_lt_zero _)), HK⟩
      case round =>
        clear HX HV HS HK hVk
        clear V xs
        obtain ⟨q, V, xs, hq, rfl, hVk, HX, HV, HS, HQ, HK⟩ := hrel
        have hc : wr.cell? ⟨gl, k, none⟩ = some (.slice ax N cx) := HV.out.at HX.out
        by_cases hlq : q < N
        · have hxo := HV.out.own k _ HX.out
          obtain ⟨gx, cx', hxv, hBx, _⟩ := hxo.form (by show 0 < N; omega)
          injection hxv with e1 e2 e3
          subst e1 e3
          obtain ⟨_, cur, hcur⟩ := own_block hxo (show Value.ownBlock (.slice (some ⟨gx, 0, none⟩) N cx) = some gx from rfl)
          have hxl : xs.length = N * 2 := hxo.1
          have HC := hid hcur
          have q0 : (0 : Int) ≤ (q : Int) := by omega
          have q1 : (q : Int) < (N : Int) := by omega
          clear hxo hcur
          go_upto_region 6 with (first
            | (refine wp_putE rfl (.tmp 35) (.tmp 34) rfl B gx cx k q _ V ⟨.slice (some ⟨gx, 0, none⟩) N cx, N, xs⟩ (-(k : Int) - 1) 0 rfl rfl HV.out HX.out rfl hlq ?_; intro w5 hl5 hg5))
          have L5 := hid hl5
          have K5 := hid (HK.out.put HBw.out hg5 HC.out hBx (.inl rfl))
          clear hl5 hg5 hc
          go_wp2_with fail
          exact ⟨⟨q + 1, _, _, by omega, by go_num, by simp [hVk], hid (set_at HX.out), L5, hid (HS.out.put HX.out), hid (mark_put HQ.out (by show q * 2 + 1 < xs.length; omega)), K5⟩, by simp [intOf]; omega⟩
        · have hqN : q = N := by omega
          subst hqN
          have hge : ¬ ((q : Int) < (q : Int)) := by omega
          have HS2 := hid (HS.out.next HX.out HQ.out)
          clear HS HQ HX
          go_wp2_with fail
          exact ⟨⟨k + 1, V, by omega, by go_num, hVk, HV, HS2, HK⟩, by simp [intOf]; omega⟩
    · have hkn : k = n := by omega
      subst hkn
      have hge : ¬ ((k : Int) < (k : Int)) := by omega
      go_upto_region 10 with fail
      obtain ⟨w5, hw5⟩ : ∃ y, y = wr := ⟨_, rfl⟩
      subst hw5
      have D0 := hid (Duo.start HV.out)
      clear HV hge hlt hk
      obtain ⟨n, hnn⟩ : ∃ n, n = k := ⟨_, rfl⟩
      rw [← hnn] at hVk hn D0 HS
      rw [← hnn]
      clear hnn
      go_loopw [5, 6] (fun m i wq => ∃ (k : Nat) (M : List Lst) (mv : Value), mv = m ∧ k ≤ n ∧ i = .int .i64 k ∧ M.length = k ∧ Hid (Duo B 30 48 2 (.slice ao n cl) mv V M wq) ∧ Hid (GM 2 V M) ∧ Hid (Kps 48 30 B w wq)) (fun _ i _ => n - (intOf i).toNat)
      case atStart => exact ⟨0, [], _, rfl, by omega, rfl, rfl, D0, hid (GM.nil _ _), HK⟩
      case round =>
        clear D0 HK
        obtain ⟨k, M, mv, rfl, hk, rfl, hMk, HD, HGM, HK⟩ := hrel
        by_cases hlt : k < n
        · obtain ⟨gl, cl', hgl⟩ := HD.out.l.form (by omega)
          injection hgl with e1 e2 e3
          subst e1 e3
          clear e2
          obtain ⟨x, hx⟩ : ∃ x, V[k]? = some x := ⟨_, List.getElem?_eq_getElem (by omega)⟩
          have hN : x.n ≤ 100000000 := (HS.out k x hx).1
          have G0 := hid (HS.out.gc hx hlt (HD.out.l.own k x hx).1)
          have C0 := hid (HD.out.cur hx)
          have hcx : wr.cell? ⟨gl, k, none⟩ = some x.v := HD.out.l.at hx
          obtain ⟨ax, cx, hxv, hxc, hxd⟩ := row_shape9 (HD.out.l.own k x hx)
          clear hxc hxd
          have HXV := hid hxv
          rw [hxv] at hcx
          have HX := hid (show V[M.length]? = some x by rw [hMk]; exact hx)
          have j0 : (0 : Int) ≤ (k : Int) := by omega
          have j1 : (k : Int) < (n : Int) := by omega
          clear hx hxv
          obtain ⟨N, hNn⟩ : ∃ N, N = x.n := ⟨_, rfl⟩
          rw [← hNn] at hcx hN
          have HNn := hid hNn
          clear hNn
          go_upto_region 14 with fail
          clear hcx
          obtain ⟨wo, hwo⟩ : ∃ y, y = wr := ⟨_, rfl⟩
          subst hwo
          go_loopw [7, 8] (fun a i wq => ∃ (r : Nat) (A : Lst), r ≤ 20 ∧ i = .int .i64 r ∧ a = A.v ∧ A.n = N + r ∧ Hid (Duo B 30 48 2 (.slice (some ⟨gl, 0, none⟩) n cl) mv V M wq) ∧ Hid (Cur B 48 2 V M x A wq) ∧ Hid (GC 2 N k A) ∧ Hid (Kps 48 30 B w wq)) (fun _ i _ => 20 - (intOf i).toNat)
          case atStart => exact ⟨0, x, by omega, rfl, by rw [HXV.out, HNn.out], by rw [HNn.out]; rfl, HD, C0, by rw [HNn.out]; exact G0, HK⟩
          case round =>
            clear HD C0 G0 HK
            obtain ⟨r, A, hr, rfl, rfl, hAn, HD, C0, G0, HK⟩ := hrel
            by_cases hlr : r < 20
            · have q0 : (0 : Int) ≤ (r : Int) := by omega
              have q1 : (r : Int) < 20 := by omega
              have HAn := hid hAn
              clear hAn
              go_upto_region 15 with (first
                | (at_builtin; go_must (refine wp_growE rfl _ _ rfl B wr.heap.size 1 _ _ V M x A ((k : Int) + 1) 0 rfl rfl (HD.out.below (below_alloc _ _)) (heap_alloc_new _ _) HX.out (C0.out.below (below_alloc _ _)) (by have := HAn.out; omega) (by have := HK.out.low.size; have := HBw.out; simp; omega) ?_; intro g7 c7 w7 hd7 hc7 hg7)))
              have D7 := hid hd7
              have C7 := hid hc7
              have K7 := hid ((HK.out.alloc HBw.out (.cells #[.int .i64 ((k : Int) + 1), .int .i64 0] 48)).grow hg7 (.inl rfl))
              clear hd7 hc7 hg7 HD C0 HK
              go_wp2_with fail
              exact ⟨⟨r + 1, _, by omega, by go_num, rfl, by show A.n + 1 = _; rw [HAn.out]; omega, D7, C7, hid (G0.out.grow2 (by rw [HAn.out]; omega) _), K7⟩, by simp [intOf]; omega⟩
            · have hr20 : r = 20 := by omega
              subst hr20
              have hge : ¬ (((20 : Nat) : Int) < 20) := by decide
              have HAn := hid hAn
              clear hAn
              obtain ⟨aA, cA, hAv, ha1, ha2⟩ := row_shape9 C0.out.own
              have HAv := hid hAv
              rw [hAv]
              clear ha1 ha2 hAv
              go_upto_region 11 with (first
                | (at_builtin; go_must (refine wp_pushJ rfl _ _ 37 30 rfl Try.underlying37 infoLs B 48 2 wr.heap.size 1 _ _ V M x A (by decide) rfl rfl (HD.out.below (below_alloc _ _)) (by rw [HAv.out]; go_simp) HX.out (C0.out.below (below_alloc _ _)) (by omega) (by have := HK.out.low.size; have := HBw.out; simp; omega) ?_; intro m7 w7 hd7 hg7)))
              have D7 := hid hd7
              have K7 := hid ((HK.out.alloc HBw.out (.cells #[.slice aA A.n cA] 30)).grow hg7 (.inr rfl))
              clear hd7 hg7 HD C0 HK
              have HX' := HX.out
              rw [hMk] at HX'
              have M8 := hid (HGM.out.more hMk HX' (by rw [HAn.out, HNn.out]) (by rw [← HNn.out]; exact G0.out))
              clear HX'
              go_wp2_with fail
              exact ⟨⟨k + 1, _, _, rfl, by omega, by go_num, by simp [hMk], D7, M8, K7⟩, by simp [intOf]; omega⟩
        · have hkn : k = n := by omega
          have hge : ¬ ((k : Int) < (n : Int)) := by omega
          go_upto_region 19 with fail
          clear hge hlt hk
          rw [hkn] at hMk
          clear hkn
          obtain ⟨am, cm, hmv, hmc, hmd⟩ := row_shape9 HD.out.r.row
          rw [hMk] at hmv
          clear hmc hmd
          subst hmv
          obtain ⟨w6, hw6⟩ : ∃ y, y = wr := ⟨_, rfl⟩
          subst hw6
          go_loopw [9] (fun i wq => ∃ (k : Nat), k ≤ n ∧ i = .int .i64 k ∧ wq = w6) (fun i _ => n - (intOf i).toNat)
          case atStart => exact ⟨0, by omega, rfl, rfl⟩
          case round =>
            obtain ⟨k, hk, rfl, hwq⟩ := hrel
            subst hwq
            by_cases hlt : k < n
            · obtain ⟨gl, cl', hgl⟩ := HD.out.l.form (by omega)
              injection hgl with e1 e2 e3
              subst e1 e3
              clear e2
              obtain ⟨gm, cm', hgm⟩ := HD.out.r.form (by omega)
              injection hgm with e1 e2 e3
              subst e1 e3
              clear e2
              obtain ⟨ax, cx, N, gA, cA, NA, hN, hNA, hcx, hcA, t1, t2, t3⟩ := HD.out.reads HGM.out (fun x hx => ⟨(HS.out k x hx).1, HS.out.gc hx hlt (HD.out.l.own k x hx).1⟩) hVk hMk hlt
              have T1 := hid t1
              have T2 := hid t2
              have T3 := hid t3
              have HNA := hid hNA
              clear t1 t2 t3 hNA
              have j0 : (0 : Int) ≤ (k : Int) := by omega
              have j1 : (k : Int) < (n : Int) := by omega
              have hNAb : NA ≤ 100000020 := by have := HNA.out; omega
              go_upto_region 22 with fail
              obtain ⟨w7, hw7⟩ : ∃ y, y = wr := ⟨_, rfl⟩
              subst hw7
              go_loopw [10] (fun i wq => ∃ (q : Nat), q ≤ NA ∧ i = .int .i64 q ∧ wq = w7) (fun i _ => NA - (intOf i).toNat)
              case atStart => exact ⟨0, by omega, rfl, rfl⟩
              case round =>
                obtain ⟨q, hq, rfl, hwq⟩ := hrel
                subst hwq
                by_cases hlq : q < NA
                · have q0 : (0 : Int) ≤ (q : Int) := by omega
                  have q1 : (q : Int) < (NA : Int) := by omega
                  by_cases hqn : q < N
                  · have q2 : (q : Int) < (N : Int) := by omega
                    have hc := T1.out q hqn
                    obtain ⟨gx, hgx, hc2⟩ := T3.out q hqn
                    subst hgx
                    skip
                    go_wp2_with fail
                    exact ⟨⟨q + 1, by omega, by go_num, by first | rfl | trivial⟩, by simp [intOf]; omega⟩
                  · have q2 : ¬ ((q : Int) < (N : Int)) := by omega
                    have q3 : (N : Int) ≤ (q : Int) := by omega
                    have hc := T2.out q (by omega) hlq
                    skip
                    go_wp2_with fail
                    exact ⟨⟨q + 1, by omega, by go_num, by first | rfl | trivial⟩, by simp [intOf]; omega⟩
                · have hqN : q = NA := by omega
                  subst hqN
                  have hge : ¬ ((q : Int) < (q : Int)) := by omega
                  go_wp2_with fail
                  exact ⟨⟨k + 1, by omega, by go_num, by first | rfl | trivial⟩, by simp [intOf]; omega⟩
            · have hkn : k = n := by omega
              have hge : ¬ ((k : Int) < (n : Int)) := by omega
              go_wp2_with fail
              go_ret
              exact ⟨rfl, HK.out⟩

end Go.Proofs.Ytfkommjpofpmbaa
