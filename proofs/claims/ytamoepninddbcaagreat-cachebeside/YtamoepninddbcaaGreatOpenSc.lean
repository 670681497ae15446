/-
  What is handed in: a script of steps, each with a list of numbers.
-/
import Derived.Test.YtamoepninddbcaaGreatMN
import Derived.Test.YtamoepninddbcaaGreatML
import Derived.Test.YtamoepninddbcaaGreatKQ
import Derived.ProofKit
import Derived.OpenShut
import Derived.ChangeOld
import Derived.Lib.SmallJoins
import Derived.SizedLaws
namespace Go.Proofs.YtamoepninddbcaaGreat
open Go.RowKit

theorem rput_ok {A : PA} {z : CSt} (ha : AL z) (ht : TB z) (hw : z.d.wr < 4611686018427380000) : RPutOK A z := by
  intro W ρ y s l a ca h hs hl hm hn
  cases hx : okN A.n y with
  | true => exact rput_l y s l a ca W h hx hs hl hm hn ha.1 ht hw
  | false =>
    have hr : refC A.n z (y :: l) = 40 := refC_bad (k := 0) (by simp) (by simpa using hx)
    have e : putC A.n z y s l = (z, 40) := by
      unfold putC
      rw [hr, if_neg (by decide)]
    rw [e]
    exact (rput_x y s l a ca W h hx).mono fun _ _ hh => ⟨hh.1, RPost.same h hh.2⟩
section
variable {w w0 : World} {A : PA} {σ0 : Nat → Option PRole} {z : CSt} {lo : Bool} {V M E : List Lst}
theorem PF.still (h : PF w0 w A σ0 z z lo V M E) (hq : BkEq V M) : Calls Tryz.prog 8 #[.pointer (some ⟨A.ok, 0, none⟩)] w fun e w' => e = .returned (.bool true) ∧ ∃ V' E', PF w0 w' A σ0 z z lo V' M E' := by
  obtain ⟨σ, ⟨ρ, ρ', lv, mv, ev, h0⟩, ho, hc⟩ := h
  refine (still_any h0.bk hq).mono ?_
  rintro e w' ⟨rfl, V', E', h1, h2, h3⟩
  exact ⟨rfl, V', E', h0.bookC ho hc h1 (fun k hk => .inl (h2 k hk)) h3⟩
end
theorem pr5' {w w0 : World} {A : PA} {σ0 : Nat → Option PRole} {zc zr : CSt} {lo : Bool} {V M E : List Lst} (h : PF w0 w A σ0 zc zr lo V M E) : w.cell? ⟨A.pp, 5, none⟩ = some (.pointer (some ⟨A.ok, 0, none⟩)) := pr5 h.me
/-- What is known between two steps. -/
structure Bet (ws w : World) (A : PA) (z : CSt) (V M E : List Lst) (i : Nat) : Prop where
  pf : PF ws w A N0 z z false V M E
  al : AL z
  bq : BkEq V M
  tc : tc z ≤ i
  wr : z.d.wr ≤ 100 + 5000 * (i : Int)
theorem Bet.pre {ws w : World} {A : PA} {z : CSt} {V M E : List Lst} {i : Nat} {x : SV} {a : Option Addr} (h : Bet ws w A z V M E i) (hi : i ≤ 2513169434916) (hx : x.OK) (ha : AAt w a x.af) : DPre ws w A N0 z V M E x a :=
  ⟨h.pf, hx, ha, h.al, Nat.le_trans h.tc (by omega), by have := h.wr; omega, h.bq⟩
set_option maxRecDepth 100000 in
set_option maxHeartbeats 20000000 in
theorem plays_walk (x0 : Int) (hx0 : I64 x0) (l : List SV) (ad : Option Addr) (cap : Nat) (ws : World) (hs : ScAt ws ad l) (hl : l.length ≤ 2513169434916) (hok : ∀ j, j < l.length → (l.getD j SV.z).OK) :
    Calls Tryz.prog 3 #[.int .i64 x0, .slice ad l.length cap] ws fun e w' => e = .returned (.bool true) ∧ Chg ws w' No := by
  have HB := begun_any x0 hx0 ws
  have HKN := hid (fun w => known_any w)
  have HS := hid hs
  have HOKs := hid hok
  obtain ⟨m, hm⟩ : ∃ m, m = l.length := ⟨_, rfl⟩
  have HM := hid hm
  rw [← hm] at hl
  rw [← hm]
  clear hs hok hm hx0
  go_enter Tryz.func3, Tryz.ntmps3
  go_wp2_with (first
    | (go_at_call 5; go_must (refine HB.mono ?_; rintro e w1 ⟨A, z0, rfl, hp1, ha1, ht1, hw1⟩; have HB1 : Hid (Bet ws w1 A z0 [] [] [] 0) := hid ⟨hp1, ha1, fun j x y e => (by cases e), Nat.le_of_eq ht1, by simpa using hw1⟩; have HK1 := HKN.out w1; clear HB hp1 ha1 ht1 hw1))
    | (go_at_call 6; go_must (refine HK1.mono ?_; rintro e w2 ⟨rfl, hc2⟩; have HB2 : Hid (Bet ws w2 A z0 [] [] [] 0) := hid ⟨HB1.out.pf.call hc2, HB1.out.al, HB1.out.bq, HB1.out.tc, HB1.out.wr⟩; clear HK1 hc2))
    | fail)
  go_loopw [6] (fun x6 wr => ∃ (i : Nat) (z : CSt) (V M E : List Lst), x6 = .int .i64 (i : Int) ∧ i ≤ m ∧ Hid (Bet ws wr A z V M E i)) (fun x6 _ => m - (intOf x6).toNat)
  case atStart => exact ⟨0, z0, [], [], [], rfl, Nat.zero_le _, HB2⟩
  case round =>
    obtain ⟨i, z, V, M, E, rfl, him, HA⟩ := hrel
    clear HB1 HB2
    have i0 : (0 : Int) ≤ (i : Int) := by omega
    by_cases hlt : i < m
    · have i1 : (i : Int) < (m : Int) := by omega
      have hil : i < l.length := by rw [← HM.out]; exact hlt
      obtain ⟨b, o, a, ca, hab, _, _, hAt, hrg⟩ := sc_at (HS.out.call HA.out.pf.no) hil
      have hpre := HA.out.pre (by omega) (HOKs.out i hil) hAt
      have HDo := does_any (l.getD i SV.z) a ca hpre (rput_ok HA.out.al hpre.tb hpre.wr)
      subst hab
      generalize l.getD i SV.z = x at *
      clear hpre hAt hil
      go_upto_region 9 with (first
        | (refine wpList_load_mid rfl 29 _ rfl b (o + i * 5) rfl (x.cells a ca) _ hrg Tryz.underlying29 rfl (by rw [szStep]; rfl) ?_)
        | (go_at_call 7; go_must (refine HDo.mono ?_; rintro e w3 ⟨rfl, z3, lo3, V3, M3, E3, hP3, hq3, hal3, hlo3, htc3, hwr3⟩; have HP3 := hid hP3; have HQ3 := hid hq3; have HL3 := hid hal3; have HO3 := hid hlo3; have HT3 : Hid (tc z3 ≤ i + 1) := hid (by have := HA.out.tc; omega); have HW3 : Hid (z3.d.wr ≤ 100 + 5000 * ((i : Int) + 1)) := hid (by have := HA.out.wr; omega); clear HDo hP3 hq3 hal3 hlo3 htc3 hwr3))
        | fail)
      clear hrg
      have k4 : w3.cell? ⟨A.pp, 4, none⟩ = some (.bool lo3) := pr4 HP3.out.me
      cases lo3 with
      | true =>
        have hSt := HP3.out.still HQ3.out
        have k5 := pr5' HP3.out
        have hz3 := HO3.out rfl
        have HZ3 := hid hz3
        have i2 : (i : Int) + 1 ≤ (m : Int) := by omega
        clear hz3
        go_wp2_with (first
          | (go_at_call 8; go_must (refine hSt.mono ?_; rintro e w4 ⟨rfl, V4, E4, hP4⟩; have HP4 := hid hP4; have HDf := deaf_any l (some ⟨b, o, none⟩) cap (i + 1) hP4 HZ3.out (Nat.le_trans HT3.out (by omega)) (by have := HW3.out; omega) HS.out (by have := HM.out; omega) (by have := HM.out; omega) HOKs.out; rw [← HM.out, Int.natCast_add, show ((1 : Nat) : Int) = 1 from rfl] at HDf; clear hSt hP4))
          | (go_at_call 9; go_must (refine HDf.mono ?_; rintro e w5 ⟨rfl, hc5⟩; have HC5 := hid hc5; clear HDf hc5))
          | fail)
        go_ret
        exact ⟨rfl, HC5.out⟩
      | false =>
        have hal := HL3.out rfl
        have HAl := hid hal
        clear hal
        have HD : Calls Tryz.prog 10 #[.pointer (some ⟨A.pp, 0, none⟩)] w3 fun e w' => e = .returned (.bool true) ∧ Chg w3 w' No := (by
          obtain ⟨σ, hI, _, _⟩ := HP3.out
          exact disks_any hI)
        have HN3 : Hid (∀ wb, Chg w3 wb No → Bet ws wb A z3 V3 M3 E3 (i + 1)) := hid (fun wb hc => ⟨HP3.out.call hc, HAl.out, HQ3.out, HT3.out, by have := HW3.out; rw [Int.natCast_add]; exact this⟩)
        go_upto_region 11 with fail
        clear k4
        have h7n : i % 8 = 7 ∨ ¬ i % 8 = 7 := by omega
        rcases h7n with h7 | h7
        · have e1 : (i : Int).tmod 8 = 7 := by rw [Int.tmod_eq_emod_of_nonneg i0]; omega
          have e2 : ((i : Int).tmod 8 == 7) = true := by rw [e1]; rfl
          go_wp2_with (first
            | (go_at_call 10; go_must (refine HD.mono ?_; rintro e w4 ⟨rfl, hc4⟩; have HN4 := hid (HN3.out w4 hc4); clear HD hc4))
            | fail)
          exact ⟨⟨i + 1, z3, V3, M3, E3, by go_num, by omega, HN4⟩, by simp [intOf]; omega⟩
        · obtain ⟨rr, hr⟩ : ∃ r, r = (i : Int).tmod 8 := ⟨_, rfl⟩
          have e0 : (i : Int).tmod 8 = rr := hr.symm
          rw [Int.tmod_eq_emod_of_nonneg i0] at hr
          have r0 : 0 ≤ rr := by omega
          have r8 : rr < 8 := by omega
          have e1 : (rr == 7) = false := by
            have : ¬ rr = 7 := by omega
            simpa using this
          clear hr h7
          go_wp2_with fail
          exact ⟨⟨i + 1, z3, V3, M3, E3, by go_num, by omega, hid (HN3.out w3 (Chg.refl _ _))⟩, by simp [intOf]; omega⟩
    · have i1 : ¬ (i : Int) < (m : Int) := by omega
      have htb : TB z := Nat.le_trans HA.out.tc (by omega)
      have HTl : Hid (TB (toldC z)) := hid (Nat.le_trans told_tc htb)
      have HAT : Hid (AL (toldC z)) := hid (told_al HA.out.al)
      have HWh := whole_any BkEq (fun _ _ _ _ f e => f e) HA.out.pf HA.out.al HA.out.bq htb
      clear htb hlt
      go_wp2_with (first
        | (go_at_call 11; go_must (first
            | (refine HWh.mono ?_; rintro e w3 ⟨rfl, V3, M3, E3, hP3, hq3⟩; have hSt := hP3.still hq3; have k5 := pr5' hP3; clear HWh hP3 hq3)
            | (refine HW2.mono ?_; rintro e w5 ⟨rfl, V5, M5, E5, hP5, _⟩; have HC5 := hid hP5.no; clear HW2 hP5)))
        | (go_at_call 8; go_must (refine hSt.mono ?_; rintro e w4 ⟨rfl, V4, E4, hP4⟩; have HW2 := whole_any (fun _ _ => True) (fun _ _ _ _ _ _ => trivial) hP4 HAT.out trivial HTl.out; clear hSt hP4))
        | fail)
      go_ret
      exact ⟨rfl, HC5.out⟩
end Go.Proofs.YtamoepninddbcaaGreat

namespace Go.Proofs.YtamoepninddbcaaGreat
open Go.ChangeShapes Go.WideShapes Go.ChangeAt Go.RowKit Go.Joins

namespace O
theorem list_of {α : Type} (d : α) (P : Nat → α → Prop) : ∀ n : Nat, (∀ i, i < n → ∃ x, P i x) → ∃ l : List α, l.length = n ∧ ∀ i, i < n → P i (l.getD i d)
  | 0, _ => ⟨[], rfl, fun i hi => absurd hi (Nat.not_lt_zero i)⟩
  | n + 1, h => by
    obtain ⟨l, hl, hp⟩ := list_of d P n (fun i hi => h i (by omega))
    obtain ⟨x, hx⟩ := h n (by omega)
    refine ⟨l ++ [x], by simp [hl], fun i hi => ?_⟩
    by_cases c : i < n
    · rw [List.getD_eq_getElem?_getD, List.getElem?_append_left (by omega), ← List.getD_eq_getElem?_getD]
      exact hp i c
    · have e : i = n := by omega
      subst e
      rw [List.getD_eq_getElem?_getD, List.getElem?_append_right (by omega), hl, Nat.sub_self]
      exact hx
theorem add_add (a : Addr) (x j : Nat) : (a.add x).add j = a.add (x + j) := by
  unfold Addr.add
  by_cases h1 : x = 0
  · by_cases h2 : j = 0
    · simp [h1, h2]
    · simp [h1, h2]
  · by_cases h2 : j = 0
    · simp [h1, h2]
    · simp [h1, h2, Nat.add_assoc]
end O
theorem weightsAll_memS {H : Type} {P : Program} {e : TypeId} : ∀ {l : List (DataW H)} {d : DataW H}, d ∈ l → ∀ n ∈ d.weights P e, n ∈ DataW.weightsAll P e l
  | [], _, h, _, _ => by cases h
  | x :: l, d, h, n, hn => by
    unfold DataW.weightsAll
    rcases List.mem_cons.1 h with rfl | h
    · exact List.mem_append_left _ hn
    · exact List.mem_append_right _ (weightsAll_memS h n hn)
theorem after_of {W : World} {x : Addr} {l c : Nat} {zs : List Int} (hl : l ≤ c) (hz : zs.length = c)
    (hcell : ∀ i, i < zs.length → W.cell? (x.add i) = some (.int .i64 (zs.getD i 0))) : AAt W (some x) (zs.take l) := by
  by_cases h0 : l = 0
  · subst h0
    exact .inl (by simp)
  · obtain ⟨b, off, spot⟩ := x
    have hc := hcell 0 (by omega)
    have hspot : spot = none := by simpa [Addr.add] using World.cell?_spot hc
    subst hspot
    have hlt : b < W.heap.size := by
      rw [D.addr_add] at hc
      exact lt_cell hc
    refine .inr ⟨b, off, rfl, hlt, fun j hj => ?_⟩
    rw [List.length_take] at hj
    have h1 := hcell j (by omega)
    rw [D.addr_add] at h1
    rw [h1]
    simp [show j < l by omega]
set_option maxRecDepth 100000
theorem after_of_trod {H : Type} {enc : TypeId × Value → H} {W : World} {fuel : Nat} {cs : List Value} {x : DataW H × List MemPlace} (h : DataW.trod enc Tryz.prog W 0 (fun _ => true) true fuel 27 cs = some x) (hw : ∀ n ∈ x.1.weights Tryz.prog 27, n ≤ reachBytes) :
    ∃ (ad : Option Addr) (cap : Nat) (zs : List Int), cs = [.slice ad zs.length cap] ∧ AAt W ad zs ∧ zs.length ≤ 17592186043904 ∧ ∀ k, k < zs.length → I64 (zs.getD k 0) := by
  rcases open_ints Tryz.underlying27 Tryz.underlying3 (by kernel_rfl) h with ⟨e5, _⟩ | ⟨ad, l, cp, zs, e5, _, hll, hmm, hz, hy, hcell, hwz⟩
  · exact ⟨none, 0, [], e5, .inl rfl, by simp, fun k hk => absurd hk (by simp)⟩
  · have hz' : zs.length = cp := by simpa using hz
    have el : (zs.take l).length = l := by rw [List.length_take]; omega
    have hwt : zs.length * 8 ≤ reachBytes := by
      have hb : Tryz.prog.bytesOf 3 = 8 := by kernel_rfl
      have h2 : x.1 = .slice (lits .i64 (zs.take l)) (lits .i64 (zs.drop l)) := congrArg Prod.fst hy
      have h3 : ((lits (H := H) .i64 (zs.take l)).length + (lits (H := H) .i64 (zs.drop l)).length) * Tryz.prog.bytesOf 3 ∈ x.1.weights Tryz.prog 27 := by
        rw [h2]
        simp [DataW.weights, Tryz.underlying27]
      have h4 := hw _ h3
      rw [hb] at h4
      simp [lits] at h4
      omega
    refine ⟨some ad, cp, zs.take l, by rw [el]; exact e5, after_of hll hz' hcell, by unfold reachBytes at hwt; omega, fun k hk => ?_⟩
    exact wfI (hwz _ (List.mem_of_mem_take (getD_mem hk)))
theorem sv_of_trod {H : Type} {enc : TypeId × Value → H} {W : World} {fuel : Nat} {cs : List Value} {x : DataW H × List MemPlace} (h : DataW.trod enc Tryz.prog W 0 (fun _ => true) true fuel 29 cs = some x) (hw : ∀ n ∈ x.1.weights Tryz.prog 29, n ≤ reachBytes) :
    ∃ (o : SV) (ad : Option Addr) (cap : Nat), cs = o.cells ad cap ∧ o.OK ∧ AAt W ad o.af := by
  obtain ⟨xs, m, _, hx1, hl, hlen, hx⟩ := DataW.trod_struct Tryz.underlying29 h
  have hC : Tryz.prog.cellsOf 29 = 5 := by kernel_rfl
  rw [hC] at hl
  match xs, hlen, hx1, hx with
  | [y0, y1, y2, y3, y4], _, hx1, hx =>
    have k0 : Tryz.prog.cellsOf 3 = 1 := by kernel_rfl
    have k4 : Tryz.prog.cellsOf 27 = 1 := by kernel_rfl
    have q0 : DataW.trod enc Tryz.prog W 0 (fun _ => true) true m 3 ((cs.drop 0).take (Tryz.prog.cellsOf 3)) = some y0 := hx 0 _ rfl
    have q1 : DataW.trod enc Tryz.prog W 0 (fun _ => true) true m 3 ((cs.drop 1).take (Tryz.prog.cellsOf 3)) = some y1 := hx 1 _ rfl
    have q2 : DataW.trod enc Tryz.prog W 0 (fun _ => true) true m 3 ((cs.drop 2).take (Tryz.prog.cellsOf 3)) = some y2 := hx 2 _ rfl
    have q3 : DataW.trod enc Tryz.prog W 0 (fun _ => true) true m 3 ((cs.drop 3).take (Tryz.prog.cellsOf 3)) = some y3 := hx 3 _ rfl
    have q4 : DataW.trod enc Tryz.prog W 0 (fun _ => true) true m 27 ((cs.drop 4).take (Tryz.prog.cellsOf 27)) = some y4 := hx 4 _ rfl
    rw [k0] at q0 q1 q2 q3
    rw [k4] at q4
    have hwe : ∀ n ∈ y4.1.weights Tryz.prog 27, n ≤ reachBytes := fun n hn => hw n (by
      rw [hx1]
      simp only [DataW.weights, Tryz.underlying29, List.map_cons, List.map_nil, DataW.weightsEach, List.mem_append]
      exact .inr (.inr (.inr (.inr (.inl hn)))))
    obtain ⟨n0, e0, _, w0⟩ := DataW.trod_int Tryz.underlying3 q0
    obtain ⟨n1, e1, _, w1⟩ := DataW.trod_int Tryz.underlying3 q1
    obtain ⟨n2, e2, _, w2⟩ := DataW.trod_int Tryz.underlying3 q2
    obtain ⟨n3, e3, _, w3⟩ := DataW.trod_int Tryz.underlying3 q3
    obtain ⟨ad, cap, zs, e4, hby, hle, hIs⟩ := after_of_trod q4 hwe
    refine ⟨⟨n0, n1, n2, n3, zs⟩, ad, cap, ?_, ⟨wfI w0, wfI w1, wfI w2, hIs, hle⟩, hby⟩
    match cs, hl with
    | [c0, c1, c2, c3, c4], _ =>
      simp at e0 e1 e2 e3 e4
      rw [e0, e1, e2, e3, e4]
      rfl
theorem sc_of_trod {H : Type} {enc : TypeId × Value → H} {W : World} {fuel : Nat} {cs : List Value} {x : DataW H × List MemPlace} (h : DataW.trod enc Tryz.prog W 0 (fun _ => true) true fuel 22 cs = some x) (hw : ∀ n ∈ x.1.weights Tryz.prog 22, n ≤ reachBytes) :
    ∃ (a : Option Addr) (cap : Nat) (ws : List SV), cs = [.slice a ws.length cap] ∧ ws.length ≤ 2513169434916 ∧ ScAt W a ws ∧ ∀ j, j < ws.length → (ws.getD j SV.z).OK := by
  have hC : Tryz.prog.cellsOf 29 = 5 := by kernel_rfl
  rcases DataW.trod_slice Tryz.underlying22 h with ⟨hcs, _⟩ | ⟨a, l, c, elems, rest, m, _, hcs, hx, hb, hl, hm, hlen, hel, _, _⟩
  · exact ⟨none, 0, [], hcs, by decide, .inl rfl, fun j hj => absurd hj (by simp)⟩
  · rw [hC] at hel
    have hwa : ∀ i (hi : i < elems.length), ∀ n ∈ (elems[i]).1.weights Tryz.prog 29, n ≤ reachBytes := fun i hi n hn => hw n (by
      rw [hx]
      simp only [DataW.weights, Tryz.underlying22, List.mem_cons, List.mem_append]
      exact .inr (.inl (weightsAll_memS (List.mem_map_of_mem (List.getElem_mem hi)) n hn)))
    have hcnt : elems.length * 56 ≤ reachBytes := by
      have hb : Tryz.prog.bytesOf 29 = 56 := by kernel_rfl
      have h3 : ((elems.map (·.1)).length + (rest.map (·.1)).length) * Tryz.prog.bytesOf 29 ∈ x.1.weights Tryz.prog 22 := by
        rw [hx]
        simp [DataW.weights, Tryz.underlying22]
      have h4 := hw _ h3
      rw [hb] at h4
      simp at h4
      omega
    have key : ∀ i, i < l → ∃ z : SV, z.OK ∧ ∃ ad cap, (∀ j v, (z.cells ad cap)[j]? = some v → W.cell? (a.add (i * 5 + j)) = some v) ∧ AAt W ad z.af := by
      intro i hi
      have h1 := hel i hi
      have hil : i < elems.length := by omega
      rw [List.getElem?_eq_getElem hil, Option.bind_eq_some_iff] at h1
      obtain ⟨cs, hcs, ht⟩ := h1
      obtain ⟨z, ad, cap, hz, hn, hby⟩ := sv_of_trod ht (hwa i hil)
      obtain ⟨_, hcl, hcc⟩ := World.cells?_some hcs
      refine ⟨z, hn, ad, cap, fun j v hj => ?_, hby⟩
      have hj5 : j < 5 := by
        rcases Nat.lt_or_ge j 5 with k | k
        · exact k
        · rw [List.getElem?_eq_none (by simpa [SV.cells] using k)] at hj; cases hj
      have h2 := hcc j (by omega)
      rw [O.add_add] at h2
      rw [h2, hz]
      exact hj
    obtain ⟨ws, hws, hP⟩ := O.list_of SV.z _ l key
    refine ⟨some a, c, ws, by rw [hws]; exact hcs, by unfold reachBytes at hcnt; omega, ?_, fun j hj => (hP j (by omega)).1⟩
    by_cases h0 : l = 0
    · exact .inl (List.eq_nil_of_length_eq_zero (by omega))
    obtain ⟨b, o, spot⟩ := a
    have hspot : spot = none := by
      obtain ⟨_, ad, cap, hc, _⟩ := hP 0 (by omega)
      have := hc 0 _ rfl
      simpa [Addr.add] using World.cell?_spot this
    subst hspot
    have hblt : b < W.heap.size := by
      obtain ⟨_, ad, cap, hc, _⟩ := hP 0 (by omega)
      have hc := hc 0 _ rfl
      rw [D.addr_add] at hc
      exact lt_cell hc
    refine .inr ⟨b, o, rfl, hblt, fun j hj => ?_⟩
    obtain ⟨_, ad, cap, hc, hby⟩ := hP j (by omega)
    refine ⟨ad, cap, fun i v hi => ?_, hby⟩
    have := hc i v hi
    rw [D.addr_add, ← Nat.add_assoc] at this
    exact this
theorem open_sc {H : Type} {enc : TypeId × Value → H} {W : World} {r : Go.Reach} {b0 : Nat} {v : Value} {d : DataW H} {p : List MemPlace}
    (hv : Value.okWide Tryz.prog W r b0 22 v) (h : DataW.Trod enc Tryz.prog W 0 (fun _ => true) true 22 v d p) (hw : ∀ n ∈ d.weights Tryz.prog 22, n ≤ reachBytes) :
    ∃ (ws : List SV) (a : Option Addr) (cap : Nat), v = .slice a ws.length cap ∧ ws.length ≤ 2513169434916 ∧ ScAt W a ws ∧ ∀ j, j < ws.length → (ws.getD j SV.z).OK := by
  obtain ⟨a0, len0, cap0, rfl⟩ := okWide_slice Tryz.underlying22 hv
  obtain ⟨fuel, hf⟩ := h
  obtain ⟨a, cap, ws, hcs, hl, hi, h6⟩ := sc_of_trod hf hw
  simp [Value.cells] at hcs
  obtain ⟨rfl, rfl, rfl⟩ := hcs
  exact ⟨ws, _, _, rfl, hl, hi, h6⟩
end Go.Proofs.YtamoepninddbcaaGreat
