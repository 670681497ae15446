/-
  What is handed in: lists of deeds and of operations.
-/
import Derived.Test.YthpngfmckkfipaaGreatDoorVT
import Derived.ProofKit
import Derived.OpenShut
import Derived.ChangeOld
import Derived.Lib.SmallJoins
import Derived.SizedLaws
import Derived.ChangeMaps5
import Derived.Carry
import Derived.LaidMore
import Derived.Stop.Joined
namespace Go.Proofs.YthpngfmckkfipaaGreatDoor
open Go.RowKit

/-- An operation that is handed in is done: the answer, what is left. -/
theorem op_does {w W : World} {q : PC} {s : PSt} {x : Od} (h1 : IsPl W q s) (h2 : Inv s) (h3 : ∀ j, PBlk q j → w.heap.size ≤ j) (h4 : Chg w W No) (hx : x.Ok) (hb : BytesAt w x.da x.data) (hu : UB w) (hm : ML w) :
    Calls Tryz.prog 10 #[.pointer (some ⟨q.p, 0, none⟩), .agg x.A] W fun e w' => ∃ A, e = .returned (.agg A) ∧ AnsIs w' W.heap.size A (doS s ⟨x.kind, x.path, x.tto, x.off, x.len, x.data, x.made, x.pick⟩).2 ∧ Left q (doS s ⟨x.kind, x.path, x.tto, x.off, x.len, x.data, x.made, x.pick⟩).1 W w' := by
  have hd := hb.dat h3 h4 x.data.length x.dc (Nat.le_refl _) hx.len
  rw [List.take_length] at hd
  exact do_any (⟨x.kind, x.path, x.tto, x.off, x.len, x.data, x.made, x.pick⟩ : OpS) x.da x.dc W h1 h2 (hu.keep h4 (fun e => e)) (hm.call h4) hd
theorem ans_err {w : World} {B : Nat} {A : Array Value} {an : Ans} (h : AnsIs w B A an) (hc : codeA an ≠ 0) : A = ansE (codeA an) := by
  cases an with
  | err e => exact h
  | stat i x => exact absurd rfl hc
  | data ds => exact absurd rfl hc
  | list es => exact absurd rfl hc
theorem newBlk {w : World} {q : PC} (h1 : w.heap.size ≤ q.p) (h2 : w.heap.size ≤ q.mb) (h3 : ∀ i c, q.nc i = some c → ∀ k, BlkN c k → w.heap.size ≤ k) : ∀ j, PBlk q j → w.heap.size ≤ j := fun j hj => by
  rcases hj with e | e | ⟨i, c, e1, e2⟩
  · rw [e]; exact h1
  · rw [e]; exact h2
  · exact h3 i c e1 j e2
theorem IsPl.apart {w w' : World} {q : PC} {s : PSt} {ks : Nat → Prop} (h : IsPl w q s) (hc : Chg w w' ks) (hn : ∀ j, PBlk q j → ¬ ks j) : IsPl w' q s :=
  ⟨hc.keep h.me (hn _ (.inl rfl)), h.mp.keep hc (hn _ (.inr (.inl rfl))), fun i c e => by obtain ⟨x, h1, h2⟩ := h.nd i c e; exact ⟨x, h1, h2.keep hc (fun k hk => hn k (PBlk.node e hk))⟩, h.dom, h.rng, h.ap, h.mne, h.bs⟩
theorem part_zero (e : Int) (j : Nat) (v : Value) (hj : (#[.int .i64 0, .int .i64 0, .int .i64 0, .int .i64 0, .int .i64 0, .int .i64 0] : Array Value)[j]? = some v) : (ansE e)[1 + j]? = some v := by
  match j, hj with
  | 0, h => exact h
  | 1, h => exact h
  | 2, h => exact h
  | 3, h => exact h
  | 4, h => exact h
  | 5, h => exact h
  | n + 6, h => simp at h
section
variable {ops : Array Oper} {rest : List Oper} {o : Oper} {a : Act} {w : World} {Q : Exit → Act → World → Prop}
theorem load_partG (hw : Region.wanted o (yielded ops a.tmps) = true) (t : TypeId) (x : Operand) (ho : o.op = .load t x) (g off : Nat) (hx : a.eval x = .pointer (some ⟨g, off, none⟩)) (tb : TypeId) (c xs : Array Value) (d : TypeDesc) (hg : w.heap[g]? = some (.cells c tb (0, 0))) (hxs : ∀ (j : Nat) v, xs[j]? = some v → c[off + j]? = some v)
    (hu : Tryz.prog.underlying t = some d) (hd : d.isRow = true) (hi : (Tryz.prog.info? t).map (·.size) = some xs.size)
    (h : wpList Tryz.prog ops Q rest (a.put o.dst (.agg xs)) w) : wpList Tryz.prog ops Q (o :: rest) a w :=
  wpList_want hw fun _ hK => by
    have hp : (loadVar t ⟨g, off, none⟩).run Tryz.prog w = .ok (.agg xs) w := by
      have h := run_loadVar_mid (P := Tryz.prog) w g off t xs.toList d (fun j v hv => by rw [cell_of_row _ _ _ _ tb (0, 0) hg]; exact hxs j v (by simpa using hv)) hu hd (by simpa using hi)
      simpa using h
    unfold Oper.wp execOp
    simp only [ho, hx, Instr.loadAt, Instr.sureAddr, Sem.run_bind, Sem.run_pure, Result.andThen_ok, hp]
    exact hK _ _ h
end
set_option maxHeartbeats 8000000 in
set_option maxRecDepth 100000 in
theorem quiet_walk (n : Int) (L : List Dd) (M : List Od) (a b : Option Addr) (ca cb : Nat) (w : World) (hu : UB w) (hm : ML w) (hn : I64 n) (hL : DdAt w a L) (hM : OdAt w b M) (hLo : ∀ x ∈ L, x.Ok) (hMo : ∀ x ∈ M, x.Ok) (hl : L.length ≤ 1000000000000000) (hml : M.length ≤ 1000000000000000) :
    Calls Tryz.prog 4 #[.int .i64 n, .slice a L.length ca, .slice b M.length cb] w fun e w' => e = .returned (.bool true) ∧ Chg w w' No := by
  have hS := small_any n w hn
  have HKn : Hid (∀ W, Chg w W No → Calls Tryz.prog 7 #[] W fun e w' => e = .returned (.bool true) ∧ Chg W w' No) := hid (fun W hW => known_any W (hu.keep hW (fun e => e)) (hm.call hW))
  have HU := hid hu
  have HM := hid hm
  have HL := hid hL
  have HO := hid hM
  have HLo := hid hLo
  have HMo := hid hMo
  obtain ⟨nl, hnl⟩ : ∃ y, y = L.length := ⟨_, rfl⟩
  obtain ⟨nm, hnm⟩ : ∃ y, y = M.length := ⟨_, rfl⟩
  rw [← hnl] at hl ⊢
  rw [← hnm] at hml ⊢
  have HNl := hid hnl
  have HNm := hid hnm
  have i1 : (nl : Int) ≤ 1000000000000000 := by omega
  have i2 : (nm : Int) ≤ 1000000000000000 := by omega
  clear hu hm hn hL hM hLo hMo hnl hnm hl hml
  go_enter Tryz.func4, Tryz.ntmps4
  go_upto_region 2 with (go_at_call 6; go_must (refine hS.mono ?_; rintro e w1 ⟨q, rfl, hq1, hq2, hq3, hq4, hq5⟩; have HQ1 := hid (And.intro hq1 hq2); have HQ3 := hid (newBlk hq3 hq4 hq5); clear hq1 hq2 hq3 hq4 hq5))
  clear hS
  have hK := HKn.out w1 HQ1.out.2
  obtain ⟨p, hp⟩ : ∃ y, y = q.p := ⟨_, rfl⟩
  rw [← hp]
  have HP := hid hp
  clear hp
  go_upto_region 5 with (first
    | (go_at_call 7; go_must (refine hK.mono ?_; rintro e w2 ⟨rfl, hc2⟩; have HC2 := hid hc2; clear hc2))
    | fail)
  have H0 : Hid (Now w w2 p) := hid ⟨q, _, HP.out.symm, HQ1.out.1.call HC2.out, inv_new (sm_ok n), HQ3.out, HQ1.out.2.tr HC2.out⟩
  clear hK HQ1 HQ3 HP HC2 HKn
  go_loopw [10] (fun x10 wr => ∃ i : Nat, x10 = .int .i64 (i : Int) ∧ i ≤ nl ∧ Hid (Now w wr p)) (fun x10 _ => nl - (intOf x10).toNat)
  case atStart => exact ⟨0, rfl, Nat.zero_le _, H0⟩
  case round =>
    obtain ⟨i, rfl, hi, HN⟩ := hrel
    clear H0
    by_cases hlt : i < nl
    · have j0 : (0 : Int) ≤ (i : Int) := by omega
      have j1 : (i : Int) < (nl : Int) := by omega
      have hiL : i < L.length := by rw [← HNl.out]; exact hlt
      obtain ⟨bb, oo, hab, hld⟩ := DdAt.load HL.out hiL
      subst hab
      obtain ⟨q, s, e1, e2, e3, e4, e5⟩ := HN.out
      have hr := hld wr e5
      have hmem : L.getD i Dd.z ∈ L := by rw [List.getD_eq_getElem?_getD, List.getElem?_eq_getElem hiL]; exact List.getElem_mem hiL
      have hxo := HLo.out _ hmem
      have hby := HL.out.data i hiL
      obtain ⟨x, hx⟩ : ∃ y, y = L.getD i Dd.z := ⟨_, rfl⟩
      rw [← hx] at hr hxo hby
      have hOp := op_any x.kd x.a x.b x.off x.n x.da x.data.length x.dc wr hxo.i1 hxo.i2 hxo.i3 hxo.i4 hxo.i5 hxo.len hxo.cap hxo.nil
      have HX := hid (And.intro hxo hby)
      have hOp2 : Calls Tryz.prog 8 #[.agg x.A] wr fun e w' => ∃ A, e = .returned (.agg A) ∧ OpOf x.da x.data.length x.dc A ∧ Chg wr w' No := hOp
      obtain ⟨XA, hXA⟩ : ∃ y, y = x.A := ⟨_, rfl⟩
      rw [← hXA] at hr hOp2
      clear hld e1 e2 e3 e4 e5 hmem hxo hby hx hOp hiL hXA
      go_wp2_with (first
        | (refine load_of rfl 31 _ rfl ⟨bb, oo + i * 6, none⟩ rfl _ hr ?_)
        | (go_at_call 8; go_must (refine hOp2.mono ?_; rintro e w3 ⟨A, rfl, hA, hc3⟩; have HN3 : Hid (Now w w3 p) := hid (by obtain ⟨q, s, g1, g2, g3, g4, g5⟩ := HN.out; exact ⟨q, s, g1, g2.call hc3, g3, g4, g5.tr hc3⟩); have hDo := deed_does HN3.out HX.out.1 HX.out.2 hA HU.out HM.out; clear hA hc3))
        | (go_at_call 10; go_must (refine hDo.mono ?_; rintro e w4 ⟨B, rfl, hN4⟩; have HN4 := hid hN4; clear hN4))
        | fail)
      exact ⟨⟨i + 1, by go_num, by omega, HN4⟩, by simp [intOf]; omega⟩
    · have j1 : ¬ (i : Int) < (nl : Int) := by omega
      go_upto_region 9 with fail
      go_loopw [11] (fun x11 wr => ∃ k : Nat, x11 = .int .i64 (k : Int) ∧ k ≤ 20 ∧ Hid (Now w wr p)) (fun x11 _ => 20 - (intOf x11).toNat)
      case atStart => exact ⟨0, rfl, by omega, HN⟩
      case round =>
        obtain ⟨k, rfl, hk, HR⟩ := hrel
        clear HN
        have k0 : (0 : Int) ≤ (k : Int) := by omega
        have k9 : (k : Int) ≤ 20 := by omega
        by_cases hkm : k < nm
        · have k1 : (k : Int) < (nm : Int) := by omega
          by_cases hk20 : k < 20
          · have k2 : (k : Int) < 20 := by omega
            have hiM : k < M.length := by rw [← HNm.out]; exact hkm
            obtain ⟨bb, oo, hab, hkd, hld⟩ := OdAt.load HO.out hiM
            subst hab
            obtain ⟨q, s, e1, e2, e3, e4, e5⟩ := HR.out
            subst e1
            have hmem : M.getD k Od.z ∈ M := by rw [List.getD_eq_getElem?_getD, List.getElem?_eq_getElem hiM]; exact List.getElem_mem hiM
            have hxo := HMo.out _ hmem
            have hby := HO.out.data k hiM
            obtain ⟨x, hx⟩ : ∃ y, y = M.getD k Od.z := ⟨_, rfl⟩
            rw [← hx] at hkd hld hxo hby
            have hT1 := told_any wr e2 e3 (HU.out.keep e5 (fun e => e)) (HM.out.call e5)
            have HE2 := hid e2
            have HE3 := hid e3
            have HE4 := hid e4
            have HE5 := hid e5
            have HKd := hid hkd
            have HLd := hid hld
            have HX := hid (And.intro hxo hby)
            clear e2 e3 e4 e5 hkd hld hmem hxo hby hx hiM HR
            go_upto_region 12 with (go_at_call 12; go_must (refine hT1.mono ?_; rintro e w3 ⟨rfl, hc3⟩; have HC3 := hid hc3; clear hc3))
            have hCp := pcopy_any w3 (HE2.out.call HC3.out)
            clear hT1
            go_upto_region 13 with (go_at_call 13; go_must (refine hCp.mono ?_; rintro e w4 ⟨q2, rfl, hq2, hc4, hb2⟩; have HQ2 := hid hq2; have HC4 := hid hc4; have HB2 := hid hb2; clear hq2 hc4 hb2))
            clear hCp
            have HC : Hid (Chg w w4 No) := hid ((HE5.out.tr HC3.out).tr HC4.out)
            have hDo := op_does (w := w) ((HE2.out.call HC3.out).call HC4.out) HE3.out HE4.out HC.out HX.out.1 HX.out.2 HU.out HM.out
            have hr := HLd.out w4 HC.out
            obtain ⟨XA, hXA⟩ : ∃ y, y = x.A := ⟨_, rfl⟩
            rw [← hXA] at hr hDo
            obtain ⟨O, hO⟩ : ∃ y, y = (⟨x.kind, x.path, x.tto, x.off, x.len, x.data, x.made, x.pick⟩ : OpS) := ⟨_, rfl⟩
            rw [← hO] at hDo
            have HOk : Hid (O.kind = x.kind ∧ O.data = x.data) := hid (by rw [hO]; exact ⟨rfl, rfl⟩)
            clear hXA hO
            go_upto_region 16 with (first
              | (refine load_of rfl 29 _ rfl ⟨bb, oo + k * 8, none⟩ rfl _ hr ?_)
              | (go_at_call 10; go_must (refine hDo.mono ?_; rintro e w5 ⟨A, rfl, hA, hl5⟩; have HA := hid hA; have HA1 := hid hA.one; have HL5 := hid hl5; clear hA hl5))
              | (refine store_R rfl 41 _ _ rfl w5.heap.size A rfl rfl 41 _ (heap_alloc_new _ _) (by rw [szAn, HA1.out.1]) (by rw [HA1.out.1]; rfl) HA1.out.2 ?_; intro w6 hs6; have HS6 := hid hs6; clear hs6)
              | fail)
            clear hDo hr
            obtain ⟨g5, hg5⟩ : ∃ y, y = w5.heap.size := ⟨_, rfl⟩
            rw [← hg5] at HS6 ⊢
            have HC6 : Hid (Chg w5 w6 No) := hid ((Chg.alloc w5 _ No).trans (kt_new HS6.out) (fun _ _ e => e) (fun j hj e => by omega))
            have HQ6 : Hid (w6.heap[g5]? = some (.cells A 41 (0, 0))) := hid HS6.out.here
            obtain ⟨q', g1, g2, g3, g4⟩ := HL5.out.new HC.out HE4.out
            have HP' := hid g1
            have HI' := hid (g2.call HC6.out)
            have HB' := hid g3
            have HCw : Hid (Chg w w6 No) := hid (g4.tr HC6.out)
            have HIn : Hid (Inv (doS s O).1) := hid (Inv.doS HE3.out (by rw [HOk.out.2]; exact HX.out.1.by_))
            have HQ2' : Hid (IsPl w6 q2 s) := hid ((HQ2.out.apart HL5.out.2 (fun j hj e => by
              have h1 := HB2.out j hj
              have h2 := (HE2.out.call HC3.out).blkLt e
              omega)).call HC6.out)
            have qk := HKd.out w6 HCw.out
            have qc : w6.cell? ⟨g5, 0, none⟩ = some (.int .i64 (codeA (doS s O).2)) := by rw [cell_of_row _ _ _ _ _ _ HQ6.out]; exact HA.out.code.1
            have qL : w6.cell? ⟨g5, 9, none⟩ = some (.bool false) := by rw [cell_of_row _ _ _ _ _ _ HQ6.out]; exact HA.out.code.2
            have HNow : Hid (∀ W, Chg w6 W No → Now w W q.p) := hid (fun W hW => ⟨q', _, HP'.out, HI'.out.call hW, HIn.out, HB'.out, HCw.out.tr hW⟩)
            have HQuiet : Hid (codeA (doS s O).2 ≠ 0 ∨ 9 ≤ x.kind → (doS s O).1 = s) := hid (fun h => doS_quiet (by rw [HOk.out.1]; exact h))
            have HTc : Hid (∀ W, Chg w6 W No → Calls Tryz.prog 12 #[.pointer (some ⟨q2.p, 0, none⟩)] W fun e w' => e = .returned (.string (toldS s)) ∧ Chg W w' No) := hid (fun W hW => told_any W (HQ2'.out.call hW) HE3.out (HU.out.keep (HCw.out.tr hW) (fun e => e)) (HM.out.call (HCw.out.tr hW)))
            have HTp : Hid ((doS s O).1 = s → ∀ W, Chg w6 W No → Calls Tryz.prog 12 #[.pointer (some ⟨q.p, 0, none⟩)] W fun e w' => e = .returned (.string (toldS s)) ∧ Chg W w' No) := hid (fun h W hW => by
              have := told_any W (HI'.out.call hW) HIn.out (HU.out.keep (HCw.out.tr hW) (fun e => e)) (HM.out.call (HCw.out.tr hW))
              rw [h, HP'.out] at this
              exact this)
            have HErr : Hid (codeA (doS s O).2 ≠ 0 → A = ansE (codeA (doS s O).2)) := hid (fun h => ans_err HA.out h)
            obtain ⟨cd, hcd⟩ : ∃ y, y = codeA (doS s O).2 := ⟨_, rfl⟩
            rw [← hcd] at qc HQuiet HErr
            obtain ⟨TS, hTS⟩ : ∃ y, y = toldS s := ⟨_, rfl⟩
            rw [← hTS] at HTc HTp ⊢
            obtain ⟨kk, hkk⟩ : ∃ y, y = x.kind := ⟨_, rfl⟩
            rw [← hkk] at qk HQuiet
            clear g1 g2 g3 g4 hcd hTS hkk hg5 HE2 HE3 HE4 HE5 HKd HLd HX HC3 HC4 HC HQ2 HB2 HS6 HL5 HA1 HI' HB' HIn HQ2' HA HP' HOk
            have HCl : Hid (∀ W, Chg w6 W No → W.cell? ⟨g5, 0, none⟩ = some (.int .i64 cd) ∧ W.cell? ⟨g5, 9, none⟩ = some (.bool false)) := hid (fun W hW => by
              have h1 := hW.keep HQ6.out (fun e => e)
              rw [cell_of_row _ _ _ _ _ _ HQ6.out] at qc qL
              exact ⟨by rw [cell_of_row _ _ _ _ _ _ h1]; exact qc, by rw [cell_of_row _ _ _ _ _ _ h1]; exact qL⟩)
            clear qL
            by_cases hcd : cd = 0
            · subst hcd
              by_cases h9 : 9 ≤ kk
              · have hT := HTp.out (HQuiet.out (.inr h9)) w6 (Chg.refl _ _)
                clear HTp HQuiet HErr HQ6
                go_wp2_with (first
                  | (go_at_call 12; go_must (first | (refine (HTc.out w7 HC7.out).mono ?_; rintro e w8 ⟨rfl, hc8⟩; obtain ⟨z0, z9⟩ := HCl.out w8 (HC7.out.tr hc8); have HC8 := hid (HC7.out.tr hc8); clear hc8) | (refine hT.mono ?_; rintro e w7 ⟨rfl, hc7⟩; have HC7 := hid hc7; clear hc7)))
                  | fail)
                exact ⟨⟨k + 1, by go_num, by omega, hid (HNow.out w8 HC8.out)⟩, by simp [intOf]; omega⟩
              · clear HTp HQuiet HErr HQ6
                have hT := HTc.out w6 (Chg.refl _ _)
                go_wp2_with (first
                  | (go_at_call 12; go_must (refine hT.mono ?_; rintro e w7 ⟨rfl, hc7⟩; obtain ⟨z0, z9⟩ := HCl.out w7 hc7; have HC7 := hid hc7; clear hc7))
                  | fail)
                exact ⟨⟨k + 1, by go_num, by omega, hid (HNow.out w7 HC7.out)⟩, by simp [intOf]; omega⟩
            · have hT := HTp.out (HQuiet.out (.inl hcd)) w6 (Chg.refl _ _)
              have HQ7 : Hid (∀ W, Chg w6 W No → W.heap[g5]? = some (.cells (ansE cd) 41 (0, 0))) := hid (fun W hW => by rw [← HErr.out hcd]; exact hW.keep HQ6.out (fun e => e))
              have HC78 : Hid (∀ W, Chg w6 W No → W.cell? ⟨g5, 7, none⟩ = some (.slice none 0 0) ∧ W.cell? ⟨g5, 8, none⟩ = some (.slice none 0 0)) := hid (fun W hW => ⟨(cell_of_row _ _ _ _ _ _ (HQ7.out W hW)).trans rfl, (cell_of_row _ _ _ _ _ _ (HQ7.out W hW)).trans rfl⟩)
              have c1 : (cd == 0) = false := beq_eq_false_iff_ne.2 hcd
              have c2 : decide (cd = 0) = false := decide_eq_false hcd
              have c3 : (cd != 0) = true := bne_iff_ne.2 hcd
              clear HTp HQuiet HErr HQ6 hcd
              by_cases h9 : 9 ≤ kk
              all_goals
                go_wp2_with (first
                  | (go_at_call 12; go_must (first | (refine (HTc.out w7 HC7.out).mono ?_; rintro e w8 ⟨rfl, hc8⟩; obtain ⟨z0, z9⟩ := HCl.out w8 (HC7.out.tr hc8); obtain ⟨z7, z8⟩ := HC78.out w8 (HC7.out.tr hc8); have HQ8 := hid (HQ7.out w8 (HC7.out.tr hc8)); have HC8 := hid (HC7.out.tr hc8); clear hc8) | (refine hT.mono ?_; rintro e w7 ⟨rfl, hc7⟩; have HC7 := hid hc7; clear hc7)))
                  | (refine load_partG (by first | rfl | go_simp) 38 _ rfl g5 1 rfl 41 _ #[.int .i64 0, .int .i64 0, .int .i64 0, .int .i64 0, .int .i64 0, .int .i64 0] _ HQ8.out (part_zero cd) Tryz.underlying38 rfl (by rw [szSt]; rfl) ?_)
                  | (refine neq_R (by first | rfl | go_simp) 38 _ _ rfl _ _ true rfl rfl (fun w => by kernel_rfl) (by kernel_rfl) ?_)
                  | fail)
                exact ⟨⟨k + 1, by go_num, by omega, hid (HNow.out w8 HC8.out)⟩, by simp [intOf]; omega⟩
          · have k2 : ¬ (k : Int) < 20 := by omega
            obtain ⟨q, s, e1, e2, e3, e4, e5⟩ := HR.out
            have HE5 := hid e5
            clear e1 e2 e3 e4 e5 HR
            go_wp2_with fail
            go_ret
            exact ⟨rfl, HE5.out⟩
        · have k1 : ¬ (k : Int) < (nm : Int) := by omega
          obtain ⟨q, s, e1, e2, e3, e4, e5⟩ := HR.out
          have HE5 := hid e5
          clear e1 e2 e3 e4 e5 HR
          go_wp2_with fail
          go_ret
          exact ⟨rfl, HE5.out⟩
end Go.Proofs.YthpngfmckkfipaaGreatDoor

namespace Go.Proofs.YthpngfmckkfipaaGreatDoor
open Go.ChangeShapes Go.WideShapes Go.ChangeAt Go.RowKit

set_option maxRecDepth 100000
theorem bounds_i64 {x : Int} (h : (Lit.int .i64 x).wf = true) : I64 x := by
  have h : IntKind.i64.min ≤ x ∧ x ≤ 9223372036854775807 := by simpa [Lit.wf] using h
  exact ⟨h.1, h.2⟩
theorem own : ownKnob Tryz.prog.godebug = none := by kernel_rfl
theorem laidOut : laidOutB Tryz.prog = true := by kernel_rfl
theorem ub_of_laid {W : World} (h : laidMetH Tryz.prog [("unicode/utf8.acceptRanges", Rows.laid_unicode_utf8_acceptRanges), ("breakwater/plain.usedBy", Rows.laid_breakwater_plain_usedBy), ("unicode/utf8.first", Rows.laid_unicode_utf8_first)] W) : UB W := by
  rw [MakeChecks.laidMetH_plain _ _ _ (by kernel_rfl)] at h
  obtain ⟨ps, ⟨_, _, _, _, _, _, _, _, _, _, ⟨g, t, cs, fuel, p, q, hg, ht, hv, hd, _, _⟩, _⟩, _, _⟩ := h
  obtain rfl := Option.some.inj ((show Tryz.prog.globalNamed "breakwater/plain.usedBy" = some 0 by kernel_rfl).symm.trans hg)
  obtain rfl := Option.some.inj ((show (Tryz.prog.globals[0]?).map (·.type) = some 82 by kernel_rfl).symm.trans ht)
  obtain ⟨xs, m, _, ex, _, hl, hel⟩ := DataW.trod_array Tryz.underlying82 hd
  have c5 : Tryz.prog.cellsOf 80 = 1 := by kernel_rfl
  have hc : ∀ k : Nat, k < 15 → W.cell? ⟨0, k, none⟩ = some (.int .i64 (usedL.getD k 0)) := fun r hr => by
    have hE := hel r hr
    rw [c5, Nat.mul_one, List.getElem?_eq_getElem (by omega)] at hE
    obtain ⟨z, e1, e2, _⟩ := DataW.trod_int Tryz.underlying80 hE
    have hlen : usedL.length = 15 := by kernel_rfl
    have e3 : (xs.map (·.1)) = usedL.map fun n => .lit (.int .i64 n) := (DataW.agg.inj (Prod.mk.inj ex).1).symm
    have e4 : (xs.map (·.1))[r]? = (usedL.map fun n => (DataW.lit (.int .i64 n) : DataW Unit))[r]? := by rw [e3]
    rw [List.getElem?_map, List.getElem?_map, List.getElem?_eq_getElem (by omega : r < xs.length), List.getElem?_eq_getElem (by omega : r < usedL.length), e2] at e4
    have hz : z = usedL.getD r 0 := by
      simp only [Option.map_some, Option.some.injEq, DataW.lit.injEq, Lit.int.injEq, true_and] at e4
      rw [e4, List.getD, List.getElem?_eq_getElem (by omega : r < usedL.length)]; rfl
    rw [World.var?_cell hg hv r, ← hz]
    have : cs.toList[r]? = some (.int .i64 z) := by
      have h0 : ((cs.toList.drop r).take 1)[0]? = some (.int .i64 z) := by rw [e1]; rfl
      simpa using h0
    simpa using this
  exact ⟨World.block_lt_of_cell? _ _ (hc 0 (by decide)), hc⟩
end Go.Proofs.YthpngfmckkfipaaGreatDoor

namespace Go.Proofs.YthpngfmckkfipaaGreatDoor
open Go.ChangeShapes Go.WideShapes Go.ChangeAt Go.RowKit Go.Joins

set_option maxRecDepth 100000
theorem bounds_u8 {x : Int} (h : (Lit.int .u8 x).wf = true) : 0 ≤ x ∧ x ≤ 255 := by
  have h : IntKind.u8.min ≤ x ∧ x ≤ IntKind.u8.max := by simpa [Lit.wf] using h
  exact ⟨h.1, h.2⟩
theorem weightsAll_mem {H : Type} {P : Program} {e : TypeId} : ∀ {l : List (DataW H)} {d : DataW H}, d ∈ l → ∀ n ∈ d.weights P e, n ∈ DataW.weightsAll P e l
  | [], _, h, _, _ => by cases h
  | x :: l, d, h, n, hn => by
    unfold DataW.weightsAll
    rcases List.mem_cons.1 h with rfl | h
    · exact List.mem_append_left _ hn
    · exact List.mem_append_right _ (weightsAll_mem h n hn)
theorem bytes_of_ints {W : World} {x : Addr} {l c : Nat} {zs : List Int} (hl : l ≤ c) (hz : zs.length = c)
    (hcell : ∀ i, i < zs.length → W.cell? (x.add i) = some (.int .u8 (zs.getD i 0))) : BytesAt W (some x) (zs.take l) := by
  by_cases h0 : l = 0
  · subst h0
    exact .inl (by simp)
  · obtain ⟨b, off, spot⟩ := x
    have hc := hcell 0 (by omega)
    have hspot : spot = none := by simpa [Addr.add] using World.cell?_spot hc
    subst hspot
    have hlt : b < W.heap.size := by
      rw [addr_add] at hc
      exact World.block_lt_of_cell? _ _ hc
    refine .inr ⟨b, off, rfl, hlt, fun j hj => ?_⟩
    rw [List.length_take] at hj
    have h1 := hcell j (by omega)
    rw [addr_add] at h1
    rw [h1]
    simp [show j < l by omega]
theorem bytes_of_trod {H : Type} {enc : TypeId × Value → H} {W : World} {fuel : Nat} {cs : List Value} {x : DataW H × List MemPlace} (h : DataW.trod enc Tryz.prog W 0 (fun _ => true) true fuel 27 cs = some x) (hw : ∀ n ∈ x.1.weights Tryz.prog 27, n ≤ reachBytes) :
    ∃ (zs : List Int) (ad : Option Addr) (cap : Nat), cs = [.slice ad zs.length cap] ∧ zs.length ≤ 140737488355328 ∧ BytesAt W ad zs ∧ (∀ x ∈ zs, 0 ≤ x ∧ x ≤ 255) ∧ zs.length ≤ cap ∧ cap ≤ maxLen ∧ (ad = none → zs.length = 0) := by
  rcases open_ints Tryz.underlying27 Tryz.underlying5 (by kernel_rfl) h with ⟨hcs, _⟩ | ⟨y, l, c, zs, hcs, _, hl, hm, hz, hy, hcell, hwz⟩
  · exact ⟨[], none, 0, hcs, by simp, .inl rfl, by simp, Nat.le_refl _, by decide, fun _ => rfl⟩
  · have hz' : zs.length = c := by simpa using hz
    have e : (zs.take l).length = l := by rw [List.length_take]; omega
    have hwt : zs.length ≤ reachBytes := by
      have hb : Tryz.prog.bytesOf 5 = 1 := by kernel_rfl
      have h2 : x.1 = .slice (lits .u8 (zs.take l)) (lits .u8 (zs.drop l)) := congrArg Prod.fst hy
      have h3 : ((lits (H := H) .u8 (zs.take l)).length + (lits (H := H) .u8 (zs.drop l)).length) * Tryz.prog.bytesOf 5 ∈ x.1.weights Tryz.prog 27 := by
        rw [h2]
        simp [DataW.weights, Tryz.underlying27]
      have h4 := hw _ h3
      rw [hb] at h4
      simp [lits] at h4
      omega
    refine ⟨zs.take l, some y, c, by rw [e]; exact hcs, by unfold reachBytes at hwt; omega, bytes_of_ints hl hz' hcell, fun y hy => bounds_u8 (hwz y (List.mem_of_mem_take hy)), by omega, hm, fun e => by cases e⟩
theorem list_of {α : Type} (d : α) (P : Nat → α → Prop) : ∀ n : Nat, (∀ i, i < n → ∃ x, P i x) → ∃ l : List α, l.length = n ∧ ∀ i, i < n → P i (l.getD i d)
  | 0, _ => ⟨[], rfl, fun i hi => absurd hi (Nat.not_lt_zero _)⟩
  | n + 1, h => by
    obtain ⟨l, h1, h2⟩ := list_of d P n (fun i hi => h i (by omega))
    obtain ⟨x, hx⟩ := h n (by omega)
    refine ⟨l ++ [x], by simp [h1], fun i hi => ?_⟩
    by_cases e : i < n
    · rw [List.getD_eq_getElem?_getD, List.getElem?_append_left (by omega), ← List.getD_eq_getElem?_getD]
      exact h2 i e
    · have e : i = l.length := by omega
      subst e
      rw [List.getD_eq_getElem?_getD, List.getElem?_append_right (Nat.le_refl _), Nat.sub_self, h1]
      exact hx
theorem add_add (a : Addr) (x j : Nat) : (a.add x).add j = a.add (x + j) := by
  unfold Addr.add
  by_cases h1 : x = 0
  · by_cases h2 : j = 0
    · simp [h1, h2]
    · simp [h1, h2]
  · by_cases h2 : j = 0
    · simp [h1, h2]
    · simp [h1, h2, Nat.add_assoc]
theorem deed_of_trod {H : Type} {enc : TypeId × Value → H} {W : World} {fuel : Nat} {cs : List Value} {x : DataW H × List MemPlace} (h : DataW.trod enc Tryz.prog W 0 (fun _ => true) true fuel 31 cs = some x) (hw : ∀ n ∈ x.1.weights Tryz.prog 31, n ≤ reachBytes) :
    ∃ n : Dd, cs = n.A.toList ∧ n.Ok ∧ BytesAt W n.da n.data := by
  obtain ⟨xs, m, _, hx1, hl, hlen, hx⟩ := DataW.trod_struct Tryz.underlying31 h
  have hC : Tryz.prog.cellsOf 31 = 6 := by kernel_rfl
  rw [hC] at hl
  match xs, hlen, hx1, hx with
  | [y0, y1, y2, y3, y4, y5], _, hx1, hx =>
    have k0 : Tryz.prog.cellsOf 3 = 1 := by kernel_rfl
    have k1 : Tryz.prog.cellsOf 27 = 1 := by kernel_rfl
    have k2 : Tryz.prog.cellsOf 9 = 1 := by kernel_rfl
    have q0 : DataW.trod enc Tryz.prog W 0 (fun _ => true) true m 3 ((cs.drop 0).take (Tryz.prog.cellsOf 3)) = some y0 := hx 0 _ rfl
    have q1 : DataW.trod enc Tryz.prog W 0 (fun _ => true) true m 3 ((cs.drop 1).take (Tryz.prog.cellsOf 3)) = some y1 := hx 1 _ rfl
    have q2 : DataW.trod enc Tryz.prog W 0 (fun _ => true) true m 3 ((cs.drop 2).take (Tryz.prog.cellsOf 3)) = some y2 := hx 2 _ rfl
    have q3 : DataW.trod enc Tryz.prog W 0 (fun _ => true) true m 3 ((cs.drop 3).take (Tryz.prog.cellsOf 3)) = some y3 := hx 3 _ rfl
    have q4 : DataW.trod enc Tryz.prog W 0 (fun _ => true) true m 3 ((cs.drop 4).take (Tryz.prog.cellsOf 3)) = some y4 := hx 4 _ rfl
    have q5 : DataW.trod enc Tryz.prog W 0 (fun _ => true) true m 27 ((cs.drop 5).take (Tryz.prog.cellsOf 27)) = some y5 := hx 5 _ rfl
    rw [k0] at q0
    rw [k0] at q1
    rw [k0] at q2
    rw [k0] at q3
    rw [k0] at q4
    rw [k1] at q5
    have hwe : ∀ n, n ∈ y5.1.weights Tryz.prog 27 → n ≤ reachBytes := fun n hn => hw n (by
      rw [hx1]
      simp only [DataW.weights, Tryz.underlying31, List.map_cons, List.map_nil, DataW.weightsEach, List.mem_append]
      exact .inr (.inr (.inr (.inr (.inr (.inl hn))))))
    obtain ⟨n0, e0, _, w0⟩ := DataW.trod_int Tryz.underlying3 q0
    obtain ⟨n1, e1, _, w1⟩ := DataW.trod_int Tryz.underlying3 q1
    obtain ⟨n2, e2, _, w2⟩ := DataW.trod_int Tryz.underlying3 q2
    obtain ⟨n3, e3, _, w3⟩ := DataW.trod_int Tryz.underlying3 q3
    obtain ⟨n4, e4, _, w4⟩ := DataW.trod_int Tryz.underlying3 q4
    obtain ⟨zs, a, c, e5, l4, b4, f4, u1, u2, u3⟩ := bytes_of_trod q5 hwe
    refine ⟨⟨n0, n1, n2, n3, n4, a, zs, c⟩, ?_, ⟨bounds_i64 w0, bounds_i64 w1, bounds_i64 w2, bounds_i64 w3, bounds_i64 w4, u1, u2, u3, f4⟩, b4⟩
    match cs, hl with
    | [c0, c1, c2, c3, c4, c5], _ =>
      simp at e0 e1 e2 e3 e4 e5
      rw [e0, e1, e2, e3, e4, e5]
      rfl
theorem deeds_of_trod {H : Type} {enc : TypeId × Value → H} {W : World} {fuel : Nat} {cs : List Value} {x : DataW H × List MemPlace} (h : DataW.trod enc Tryz.prog W 0 (fun _ => true) true fuel 22 cs = some x) (hw : ∀ n ∈ x.1.weights Tryz.prog 22, n ≤ reachBytes) :
    ∃ (a : Option Addr) (cap : Nat) (L : List Dd), cs = [.slice a L.length cap] ∧ L.length ≤ 140737488355328 ∧ L.length ≤ cap ∧ DdAt W a L ∧ ∀ i, i < L.length → (L.getD i Dd.z).Ok := by
  have hC : Tryz.prog.cellsOf 31 = 6 := by kernel_rfl
  rcases DataW.trod_slice Tryz.underlying22 h with ⟨hcs, _⟩ | ⟨a, l, c, elems, rest, m, _, hcs, hx, hb, hl, hm, hlen, hel, _, _⟩
  · exact ⟨none, 0, [], hcs, by simp, by simp, ⟨.inl rfl, fun i hi => absurd hi (Nat.not_lt_zero _)⟩, fun i hi => absurd hi (Nat.not_lt_zero _)⟩
  · rw [hC] at hel
    have hwa : ∀ i (hi : i < elems.length), ∀ n ∈ (elems[i]).1.weights Tryz.prog 31, n ≤ reachBytes := fun i hi n hn => hw n (by
      rw [hx]
      simp only [DataW.weights, Tryz.underlying22, List.mem_cons, List.mem_append]
      exact .inr (.inl (weightsAll_mem (List.mem_map_of_mem (List.getElem_mem hi)) n hn)))
    have hcnt : elems.length * 64 ≤ reachBytes := by
      have hb : Tryz.prog.bytesOf 31 = 64 := by kernel_rfl
      have h3 : ((elems.map (·.1)).length + (rest.map (·.1)).length) * Tryz.prog.bytesOf 31 ∈ x.1.weights Tryz.prog 22 := by
        rw [hx]
        simp [DataW.weights, Tryz.underlying22]
      have h4 := hw _ h3
      rw [hb] at h4
      simp at h4
      omega
    have key : ∀ i, i < l → ∃ n : Dd, n.Ok ∧ (∀ j v, n.A.toList[j]? = some v → W.cell? (a.add (i * 6 + j)) = some v) ∧ BytesAt W n.da n.data := by
      intro i hi
      have h1 := hel i hi
      have hil : i < elems.length := by omega
      rw [List.getElem?_eq_getElem hil, Option.bind_eq_some_iff] at h1
      obtain ⟨cs, hcs, ht⟩ := h1
      obtain ⟨n, hz, hn, hby⟩ := deed_of_trod ht (hwa i hil)
      obtain ⟨_, hcl, hcc⟩ := World.cells?_some hcs
      refine ⟨n, hn, fun j v hj => ?_, hby⟩
      have hj5 : j < 6 := (List.getElem?_eq_some_iff.1 hj).1
      have h2 := hcc j (by omega)
      rw [add_add] at h2
      rw [h2, hz]
      exact hj
    obtain ⟨L, hL, hP⟩ := list_of Dd.z _ l key
    refine ⟨some a, c, L, by rw [hL]; exact hcs, by unfold reachBytes at hcnt; omega, by omega, ⟨?_, fun i hi => (hP i (by omega)).2.2⟩, fun i hi => (hP i (by omega)).1⟩
    by_cases h0 : l = 0
    · exact .inl (List.eq_nil_of_length_eq_zero (by omega))
    obtain ⟨b, o, spot⟩ := a
    have hc00 := (hP 0 (by omega)).2.1 0 _ rfl
    have hspot : spot = none := by simpa [Addr.add] using World.cell?_spot hc00
    subst hspot
    have hblt : b < W.heap.size := by
      rw [addr_add] at hc00
      exact World.block_lt_of_cell? _ _ hc00
    refine .inr ⟨b, o, rfl, hblt, fun k hk j v hv => ?_⟩
    have := (hP k (by omega)).2.1 j v hv
    rw [addr_add, ← Nat.add_assoc] at this
    exact this
theorem open_deeds {H : Type} {enc : TypeId × Value → H} {W : World} {r : Reach} {b0 : Nat} {v : Value} {d : DataW H} {p : List MemPlace}
    (hv : Value.okWide Tryz.prog W r b0 22 v) (h : DataW.Trod enc Tryz.prog W 0 (fun _ => true) true 22 v d p) (hw : ∀ n ∈ d.weights Tryz.prog 22, n ≤ reachBytes) :
    ∃ (L : List Dd) (a : Option Addr) (cap : Nat), v = .slice a L.length cap ∧ L.length ≤ 140737488355328 ∧ L.length ≤ cap ∧ DdAt W a L ∧ ∀ i, i < L.length → (L.getD i Dd.z).Ok := by
  obtain ⟨a0, len0, cap0, rfl⟩ := okWide_slice Tryz.underlying22 hv
  obtain ⟨fuel, hf⟩ := h
  obtain ⟨a, cap, L, hcs, h1, h2, h3, h4⟩ := deeds_of_trod hf hw
  simp [Value.cells] at hcs
  obtain ⟨rfl, rfl, rfl⟩ := hcs
  exact ⟨L, _, _, rfl, h1, h2, h3, h4⟩
theorem odd_of_trod {H : Type} {enc : TypeId × Value → H} {W : World} {fuel : Nat} {cs : List Value} {x : DataW H × List MemPlace} (h : DataW.trod enc Tryz.prog W 0 (fun _ => true) true fuel 29 cs = some x) (hw : ∀ n ∈ x.1.weights Tryz.prog 29, n ≤ reachBytes) :
    ∃ n : Od, cs = n.A.toList ∧ n.Ok ∧ BytesAt W n.da n.data := by
  obtain ⟨xs, m, _, hx1, hl, hlen, hx⟩ := DataW.trod_struct Tryz.underlying29 h
  have hC : Tryz.prog.cellsOf 29 = 8 := by kernel_rfl
  rw [hC] at hl
  match xs, hlen, hx1, hx with
  | [y0, y1, y2, y3, y4, y5, y6, y7], _, hx1, hx =>
    have k0 : Tryz.prog.cellsOf 3 = 1 := by kernel_rfl
    have k1 : Tryz.prog.cellsOf 27 = 1 := by kernel_rfl
    have k2 : Tryz.prog.cellsOf 9 = 1 := by kernel_rfl
    have q0 : DataW.trod enc Tryz.prog W 0 (fun _ => true) true m 3 ((cs.drop 0).take (Tryz.prog.cellsOf 3)) = some y0 := hx 0 _ rfl
    have q1 : DataW.trod enc Tryz.prog W 0 (fun _ => true) true m 9 ((cs.drop 1).take (Tryz.prog.cellsOf 9)) = some y1 := hx 1 _ rfl
    have q2 : DataW.trod enc Tryz.prog W 0 (fun _ => true) true m 9 ((cs.drop 2).take (Tryz.prog.cellsOf 9)) = some y2 := hx 2 _ rfl
    have q3 : DataW.trod enc Tryz.prog W 0 (fun _ => true) true m 3 ((cs.drop 3).take (Tryz.prog.cellsOf 3)) = some y3 := hx 3 _ rfl
    have q4 : DataW.trod enc Tryz.prog W 0 (fun _ => true) true m 3 ((cs.drop 4).take (Tryz.prog.cellsOf 3)) = some y4 := hx 4 _ rfl
    have q5 : DataW.trod enc Tryz.prog W 0 (fun _ => true) true m 27 ((cs.drop 5).take (Tryz.prog.cellsOf 27)) = some y5 := hx 5 _ rfl
    have q6 : DataW.trod enc Tryz.prog W 0 (fun _ => true) true m 3 ((cs.drop 6).take (Tryz.prog.cellsOf 3)) = some y6 := hx 6 _ rfl
    have q7 : DataW.trod enc Tryz.prog W 0 (fun _ => true) true m 3 ((cs.drop 7).take (Tryz.prog.cellsOf 3)) = some y7 := hx 7 _ rfl
    rw [k0] at q0
    rw [k2] at q1
    rw [k2] at q2
    rw [k0] at q3
    rw [k0] at q4
    rw [k1] at q5
    rw [k0] at q6
    rw [k0] at q7
    have hwe : ∀ n, n ∈ y5.1.weights Tryz.prog 27 → n ≤ reachBytes := fun n hn => hw n (by
      rw [hx1]
      simp only [DataW.weights, Tryz.underlying29, List.map_cons, List.map_nil, DataW.weightsEach, List.mem_append]
      exact .inr (.inr (.inr (.inr (.inr (.inl hn))))))
    obtain ⟨n0, e0, _, w0⟩ := DataW.trod_int Tryz.underlying3 q0
    obtain ⟨s1, e1, _, _⟩ := DataW.trod_string Tryz.underlying9 q1
    obtain ⟨s2, e2, _, _⟩ := DataW.trod_string Tryz.underlying9 q2
    obtain ⟨n3, e3, _, w3⟩ := DataW.trod_int Tryz.underlying3 q3
    obtain ⟨n4, e4, _, w4⟩ := DataW.trod_int Tryz.underlying3 q4
    obtain ⟨zs, a, c, e5, l4, b4, f4, u1, u2, u3⟩ := bytes_of_trod q5 hwe
    obtain ⟨n6, e6, _, w6⟩ := DataW.trod_int Tryz.underlying3 q6
    obtain ⟨n7, e7, _, w7⟩ := DataW.trod_int Tryz.underlying3 q7
    refine ⟨⟨n0, s1, s2, n3, n4, a, zs, c, n6, n7⟩, ?_, ⟨bounds_i64 w0, u1, f4⟩, b4⟩
    match cs, hl with
    | [c0, c1, c2, c3, c4, c5, c6, c7], _ =>
      simp at e0 e1 e2 e3 e4 e5 e6 e7
      rw [e0, e1, e2, e3, e4, e5, e6, e7]
      rfl
theorem odds_of_trod {H : Type} {enc : TypeId × Value → H} {W : World} {fuel : Nat} {cs : List Value} {x : DataW H × List MemPlace} (h : DataW.trod enc Tryz.prog W 0 (fun _ => true) true fuel 46 cs = some x) (hw : ∀ n ∈ x.1.weights Tryz.prog 46, n ≤ reachBytes) :
    ∃ (a : Option Addr) (cap : Nat) (L : List Od), cs = [.slice a L.length cap] ∧ L.length ≤ 140737488355328 ∧ L.length ≤ cap ∧ OdAt W a L ∧ ∀ i, i < L.length → (L.getD i Od.z).Ok := by
  have hC : Tryz.prog.cellsOf 29 = 8 := by kernel_rfl
  rcases DataW.trod_slice Tryz.underlying46 h with ⟨hcs, _⟩ | ⟨a, l, c, elems, rest, m, _, hcs, hx, hb, hl, hm, hlen, hel, _, _⟩
  · exact ⟨none, 0, [], hcs, by simp, by simp, ⟨.inl rfl, fun i hi => absurd hi (Nat.not_lt_zero _)⟩, fun i hi => absurd hi (Nat.not_lt_zero _)⟩
  · rw [hC] at hel
    have hwa : ∀ i (hi : i < elems.length), ∀ n ∈ (elems[i]).1.weights Tryz.prog 29, n ≤ reachBytes := fun i hi n hn => hw n (by
      rw [hx]
      simp only [DataW.weights, Tryz.underlying46, List.mem_cons, List.mem_append]
      exact .inr (.inl (weightsAll_mem (List.mem_map_of_mem (List.getElem_mem hi)) n hn)))
    have hcnt : elems.length * 96 ≤ reachBytes := by
      have hb : Tryz.prog.bytesOf 29 = 96 := by kernel_rfl
      have h3 : ((elems.map (·.1)).length + (rest.map (·.1)).length) * Tryz.prog.bytesOf 29 ∈ x.1.weights Tryz.prog 46 := by
        rw [hx]
        simp [DataW.weights, Tryz.underlying46]
      have h4 := hw _ h3
      rw [hb] at h4
      simp at h4
      omega
    have key : ∀ i, i < l → ∃ n : Od, n.Ok ∧ (∀ j v, n.A.toList[j]? = some v → W.cell? (a.add (i * 8 + j)) = some v) ∧ BytesAt W n.da n.data := by
      intro i hi
      have h1 := hel i hi
      have hil : i < elems.length := by omega
      rw [List.getElem?_eq_getElem hil, Option.bind_eq_some_iff] at h1
      obtain ⟨cs, hcs, ht⟩ := h1
      obtain ⟨n, hz, hn, hby⟩ := odd_of_trod ht (hwa i hil)
      obtain ⟨_, hcl, hcc⟩ := World.cells?_some hcs
      refine ⟨n, hn, fun j v hj => ?_, hby⟩
      have hj5 : j < 8 := (List.getElem?_eq_some_iff.1 hj).1
      have h2 := hcc j (by omega)
      rw [add_add] at h2
      rw [h2, hz]
      exact hj
    obtain ⟨L, hL, hP⟩ := list_of Od.z _ l key
    refine ⟨some a, c, L, by rw [hL]; exact hcs, by unfold reachBytes at hcnt; omega, by omega, ⟨?_, fun i hi => (hP i (by omega)).2.2⟩, fun i hi => (hP i (by omega)).1⟩
    by_cases h0 : l = 0
    · exact .inl (List.eq_nil_of_length_eq_zero (by omega))
    obtain ⟨b, o, spot⟩ := a
    have hc00 := (hP 0 (by omega)).2.1 0 _ rfl
    have hspot : spot = none := by simpa [Addr.add] using World.cell?_spot hc00
    subst hspot
    have hblt : b < W.heap.size := by
      rw [addr_add] at hc00
      exact World.block_lt_of_cell? _ _ hc00
    refine .inr ⟨b, o, rfl, hblt, fun k hk j v hv => ?_⟩
    have := (hP k (by omega)).2.1 j v hv
    rw [addr_add, ← Nat.add_assoc] at this
    exact this
theorem open_odds {H : Type} {enc : TypeId × Value → H} {W : World} {r : Reach} {b0 : Nat} {v : Value} {d : DataW H} {p : List MemPlace}
    (hv : Value.okWide Tryz.prog W r b0 46 v) (h : DataW.Trod enc Tryz.prog W 0 (fun _ => true) true 46 v d p) (hw : ∀ n ∈ d.weights Tryz.prog 46, n ≤ reachBytes) :
    ∃ (L : List Od) (a : Option Addr) (cap : Nat), v = .slice a L.length cap ∧ L.length ≤ 140737488355328 ∧ L.length ≤ cap ∧ OdAt W a L ∧ ∀ i, i < L.length → (L.getD i Od.z).Ok := by
  obtain ⟨a0, len0, cap0, rfl⟩ := okWide_slice Tryz.underlying46 hv
  obtain ⟨fuel, hf⟩ := h
  obtain ⟨a, cap, L, hcs, h1, h2, h3, h4⟩ := odds_of_trod hf hw
  simp [Value.cells] at hcs
  obtain ⟨rfl, rfl, rfl⟩ := hcs
  exact ⟨L, _, _, rfl, h1, h2, h3, h4⟩
theorem quiet_below (n : Int) (L : List Dd) (M : List Od) (a b : Option Addr) (ca cb : Nat) (w : World) (hu : UB w) (hm : ML w) (hn : I64 n) (hL : DdAt w a L) (hM : OdAt w b M) (hLo : ∀ i, i < L.length → (L.getD i Dd.z).Ok) (hMo : ∀ i, i < M.length → (M.getD i Od.z).Ok) (hl : L.length ≤ 140737488355328) (hml : M.length ≤ 140737488355328) :
    Calls Tryz.prog 4 #[.int .i64 n, .slice a L.length ca, .slice b M.length cb] w fun e w' => e = .returned (.bool true) ∧ Below w.heap.size w w' := by
  refine (quiet_walk n L M a b ca cb w hu hm hn hL hM (fun x hx => ?_) (fun x hx => ?_) (by omega) (by omega)).mono fun e w' ⟨h1, h2⟩ => ⟨h1, h2.below⟩
  · obtain ⟨i, hi, e⟩ := List.mem_iff_getElem.1 hx
    have := hLo i hi
    rw [List.getD_eq_getElem?_getD, List.getElem?_eq_getElem hi] at this
    rw [← e]
    exact this
  · obtain ⟨i, hi, e⟩ := List.mem_iff_getElem.1 hx
    have := hMo i hi
    rw [List.getD_eq_getElem?_getD, List.getElem?_eq_getElem hi] at this
    rw [← e]
    exact this
end Go.Proofs.YthpngfmckkfipaaGreatDoor
