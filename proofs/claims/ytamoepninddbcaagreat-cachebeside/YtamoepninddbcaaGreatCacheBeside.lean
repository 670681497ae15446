/-
  Proved: CacheBeside returns true for every two scripts (two caches on two disks, in turns, have nothing in common: neither says anything that the document's, alone, would not), with no condition.
-/
import Derived.Test.YtamoepninddbcaaGreatOpenSc
namespace Go.Proofs.YtamoepninddbcaaGreat
open Go.RowKit

/-- Two pairs side by side. -/
def Two (ws w : World) (A B : PA) (zA zB : CSt) (loA loB : Bool) (VA MA EA VB MB EB : List Lst) : Prop :=
  ∃ σ τ, IsP w A σ zA zA loA VA MA EA ∧ IsP w B τ zB zB loB VB MB EB ∧ (∀ k, OwnP σ k → ws.heap.size ≤ k) ∧ (∀ k, OwnP τ k → ws.heap.size ≤ k) ∧ (∀ k, OwnP σ k → ¬ OwnP τ k) ∧ Chg ws w No
/-- What is known of one of them between two steps. -/
structure POK (z : CSt) (lo : Bool) (V M : List Lst) (i : Nat) : Prop where
  al : lo = false → AL z
  bq : BkEq V M
  tc : tc z ≤ i
  wr : z.d.wr ≤ 100 + 5000 * (i : Int)
theorem POK.next {z : CSt} {lo : Bool} {V M : List Lst} {i : Nat} (h : POK z lo V M i) : POK z lo V M (i + 1) :=
  ⟨h.al, h.bq, Nat.le_succ_of_le h.tc, by have := h.wr; rw [Int.natCast_add]; omega⟩
/-- load of a struct within a row, where the operation stands behind a guard that says yes. -/
theorem wpList_load_mid_g {ops : Array Oper} {rest : List Oper} {op : Oper} {a : Act} {w : World} {Q : Exit → Act → World → Prop} (ty : TypeId) (x : Operand) (ho : op.op = .load ty x)
    (b o : Nat) (hx : a.eval x = .pointer (some ⟨b, o, none⟩)) (cs : List Value) (d : TypeDesc) (hc : w.rangeAt b o cs)
    (hu : Tryz.prog.underlying ty = some d) (hd : d.isRow = true) (hi : (Tryz.prog.info? ty).map (·.size) = some cs.length) (hw : Region.wanted op (yielded ops a.tmps) = true)
    (h : wpList Tryz.prog ops Q rest (a.put op.dst (.agg cs.toArray)) w) : wpList Tryz.prog ops Q (op :: rest) a w :=
  D.wpList_want hw fun _ hK => wp_load_mid ty x ho b o hx cs d hc hu hd hi (hK _ _ h)
section
variable {ws w w' : World} {A B : PA} {zA zB : CSt} {loA loB : Bool} {VA MA EA VB MB EB : List Lst}
theorem Two.swap (h : Two ws w A B zA zB loA loB VA MA EA VB MB EB) : Two ws w B A zB zA loB loA VB MB EB VA MA EA := by
  obtain ⟨σ, τ, h1, h2, h3, h4, h5, h6⟩ := h
  exact ⟨τ, σ, h2, h1, h4, h3, fun k hk e => h5 k e hk, h6⟩
theorem Two.call (h : Two ws w A B zA zB loA loB VA MA EA VB MB EB) (hc : Chg w w' No) : Two ws w' A B zA zB loA loB VA MA EA VB MB EB := by
  obtain ⟨σ, τ, h1, h2, h3, h4, h5, h6⟩ := h
  exact ⟨σ, τ, h1.call hc, h2.call hc, h3, h4, h5, h6.tr hc⟩
theorem Two.no (h : Two ws w A B zA zB loA loB VA MA EA VB MB EB) : Chg ws w No := by
  obtain ⟨σ, τ, h1, h2, h3, h4, h5, h6⟩ := h
  exact h6
theorem Two.cell (h : Two ws w A B zA zB loA loB VA MA EA VB MB EB) : w.cell? ⟨A.pp, 4, none⟩ = some (.bool loA) := by
  obtain ⟨σ, τ, h1, h2, h3, h4, h5, h6⟩ := h
  exact pr4 h1.me
/-- The first one has turned. -/
theorem two_left {σ τ : Nat → Option PRole} {z' : CSt} {lo' : Bool} {V' M' E' : List Lst} (h2 : IsP w B τ zB zB loB VB MB EB) (h3 : ∀ k, OwnP σ k → ws.heap.size ≤ k) (h4 : ∀ k, OwnP τ k → ws.heap.size ≤ k) (h5 : ∀ k, OwnP σ k → ¬ OwnP τ k) (h6 : Chg ws w No)
    (hp : PF w w' A σ z' z' lo' V' M' E') : Two ws w' A B z' zB lo' loB V' M' E' VB MB EB := by
  obtain ⟨σ', k1, k2, k3⟩ := hp
  have hs := h6.size
  refine ⟨σ', τ, k1, h2.keep k3 (fun k hk e => h5 k e hk), fun k hk => ?_, h4, fun k hk e => ?_, h6.trans k3 (fun _ _ e => e) (fun j hj e => by have := h3 j e; omega)⟩
  · rcases k2 k hk with e | e
    · exact h3 k e
    · omega
  · rcases k2 k hk with e2 | e2
    · exact h5 k e2 e
    · have := h2.lt e
      omega
theorem Two.doA {x : SV} {a : Option Addr} {ca i : Nat} (h : Two ws w A B zA zB false loB VA MA EA VB MB EB) (hx : x.OK) (ha : AAt w a x.af) (hk : POK zA false VA MA i) (hi : i ≤ 2513169434916) :
    Calls Tryz.prog 7 #[.pointer (some ⟨A.pp, 0, none⟩), .agg (x.cells a ca).toArray] w fun e w' => e = .returned (.bool true) ∧ ∃ z' lo' V' M' E', Two ws w' A B z' zB lo' loB V' M' E' VB MB EB ∧ POK z' lo' V' M' (i + 1) := by
  obtain ⟨σ, τ, h1, h2, h3, h4, h5, h6⟩ := h
  have hal := hk.al rfl
  have htb : TB zA := Nat.le_trans hk.tc (by omega)
  have hwr : zA.d.wr < 4611686018427380000 := by have := hk.wr; omega
  refine (does_any x a ca ⟨PF.start h1, hx, ha, hal, htb, hwr, hk.bq⟩ (rput_ok hal htb hwr)).mono ?_
  rintro e w' ⟨rfl, z', lo', V', M', E', hp, hq, ha', _, ht', hw'⟩
  refine ⟨rfl, z', lo', V', M', E', two_left h2 h3 h4 h5 h6 hp, ha', hq, ?_, ?_⟩
  · have := hk.tc
    omega
  · have := hk.wr
    rw [Int.natCast_add]
    omega
theorem Two.doB {x : SV} {a : Option Addr} {ca i : Nat} (h : Two ws w A B zA zB loA false VA MA EA VB MB EB) (hx : x.OK) (ha : AAt w a x.af) (hk : POK zB false VB MB i) (hi : i ≤ 2513169434916) :
    Calls Tryz.prog 7 #[.pointer (some ⟨B.pp, 0, none⟩), .agg (x.cells a ca).toArray] w fun e w' => e = .returned (.bool true) ∧ ∃ z' lo' V' M' E', Two ws w' A B zA z' loA lo' VA MA EA V' M' E' ∧ POK z' lo' V' M' (i + 1) :=
  (h.swap.doA hx ha hk hi).mono fun _ _ ⟨h1, z', lo', V', M', E', h2, h3⟩ => ⟨h1, z', lo', V', M', E', h2.swap, h3⟩
theorem Two.wholeA {i : Nat} (h : Two ws w A B zA zB false loB VA MA EA VB MB EB) (hk : POK zA false VA MA i) (hi : i ≤ 2513169434916) :
    Calls Tryz.prog 11 #[.pointer (some ⟨A.pp, 0, none⟩)] w fun e w' => e = .returned (.bool true) ∧ ∃ z' V' M' E', Two ws w' A B z' zB false loB V' M' E' VB MB EB := by
  obtain ⟨σ, τ, h1, h2, h3, h4, h5, h6⟩ := h
  refine (whole_any BkEq (fun _ _ _ _ f e => f e) (PF.start h1) (hk.al rfl) hk.bq (Nat.le_trans hk.tc (by omega))).mono ?_
  rintro e w' ⟨rfl, V', M', E', hp, _⟩
  exact ⟨rfl, _, V', M', E', two_left h2 h3 h4 h5 h6 hp⟩
theorem Two.wholeB {i : Nat} (h : Two ws w A B zA zB loA false VA MA EA VB MB EB) (hk : POK zB false VB MB i) (hi : i ≤ 2513169434916) :
    Calls Tryz.prog 11 #[.pointer (some ⟨B.pp, 0, none⟩)] w fun e w' => e = .returned (.bool true) ∧ ∃ z' V' M' E', Two ws w' A B zA z' loA false VA MA EA V' M' E' :=
  (h.swap.wholeA hk hi).mono fun _ _ ⟨h1, z', V', M', E', h2⟩ => ⟨h1, z', V', M', E', h2.swap⟩
theorem Two.disksA (h : Two ws w A B zA zB loA loB VA MA EA VB MB EB) : Calls Tryz.prog 10 #[.pointer (some ⟨A.pp, 0, none⟩)] w fun e w' => e = .returned (.bool true) ∧ Two ws w' A B zA zB loA loB VA MA EA VB MB EB := by
  have hh := h
  obtain ⟨σ, τ, h1, h2, h3, h4, h5, h6⟩ := h
  exact (disks_any h1).mono fun _ _ ⟨e, hc⟩ => ⟨e, hh.call hc⟩
theorem Two.disksB (h : Two ws w A B zA zB loA loB VA MA EA VB MB EB) : Calls Tryz.prog 10 #[.pointer (some ⟨B.pp, 0, none⟩)] w fun e w' => e = .returned (.bool true) ∧ Two ws w' A B zA zB loA loB VA MA EA VB MB EB :=
  h.swap.disksA.mono fun _ _ ⟨e, h2⟩ => ⟨e, h2.swap⟩
end
set_option maxRecDepth 100000 in
set_option maxHeartbeats 40000000 in
theorem beside_walk (la : List SV) (ada : Option Addr) (capa : Nat) (lb : List SV) (adb : Option Addr) (capb : Nat) (ws : World) (hsa : ScAt ws ada la) (hla : la.length ≤ 2513169434916) (hoka : ∀ j, j < la.length → (la.getD j SV.z).OK) (hsb : ScAt ws adb lb) (hlb : lb.length ≤ 2513169434916) (hokb : ∀ j, j < lb.length → (lb.getD j SV.z).OK) :
    Calls Tryz.prog 4 #[.slice ada la.length capa, .slice adb lb.length capb] ws fun e w' => e = .returned (.bool true) ∧ Chg ws w' No := by
  have HB1 := begun_any 3 ⟨by decide, by decide⟩ ws
  have HBg := hid (fun w => begun_any 20 ⟨by decide, by decide⟩ w)
  have HKN := hid (fun w => known_any w)
  have HSa := hid hsa
  have HSb := hid hsb
  have HOa := hid hoka
  have HOb := hid hokb
  obtain ⟨ma, hma⟩ : ∃ m, m = la.length := ⟨_, rfl⟩
  obtain ⟨mb, hmb⟩ : ∃ m, m = lb.length := ⟨_, rfl⟩
  have HMa := hid hma
  have HMb := hid hmb
  rw [← hma] at hla
  rw [← hmb] at hlb
  rw [← hma, ← hmb]
  clear hsa hsb hoka hokb hma hmb
  go_enter Tryz.func4, Tryz.ntmps4
  go_wp2_with (first
    | (go_at_call 5; go_must (first
        | (refine HB1.mono ?_; rintro e w1 ⟨A, zA, rfl, hp1, ha1, ht1, hw1⟩; have HP1 := hid hp1; have HA1 : Hid (POK zA false [] [] 0) := hid ⟨fun _ => ha1, fun j x y e => (by cases e), Nat.le_of_eq ht1, by simpa using hw1⟩; have HB2 := HBg.out w1; clear HB1 hp1 ha1 ht1 hw1)
        | (refine HB2.mono ?_; rintro e w2 ⟨B, zB, rfl, hp2, ha2, ht2, hw2⟩; have HP2 := hid hp2; have HA2 : Hid (POK zB false [] [] 0) := hid ⟨fun _ => ha2, fun j x y e => (by cases e), Nat.le_of_eq ht2, by simpa using hw2⟩; have HK1 := HKN.out w2; clear HB2 hp2 ha2 ht2 hw2)))
    | (go_at_call 6; go_must (refine HK1.mono ?_; rintro e w3 ⟨rfl, hc3⟩; have HC3 := hid hc3; clear HK1 hc3))
    | fail)
  have HT0 : Hid (Two ws w3 A B zA zB false false [] [] [] [] [] []) := hid (by
    obtain ⟨σ, h1, h2, h3⟩ := HP1.out
    obtain ⟨τ, k1, k2, k3⟩ := HP2.out
    have hn1 := HP1.out.no
    have hn2 := HP2.out.no
    refine Two.call ⟨σ, τ, h1.call hn2, k1, fun k hk => ?_, fun k hk => ?_, fun k hk e => ?_, hn1.tr hn2⟩ HC3.out
    · rcases h2 k hk with ⟨_, e⟩ | e
      · cases e
      · exact e
    · rcases k2 k hk with ⟨_, e⟩ | e
      · cases e
      · have := hn1.size
        omega
    · have := h1.lt hk
      rcases k2 k e with ⟨_, e⟩ | e
      · cases e
      · omega)
  go_loopw [7] (fun x7 wr => ∃ (i : Nat) (zA zB : CSt) (loA loB : Bool) (VA MA EA VB MB EB : List Lst), x7 = .int .i64 (i : Int) ∧ (i ≤ ma ∨ i ≤ mb) ∧ Hid (Two ws wr A B zA zB loA loB VA MA EA VB MB EB) ∧ Hid (POK zA loA VA MA i) ∧ Hid (POK zB loB VB MB i)) (fun x7 _ => ma + mb - (intOf x7).toNat)
  case atStart => exact ⟨0, zA, zB, false, false, [], [], [], [], [], [], rfl, .inl (Nat.zero_le _), HT0, HA1, HA2⟩
  case round =>
    clear HT0 HA1 HA2 HP1 HP2 HC3
    obtain ⟨i, zA, zB, loA, loB, VA, MA, EA, VB, MB, EB, rfl, him, HT, HA, HB⟩ := hrel
    have i0 : (0 : Int) ≤ (i : Int) := by omega
    have k4 := HT.out.cell
    have k5 := HT.out.swap.cell
    have hcs : (i < ma ∨ ¬ i < ma) ∧ (i < mb ∨ ¬ i < mb) := by omega
    obtain ⟨ca, cb⟩ := hcs
    rcases ca with ha | ha
    · cases loA with
      | false =>
        rcases cb with hb | hb
        · cases loB with
          | false =>
            as_aux_lemma =>
            have hila : i < la.length := by rw [← HMa.out]; exact ha
            obtain ⟨ba, oa, aa, caa, haba, _, _, hAta, hrga⟩ := sc_at (HSa.out.call HT.out.no) hila
            have hDa := HT.out.doA (ca := caa) (HOa.out i hila) hAta HA.out (by omega)
            subst haba
            generalize la.getD i SV.z = xa at *
            clear hAta hila
            have hilb : i < lb.length := by rw [← HMb.out]; exact hb
            have HRb : Hid (∀ W, Chg ws W No → ∃ bb ob ab cab, adb = some ⟨bb, ob, none⟩ ∧ AAt W ab (lb.getD i SV.z).af ∧ W.rangeAt bb (ob + i * 5) ((lb.getD i SV.z).cells ab cab)) := hid (fun W hW => by
              obtain ⟨bb, ob, ab, cab, h1, _, _, h2, h3⟩ := sc_at (HSb.out.call hW) hilb
              exact ⟨bb, ob, ab, cab, h1, h2, h3⟩)
            have HOx := hid (HOb.out i hilb)
            generalize lb.getD i SV.z = xb at *
            clear hilb
            have j1 : (i : Int) < (ma : Int) := by omega
            have j2 : (i : Int) < (mb : Int) := by omega
            go_wp2_with (first
              | (refine wpList_load_mid_g 29 _ rfl ba (oa + i * 5) rfl (xa.cells aa caa) _ hrga Tryz.underlying29 rfl (by rw [szStep]; rfl) (by rfl) ?_)
              | (refine wpList_load_mid_g 29 _ rfl bb (ob + i * 5) rfl (xb.cells ab cab) _ hrgb Tryz.underlying29 rfl (by rw [szStep]; rfl) (by rfl) ?_)
              | (go_at_call 7; go_must (first
                  | (refine hDa.mono ?_; rintro e w3 ⟨rfl, z3, lo3, V3, M3, E3, hT3, hk3⟩; have HA3 := hid hk3; have HT3 := hid hT3; obtain ⟨bb, ob, ab, cab, habb, hAtb, hrgb⟩ := HRb.out w3 hT3.no; have k6 : w3.cell? ⟨B.pp, 4, none⟩ = some (.bool false) := hT3.swap.cell; have hDb := hT3.doB (ca := cab) HOx.out hAtb HB.out (by omega); subst habb; clear hAtb; clear hDa hT3 hk3)
                  | (refine hDb.mono ?_; rintro e w4 ⟨rfl, z4, lo4, V4, M4, E4, hT4, hk4⟩; have HB4 := hid hk4; have HT4 := hid hT4; clear hDb hT4 hk4)))
              | fail)
            exact ⟨⟨i + 1, _, _, _, _, _, _, _, _, _, _, by go_num, by omega, HT4, HA3, HB4⟩, by simp [intOf]; omega⟩
          | true =>
            as_aux_lemma =>
            have hila : i < la.length := by rw [← HMa.out]; exact ha
            obtain ⟨ba, oa, aa, caa, haba, _, _, hAta, hrga⟩ := sc_at (HSa.out.call HT.out.no) hila
            have hDa := HT.out.doA (ca := caa) (HOa.out i hila) hAta HA.out (by omega)
            subst haba
            generalize la.getD i SV.z = xa at *
            clear hAta hila
            have j1 : (i : Int) < (ma : Int) := by omega
            have j2 : (i : Int) < (mb : Int) := by omega
            go_wp2_with (first
              | (refine wpList_load_mid_g 29 _ rfl ba (oa + i * 5) rfl (xa.cells aa caa) _ hrga Tryz.underlying29 rfl (by rw [szStep]; rfl) (by rfl) ?_)
              | (go_at_call 7; go_must (first
                  | (refine hDa.mono ?_; rintro e w3 ⟨rfl, z3, lo3, V3, M3, E3, hT3, hk3⟩; have HA3 := hid hk3; have HT3 := hid hT3; have k6 : w3.cell? ⟨B.pp, 4, none⟩ = some (.bool true) := hT3.swap.cell; clear hDa hT3 hk3)))
              | fail)
            exact ⟨⟨i + 1, _, _, _, _, _, _, _, _, _, _, by go_num, by omega, HT3, HA3, hid HB.out.next⟩, by simp [intOf]; omega⟩
        · as_aux_lemma =>
          have hila : i < la.length := by rw [← HMa.out]; exact ha
          obtain ⟨ba, oa, aa, caa, haba, _, _, hAta, hrga⟩ := sc_at (HSa.out.call HT.out.no) hila
          have hDa := HT.out.doA (ca := caa) (HOa.out i hila) hAta HA.out (by omega)
          subst haba
          generalize la.getD i SV.z = xa at *
          clear hAta hila
          have j1 : (i : Int) < (ma : Int) := by omega
          have j2 : ¬ (i : Int) < (mb : Int) := by omega
          go_wp2_with (first
            | (refine wpList_load_mid_g 29 _ rfl ba (oa + i * 5) rfl (xa.cells aa caa) _ hrga Tryz.underlying29 rfl (by rw [szStep]; rfl) (by rfl) ?_)
            | (go_at_call 7; go_must (first
                | (refine hDa.mono ?_; rintro e w3 ⟨rfl, z3, lo3, V3, M3, E3, hT3, hk3⟩; have HA3 := hid hk3; have HT3 := hid hT3;  clear hDa hT3 hk3)))
            | fail)
          exact ⟨⟨i + 1, _, _, _, _, _, _, _, _, _, _, by go_num, by omega, HT3, HA3, hid HB.out.next⟩, by simp [intOf]; omega⟩
      | true =>
        rcases cb with hb | hb
        · cases loB with
          | false =>
            as_aux_lemma =>
            have hilb : i < lb.length := by rw [← HMb.out]; exact hb
            have HRb : Hid (∀ W, Chg ws W No → ∃ bb ob ab cab, adb = some ⟨bb, ob, none⟩ ∧ AAt W ab (lb.getD i SV.z).af ∧ W.rangeAt bb (ob + i * 5) ((lb.getD i SV.z).cells ab cab)) := hid (fun W hW => by
              obtain ⟨bb, ob, ab, cab, h1, _, _, h2, h3⟩ := sc_at (HSb.out.call hW) hilb
              exact ⟨bb, ob, ab, cab, h1, h2, h3⟩)
            have HOx := hid (HOb.out i hilb)
            generalize lb.getD i SV.z = xb at *
            clear hilb
            have j1 : (i : Int) < (ma : Int) := by omega
            have j2 : (i : Int) < (mb : Int) := by omega
            obtain ⟨bb, ob, ab, cab, habb, hAtb, hrgb⟩ := HRb.out wr HT.out.no
            have hDb := HT.out.doB (ca := cab) HOx.out hAtb HB.out (by omega)
            subst habb
            clear hAtb
            go_wp2_with (first
              | (refine wpList_load_mid_g 29 _ rfl bb (ob + i * 5) rfl (xb.cells ab cab) _ hrgb Tryz.underlying29 rfl (by rw [szStep]; rfl) (by rfl) ?_)
              | (go_at_call 7; go_must (first
                  | (refine hDb.mono ?_; rintro e w4 ⟨rfl, z4, lo4, V4, M4, E4, hT4, hk4⟩; have HB4 := hid hk4; have HT4 := hid hT4; clear hDb hT4 hk4)))
              | fail)
            exact ⟨⟨i + 1, _, _, _, _, _, _, _, _, _, _, by go_num, by omega, HT4, hid HA.out.next, HB4⟩, by simp [intOf]; omega⟩
          | true =>
            as_aux_lemma =>
            have j1 : (i : Int) < (ma : Int) := by omega
            have j2 : (i : Int) < (mb : Int) := by omega
            go_wp2_with fail
            exact ⟨⟨i + 1, _, _, _, _, _, _, _, _, _, _, by go_num, by omega, HT, hid HA.out.next, hid HB.out.next⟩, by simp [intOf]; omega⟩
        · as_aux_lemma =>
          have j1 : (i : Int) < (ma : Int) := by omega
          have j2 : ¬ (i : Int) < (mb : Int) := by omega
          go_wp2_with fail
          exact ⟨⟨i + 1, _, _, _, _, _, _, _, _, _, _, by go_num, by omega, HT, hid HA.out.next, hid HB.out.next⟩, by simp [intOf]; omega⟩
    · rcases cb with hb | hb
      · cases loB with
        | false =>
          as_aux_lemma =>
          have hilb : i < lb.length := by rw [← HMb.out]; exact hb
          have HRb : Hid (∀ W, Chg ws W No → ∃ bb ob ab cab, adb = some ⟨bb, ob, none⟩ ∧ AAt W ab (lb.getD i SV.z).af ∧ W.rangeAt bb (ob + i * 5) ((lb.getD i SV.z).cells ab cab)) := hid (fun W hW => by
            obtain ⟨bb, ob, ab, cab, h1, _, _, h2, h3⟩ := sc_at (HSb.out.call hW) hilb
            exact ⟨bb, ob, ab, cab, h1, h2, h3⟩)
          have HOx := hid (HOb.out i hilb)
          generalize lb.getD i SV.z = xb at *
          clear hilb
          have j1 : ¬ (i : Int) < (ma : Int) := by omega
          have j2 : (i : Int) < (mb : Int) := by omega
          obtain ⟨bb, ob, ab, cab, habb, hAtb, hrgb⟩ := HRb.out wr HT.out.no
          have hDb := HT.out.doB (ca := cab) HOx.out hAtb HB.out (by omega)
          subst habb
          clear hAtb
          go_wp2_with (first
            | (refine wpList_load_mid_g 29 _ rfl bb (ob + i * 5) rfl (xb.cells ab cab) _ hrgb Tryz.underlying29 rfl (by rw [szStep]; rfl) (by rfl) ?_)
            | (go_at_call 7; go_must (first
                | (refine hDb.mono ?_; rintro e w4 ⟨rfl, z4, lo4, V4, M4, E4, hT4, hk4⟩; have HB4 := hid hk4; have HT4 := hid hT4; clear hDb hT4 hk4)))
            | fail)
          exact ⟨⟨i + 1, _, _, _, _, _, _, _, _, _, _, by go_num, by omega, HT4, hid HA.out.next, HB4⟩, by simp [intOf]; omega⟩
        | true =>
          as_aux_lemma =>
          have j1 : ¬ (i : Int) < (ma : Int) := by omega
          have j2 : (i : Int) < (mb : Int) := by omega
          go_wp2_with fail
          exact ⟨⟨i + 1, _, _, _, _, _, _, _, _, _, _, by go_num, by omega, HT, hid HA.out.next, hid HB.out.next⟩, by simp [intOf]; omega⟩
      · cases loA with
        | false =>
          cases loB with
          | false =>
            as_aux_lemma =>
            have j1 : ¬ (i : Int) < (ma : Int) := by omega
            have j2 : ¬ (i : Int) < (mb : Int) := by omega
            have hib : i ≤ 2513169434916 := by omega
            have hF0 := HT.out.wholeA HA.out hib
            go_wp2_with (first
              | (go_at_call 11; go_must (first
                  | (refine hF0.mono ?_; rintro e u0 ⟨rfl, z0, V0, M0, E0, hT0⟩; have hF1 := hT0.wholeB HB.out hib; have k6 : u0.cell? ⟨B.pp, 4, none⟩ = some (.bool false) := hT0.swap.cell; clear hF0 hT0)
                  | (refine hF1.mono ?_; rintro e u1 ⟨rfl, z1, V1, M1, E1, hT1⟩; have hF2 := hT1.disksA; clear hF1 hT1)))
              | (go_at_call 10; go_must (first
                  | (refine hF2.mono ?_; rintro e u2 ⟨rfl, hT2⟩; have hF3 := hT2.disksB; clear hF2 hT2)
                  | (refine hF3.mono ?_; rintro e u3 ⟨rfl, hT3⟩; have HX := hid hT3.no; clear hF3 hT3)))
              | fail)
            go_ret
            exact ⟨rfl, HX.out⟩
          | true =>
            as_aux_lemma =>
            have j1 : ¬ (i : Int) < (ma : Int) := by omega
            have j2 : ¬ (i : Int) < (mb : Int) := by omega
            have hib : i ≤ 2513169434916 := by omega
            have hF0 := HT.out.wholeA HA.out hib
            go_wp2_with (first
              | (go_at_call 11; go_must (first
                  | (refine hF0.mono ?_; rintro e u0 ⟨rfl, z0, V0, M0, E0, hT0⟩; have hF1 := hT0.disksA; have k6 : u0.cell? ⟨B.pp, 4, none⟩ = some (.bool true) := hT0.swap.cell; clear hF0 hT0)))
              | (go_at_call 10; go_must (first
                  | (refine hF1.mono ?_; rintro e u1 ⟨rfl, hT1⟩; have hF2 := hT1.disksB; clear hF1 hT1)
                  | (refine hF2.mono ?_; rintro e u2 ⟨rfl, hT2⟩; have HX := hid hT2.no; clear hF2 hT2)))
              | fail)
            go_ret
            exact ⟨rfl, HX.out⟩
        | true =>
          cases loB with
          | false =>
            as_aux_lemma =>
            have j1 : ¬ (i : Int) < (ma : Int) := by omega
            have j2 : ¬ (i : Int) < (mb : Int) := by omega
            have hib : i ≤ 2513169434916 := by omega
            have hF0 := HT.out.wholeB HB.out hib
            go_wp2_with (first
              | (go_at_call 11; go_must (first
                  | (refine hF0.mono ?_; rintro e u0 ⟨rfl, z0, V0, M0, E0, hT0⟩; have hF1 := hT0.disksA; clear hF0 hT0)))
              | (go_at_call 10; go_must (first
                  | (refine hF1.mono ?_; rintro e u1 ⟨rfl, hT1⟩; have hF2 := hT1.disksB; clear hF1 hT1)
                  | (refine hF2.mono ?_; rintro e u2 ⟨rfl, hT2⟩; have HX := hid hT2.no; clear hF2 hT2)))
              | fail)
            go_ret
            exact ⟨rfl, HX.out⟩
          | true =>
            as_aux_lemma =>
            have j1 : ¬ (i : Int) < (ma : Int) := by omega
            have j2 : ¬ (i : Int) < (mb : Int) := by omega
            have hib : i ≤ 2513169434916 := by omega
            have hF0 := HT.out.disksA
            go_wp2_with (first
              | (go_at_call 10; go_must (first
                  | (refine hF0.mono ?_; rintro e u0 ⟨rfl, hT0⟩; have hF1 := hT0.disksB; clear hF0 hT0)
                  | (refine hF1.mono ?_; rintro e u1 ⟨rfl, hT1⟩; have HX := hid hT1.no; clear hF1 hT1)))
              | fail)
            go_ret
            exact ⟨rfl, HX.out⟩
end Go.Proofs.YtamoepninddbcaaGreat
namespace Go.Proofs.YtamoepninddbcaaGreat
open Go.ChangeShapes Go.WideShapes Go.ChangeAt Go.RowKit Go.Joins

set_option linter.unusedVariables false
theorem ownCacheBeside : ownKnob Tryz.prog.godebug = none := by kernel_rfl
theorem laidCacheBeside : laidOutB Tryz.prog = true := by kernel_rfl
set_option maxRecDepth 100000 in
theorem cacheBeside_lifted (os : Os) (started : os.Started) (H : Type) (enc : TypeId × Value → H) :
    ReturnsInHanded {} Tryz.checked os 4 .any (Rows.cacheBesideSpec.pre6 enc Tryz.prog Tryz.f4 Rows.cacheBesideRow.domain false) (Rows.cacheBesideSpec.post enc Tryz.prog Tryz.f4 false true false false) := by
  refine returnsInHanded_of_change_sized (C := Tryz.checked) ownCacheBeside started (by kernel_rfl) Tryz.func4
    (ChangeSpec.witness6 (enc := enc) (C := Tryz.checked) false ⟨#[], #[.slice none 0 0, .slice none 0 0], []⟩ 8 (by kernel_rfl) (by kernel_rfl) (by kernel_rfl) (by kernel_rfl)) ?_
  intro W base args ds gs before hval0 hW hcnd hsz0 _
  have hsz : (DataW.weightsEach Tryz.prog (Tryz.f4.params.toList ++ Rows.cacheBesideSpec.plain.varTypes Tryz.prog) (ds ++ gs)).all (· ≤ reachBytes) = true := hsz0
  have hval : ∀ (j : Nat) t v, Tryz.f4.params[j]? = some t → args[j]? = some v → Value.okWide Tryz.prog W .any base t v := hval0
  have hW' := hW
  obtain ⟨p, q, hA0, hV, rfl, hfz, hnd⟩ := hW
  have hA : DataW.TrodAll enc Tryz.prog W 0 (fun _ => true) true Tryz.f4.params.toList args.toList ds p := hA0
  rw [Tryz.params4] at hA hval hsz
  obtain ⟨v0, vs0, d0, ds0, p0, q0, hargs, rfl, rfl, h0, r0⟩ := trodAll_cons hA
  obtain ⟨v1, vs1, d1, ds1, p1, q1, rfl, rfl, rfl, h1, r1⟩ := trodAll_cons r0
  obtain ⟨rfl, rfl, rfl⟩ := trodAll_nil r1
  obtain rfl : args = #[v0, v1] := by cases args; simp_all
  obtain ⟨rfl, rfl⟩ := trodVars_none hV
  have k0 := h0
  have lt0 : ∀ x ∈ p0, x.block < W.heap.size := by obtain ⟨m, hm⟩ := k0; exact DataW.trod_lt m _ _ _ hm
  have k1 := h1
  have lt1 : ∀ x ∈ p1, x.block < W.heap.size := by obtain ⟨m, hm⟩ := k1; exact DataW.trod_lt m _ _ _ hm
  have hwt0 : ∀ n ∈ d0.weights Tryz.prog 22, n ≤ reachBytes := by
    intro n hn
    have := List.all_eq_true.1 hsz n (DataW.weights_mem_each (j := 0) (t := 22) (d := d0) rfl rfl n hn)
    simpa using this
  have hwt1 : ∀ n ∈ d1.weights Tryz.prog 22, n ≤ reachBytes := by
    intro n hn
    have := List.all_eq_true.1 hsz n (DataW.weights_mem_each (j := 1) (t := 22) (d := d1) rfl rfl n hn)
    simpa using this
  obtain ⟨z0, ad0, cap0, rfl, hl0, hz0, hy0⟩ := open_sc (hval 0 22 v0 rfl rfl) h0 hwt0
  obtain ⟨z1, ad1, cap1, rfl, hl1, hz1, hy1⟩ := open_sc (hval 1 22 v1 rfl rfl) h1 hwt1
  clear hA0 hval0
  refine (beside_walk z0 ad0 cap0 z1 ad1 cap1 W hz0 hl0 hy0 hz1 hl1 hy1).mono fun e W' ⟨he, bel0⟩ => ?_
  have bel := bel0.below
  subst he
  exact ⟨_, rfl, _, _, _, [], _, [], hW', trodAll_mk1 (shut_bool Tryz.underlying4 _), (trodAll_cons_mk (Below.trod laidCacheBeside (by kernel_rfl) (of_decide_eq_true (by kernel_rfl)) k0 bel lt0) (trodAll_cons_mk (Below.trod laidCacheBeside (by kernel_rfl) (of_decide_eq_true (by kernel_rfl)) k1 bel lt1) trodAll_mk0)), rfl, bel.frame _, fun h => by cases h⟩

theorem cacheBeside_holds : Rows.CacheBesideSaid :=
  OpenClaim.holds_of_wide 4 Tryz.f4 rfl rfl rfl rfl rfl rfl rfl ⟨rfl, rfl, rfl, rfl, rfl⟩ rfl rfl rfl rfl rfl (by kernel_rfl) Tryz.func4 (by kernel_rfl)
    (of_decide_eq_true (by kernel_rfl)) (by unfold Func.isWrapper; first | (rw [if_pos (by decide +kernel)]; kernel_rfl) | (rw [if_neg (by decide +kernel)]; exact ⟨rfl, rfl⟩))
    (fun os started H enc _ => cacheBeside_lifted os started H enc)

end Go.Proofs.YtamoepninddbcaaGreat
