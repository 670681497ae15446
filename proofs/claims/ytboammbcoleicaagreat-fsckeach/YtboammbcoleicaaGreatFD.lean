/-
  fsck.Run: what it answers, and what it leaves of the disk.
-/
import Derived.Test.YtboammbcoleicaaGreatFB
namespace Go.Proofs.YtboammbcoleicaaGreat
open Go.RowKit Go.Shelf

def leftN (ar : Bool) (lf : Int) (k : Nat) : Int := if ar = true then lf - k else lf
theorem take_one {l : List Int} {i : Nat} (h : i < l.length) : l.take (i + 1) = l.take i ++ [l.getD i 0] := by
  rw [List.take_succ_eq_append_getElem h, List.getD_eq_getElem?_getD, List.getElem?_eq_getElem h]
  rfl
/-- What writing leaves of a disk. -/
def WrPost (w : World) (p g : Nat) (im T : Img) (Wl : List Int) (nw : Int) (ar : Bool) (lf : Int) (E : Int) (w' : World) : Prop :=
  ((ar = true ∧ lf < Wl.length) ∧ E = 22 ∧ DK w' p g (wroteI T (Wl.take lf.toNat) im) (nw + lf) true true 0 ∨
    ¬ (ar = true ∧ lf < Wl.length) ∧ E = 0 ∧ DK w' p g (wroteI T Wl im) (nw + Wl.length) false ar (leftN ar lf Wl.length)) ∧ Chg w w' (fun k => k = p ∨ k = g)
theorem leftN_step {ar : Bool} {lf : Int} {k : Nat} : (if ar = true then leftN ar lf k - 1 else leftN ar lf k) = leftN ar lf (k + 1) := by
  unfold leftN
  cases ar
  · simp
  · simp
    omega

set_option maxHeartbeats 2000000 in
set_option maxRecDepth 100000 in
theorem fwrite_any {w : World} {p g : Nat} {im T : Img} {Wl : List Int} {nw : Int} {ar : Bool} {lf : Int} (gw wc s1 : Nat) (a1 : Option Addr) (v2 v3 : Value) (h : DK w p g im nw false ar lf) (hT : WtAt w gw T) (htl : T.length = im.length) (hg : gw ≠ g) (hL : LAt w a1 Wl)
    (hm : ∀ x ∈ Wl, 0 ≤ x ∧ x < im.length) (hwl : Wl.length ≤ 12288) (hw : 0 ≤ nw ∧ nw ≤ 1000000000000) (hl : 0 ≤ lf ∧ lf ≤ 9223372036854775807) (o2 : v2.oneCell' = true) (o3 : v3.oneCell' = true) :
    Calls Tryz.prog 33 #[.pointer (some ⟨p, 0, none⟩), .agg #[.slice (some ⟨gw, 0, none⟩) im.length wc, .slice a1 Wl.length s1, v2, v3]] w fun e w' => ∃ E, e = .returned (.int .i64 E) ∧ WrPost w p g im T Wl nw ar lf E w' := by
  have H := hid h
  have HT := hid hT
  have HL := hid hL
  have HM := hid hm
  have HO := hid (And.intro o2 o3)
  have HW := hid hw
  have HF := hid hl
  have hpg := h.lt
  have hgw := hT.lt
  obtain ⟨n, hn⟩ : ∃ y, y = im.length := ⟨_, rfl⟩
  obtain ⟨k, hk⟩ : ∃ y, y = Wl.length := ⟨_, rfl⟩
  have HN := hid hn
  have HK := hid hk
  rw [← hn] at HM htl ⊢
  rw [← hk] at hwl ⊢
  have HTL := hid htl
  clear h hT hL hm o2 o3 hw hl hn hk htl
  have hb : (#[Value.slice (some ⟨gw, 0, none⟩) n wc, .slice a1 k s1, v2, v3]).all (·.oneCell') = true := rep_one _ _ _ rfl HO.out.1 HO.out.2
  go_enter Tryz.func33, Tryz.ntmps33
  go_upto_region 1 with fail
  have hA := Chg.alloc w (.cells #[Value.slice (some ⟨gw, 0, none⟩) n wc, .slice a1 k s1, v2, v3] 29) No
  have hA2 := heap_alloc_new w (.cells #[Value.slice (some ⟨gw, 0, none⟩) n wc, .slice a1 k s1, v2, v3] 29)
  obtain ⟨w1, hw1⟩ : ∃ y, y = w.alloc (.cells #[Value.slice (some ⟨gw, 0, none⟩) n wc, .slice a1 k s1, v2, v3] 29) := ⟨_, rfl⟩
  rw [← hw1] at hA hA2 ⊢
  have HA := hid hA
  obtain ⟨b, hb⟩ : ∃ y, y = w.heap.size := ⟨_, rfl⟩
  have HB := hid hb
  rw [← hb] at hA2 ⊢
  have HA2 := hid hA2
  clear hw1 hA hA2 hb
  have HQ : Hid (∀ (W' : World) (_hW : Chg w1 W' (fun j => j = p ∨ j = g)), W'.cell? ⟨b, 0, none⟩ = some (.slice (some ⟨gw, 0, none⟩) n wc) ∧ W'.cell? ⟨b, 1, none⟩ = some (.slice a1 k s1)) := hid (fun W' hW => by
    have h0 := hW.keep HA2.out (by rw [HB.out]; omega)
    exact ⟨(cell_of_row _ _ _ _ _ _ h0).trans rfl, (cell_of_row _ _ _ _ _ _ h0).trans rfl⟩)
  have HL1 : Hid (∀ i, i < k → ∃ ga, a1 = some ⟨ga, 0, none⟩ ∧ ∀ (W' : World) (_hW : Chg w1 W' (fun j => j = p ∨ j = g)), W'.cell? ⟨ga, i, none⟩ = some (.int .i64 (Wl.getD i 0))) := hid (fun i hi => by
    rw [HK.out] at hi
    rcases HL.out with e | ⟨ga, e, ⟨A, hA⟩, hc⟩
    · rw [e] at hi; simp at hi
    · refine ⟨ga, e, fun W' hW => ?_⟩
      have hl := slt hA
      refine cell_keep (cell_keep (hc i hi) HA.out hl (fun e => e)) hW (Nat.lt_of_lt_of_le hl HA.out.size) ?_
      rintro (e1 | e1)
      · exact obj_ne hA H.out.d.me (by intro e; cases e) e1
      · exact obj_ne hA H.out.d.row (by intro e; cases e) e1)
  have HR1 : Hid (∀ (W' : World) (_hW : Chg w1 W' (fun j => j = p ∨ j = g)) (j : Nat) (_hj : j < n), W'.rangeAt gw (j * 128) ((secI T (j : Int)).map (Value.int .u8))) := hid (fun W' hW j hj => ((HT.out.keep HA.out (fun e => e)).keep hW (by
    rintro (e1 | e1)
    · obtain ⟨_, A, hA, _⟩ := HT.out
      exact obj_ne hA H.out.d.me (by intro e; cases e) e1
    · exact hg e1)).range (by rw [HTL.out]; exact hj))
  have HTs : Hid (∀ j, IsSec (secI T j)) := hid (fun j => HT.out.sec j)
  have HMl : Hid (∀ i, i < k → ∃ m : Nat, Wl.getD i 0 = (m : Int) ∧ m < n) := hid (fun i hi => by
    have hm : Wl.getD i 0 ∈ Wl := by
      rw [HK.out] at hi
      rw [List.getD_eq_getElem?_getD, List.getElem?_eq_getElem hi]
      exact List.getElem_mem hi
    have := HM.out _ hm
    exact ⟨(Wl.getD i 0).toNat, by omega, by omega⟩)
  have HD1 : Hid (DK w1 p g (wroteI T (Wl.take 0) im) (nw + ((0 : Nat) : Int)) false ar (leftN ar lf 0)) := hid (by
    have := H.out.call HA.out
    have e : leftN ar lf 0 = lf := by unfold leftN; cases ar <;> simp
    rw [e, Int.natCast_zero, Int.add_zero]
    exact this)
  obtain ⟨q0, q1⟩ := HQ.out w1 (Chg.refl _ _)
  go_wp2_with fail
  clear q0 q1
  go_loopw [11] (fun x wq => ∃ i : Nat, x = .int .i64 i ∧ i ≤ k ∧ Hid (DK wq p g (wroteI T (Wl.take i) im) (nw + i) false ar (leftN ar lf i)) ∧ Hid (ar = true → (i : Int) ≤ lf) ∧ Hid (Chg w1 wq (fun j => j = p ∨ j = g))) (fun x _ => k - (intOf x).toNat)
  case atStart => exact ⟨0, rfl, by omega, HD1, hid (fun _ => HF.out.1), hid (Chg.refl _ _)⟩
  case round =>
    clear HD1
    obtain ⟨i, rfl, hi, HDi, HLi, HCi⟩ := hrel
    by_cases hlt : i < k
    · have hki : (i : Int) < (k : Int) := by omega
      have hk0 : (0 : Int) ≤ (i : Int) := by omega
      obtain ⟨q0, q1⟩ := HQ.out wr HCi.out
      obtain ⟨ga, ha1, hga⟩ := HL1.out i hlt
      subst ha1
      obtain ⟨m, hm, hmn⟩ := HMl.out i hlt
      rw [hm] at hga
      have c1 := hga wr HCi.out
      have m2 : (0 : Int) ≤ (m : Int) := by omega
      have m3 : (m : Int) < (n : Int) := by omega
      obtain ⟨tk, htk⟩ : ∃ y, y = secI T (m : Int) := ⟨_, rfl⟩
      have HR := hid (HR1.out wr HCi.out m hmn)
      rw [← htk] at HR
      have HTS : Hid (IsSec tk) := hid (by rw [htk]; exact HTs.out _)
      have HSA : Hid ((tk.map (Value.int .u8)).toArray = SA tk) := hid rfl
      have HNx : Hid ((wroteI T (Wl.take i) im).set m tk = wroteI T (Wl.take (i + 1)) im) := hid (by
        rw [take_one (by rw [← HK.out]; exact hlt), wroteI_append, hm, htk]
        rfl)
      clear htk hm hga
      have hml : m < (wroteI T (Wl.take i) im).length := by rw [wroteI_len, ← HN.out]; exact hmn
      have HWi : Hid (0 ≤ nw + (i : Int) ∧ nw + (i : Int) < 4611686018427387904) := hid (by have := HW.out; omega)
      have HLf : Hid (0 ≤ leftN ar lf i ∧ leftN ar lf i ≤ 9223372036854775807) := hid (by
        have h1 := HF.out
        have h2 := HLi.out
        unfold leftN
        cases ar
        · simpa using h1
        · have := h2 rfl
          simp
          omega)
      by_cases hc : ar = true ∧ leftN ar lf i = 0
      · obtain ⟨rfl, hz⟩ := hc
        have hD := HDi.out
        rw [hz] at hD
        have hWr := dk_cut hD m tk hml HTS.out HWi.out
        have HLF : Hid (lf = (i : Int)) := hid (by unfold leftN at hz; simp at hz; omega)
        clear hD hz hml
        go_upto_region 5 with (first
          | (refine load_mid 40 _ rfl gw (m * 128) rfl _ _ HR.out Tryz.underlying40 rfl (by rw [sz26, List.length_map]; exact congrArg some HTS.out.1.symm) (by rfl) ?_; rw [HSA.out])
          | (go_at_call 14; go_must (refine hWr.mono ?_; rintro e w3 ⟨rfl, hd3, hc3⟩))
          | fail)
        have HF3 : Hid (WrPost w p g im T Wl nw true lf 22 w3) := hid ⟨.inl ⟨⟨rfl, by rw [HLF.out, ← HK.out]; omega⟩, rfl, by rw [HLF.out, Int.toNat_natCast]; exact hd3⟩, (HA.out.trans HCi.out (c := fun j => j = p ∨ j = g) (fun _ _ e => e.elim) (fun _ _ e => e)).trans hc3 (fun _ _ e => e) (fun _ _ e => e)⟩
        clear hd3 hc3 hWr
        go_wp2_with fail
        go_ret
        exact ⟨22, rfl, HF3.out⟩
      · have hWr := dk_write HDi.out m tk hml HTS.out HWi.out HLf.out hc
        have HLj : Hid (ar = true → ((i + 1 : Nat) : Int) ≤ lf) := hid (fun e => by
          have h2 := HLi.out e
          have h3 : leftN ar lf i ≠ 0 := fun k => hc ⟨e, k⟩
          unfold leftN at h3
          rw [if_pos e] at h3
          omega)
        clear hml hc
        go_upto_region 5 with (first
          | (refine load_mid 40 _ rfl gw (m * 128) rfl _ _ HR.out Tryz.underlying40 rfl (by rw [sz26, List.length_map]; exact congrArg some HTS.out.1.symm) (by rfl) ?_; rw [HSA.out])
          | (go_at_call 14; go_must (refine hWr.mono ?_; rintro e w3 ⟨rfl, hd3, hc3⟩))
          | fail)
        have HD3 : Hid (DK w3 p g (wroteI T (Wl.take (i + 1)) im) (nw + ((i + 1 : Nat) : Int)) false ar (leftN ar lf (i + 1))) := hid (by
          rw [leftN_step, HNx.out] at hd3
          have e : nw + ((i + 1 : Nat) : Int) = nw + (i : Int) + 1 := by omega
          rw [e]
          exact hd3)
        have HC3 : Hid (Chg w1 w3 (fun j => j = p ∨ j = g)) := hid (HCi.out.trans hc3 (fun _ _ e => e) (fun _ _ e => e))
        clear hd3 hc3 hWr
        go_wp2_with fail
        exact ⟨⟨i + 1, by go_num, by omega, HD3, HLj, HC3⟩, by simp [intOf]; omega⟩
    · have hki : ¬ (i : Int) < (k : Int) := by omega
      obtain rfl : i = k := by omega
      have HF3 : Hid (WrPost w p g im T Wl nw ar lf 0 wr) := hid ⟨.inr ⟨fun e => by have := HLi.out e.1; rw [← HK.out] at e; omega, rfl, by
        have := HDi.out
        rw [HK.out, List.take_length] at this
        exact this⟩, HA.out.trans HCi.out (fun _ _ e => e.elim) (fun _ _ e => e)⟩
      clear hi
      go_wp2_with fail
      go_ret
      exact ⟨0, rfl, HF3.out⟩
end Go.Proofs.YtboammbcoleicaaGreat

namespace Go.Proofs.YtboammbcoleicaaGreat
open Go.RowKit Go.Shelf

/-- An image that is not refused. -/
structure II (im : Img) (M : Nat) : Prop where
  sup : (supOf im).2.2 = 0
  hM : M = (supOf im).2.1.toNat
  ml : M + 2 ≤ im.length
  root : rootB M im = true
  sec : AllSec im
  n1 : 8 ≤ im.length
  n2 : im.length ≤ 4096
theorem LkC.ii {w0 w : World} {im : Img} {M gw s1 : Nat} {a1 a2 a3 : Option Addr} (h : LkC w0 w im M gw s1 a1 a2 a3) : II im M := ⟨h.sup, h.hM, h.ml, h.root, h.sec, h.n1, h.n2⟩
theorem II.one {im : Img} {M M' : Nat} (h : II im M) (k : II im M') : M' = M := by rw [h.hM, k.hM]
def kW (M : Nat) (im : Img) : Nat := (writeI M im (lookL M im)).length
theorem kW_le (M : Nat) (im : Img) : kW M im ≤ im.length * 3 := by
  unfold kW
  rw [writeI_rows, List.length_append, List.length_append]
  have h0 := keysL_len im.length fun x => decide (wrKind M im (lookL M im).wt (lookL M im).wp x = 0)
  have h1 := keysL_len im.length fun x => decide (wrKind M im (lookL M im).wt (lookL M im).wp x = 1)
  have h2 := keysL_len im.length fun x => decide (wrKind M im (lookL M im).wt (lookL M im).wp x = 2)
  unfold rowL
  omega
def repV (n gw wc k s1 i s2 b s3 : Nat) (a1 a2 a3 : Option Addr) : Array Value := #[.slice (some ⟨gw, 0, none⟩) n wc, .slice a1 k s1, .slice a2 i s2, .slice a3 b s3]
theorem repV_one (n gw wc k s1 i s2 b s3 : Nat) (a1 a2 a3 : Option Addr) : (repV n gw wc k s1 i s2 b s3 a1 a2 a3).all (·.oneCell') = true := rep_one _ _ _ rfl rfl rfl
/-- What Run leaves, of a disk that has its power. -/
def RunPost (w : World) (p g : Nat) (im : Img) (nw : Int) (ar : Bool) (lf : Int) (e : Ending) (w' : World) : Prop :=
  ((∀ M, ¬ II im M) ∧ ∃ E, (E = lookE im ∧ (E = 120 ∨ E = 121)) ∧ e = .returned (.tuple #[.agg nil4, .int .i64 E]) ∧ Chg w w' No) ∨
  (∃ M, II im M ∧ (ar = true ∧ lf < kW M im) ∧ e = .returned (.tuple #[.agg nil4, .int .i64 22]) ∧ DK w' p g (cutI M im lf.toNat) (nw + lf) true true 0 ∧ Chg w w' (fun k => k = p ∨ k = g)) ∨
  (∃ M gw wc s1 s2 s3 a1 a2 a3, ¬ (ar = true ∧ lf < kW M im) ∧ e = .returned (.tuple #[.agg (repV im.length gw wc (kW M im) s1 (inodesI M (lookL M im)).length s2 (blocksI im (lookL M im)).length s3 a1 a2 a3), .int .i64 0]) ∧
    DK w' p g (lookL M im).wt (nw + kW M im) false ar (leftN ar lf (kW M im)) ∧ LkC w w' im M gw s1 a1 a2 a3 ∧ Chg w w' (fun k => k = p ∨ k = g))

set_option maxHeartbeats 1000000 in
set_option maxRecDepth 100000 in
theorem run_nil (w : World) : Calls Tryz.prog 10 #[.pointer none] w fun e w' => e = .returned (.tuple #[.agg nil4, .int .i64 1]) ∧ Chg w w' No := by
  have hzr := zero_rep
  have hbr := build_rep
  have HN := hid (heap_alloc_new w (.cells nil4 29))
  go_enter Tryz.func10, Tryz.ntmps10
  go_wp2_with (first
    | (refine store_R rfl 29 _ _ rfl w.heap.size nil4 rfl rfl 29 _ HN.out szRep rfl nil4_one ?_; intro w5 hw5)
    | fail)
  refine bodyPost_ret (v := .tuple #[.agg nil4, .int .i64 1]) (results_R Tryz.results10 _ _ w.heap.size _ 29 _ _ Tryz.underlying29 rfl szRep rfl rfl hw5.here) rfl ⟨rfl, (Chg.alloc w _ No).trans (kt_new hw5) (fun _ _ e => e) (fun j hj e => by omega)⟩

set_option maxHeartbeats 1000000 in
set_option maxRecDepth 100000 in
theorem run_down {w : World} {p g : Nat} {im : Img} {nw : Int} {ar : Bool} {lf : Int} (h : DK w p g im nw true ar lf) : Calls Tryz.prog 10 #[.pointer (some ⟨p, 0, none⟩)] w fun e w' => e = .returned (.tuple #[.agg nil4, .int .i64 22]) ∧ Chg w w' No := by
  have hzr := zero_rep
  have hbr := build_rep
  have HN := hid (heap_alloc_new w (.cells nil4 29))
  have hA := Chg.alloc w (.cells nil4 29) No
  have hP := power_any (h.call hA)
  have HA := hid hA
  clear h hA
  go_enter Tryz.func10, Tryz.ntmps10
  go_wp2_with (first
    | (go_at_call 31; go_must (refine hP.mono ?_; rintro e w1 ⟨rfl, hc1⟩; have HN1 := hid (hc1.keep HN.out (fun e => e)); have HC1 := hid (HA.out.tr hc1); clear hc1))
    | (refine store_R rfl 29 _ _ rfl w.heap.size nil4 rfl rfl 29 _ HN1.out szRep rfl nil4_one ?_; intro w5 hw5)
    | fail)
  refine bodyPost_ret (v := .tuple #[.agg nil4, .int .i64 22]) (results_R Tryz.results10 _ _ w.heap.size _ 29 _ _ Tryz.underlying29 rfl szRep rfl rfl hw5.here) rfl ⟨rfl, HC1.out.trans (kt_new hw5) (fun _ _ e => e) (fun j hj e => by omega)⟩

set_option maxHeartbeats 4000000 in
set_option maxRecDepth 100000 in
theorem run_any {w : World} {p g : Nat} {im : Img} {nw : Int} {ar : Bool} {lf : Int} (h : DK w p g im nw false ar lf) (hw : 0 ≤ nw ∧ nw ≤ 1000000000000) (hl : 0 ≤ lf ∧ lf ≤ 9223372036854775807) : Calls Tryz.prog 10 #[.pointer (some ⟨p, 0, none⟩)] w fun e w' => RunPost w p g im nw ar lf e w' := by
  have hzr := zero_rep
  have hbr := build_rep
  have hN0 := heap_alloc_new w (.cells nil4 29)
  have HN := hid hN0
  have hA := Chg.alloc w (.cells nil4 29) No
  have H := hid (h.call hA)
  have hP := power_any H.out
  have HA := hid hA
  have HW := hid hw
  have HF := hid hl
  have hlt := h.lt
  have HPG := hid hlt
  obtain ⟨n, hn⟩ : ∃ y, y = im.length := ⟨_, rfl⟩
  have HNN := hid hn
  have HIm : Hid (∀ W, DK W p g im nw false ar lf → Calls Tryz.prog 18 #[.pointer (some ⟨p, 0, none⟩)] W fun e w' => ∃ q, e = .returned (.slice (some ⟨q, 0, none⟩) n n) ∧ W.heap.size ≤ q ∧ WtAt w' q im ∧ Chg W w' No) := hid (fun W hW => by
    have := dk_image hW
    rw [← hn] at this
    exact this)
  have HLk : Hid (∀ W q, WtAt W q im → Calls Tryz.prog 32 #[.slice (some ⟨q, 0, none⟩) n n] W fun e w' => Chg W w' No ∧ ((((supOf im).2.2 = 0 → rootB (supOf im).2.1.toNat im = false) ∧ ∃ E, (Hid (E = lookE im) ∧ (E = 120 ∨ E = 121)) ∧ e = .returned (.tuple #[.agg nil4, .int .i64 E])) ∨
      ∃ M gw wc s1 s2 s3 a1 a2 a3, e = .returned (.tuple #[.agg (repV n gw wc (kW M im) s1 (inodesI M (lookL M im)).length s2 (blocksI im (lookL M im)).length s3 a1 a2 a3), .int .i64 0]) ∧ LkC W w' im M gw s1 a1 a2 a3)) := hid (fun W q hW => by
    have := look_c (some ⟨q, 0, none⟩) n im W (ImgAt.of_wt hW)
    rw [← hn] at this
    exact this)
  obtain ⟨b, hb⟩ : ∃ y, y = w.heap.size := ⟨_, rfl⟩
  have HB := hid hb
  clear h hA hw hl hn hN0
  go_enter Tryz.func10, Tryz.ntmps10
  go_upto_region 6 with (first
    | (go_at_call 31; go_must (refine hP.mono ?_; rintro e w1 ⟨rfl, hc1⟩; have HN1 := hid (hc1.keep HN.out (fun e => e)); have HC1 := hid (HA.out.tr hc1); have hI := HIm.out w1 (H.out.call hc1); have HD1 := hid (H.out.call hc1); clear hc1))
    | (go_at_call 18; go_must (refine hI.mono ?_; rintro e w2 ⟨q, rfl, hq, hwq, hc2⟩; have hLk := HLk.out w2 q hwq))
    | (go_at_call 32; go_must (refine hLk.mono ?_; rintro e w3 ⟨hc3, ⟨hbad, E, hE0, rfl⟩ | ⟨M, gw, wc, s1, s2, s3, a1, a2, a3, rfl, hX⟩⟩))
    | (refine store_R rfl 29 _ _ rfl w3.heap.size nil4 rfl rfl 29 _ (heap_alloc_new _ _) szRep rfl nil4_one ?_; intro w4 hw4)
    | (refine store_R rfl 29 _ _ rfl w3.heap.size (repV n gw wc (kW M im) s1 (inodesI M (lookL M im)).length s2 (blocksI im (lookL M im)).length s3 a1 a2 a3) rfl rfl 29 _ (heap_alloc_new _ _) szRep rfl (repV_one _ _ _ _ _ _ _ _ _ _ _ _) ?_; intro w4 hw4)
    | fail)
  · have h14 : Chg w1 w4 No := ((hc2.tr hc3).tr (Chg.alloc w3 _ No)).trans (kt_new hw4) (fun _ _ e => e) (fun j hj e => by have := (hc2.tr hc3).size; omega)
    have HC4 : Hid (Chg w w4 No) := hid (HC1.out.tr h14)
    have HN4 := hid (h14.keep HN1.out (fun e => e))
    have HNo : Hid (∀ M, ¬ II im M) := hid (fun M hM => by
      have := hbad hM.sup
      rw [← hM.hM, hM.root] at this
      cases this)
    rw [← hb] at HN4 ⊢
    clear h14 hw4 hc2 hc3 hwq hq hLk hI hP hbad HN HN1 hb
    obtain ⟨HEl, hE0⟩ := hE0
    rcases hE0 with rfl | rfl
    · go_wp2_with (first
        | (refine store_R rfl 29 _ _ rfl b nil4 rfl rfl 29 _ HN4.out szRep rfl nil4_one ?_; intro w5 hw5)
        | fail)
      refine bodyPost_ret (v := .tuple #[.agg nil4, .int .i64 120]) (results_R Tryz.results10 _ _ b _ 29 _ _ Tryz.underlying29 rfl szRep rfl rfl hw5.here) rfl (.inl ⟨HNo.out, 120, ⟨HEl.out, .inl rfl⟩, rfl, HC4.out.trans (kt_new hw5) (fun _ _ e => e) (fun j hj e => by rw [HB.out] at e; omega)⟩)
    · go_wp2_with (first
        | (refine store_R rfl 29 _ _ rfl b nil4 rfl rfl 29 _ HN4.out szRep rfl nil4_one ?_; intro w5 hw5)
        | fail)
      refine bodyPost_ret (v := .tuple #[.agg nil4, .int .i64 121]) (results_R Tryz.results10 _ _ b _ 29 _ _ Tryz.underlying29 rfl szRep rfl rfl hw5.here) rfl (.inl ⟨HNo.out, 121, ⟨HEl.out, .inr rfl⟩, rfl, HC4.out.trans (kt_new hw5) (fun _ _ e => e) (fun j hj e => by rw [HB.out] at e; omega)⟩)
  · have h34 : Chg w3 w4 No := (Chg.alloc w3 _ No).trans (kt_new hw4) (fun _ _ e => e) (fun j hj e => by omega)
    have h14 : Chg w1 w4 No := (hc2.tr hc3).tr h34
    have HC4 : Hid (Chg w w4 No) := hid (HC1.out.tr h14)
    have HN4 := hid (h14.keep HN1.out (fun e => e))
    have HD4 := hid (HD1.out.call h14)
    have HX := hid hX
    have HG4 := hid hw4.here
    have HWt := hid (hX.wt.keep h34 (fun e => e))
    have HL1 := hid (hX.l1.call h34)
    have HL2 := hid (hX.l2.call h34)
    have HL3 := hid (hX.l3.call h34)
    have HNw : Hid (w.heap.size ≤ gw) := hid (by have := hX.new; have := HC1.out.size; have := hc2.size; omega)
    obtain ⟨b4, hb4⟩ : ∃ y, y = w3.heap.size := ⟨_, rfl⟩
    have HB4 : Hid (w.heap.size + 1 ≤ b4) := hid (by have := slt HN1.out; have := (hc2.tr hc3).size; omega)
    have hWr := fwrite_any gw wc s1 a1 (.slice a2 (inodesI M (lookL M im)).length s2) (.slice a3 (blocksI im (lookL M im)).length s3) HD4.out HWt.out hX.tl (by have := HNw.out; omega) HL1.out (fun x hx => by have := write_in.1 hx; exact ⟨this.1, this.2.1⟩) (by have := kW_le M im; unfold kW at this; have := hX.n2; omega) HW.out HF.out rfl rfl
    rw [← HNN.out] at hWr
    rw [← hb4] at HG4 ⊢
    rw [← hb] at HN4 ⊢
    obtain ⟨k, hk⟩ : ∃ y, y = kW M im := ⟨_, rfl⟩
    have hk' : (writeI M im (lookL M im)).length = k := hk.symm
    rw [hk'] at hWr
    obtain ⟨i, hi⟩ : ∃ y, y = (inodesI M (lookL M im)).length := ⟨_, rfl⟩
    obtain ⟨bl, hbl⟩ : ∃ y, y = (blocksI im (lookL M im)).length := ⟨_, rfl⟩
    rw [← hi, ← hbl] at hWr
    rw [← hk, ← hi, ← hbl] at HG4 ⊢
    have HKK := hid hk
    have HII := hid hi
    have HBB := hid hbl
    clear hk hk' hi hbl hX h34 h14 hw4 hc2 hc3 hwq hq hLk hI hP HN HN1 hb hb4 hlt
    go_upto_region 9 with (first
      | (refine load_R rfl 29 _ rfl b4 rfl 29 _ _ HG4.out Tryz.underlying29 rfl szRep ?_)
      | (go_at_call 33; go_must (refine hWr.mono ?_; rintro e w5 ⟨E, rfl, hp5, hc5⟩))
      | fail)
    have HC5 : Hid (Chg w w5 (fun k => k = p ∨ k = g)) := hid (HC4.out.trans hc5 (fun _ _ e => e.elim) (fun _ _ e => e))
    have hpb : p < w.heap.size ∧ g < w.heap.size := HPG.out
    have HN5 := hid (hc5.keep HN4.out (by rw [HB.out]; omega))
    have HG5 := hid (hc5.keep HG4.out (by have := HB4.out; omega))
    rcases hp5 with ⟨hcut, rfl, hd5⟩ | ⟨hcut, rfl, hd5⟩
    · have HD5 : Hid (DK w5 p g (cutI M im lf.toNat) (nw + lf) true true 0) := hid hd5
      have HCut : Hid (ar = true ∧ lf < kW M im) := hid hcut
      clear hd5 hcut hc5 hWr hpb
      go_wp2_with (first
        | (refine store_R rfl 29 _ _ rfl b nil4 rfl rfl 29 _ HN5.out szRep rfl nil4_one ?_; intro w6 hw6)
        | fail)
      refine bodyPost_ret (v := .tuple #[.agg nil4, .int .i64 22]) (results_R Tryz.results10 _ _ b _ 29 _ _ Tryz.underlying29 rfl szRep rfl rfl hw6.here) rfl (.inr (.inl ⟨M, HX.out.ii, HCut.out, rfl, HD5.out.keep (kt_new hw6) (by have := HPG.out; rw [HB.out]; omega) (by have := HPG.out; rw [HB.out]; omega), HC5.out.trans (kt_new hw6) (fun _ _ e => e) (fun j hj e => by rw [HB.out] at e; omega)⟩))
    · have HD5 : Hid (DK w5 p g (lookL M im).wt (nw + kW M im) false ar (leftN ar lf (kW M im))) := hid (by
        have e := cut_all HX.out.root
        unfold cutI at e
        rw [List.take_length] at e
        rw [e] at hd5
        exact hd5)
      have HCut : Hid (¬ (ar = true ∧ lf < kW M im)) := hid hcut
      have h35 : Chg w4 w5 (fun k => k = p ∨ k = g) := hc5
      have HWt5 : Hid (WtAt w5 gw (lookL M im).wt) := hid (HWt.out.keep h35 (by have := HNw.out; omega))
      have lat : ∀ {a : Option Addr} {l : List Int}, LAt w4 a l → LAt w5 a l := fun {a l} hL => by
        rcases hL with e | ⟨ga, e, ⟨A, hA⟩, hc⟩
        · exact .inl e
        · have hne : ¬ (ga = p ∨ ga = g) := by
            rintro (e1 | e1)
            · exact obj_ne hA HD4.out.d.me (by intro e; cases e) e1
            · exact obj_ne hA HD4.out.d.row (by intro e; cases e) e1
          exact .inr ⟨ga, e, ⟨A, h35.keep hA hne⟩, fun k hk => cell_keep (hc k hk) h35 (slt hA) hne⟩
      have HL15 := hid (lat HL1.out)
      have HL25 := hid (lat HL2.out)
      have HL35 := hid (lat HL3.out)
      clear hd5 hcut hc5 hWr hpb h35 lat
      go_wp2_with (first
        | (refine load_R rfl 29 _ rfl b4 rfl 29 _ _ HG5.out Tryz.underlying29 rfl szRep ?_)
        | (refine store_R rfl 29 _ _ rfl b (repV n gw wc k s1 i s2 bl s3 a1 a2 a3) rfl rfl 29 _ HN5.out szRep rfl (repV_one _ _ _ _ _ _ _ _ _ _ _ _) ?_; intro w6 hw6)
        | fail)
      have h56 : Chg w5 w6 (fun j => j = b) := kt_new hw6
      have bb := HB.out
      have nb : ∀ {a : Option Addr} {l : List Int}, LAt w5 a l → LAt w6 a l := fun {a l} hL => by
        rcases hL with e | ⟨ga, e, ⟨A, hA⟩, hc⟩
        · exact .inl e
        · have hne : ¬ ga = b := obj_ne hA HN5.out (by intro e; cases e)
          exact .inr ⟨ga, e, ⟨A, h56.keep hA hne⟩, fun k hk => cell_keep (hc k hk) h56 (slt hA) hne⟩
      refine bodyPost_ret (v := .tuple #[.agg (repV n gw wc k s1 i s2 bl s3 a1 a2 a3), .int .i64 0]) (results_R Tryz.results10 _ _ b _ 29 _ _ Tryz.underlying29 rfl szRep rfl rfl hw6.here) rfl (.inr (.inr ⟨M, gw, wc, s1, s2, s3, a1, a2, a3, HCut.out, by rw [← HKK.out, ← HII.out, ← HBB.out, ← HNN.out], HD5.out.keep h56 (by have := HPG.out; omega) (by have := HPG.out; omega), ?_, HC5.out.trans h56 (fun _ _ e => e) (fun j hj e => by omega)⟩))
      have hne : ¬ gw = b := by
        obtain ⟨_, A, hA, _⟩ := HWt5.out
        exact obj_ne hA HN5.out (by intro e; cases e)
      have X := HX.out
      exact ⟨X.sup, X.hM, X.ml, X.root, X.sec, X.n1, X.n2, HWt5.out.keep h56 hne, HNw.out, X.tl, X.c1, nb HL15.out, nb HL25.out, nb HL35.out⟩
end Go.Proofs.YtboammbcoleicaaGreat
