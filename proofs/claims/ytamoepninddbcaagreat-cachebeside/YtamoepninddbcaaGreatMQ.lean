/-
  The program's Read and Mark, whatever is asked of whatever cache; the statements' own sameEdges.
-/
import Derived.Test.YtamoepninddbcaaGreatKR
namespace Go.Proofs.YtamoepninddbcaaGreat
open Classical

def tc (z : CSt) : Nat := z.ld.length + tsum z.P
theorem tc_tb {z : CSt} (h : tc z ≤ 17592186044000) : TB z := h
/-- It lives: the cache has its disk, and the power is there. -/
def AL (z : CSt) : Prop := z.lost = false ∧ z.d.dn = false
structure NX (z : CSt) (k : Nat) (m : Int) (r : CSt × Int) : Prop where
  tc : tc r.1 ≤ tc z + k
  wr : r.1.d.wr ≤ z.d.wr + m
  al : r.2 ≠ 22 → AL r.1
  lo : r.2 = 22 → r.1.lost = true
theorem NX.same {z : CSt} {k : Nat} {m : Int} {c : Int} (ha : AL z) (hc : c ≠ 22) (hm : 0 ≤ m) : NX z k m (z, c) :=
  ⟨by simp, by simp; omega, fun _ => ha, fun e => absurd e hc⟩
theorem NX.more {z : CSt} {k k' : Nat} {m m' : Int} {r : CSt × Int} (h : NX z k m r) (hk : k ≤ k') (hm : m ≤ m') : NX z k' m' r :=
  ⟨by have := h.tc; omega, by have := h.wr; omega, h.al, h.lo⟩
theorem writeE_dn {d : D.St8} {n : Nat} {x : Int} {s : List Int} (h : D.writeE d n x = 0) : (D.writeD d n x s).dn = false := by
  unfold D.writeE at h
  split at h
  · rename_i h1
    have hd : d.dn = false := by
      unfold D.refE at h1
      cases hb : d.dn with
      | false => rfl
      | true => rw [hb, if_pos rfl] at h1; cases h1
    split at h
    · cases h
    · rename_i h2
      unfold D.writeD
      rw [if_pos h1, if_neg h2]
      exact hd
  · rename_i h1
    exact absurd h h1
theorem wrC_nx {n : Nat} {z : CSt} (hi : CInv n z) (ha : AL z) {x : Int} (hx : z.dirty x) : NX z 0 1 (wrC n z x) := by
  obtain ⟨q, hq⟩ := Option.isSome_iff_exists.1 hx
  have hw := (wrC_wr (n := n) (z := z) x).2
  have hok := hi.ok x hx
  refine ⟨?_, hw, ?_, ?_⟩
  · rcases writeE_cases z.d n x hok.1 hok.2 with h | h
    · rw [wrC_done ha.1 hq h]
      have hs := tsum_upd z.P x (hi.sec hx) none
      rw [hq] at hs
      simp only [tl] at hs
      unfold tc forC
      simp only [List.length_append]
      omega
    · rw [wrC_down ha.1 hq h]
      unfold tc
      simp only
      omega
  · intro h22
    rcases writeE_cases z.d n x hok.1 hok.2 with h | h
    · rw [wrC_done ha.1 hq h]
      exact ⟨ha.1, writeE_dn h⟩
    · rw [wrC_down ha.1 hq h] at h22
      exact absurd rfl h22
  · intro h22
    rcases writeE_cases z.d n x hok.1 hok.2 with h | h
    · rw [wrC_done ha.1 hq h] at h22
      cases h22
    · rw [wrC_down ha.1 hq h]
theorem wAll_nx {n : Nat} : ∀ (k : Nat) (z : CSt) (l : List Int), CInv n z → AL z → l.Pairwise (· ≠ ·) → (∀ x, x ∈ l → z.dirty x) → NX z 0 (k : Int) (wAll n k z l)
  | 0, z, l, hi, ha, _, _ => NX.same ha (by decide) (by omega)
  | k + 1, z, l, hi, ha, hn, hd => by
    unfold wAll
    split
    · exact NX.same ha (by decide) (by omega)
    · rename_i x hf
      have hm := List.mem_of_find?_eq_some hf
      have h1 := wrC_nx hi ha (hd x hm)
      split
      · rename_i h0
        have ha1 := h1.al (by rw [h0]; decide)
        have hdd := (wrC_dirty hi (hd x hm) h0).1
        have h2 := wAll_nx k (wrC n z x).1 (l.erase x) (wrC_inv hi x) ha1 (hn.sublist List.erase_sublist) (fun y hy => (hdd y).2 ⟨hd y (List.mem_of_mem_erase hy), fun e => by
          subst e
          have hnd : l.Nodup := hn
          exact (hnd.mem_erase_iff.1 hy).1 rfl⟩)
        exact ⟨by have := h2.tc; have := h1.tc; omega, by have := h2.wr; have := h1.wr; push_cast; omega, h2.al, h2.lo⟩
      · exact h1.more (Nat.le_refl _) (by push_cast; omega)
theorem befC_nd {z : CSt} {x : Int} : (befC z x ++ [x]).Pairwise (· ≠ ·) := by
  rw [List.pairwise_append]
  refine ⟨(secs_up _).imp (fun h => by omega), by simp, fun a ha b hb => ?_⟩
  have hb := List.mem_singleton.1 hb
  subst hb
  exact (secs_mem.1 ha).2.1
theorem drain_nx {n : Nat} {z : CSt} (hi : CInv n z) (ha : AL z) (x : Int) : NX z 0 5000 (drainC n z x) := by
  unfold drainC
  split
  · rename_i hx
    have hl : (befC z x).length ≤ 4096 := secs_len _
    refine (wAll_nx _ z _ hi ha befC_nd (fun y hy => ?_)).more (Nat.le_refl _) (by omega)
    rcases List.mem_append.1 hy with hy | hy
    · exact reach_dirty hi (secs_mem.1 hy).2.2 (fun e => (secs_mem.1 hy).2.1 e.symm)
    · have := List.mem_singleton.1 hy
      subst this
      exact hx
  · exact NX.same ha (by decide) (by omega)
theorem clear_nx {n : Nat} {z : CSt} (hi : CInv n z) (ha : AL z) (x : Int) (l : List Int) : NX z 0 5000 (clearC n z x l) := by
  unfold clearC
  split
  · exact drain_nx hi ha x
  · exact NX.same ha (by decide) (by omega)
theorem refC_ne {n : Nat} {z : CSt} (ha : AL z) (l : List Int) : refC n z l ≠ 22 := by
  unfold refC
  split
  · rw [if_neg (by rw [ha.1]; decide)]
    decide
  · decide
theorem layC_Pf (z : CSt) (x : Int) (s m : List Int) : (layC z x s m).P = fun y => if y = x then (layC z x s m).P x else z.P y := funext fun y => by
  by_cases h : y = x
  · subst h
    rw [if_pos rfl]
  · rw [if_neg h]
    unfold layC
    simp only [if_neg h]
theorem layC_tl (z : CSt) (x : Int) (s m : List Int) : tl ((layC z x s m).P x) = tl (z.P x) := by
  unfold layC
  simp only [if_true]
  cases z.P x <;> rfl
theorem layC_tc {n : Nat} {z : CSt} {x : Int} (hx : 0 ≤ x ∧ x < n) (hn : n ≤ 4096) (s m : List Int) : tc (layC z x s m) = tc z := by
  have hs := tsum_upd z.P x ⟨by omega, by omega⟩ ((layC z x s m).P x)
  have e := congrArg tsum (layC_Pf z x s m)
  have e2 := layC_tl z x s m
  have e3 : (layC z x s m).ld = z.ld := rfl
  unfold tc
  rw [e3]
  omega
theorem put_nx {n : Nat} {z : CSt} (hi : CInv n z) (ha : AL z) (x : Int) (s l : List Int) : NX z 0 5000 (putC n z x s l) := by
  have hn := hi.top
  unfold putC
  split
  · rename_i h0
    have hx : 0 ≤ x ∧ x < n := by
      unfold refC at h0
      split at h0
      · rename_i h1
        have := List.all_eq_true.1 h1 x (by simp)
        exact okN_iff.1 this
      · cases h0
    have hc := clear_nx hi ha x l
    split
    · rename_i h1
      refine ⟨?_, ?_, fun _ => ?_, fun e => by cases e⟩
      · show tc (layC _ _ _ _) ≤ _
        rw [layC_tc hx hn]
        exact hc.tc
      · exact hc.wr
      · exact hc.al (by rw [h1]; decide)
    · exact hc
  · exact NX.same ha (refC_ne ha _) (by omega)
theorem Drain_nx {n : Nat} {z : CSt} (hi : CInv n z) (ha : AL z) (x : Int) : NX z 0 5000 (DrainC n z x) := by
  unfold DrainC
  split
  · exact drain_nx hi ha x
  · exact NX.same ha (refC_ne ha _) (by omega)
theorem flush_nx {n : Nat} {z : CSt} (hi : CInv n z) (ha : AL z) (x : Int) : NX z 0 5000 ((flushC n z x).1, (flushC n z x).2.2) := by
  unfold flushC
  split
  · split
    · rename_i h
      have := (wrC_nx hi ha h.1).more (Nat.le_refl _) (show (1 : Int) ≤ 5000 by decide)
      exact ⟨this.tc, this.wr, this.al, this.lo⟩
    · exact NX.same ha (by show (0 : Int) ≠ 22; decide) (by omega)
  · exact NX.same ha (refC_ne ha _) (by omega)
theorem sync_nx {n : Nat} {z : CSt} (hi : CInv n z) (ha : AL z) : NX z 0 5000 (syncC n z) := by
  unfold syncC
  have hl : (secs z.dirty).length ≤ 4096 := secs_len _
  exact (wAll_nx _ z _ hi ha ((secs_up _).imp (fun h => by omega)) (fun y hy => (secs_mem.1 hy).2)).more (Nat.le_refl _) (by omega)
theorem forC_tc {n : Nat} {z : CSt} {x : Int} (hx : 0 ≤ x ∧ x < n) (hn : n ≤ 4096) : tc (forC z x) ≤ tc z := by
  have hs := tsum_upd z.P x ⟨by omega, by omega⟩ none
  unfold tc forC
  simp only [tl] at hs ⊢
  omega
theorem drop_nx {n : Nat} {z : CSt} (hi : CInv n z) (ha : AL z) (x : Int) : NX z 0 5000 (DropC n z x) := by
  have hn := hi.top
  unfold DropC
  split
  · rename_i h0
    have hx : 0 ≤ x ∧ x < n := by
      unfold refC at h0
      split at h0
      · rename_i h1
        have := List.all_eq_true.1 h1 x (by simp)
        exact okN_iff.1 this
      · cases h0
    exact ⟨Nat.le_trans (forC_tc hx hn) (Nat.le_add_right _ _), Int.le_trans (Int.le_refl z.d.wr) (by omega), fun _ => ha, fun e => by cases e⟩
  · exact NX.same ha (refC_ne ha _) (by omega)
/-- Mark. -/
noncomputable def MarkC (n : Nat) (z : CSt) (x t : Int) : CSt × Int := if refC n z [x] = 0 then (markC z x t, 0) else (z, refC n z [x])
theorem mark_tc {n : Nat} {z : CSt} (hi : CInv n z) (x t : Int) : tc (markC z x t) ≤ tc z + 1 := by
  cases hq : z.P x with
  | none =>
    rw [markC_none hq]
    unfold tc
    simp only [List.length_append, List.length_singleton]
    omega
  | some q =>
    rw [markC_some hq]
    have hs := tsum_upd z.P x (hi.sec (by unfold CSt.dirty; rw [hq]; rfl)) (some (q.1, q.2 ++ [t]))
    rw [hq] at hs
    simp only [tl, List.length_append, List.length_singleton] at hs
    unfold tc
    simp only
    omega
theorem mark_d {z : CSt} {x t : Int} : (markC z x t).d = z.d ∧ (markC z x t).lost = z.lost := by
  unfold markC
  split <;> exact ⟨rfl, rfl⟩
theorem mark_nx {n : Nat} {z : CSt} (hi : CInv n z) (ha : AL z) (x t : Int) : NX z 1 5000 (MarkC n z x t) := by
  unfold MarkC
  split
  · refine ⟨mark_tc hi x t, ?_, fun _ => ?_, fun e => by cases e⟩
    · show (markC z x t).d.wr ≤ _
      rw [mark_d.1]
      omega
    · show AL (markC z x t)
      unfold AL
      rw [mark_d.1, mark_d.2]
      exact ha
  · exact NX.same ha (refC_ne ha _) (by omega)
theorem told_tc {z : CSt} : tc (toldC z) ≤ tc z := by
  unfold tc toldC
  simp
theorem told_al {z : CSt} (ha : AL z) : AL (toldC z) := ha
/-- What a question leaves. -/
def askZ (k : Int) (z : CSt) : CSt := if k = 2 then toldC z else z
theorem askZ_tc {k : Int} {z : CSt} : tc (askZ k z) ≤ tc z := by
  unfold askZ
  split
  · exact told_tc
  · exact Nat.le_refl _
theorem askZ_al {k : Int} {z : CSt} (ha : AL z) : AL (askZ k z) := by
  unfold askZ
  split
  · exact told_al ha
  · exact ha
theorem askZ_d {k : Int} {z : CSt} : (askZ k z).d = z.d ∧ (askZ k z).P = z.P ∧ (askZ k z).E = z.E ∧ (askZ k z).lost = z.lost := by
  unfold askZ
  split <;> exact ⟨rfl, rfl, rfl, rfl⟩
theorem told_inv {n : Nat} {z : CSt} (hi : CInv n z) : CInv n (toldC z) := ⟨hi.ed, hi.ok, hi.ln, hi.ring, hi.top, hi.w0, hi.lf⟩
theorem askZ_inv {n : Nat} {k : Int} {z : CSt} (hi : CInv n z) : CInv n (askZ k z) := by
  unfold askZ
  split
  · exact told_inv hi
  · exact hi
end Go.Proofs.YtamoepninddbcaaGreat

namespace Go.Proofs.YtamoepninddbcaaGreat
open Go.RowKit

variable {w : World} {c p g n : Nat} {ρ : Nat → Option Role} {z : CSt}
def RW (w : World) (x : Int) : World := (w.alloc (.cells (D.SA D.Zs) 47)).alloc (.cells #[.int .i64 x] 3)
theorem RW_chg (w : World) (x : Int) : Chg w (RW w x) No := (Chg.alloc _ _ _).tr (Chg.alloc _ _ _)
theorem RW_0 (w : World) (x : Int) : (RW w x).heap[w.heap.size]? = some (.cells (D.SA D.Zs) 47 (0, 0)) := by
  unfold RW
  rw [heap_alloc_if, if_neg (by simp), heap_alloc_if, if_pos rfl]
theorem RW_size (w : World) (x : Int) : (RW w x).heap.size = w.heap.size + 1 + 1 := by unfold RW; simp
/-- What Read tells. -/
def rdC (n : Nat) (z : CSt) (x : Int) : CSt × List Int × Int := if refC n z [x] = 0 then (match z.P x with | some q => (z, q.1, 0) | none => standC n z x) else (z, D.Zs, refC n z [x])
theorem readS_lenC {gp mb : Nat} {go : Nat → Prop} {tv : Int → Value} {lv : Value} (h : IsC0 w c p g n gp mb go tv lv ρ z) (x : Int) : (standC n z x).2.1.length = 128 := by
  unfold standC
  split
  · exact D.readS_len h.dk x
  · exact D.Zs_len
set_option maxRecDepth 100000 in
set_option maxHeartbeats 2000000 in
theorem read_ref (x : Int) (h : IsC w c p g n ρ z) (e0 : Int) (hx : refC n z [x] = e0) (hb : (e0 != 0) = true) :
    Calls Tryz.prog 46 #[.pointer (some ⟨c, 0, none⟩), .int .i64 x] w fun e w' => e = .returned (.tuple #[.agg (D.SA D.Zs), .int .i64 e0]) ∧ CPost w w' c p g n ρ z := by
  have hzs := D.zero_sec
  have hbz := D.build_sec
  have HR := refusalC_any [x] (some ⟨w.heap.size + 1, 0, none⟩) 1 (h.call (RW_chg w x)) (by
    have := lat_one (w.alloc (.cells (D.SA D.Zs) 47)) x
    simp only [World.size_alloc] at this
    exact this) (by simp)
  simp only [List.length_singleton] at HR
  rw [hx] at HR
  have HH := hid h
  have HS0 := hid (RW_0 w x)
  have HSC := hid (RW_chg w x)
  clear h hx
  unfold RW at *
  go_enter Tryz.func46, Tryz.ntmps46
  go_wp2_with (first
    | (go_at_call 58; go_must (refine HR.mono ?_; rintro e w1 ⟨rfl, rfl⟩; clear HR))
    | (refine D.store_sec rfl _ _ rfl w.heap.size rfl D.Zs rfl D.Zs_len D.Zs D.Zs_len HS0.out ?_; intro w5 hw5)
    | fail)
  refine bodyPost_ret (v := .tuple #[.agg (D.SA D.Zs), .int .i64 e0]) (D.results_sec Tryz.results46 _ _ w.heap.size D.Zs D.Zs_len _ rfl rfl hw5.here) rfl ⟨rfl, CPost.same HH.out (HSC.out.trans (wrote_chg hw5) (fun _ _ e => e) (fun j hj e => by omega))⟩
set_option maxRecDepth 100000 in
set_option maxHeartbeats 1000000 in
theorem mark_ref (x t : Int) (h : IsC w c p g n ρ z) (e0 : Int) (hx : refC n z [x] = e0) (hb : (e0 != 0) = true) :
    Calls Tryz.prog 35 #[.pointer (some ⟨c, 0, none⟩), .int .i64 x, .int .i64 t] w fun e w' => e = .returned (.int .i64 e0) ∧ CPost w w' c p g n ρ z := by
  have hc1 : Chg w (w.alloc (.cells #[.int .i64 x] 3)) No := Chg.alloc _ _ _
  have HR := refusalC_any [x] (some ⟨w.heap.size, 0, none⟩) 1 (h.call hc1) (lat_one w x) (by simp)
  rw [hx] at HR
  simp only [List.length_singleton] at HR
  have HH := hid h
  have HC := hid hc1
  clear h hc1 hx
  go_enter Tryz.func35, Tryz.ntmps35
  go_wp2_with (first
    | (go_at_call 58; go_must (refine HR.mono ?_; rintro e w1 ⟨rfl, rfl⟩; clear HR))
    | fail)
  go_ret
  exact ⟨rfl, CPost.same HH.out HC.out⟩
set_option maxRecDepth 100000 in
set_option maxHeartbeats 2000000 in
theorem read_in (x : Int) (h : IsC w c p g n ρ z) (hx : 0 ≤ x ∧ x < n) (hlo : refC n z [x] = 0) : Calls Tryz.prog 46 #[.pointer (some ⟨c, 0, none⟩), .int .i64 x] w fun e w' => e = .returned (.tuple #[.agg (D.SA (rdC n z x).2.1), .int .i64 (rdC n z x).2.2]) ∧ CPost w w' c p g n ρ (rdC n z x).1 := by
  have hzs := D.zero_sec
  have hbz := D.build_sec
  have hn4 := h.inv.top
  have hI : I64 x := ⟨by omega, by omega⟩
  have HR := refusalC_any [x] (some ⟨w.heap.size + 1, 0, none⟩) 1 (h.call (RW_chg w x)) (by
    have := lat_one (w.alloc (.cells (D.SA D.Zs) 47)) x
    simp only [World.size_alloc] at this
    exact this) (by simp)
  simp only [List.length_singleton] at HR
  rw [hlo] at HR
  have HH := hid h
  have HS0 := hid (RW_0 w x)
  have HSC := hid (RW_chg w x)
  have HSZ := hid (RW_size w x)
  obtain ⟨gp, mb, go, tv, lv, hA⟩ := h.call (RW_chg w x)
  have k2 := hA.c2
  have HM := hA.mp
  obtain ⟨C, hC, hCs, hC1⟩ := pend_val (z.P x) (tv x) (fun q hq => ⟨hA.inv.ln x q hq, ints_one (hA.tg x q hq)⟩)
  have HCC := hid hC
  have HQ := hid (heap_alloc_new (RW w x) (.cells pend0 95))
  have HS0b : Hid (((RW w x).alloc (.cells pend0 95)).heap[w.heap.size]? = some (.cells (D.SA D.Zs) 47 (0, 0))) := (Chg.alloc _ _ No).keep HS0.out (fun e => e)
  have HLN := hid (fun q (hq : z.P x = some q) => hA.inv.ln x q hq)
  cases hd : z.P x with
  | none =>
    have HST := hid (fun w1 (h1 : IsC w1 c p g n ρ z) => standC_any x h1)
    obtain ⟨⟨z5, s, e5⟩, hr⟩ : ∃ r, standC n z x = r := ⟨_, rfl⟩
    have hsl : s.length = 128 := by
      have := readS_lenC hA x
      rw [hr] at this
      exact this
    have hRE : rdC n z x = (z5, s, e5) := by unfold rdC; rw [if_pos hlo, hd]; exact hr
    rw [hr] at HST
    have hdm : ((z.P x).map fun q => Value.agg (pend q.1 (tv x))).isSome = false := by rw [hd]; rfl
    have HLT := hid (fun k (hk : Own ρ k) => h.lt hk)
    rw [hRE]
    clear h hA hC hd hx hlo hr hRE
    unfold RW at *
    go_enter Tryz.func46, Tryz.ntmps46
    go_wp2_with (first
      | (go_at_call 58; go_must (refine HR.mono ?_; rintro e w1 ⟨rfl, rfl⟩; clear HR))
      | (at_lookup; go_must (refine wp_okV rfl _ _ rfl mb _ x (.agg C) false HCC.out hdm rfl rfl HM hI ?_))
      | (refine D.store_row rfl 95 _ _ rfl (w.heap.size + 1 + 1) rfl C rfl pend0 (by have := HQ.out; rw [HSZ.out] at this; exact this) (by rw [szP, hCs]) (by rw [pend0_size, hCs]) hC1 ?_; intro w3 hw3; have hc3 : Chg w w3 No := (HSC.out.tr (Chg.alloc _ (.cells pend0 95) No)).trans (put_chg hw3) (fun _ _ e => e) (fun j hj e => by omega); have HQ3 := hid ((hw3.other w.heap.size (by omega)).trans HS0b.out); have HSD := HST.out w3 (HH.out.call hc3); have HC3 := hid hc3; clear hw3 hc3)
      | (go_at_call 23; go_must (refine HSD.mono ?_; rintro e w4 ⟨rfl, hP4⟩; obtain ⟨ρ4, h41, h42, h43⟩ := hP4; have HQ4 := hid (h43.keep HQ3.out (fun ho => by have := HLT.out _ ho; omega)); have HP4 := hid (And.intro h41 (And.intro h42 h43)); clear HSD h41 h42 h43))
      | (refine D.store_sec rfl _ _ rfl w.heap.size rfl s rfl hsl D.Zs D.Zs_len HQ4.out ?_; intro w5 hw5)
      | fail)
    refine bodyPost_ret (v := .tuple #[.agg (D.SA s), .int .i64 e5]) (D.results_sec Tryz.results46 _ _ w.heap.size s hsl _ rfl rfl hw5.here) rfl ⟨rfl, ?_⟩
    obtain ⟨h41, h42, h43⟩ := HP4.out
    have hown : ∀ k, Own ρ4 k → ¬ k = w.heap.size := fun k hk e => by
      rcases h42 k hk with h | h
      · have := HLT.out k h; omega
      · have := HC3.out.size
        have h5 := slt HQ3.out
        omega
    refine ⟨ρ4, h41.keep (wrote_chg hw5) hown, fun k hk => ?_, ?_⟩
    · rcases h42 k hk with h | h
      · exact .inl h
      · exact .inr (Nat.le_trans HC3.out.size h)
    · refine (HC3.out.trans h43 (c := Own ρ) (fun _ _ e => e.elim) (fun _ _ e => e)).trans (wrote_chg hw5) (fun _ _ e => e) (fun j hj e => by omega)
  | some q =>
    have hql := HLN.out q hd
    have hRE : rdC n z x = (z, q.1, 0) := by unfold rdC; rw [if_pos hlo, hd]
    have hdm : ((z.P x).map fun q => Value.agg (pend q.1 (tv x))).isSome = true := by rw [hd]; rfl
    have hCe : C = pend q.1 (tv x) := by rw [hd] at hC; simpa using hC.symm
    rw [hRE]
    clear h hA hC hd hx hlo hRE
    subst hCe
    obtain ⟨q1, q2⟩ := q
    simp only at *
    unfold RW at *
    go_enter Tryz.func46, Tryz.ntmps46
    go_wp2_with (first
      | (go_at_call 58; go_must (refine HR.mono ?_; rintro e w1 ⟨rfl, rfl⟩; clear HR))
      | (at_lookup; go_must (refine wp_okV rfl _ _ rfl mb _ x (.agg (pend q1 (tv x))) true HCC.out hdm rfl rfl HM hI ?_))
      | (refine D.store_row rfl 95 _ _ rfl (w.heap.size + 1 + 1) rfl (pend q1 (tv x)) rfl pend0 (by have := HQ.out; rw [HSZ.out] at this; exact this) (by rw [szP, hCs]) (by rw [pend0_size, hCs]) hC1 ?_; intro w3 hw3; have hc3 : Chg w w3 No := (HSC.out.tr (Chg.alloc _ (.cells pend0 95) No)).trans (put_chg hw3) (fun _ _ e => e) (fun j hj e => by omega); have HQ3 := hid ((hw3.other w.heap.size (by omega)).trans HS0b.out); have HPR := hid (pend_range hw3.here); have HC3 := hid hc3; clear hw3 hc3)
      | (refine wpList_load_mid rfl 47 _ rfl (w.heap.size + 1 + 1) 0 rfl (q1.map (Value.int .u8)) _ HPR.out Tryz.underlying47 rfl (by rw [D.sz26, List.length_map, hql]) ?_)
      | (refine D.store_sec rfl _ _ rfl w.heap.size rfl q1 rfl hql D.Zs D.Zs_len HQ3.out ?_; intro w5 hw5)
      | fail)
    refine bodyPost_ret (v := .tuple #[.agg (D.SA q1), .int .i64 0]) (D.results_sec Tryz.results46 _ _ w.heap.size q1 hql _ rfl rfl hw5.here) rfl ⟨rfl, CPost.same HH.out (HC3.out.trans (wrote_chg hw5) (fun _ _ e => e) (fun j hj e => by omega))⟩

theorem refC_ne0 {x : Int} (h : refC n z [x] ≠ 0) : ((refC n z [x]) != 0) = true := by simpa using h
theorem read_anyC (x : Int) (h : IsC w c p g n ρ z) : Calls Tryz.prog 46 #[.pointer (some ⟨c, 0, none⟩), .int .i64 x] w fun e w' => e = .returned (.tuple #[.agg (D.SA (rdC n z x).2.1), .int .i64 (rdC n z x).2.2]) ∧ CPost w w' c p g n ρ (rdC n z x).1 := by
  by_cases h0 : refC n z [x] = 0
  · exact read_in x h ((refC_zero h0).2 x (by simp)) h0
  · have e : rdC n z x = (z, D.Zs, refC n z [x]) := by unfold rdC; rw [if_neg h0]
    rw [e]
    exact read_ref x h _ rfl (refC_ne0 h0)
theorem mark_anyC (x t : Int) (h : IsC w c p g n ρ z) (ht : TB z) : Calls Tryz.prog 35 #[.pointer (some ⟨c, 0, none⟩), .int .i64 x, .int .i64 t] w fun e w' => e = .returned (.int .i64 (MarkC n z x t).2) ∧ CPost w w' c p g n ρ (MarkC n z x t).1 := by
  by_cases h0 : refC n z [x] = 0
  · have e : MarkC n z x t = (markC z x t, 0) := by unfold MarkC; rw [if_pos h0]
    rw [e]
    exact mark_any x t h ((refC_zero h0).2 x (by simp)) (refC_zero h0).1 ht
  · have e : MarkC n z x t = (z, refC n z [x]) := by unfold MarkC; rw [if_neg h0]
    rw [e]
    exact mark_ref x t h _ rfl (refC_ne0 h0)
/-- The document's Read, of a cache that has its disk. -/
theorem rrd_is (hi : CInv n z) (ha : AL z) (x : Int) : rrdC n z x = rdC n z x ∧ (rdC n z x).1 = z := by
  have hst : rstC n z x = standC n z x := rstC_is (fun e => by rw [ha.1] at e; cases e)
  have h1 : (standC n z x).1 = z := by
    unfold standC
    split
    · rename_i h0
      have := (refC_zero h0).2 x (by simp)
      show hearC z _ = z
      unfold hearC
      rw [if_neg]
      unfold D.refE
      rw [if_neg (by rw [ha.2]; decide), if_neg (by omega)]
      decide
    · rfl
  unfold rrdC rdC
  cases hq : z.P x with
  | some q =>
    have hok := hi.ok x (by unfold CSt.dirty; rw [hq]; rfl)
    have h0 : refC n z [x] = 0 := by rw [refC_one hok.1 hok.2, ha.1]; rfl
    simp only [if_pos h0]
    exact ⟨trivial, trivial⟩
  | none =>
    simp only
    rw [hst]
    by_cases h0 : refC n z [x] = 0
    · rw [if_pos h0]
      exact ⟨rfl, h1⟩
    · rw [if_neg h0]
      refine ⟨?_, rfl⟩
      unfold standC
      rw [if_neg h0]
theorem stand_is (ha : AL z) (x : Int) : (standC n z x).1 = z := by
  unfold standC
  split
  · rename_i h0
    have := (refC_zero h0).2 x (by simp)
    show hearC z _ = z
    unfold hearC
    rw [if_neg]
    unfold D.refE
    rw [if_neg (by rw [ha.2]; decide), if_neg (by omega)]
    decide
  · rfl
/-- Edges that lie in memory. -/
def EdAt (w : World) (a : Option Addr) (l : List (Int × Int)) : Prop :=
  l = [] ∨ ∃ g, a = some ⟨g, 0, none⟩ ∧ g < w.heap.size ∧ ∀ k, k < l.length → w.cell? ⟨g, k * 2, none⟩ = some (.int .i64 (l.getD k (0, 0)).1) ∧ w.cell? ⟨g, k * 2 + 1, none⟩ = some (.int .i64 (l.getD k (0, 0)).2)
theorem EdAt.call {w w' : World} {a : Option Addr} {l : List (Int × Int)} (h : EdAt w a l) (hc : Chg w w' No) : EdAt w' a l := by
  rcases h with h | ⟨g, rfl, hg, h⟩
  · exact .inl h
  · exact .inr ⟨g, rfl, Nat.lt_of_lt_of_le hg hc.size, fun k hk => ⟨cell_keep (h k hk).1 hc hg (fun e => e), cell_keep (h k hk).2 hc hg (fun e => e)⟩⟩
theorem EdAt.keep {w w' : World} {a : Option Addr} {l : List (Int × Int)} {ks : Nat → Prop} (h : EdAt w a l) (hc : Chg w w' ks) (hn : ∀ g, a = some ⟨g, 0, none⟩ → ¬ ks g) : EdAt w' a l := by
  rcases h with h | ⟨g, rfl, hg, h⟩
  · exact .inl h
  · exact .inr ⟨g, rfl, Nat.lt_of_lt_of_le hg hc.size, fun k hk => ⟨cell_keep (h k hk).1 hc hg (hn g rfl), cell_keep (h k hk).2 hc hg (hn g rfl)⟩⟩
theorem Edgs.edat {w : World} {base : Nat} {v : Value} {l : List (Int × Int)} (h : Edgs w base v l) : ∃ a c, v = .slice a l.length c ∧ EdAt w a l ∧ ∀ g, a = some ⟨g, 0, none⟩ → base ≤ g := by
  rcases h.2 with ⟨rfl, h0⟩ | ⟨g, cap, cur, rfl, hge, hb, h1, h2, h3, h4⟩
  · have : l = [] := List.eq_nil_of_length_eq_zero h0
    subst this
    exact ⟨none, 0, rfl, .inl rfl, fun g e => by cases e⟩
  · have key : ∀ j u, (cellsE l)[j]? = some u → w.cell? ⟨g, j, none⟩ = some u := by
      intro j u hu
      have hj : j < l.length * 2 := by
        rcases Nat.lt_or_ge j (cellsE l).length with k | k
        · rw [cellsE_len] at k; exact k
        · rw [List.getElem?_eq_none k] at hu; cases hu
      rw [cell_of_row _ _ _ _ _ _ hb, ← Array.getElem?_toList]
      have e : (cur.toList.take (l.length * 2))[j]? = (cellsE l)[j]? := by rw [h4]
      rw [List.getElem?_take_of_lt hj] at e
      rw [e]
      exact hu
    refine ⟨_, cap, rfl, .inr ⟨g, rfl, slt hb, fun k hk => ?_⟩, fun g' e => by cases e; exact hge⟩
    have hg := cellsE_get l k
    rw [List.getElem?_eq_getElem hk] at hg
    have e : l.getD k (0, 0) = l[k] := by simp [hk]
    rw [e, Nat.mul_comm]
    exact ⟨key _ _ hg.1, key _ _ hg.2⟩
theorem guardE : Tryz.prog.eqGuardType Tryz.prog.depth 73 = false := by kernel_rfl
theorem eqE (a b c d : Int) (w : World) : (Op.equalIn 10000 73 (.agg #[.int .i64 a, .int .i64 b]) (.agg #[.int .i64 c, .int .i64 d])).run Tryz.prog w = .ok (a == c && b == d) w := by
  have hS : Tryz.prog.underlying 73 = some (.struct (Tryz.prog.fieldsOf 73)) := by kernel_rfl
  have hp : Tryz.prog.stoodInHeld 73 = false := by kernel_rfl
  have u3 := Tryz.underlying3
  have a3 := Tryz.isAgg3
  have z3 := Tryz.sizeOf3
  rw [show (10000 : Nat) = 9999 + 1 from rfl, run_equalIn_agg w 9999 73 _ _ hS hp]
  simp only [Program.fieldsOf, Tryz.underlying73]
  go_simp
  by_cases h1 : a = c <;> by_cases h2 : b = d <;> simp [h1, h2]

theorem szE : (Tryz.prog.info? 73).map (·.size) = some 2 := by kernel_rfl
theorem edge_range {w : World} {g k : Nat} {x : Int × Int} (h0 : w.cell? ⟨g, k, none⟩ = some (.int .i64 x.1)) (h1 : w.cell? ⟨g, k + 1, none⟩ = some (.int .i64 x.2)) : w.rangeAt g k [.int .i64 x.1, .int .i64 x.2] := by
  intro i v hv
  match i, hv with
  | 0, hv => simp at hv; subst hv; exact h0
  | 1, hv => simp at hv; subst hv; exact h1
  | i + 2, hv => simp at hv
theorem load_edge {w : World} {g k : Nat} {x : Int × Int} (h : w.rangeAt g k [.int .i64 x.1, .int .i64 x.2]) : (loadVar 73 ⟨g, k, none⟩).run Tryz.prog w = .ok (.agg #[.int .i64 x.1, .int .i64 x.2]) w :=
  run_loadVar_mid w g k 73 [.int .i64 x.1, .int .i64 x.2] _ h Tryz.underlying73 rfl (by rw [szE]; rfl)

section
variable {ops : Array Oper} {Q : Exit → Act → World → Prop} {S : World → Prop} {fuel : Nat} {listed : Array Bool} {a : Act} {w : World}
theorem takeE (i d : Nat) (x : Operand) (g k : Nat) (y : Int × Int) {o : Oper} (hop : ops[i]? = some o) (hs : Region.noSelect ops = true) (hf : Region.free .any ops listed i = true) (hr : (Region.ready .any ops listed).contains i = true)
    (hd : o.dst = some d) (ho : o.op = .load 73 x) (hx : a.eval x = .pointer (some ⟨g, k, none⟩)) (hw : Region.wanted o (yielded ops a.tmps) = true) (hQ : ∀ c a w, ¬ Q (.panic c) a w) (hS : S w)
    (hg : ∀ w, S w → w.rangeAt g k [.int .i64 y.1, .int .i64 y.2])
    (h : wpAnyH Tryz.prog .any ops Q S fuel (listed.setIfInBounds i true) { a with tmps := a.tmps.setIfInBounds d (.agg #[.int .i64 y.1, .int .i64 y.2]) } w) : wpAnyH Tryz.prog .any ops Q S (fuel + 1) listed a w := by
  refine takeVal i d _ hop hs hf hr hd hw hQ hS (fun w hw' => ?_) h
  unfold execOp
  simp only [ho, hx, Instr.loadAt, Instr.sureAddr, Sem.run_bind, Sem.run_pure, Result.andThen_ok, load_edge (hg w hw')]
end

set_option maxRecDepth 100000 in
set_option maxHeartbeats 1000000 in
theorem sameEdges_same (l : List (Int × Int)) (a b : Option Addr) (ca cb : Nat) (w : World) (hm : l.length ≤ 1000000000000) (ha : EdAt w a l) (hb : EdAt w b l) :
    Calls Tryz.prog 86 #[.slice a l.length ca, .slice b l.length cb] w fun e w' => e = .returned (.bool true) ∧ ∃ n, w' = w.drewN n := by
  have HA := hid ha
  have HBb := hid hb
  have hgd := guardE
  have heq := eqE
  generalize hlen : l.length = m at *
  clear ha hb
  go_enter Tryz.func86, Tryz.ntmps86
  go_wp2_with fail
  go_loopw [5] (fun i wr => ∃ k n : Nat, k ≤ m ∧ i = .int .i64 k ∧ w.drewN n = wr) (fun i _ => m - (intOf i).toNat)
  case atStart => exact ⟨0, 0, by omega, rfl, rfl⟩
  case round =>
    obtain ⟨k, n, hk, rfl, rfl⟩ := hrel
    by_cases hlt : k < m
    · rcases HA.out with h0 | ⟨g1, rfl, hg1, h1⟩
      · rw [h0] at hlen; simp at hlen; omega
      · rcases HBb.out with h0 | ⟨g2, rfl, hg2, h2⟩
        · rw [h0] at hlen; simp at hlen; omega
        obtain ⟨p1, q1⟩ := h1 k (by omega)
        obtain ⟨p2, q2⟩ := h2 k (by omega)
        have hr1 := edge_range p1 q1
        have hr2 := edge_range p2 q2
        generalize l.getD k (0, 0) = y at *
        have hi0 : (0 : Int) ≤ (k : Int) := by omega
        have hi1 : (k : Int) < (m : Int) := by omega
        have R1 := hid hr1
        have R2 := hid hr2
        clear hr1 hr2 h1 h2 p1 q1 p2 q2
        go_wp2_with fail
        refine wp_region_noPanic ?_
        refine wp_region_held_drew (S := fun w' => w'.rangeAt g1 (k * 2) [.int .i64 y.1, .int .i64 y.2] ∧ w'.rangeAt g2 (k * 2) [.int .i64 y.1, .int .i64 y.2]) (by kernel_rfl) ⟨R1.out, R2.out⟩ (fun hHeld => ?_)
        refine takeVal 0 17 (.slice (some ⟨g1, 0, none⟩) m ca) rfl (by kernel_rfl) (by kernel_rfl) (by kernel_rfl) rfl (by rfl) (fun _ _ _ h => h) hHeld (fun _ hw' => rfl) ?_
        simp only [List.setIfInBounds_toArray, List.set_cons_zero, List.set_cons_succ]
        refine takeVal 1 18 (.int .i64 (k : Int)) rfl (by kernel_rfl) (by kernel_rfl) (by kernel_rfl) rfl (by rfl) (fun _ _ _ h => h) hHeld (fun _ hw' => rfl) ?_
        simp only [List.setIfInBounds_toArray, List.set_cons_zero, List.set_cons_succ]
        refine takeVal 2 19 (.pointer (some ⟨g1, k * 2, none⟩)) rfl (by kernel_rfl) (by kernel_rfl) (by kernel_rfl) rfl (by rfl) (fun _ _ _ h => h) hHeld (fun _ hw' => by go_simp) ?_
        simp only [List.setIfInBounds_toArray, List.set_cons_zero, List.set_cons_succ]
        refine takeE 3 20 (.tmp 19) g1 (k * 2) y rfl (by kernel_rfl) (by kernel_rfl) (by kernel_rfl) rfl rfl rfl (by rfl) (fun _ _ _ h => h) hHeld (fun _ h => h.1) ?_
        simp only [List.setIfInBounds_toArray, List.set_cons_zero, List.set_cons_succ]
        refine takeVal 4 21 (.slice (some ⟨g2, 0, none⟩) m cb) rfl (by kernel_rfl) (by kernel_rfl) (by kernel_rfl) rfl (by rfl) (fun _ _ _ h => h) hHeld (fun _ hw' => rfl) ?_
        simp only [List.setIfInBounds_toArray, List.set_cons_zero, List.set_cons_succ]
        refine takeVal 5 22 (.int .i64 (k : Int)) rfl (by kernel_rfl) (by kernel_rfl) (by kernel_rfl) rfl (by rfl) (fun _ _ _ h => h) hHeld (fun _ hw' => rfl) ?_
        simp only [List.setIfInBounds_toArray, List.set_cons_zero, List.set_cons_succ]
        refine takeVal 6 23 (.pointer (some ⟨g2, k * 2, none⟩)) rfl (by kernel_rfl) (by kernel_rfl) (by kernel_rfl) rfl (by rfl) (fun _ _ _ h => h) hHeld (fun _ hw' => by go_simp) ?_
        simp only [List.setIfInBounds_toArray, List.set_cons_zero, List.set_cons_succ]
        refine takeE 7 24 (.tmp 23) g2 (k * 2) y rfl (by kernel_rfl) (by kernel_rfl) (by kernel_rfl) rfl rfl rfl (by rfl) (fun _ _ _ h => h) hHeld (fun _ h => h.2) ?_
        simp only [List.setIfInBounds_toArray, List.set_cons_zero, List.set_cons_succ]
        refine takeVal 8 25 (.bool false) rfl (by kernel_rfl) (by kernel_rfl) (by kernel_rfl) rfl (by rfl) (fun _ _ _ h => h) hHeld (fun _ hw' => by go_simp) ?_
        simp only [List.setIfInBounds_toArray, List.set_cons_zero, List.set_cons_succ]
        refine wpAnyH_done (by kernel_rfl) ?_ _
        refine NoPanic.normal ?_
        go_wp2_with fail
        exact ⟨⟨k + 1, n + 1, by omega, by go_num, rfl⟩, by simp [intOf]; omega⟩
    · go_wp2_with fail
      go_ret
      exact ⟨rfl, n, rfl⟩


end Go.Proofs.YtamoepninddbcaaGreat
