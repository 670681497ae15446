/-
  Read of a cache that has its disk: what was put, or what stands on the disk.
-/
import Derived.Test.YtgkanfmkohlmcaaGreatT9
namespace Go.Proofs.YtgkanfmkohlmcaaGreat
open Go.RowKit

variable {w : World} {c p g n : Nat} {ρ : Nat → Option Role} {z : CSt}

/-- What Read tells. -/
def readC (z : CSt) (x : Int) : List Int := match z.P x with | some q => q.1 | none => D.secK z.d.S x.toNat
def RW (w : World) (x : Int) : World := (w.alloc (.cells (D.SA D.Zs) 46)).alloc (.cells #[.int .i64 x] 3)
theorem RW_chg (w : World) (x : Int) : Chg w (RW w x) No := (Chg.alloc _ _ _).tr (Chg.alloc _ _ _)
theorem RW_0 (w : World) (x : Int) : (RW w x).heap[w.heap.size]? = some (.cells (D.SA D.Zs) 46 (0, 0)) := by
  unfold RW
  rw [heap_alloc_if, if_neg (by simp), heap_alloc_if, if_pos rfl]
theorem RW_size (w : World) (x : Int) : (RW w x).heap.size = w.heap.size + 1 + 1 := by unfold RW; simp
theorem stand_alive (ha : Alive z) {x : Int} (hx : 0 ≤ x ∧ x < n) : standC n z x = (z, D.secK z.d.S x.toNat, 0) := by
  have hr : refC n z [x] = 0 := refC_alive ha (by simpa using hx)
  have he : D.refE z.d n x = 0 := by unfold D.refE; rw [if_neg (by rw [ha.2]; decide), if_neg (by omega)]
  unfold standC
  rw [if_pos hr, he]
  unfold hearC D.readS
  rw [if_neg (by decide), if_pos he]

set_option maxRecDepth 100000 in
set_option maxHeartbeats 2000000 in
theorem readC_any (x : Int) (h : IsC w c p g n ρ z) (hx : 0 ≤ x ∧ x < n) (ha : Alive z) : Calls Tryz.prog 15 #[.pointer (some ⟨c, 0, none⟩), .int .i64 x] w fun e w' => e = .returned (.tuple #[.agg (D.SA (readC z x)), .int .i64 0]) ∧ CPost w w' c p g n ρ z := by
  have hzs := D.zero_sec
  have hbz := D.build_sec
  have hn4 := h.inv.top
  have hI : I64 x := ⟨by omega, by omega⟩
  have HR := refusalC_any [x] (some ⟨w.heap.size + 1, 0, none⟩) 1 (h.call (RW_chg w x)) (by
    have := lat_one (w.alloc (.cells (D.SA D.Zs) 46)) x
    simp only [World.size_alloc] at this
    exact this) (by simp)
  simp only [List.length_singleton] at HR
  rw [refC_alive ha (by simpa using hx)] at HR
  have HH := hid h
  have HS0 := hid (RW_0 w x)
  have HSC := hid (RW_chg w x)
  have HSZ := hid (RW_size w x)
  obtain ⟨gp, mb, go, tv, lv, hA⟩ := h.call (RW_chg w x)
  have k2 := hA.c2
  have HM := hA.mp
  obtain ⟨C, hC, hCs, hC1⟩ := pend_val (z.P x) (tv x) (fun q hq => ⟨hA.inv.ln x q hq, ints_one (hA.tg x q hq)⟩)
  have HCC := hid hC
  have HQ := hid (heap_alloc_new (RW w x) (.cells pend0 74))
  have HS0b : Hid (((RW w x).alloc (.cells pend0 74)).heap[w.heap.size]? = some (.cells (D.SA D.Zs) 46 (0, 0))) := (Chg.alloc _ _ No).keep HS0.out (fun e => e)
  have HLN := hid (fun q (hq : z.P x = some q) => hA.inv.ln x q hq)
  cases hd : z.P x with
  | none =>
    have HST := hid (fun w1 (h1 : IsC w1 c p g n ρ z) => standC_any x h1)
    rw [stand_alive ha hx] at HST
    have hsl : (D.secK z.d.S x.toNat).length = 128 := by
      have := D.readS_len hA.dk x
      have he : D.refE z.d n x = 0 := by unfold D.refE; rw [if_neg (by rw [ha.2]; decide), if_neg (by omega)]
      unfold D.readS at this
      rw [if_pos he] at this
      exact this
    have HRE : Hid (readC z x = D.secK z.d.S x.toNat) := by show _ = _; unfold readC; rw [hd]
    have hdm : ((z.P x).map fun q => Value.agg (pend q.1 (tv x))).isSome = false := by rw [hd]; rfl
    have HLT := hid (fun k (hk : Own ρ k) => h.lt hk)
    rw [HRE.out]
    generalize D.secK z.d.S x.toNat = s at *
    clear h hA hC hd ha hx
    unfold RW at *
    go_enter Tryz.func15, Tryz.ntmps15
    go_wp2_with (first
      | (go_at_call 32; go_must (refine HR.mono ?_; rintro e w1 ⟨rfl, rfl⟩; clear HR))
      | (at_lookup; go_must (refine wp_okV rfl _ _ rfl mb _ x (.agg C) false HCC.out hdm rfl rfl HM hI ?_))
      | (refine D.store_row rfl 74 _ _ rfl (w.heap.size + 1 + 1) rfl C rfl pend0 (by have := HQ.out; rw [HSZ.out] at this; exact this) (by rw [szP, hCs]) (by rw [pend0_size, hCs]) hC1 ?_; intro w3 hw3; have hc3 : Chg w w3 No := (HSC.out.tr (Chg.alloc _ (.cells pend0 74) No)).trans (put_chg hw3) (fun _ _ e => e) (fun j hj e => by omega); have HQ3 := hid ((hw3.other w.heap.size (by omega)).trans HS0b.out); have HSD := HST.out w3 (HH.out.call hc3); have HC3 := hid hc3; clear hw3 hc3)
      | (go_at_call 16; go_must (refine HSD.mono ?_; rintro e w4 ⟨rfl, hP4⟩; obtain ⟨ρ4, h41, h42, h43⟩ := hP4; have HQ4 := hid (h43.keep HQ3.out (fun ho => by have := HLT.out _ ho; omega)); have HP4 := hid (And.intro h41 (And.intro h42 h43)); clear HSD h41 h42 h43))
      | (refine D.store_sec rfl _ _ rfl w.heap.size rfl s rfl hsl D.Zs D.Zs_len HQ4.out ?_; intro w5 hw5)
      | fail)
    refine bodyPost_ret (v := .tuple #[.agg (D.SA s), .int .i64 0]) (D.results_sec Tryz.results15 _ _ w.heap.size s hsl _ rfl rfl hw5.here) rfl ⟨rfl, ?_⟩
    obtain ⟨h41, h42, h43⟩ := HP4.out
    have hown : ∀ k, Own ρ4 k → ¬ k = w.heap.size := fun k hk e => by
      rcases h42 k hk with h | h
      · have := HLT.out k h; omega
      · have := HC3.out.size
        have h5 := slt HQ3.out
        omega
    refine ⟨ρ4, h41.keep (wrote_chg hw5) hown, fun k hk => ?_, ?_⟩
    · rcases h42 k hk with h | h
      · exact .inl h
      · exact .inr (Nat.le_trans HC3.out.size h)
    · refine (HC3.out.trans h43 (c := Own ρ) (fun _ _ e => e.elim) (fun _ _ e => e)).trans (wrote_chg hw5) (fun _ _ e => e) (fun j hj e => by omega)
  | some q =>
    have hql := HLN.out q hd
    have HRE : Hid (readC z x = q.1) := by show _ = _; unfold readC; rw [hd]
    have hdm : ((z.P x).map fun q => Value.agg (pend q.1 (tv x))).isSome = true := by rw [hd]; rfl
    have hCe : C = pend q.1 (tv x) := by rw [hd] at hC; simpa using hC.symm
    rw [HRE.out]
    clear h hA hC hd ha hx HRE
    subst hCe
    obtain ⟨q1, q2⟩ := q
    simp only at *
    unfold RW at *
    go_enter Tryz.func15, Tryz.ntmps15
    go_wp2_with (first
      | (go_at_call 32; go_must (refine HR.mono ?_; rintro e w1 ⟨rfl, rfl⟩; clear HR))
      | (at_lookup; go_must (refine wp_okV rfl _ _ rfl mb _ x (.agg (pend q1 (tv x))) true HCC.out hdm rfl rfl HM hI ?_))
      | (refine D.store_row rfl 74 _ _ rfl (w.heap.size + 1 + 1) rfl (pend q1 (tv x)) rfl pend0 (by have := HQ.out; rw [HSZ.out] at this; exact this) (by rw [szP, hCs]) (by rw [pend0_size, hCs]) hC1 ?_; intro w3 hw3; have hc3 : Chg w w3 No := (HSC.out.tr (Chg.alloc _ (.cells pend0 74) No)).trans (put_chg hw3) (fun _ _ e => e) (fun j hj e => by omega); have HQ3 := hid ((hw3.other w.heap.size (by omega)).trans HS0b.out); have HPR := hid (pend_range hw3.here); have HC3 := hid hc3; clear hw3 hc3)
      | (refine wpList_load_mid rfl 46 _ rfl (w.heap.size + 1 + 1) 0 rfl (q1.map (Value.int .u8)) _ HPR.out Tryz.underlying46 rfl (by rw [D.sz26, List.length_map, hql]) ?_)
      | (refine D.store_sec rfl _ _ rfl w.heap.size rfl q1 rfl hql D.Zs D.Zs_len HQ3.out ?_; intro w5 hw5)
      | fail)
    refine bodyPost_ret (v := .tuple #[.agg (D.SA q1), .int .i64 0]) (D.results_sec Tryz.results15 _ _ w.heap.size q1 hql _ rfl rfl hw5.here) rfl ⟨rfl, CPost.same HH.out (HC3.out.trans (wrote_chg hw5) (fun _ _ e => e) (fun j hj e => by omega))⟩

end Go.Proofs.YtgkanfmkohlmcaaGreat
