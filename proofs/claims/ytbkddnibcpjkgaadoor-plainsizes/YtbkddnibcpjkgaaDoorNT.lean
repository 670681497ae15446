/-
  package plain: what a node's blocks and slots take.
-/
import Derived.Test.YtbkddnibcpjkgaaDoorND
namespace Go.Proofs.YtbkddnibcpjkgaaDoor
open Go.RowKit

def numsOf (k : Nat) : List Nat := k :: (if 44 ≤ k then [1069, 1070 + (k - 44) / 32] else if 12 ≤ k then [1068] else [])
theorem putB_iff (f : Nat → Bool) (m i : Nat) : putB f m i = true ↔ f i = true ∨ i = m := by
  unfold putB
  by_cases e : i = m
  · rw [if_pos e]; exact ⟨fun _ => .inr e, fun _ => rfl⟩
  · rw [if_neg e]; exact ⟨.inl, fun h => h.resolve_right e⟩
theorem addB_iff (f : Nat → Bool) (k i : Nat) : addB f k i = true ↔ f i = true ∨ i ∈ numsOf k := by
  unfold addB numsOf
  by_cases h1 : 44 ≤ k
  · rw [if_pos h1, if_pos h1, putB_iff, putB_iff, putB_iff]
    simp [or_assoc]
  · rw [if_neg h1, if_neg h1]
    by_cases h2 : 12 ≤ k
    · rw [if_pos h2, if_pos h2, putB_iff, putB_iff]
      simp [or_assoc]
    · rw [if_neg h2, if_neg h2, putB_iff]
      simp
def TZ : Array Value := Array.replicate 1102 (.bool false) ++ #[.int .i64 0]
theorem zero_tal (w : World) : (zeroValue 96).run Tryd.prog w = .ok (.agg TZ) w := by kernel_rfl
theorem szT : (Tryd.prog.info? 96).map (·.size) = some 1103 := by kernel_rfl
theorem card_none : cardT (fun _ => false) = 0 := by
  unfold cardT
  simp
theorem TZ_is : TalA TZ (fun _ => false) := by
  refine ⟨by simp [TZ], fun i hi => ?_, ?_⟩
  · unfold TZ
    rw [Array.getElem?_append_left (by simpa using hi)]
    simp [hi]
  · rw [card_none]
    unfold TZ
    rw [Array.getElem?_append_right (by simp)]
    simp
theorem TalA_one {A : Array Value} {f : Nat → Bool} (h : TalA A f) : A.all (·.oneCell') = true := by
  rw [Array.all_eq_true]
  intro i hi
  rcases Nat.lt_or_ge i 1102 with k | k
  · have := h.2.1 i k
    rw [Array.getElem?_eq_getElem hi] at this
    rw [Option.some.inj this]
    rfl
  · have e : i = 1102 := by have := h.1; omega
    subst e
    have := h.2.2
    rw [Array.getElem?_eq_getElem hi] at this
    rw [Option.some.inj this]
    rfl
/-- What is counted of a node. -/
def TalP (x : Nd) (i : Nat) : Prop := (∃ k : Nat, x.blk (k : Int) ≠ none ∧ i ∈ numsOf k) ∨ ∃ k, k < x.sl.length ∧ i ∈ numsOf k
/-- While it is counted. -/
def TW (w wr : World) (gt r : Nat) (f : Nat → Bool) : Prop := TalAt wr gt f ∧ Chg w wr No ∧ w.heap.size < gt ∧ gt < r ∧ wr.heap[w.heap.size]? = some (.cells TZ 96 (0, 0))
theorem TW.call {w wr wq : World} {gt r : Nat} {f : Nat → Bool} (h : TW w wr gt r f) (hc : Chg wr wq (· = r)) (hr : w.heap.size ≤ r) : TW w wq gt r f :=
  ⟨h.1.keep hc (by have := h.2.2.2.1; omega), h.2.1.trans hc (fun _ _ e => e) (fun j hj e => by omega), h.2.2.1, h.2.2.2.1, hc.keep h.2.2.2.2 (by have := h.2.2.1; have := h.2.2.2.1; omega)⟩
theorem TW.add {w wr wq : World} {gt r : Nat} {f g : Nat → Bool} (h : TW w wr gt r f) (hg : TalAt wq gt g) (hc : Chg wr wq (· = gt)) : TW w wq gt r g :=
  ⟨hg, h.2.1.trans hc (fun _ _ e => e) (fun j hj e => by have := h.2.2.1; omega), h.2.2.1, h.2.2.2.1, hc.keep h.2.2.2.2 (by have := h.2.2.1; omega)⟩

set_option maxHeartbeats 2000000 in
set_option maxRecDepth 100000 in
theorem tally_any {c : NC} {x : Nd} (w : World) (h : IsN w c x) :
    Calls Tryd.prog 40 #[.pointer (some ⟨c.p, 0, none⟩)] w fun e w' => (∃ A, e = .returned (.agg A) ∧ ∃ F, TalA A F ∧ ∀ i, F i = true ↔ TalP x i) ∧ Chg w w' No := by
  have HN := hid h
  obtain ⟨Z, hZ⟩ : ∃ y, y = TZ := ⟨_, rfl⟩
  have hz := zero_tal
  have HZ := hid hZ
  rw [← hZ] at hz
  have HZ4 : Hid (Z.size = 1103) := hid (by rw [hZ]; exact TZ_is.1)
  obtain ⟨w1, hw1⟩ : ∃ y, y = (w.alloc (.cells Z 96)).alloc (.cells Z 96) := ⟨_, rfl⟩
  have h1 : Chg w w1 No := by rw [hw1]; exact (Chg.alloc _ _ No).tr (Chg.alloc _ _ No)
  have hg1 : w1.heap[w.heap.size]? = some (.cells Z 96 (0, 0)) := by rw [hw1]; exact (Chg.alloc _ _ No).keep (heap_alloc_new _ _) (fun e => e)
  have hg2 : w1.heap[w.heap.size + 1]? = some (.cells Z 96 (0, 0)) := by
    have := heap_alloc_new (w.alloc (.cells Z 96)) (.cells Z 96)
    rw [World.size_alloc] at this
    rw [hw1]; exact this
  have hs1 : w1.heap.size = w.heap.size + 2 := by rw [hw1]; simp
  have HS1 := hid hs1
  have c4 := (h.call h1).c4
  have HB1 := hid (h.call h1).bl
  have H1 := hid h1
  have HG1 := hid hg1
  have HG2 := hid hg2
  have HE : Hid (w1 = (w.alloc (.cells Z 96)).alloc (.cells Z 96)) := hid hw1
  clear h h1 hg1 hg2 hs1 hZ hw1
  go_enter Tryd.func40, Tryd.ntmps40
  go_upto_region 2 with fail
  rw [← HE.out]
  clear HE
  go_wp2_with (first
    | (at_range; go_must (refine wp_rangeV 65 111 Tryd.underlying65 rfl _ rfl c.bb x.blk rfl HB1.out ?_; intro w2 cnt0 hr0 hc0 hz0))
    | fail)
  go_frame
  have HR0 := hid hr0
  have HC0 := hid hc0
  obtain ⟨r, hrr⟩ : ∃ y, y = w1.heap.size := ⟨_, rfl⟩
  rw [← hrr] at HR0 ⊢
  have HRr : Hid (r = w.heap.size + 2) := hid (by rw [hrr]; exact HS1.out)
  have G0 : Hid (TW w w2 (w.heap.size + 1) r (fun _ => false)) := hid ⟨⟨_, HC0.out.keep HG2.out (fun e => e), by rw [HZ.out]; exact TZ_is⟩, H1.out.tr HC0.out, by omega, by have := HRr.out; omega, by have := HC0.out.keep HG1.out (fun e => e); rw [HZ.out] at this; exact this⟩
  clear hr0 hc0 hz0 hrr HG1 HG2 HC0 c4 HB1
  have HBr : Hid (c.bb ≠ r ∧ c.bb ≠ w.heap.size + 1) := hid (by have := HN.out.bl.lt; have := HRr.out; exact ⟨by omega, by omega⟩)
  go_loopw [4] (fun _ wr => ∃ (left : Int → Prop) (cnt : Nat), Hid (RangeV wr c.bb r x.blk left cnt) ∧ Hid (∃ f, TW w wr (w.heap.size + 1) r f ∧ ∀ i, f i = true ↔ ∃ k : Nat, x.blk (k : Int) ≠ none ∧ ¬ left (k : Int) ∧ i ∈ numsOf k)) (fun _ wr => wr.rangeLeft c.bb r)
  case atStart => exact ⟨_, _, HR0, hid ⟨_, G0.out, fun i => ⟨fun e => (by cases e), fun ⟨k, k1, k2, _⟩ => absurd (by cases hq : x.blk (k : Int) with | none => exact absurd hq k1 | some _ => rfl) k2⟩⟩⟩
  case round =>
    obtain ⟨left, cnt, HR, HT⟩ := hrel
    clear G0 HR0
    obtain ⟨f, hT, hI⟩ := HT.out
    have HT1 := hid hT
    have HI1 := hid hI
    have hcn := HR.out.leftN
    have HCn := hid hcn
    clear HT hT hI hcn
    go_wp2_with (first
      | (at_next; go_must (refine wp_nextV rfl _ rfl c.bb r x.blk left cnt rfl HR.out ?_ ?_))
      | fail)
    · intro hl
      have HA : Hid (∀ i, f i = true ↔ ∃ k : Nat, x.blk (k : Int) ≠ none ∧ i ∈ numsOf k) := hid (fun i => by
        rw [HI1.out i]
        exact ⟨fun ⟨k, k1, _, k3⟩ => ⟨k, k1, k3⟩, fun ⟨k, k1, k3⟩ => ⟨k, k1, hl _, k3⟩⟩)
      have hk := HN.out.call HT1.out.2.1
      have c5 := hk.c5
      obtain ⟨sa, sc, hv⟩ := hk.sl.shape
      rw [hv] at c5
      have hlen := HN.out.len
      obtain ⟨n, hn⟩ : ∃ y, y = x.sl.length := ⟨_, rfl⟩
      rw [← hn] at c5 hlen
      have HNn := hid hn
      have nb : (n : Int) ≤ 1068 := by omega
      clear hl hk hv hn HI1 HR HCn
      go_wp2_with fail
      go_loopw [22] (fun x22 wr => ∃ j : Nat, j ≤ n ∧ x22 = .int .i64 (j : Int) ∧ Hid (∃ f, TW w wr (w.heap.size + 1) r f ∧ ∀ i, f i = true ↔ (∃ k : Nat, x.blk (k : Int) ≠ none ∧ i ∈ numsOf k) ∨ ∃ k, k < j ∧ i ∈ numsOf k)) (fun x22 _ => n - (intOf x22).toNat)
      case atStart => exact ⟨0, by omega, rfl, hid ⟨f, HT1.out, fun i => by
        rw [HA.out i]
        exact ⟨.inl, fun q => q.resolve_right (fun ⟨k, k1, _⟩ => absurd k1 (Nat.not_lt_zero _))⟩⟩⟩
      case round =>
        obtain ⟨j, hj, rfl, HX⟩ := hrel
        clear HT1 HA
        obtain ⟨f2, hT, hI⟩ := HX.out
        have HT2 := hid hT
        have HI2 := hid hI
        clear HX hT hI
        by_cases hlt : j < n
        · have j1 : (j : Int) < (n : Int) := by omega
          have j2 : (j : Int) ≤ 1068 := by omega
          have hAd := add_any j wr HT2.out.1 (by omega)
          go_wp2_with (first
            | (go_at_call 54; go_must (refine hAd.mono ?_; rintro e w4 ⟨rfl, h4, hc4⟩))
            | fail)
          refine ⟨⟨j + 1, by omega, by go_num, hid ⟨_, HT2.out.add h4 hc4, fun i => ?_⟩⟩, by simp [intOf]; omega⟩
          rw [addB_iff, HI2.out i, or_assoc]
          refine or_congr Iff.rfl ⟨?_, ?_⟩
          · rintro (⟨k, k1, k2⟩ | k2)
            · exact ⟨k, by omega, k2⟩
            · exact ⟨j, by omega, k2⟩
          · rintro ⟨k, k1, k2⟩
            by_cases e : k = j
            · exact .inr (e ▸ k2)
            · exact .inl ⟨k, by omega, k2⟩
        · have j1 : ¬ (j : Int) < (n : Int) := by omega
          obtain ⟨A, hA1, hA2⟩ := HT2.out.1
          have HA1 := hid hA1
          have HA2 := hid hA2
          have HA3 := hid (TalA_one hA2)
          have HAz := hid hA2.1
          have HJ : Hid (∀ i, f2 i = true ↔ TalP x i) := hid (fun i => by
            rw [HI2.out i]
            unfold TalP
            have : j = x.sl.length := by have := HNn.out; omega
            rw [this])
          clear hA1 hA2 HI2
          go_wp2_with (first
            | (refine load_R rfl 96 _ rfl (w.heap.size + 1) rfl 96 _ _ HA1.out Tryd.underlying96 rfl (by rw [szT, HAz.out]) ?_)
            | (refine store_R rfl 96 _ _ rfl w.heap.size A rfl rfl 96 _ HT2.out.2.2.2.2 (by rw [szT, HAz.out]) (by rw [HAz.out]; exact TZ_is.1) HA3.out ?_; intro w6 hw6)
            | fail)
          exact bodyPost_ret (v := .agg A) (results_R1 Tryd.results40 _ _ w.heap.size _ 96 _ Tryd.underlying96 rfl (by rw [szT, HAz.out]) rfl hw6.here) rfl ⟨⟨A, rfl, f2, HA2.out, HJ.out⟩, HT2.out.2.1.trans (kt_new hw6) (fun _ _ e => e) (fun j hj e => by omega)⟩
    · intro y d w3 cnt3 hl hx hIy hr3 hlt hc3 hz3 hen
      have hd := HN.out.dom y (by rw [hx]; intro e; cases e)
      obtain ⟨k, rfl⟩ : ∃ k : Nat, y = (k : Int) := ⟨y.toNat, by omega⟩
      have hk : k < 1068 := by omega
      have HT3 := hid (HT1.out.call hc3 (by have := HRr.out; omega))
      have hAd := add_any k w3 HT3.out.1 hk
      have HR3 := hid hr3
      have HLt := hid hlt
      have HX := hid hx
      clear hr3 hlt hc3 hz3 hl hIy hd hx
      go_wp2_with (first
        | (go_at_call 54; go_must (refine hAd.mono ?_; rintro e w4 ⟨rfl, h4, hc4⟩))
        | fail)
      have hR4 := HR3.out.keep hc4 HBr.out.2 (by have := HRr.out; omega)
      refine ⟨⟨_, _, hid hR4, hid ⟨_, HT3.out.add h4 hc4, fun i => ?_⟩⟩, ?_⟩
      · rw [addB_iff, HI1.out i]
        constructor
        · rintro (⟨j, j1, j2, j3⟩ | j3)
          · exact ⟨j, j1, fun e => j2 e.1, j3⟩
          · exact ⟨k, (fun e => by rw [HX.out] at e; cases e), fun e => e.2 rfl, j3⟩
        · rintro ⟨j, j1, j2, j3⟩
          by_cases e : j = k
          · exact .inr (e ▸ j3)
          · exact .inl ⟨j, j1, fun q => j2 ⟨q, by omega⟩, j3⟩
      · rw [hR4.leftN, HCn.out]
        exact HLt.out
end Go.Proofs.YtbkddnibcpjkgaaDoor
