/-
  known of the statements, walked: sectors that land behind one another, and one that is in the way.
-/
import Derived.Test.YtamoepninddbcaaGreatCKnown
namespace Go.Proofs.YtamoepninddbcaaGreat
open Go.RowKit

variable {w0 w w' : World} {c p g n : Nat} {z z' : CSt} {ρ : Nat → Option Role}

/-- A cache that is new since w0. -/
def FC (w0 w : World) (c p g n : Nat) (z : CSt) : Prop := ∃ ρ, IsC w c p g n ρ z ∧ (∀ k, Own ρ k → w0.heap.size ≤ k) ∧ Chg w0 w No
theorem FC.call (h : FC w0 w c p g n z) (hc : Chg w w' No) : FC w0 w' c p g n z := let ⟨ρ, h1, h2, h3⟩ := h; ⟨ρ, h1.call hc, h2, h3.tr hc⟩
theorem FC.post (_h : IsC w c p g n ρ z) (ho : ∀ k, Own ρ k → w0.heap.size ≤ k) (hc : Chg w0 w No) (hP : CPost w w' c p g n ρ z') : FC w0 w' c p g n z' := by
  obtain ⟨ρ', k1, k2, k3⟩ := hP
  have hs := hc.size
  refine ⟨ρ', k1, fun k hk => ?_, hc.trans k3 (fun _ _ e => e) (fun j hj e => ?_)⟩
  · rcases k2 k hk with e | e
    · exact ho k e
    · omega
  · have := ho j e
    omega
theorem FC.put (h : FC w0 w c p g n z) (x : Int) (s l : List Int) (a : Option Addr) (ca : Nat) (hs : s.length = 128) (hIx : I64 x) (hl : LAt w a l) (hn : a = none → ca = 0) (hao : ∀ k, a = some ⟨k, 0, none⟩ → k < w.heap.size ∧ ∀ ρ, IsC w c p g n ρ z → (∀ k, Own ρ k → w0.heap.size ≤ k) → ¬ Own ρ k) (hm : l.length ≤ 17592186043910) (hI : ∀ k, k < l.length → I64 (l.getD k 0)) (ht : TB z) (hw : z.d.wr < 4611686018427380000) :
    Calls Tryz.prog 20 #[.pointer (some ⟨c, 0, none⟩), .int .i64 x, .agg (D.SA s), .slice a l.length ca] w fun e w' => e = .returned (.int .i64 (putC n z x s l).2) ∧ FC w0 w' c p g n (putC n z x s l).1 := by
  obtain ⟨ρ, h1, h2, h3⟩ := h
  exact (put_any x s l a ca h1 hs hIx hl hn (fun k hk => ⟨(hao k hk).1, (hao k hk).2 ρ h1 h2⟩) hm hI ht hw).mono fun e w' hh => ⟨hh.1, FC.post h1 h2 h3 hh.2⟩
/-- Behind a list of one number that was just built. -/
theorem FC.put1 (h : FC w0 w c p g n z) (x : Int) (s : List Int) (y : Int) (hs : s.length = 128) (hIx : I64 x) (hIy : I64 y) (ht : TB z) (hw : z.d.wr < 4611686018427380000) :
    Calls Tryz.prog 20 #[.pointer (some ⟨c, 0, none⟩), .int .i64 x, .agg (D.SA s), .slice (some ⟨w.heap.size, 0, none⟩) 1 1] (w.alloc (.cells #[.int .i64 y] 3)) fun e w' => e = .returned (.int .i64 (putC n z x s [y]).2) ∧ FC w0 w' c p g n (putC n z x s [y]).1 := by
  have hh := h
  obtain ⟨ρ, h1, h2, h3⟩ := h
  have hc : Chg w (w.alloc (.cells #[.int .i64 y] 3)) No := Chg.alloc _ _ _
  refine (put_any x s [y] (some ⟨w.heap.size, 0, none⟩) 1 (h1.call hc) hs hIx (lat_one w y) (fun e => by cases e) (fun k hk => ?_) (by simp) (fun k hk => ?_) ht hw).mono fun e w' hq => ⟨hq.1, FC.post (h1.call hc) h2 (h3.tr hc) hq.2⟩
  · cases hk
    exact ⟨by simp, fun ho => by have := h1.lt ho; omega⟩
  · have : k = 0 := by simpa using hk
    subst this
    exact hIy
theorem edgs_len {w : World} {base : Nat} {v : Value} {l : List (Int × Int)} (h : Edgs w base v l) : ∃ a ca, v = .slice a l.length ca := by
  rcases h.2 with ⟨rfl, h0⟩ | ⟨g, cap, cur, rfl, _⟩
  · exact ⟨none, 0, by rw [h0]⟩
  · exact ⟨_, _, rfl⟩
theorem kw0 : (newZ zd0).d.wr < 4611686018427380000 := by show (0 : Int) < _; decide
theorem kw1 : kz1.d.wr < 4611686018427380000 := by show (0 : Int) < _; decide
theorem kw2 : kz2.d.wr < 4611686018427380000 := by show (0 : Int) < _; decide
theorem i1 : I64 1 := ⟨by decide, by decide⟩
theorem i3 : I64 3 := ⟨by decide, by decide⟩
theorem zw0 : 0 ≤ zd0.wr := by show (0 : Int) ≤ 0; decide
theorem zl0 : 0 ≤ zd0.lf ∧ zd0.lf ≤ 9223372036854775807 := by show (0 : Int) ≤ 0 ∧ (0 : Int) ≤ _; decide
theorem own_new {w w1 : World} (h : ∀ k, Own ρ k → k = p ∨ k = g ∨ w1.heap.size ≤ k) (hp : w.heap.size ≤ p) (hg : w.heap.size ≤ g) (hs : w.heap.size ≤ w1.heap.size) : ∀ k, Own ρ k → w.heap.size ≤ k := fun k hk => by
  rcases h k hk with e | e | e
  · omega
  · omega
  · omega

set_option maxRecDepth 100000 in
set_option maxHeartbeats 4000000 in
theorem known_any (w : World) : Calls Tryz.prog 6 #[] w fun e w' => e = .returned (.bool true) ∧ Chg w w' No := by
  have hzs := D.zero_sec
  have HN := D.new_ok 8 w (by decide) (by decide)
  rw [show ((8 : Nat) : Int) = 8 from rfl] at HN
  have HU := hid (fun m w => full_any m w)
  go_enter Tryz.func6, Tryz.ntmps6
  go_wp2_with (first
    | (go_at_call 13; go_must (refine HN.mono ?_; rintro e w1 ⟨p, g, rfl, hp, hg, hd1, hb1⟩; have HC := newC_any hd1 zw0 zl0; have HC01 := hid (Chg.of_below hb1 No); have HPG := hid (And.intro hp hg); clear HN hd1 hb1 hp hg))
    | (go_at_call 18; go_must (refine HC.mono ?_; rintro e w2 ⟨c, ρ2, rfl, hC2, ho2, _, hc2⟩; have HF := hid (show FC w w2 c p g 8 (newZ zd0) from ⟨ρ2, hC2, own_new ho2 HPG.out.1 HPG.out.2 HC01.out.size, HC01.out.tr hc2⟩); have HU1 := HU.out 1 w2; clear HC hC2 ho2 hc2))
    | (go_at_call 15; go_must (first
        | (refine HU1.mono ?_; rintro e w3 ⟨rfl, hc3⟩; have HP1 := (HF.out.call hc3).put 1 (fullS 1) [] none 0 (fullS_len 1) i1 (.inl rfl) (fun _ => rfl) (fun k e => (by cases e)) (by simp) (fun k hk => absurd hk (by simp)) (newZ_tb _) kw0; rw [kp1] at HP1; simp only [List.length_nil] at HP1; clear HU1 hc3)
        | (refine HU2.mono ?_; rintro e w4 ⟨rfl, hc4⟩; have HP2 := (HF1.out.call hc4).put1 3 (fullS 3) 1 (fullS_len 3) i3 i1 ktb1 kw1; rw [kp2] at HP2; clear HU2 hc4)
        | (refine HU3.mono ?_; rintro e w6 ⟨rfl, hc6⟩; have HP3 := (HF3.out.call hc6).put1 1 (fullS 2) 3 (fullS_len 2) i1 i3 ktb2 kw2; rw [kp3] at HP3; clear HU3 hc6)))
    | (go_at_call 20; go_must (first
        | (refine HP1.mono ?_; rintro e wa ⟨rfl, hF1⟩; have HF1 := hid hF1; have HU2 := HU.out 3 wa; clear HP1 hF1)
        | (refine HP2.mono ?_; rintro e wb ⟨rfl, hF2⟩; obtain ⟨ρb, hCb, hob, hcb⟩ := hF2; have HFl := flushC_any 3 hCb i3 ktb2 kw2; rw [kf3] at HFl; have HF2 := hid (And.intro hCb (And.intro hob hcb)); clear HP2 hCb hob hcb)
        | (refine HP3.mono ?_; rintro e wd ⟨rfl, hF4⟩; have HF4 := hid hF4; obtain ⟨ρd, hCd, hod, hcd⟩ := hF4; have HD := dirty_any hCd; rw [kdirty] at HD; clear HP3 hCd hod hcd)))
    | (go_at_call 21; go_must (refine HFl.mono ?_; rintro e wc ⟨rfl, hPc⟩; have HF3 := hid (FC.post HF2.out.1 HF2.out.2.1 HF2.out.2.2 hPc); have HU3 := HU.out 2 wc; clear HFl hPc))
    | (go_at_call 22; go_must (refine HD.mono ?_; rintro e w7 ⟨v7, rfl, hv7, hc7⟩; obtain ⟨a7, c7, rfl, _, _⟩ := hv7.lat; have HF5 := hid (HF4.out.call hc7); obtain ⟨ρ7, hC7, ho7, hk7⟩ := HF5.out; have HS := standC_any 1 hC7; rw [kstand] at HS; have HC7 := hid (And.intro hC7 (And.intro ho7 hk7)); clear HD hv7 hc7 hC7 ho7 hk7))
    | (go_at_call 23; go_must (refine HS.mono ?_; rintro e w8 ⟨rfl, hP8⟩; have HF6 := hid (FC.post HC7.out.1 HC7.out.2.1 HC7.out.2.2 hP8); have HQ8 := hid (heap_alloc_new w8 (.cells (D.SA D.Zs) 47)); clear HS hP8))
    | (refine D.store_sec rfl _ _ rfl w8.heap.size rfl (fullS 1) rfl (fullS_len 1) D.Zs D.Zs_len HQ8.out ?_; intro we hwe; have HB8 := hid hwe.here; have HF8 := hid (HF6.out.call ((Chg.alloc w8 (.cells (D.SA D.Zs) 47) No).trans (wrote_chg hwe) (c := No) (fun _ _ e => e) (fun j hj e => by omega))); clear hwe)
    | fail)
  refine wp_region_noPanic ?_
  refine wp_region_held_drew (S := fun w' => w'.heap[w8.heap.size]? = some (.cells (D.SA (fullS 1)) 47 (0, 0)) ∧ FC w w' c p g 8 kz4) (by kernel_rfl) ⟨HB8.out, HF8.out.call (Chg.refl we No).drew⟩ (fun hHeld => ?_)
  refine takeVal 0 57 (.int .i64 0) rfl (by kernel_rfl) (by kernel_rfl) (by kernel_rfl) rfl (by rfl) (fun _ _ _ h => h) hHeld (fun _ hw' => rfl) ?_
  simp only [List.setIfInBounds_toArray, List.set_cons_zero, List.set_cons_succ]
  refine takeVal 1 58 (.bool true) rfl (by kernel_rfl) (by kernel_rfl) (by kernel_rfl) rfl (by rfl) (fun _ _ _ h => h) hHeld (fun _ hw' => by go_simp) ?_
  simp only [List.setIfInBounds_toArray, List.set_cons_zero, List.set_cons_succ]
  refine takeVal 2 59 (.bool true) rfl (by kernel_rfl) (by kernel_rfl) (by kernel_rfl) rfl (by rfl) (fun _ _ _ h => h) hHeld (fun _ hw' => rfl) ?_
  simp only [List.setIfInBounds_toArray, List.set_cons_zero, List.set_cons_succ]
  refine takeVal 3 60 (.int .i64 0) rfl (by kernel_rfl) (by kernel_rfl) (by kernel_rfl) rfl (by rfl) (fun _ _ _ h => h) hHeld (fun _ hw' => rfl) ?_
  simp only [List.setIfInBounds_toArray, List.set_cons_zero, List.set_cons_succ]
  refine takeVal 4 61 (.bool true) rfl (by kernel_rfl) (by kernel_rfl) (by kernel_rfl) rfl (by rfl) (fun _ _ _ h => h) hHeld (fun _ hw' => by go_simp) ?_
  simp only [List.setIfInBounds_toArray, List.set_cons_zero, List.set_cons_succ]
  refine takeVal 5 62 (.bool true) rfl (by kernel_rfl) (by kernel_rfl) (by kernel_rfl) rfl (by rfl) (fun _ _ _ h => h) hHeld (fun _ hw' => rfl) ?_
  simp only [List.setIfInBounds_toArray, List.set_cons_zero, List.set_cons_succ]
  refine takeVal 6 63 (.bool true) rfl (by kernel_rfl) (by kernel_rfl) (by kernel_rfl) rfl (by rfl) (fun _ _ _ h => h) hHeld (fun _ hw' => rfl) ?_
  simp only [List.setIfInBounds_toArray, List.set_cons_zero, List.set_cons_succ]
  refine takeVal 7 64 (.bool false) rfl (by kernel_rfl) (by kernel_rfl) (by kernel_rfl) rfl (by rfl) (fun _ _ _ h => h) hHeld (fun _ hw' => rfl) ?_
  simp only [List.setIfInBounds_toArray, List.set_cons_zero, List.set_cons_succ]
  refine takeVal 8 65 (.bool true) rfl (by kernel_rfl) (by kernel_rfl) (by kernel_rfl) rfl (by rfl) (fun _ _ _ h => h) hHeld (fun _ hw' => by go_simp) ?_
  simp only [List.setIfInBounds_toArray, List.set_cons_zero, List.set_cons_succ]
  refine takeVal 9 66 (.bool true) rfl (by kernel_rfl) (by kernel_rfl) (by kernel_rfl) rfl (by rfl) (fun _ _ _ h => h) hHeld (fun _ hw' => rfl) ?_
  simp only [List.setIfInBounds_toArray, List.set_cons_zero, List.set_cons_succ]
  refine takeVal 10 67 (.bool true) rfl (by kernel_rfl) (by kernel_rfl) (by kernel_rfl) rfl (by rfl) (fun _ _ _ h => h) hHeld (fun _ hw' => rfl) ?_
  simp only [List.setIfInBounds_toArray, List.set_cons_zero, List.set_cons_succ]
  refine takeVal 11 68 (.int .i64 0) rfl (by kernel_rfl) (by kernel_rfl) (by kernel_rfl) rfl (by rfl) (fun _ _ _ h => h) hHeld (fun _ hw' => rfl) ?_
  simp only [List.setIfInBounds_toArray, List.set_cons_zero, List.set_cons_succ]
  refine takeVal 12 69 (.bool true) rfl (by kernel_rfl) (by kernel_rfl) (by kernel_rfl) rfl (by rfl) (fun _ _ _ h => h) hHeld (fun _ hw' => by go_simp) ?_
  simp only [List.setIfInBounds_toArray, List.set_cons_zero, List.set_cons_succ]
  refine takeVal 13 70 (.bool true) rfl (by kernel_rfl) (by kernel_rfl) (by kernel_rfl) rfl (by rfl) (fun _ _ _ h => h) hHeld (fun _ hw' => rfl) ?_
  simp only [List.setIfInBounds_toArray, List.set_cons_zero, List.set_cons_succ]
  refine takeVal 14 71 (.bool true) rfl (by kernel_rfl) (by kernel_rfl) (by kernel_rfl) rfl (by rfl) (fun _ _ _ h => h) hHeld (fun _ hw' => rfl) ?_
  simp only [List.setIfInBounds_toArray, List.set_cons_zero, List.set_cons_succ]
  refine takeVal 15 72 (.int .i64 0) rfl (by kernel_rfl) (by kernel_rfl) (by kernel_rfl) rfl (by rfl) (fun _ _ _ h => h) hHeld (fun _ hw' => rfl) ?_
  simp only [List.setIfInBounds_toArray, List.set_cons_zero, List.set_cons_succ]
  refine takeVal 16 73 (.bool true) rfl (by kernel_rfl) (by kernel_rfl) (by kernel_rfl) rfl (by rfl) (fun _ _ _ h => h) hHeld (fun _ hw' => by go_simp) ?_
  simp only [List.setIfInBounds_toArray, List.set_cons_zero, List.set_cons_succ]
  refine takeVal 17 74 (.bool true) rfl (by kernel_rfl) (by kernel_rfl) (by kernel_rfl) rfl (by rfl) (fun _ _ _ h => h) hHeld (fun _ hw' => rfl) ?_
  simp only [List.setIfInBounds_toArray, List.set_cons_zero, List.set_cons_succ]
  refine takeVal 18 75 (.bool true) rfl (by kernel_rfl) (by kernel_rfl) (by kernel_rfl) rfl (by rfl) (fun _ _ _ h => h) hHeld (fun _ hw' => rfl) ?_
  simp only [List.setIfInBounds_toArray, List.set_cons_zero, List.set_cons_succ]
  refine takeVal 19 76 (.slice a7 2 c7) rfl (by kernel_rfl) (by kernel_rfl) (by kernel_rfl) rfl (by rfl) (fun _ _ _ h => h) hHeld (fun _ hw' => rfl) ?_
  simp only [List.setIfInBounds_toArray, List.set_cons_zero, List.set_cons_succ]
  refine takeVal 20 77 (.int .i64 2) rfl (by kernel_rfl) (by kernel_rfl) (by kernel_rfl) rfl (by rfl) (fun _ _ _ h => h) hHeld (fun _ hw' => by go_simp) ?_
  simp only [List.setIfInBounds_toArray, List.set_cons_zero, List.set_cons_succ]
  refine takeVal 21 78 (.bool true) rfl (by kernel_rfl) (by kernel_rfl) (by kernel_rfl) rfl (by rfl) (fun _ _ _ h => h) hHeld (fun _ hw' => by go_simp) ?_
  simp only [List.setIfInBounds_toArray, List.set_cons_zero, List.set_cons_succ]
  refine takeVal 22 79 (.bool true) rfl (by kernel_rfl) (by kernel_rfl) (by kernel_rfl) rfl (by rfl) (fun _ _ _ h => h) hHeld (fun _ hw' => rfl) ?_
  simp only [List.setIfInBounds_toArray, List.set_cons_zero, List.set_cons_succ]
  refine takeVal 23 80 (.bool true) rfl (by kernel_rfl) (by kernel_rfl) (by kernel_rfl) rfl (by rfl) (fun _ _ _ h => h) hHeld (fun _ hw' => rfl) ?_
  simp only [List.setIfInBounds_toArray, List.set_cons_zero, List.set_cons_succ]
  refine takeVal 24 81 (.int .i64 0) rfl (by kernel_rfl) (by kernel_rfl) (by kernel_rfl) rfl (by rfl) (fun _ _ _ h => h) hHeld (fun _ hw' => rfl) ?_
  simp only [List.setIfInBounds_toArray, List.set_cons_zero, List.set_cons_succ]
  refine takeVal 25 82 (.bool true) rfl (by kernel_rfl) (by kernel_rfl) (by kernel_rfl) rfl (by rfl) (fun _ _ _ h => h) hHeld (fun _ hw' => by go_simp) ?_
  simp only [List.setIfInBounds_toArray, List.set_cons_zero, List.set_cons_succ]
  refine takeVal 26 83 (.bool true) rfl (by kernel_rfl) (by kernel_rfl) (by kernel_rfl) rfl (by rfl) (fun _ _ _ h => h) hHeld (fun _ hw' => rfl) ?_
  simp only [List.setIfInBounds_toArray, List.set_cons_zero, List.set_cons_succ]
  refine takeVal 27 84 (.bool true) rfl (by kernel_rfl) (by kernel_rfl) (by kernel_rfl) rfl (by rfl) (fun _ _ _ h => h) hHeld (fun _ hw' => rfl) ?_
  simp only [List.setIfInBounds_toArray, List.set_cons_zero, List.set_cons_succ]
  refine D.takeSec 28 85 (.tmp 11) (w8.heap.size) (fullS 1) (fullS_len 1) rfl (by kernel_rfl) (by kernel_rfl) (by kernel_rfl) rfl rfl rfl (by rfl) (fun _ _ _ h => h) hHeld (fun _ hw' => hw'.1) ?_
  simp only [List.setIfInBounds_toArray, List.set_cons_zero, List.set_cons_succ]
  refine step1 29 (by kernel_rfl) ?_
  refine stCall 29 86 15 #[.int .u8 1] _ rfl rfl (by rfl) (by go_simp) (full_any 1 _) ?_
  rintro e w9 ⟨rfl, hc9⟩
  have hHeld : w9.heap[w8.heap.size]? = some (.cells (D.SA (fullS 1)) 47 (0, 0)) ∧ FC w w9 c p g 8 kz4 := ⟨hc9.keep hHeld.1 (fun e => e), hHeld.2.call hc9⟩
  refine ⟨_, rfl, hHeld, ?_⟩
  simp only [List.setIfInBounds_toArray, List.set_cons_zero, List.set_cons_succ]
  refine takeVal 30 87 (.bool true) rfl (by kernel_rfl) (by kernel_rfl) (by kernel_rfl) rfl (by rfl) (fun _ _ _ h => h) hHeld (fun _ hw' => by have hq := D.eq_sec (fullS 1) (fullS 1) (fullS_len 1) (fullS_len 1); rw [decide_eq_true rfl] at hq; have hgd := D.guard_sec; go_simp) ?_
  simp only [List.setIfInBounds_toArray, List.set_cons_zero, List.set_cons_succ]
  refine takeVal 31 88 (.bool true) rfl (by kernel_rfl) (by kernel_rfl) (by kernel_rfl) rfl (by rfl) (fun _ _ _ h => h) hHeld (fun _ hw' => rfl) ?_
  simp only [List.setIfInBounds_toArray, List.set_cons_zero, List.set_cons_succ]
  refine takeVal 32 89 (.bool true) rfl (by kernel_rfl) (by kernel_rfl) (by kernel_rfl) rfl (by rfl) (fun _ _ _ h => h) hHeld (fun _ hw' => rfl) ?_
  simp only [List.setIfInBounds_toArray, List.set_cons_zero, List.set_cons_succ]
  refine takeVal 33 90 (.pointer (some ⟨c, 0, none⟩)) rfl (by kernel_rfl) (by kernel_rfl) (by kernel_rfl) rfl (by rfl) (fun _ _ _ h => h) hHeld (fun _ hw' => rfl) ?_
  simp only [List.setIfInBounds_toArray, List.set_cons_zero, List.set_cons_succ]
  refine step1 34 (by kernel_rfl) ?_
  refine stCall 34 91 24 #[.pointer (some ⟨c, 0, none⟩)] _ rfl rfl (by rfl) (by go_simp) ((let ⟨ρ9, h91, _⟩ := hHeld.2; edgesC_any h91)) ?_
  rintro e wB ⟨vE, lE, rfl, hvE, hlE, hcB⟩
  obtain ⟨aE, cE, rfl⟩ := edgs_len hvE
  rw [kedges hlE]
  have hHeld : wB.heap[w8.heap.size]? = some (.cells (D.SA (fullS 1)) 47 (0, 0)) ∧ FC w wB c p g 8 kz4 := ⟨hcB.keep hHeld.1 (fun e => e), hHeld.2.call hcB⟩
  refine ⟨_, rfl, hHeld, ?_⟩
  simp only [List.setIfInBounds_toArray, List.set_cons_zero, List.set_cons_succ]
  refine takeVal 35 92 (.int .i64 1) rfl (by kernel_rfl) (by kernel_rfl) (by kernel_rfl) rfl (by rfl) (fun _ _ _ h => h) hHeld (fun _ hw' => by go_simp) ?_
  simp only [List.setIfInBounds_toArray, List.set_cons_zero, List.set_cons_succ]
  refine takeVal 36 93 (.bool true) rfl (by kernel_rfl) (by kernel_rfl) (by kernel_rfl) rfl (by rfl) (fun _ _ _ h => h) hHeld (fun _ hw' => by go_simp) ?_
  simp only [List.setIfInBounds_toArray, List.set_cons_zero, List.set_cons_succ]
  refine takeVal 37 94 (.bool true) rfl (by kernel_rfl) (by kernel_rfl) (by kernel_rfl) rfl (by rfl) (fun _ _ _ h => h) hHeld (fun _ hw' => rfl) ?_
  simp only [List.setIfInBounds_toArray, List.set_cons_zero, List.set_cons_succ]
  refine takeVal 38 0 (.bool true) rfl (by kernel_rfl) (by kernel_rfl) (by kernel_rfl) rfl (by rfl) (fun _ _ _ h => h) hHeld (fun _ hw' => rfl) ?_
  simp only [List.setIfInBounds_toArray, List.set_cons_zero]
  refine wpAnyH_done (by kernel_rfl) ?_ _
  refine NoPanic.normal ?_
  go_wp2
  go_ret
  obtain ⟨_, _, _, hcE⟩ := hHeld.2
  exact ⟨rfl, hcE⟩

end Go.Proofs.YtamoepninddbcaaGreat
