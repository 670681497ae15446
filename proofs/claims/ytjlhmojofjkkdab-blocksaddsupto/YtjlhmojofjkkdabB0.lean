/-
  The statements' reader: sectors, one of which answers an error.
-/
import Derived.Test.YtjlhmojofjkkdabLP3
import Derived.Test.YtjlhmojofjkkdabIT
namespace Go.Proofs.Ytjlhmojofjkkdab
open Go.RowKit Go.Shelf

structure Src where
  im : List (List Int)
  bad : Int
  code : Int
def rdS (s : Src) (n : Int) : List Int × Int :=
  if n = s.bad ∧ 0 ≤ n then (Zs, s.code) else if 0 ≤ n ∧ n < s.im.length then (s.im.getD n.toNat Zs, 0) else (Zs, 40)
def srcV (a : Option Addr) (c : Nat) (s : Src) : Array Value := #[.slice a s.im.length c, .int .i64 s.bad, .int .i64 s.code]
def ImgAt (W : World) (a : Option Addr) (im : List (List Int)) : Prop :=
  (∀ s ∈ im, IsSec s) ∧ (im = [] ∨ ∃ b o, a = some ⟨b, o, none⟩ ∧ b < W.heap.size ∧ ∀ (j : Nat) s, im[j]? = some s → W.rangeAt b (o + j * 128) (s.map (Value.int .u8)))
theorem ImgAt.below {W W' : World} {a : Option Addr} {im : List (List Int)} (h : ImgAt W a im) (hb : Below W.heap.size W W') : ImgAt W' a im := by
  refine ⟨h.1, ?_⟩
  rcases h.2 with e | ⟨b, o, h1, h2, h3⟩
  · exact .inl e
  · refine .inr ⟨b, o, h1, Nat.lt_of_lt_of_le h2 hb.size, fun j s hj k v hv => ?_⟩
    rw [hb.cell (p := ⟨b, _, none⟩) h2]
    exact h3 j s hj k v hv
theorem rdS_sec {W : World} {a : Option Addr} {s : Src} (h : ImgAt W a s.im) (n : Int) : IsSec (rdS s n).1 := by
  unfold rdS
  split
  · exact Zs_sec
  · split
    · rename_i h1 h2
      have : n.toNat < s.im.length := by omega
      rw [List.getD_eq_getElem?_getD, List.getElem?_eq_getElem this]
      exact h.1 _ (List.getElem_mem this)
    · exact Zs_sec
theorem szSrc : (Try.prog.info? 32).map (·.size) = some 3 := by kernel_rfl
theorem szMem : (Try.prog.info? 35).map (·.size) = some 3 := by kernel_rfl

set_option maxRecDepth 100000 in
set_option maxHeartbeats 2000000 in
theorem rRead_any (a : Option Addr) (c : Nat) (s : Src) (n : Int) (w : World) (hi : ImgAt w a s.im) :
    Calls Try.prog 49 #[.agg (srcV a c s), .int .i64 n] w fun e w' => e = .returned (.tuple #[.agg (SA (rdS s n).1), .int .i64 (rdS s n).2]) ∧ Below w.heap.size w w' := by
  have hzs := zero_sec
  have hbs := build_sec
  have hz1 : (w.alloc (.cells (srcV a c s) 32)).heap.size = w.heap.size + 1 := by simp
  obtain ⟨W, hW⟩ : ∃ y, y = (w.alloc (.cells (srcV a c s) 32)).alloc (.cells (SA Zs) 77) := ⟨_, rfl⟩
  have H0 : Hid (W.heap[w.heap.size]? = some (.cells (srcV a c s) 32 (0, 0))) := by rw [hW]; exact heap_alloc2_old w _ _
  have H1 : Hid (W.heap[w.heap.size + 1]? = some (.cells (SA Zs) 77 (0, 0))) := by rw [hW]; exact heap_alloc2_new w _ _
  have HB : Hid (Below w.heap.size w W) := by rw [hW]; exact ((Below.refl _ _).alloc (Nat.le_refl _) _).alloc (by simp) _
  have HI : Hid (ImgAt W a s.im) := hi.below HB.out
  have c0 : W.cell? ⟨w.heap.size, 0, none⟩ = some (.slice a s.im.length c) := by rw [cell_of_row _ _ _ _ _ _ H0.out]; rfl
  have c1 : W.cell? ⟨w.heap.size, 1, none⟩ = some (.int .i64 s.bad) := by rw [cell_of_row _ _ _ _ _ _ H0.out]; rfl
  have c2 : W.cell? ⟨w.heap.size, 2, none⟩ = some (.int .i64 s.code) := by rw [cell_of_row _ _ _ _ _ _ H0.out]; rfl
  go_enter Try.func49, Try.ntmps49
  go_upto_region 1 with fail
  rw [← hW]
  clear hW hz1
  by_cases hb : n = s.bad ∧ 0 ≤ n
  · have HE : Hid (rdS s n = (Zs, s.code)) := if_pos hb
    obtain ⟨hb1, hb2⟩ := hb
    rw [hb1] at hb2
    rw [hb1]
    go_upto_region 2 with fail
    refine wp_region_noPanic ?_
    refine wp_region_held_drew (S := fun w' => w'.heap[w.heap.size + 1]? = some (.cells (SA Zs) 77 (0, 0)) ∧ w'.cell? ⟨w.heap.size, 2, none⟩ = some (.int .i64 s.code) ∧ Below w.heap.size w w') (by kernel_rfl) ⟨H1.out, c2, below_drew HB.out⟩ (fun hHeld => ?_)
    refine takeVal 0 14 (.agg (SA Zs)) rfl (by kernel_rfl) (by kernel_rfl) (by kernel_rfl) rfl (by rfl) (fun _ _ _ h => h) hHeld (fun W' _ => by have := hbs W'; go_simp) ?_
    simp only [List.setIfInBounds_toArray, List.set_cons_zero, List.set_cons_succ]
    refine takeVal 1 15 (.pointer (some ⟨w.heap.size, 2, none⟩)) rfl (by kernel_rfl) (by kernel_rfl) (by kernel_rfl) rfl (by rfl) (fun _ _ _ h => h) hHeld (fun _ _ => by go_simp) ?_
    simp only [List.setIfInBounds_toArray, List.set_cons_zero, List.set_cons_succ]
    refine takeVal 2 16 (.int .i64 s.code) rfl (by kernel_rfl) (by kernel_rfl) (by kernel_rfl) rfl (by rfl) (fun _ _ _ h => h) hHeld (fun W' hw' => by have hq : W'.cell? ⟨w.heap.size, 2, none⟩ = some (.int .i64 s.code) := hw'.2.1; go_simp) ?_
    simp only [List.setIfInBounds_toArray, List.set_cons_zero, List.set_cons_succ]
    refine step1 3 (by kernel_rfl) ?_
    refine stStoreR 3 77 (.tmp 4) (.tmp 14) (w.heap.size + 1) (SA Zs) 77 (SA Zs) rfl rfl (by rfl) rfl rfl rfl hHeld.1 (by rw [sz26, SA_size, Zs_len]) rfl (SA_one Zs) ?_
    intro w5 p5
    have C5 : w5.cell? ⟨w.heap.size, 2, none⟩ = some (.int .i64 s.code) := by
      have := hHeld.2.1
      unfold World.cell? at this ⊢
      rw [p5.other _ (by simp)]
      exact this
    refine ⟨⟨p5.here, C5, p5.below hHeld.2.2 (by omega)⟩, ?_⟩
    refine takeVal 4 5 (.int .i64 s.code) rfl (by kernel_rfl) (by kernel_rfl) (by kernel_rfl) rfl (by rfl) (fun _ _ _ h => h) ⟨p5.here, C5, p5.below hHeld.2.2 (by omega)⟩ (fun _ _ => rfl) ?_
    simp only [List.setIfInBounds_toArray, List.set_cons_zero, List.set_cons_succ]
    refine wpAnyH_done (by kernel_rfl) ?_ _
    refine NoPanic.normal ?_
    go_wp2_with fail
    exact bodyPost_ret (results_sec Try.results49 _ _ (w.heap.size + 1) Zs Zs_len _ rfl rfl p5.here) rfl ⟨by rw [HE.out]; rfl, p5.below hHeld.2.2 (by omega)⟩
  · by_cases hr : 0 ≤ n ∧ n < s.im.length
    · have HE : Hid (rdS s n = (s.im.getD n.toNat Zs, 0)) := by unfold rdS; rw [if_neg hb, if_pos hr]; exact hid rfl
      have hlt : n.toNat < s.im.length := by omega
      obtain ⟨N, hN⟩ : ∃ N : Nat, n = (N : Int) := ⟨n.toNat, by omega⟩
      rw [hN] at hlt hr hb HE ⊢
      rw [Int.toNat_natCast] at hlt
      obtain ⟨t, ht⟩ : ∃ t, s.im[N]? = some t := ⟨_, List.getElem?_eq_getElem hlt⟩
      have HG : Hid (s.im.getD N Zs = t) := by rw [List.getD_eq_getElem?_getD, ht]; exact hid rfl
      have hts : IsSec t := HI.out.1 t (List.mem_of_getElem? ht)
      rcases HI.out.2 with e | ⟨b, o, ha, _, hrg⟩
      · rw [e] at hlt; exact absurd hlt (by simp)
      have HRG := hid (hrg N t ht)
      subst ha
      obtain ⟨hr1, hr2⟩ := hr
      have hb' : ¬ ((N : Int) = s.bad) := fun e => hb ⟨e, hr1⟩
      have h26 := sz26
      have hnot : ¬ ((N : Int) < 0) := by omega
      have hnot2 : ¬ ((s.im.length : Int) ≤ (N : Int)) := by omega
      have HB' := hid hb'
      clear hrg hb hi ht
      go_wp2_with (first
        | (refine wpList_load_mid rfl 77 (.tmp 30) rfl b (o + N * 128) rfl _ _ HRG.out Try.underlying77 rfl (by rw [h26, List.length_map, hts.1]) ?_)
        | (refine store_sec rfl (.tmp 4) (.tmp 31) rfl (w.heap.size + 1) rfl t rfl hts.1 Zs Zs_len H1.out ?_; intro w5 p5))
      exact bodyPost_ret (results_sec Try.results49 _ _ (w.heap.size + 1) t hts.1 _ rfl rfl p5.here) rfl ⟨by rw [HE.out, Int.toNat_natCast, HG.out]; rfl, p5.below HB.out (by omega)⟩
    · have HE : Hid (rdS s n = (Zs, 40)) := by unfold rdS; rw [if_neg hb, if_neg hr]; exact hid rfl
      have hor : n < 0 ∨ (0 ≤ n ∧ (s.im.length : Int) ≤ n) := by omega
      rcases hor with h1 | ⟨h1, h2⟩
      · have h3 : ¬ (0 ≤ n) := by omega
        clear hb hr
        by_cases hq : n = s.bad
        · rw [← hq] at c1
          clear hq
          go_wp2_with (first | (refine store_sec rfl (.tmp 4) (.tmp 26) rfl (w.heap.size + 1) rfl Zs rfl Zs_len Zs Zs_len H1.out ?_; intro w5 p5))
          exact bodyPost_ret (results_sec Try.results49 _ _ (w.heap.size + 1) Zs Zs_len _ rfl rfl p5.here) rfl ⟨by rw [HE.out]; rfl, p5.below HB.out (by omega)⟩
        · have hq' := hq
          go_wp2_with (first | (refine store_sec rfl (.tmp 4) (.tmp 26) rfl (w.heap.size + 1) rfl Zs rfl Zs_len Zs Zs_len H1.out ?_; intro w5 p5))
          exact bodyPost_ret (results_sec Try.results49 _ _ (w.heap.size + 1) Zs Zs_len _ rfl rfl p5.here) rfl ⟨by rw [HE.out]; rfl, p5.below HB.out (by omega)⟩
      · have h3 : ¬ n = s.bad := fun e => hb ⟨e, h1⟩
        have h4 : ¬ n < 0 := by omega
        clear hb hr
        go_wp2_with (first | (refine store_sec rfl (.tmp 4) (.tmp 26) rfl (w.heap.size + 1) rfl Zs rfl Zs_len Zs Zs_len H1.out ?_; intro w5 p5))
        exact bodyPost_ret (results_sec Try.results49 _ _ (w.heap.size + 1) Zs Zs_len _ rfl rfl p5.here) rfl ⟨by rw [HE.out]; rfl, p5.below HB.out (by omega)⟩

end Go.Proofs.Ytjlhmojofjkkdab
