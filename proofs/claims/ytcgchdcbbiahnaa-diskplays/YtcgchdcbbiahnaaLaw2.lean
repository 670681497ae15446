/-
  Images of sectors: the statements' own helper laid makes one, in new memory; fits tells whether it is not too long.
-/
import Derived.Test.YtcgchdcbbiahnaaLaw1
namespace Go.Proofs.Ytcgchdcbbiahnaa
open Go.RowKit

/-- Lists of bytes that lie in memory, one behind the other. -/
def ImgAt (w : World) (a : Option Addr) (im : List (List Int)) : Prop :=
  im = [] ∨ ∃ b o, a = some ⟨b, o, none⟩ ∧ b < w.heap.size ∧ ∀ j, j < im.length → ∃ ad cap, w.cell? ⟨b, o + j, none⟩ = some (.slice ad (im.getD j []).length cap) ∧ BytesAt w ad (im.getD j [])
theorem ImgAt.below {w w' : World} {a : Option Addr} {im : List (List Int)} (h : ImgAt w a im) (hb : Below w.heap.size w w') : ImgAt w' a im := by
  rcases h with h | ⟨b, o, rfl, hlt, hc⟩
  · exact .inl h
  · refine .inr ⟨b, o, rfl, Nat.lt_of_lt_of_le hlt hb.size, fun j hj => ?_⟩
    obtain ⟨ad, cap, h1, h2⟩ := hc j hj
    exact ⟨ad, cap, by rw [hb.cell (p := ⟨b, o + j, none⟩) hlt]; exact h1, bytes_below h2 hb⟩

def flat (l : List (List Int)) : List Int := l.flatten
def AllS (l : List (List Int)) : Prop := ∀ s, s ∈ l → s.length = 128
theorem flat_len : ∀ {l : List (List Int)}, AllS l → (flat l).length = 128 * l.length
  | [], _ => rfl
  | s :: l, h => by
    have ih := flat_len (l := l) (fun x hx => h x (List.mem_cons_of_mem _ hx))
    have hs := h s List.mem_cons_self
    unfold flat at ih ⊢
    rw [List.flatten_cons, List.length_append, ih, hs, List.length_cons]
    omega
theorem AllS.take {l : List (List Int)} (h : AllS l) (k : Nat) : AllS (l.take k) := fun s hs => h s (List.mem_of_mem_take hs)
/-- The first k sectors of l, and zeros. -/
def fillL (l : List (List Int)) (k : Nat) : List Int := flat (l.take k) ++ zl (128 * (l.length - k))
theorem fillL_zero (l : List (List Int)) : fillL l 0 = zl (128 * l.length) := by simp [fillL, flat]
theorem fillL_end (l : List (List Int)) : fillL l l.length = flat l := by simp [fillL, zl]
theorem fillL_len {l : List (List Int)} (h : AllS l) (k : Nat) (hk : k ≤ l.length) : (fillL l k).length = 128 * l.length := by
  rw [fillL, List.length_append, flat_len (h.take k), zl_len, List.length_take]
  omega
theorem fillL_step {l : List (List Int)} (h : AllS l) (k : Nat) (hk : k < l.length) : over (fillL l k) (k * 128) (l.getD k []) = fillL l (k + 1) := by
  have hs : (l.getD k []).length = 128 := by
    rw [List.getD_eq_getElem?_getD, List.getElem?_eq_getElem hk]
    exact h _ (List.getElem_mem hk)
  have e1 : (flat (l.take k)).length = k * 128 := by rw [flat_len (h.take k), List.length_take]; omega
  rw [over_eq _ _ _ (by rw [fillL_len h k (by omega), hs]; omega), hs]
  unfold fillL
  rw [List.take_left' e1, List.drop_append, e1, List.drop_of_length_le (by rw [e1]; omega), List.nil_append]
  have e2 : flat (l.take (k + 1)) = flat (l.take k) ++ l.getD k [] := by
    unfold flat
    rw [List.take_succ_eq_append_getElem hk, List.flatten_append, List.getD_eq_getElem?_getD, List.getElem?_eq_getElem hk]
    simp
  rw [e2]
  congr 1
  unfold zl
  rw [List.drop_replicate]
  congr 1
  omega

/-- The sectors of an image. -/
def secs (im : List (List Int)) : List (List Int) := im.map ofS
def marks : List (List Int) := [ofS [109, 97, 114, 107], ofS [109, 97, 114, 107], ofS [109, 97, 114, 107]]
theorem secs_all (im : List (List Int)) : AllS (secs im) := by
  intro s hs
  obtain ⟨z, _, rfl⟩ := List.mem_map.1 hs
  exact ofS_len z
theorem marks_all : AllS marks := by
  intro s hs
  simp only [marks, List.mem_cons, List.not_mem_nil, or_false] at hs
  rcases hs with rfl | rfl | rfl <;> exact ofS_len _
theorem AllS.app {a b : List (List Int)} (h : AllS a) (k : AllS b) : AllS (a ++ b) := by
  intro s hs
  rcases List.mem_append.1 hs with c | c
  · exact h s c
  · exact k s c
theorem secs_len (im : List (List Int)) : (secs im).length = im.length := by simp [secs]
theorem secs_get (im : List (List Int)) (k : Nat) (h : k < im.length) : (secs im ++ marks).getD k [] = ofS (im.getD k []) := by
  rw [List.getD_eq_getElem?_getD, List.getElem?_append_left (by rw [secs_len]; exact h), secs, List.getElem?_map, List.getElem?_eq_getElem h]
  simp [h]
theorem marks_get (im : List (List Int)) (j : Nat) (h : j < 3) : (secs im ++ marks).getD (im.length + j) [] = ofS [109, 97, 114, 107] := by
  rw [List.getD_eq_getElem?_getD, List.getElem?_append_right (by rw [secs_len]; omega), secs_len, Nat.add_sub_cancel_left]
  match j, h with
  | 0, _ => rfl
  | 1, _ => rfl
  | 2, _ => rfl

set_option maxHeartbeats 400000 in
theorem fits_any (m cap : Nat) (a : Option Addr) (w : World) : Calls Try.prog 18 #[.slice a m cap] w fun e w' => e = .returned (.bool (decide (m ≤ 5000))) ∧ w' = w := by
  have HE : Hid (decide ((m : Int) ≤ 5000) = decide (m ≤ 5000)) := by show _ = _; congr 1; simp; omega
  go_enter Try.func18, Try.ntmps18
  go_wp2
  go_ret
  exact ⟨ret_bool HE.out, rfl⟩

set_option maxRecDepth 100000 in
set_option maxHeartbeats 2000000 in
theorem llaid_any (im : List (List Int)) (m : Nat) (hm : Hid (im.length = m)) (h5 : m ≤ 5000) (a : Option Addr) (cap : Nat) (w : World) (HI : Hid (ImgAt w a im)) :
    Calls Try.prog 19 #[.slice a m cap] w fun e w' => ∃ g, e = .returned (.slice (some ⟨g, 0, none⟩) (m + 3) (m + 3)) ∧ w.heap.size ≤ g ∧ w'.heap[g]? = some (.cells (SA (flat (secs im ++ marks))) 41 (0, 0)) ∧ Below w.heap.size w w' := by
  have hcv := conv_same
  have hmk := make_secs ((m : Int) + 3) (by omega) (by omega)
  rw [show ((m : Int) + 3).toNat = m + 3 by omega] at hmk
  have HA := hid ((secs_all im).app marks_all)
  have HLn : Hid ((secs im ++ marks).length = m + 3) := by show _ = _; rw [List.length_append, secs_len, hm.out]; rfl
  have HG1 := hid fun k h => secs_get im k h
  have HG2 := hid fun j h => marks_get im j h
  have HZ := hid (fillL_zero (secs im ++ marks))
  have HE := hid (fillL_end (secs im ++ marks))
  rw [HLn.out] at HZ HE
  generalize secs im ++ marks = LL at *
  have hb0 : Below w.heap.size w (w.alloc (.cells (SA (zl (128 * (m + 3)))) 41)) := Below.refl_call w _
  have HMk := hid fun g w h => of_any [109, 97, 114, 107] 4 rfl (some ⟨g, 0, none⟩) 4 w h
  have hMl := ofS_len [109, 97, 114, 107]
  generalize ofS [109, 97, 114, 107] = MK at *
  go_enter Try.func19, Try.ntmps19
  go_wp2_with fail
  go_loopw [4] (fun i wr => ∃ k : Nat, k ≤ m ∧ i = .int .i64 k ∧ Hid (wr.heap[w.heap.size]? = some (.cells (SA (fillL LL k)) 41 (0, 0))) ∧ Hid (Below w.heap.size w wr)) (fun i _ => m - (intOf i).toNat)
  case atStart => exact ⟨0, by omega, rfl, by rw [HZ.out]; exact heap_alloc_new _ _, hb0⟩
  case round =>
    clear hb0
    obtain ⟨k, hk, rfl, HR, HBl⟩ := hrel
    by_cases hlt : k < m
    · have hc0 : ∃ b o ad cp, a = some ⟨b, o, none⟩ ∧ wr.cell? ⟨b, o + k, none⟩ = some (.slice ad (im.getD k []).length cp) ∧ BytesAt wr ad (im.getD k []) := by
        rcases (HI.out.below HBl.out) with h | ⟨b, o, h1, h2, h3⟩
        · have := hm.out; rw [h] at this; simp at this; omega
        · obtain ⟨ad, cp, h4, h5⟩ := h3 k (by rw [hm.out]; exact hlt)
          exact ⟨b, o, ad, cp, h1, h4, h5⟩
      obtain ⟨b, o, ad, cp, rfl, hcell, hby⟩ := hc0
      have HST := hid (fillL_step HA.out k (by rw [HLn.out]; omega))
      rw [HG1.out k (by rw [hm.out]; exact hlt)] at HST
      have HFL := hid (fillL_len HA.out k (by rw [HLn.out]; omega))
      rw [HLn.out] at HFL
      have HOF := hid fun h => of_any (im.getD k []) _ rfl ad cp wr h
      have hsl := ofS_len (im.getD k [])
      have HBY := hid hby
      generalize ofS (im.getD k []) = s at *
      generalize im.getD k [] = z at *
      have hkl : (k : Int) < (m : Int) := by omega
      have hkl2 : (k : Int) < (m : Int) + 3 := by omega
      clear hlt hby
      go_wp2_with (first | (go_at_call 22; refine (HOF.out HBY).mono ?_; rintro e w3 ⟨rfl, hb3⟩; have HR3 := hid ((hb3.block w.heap.size (slt HR.out)).trans HR.out); have HB3 := hid (HBl.out.trans (hb3.mono HBl.out.size)); clear hb3) | (refine store_mid rfl _ _ rfl w.heap.size (k * 128) rfl s rfl hsl 41 (fillL LL k) HR3.out (by rw [HFL.out]; omega) ?_; intro w4 hw4))
      have hw5 := hw4.here
      rw [HST.out] at hw5
      exact ⟨⟨k + 1, by omega, by go_num, hw5, hw4.below HB3.out (Nat.le_refl _)⟩, by simp [intOf]; omega⟩
    · have e : k = m := by omega
      subst e
      clear hk
      go_wp2_with fail
      go_loopw [5] (fun i wr => ∃ j : Nat, j ≤ 3 ∧ i = .int .i64 ((k : Int) + j) ∧ Hid (wr.heap[w.heap.size]? = some (.cells (SA (fillL LL (k + j))) 41 (0, 0))) ∧ Hid (Below w.heap.size w wr)) (fun i _ => k + 3 - (intOf i).toNat)
      case atStart => exact ⟨0, by omega, by simp, HR, HBl⟩
      case round =>
        clear HR HBl hlt
        obtain ⟨j, hj, rfl, HR, HBl⟩ := hrel
        by_cases hlt : j < 3
        · have HST := hid (fillL_step HA.out (k + j) (by rw [HLn.out]; omega))
          have hg2 := HG2.out j hlt
          rw [hm.out] at hg2
          rw [hg2] at HST
          have HFL := hid (fillL_len HA.out (k + j) (by rw [HLn.out]; omega))
          rw [HLn.out] at HFL
          have hkl : (k : Int) + (j : Int) < (k : Int) + 3 := by omega
          have hk0 : (0 : Int) ≤ (k : Int) + (j : Int) := by omega
          have ht : ((k : Int) + (j : Int)).toNat = k + j := by omega
          clear hg2
          go_wp2_with (first | (go_at_call 22; refine (HMk.out _ _ (row_bytesF (heap_alloc_new _ _))).mono ?_; rintro e w3 ⟨rfl, hb3⟩; have hq3 := (Below.refl_call wr _).trans (hb3.mono (by simp)); have HR3 := hid ((hq3.block w.heap.size (slt HR.out)).trans HR.out); have HB3 := hid (HBl.out.trans (hq3.mono HBl.out.size)); clear hb3 hq3) | (refine store_mid rfl _ _ rfl w.heap.size ((k + j) * 128) rfl MK rfl hMl 41 (fillL LL (k + j)) HR3.out (by rw [HFL.out]; omega) ?_; intro w4 hw4))
          have hw5 := hw4.here
          rw [HST.out] at hw5
          exact ⟨⟨j + 1, by omega, by go_num, hw5, hw4.below HB3.out (Nat.le_refl _)⟩, by simp [intOf]; omega⟩
        · have e : j = 3 := by omega
          subst e
          rw [HE.out] at HR
          clear hj
          go_wp2_with fail
          go_ret
          exact ⟨_, rfl, Nat.le_refl _, HR.out, HBl.out⟩

end Go.Proofs.Ytcgchdcbbiahnaa
