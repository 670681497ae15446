/-
  path.Split.
-/
import Derived.Test.YtbkddnibcpjkgaaDoorPL
-- may lack
namespace Go.Proofs.YtbkddnibcpjkgaaDoor
open Go.RowKit Go.Shelf

/-- The library's own number is one, whichever. -/
def ML (w : World) : Prop := ∃ m : Int, w.cell? ⟨laySplit_ren.g 1, 0, none⟩ = some (.int .i64 m)
theorem ML.below {w w' : World} (h : ML w) (hb : Below w.heap.size w w') : ML w' := by
  obtain ⟨m, h⟩ := h
  exact ⟨m, cell_below hb (World.block_lt_of_cell? _ _ h) h⟩
/-- Texts in a block of their own. -/
def Own (B : Nat) (w : World) (a : Option Addr) (ls : List ByteArray) : Prop := (a = none ∧ ls = []) ∨ ∃ g, a = some ⟨g, 0, none⟩ ∧ B ≤ g ∧ w.heap[g]? = some (.cells (ls.map Value.string).toArray 9)
theorem Own.below {B : Nat} {w w' : World} {a : Option Addr} {ls : List ByteArray} (h : Own B w a ls) (hb : Below w.heap.size w w') : Own B w' a ls := by
  rcases h with h | ⟨g, rfl, hg, h⟩
  · exact .inl h
  · exact .inr ⟨g, rfl, hg, by rw [hb.block _ (slt h)]; exact h⟩
theorem Own.at {B : Nat} {w : World} {a : Option Addr} {ls : List ByteArray} (h : Own B w a ls) : LAt w a ls := by
  rcases h with h | ⟨g, rfl, hg, h⟩
  · exact .inl h.2
  · refine .inr ⟨g, rfl, slt h, fun j x hx => ?_⟩
    rw [cell_of_row _ _ _ _ _ _ h]
    simp [hx]

theorem info9 : (Tryd.prog.info? 9).map (fun i => (i.zero, i.size, i.bytes)) = some (some (.string ByteArray.empty), 1, 16) := by kernel_rfl
theorem pieces_datas (s : ByteArray) : datas (Lib.splitB ⟨#[47]⟩ 0 (Lib.countB s ⟨#[47]⟩) s) = pieces s.data.toList := by
  unfold datas
  rw [Lib.splitB_data]
  exact splitK_pieces _ _ rfl
theorem cut_any (s : ByteArray) (w : World) (hs : s.size ≤ 400) (hm : ML w) : Calls Tryd.prog 43 #[.string s, .string ⟨#[47]⟩] w fun e w' =>
    ∃ ls : List ByteArray, e = .returned (.slice (some ⟨w.heap.size, 0, none⟩) ls.length ls.length) ∧ datas ls = pieces s.data.toList ∧ w' = w.alloc (.cells (ls.map Value.string).toArray 9) := by
  obtain ⟨m, hm⟩ := hm
  refine (Any.strings_Split (P := Tryd.prog) (ρ := laySplit_ren) { laySplit with } info9 s ⟨#[47]⟩ m w (by omega) hm (by decide)).mono ?_
  rintro e w' ⟨rfl, hw⟩
  refine ⟨Lib.splitB ⟨#[47]⟩ 0 (Lib.countB s ⟨#[47]⟩) s, ?_, pieces_datas s, hw⟩
  rw [Lib.splitB_all ⟨#[47]⟩ (by decide) 0 _ s rfl]
theorem tail_data (s : ByteArray) : (s.extract 1 s.size).data.toList = s.data.toList.tail := by
  rw [Lib.extract_to_end]
  simp

theorem alls {ls : List ByteArray} {m k : Nat} (hm : ls.length = m) (h : ∀ j, j < k → okName (ls.getD j ByteArray.empty).data.toList = true) (hk : m ≤ k) : (datas ls).all okName = true := by
  rw [List.all_eq_true]
  intro x hx
  obtain ⟨s, hs, rfl⟩ := List.mem_map.1 hx
  obtain ⟨j, hj, e⟩ := List.mem_iff_getElem.1 hs
  have := h j (by omega)
  rw [List.getD, List.getElem?_eq_getElem hj] at this
  simpa [e] using this
theorem notall {ls : List ByteArray} {k : Nat} (hk : k < ls.length) (h : ¬ okName (ls.getD k ByteArray.empty).data.toList = true) : (datas ls).all okName = false := by
  cases e : (datas ls).all okName
  · rfl
  · refine absurd (List.all_eq_true.1 e _ ?_) h
    refine List.mem_map.2 ⟨_, ?_, rfl⟩
    exact List.mem_of_getElem? (getS hk)

set_option maxRecDepth 100000 in
set_option maxHeartbeats 2000000 in
theorem split_any (s : ByteArray) (w : World) (hm : ML w) :
    Calls Tryd.prog 22 #[.string s] w fun e w' => ∃ (a : Option Addr) (ls : List ByteArray), e = .returned (.tuple #[.slice a ls.length ls.length, .int .i64 (splitR s.data.toList).2]) ∧ datas ls = (splitR s.data.toList).1 ∧ Own w.heap.size w' a ls ∧ Below w.heap.size w w' := by
  have e1 := toList_stroke
  have hf := hasForm_any s w
  cases hF : formed s.data.toList
  case false =>
    rw [hF] at hf
    have HV := hid (split_not hF)
    go_enter Tryd.func22, Tryd.ntmps22
    go_wp2_with (go_at_call 42; refine hf.mono ?_; rintro e w2 ⟨rfl, hb2⟩)
    go_ret2
    exact ⟨none, [], by rw [HV.out]; rfl, by rw [HV.out]; rfl, .inl ⟨rfl, rfl⟩, hb2⟩
  rw [hF] at hf
  have hsz : s.size ≤ 400 := by
    simp only [formed, Bool.and_eq_true, decide_eq_true_eq] at hF
    have := hF.1.1
    rw [len_eq] at this; exact this
  have hs1 : 1 ≤ s.size := by
    simp only [formed, Bool.and_eq_true, decide_eq_true_eq, beq_iff_eq] at hF
    have h := hF.1.2
    rcases Nat.eq_zero_or_pos s.size with e | e
    · rw [← len_eq] at e
      rw [List.length_eq_zero_iff.1 e] at h; cases h
    · exact e
  cases k1 : (s.toList == [47])
  case true =>
    have HV : Hid (splitR s.data.toList = ([], 0)) := by
      show _ = _
      unfold splitR
      rw [if_pos hF, if_pos (by rw [← tl]; exact eq_of_beq k1)]
    clear hF
    go_enter Tryd.func22, Tryd.ntmps22
    go_wp2_with (go_at_call 42; refine hf.mono ?_; rintro e w2 ⟨rfl, hb2⟩)
    go_ret2
    exact ⟨none, [], by rw [HV.out]; rfl, by rw [HV.out]; rfl, .inl ⟨rfl, rfl⟩, hb2⟩
  have HV : Hid (splitR s.data.toList = if (pieces s.data.toList.tail).all okName then (pieces s.data.toList.tail, 0) else ([], 71)) := by
    show _ = _
    unfold splitR
    rw [if_pos hF, if_neg (by intro e; rw [tl, e] at k1; exact absurd k1 (by decide))]
  have HM := hid hm
  have HE := hid (tail_data s)
  have hcut : ∀ w', ML w' → _ := fun w' hm' => cut_any (s.extract 1 s.size) w' (by simp; omega) hm'
  have hb1 : (1 : Int) ≤ (s.size : Int) := by omega
  clear hF hm hs1
  go_enter Tryd.func22, Tryd.ntmps22
  go_wp2_with (first | (go_at_call 42; go_must (refine hf.mono ?_; rintro e w2 ⟨rfl, hb2⟩)) | (go_at_call 43; go_must (refine (hcut _ (HM.out.below hb2)).mono ?_; rintro e w3 ⟨ls, rfl, hls, hw3⟩; have Hw3 := hid hw3; have HLS := hid hls; clear hw3 hls)) | fail)
  have HB : Hid (Below w.heap.size w w3) := by show Below _ _ _; rw [Hw3.out]; exact hb2.alloc hb2.size _
  have HO : Hid (w3.heap[w2.heap.size]? = some (.cells (ls.map Value.string).toArray 9)) := by show _ = _; rw [Hw3.out]; exact heap_alloc_new _ _
  have hz2 := hb2.size
  clear Hw3 hf hcut k1 e1 hb1
  obtain ⟨g, hg⟩ : ∃ g, g = w2.heap.size := ⟨_, rfl⟩
  rw [← hg] at HO ⊢ hz2
  clear hg hb2
  generalize hlen : ls.length = m at *
  have HLen := hid hlen
  have hmb : Hid (m ≤ 401) := by
    show _ ≤ _
    have h1 := congrArg List.length HLS.out
    rw [datas_len, HE.out] at h1
    have h2 : ∀ l : List UInt8, (pieces l).length ≤ l.length + 1 := by
      intro l
      have h3 := flat_length (pieces l)
      rw [pieces_flat] at h3
      have := sizes_len (pieces l)
      simp at h3; omega
    have h3 := h2 s.data.toList.tail
    simp at h3
    omega
  have hm4 := hmb.out
  clear hlen
  go_loopw [18] (fun i wr => ∃ k : Nat, k ≤ m ∧ i = .int .i64 k ∧ Below w3.heap.size w3 wr ∧ Hid (∀ j, j < k → okName (ls.getD j ByteArray.empty).data.toList = true)) (fun i _ => m - (intOf i).toNat)
  case atStart => exact ⟨0, by omega, rfl, Below.refl _ _, fun j hj => by omega⟩
  case round =>
    obtain ⟨k, hk, rfl, hbr, HK⟩ := hrel
    by_cases hlt : k < m
    · have HO2 : wr.heap[g]? = some (.cells (ls.map Value.string).toArray 9) := by rw [hbr.block _ (slt HO.out)]; exact HO.out
      have p1 : wr.cell? ⟨g, k, none⟩ = some (.string (ls.getD k ByteArray.empty)) := by
        rw [cell_of_row _ _ _ _ _ _ HO2]
        rw [List.getElem?_toArray, List.getElem?_map, getS (ls := ls) (k := k) (by have := HLen.out; omega)]
        rfl
      have HU : Hid (okName (ls.getD k ByteArray.empty).data.toList = true ∨ ¬ okName (ls.getD k ByteArray.empty).data.toList = true) := by
        rcases Classical.em (okName (ls.getD k ByteArray.empty).data.toList = true) with h | h
        · exact .inl h
        · exact .inr h
      have hck := fun w' => check_any (ls.getD k ByteArray.empty) w'
      obtain ⟨u, hu⟩ : ∃ u, u = ls.getD k ByteArray.empty := ⟨_, rfl⟩
      rw [← hu] at p1 hck HU
      have HQ := hid hu
      have hi0 : (0 : Int) ≤ (k : Int) := by omega
      have hi1 : (k : Int) < (m : Int) := by omega
      clear hu HO2
      rcases HU.out with hok | hno
      · rw [chk_ok hok] at hck
        have HK2 : Hid (∀ j, j < k + 1 → okName (ls.getD j ByteArray.empty).data.toList = true) := by
          intro j hj
          rcases Nat.lt_or_ge j k with g | g
          · exact HK.out j g
          · obtain rfl : j = k := by omega
            rw [← HQ.out]; exact hok
        clear hok HU
        go_wp2_with (go_at_call 44; refine (hck _).mono ?_; rintro e w5 ⟨rfl, hb5⟩)
        exact ⟨⟨k + 1, by omega, by go_num, btr hbr hb5 hbr.size, HK2⟩, by simp [intOf]; omega⟩
      · rw [chk_bad hno] at hck
        have HR : Hid (splitR s.data.toList = ([], 71)) := by
          show _ = _
          rw [HV.out, if_neg]
          rw [← HE.out, ← HLS.out, notall (k := k) (by have := HLen.out; omega) (by rw [← HQ.out]; exact hno)]
          simp
        clear hno HU
        go_wp2_with (go_at_call 44; refine (hck _).mono ?_; rintro e w5 ⟨rfl, hb5⟩)
        go_ret2
        exact ⟨none, [], by rw [HR.out]; rfl, by rw [HR.out]; rfl, .inl ⟨rfl, rfl⟩, btr (btr HB.out hbr HB.out.size) hb5 (btr HB.out hbr HB.out.size).size⟩
    · have HR : Hid (splitR s.data.toList = (datas ls, 0)) := by
        show _ = _
        have := alls HLen.out HK.out (by omega)
        rw [HV.out, ← HE.out, ← HLS.out, if_pos this]
      go_wp2_with fail
      go_ret2
      exact ⟨some ⟨g, 0, none⟩, ls, by rw [HR.out, HLen.out]; rfl, by rw [HR.out], .inr ⟨g, rfl, hz2, by rw [hbr.block _ (slt HO.out)]; exact HO.out⟩, btr HB.out hbr HB.out.size⟩

end Go.Proofs.YtbkddnibcpjkgaaDoor
