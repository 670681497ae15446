/-
  The document's Split, walked.
-/
import Derived.Test.YtfkmpbbemkkdaaaDoorQS
namespace Go.Proofs.YtfkmpbbemkkdaaaDoor
open Go.RowKit Go.Shelf

theorem datas_app2 (xs : List ByteArray) (y : ByteArray) : datas (xs ++ [y]) = datas xs ++ [y.data.toList] := by simp [datas]
theorem ext_one (s : ByteArray) (j : Nat) (h : j < s.size) : s.extract j (j + 1) = ⟨#[s[j]'h]⟩ := by
  apply data_inj
  have e : (s.extract j (j + 1)).data.toList = (s.data.toList.drop j).take 1 := by
    simp
  rw [e]
  have h2 : j < s.data.toList.length := by rw [len_eq]; exact h
  have := dat_at s j h
  rw [List.getElem?_eq_getElem h2] at this
  rw [List.drop_eq_getElem_cons h2, Option.some.inj this]
  rfl
theorem split_of {l : List UInt8} {out : List (List UInt8)} {N : Nat} (hF : formed l = true) (hN : l.length = N + 1) (h : Got l N out) :
    splitR l = if out.all okName then (out, 0) else ([], 71) := by
  unfold splitR
  rw [if_pos hF]
  have hd : l.drop 1 = l.tail := by simp
  have ht : (l.drop 1).take N = l.tail := by rw [hd, List.take_of_length_le]; simp; omega
  unfold Got at h
  rw [ht] at h
  simp only [formed, Bool.and_eq_true, decide_eq_true_eq, beq_iff_eq, Bool.or_eq_true] at hF
  by_cases e : l = [47]
  · rw [if_pos e]
    subst e
    have hN0 : N = 0 := by simpa using hN.symm
    subst hN0
    have := h.1 rfl
    cases out with
    | nil => rfl
    | cons x xs => simp [pieces] at this
  · rw [if_neg e]
    have hno : l[N]? ≠ some 47 := by
      rcases hF.2 with h1 | h1
      · exact absurd h1 e
      · intro h2
        obtain ⟨b, hb, _⟩ := (noTwo_iff l).1 h1 N h2
        rw [List.getElem?_eq_none (by omega)] at hb; cases hb
    rw [h.2 hno]

set_option maxRecDepth 100000 in
set_option maxHeartbeats 1000000 in
theorem rsplit_any (s : ByteArray) (w : World) :
    Calls Tryd.prog 8 #[.string s] w fun e w' => ∃ (a : Option Addr) (c : Nat) (ls : List ByteArray), e = .returned (.tuple #[.slice a ls.length c, .int .i64 (splitR s.data.toList).2]) ∧ datas ls = (splitR s.data.toList).1 ∧ LAt w' a ls ∧ Below w.heap.size w w' := by
  have hf := rformed_any s w
  cases hF : formed s.data.toList
  case false =>
    rw [hF] at hf
    have HV := hid (split_not hF)
    go_enter Tryd.func8, Tryd.ntmps8
    go_wp2_with (go_at_call 16; refine hf.mono ?_; rintro e w2 ⟨rfl, hb2⟩)
    go_ret2
    exact ⟨none, 0, [], by rw [HV.out]; rfl, by rw [HV.out]; rfl, .inl rfl, hb2⟩
  rw [hF] at hf
  have HFm := hid hF
  have hsz : s.size ≤ 400 := by
    simp only [formed, Bool.and_eq_true, decide_eq_true_eq] at hF
    have := hF.1.1
    rw [len_eq] at this; exact this
  have hh : s.data.toList.head? = some 47 := by
    simp only [formed, Bool.and_eq_true, decide_eq_true_eq, beq_iff_eq] at hF
    exact hF.1.2
  have hs1 : 1 ≤ s.size := by
    rcases Nat.eq_zero_or_pos s.size with e | e
    · rw [← len_eq] at e
      rw [List.length_eq_zero_iff.1 e] at hh; cases hh
    · exact e
  have H0 := hid (Got.zero (l := s.data.toList) (by rw [← List.head?_eq_getElem?]; exact hh))
  have HL := hid (len_eq s)
  clear hF hh
  go_enter Tryd.func8, Tryd.ntmps8
  go_wp2_with (go_at_call 16; refine hf.mono ?_; rintro e w2 ⟨rfl, hb2⟩)
  go_loopw [4, 5] (fun v i wr => ∃ (j : Nat) (ls : List ByteArray), j + 1 ≤ s.size ∧ i = .int .i64 ((j : Int) + 1) ∧ Below w.heap.size w wr ∧ Hid (TOwn wr w.heap.size v ls) ∧ Hid (Got s.data.toList j (datas ls)) ∧ Hid (ls.length ≤ j ∧ ∀ u ∈ ls, u.size ≤ j)) (fun _ i _ => s.size - (intOf i).toNat)
  case atStart => exact ⟨0, [], by omega, rfl, hb2, row_nil _ _ _ _, H0, ⟨by simp, fun u hu => by cases hu⟩⟩
  case round =>
    obtain ⟨j, ls, hj, rfl, hbr, HO, HG, HB⟩ := hrel
    obtain ⟨Wx, hWx⟩ : ∃ y, y = wr := ⟨_, rfl⟩
    subst hWx
    by_cases hlt : j + 1 < s.size
    · have hlt0 : j < s.size := by omega
      obtain ⟨x, hx⟩ : ∃ x : UInt8, s[j + 1]'hlt = x := ⟨_, rfl⟩
      obtain ⟨y, hy⟩ : ∃ y : UInt8, s[j]'hlt0 = y := ⟨_, rfl⟩
      have hxl := dat_at s (j + 1) hlt
      have hyl := dat_at s j hlt0
      rw [hx] at hxl
      rw [hy] at hyl
      have HX := hid hxl
      have HY := hid hyl
      have hex := ext_one s (j + 1) hlt
      rw [hx] at hex
      have hi0 : (0 : Int) ≤ (j : Int) + 1 := by omega
      have hi1 : (j : Int) + 1 < (s.size : Int) := by omega
      have hi2 : (0 : Int) ≤ (j : Int) := by omega
      have hi3 : (j : Int) < (s.size : Int) := by omega
      have hi4 : (j : Int) + 1 + 1 ≤ (s.size : Int) := by omega
      have es : (j : Int) + 1 - 1 = (j : Int) := by omega
      clear hxl hyl
      by_cases c1 : y = 47
      · by_cases c2 : x = 47
        · have HP := hid (HG.out.1 (by rw [HY.out, c1]))
          subst c1
          have hsz1 : w.heap.size ≤ Wx.heap.size := hbr.size
          have HLL := hid HB.out.1
          subst c2
          go_wp2_with (first
            | (at_builtin; go_must (refine wp_appT rfl _ _ rfl w.heap.size 1 1 ⟨Wx.heap.size, 0, none⟩ _ ls [⟨#[]⟩] rfl rfl rfl (row_below HO.out (below_new _ _)) (fun k y hk => (new_list Wx [⟨#[]⟩]).at.elim (fun e => by cases e) (fun ⟨ad2, e2, _, hc2⟩ => by cases e2; exact hc2 k y hk)) (by have := HLL.out; simp; omega) (by simp; omega) ?_; intro v' w' h1 h2 h3; obtain ⟨g, cap, hv, hB, hg, hcap, hcell⟩ := row_cells h1 (by simp); have hln : (ls ++ [(⟨#[]⟩ : ByteArray)]).length = ls.length + 1 := (by simp); rw [hln] at hv; subst hv; have HO2 := hid h1; have HB2 : Hid (Below w.heap.size w w') := (h2.to (hbr.alloc hbr.size _) (by simp; omega) fun j hj => (row_ge HO.out hj).1); clear h1 h2 h3 hcell hcap))
            | go_in)
          refine ⟨⟨j + 1, ls ++ [⟨#[]⟩], by omega, by go_num, HB2.out, HO2, Got.next47 (by rw [HP.out]; simp [datas]) HX.out, ⟨by have := HLL.out; simp; omega, fun u hu => ?_⟩⟩, by simp [intOf]; omega⟩
          rcases List.mem_append.1 hu with h | h
          · have := HB.out.2 u h; omega
          · simp at h; subst h; exact Nat.zero_le _
        · have HP := hid (HG.out.1 (by rw [HY.out, c1]))
          subst c1
          have hsz1 : w.heap.size ≤ Wx.heap.size := hbr.size
          have HLL := hid HB.out.1
          have n2 : ((x.toNat : Int) != 47) = true := by (rw [bne, u8_beq 47 47 rfl]; simpa using c2)
          have hroom : (⟨#[]⟩ : ByteArray).size + (⟨#[x]⟩ : ByteArray).size ≤ 9223372036854775807 := by show 0 + 1 ≤ _; omega
          go_wp2_with (first
            | (at_builtin; go_must (refine wp_appT rfl _ _ rfl w.heap.size 1 1 ⟨Wx.heap.size, 0, none⟩ _ ls [⟨#[]⟩] rfl rfl rfl (row_below HO.out (below_new _ _)) (fun k y hk => (new_list Wx [⟨#[]⟩]).at.elim (fun e => by cases e) (fun ⟨ad2, e2, _, hc2⟩ => by cases e2; exact hc2 k y hk)) (by have := HLL.out; simp; omega) (by simp; omega) ?_; intro v' w' h1 h2 h3; obtain ⟨g, cap, hv, hB, hg, hcap, hcell⟩ := row_cells h1 (by simp); have hln : (ls ++ [(⟨#[]⟩ : ByteArray)]).length = ls.length + 1 := (by simp); rw [hln] at hv; subst hv; have HO2 := hid h1; have HB2 : Hid (Below w.heap.size w w') := (h2.to (hbr.alloc hbr.size _) (by simp; omega) fun j hj => (row_ge HO.out hj).1); have HS := hid (TOwn.last (v := (⟨#[]⟩ : ByteArray) ++ ⟨#[x]⟩) HO2.out); have p1 := HS.out.2.2.2.2.1; have hfr := HS.out.2.2.1; have hN0 : (0 : Int) ≤ (ls.length : Int) := (by omega); have hN1 : (ls.length : Int) < (ls.length : Int) + 1 := (by omega); have hN2 : (ls.length : Int) + 1 - 1 = (ls.length : Int) := (by omega); have HNB : Hid (ls.length ≤ 400) := (by have := HLL.out; show _ ≤ _; omega); have hnb := HNB.out; clear h1 h2 h3 hcell hcap))
            | go_in)
          go_region
          go_wp2
          refine ⟨⟨j + 1, ls ++ [⟨#[]⟩ ++ ⟨#[x]⟩], by omega, by go_num, ?_, ?_, ?_, ?_⟩, by simp [intOf]; omega⟩
          · exact (HS.out.2.1.to HB2.out HB2.out.size (fun k e => by subst e; exact HS.out.2.2.2.1)).drew
          · exact HS.out.1
          · show Got _ _ _
            rw [datas_app2]
            have := Got.next (ini := datas ls) (u := []) (by rw [HP.out]) HX.out c2
            exact this
          · refine ⟨by have := HLL.out; simp; omega, fun u hu => ?_⟩
            rcases List.mem_append.1 hu with h | h
            · have := HB.out.2 u h; omega
            · simp at h; subst h; rw [ByteArray.size_append]; show 0 + 1 ≤ _; omega
      · by_cases c2 : x = 47
        · have HP := hid (HG.out.2 (by rw [HY.out]; simpa using c1))
          have n1 : ((y.toNat : Int) == 47) = false := by rw [u8_beq 47 47 rfl]; simpa using c1
          subst c2
          go_wp2_with fail
          exact ⟨⟨j + 1, ls, by omega, by go_num, hbr, HO, Got.next47 HP.out HX.out, ⟨by have := HB.out.1; omega, fun u hu => by have := HB.out.2 u hu; omega⟩⟩, by simp [intOf]; omega⟩
        · have HP := hid (HG.out.2 (by rw [HY.out]; simpa using c1))
          have n1 : ((y.toNat : Int) == 47) = false := by rw [u8_beq 47 47 rfl]; simpa using c1
          have n2 : ((x.toNat : Int) != 47) = true := by (rw [bne, u8_beq 47 47 rfl]; simpa using c2)
          obtain ⟨ini, u, hiu⟩ : ∃ ini u, ls = ini ++ [u] := by
            rcases List.eq_nil_or_concat ls with h | ⟨ini, u, h⟩
            · have := HP.out; rw [h] at this; exact absurd this (pieces_ne _)
            · exact ⟨ini, u, by simpa using h⟩
          subst hiu
          have hub := HB.out.2 u (by simp)
          have hib : ini.length + 1 ≤ j := by have := HB.out.1; simpa using this
          obtain ⟨g, cap, hv, hB, hg, hcap, hcell⟩ := row_cells HO.out (by simp)
          have hln : (ini ++ [u]).length = ini.length + 1 := by simp
          rw [hln] at hv
          subst hv
          have hroom : u.size + (⟨#[x]⟩ : ByteArray).size ≤ 9223372036854775807 := by
            have : (⟨#[x]⟩ : ByteArray).size = 1 := rfl
            omega
          have HS := hid (TOwn.last (v := u ++ ⟨#[x]⟩) HO.out)
          have p1 := HS.out.2.2.2.2.1
          have hfr := HS.out.2.2.1
          have hN0 : (0 : Int) ≤ (ini.length : Int) := by omega
          have hN1 : (ini.length : Int) < (ini.length : Int) + 1 := by omega
          have hN2 : (ini.length : Int) + 1 - 1 = (ini.length : Int) := by omega
          clear hcell hcap hln
          go_wp2_with fail
          go_region
          go_wp2
          refine ⟨⟨j + 1, ini ++ [u ++ ⟨#[x]⟩], by omega, by go_num, ?_, ?_, ?_, ?_⟩, by simp [intOf]; omega⟩
          · exact (HS.out.2.1.to hbr hbr.size (fun k e => by subst e; exact HS.out.2.2.2.1)).drew
          · exact HS.out.1
          · show Got _ _ _
            rw [datas_app2]
            have := Got.next (ini := datas ini) (u := u.data.toList) (by rw [HP.out, datas_app2]) HX.out c2
            simpa using this
          · refine ⟨by simp; omega, fun v hv => ?_⟩
            rcases List.mem_append.1 hv with h | h
            · have := HB.out.2 v (by simp [h]); omega
            · simp at h; subst h; rw [ByteArray.size_append]; have h1 : (⟨#[x]⟩ : ByteArray).size = 1 := rfl; omega
    · have hjN : s.size = j + 1 := by omega
      have HV := hid (split_of HFm.out (by rw [HL.out]; exact hjN) HG.out)
      have hlb := HB.out.1
      obtain ⟨a4, c4, hv4, hc4, hA4⟩ := TOwn.at HO.out
      subst hv4
      have HA4 := hid hA4
      clear hA4 HO HG HB hjN
      generalize hlen : ls.length = m at *
      have HLen := hid hlen
      clear hlen
      go_wp2_with fail
      obtain ⟨wo, hwo⟩ : ∃ y, y = Wx := ⟨_, rfl⟩
      subst hwo
      go_loopw [6] (fun i wr => ∃ k : Nat, k ≤ m ∧ i = .int .i64 k ∧ Below wo.heap.size wo wr ∧ Hid (∀ j, j < k → okName (ls.getD j ByteArray.empty).data.toList = true)) (fun i _ => m - (intOf i).toNat)
      case atStart => exact ⟨0, by omega, rfl, Below.refl _ _, fun j hj => by omega⟩
      case round =>
        obtain ⟨k, hk, rfl, hbq, HK⟩ := hrel
        by_cases hlt2 : k < m
        · rcases HA4.out with h0 | ⟨g, rfl, hg, hcell⟩
          · have := HLen.out; rw [h0] at this; simp at this; omega
          have hkl : k < ls.length := by have := HLen.out; omega
          have p1 := cell_below hbq hg (hcell k _ (getS hkl))
          have HU : Hid (okName (ls.getD k ByteArray.empty).data.toList = true ∨ ¬ okName (ls.getD k ByteArray.empty).data.toList = true) := Classical.em _
          have hck := fun w' => rcheck_any (ls.getD k ByteArray.empty) w'
          obtain ⟨u, hu⟩ : ∃ u, u = ls.getD k ByteArray.empty := ⟨_, rfl⟩
          rw [← hu] at p1 hck HU
          have HQ := hid hu
          have hi0 : (0 : Int) ≤ (k : Int) := by omega
          have hi1 : (k : Int) < (m : Int) := by omega
          clear hu hcell
          rcases HU.out with hok | hno
          · rw [chk_ok hok] at hck
            have HK2 : Hid (∀ j, j < k + 1 → okName (ls.getD j ByteArray.empty).data.toList = true) := by
              intro j hj
              rcases Nat.lt_or_ge j k with g | g
              · exact HK.out j g
              · obtain rfl : j = k := by omega
                rw [← HQ.out]; exact hok
            clear hok HU
            go_wp2_with (go_at_call 13; refine (hck _).mono ?_; rintro e w5 ⟨rfl, hb5⟩)
            exact ⟨⟨k + 1, by omega, by go_num, btr hbq hb5 hbq.size, HK2⟩, by simp [intOf]; omega⟩
          · rw [chk_bad hno] at hck
            have HR : Hid (splitR s.data.toList = ([], 71)) := by
              show _ = _
              rw [HV.out, if_neg]
              rw [notall (k := k) (by have := HLen.out; omega) (by rw [← HQ.out]; exact hno)]
              simp
            clear hno HU
            go_wp2_with (go_at_call 13; refine (hck _).mono ?_; rintro e w5 ⟨rfl, hb5⟩)
            go_ret2
            exact ⟨none, 0, [], by rw [HR.out] <;> rfl, by rw [HR.out] <;> rfl, .inl rfl, btr (btr hbr hbq hbr.size) hb5 (btr hbr hbq hbr.size).size⟩
        · have HR : Hid (splitR s.data.toList = (datas ls, 0)) := by
            show _ = _
            have := alls HLen.out HK.out (by omega)
            rw [HV.out, if_pos this]
          go_wp2_with fail
          go_ret2
          exact ⟨a4, c4, ls, by rw [HR.out, HLen.out] <;> rfl, by rw [HR.out], HA4.out.below hbq, btr hbr hbq hbr.size⟩

end Go.Proofs.YtfkmpbbemkkdaaaDoor
