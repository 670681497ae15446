/-
  The statements' own helpers lend and unchanged: bytes are lent with eight marks behind them; they are found as they were lent.
-/
import Derived.Test.YtibneoajkbblaaaWSplice
import Derived.Test.YtibneoajkbblaaaWPick
namespace Go.Proofs.Ytibneoajkbblaaa
open Go.RowKit

def marks : List Int := [130, 131, 132, 133, 134, 135, 136, 137]
def lentK (zs : List Int) (j : Nat) : List Int := zs ++ (marks.take j ++ zl (8 - j))
def lentL (zs : List Int) : List Int := zs ++ marks
theorem lentK_len (zs : List Int) (j : Nat) (h : j ≤ 8) : (lentK zs j).length = zs.length + 8 := by
  simp [lentK, marks, zl_len]; omega
theorem lentK_full (zs : List Int) : lentK zs 8 = lentL zs := by
  unfold lentK lentL
  congr 1
theorem lentL_len (zs : List Int) : (lentL zs).length = zs.length + 8 := by simp [lentL, marks]
theorem lentK_set (zs : List Int) (j : Nat) (h : j < 8) : (lentK zs j).set (zs.length + j) (130 + (j : Int)) = lentK zs (j + 1) := by
  unfold lentK
  rw [List.set_append_right _ _ (by omega), show zs.length + j - zs.length = j by omega]
  congr 1
  have c : j = 0 ∨ j = 1 ∨ j = 2 ∨ j = 3 ∨ j = 4 ∨ j = 5 ∨ j = 6 ∨ j = 7 := by omega
  rcases c with rfl | rfl | rfl | rfl | rfl | rfl | rfl | rfl <;> decide
theorem lentL_get (zs : List Int) (i : Nat) (h : i < zs.length + 8) : (lentL zs).getD i 0 = if i < zs.length then zs.getD i 0 else 130 + (i : Int) - zs.length := by
  unfold lentL
  simp only [List.getD_eq_getElem?_getD, List.getElem?_append]
  by_cases c : i < zs.length
  · rw [if_pos c, if_pos c]
  · rw [if_neg c, if_neg c]
    obtain ⟨j, rfl⟩ : ∃ j, i = zs.length + j := ⟨i - zs.length, by omega⟩
    rw [show zs.length + j - zs.length = j by omega]
    have hc : j = 0 ∨ j = 1 ∨ j = 2 ∨ j = 3 ∨ j = 4 ∨ j = 5 ∨ j = 6 ∨ j = 7 := by omega
    rcases hc with rfl | rfl | rfl | rfl | rfl | rfl | rfl | rfl <;> simp [marks] <;> omega

/-- copy into a row of bytes that lies at block g. -/
theorem copy_row {w : World} {ops : Array Oper} {rest : List Oper} {o : Oper} {a : Act} {Q : Exit → Act → World → Prop} (hgd : o.guard = none) (d s : Operand)
    (ho : o.op = .call { callee := .builtin .copy, args := #[d, s], argTypes := #[27, 27] })
    (dp sp : Option Addr) (dLen dCap sLen sCap : Nat) (hd : a.eval d = .slice dp dLen dCap) (hs : a.eval s = .slice sp sLen sCap) (t : TypeId)
    (g off : Nat) (c : List Int) (hg : w.heap[g]? = some (.cells (SA c) t (0, 0))) (zs : List Int) (hn : (zs.map (Value.int .u8)).length = Nat.min sLen dLen)
    (hpos : 0 < (zs.map (Value.int .u8)).length → dp = some ⟨g, off, none⟩ ∧ ∃ ad, sp = some ad ∧ ∀ j v, (zs.map (Value.int .u8))[j]? = some v → w.cell? (ad.add j) = some v)
    (hfit : off + (zs.map (Value.int .u8)).length ≤ (c.map (Value.int .u8)).length)
    (h : ∀ w', WroteB w g t (spl c off zs) w' → wpList Try.prog ops Q rest (a.put o.dst (goInt (zs.map (Value.int .u8)).length)) w') : wpList Try.prog ops Q (o :: rest) a w := by
  by_cases h0 : (zs.map (Value.int .u8)).length = 0
  · have hz : zs = [] := List.eq_nil_of_length_eq_zero (by simpa using h0)
    subst hz
    refine wpList_copy_nothing hgd d s 27 27 ho 5 Try.underlying27 sz5 dp sp dLen dCap sLen sCap hd hs hn.symm ?_
    have hh := h w ⟨by rw [spl_nil]; exact hg, fun _ _ => rfl, rfl, rfl, rfl, rfl⟩
    exact hh
  · obtain ⟨rfl, ad, rfl, hsrc⟩ := hpos (by omega)
    refine wpList_copy_own hgd d s 27 27 ho 5 Try.underlying27 sz5 g off dLen dCap ad sLen sCap hd hs (SA c) t hg (zs.map (Value.int .u8)) hn hsrc (by simpa [SA] using hfit) (one_cells zs) ?_
    have e : ((SA c).toList.take off ++ (zs.map (Value.int .u8) ++ (SA c).toList.drop (off + (zs.map (Value.int .u8)).length))).toArray = SA (spl c off zs) := by
      simp [SA, spl, List.map_take, List.map_drop]
    rw [e]
    refine h _ ⟨?_, ?_, ?_, rfl, rfl, rfl⟩
    · simp [World.setRow, Array.getElem?_modify, hg]
    · intro k hk
      simp only [World.setRow, Array.getElem?_modify]
      rw [if_neg (fun e => hk e.symm)]
    · simp [World.setRow]

theorem spl_zeros (zs : List Int) : spl (zl (zs.length + 8)) 0 zs = lentK zs 0 := by
  unfold spl lentK
  rw [List.take_zero, List.nil_append, Nat.zero_add]
  congr 1
  simp [zl, marks]

set_option maxRecDepth 100000 in
set_option maxHeartbeats 1000000 in
theorem lend_any (zs : List Int) (L : Nat) (hL : Hid (zs.length = L)) (a : Option Addr) (cap : Nat) (w : World) (hm : L ≤ 140737488355328) (hr : BytesAt w a zs) :
    Calls Try.prog 11 #[.slice a L cap] w fun e w' => e = .returned (.slice (some ⟨w.heap.size, 0, none⟩) (L + 8) (L + 8)) ∧ w'.heap[w.heap.size]? = some (.cells (SA (lentL zs)) 5 (0, 0)) ∧ Below w.heap.size w w' := by
  have hmk := make_bytes ((L : Int) + 8) (by omega) (by omega)
  rw [show ((L : Int) + 8).toNat = L + 8 from by omega] at hmk
  have HO : Hid ((w.alloc (.cells (SA (zl (L + 8))) 5)).heap[w.heap.size]? = some (.cells (SA (zl (L + 8))) 5 (0, 0))) := heap_alloc_new w _
  have hb : Below w.heap.size w (w.alloc (.cells (SA (zl (L + 8))) 5)) := (Below.refl _ _).alloc (Nat.le_refl _) _
  have HCN : Hid ((zs.map (Value.int .u8)).length = Nat.min L (L + 8)) := by
    show _ = _
    rw [List.length_map, hL.out]
    exact (Nat.min_eq_left (by omega)).symm
  have HCF : Hid (0 + (zs.map (Value.int .u8)).length ≤ ((zl (L + 8)).map (Value.int .u8)).length) := by
    show _ ≤ _
    rw [List.length_map, List.length_map, hL.out, zl_len]
    omega
  have HSRC : Hid (0 < (zs.map (Value.int .u8)).length → (some ⟨w.heap.size, 0, none⟩ : Option Addr) = some ⟨w.heap.size, 0, none⟩ ∧ ∃ ad, a = some ad ∧ ∀ j v, (zs.map (Value.int .u8))[j]? = some v → (w.alloc (.cells (SA (zl (L + 8))) 5)).cell? (ad.add j) = some v) :=
    fun hp => ⟨rfl, bytes_src hr hb (by simpa using hp)⟩
  clear hr
  go_enter Try.func11, Try.ntmps11
  go_wp2_with (refine copy_row rfl (.tmp 9) (.tmp 10) rfl (some ⟨w.heap.size, 0, none⟩) a (L + 8) (L + 8) L cap rfl rfl 5 w.heap.size 0 (zl (L + 8)) HO.out zs HCN.out HSRC.out HCF.out ?_; intro w2 hw2)
  have HW : Hid (w2.heap[w.heap.size]? = some (.cells (SA (lentK zs 0)) 5 (0, 0))) := by
    have h := hw2.here
    rw [← hL.out, spl_zeros] at h
    exact h
  have b2 : Below w.heap.size w w2 := hw2.below hb (Nat.le_refl _)
  clear hw2 HO hb
  go_loopw [4] (fun i wr => ∃ j : Nat, j ≤ 8 ∧ i = .int .i64 ((L : Int) + (j : Int)) ∧ Hid (wr.heap[w.heap.size]? = some (.cells (SA (lentK zs j)) 5 (0, 0))) ∧ Below w.heap.size w wr) (fun i _ => (((L : Int) + 8) - intOf i).toNat)
  case atStart => exact ⟨0, by omega, by simp, HW, b2⟩
  case round =>
    obtain ⟨j, hj, rfl, HR, b3⟩ := hrel
    by_cases hlt : j < 8
    · have hlen := lentK_len zs j hj
      rw [hL.out] at hlen
      have hc := sec_cell HR.out (L + j) (by omega)
      have hf := sec_free HR.out (L + j)
      have HS := hid (lentK_set zs j hlt)
      rw [hL.out] at HS
      have hi : (L : Int) + (j : Int) < (L : Int) + 8 := by omega
      clear hlen
      go_wp2
      have hw := row_setCell HR.out (L + j) (130 + ((L : Int) + (j : Int)) - (L : Int))
      rw [show 130 + ((L : Int) + (j : Int)) - (L : Int) = 130 + (j : Int) by omega, HS.out] at hw
      rw [show 130 + ((L : Int) + (j : Int)) - (L : Int) = 130 + (j : Int) by omega]
      exact ⟨⟨j + 1, by omega, by go_num, hw.here, hw.below b3 (Nat.le_refl _)⟩, by simp [intOf]; omega⟩
    · have e : j = 8 := by omega
      subst e
      rw [lentK_full] at HR
      go_wp2
      go_ret
      exact ⟨rfl, HR.out, b3⟩

set_option maxRecDepth 100000 in
set_option maxHeartbeats 1000000 in
theorem unchanged_any (zs : List Int) (L : Nat) (hL : Hid (zs.length = L)) (a : Option Addr) (cap g : Nat) (w w0 : World) (hm : L ≤ 140737488355328) (hr : BytesAt w0 a zs) (h0 : Below w0.heap.size w0 w) (hg0 : w0.heap.size ≤ g)
    (hg : w.heap[g]? = some (.cells (SA (lentL zs)) 5 (0, 0))) :
    Calls Try.prog 13 #[.slice (some ⟨g, 0, none⟩) (L + 8) (L + 8), .slice a L cap] w fun e w' => e = .returned (.bool true) ∧ ∃ c, WroteB w g 5 c w' := by
  have HG := hid hg
  have HZ := hid hr
  have HGE := hid fun i h => lentL_get zs i h
  rw [hL.out] at HGE
  have HLL := hid (lentL_len zs)
  rw [hL.out] at HLL
  clear hg hr
  go_enter Try.func13, Try.ntmps13
  go_wp2
  go_loopw [5] (fun i wr => ∃ (k : Nat) (c : List Int), k ≤ L + 8 ∧ i = .int .i64 k ∧ Hid (c.length = L + 8) ∧ Hid (∀ j, k ≤ j → c.getD j 0 = (lentL zs).getD j 0) ∧ Hid (WroteB w g 5 c wr)) (fun i _ => L + 8 - (intOf i).toNat)
  case atStart => exact ⟨0, lentL zs, by omega, rfl, HLL, fun j _ => rfl, HG.out, fun _ _ => rfl, rfl, rfl, rfl, rfl⟩
  case round =>
    obtain ⟨k, c, hk, rfl, HCL, HCJ, HWR⟩ := hrel
    by_cases hlt : k < L + 8
    · have hcl := HCL.out
      have hc := sec_cell HWR.out.here k (by omega)
      have hf := sec_free HWR.out.here k
      rw [HCJ.out k (Nat.le_refl _), HGE.out k hlt] at hc
      have hlt' : (k : Int) < (L : Int) + 8 := by omega
      have key : ∀ x, ∃ c' : List Int, k + 1 ≤ L + 8 ∧ Value.int .i64 ((k : Int) + 1) = Value.int .i64 ((k + 1 : Nat) : Int) ∧ Hid (c'.length = L + 8) ∧ Hid (∀ j, k + 1 ≤ j → c'.getD j 0 = (lentL zs).getD j 0) ∧ Hid (WroteB w g 5 c' (wr.setCell ⟨g, k, none⟩ (.int .u8 x))) := by
        intro x
        have hw := row_setCell HWR.out.here k x
        refine ⟨c.set k x, by omega, by go_num, ?_, ?_, ?_⟩
        · show _ = _
          rw [List.length_set, hcl]
        · intro j hj
          rw [List.getD_eq_getElem?_getD, List.getElem?_set, if_neg (by omega), ← List.getD_eq_getElem?_getD]
          exact HCJ.out j (by omega)
        · exact ⟨hw.here, fun q hq => (hw.other q hq).trans (HWR.out.other q hq), hw.size.trans HWR.out.size, hw.os.trans HWR.out.os, hw.tape.trans HWR.out.tape, hw.output.trans HWR.out.output⟩
      have KEY := hid key
      clear key hcl
      by_cases cb : k < L
      · rw [if_pos cb] at hc
        rcases HZ.out with he | ⟨bd, od, rfl, hbd, hcd⟩
        · have := hL.out; rw [he] at this; simp at this; omega
        · have hcD := hcd k (by rw [hL.out]; exact cb)
          rw [← h0.cell (p := ⟨bd, od + k, none⟩) hbd, ← World.cell?_of_block (a := ⟨bd, od + k, none⟩) (HWR.out.other bd (by omega))] at hcD
          have cb' : (k : Int) < (L : Int) := by omega
          generalize zs.getD k 0 = x at *
          clear hcd
          go_wp2
          exact ⟨⟨k + 1, KEY.out _⟩, by simp [intOf]; omega⟩
      · rw [if_neg cb] at hc
        have cb' : (L : Int) ≤ (k : Int) := by omega
        have cb2 : ¬ (k : Int) < (L : Int) := by omega
        go_wp2
        exact ⟨⟨k + 1, KEY.out _⟩, by simp [intOf]; omega⟩
    · go_wp2
      go_ret
      exact ⟨rfl, c, HWR.out⟩

end Go.Proofs.Ytibneoajkbblaaa
