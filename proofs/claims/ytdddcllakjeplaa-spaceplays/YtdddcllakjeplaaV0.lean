/-
  The statements' own helpers lent, kept and spoil: numbers are lent with twenty marks behind them; they are found as they were lent.
-/
import Derived.Test.YtdddcllakjeplaaQ1
import Derived.Laws.CopyOwn
namespace Go.Proofs.Ytdddcllakjeplaa
open Go.RowKit

/-- The cells of numbers. -/
def ZA (L : List Int) : Array Value := (L.map (Value.int .i64)).toArray
theorem ZA_size (L : List Int) : (ZA L).size = L.length := by simp [ZA]
theorem ZA_get (L : List Int) (j : Nat) (h : j < L.length) : (ZA L)[j]? = some (.int .i64 (L.getD j 0)) := by simp [ZA, h]
theorem ZA_set (L : List Int) (j : Nat) (x : Int) : (ZA L).setIfInBounds j (.int .i64 x) = ZA (L.set j x) := by simp [ZA, List.map_set]
def zl (n : Nat) : List Int := List.replicate n 0
theorem zl_len (n : Nat) : (zl n).length = n := by simp [zl]
theorem IA_ZA (n : Nat) : IA (List.replicate n 0) = ZA (zl n) := by unfold IA ZA zl; simp
theorem ZA_put {w : World} {g : Nat} {L : List Int} {t : TypeId} (h : w.heap[g]? = some (.cells (ZA L) t (0, 0))) (j : Nat) (x : Int) : (w.setCell ⟨g, j, none⟩ (.int .i64 x)).heap[g]? = some (.cells (ZA (L.set j x)) t (0, 0)) := by
  rw [heap_setCell_same w g j (ZA L) t _ h, ZA_set]
theorem ZA_at {w : World} {g : Nat} {L : List Int} {t : TypeId} (h : w.heap[g]? = some (.cells (ZA L) t (0, 0))) (j : Nat) (hj : j < L.length) : w.cell? ⟨g, j, none⟩ = some (.int .i64 (L.getD j 0)) := by
  rw [cell_of_row _ _ _ _ _ _ h, ZA_get _ _ hj]

def lentK (zs : List Int) (j : Nat) : List Int := zs ++ (List.replicate j (-77) ++ zl (20 - j))
def lentL (zs : List Int) : List Int := zs ++ List.replicate 20 (-77)
theorem lentL_len (zs : List Int) : (lentL zs).length = zs.length + 20 := by simp [lentL]
theorem lentK_len (zs : List Int) (j : Nat) (h : j ≤ 20) : (lentK zs j).length = zs.length + 20 := by simp [lentK, zl]; omega
theorem lentK_full (zs : List Int) : lentK zs 20 = lentL zs := by unfold lentK lentL; simp [zl]
theorem lentK_set (zs : List Int) (j : Nat) (h : j < 20) : (lentK zs j).set (zs.length + j) (-77) = lentK zs (j + 1) := by
  unfold lentK
  rw [List.set_append_right _ _ (by omega), show zs.length + j - zs.length = j by omega]
  congr 1
  rw [List.set_append_right _ _ (by simp)]
  obtain ⟨m, hm⟩ : ∃ m, 20 - j = m + 1 := ⟨19 - j, by omega⟩
  rw [hm, show 20 - (j + 1) = m by omega, List.length_replicate, Nat.sub_self]
  unfold zl
  rw [List.replicate_succ, List.set_cons_zero, show List.replicate (j + 1) (-77 : Int) = List.replicate j (-77) ++ [-77] from List.replicate_succ']
  simp
theorem lentL_get (zs : List Int) (i : Nat) (h : i < zs.length + 20) : (lentL zs).getD i 0 = if i < zs.length then zs.getD i 0 else -77 := by
  unfold lentL
  simp only [List.getD_eq_getElem?_getD, List.getElem?_append]
  by_cases c : i < zs.length
  · rw [if_pos c, if_pos c]
  · rw [if_neg c, if_neg c, List.getElem?_replicate, if_pos (by omega)]
    rfl
def spl (c : List Int) (off : Nat) (zs : List Int) : List Int := c.take off ++ (zs ++ c.drop (off + zs.length))
theorem spl_zeros (zs : List Int) : spl (zl (zs.length + 20)) 0 zs = lentK zs 0 := by
  unfold spl lentK
  rw [List.take_zero, List.nil_append, Nat.zero_add]
  congr 1
  simp [zl]
theorem sz1i : (Try.prog.info? 3).map (·.size) = some 1 := by kernel_rfl
theorem cellsOfI : Try.prog.cellsOf 3 = 1 := by kernel_rfl

/-- copy into a row of numbers that lies at block g. -/
theorem copy_row {w : World} {ops : Array Oper} {rest : List Oper} {o : Oper} {a : Act} {Q : Exit → Act → World → Prop} (hgd : o.guard = none) (d s : Operand)
    (ho : o.op = .call { callee := .builtin .copy, args := #[d, s], argTypes := #[24, 24] })
    (dp sp : Option Addr) (dLen dCap sLen sCap : Nat) (hd : a.eval d = .slice dp dLen dCap) (hs : a.eval s = .slice sp sLen sCap) (t : TypeId)
    (g : Nat) (c : List Int) (hg : w.heap[g]? = some (.cells (ZA c) t (0, 0))) (zs : List Int) (hn : (zs.map (Value.int .i64)).length = Nat.min sLen dLen)
    (hpos : 0 < (zs.map (Value.int .i64)).length → dp = some ⟨g, 0, none⟩ ∧ ∃ ad, sp = some ad ∧ ∀ j v, (zs.map (Value.int .i64))[j]? = some v → w.cell? (ad.add j) = some v)
    (hfit : 0 + (zs.map (Value.int .i64)).length ≤ (c.map (Value.int .i64)).length)
    (h : ∀ w', PutR w g (ZA (spl c 0 zs)) t w' → wpList Try.prog ops Q rest (a.put o.dst (goInt (zs.map (Value.int .i64)).length)) w') : wpList Try.prog ops Q (o :: rest) a w := by
  by_cases h0 : (zs.map (Value.int .i64)).length = 0
  · have hz : zs = [] := List.eq_nil_of_length_eq_zero (by simpa using h0)
    subst hz
    refine wpList_copy_nothing hgd d s 24 24 ho 3 Try.underlying24 sz1i dp sp dLen dCap sLen sCap hd hs hn.symm ?_
    have hh := h w ⟨by rw [show spl c 0 [] = c by unfold spl; simp]; exact hg, fun _ _ => rfl, rfl, rfl, rfl, rfl⟩
    exact hh
  · obtain ⟨rfl, ad, rfl, hsrc⟩ := hpos (by omega)
    refine wpList_copy_own hgd d s 24 24 ho 3 Try.underlying24 sz1i g 0 dLen dCap ad sLen sCap hd hs (ZA c) t hg (zs.map (Value.int .i64)) hn hsrc (by simpa [ZA] using hfit) (fun u hu => by obtain ⟨x, _, rfl⟩ := List.mem_map.1 hu; rfl) ?_
    have e : ((ZA c).toList.take 0 ++ (zs.map (Value.int .i64) ++ (ZA c).toList.drop (0 + (zs.map (Value.int .i64)).length))).toArray = ZA (spl c 0 zs) := by
      simp [ZA, spl, List.map_drop]
    rw [e]
    exact h _ (putR_setRow _ hg)

theorem IntsAt.src {w w' : World} {a : Option Addr} {zs : List Int} (h : IntsAt w a zs) (hb : Below w.heap.size w w') (hp : 0 < zs.length) : ∃ ad, a = some ad ∧ ∀ j v, (zs.map (Value.int .i64))[j]? = some v → w'.cell? (ad.add j) = some v := by
  rcases h with h | ⟨b, o, h1, h2, h3⟩
  · rw [h] at hp; cases hp
  · refine ⟨_, h1, fun j v hj => ?_⟩
    have hjl : j < zs.length := by
      rcases Nat.lt_or_ge j zs.length with c | c
      · exact c
      · rw [List.getElem?_eq_none (by simpa using c)] at hj; cases hj
    have e : (⟨b, o, none⟩ : Addr).add j = ⟨b, o + j, none⟩ := by unfold Addr.add; split <;> simp_all
    rw [e, hb.cell (p := ⟨b, o + j, none⟩) h2, h3 j hjl, ← hj]
    simp [hjl]

set_option maxRecDepth 100000 in
set_option maxHeartbeats 1000000 in
theorem lent_any (zs : List Int) (L : Nat) (hL : Hid (zs.length = L)) (a : Option Addr) (cap : Nat) (w : World) (hm : L ≤ 17592186043904) (hr : Hid (IntsAt w a zs)) :
    Calls Try.prog 6 #[.slice a L cap] w fun e w' => e = .returned (.slice (some ⟨w.heap.size, 0, none⟩) (L + 20) (L + 20)) ∧ w'.heap[w.heap.size]? = some (.cells (ZA (lentL zs)) 3 (0, 0)) ∧ Below w.heap.size w w' := by
  have hmk := make_ints (L + 20) (by omega)
  rw [show ((L + 20 : Nat) : Int) = (L : Int) + 20 by omega, IA_ZA] at hmk
  have HO : Hid ((w.alloc (.cells (ZA (zl (L + 20))) 3)).heap[w.heap.size]? = some (.cells (ZA (zl (L + 20))) 3 (0, 0))) := heap_alloc_new w _
  have hb := hid (below_box w (.cells (ZA (zl (L + 20))) 3))
  have HCN : Hid ((zs.map (Value.int .i64)).length = Nat.min L (L + 20)) := by
    show _ = _
    rw [List.length_map, hL.out]
    exact (Nat.min_eq_left (by omega)).symm
  have HCF : Hid (0 + (zs.map (Value.int .i64)).length ≤ ((zl (L + 20)).map (Value.int .i64)).length) := by
    show _ ≤ _
    rw [List.length_map, List.length_map, zl_len, hL.out]
    omega
  have HSRC : Hid (0 < (zs.map (Value.int .i64)).length → some (⟨w.heap.size, 0, none⟩ : Addr) = some ⟨w.heap.size, 0, none⟩ ∧ ∃ ad, a = some ad ∧ ∀ j v, (zs.map (Value.int .i64))[j]? = some v → (w.alloc (.cells (ZA (zl (L + 20))) 3)).cell? (ad.add j) = some v) := fun hp => ⟨rfl, hr.out.src hb.out (by simpa using hp)⟩
  go_enter Try.func6, Try.ntmps6
  go_upto_region 3 with (refine copy_row rfl (.tmp 9) (.tmp 10) rfl (some ⟨w.heap.size, 0, none⟩) a (L + 20) (L + 20) L cap rfl rfl 3 w.heap.size (zl (L + 20)) HO.out zs HCN.out HSRC.out HCF.out ?_; intro w2 hw2; have H2 := hid hw2; clear hw2)
  have HR2 : Hid (w2.heap[w.heap.size]? = some (.cells (ZA (lentK zs 0)) 3 (0, 0))) := by
    show _ = _
    rw [← spl_zeros, hL.out]
    exact H2.out.here
  have HB2 := hid (H2.out.below hb.out (Nat.le_refl _))
  clear H2 HO HCN HCF HSRC hmk hb
  go_wp2
  go_loopw [4] (fun i wr => ∃ j : Nat, j ≤ 20 ∧ i = .int .i64 ((L : Int) + j) ∧ Hid (wr.heap[w.heap.size]? = some (.cells (ZA (lentK zs j)) 3 (0, 0))) ∧ Hid (Below w.heap.size w wr)) (fun i _ => (20 + (L : Int) - intOf i).toNat)
  case atStart => exact ⟨0, by omega, by simp, HR2, HB2⟩
  case round =>
    clear HR2 HB2
    obtain ⟨j, hj, rfl, HR, HB⟩ := hrel
    by_cases hlt : j < 20
    · have hjl : (L : Int) + (j : Int) < (L : Int) + 20 := by omega
      have hc := ZA_at HR.out (L + j) (by rw [lentK_len zs j hj, hL.out]; omega)
      have hf := frozen_of_row wr w.heap.size (L + j) _ _ HR.out
      have HS := hid (ZA_put HR.out (L + j) (-77))
      have e := lentK_set zs j hlt
      rw [hL.out] at e
      rw [e] at HS
      have HBN : Hid (Below w.heap.size w (wr.setCell ⟨w.heap.size, L + j, none⟩ (.int .i64 (-77)))) := (Chg.setCell (v := Value.int .i64 (-77)) (g := w.heap.size) (j := L + j) (w := wr)).to HB.out HB.out.size (fun k e => by omega)
      generalize (lentK zs j).getD (L + j) 0 = v0 at hc
      clear e HR HB
      go_wp2
      exact ⟨⟨j + 1, by omega, by go_num, HS, HBN⟩, by simp [intOf]; omega⟩
    · obtain rfl : j = 20 := by omega
      have HRf := HR
      rw [lentK_full] at HRf
      clear hlt hj HR
      go_wp2
      go_ret
      exact ⟨rfl, HRf.out, HB.out⟩

set_option maxRecDepth 100000 in
set_option maxHeartbeats 1000000 in
theorem kept_any (zs : List Int) (L : Nat) (hL : Hid (zs.length = L)) (a : Option Addr) (cap g : Nat) (w : World) (hm : L ≤ 17592186043904) (hr : Hid (IntsAt w a zs)) (HG : Hid (w.heap[g]? = some (.cells (ZA (lentL zs)) 3 (0, 0)))) :
    Calls Try.prog 8 #[.slice (some ⟨g, 0, none⟩) (L + 20) (L + 20), .slice a L cap] w fun e w' => e = .returned (.bool true) ∧ w = w' := by
  go_enter Try.func8, Try.ntmps8
  go_wp2
  go_loop [5] (fun i => ∃ k : Nat, k ≤ L + 20 ∧ i = .int .i64 k) (fun i => L + 20 - (intOf i).toNat)
  case atStart => exact ⟨0, by omega, rfl⟩
  case round =>
    obtain ⟨k, hk, rfl⟩ := hrel
    by_cases hlt : k < L + 20
    · have hkl : (k : Int) < (L : Int) + 20 := by omega
      have hc := ZA_at HG.out k (by rw [lentL_len, hL.out]; omega)
      rw [lentL_get zs k (by rw [hL.out]; omega), hL.out] at hc
      by_cases h2 : k < L
      · rw [if_pos h2] at hc
        have hk2 : (k : Int) < (L : Int) := by omega
        obtain ⟨b, o, rfl, hcell⟩ := hr.out.here k (by rw [hL.out]; exact h2)
        generalize zs.getD k 0 = x at *
        clear hlt h2
        go_wp2
        exact ⟨⟨k + 1, by omega, by go_num⟩, by simp [intOf]; omega⟩
      · rw [if_neg h2] at hc
        have hk2 : ¬ (k : Int) < (L : Int) := by omega
        clear hlt h2
        go_wp2
        exact ⟨⟨k + 1, by omega, by go_num⟩, by simp [intOf]; omega⟩
    · have hkl : ¬ (k : Int) < (L : Int) + 20 := by omega
      clear hlt hk
      go_wp2
      go_ret
      exact ⟨rfl, rfl⟩

set_option maxRecDepth 100000 in
set_option maxHeartbeats 1000000 in
theorem spoil_any (zs : List Int) (n g : Nat) (hn : Hid (zs.length = n)) (w : World) (hm : n ≤ 17592186044416) (HG : Hid (w.heap[g]? = some (.cells (ZA zs) 3 (0, 0)))) :
    Calls Try.prog 10 #[.slice (some ⟨g, 0, none⟩) n n] w fun e w' => e = .returned (.tuple #[]) ∧ Chg w w' (· = g) := by
  go_enter Try.func10, Try.ntmps10
  go_wp2
  go_loopw [2] (fun i wr => ∃ (k : Nat) (l : List Int), k ≤ n ∧ i = .int .i64 k ∧ Hid (l.length = n) ∧ Hid (wr.heap[g]? = some (.cells (ZA l) 3 (0, 0))) ∧ Hid (Chg w wr (· = g))) (fun i _ => n - (intOf i).toNat)
  case atStart => exact ⟨0, zs, by omega, rfl, hn, HG, hid (Chg.refl _ _)⟩
  case round =>
    obtain ⟨k, l, hk, rfl, HL, HR, HC⟩ := hrel
    by_cases hlt : k < n
    · have hkl : (k : Int) < (n : Int) := by omega
      have hc := ZA_at HR.out k (by rw [HL.out]; exact hlt)
      have hf := frozen_of_row wr g k _ _ HR.out
      have hm3 : 0 ≤ (k : Int) % 3 ∧ (k : Int) % 3 < 3 := ⟨Int.emod_nonneg _ (by decide), Int.emod_lt_of_pos _ (by decide)⟩
      have HS := hid fun x => ZA_put HR.out k x
      have HCN := hid fun x => HC.out.trans (Chg.setCell (v := Value.int .i64 x) (g := g) (j := k) (w := wr)) (c := (· = g)) (fun _ _ e => e) (fun _ _ e => e)
      have HLN := hid fun x => show (l.set k x).length = n by rw [List.length_set]; exact HL.out
      generalize l.getD k 0 = v0 at hc
      clear HR HC hlt
      go_wp2
      exact ⟨⟨k + 1, _, by omega, by go_num, hid (HLN.out _), hid (HS.out _), hid (HCN.out _)⟩, by simp [intOf]; omega⟩
    · have hkl : ¬ (k : Int) < (n : Int) := by omega
      clear hlt hk
      go_wp2
      go_end0
      exact ⟨rfl, HC.out⟩

end Go.Proofs.Ytdddcllakjeplaa
