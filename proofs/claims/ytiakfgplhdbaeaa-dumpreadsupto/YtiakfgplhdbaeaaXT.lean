/-
  package dump: the reader on any bytes: take, number, list; a copy of bytes.
-/
import Derived.Test.YtiakfgplhdbaeaaXP
namespace Go.Proofs.Ytiakfgplhdbaeaa
open Go.RowKit

/-- A piece of bytes: none, or some in place. -/
def Pc (w : World) (a : Option Addr) (c : Nat) (ds : List Int) : Prop := (a = none ∧ c = 0 ∧ ds = []) ∨ ∃ b o, a = some ⟨b, o, none⟩ ∧ At8 w b o ds
theorem Pc.bytes {w : World} {a : Option Addr} {c : Nat} {ds : List Int} (h : Pc w a c ds) : BytesAt w a ds := by
  rcases h with ⟨_, _, e⟩ | ⟨b, o, rfl, h⟩
  · exact .inl e
  · exact h.bytes
set_option maxHeartbeats 2000000 in
set_option maxRecDepth 100000 in
theorem take_short {gr b o cap : Nat} {zs : List Int} {s : Bool} (k : Int) (w : World) (h : Rd w gr b o zs cap s) (hk : (zs.length : Int) < k) :
    Calls Try.prog 39 #[.pointer (some ⟨gr, 0, none⟩), .int .i64 k] w fun e w' => e = .returned (.slice none 0 0) ∧ Rd w' gr b o zs cap true ∧ Chg w w' (· = gr) := by
  have c0 := h.c0
  have c1 := h.c1
  have HR := hid h
  have fz := frozen_of_row w gr 1 _ _ h.me
  obtain ⟨n, hn⟩ : ∃ y, y = zs.length := ⟨_, rfl⟩
  rw [← hn] at hk c0
  have HNn := hid hn
  have HE : Hid (Rd (w.setCell ⟨gr, 1, none⟩ (.bool true)) gr b o zs cap true ∧ Chg w (w.setCell ⟨gr, 1, none⟩ (.bool true)) (· = gr)) := hid (by
    have hc : Chg w (w.setCell ⟨gr, 1, none⟩ (.bool true)) (· = gr) := Chg.setCell
    refine ⟨⟨?_, h.at_.keep hc h.ne, h.cp, h.ne⟩, hc⟩
    rw [heap_setCell_same w gr 1 _ _ _ h.me]
    rfl)
  clear h hn
  go_enter Try.func39, Try.ntmps39
  go_wp2_with fail
  go_ret
  exact ⟨rfl, HE.out.1, HE.out.2⟩
theorem take_any {gr b o cap : Nat} {zs : List Int} {s : Bool} (k : Int) (w : World) (h : Rd w gr b o zs cap s) (hk : 0 ≤ k) :
    Calls Try.prog 39 #[.pointer (some ⟨gr, 0, none⟩), .int .i64 k] w fun e w' => (∃ a c, e = .returned (.slice a (takZ k zs s).1.length c) ∧ Pc w' a c (takZ k zs s).1) ∧ (∃ o' cap', Rd w' gr b o' (takZ k zs s).2.1 cap' (takZ k zs s).2.2) ∧ Chg w w' (· = gr) := by
  unfold takZ
  by_cases hl : (zs.length : Int) < k
  · rw [if_pos hl]
    refine (take_short k w h hl).mono ?_
    rintro e w' ⟨rfl, h1, h2⟩
    exact ⟨⟨none, 0, rfl, .inl ⟨rfl, rfl, rfl⟩⟩, ⟨o, cap, h1⟩, h2⟩
  · rw [if_neg hl]
    have := take_good k.toNat w h (by omega)
    rw [show ((k.toNat : Nat) : Int) = k by omega] at this
    refine this.mono ?_
    rintro e w' ⟨rfl, ⟨o', h1⟩, h2, h3⟩
    exact ⟨⟨_, _, by rw [List.length_take, Nat.min_eq_left (by omega)], .inr ⟨b, o, rfl, h2⟩⟩, ⟨o', _, h1⟩, h3⟩
theorem ofInt_wrap (n : Int) : BitVec.ofInt IntKind.i64.bits (wrap64 n) = BitVec.ofInt IntKind.i64.bits n := by
  show BitVec.ofInt 64 (wrap64 n) = BitVec.ofInt 64 n
  apply BitVec.eq_of_toNat_eq
  rw [BitVec.toNat_ofInt, BitVec.toNat_ofInt]
  unfold wrap64
  omega
theorem or_wrap (i v x : Nat) (hi : i ≤ 56) (hv : v < 2 ^ i) (hx : x < 256) : bits .or .i64 (v : Int) (wrap64 ((x : Int) * 2 ^ i)) = wrap64 ((v : Int) + (x : Int) * 2 ^ i) := by
  have hp : 2 ^ i ≤ 2 ^ 56 := Nat.pow_le_pow_right (by decide) hi
  have h56 : (2 : Nat) ^ 56 = 72057594037927936 := by decide
  have hxi : x * 2 ^ i < 2 ^ 64 := by
    have h1 : x * 2 ^ i ≤ 255 * 2 ^ 56 := Nat.mul_le_mul (by omega) hp
    rw [h56] at h1
    have h64 : (2 : Nat) ^ 64 = 18446744073709551616 := by decide
    omega
  have hv64 : v < 2 ^ 64 := Nat.lt_of_lt_of_le hv (Nat.le_trans hp (by decide))
  have e1 : ((x : Int) * 2 ^ i) = ((x * 2 ^ i : Nat) : Int) := by simp
  have e2 : x * 2 ^ i ||| v = x * 2 ^ i + v := by rw [Nat.mul_comm x, ← Nat.two_pow_add_eq_or_of_lt hv x]
  have hv64 : v < 2 ^ IntKind.i64.bits := hv64
  have hxi : x * 2 ^ i < 2 ^ IntKind.i64.bits := hxi
  simp only [bits, ofInt_wrap, e1, BitVec.ofInt_natCast, BitVec.toNat_or, BitVec.toNat_ofNat, Nat.mod_eq_of_lt hv64, Nat.mod_eq_of_lt hxi]
  rw [Nat.or_comm, e2, IntKind.wrap_i64]
  unfold wrap64
  omega
theorem or_stepW {ys : List Int} (hr : okB ys) {j : Nat} (hj : j < ys.length) (h7 : j ≤ 7) : bits .or .i64 (wrap64 (valB (ys.take j))) (wrap64 (wrap64 ys[j] * 2 ^ (8 * j))) = wrap64 (valB (ys.take (j + 1))) := by
  have hy := hr ys[j] (List.getElem_mem hj)
  have ht : ys.take (j + 1) = ys.take j ++ [ys[j]] := by rw [List.take_add_one, List.getElem?_eq_getElem hj]; rfl
  have hl : (ys.take j).length = j := by rw [List.length_take]; omega
  have h1 := val_snoc ys[j] (ys.take j)
  rw [← ht, hl, pow_256] at h1
  have h3 := val_rng (ys.take j) (hr.take j)
  rw [hl, pow_256] at h3
  have w1 : wrap64 ys[j] = ys[j] := w64 _ ⟨by omega, by omega⟩
  have hp : (2 : Int) ^ (8 * j) ≤ 72057594037927936 := by
    have : (2 : Nat) ^ (8 * j) ≤ 2 ^ 56 := Nat.pow_le_pow_right (by decide) (by omega)
    have h56 : (2 : Nat) ^ 56 = 72057594037927936 := by decide
    rw [h56] at this
    have e : ((2 : Int) ^ (8 * j)) = ((2 ^ (8 * j) : Nat) : Int) := by simp
    rw [e]
    generalize 2 ^ (8 * j) = P at this
    omega
  have w2 : wrap64 (valB (ys.take j)) = valB (ys.take j) := w64 _ ⟨by omega, by omega⟩
  rw [w1, w2, h1]
  obtain ⟨a, ha⟩ := Int.eq_ofNat_of_zero_le h3.1
  obtain ⟨b, hb⟩ := Int.eq_ofNat_of_zero_le hy.1
  rw [ha] at h3 ⊢
  rw [hb] at hy ⊢
  exact or_wrap (8 * j) a b (by omega) (by exact_mod_cast h3.2) (by omega)

set_option maxHeartbeats 2000000 in
set_option maxRecDepth 100000 in
theorem number_none {gr b o cap k : Nat} {zs : List Int} {s : Bool} (w : World) (h : Rd w gr b o zs cap s) (hk : zs.length < k) :
    Calls Try.prog 29 #[.pointer (some ⟨gr, 0, none⟩), .int .i64 (k : Int)] w fun e w' => e = .returned (.int .i64 0) ∧ Rd w' gr b o zs cap true ∧ Chg w w' (· = gr) := by
  have hT := take_short (k : Int) w h (by omega)
  clear h
  go_enter Try.func29, Try.ntmps29
  go_wp2_with (first
    | (go_at_call 39; go_must (refine hT.mono ?_; rintro e w1 ⟨rfl, hr1, hc1⟩; have HR1 := hid hr1; have HC1 := hid hc1; clear hr1 hc1))
    | fail)
  go_loopw [5, 12] (fun x5 x12 wr => x12 = .int .i64 0 ∧ x5 = .int .i64 0 ∧ wr = w1) (fun _ _ _ => 0)
  case atStart => exact ⟨rfl, rfl, rfl⟩
  case round =>
    obtain ⟨rfl, rfl, hwr⟩ := hrel
    have hwr := hwr.symm
    subst hwr
    go_wp2_with fail
    go_ret
    exact ⟨rfl, HR1.out, HC1.out⟩
set_option maxHeartbeats 2000000 in
set_option maxRecDepth 100000 in
theorem number_all {gr b o cap : Nat} {ys rest : List Int} {s : Bool} (w : World) (h : Rd w gr b o (ys ++ rest) cap s) (hy : ys.length ≤ 8) (hr : okB ys) :
    Calls Try.prog 29 #[.pointer (some ⟨gr, 0, none⟩), .int .i64 (ys.length : Int)] w fun e w' => e = .returned (.int .i64 (wrap64 (valB ys))) ∧ (∃ o' cap', Rd w' gr b o' rest cap' s) ∧ Chg w w' (· = gr) := by
  have hT := take_good ys.length w h (by simp)
  rw [List.drop_left, List.take_left] at hT
  have HRg := hid hr
  obtain ⟨k, hk⟩ : ∃ y, y = ys.length := ⟨_, rfl⟩
  rw [← hk] at hy hT ⊢
  have HK := hid hk
  obtain ⟨V, hV⟩ : ∃ y, y = wrap64 (valB ys) := ⟨_, rfl⟩
  rw [← hV]
  have HVv := hid hV
  clear h hr hk hV
  go_enter Try.func29, Try.ntmps29
  go_wp2_with (first
    | (go_at_call 39; go_must (refine hT.mono ?_; rintro e w1 ⟨rfl, ⟨o', hr1⟩, ha1, hc1⟩; have HR1 := hid hr1; have HA1 := hid ha1; have HC1 := hid hc1; clear hr1 ha1 hc1))
    | fail)
  go_loopw [5, 12] (fun x5 x12 wr => ∃ (j : Nat) (u : Int), x12 = .int .i64 (j : Int) ∧ j ≤ k ∧ x5 = .int .i64 u ∧ Hid (u = wrap64 (valB (ys.take j))) ∧ wr = w1) (fun _ x12 _ => k - (intOf x12).toNat)
  case atStart => exact ⟨0, 0, rfl, Nat.zero_le _, rfl, hid (w64 0 ⟨by decide, by decide⟩).symm, rfl⟩
  case round =>
    obtain ⟨j, u, rfl, hj, rfl, HU, hwr⟩ := hrel
    have hwr := hwr.symm
    subst hwr
    by_cases e : j = k
    · subst e
      have HE : u = V := by rw [HU.out, HVv.out, HK.out, List.take_length]
      rw [HE]
      go_wp2_with fail
      go_ret
      exact ⟨rfl, ⟨o', _, HR1.out⟩, HC1.out⟩
    · have f1 : (j : Int) < (k : Int) := by omega
      have hjl : j < ys.length := by rw [← HK.out]; omega
      have cc := HA1.out.2 j hjl
      have HO := hid (or_stepW HRg.out hjl (by omega))
      go_wp2_with fail
      refine ⟨⟨j + 1, _, by go_num, by omega, rfl, ?_, trivial⟩, by simp [intOf]; omega⟩
      exact hid (by rw [← HO.out, ← HU.out])
theorem number_any {gr b o cap : Nat} {zs : List Int} {s : Bool} (k : Nat) (w : World) (h : Rd w gr b o zs cap s) (hk : k ≤ 8) (hr : okB zs) :
    Calls Try.prog 29 #[.pointer (some ⟨gr, 0, none⟩), .int .i64 (k : Int)] w fun e w' => e = .returned (.int .i64 (numZ k zs s).1) ∧ (∃ o' cap', Rd w' gr b o' (numZ k zs s).2.1 cap' (numZ k zs s).2.2) ∧ Chg w w' (· = gr) := by
  unfold numZ
  by_cases hl : zs.length < k
  · rw [if_pos hl]
    refine (number_none w h hl).mono ?_
    rintro e w' ⟨rfl, h1, h2⟩
    exact ⟨rfl, ⟨o, cap, h1⟩, h2⟩
  · rw [if_neg hl]
    have hlen : (zs.take k).length = k := by rw [List.length_take]; omega
    rw [← List.take_append_drop k zs] at h
    have := number_all w h (by omega) (hr.take k)
    rw [hlen] at this
    exact this
end Go.Proofs.Ytiakfgplhdbaeaa
