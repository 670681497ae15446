/-
  The document's own Splice comes to the same as the plain function, for every sector, place and list of bytes.
-/
import Derived.Test.YtibneoajkbblaaaWRef3
import Derived.Test.YtibneoajkbblaaaPlain3
namespace Go.Proofs.Ytibneoajkbblaaa
open Go.RowKit

theorem rfit_lies (p : Int) (n : Nat) : rfit p (n : Int) = liesB p n := by
  cases h : liesB p n
  · have := of_decide_eq_false h
    exact rfit_false (by omega)
  · have := of_decide_eq_true h
    exact rfit_true (by omega)

set_option maxRecDepth 100000 in
set_option maxHeartbeats 400000 in
theorem rsplice_out (s : List Int) (p : Int) (L : Nat) (a : Option Addr) (cap : Nat) (w : World) (h : rfit p (L : Int) = false) :
    Calls Try.prog 29 #[.agg (SA s), .int .i64 p, .slice a L cap] w fun e w' => e = .returned (.tuple #[.agg (SA Zs), .int .i64 10]) ∧ Below w.heap.size w w' := by
  have hz := zero_sec
  have HB0 := hid (three_start w s)
  have h0 : (0 : Int) ≤ (L : Int) := by omega
  go_enter Try.func29, Try.ntmps29
  go_wp2_with (first | (refine store_sec rfl _ _ rfl (w.heap.size + 1) rfl Zs rfl Zs_len Zs Zs_len (HB0.out.get (by simp)) ?_; intro w2 hw2) | (go_at_call 35; refine (rfits_any _ _ _ h0).mono ?_; rintro e w' ⟨rfl, rfl⟩))
  exact bodyPost_ret (v := .tuple #[.agg (SA Zs), .int .i64 10]) (results_sec Try.results29 _ _ (w.heap.size + 1) Zs Zs_len _ rfl rfl hw2.here) rfl ⟨rfl, hw2.below HB0.out.old (by omega)⟩

theorem spl_take_set (s : List Int) (P : Nat) (zs : List Int) (k : Nat) (hk : k < zs.length) (h : P + zs.length ≤ s.length) : (spl s P (zs.take k)).set (P + k) (zs.getD k 0) = spl s P (zs.take (k + 1)) := by
  have l0 : (zs.take k).length = k := by rw [List.length_take]; omega
  have l1 : (zs.take (k + 1)).length = k + 1 := by rw [List.length_take]; omega
  apply ext_getD (by rw [List.length_set, spl_len _ _ _ (by omega), spl_len _ _ _ (by omega)])
  intro i _
  rw [getD_set _ _ _ _ (by rw [spl_len _ _ _ (by omega)]; omega), spl_get _ _ _ (by omega), spl_get _ _ _ (by omega), l0, l1]
  by_cases e : P + k = i
  · subst e
    rw [if_pos rfl, if_pos (by omega), show P + k - P = k by omega]
    simp [List.getD_eq_getElem?_getD]
  · rw [if_neg e]
    by_cases c : P ≤ i ∧ i < P + k
    · rw [if_pos c, if_pos (by omega)]
      have h1 : i - P < k := by omega
      have h2 : i - P < k + 1 := by omega
      simp [List.getD_eq_getElem?_getD, h1, h2]
    · rw [if_neg c, if_neg (by omega)]

set_option maxRecDepth 100000 in
set_option maxHeartbeats 1000000 in
theorem rsplice_in (s : List Int) (P L : Nat) (zs : List Int) (hL : Hid (zs.length = L)) (a : Option Addr) (cap : Nat) (w : World) (hs : s.length = 128) (hr : BytesAt w a zs) (hfit : rfit (P : Int) (L : Int) = true) (hP : P + L ≤ 128) :
    Calls Try.prog 29 #[.agg (SA s), .int .i64 (P : Int), .slice a L cap] w fun e w' => e = .returned (.tuple #[.agg (SA (spl s P zs)), .int .i64 0]) ∧ Below w.heap.size w w' := by
  have hz := zero_sec
  have HB0 := hid (three_start w s)
  have h0 : (0 : Int) ≤ (L : Int) := by omega
  have HZ := hid hr
  clear hr
  go_enter Try.func29, Try.ntmps29
  go_wp2_with (first | (refine store_sec rfl _ _ rfl (w.heap.size + 2) rfl s rfl hs Zs Zs_len (by exact heap3 w _ _ _) ?_; intro w2 hw2) | refine load_sec rfl _ rfl w.heap.size rfl s hs (HB0.out.get (by simp)) ?_ | (go_at_call 35; refine (rfits_any _ _ _ h0).mono ?_; rintro e w' ⟨rfl, rfl⟩))
  have HB2 : Hid (HB w [(w.heap.size + 2, .cells (SA s) 26 (0, 0)), (w.heap.size + 1, .cells (SA Zs) 26 (0, 0)), (w.heap.size, .cells (SA s) 26 (0, 0))] w2) := three_copy HB0.out hw2
  clear hw2 HB0
  go_loopw [9] (fun i wr => ∃ k : Nat, k ≤ L ∧ i = .int .i64 k ∧ Hid (HB w [(w.heap.size + 2, .cells (SA (spl s P (zs.take k))) 26 (0, 0)), (w.heap.size + 1, .cells (SA Zs) 26 (0, 0)), (w.heap.size, .cells (SA s) 26 (0, 0))] wr)) (fun i _ => L - (intOf i).toNat)
  case atStart => exact ⟨0, by omega, rfl, by rw [List.take_zero, spl_nil]; exact HB2⟩
  case round =>
    obtain ⟨k, hk, rfl, HR⟩ := hrel
    have hll := hL.out
    have hlen : (spl s P (zs.take k)).length = 128 := by rw [spl_len _ _ _ (by rw [List.length_take]; omega), hs]
    by_cases hlt : k < L
    · rcases HZ.out with he | ⟨bd, od, rfl, hbd, hcd⟩
      · rw [he] at hll; simp at hll; omega
      · have hg := HR.out.get (g := w.heap.size + 2) (o := .cells (SA (spl s P (zs.take k))) 26 (0, 0)) (by simp)
        have hc := sec_cell hg (P + k) (by omega)
        have hf := sec_free hg (P + k)
        have hcD := hcd k (by omega)
        rw [← HR.out.old.cell (p := ⟨bd, od + k, none⟩) hbd] at hcD
        have HS := hid (spl_take_set s P zs k (by omega) (by omega))
        have HG := hid hg
        have hi : (P : Int) + (k : Int) < 128 := by omega
        have hkm : (k : Int) < (L : Int) := by omega
        generalize zs.getD k 0 = x at *
        clear hg hcd hll
        go_wp2
        have hw := sec_setCell HG.out (P + k) x
        rw [HS.out] at hw
        exact ⟨⟨k + 1, by omega, by go_num, HR.out.write hw (by omega) (by simp)⟩, by simp [intOf]; omega⟩
    · have e : k = L := by omega
      have E : Hid (zs.take k = zs) := by show _ = _; rw [List.take_of_length_le (by omega)]
      rw [E.out] at HR hlen
      clear e hll E
      go_wp2_with (first | refine load_sec rfl _ rfl (w.heap.size + 2) rfl (spl s P zs) hlen (HR.out.get (by simp)) ?_ | (refine store_sec rfl _ _ rfl (w.heap.size + 1) rfl (spl s P zs) rfl hlen Zs Zs_len (HR.out.get (by simp)) ?_; intro w3 hw3))
      exact bodyPost_ret (v := .tuple #[.agg (SA (spl s P zs)), .int .i64 0]) (results_sec Try.results29 _ _ (w.heap.size + 1) _ hlen _ rfl rfl hw3.here) rfl ⟨rfl, hw3.below HR.out.old (by omega)⟩

theorem rsplice_any (s : List Int) (p : Int) (zs : List Int) (a : Option Addr) (cap : Nat) (w : World) (hs : s.length = 128) (hr : BytesAt w a zs) :
    Calls Try.prog 29 #[.agg (SA s), .int .i64 p, .slice a zs.length cap] w fun e w' => e = .returned (.tuple #[.agg (SA (splS s p zs)), .int .i64 (splE p zs)]) ∧ Below w.heap.size w w' := by
  cases h : liesB p zs.length
  · rw [show splS s p zs = Zs by simp [splS, h], show splE p zs = 10 by simp [splE, h]]
    exact rsplice_out s p zs.length a cap w (by rw [rfit_lies, h])
  · have h' := of_decide_eq_true h
    obtain ⟨P, rfl⟩ := Int.eq_ofNat_of_zero_le h'.1
    rw [show splS s (P : Int) zs = spl s P zs by rw [splS, if_pos h]; rfl, show splE (P : Int) zs = 0 by rw [splE, if_pos h]]
    exact rsplice_in s P zs.length zs rfl a cap w hs hr (by rw [rfit_lies, h]) (by omega)

end Go.Proofs.Ytibneoajkbblaaa
