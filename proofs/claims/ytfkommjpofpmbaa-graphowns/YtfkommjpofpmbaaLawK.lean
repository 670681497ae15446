/-
  known: the first calls answer as they must.
-/
import Derived.Test.YtfkommjpofpmbaaLaw0
namespace Go.Proofs.Ytfkommjpofpmbaa
open Go.RowKit

theorem i64_of {x : Int} (h : -9223372036854775808 ≤ x ∧ x ≤ 9223372036854775807) : I64 x := h

set_option maxRecDepth 100000 in
set_option maxHeartbeats 4000000 in
theorem known_any (w : World) : Calls Try.prog 4 #[] w fun e w' => e = .returned (.bool true) ∧ Chg w w' No := by
  have HN := new_any w
  have hgd := guardE
  have heq := eqE
  go_enter Try.func4, Try.ntmps4
  go_wp2_with (first
    | (go_at_call 16; go_must (refine HN.mono ?_; rintro e w1 ⟨p, own, rfl, hG, ho, hc⟩; change IsG w1 p own E0 at hG; have HA1 := addG_any 3 1 hG (i64_of (by omega)) (i64_of (by omega))))
    | (go_at_call 17; go_must (first
        | (refine HA1.mono ?_; rintro e w2 ⟨c1, F1, o1, rfl, a1, g1, s1, d1⟩; obtain ⟨rfl, rfl⟩ := added_ok a1 (sec_of (by omega)) (sec_of (by omega)) r01; change IsG w2 p o1 E1 at g1; have HA2 := addG_any 1 2 g1 (i64_of (by omega)) (i64_of (by omega)); clear HA1)
        | (refine HA2.mono ?_; rintro e w3 ⟨c2, F2, o2, rfl, a2, g2, s2, d2⟩; obtain ⟨rfl, rfl⟩ := added_ok a2 (sec_of (by omega)) (sec_of (by omega)) r12; change IsG w3 p o2 E2 at g2; have HA3 := addG_any 2 3 g2 (i64_of (by omega)) (i64_of (by omega)); clear HA2)
        | (refine HA3.mono ?_; rintro e w4 ⟨c3, F3, o3, rfl, a3, g3, s3, d3⟩; obtain ⟨rfl, rfl⟩ := added_ring a3 (sec_of (by omega)) (sec_of (by omega)) (r2.2 (by omega)); have HB := before_any 2 g3 (i64_of (by omega)); clear HA3)))
    | (go_at_call 8; go_must (refine HB.mono ?_; rintro e w5 ⟨v, l, rfl, hv, hb, dB⟩; obtain rfl := known_l hb; obtain ⟨gl, cl, rfl, hgl, hgl2, hcl⟩ := row_cells hv (by decide); have l0 := hcl 0 _ rfl; have l1 := hcl 1 _ rfl; have HE := edgesG_any (g3.call dB); clear HB))
    | (go_at_call 9; go_must (refine HE.mono ?_; rintro e w6 ⟨v2, l2, rfl, hv2, he, dE⟩; obtain rfl := known_e he; obtain ⟨ge, ce, rfl, hge, hge2, hce⟩ := row_cells hv2 (by decide); have m0 := hce 0 _ rfl; have m1 := hce 1 _ rfl; have k0 := cell_keep l0 dE hgl2 (fun e => e); have k1 := cell_keep l1 dE hgl2 (fun e => e); clear hce hcl; have g6 := (g3.call dB).call dE; have HR1 := reaches_any 3 2 g6 (i64_of (by omega)) (i64_of (by omega)); clear HE))
    | (go_at_call 18; go_must (first
        | (refine HR1.mono ?_; rintro e w7 ⟨r7, rfl, q7, d7⟩; obtain rfl : r7 = true := q7.2 (r2.2 (by omega)); have g7 := g6.call d7; have HR2 := reaches_any 2 3 g7 (i64_of (by omega)) (i64_of (by omega)); clear HR1)
        | (refine HR2.mono ?_; rintro e w8 ⟨r8, rfl, q8, d8⟩; obtain rfl : r8 = false := (by cases r8; rfl; have := r2.1 (q8.1 rfl); omega); have g8 := g7.call d8; have HF1 := free_any 3 g8 (i64_of (by omega)); have HF2 := free_any 2 g8 (i64_of (by omega)); clear HR2)))
    | (go_at_call 19; go_must (first
        | (refine HF1.mono ?_; rintro e w9 ⟨r9, rfl, q9, rfl⟩; obtain rfl : r9 = true := q9.2 (fun a h => by rw [e2_iff] at h; omega); clear HF1)
        | (refine HF2.mono ?_; rintro e w9 ⟨r10, rfl, q10, rfl⟩; obtain rfl : r10 = false := (by cases r10; rfl; exact absurd ((e2_iff 1 2).2 (by omega)) (q10.1 rfl 1)); clear HF2)))
    | go_in)
  go_ret
  have z1 := hc.size
  have z2 := d1.size
  have z3 := d2.size
  have f1 : ∀ k, o1 k → w.heap.size ≤ k := fun k hk => (s1 k hk).elim (fun e => (ho k e).1) (fun e => by omega)
  have f2 : ∀ k, o2 k → w.heap.size ≤ k := fun k hk => (s2 k hk).elim (fun e => f1 k e) (fun e => by omega)
  have c1 : Chg w w2 No := hc.trans d1 (fun _ _ e => e) (fun j hj e => by have := (ho j e).1; omega)
  have c2 : Chg w w3 No := c1.trans d2 (fun _ _ e => e) (fun j hj e => by have := f1 j e; omega)
  have c3 : Chg w w4 No := c2.trans d3 (fun _ _ e => e) (fun j hj e => by have := f2 j e; omega)
  exact ⟨rfl, (((c3.trans dB (fun _ _ e => e) (fun _ _ e => e)).trans dE (fun _ _ e => e) (fun _ _ e => e)).trans d7 (fun _ _ e => e) (fun _ _ e => e)).trans d8 (fun _ _ e => e) (fun _ _ e => e)⟩

end Go.Proofs.Ytfkommjpofpmbaa
