/-
  GraphNoRing, walked: no sector leads to itself, and where there are edges one leads from a sector that is free.
-/
import Derived.Test.YtjnafcogdakbbaaWAdds
namespace Go.Proofs.Ytjnafcogdakbbaa
open Go.RowKit

/-- What is known of memory while one edge is looked at. -/
def NS (w0 : World) (gx : Nat) (y : Int × Int) (p : Nat) (own : Nat → Prop) (E : Int → Int → Prop) (al : Option Addr) (l : List (Int × Int)) (w : World) : Prop :=
  (w.cell? ⟨gx, 0, none⟩ = some (.int .i64 y.1) ∧ w.cell? ⟨gx, 1, none⟩ = some (.int .i64 y.2)) ∧ gx < w.heap.size ∧ IsG w p own E ∧ EAt w al l ∧ Chg w0 w No
theorem NS.call {w0 w w' : World} {gx : Nat} {y : Int × Int} {p : Nat} {own : Nat → Prop} {E : Int → Int → Prop} {al : Option Addr} {l : List (Int × Int)} (h : NS w0 gx y p own E al l w) (hc : Chg w w' No) : NS w0 gx y p own E al l w' :=
  ⟨⟨cell_keep h.1.1 hc h.2.1 (fun e => e), cell_keep h.1.2 hc h.2.1 (fun e => e)⟩, Nat.lt_of_lt_of_le h.2.1 hc.size, h.2.2.1.call hc, h.2.2.2.1.call hc, h.2.2.2.2.tr hc⟩
theorem chg_drew (w : World) : Chg w w.drew No := (Chg.refl w No).drew

theorem no_way {E : Int → Int → Prop} {l : List (Int × Int)} {s : List Bool} {x : Int} (hL : EList E l) (hN : NoRing E) (hx : Sec x) (h : ∀ z, Sec z → (s.getD z.toNat false = true ↔ Way (dirF l false) x z)) : s.getD x.toNat false = false := by
  cases hs : s.getD x.toNat false
  · rfl
  · exact absurd ((dir_way hL x x).1 ((h x hx).1 hs)) (hN x)
theorem no_back {E : Int → Int → Prop} {a b : Int} {r : Bool} (hN : NoRing E) (he : E a b) (h : r = true ↔ Reach E b a) : r = false := by
  cases r
  · rfl
  · rcases h.1 rfl with e | e
    · exact absurd (.one (e ▸ he)) (hN b)
    · exact absurd (.more he e) (hN a)
theorem edK_mem {l : List (Int × Int)} {k : Nat} (hk : k < l.length) : edK l k ∈ l := by
  have e : edK l k = l[k] := by simp [edK, hk]
  rw [e]
  exact List.getElem_mem _
theorem edK_of_mem {l : List (Int × Int)} {x : Int × Int} (h : x ∈ l) : ∃ k, k < l.length ∧ edK l k = x := by
  obtain ⟨k, hk, rfl⟩ := List.mem_iff_getElem.1 h
  exact ⟨k, hk, by simp [edK, hk]⟩

set_option maxRecDepth 100000 in
set_option maxHeartbeats 8000000 in
theorem noring_walk (ws : List StV) (ad : Option Addr) (cap : Nat) (w : World) (hl : ws.length ≤ 140737488355328) (hz : ScriptAt w ad ws) (hok : ∀ s, s ∈ ws → s.OK) :
    Calls Try.prog 5 #[.slice ad ws.length cap] w fun e w' => e = .returned (.bool true) ∧ Below w.heap.size w w' := by
  have HK := known_any w
  have HZ := hid hz
  clear hz
  go_enter Try.func5, Try.ntmps5
  go_wp2_with (first
    | (go_at_call 9; go_must (refine HK.mono ?_; rintro e w1 ⟨rfl, c1⟩; have HM := made_any ws ad cap w1 hl (HZ.out.keep c1) hok; clear HK))
    | (go_at_call 19; go_must (refine HM.mono ?_; rintro e w2 ⟨p, own, E, rfl, hG, ho, c2⟩; have HE1 := edgesG_any hG; clear HM))
    | (go_at_call 17; go_must (refine HE1.mono ?_; rintro e w3 ⟨v, l, rfl, hv, hL, c3⟩; obtain ⟨al, cl, rfl, hA, hAb⟩ := hv.at_; clear HE1))
    | fail)
  have C3 : Chg w w3 No := (c1.tr c2).tr c3
  have hG3 := hG.call c3
  have hll := elist_len hL hG.sec
  have hNR := hG.ring
  have hSec := hG.sec
  have HW := fun (n : Int) w (h : EAt w al l) => ways_forth l al cl n w hll h (elist_sec hL hSec)
  have HX := hid (And.intro C3 (And.intro hG3 hA))
  have hgd := guardE
  clear hv hA hG hG3 c1 c2 c3 C3 ho hAb
  generalize hN : l.length = N at *
  go_loopw [6, 7] (fun f i wr => ∃ (k : Nat) (r : Bool) (wq : World), wq = wr ∧ k ≤ N ∧ f = .bool r ∧ i = .int .i64 k ∧ (r = true ↔ ∃ j, j < k ∧ ∀ x, ¬ E x (edK l j).1) ∧ Chg w3 wq No) (fun _ i _ => N - (intOf i).toNat)
  case atStart => exact ⟨0, false, _, rfl, by omega, rfl, rfl, by simp, Chg.refl _ _⟩
  case round =>
    obtain ⟨k, r, wA, rfl, hk, rfl, rfl, hr, hc⟩ := hrel
    by_cases hlt : k < N
    · rcases HX.out.2.2.call hc with h0 | ⟨g1, rfl, hg1, h1⟩
      · rw [h0] at hN; simp at hN; omega
      obtain ⟨p1, q1⟩ := EAt.cells h1 (k := k) (by omega)
      have hEy : E (edK l k).1 (edK l k).2 := (hL.2 _).1 (edK_mem (by omega))
      obtain ⟨hs1, hs2⟩ := hSec _ _ hEy
      have hstep : ∀ b : Bool, (b = true ↔ ∀ x, ¬ E x (edK l k).1) → ((r || b) = true ↔ ∃ j, j < k + 1 ∧ ∀ x, ¬ E x (edK l j).1) := by
        intro b hb
        rw [Bool.or_eq_true, hr, hb]
        constructor
        · rintro (⟨j, hj, h⟩ | h)
          · exact ⟨j, by omega, h⟩
          · exact ⟨k, by omega, h⟩
        · rintro ⟨j, hj, h⟩
          rcases Nat.lt_or_ge j k with c | c
          · exact .inl ⟨j, c, h⟩
          · obtain rfl : j = k := by omega
            exact .inr h
      generalize edK l k = y at *
      have hy0 : 0 ≤ y.1 := hs1.1
      have hy1 : y.1 < 4096 := hs1.2
      have hy2 : 0 ≤ y.2 := hs2.1
      have hy3 : y.2 < 4096 := hs2.2
      have hi0 : (0 : Int) ≤ (k : Int) := by omega
      have hi1 : (k : Int) < (N : Int) := by omega
      have hNS : NS w3 wA.heap.size y p own E (some ⟨g1, 0, none⟩) l (wA.alloc (.cells #[.int .i64 y.1, .int .i64 y.2] 52)) :=
        ⟨⟨by rw [cell_of_row _ _ _ _ _ _ (heap_alloc_new _ _)]; rfl, by rw [cell_of_row _ _ _ _ _ _ (heap_alloc_new _ _)]; rfl⟩, by simp, (HX.out.2.1.call hc).call (Chg.alloc _ _ No), (HX.out.2.2.call hc).call (Chg.alloc _ _ No), hc.tr (Chg.alloc _ _ No)⟩
      have Hh1 := hid h1
      clear h1
      go_wp2_with fail
      refine wp_region_noPanic ?_
      refine wp_region_held_drew (S := NS w3 wA.heap.size y p own E (some ⟨g1, 0, none⟩) l) (by kernel_rfl) (hNS.call (chg_drew _)) (fun hHeld => ?_)
      refine takeVal 0 32 (.pointer (some ⟨wA.heap.size, 0, none⟩)) rfl (by kernel_rfl) (by kernel_rfl) (by kernel_rfl) rfl (by rfl) (fun _ _ _ h => h) hHeld (fun _ hw' => by go_simp) ?_
      simp only [List.setIfInBounds_toArray, List.set_cons_zero, List.set_cons_succ]
      refine takeVal 1 33 (.int .i64 y.1) rfl (by kernel_rfl) (by kernel_rfl) (by kernel_rfl) rfl (by rfl) (fun _ _ _ h => h) hHeld (fun _ hw' => by obtain ⟨⟨l1, l2⟩, _⟩ := hw'; go_simp) ?_
      simp only [List.setIfInBounds_toArray, List.set_cons_zero, List.set_cons_succ]
      refine takeVal 2 34 (.bool false) rfl (by kernel_rfl) (by kernel_rfl) (by kernel_rfl) rfl (by rfl) (fun _ _ _ h => h) hHeld (fun _ hw' => by go_simp) ?_
      simp only [List.setIfInBounds_toArray, List.set_cons_zero, List.set_cons_succ]
      refine takeVal 3 35 (.bool false) rfl (by kernel_rfl) (by kernel_rfl) (by kernel_rfl) rfl (by rfl) (fun _ _ _ h => h) hHeld (fun _ hw' => rfl) ?_
      simp only [List.setIfInBounds_toArray, List.set_cons_zero, List.set_cons_succ]
      refine takeVal 4 36 (.pointer (some ⟨wA.heap.size, 0, none⟩)) rfl (by kernel_rfl) (by kernel_rfl) (by kernel_rfl) rfl (by rfl) (fun _ _ _ h => h) hHeld (fun _ hw' => by go_simp) ?_
      simp only [List.setIfInBounds_toArray, List.set_cons_zero, List.set_cons_succ]
      refine takeVal 5 37 (.int .i64 y.1) rfl (by kernel_rfl) (by kernel_rfl) (by kernel_rfl) rfl (by rfl) (fun _ _ _ h => h) hHeld (fun _ hw' => by obtain ⟨⟨l1, l2⟩, _⟩ := hw'; go_simp) ?_
      simp only [List.setIfInBounds_toArray, List.set_cons_zero, List.set_cons_succ]
      refine takeVal 6 38 (.bool false) rfl (by kernel_rfl) (by kernel_rfl) (by kernel_rfl) rfl (by rfl) (fun _ _ _ h => h) hHeld (fun _ hw' => by go_simp) ?_
      simp only [List.setIfInBounds_toArray, List.set_cons_zero, List.set_cons_succ]
      refine takeVal 7 39 (.bool false) rfl (by kernel_rfl) (by kernel_rfl) (by kernel_rfl) rfl (by rfl) (fun _ _ _ h => h) hHeld (fun _ hw' => rfl) ?_
      simp only [List.setIfInBounds_toArray, List.set_cons_zero, List.set_cons_succ]
      refine takeVal 8 40 (.bool false) rfl (by kernel_rfl) (by kernel_rfl) (by kernel_rfl) rfl (by rfl) (fun _ _ _ h => h) hHeld (fun _ hw' => rfl) ?_
      simp only [List.setIfInBounds_toArray, List.set_cons_zero, List.set_cons_succ]
      refine takeVal 9 41 (.pointer (some ⟨wA.heap.size, 1, none⟩)) rfl (by kernel_rfl) (by kernel_rfl) (by kernel_rfl) rfl (by rfl) (fun _ _ _ h => h) hHeld (fun _ hw' => by go_simp) ?_
      simp only [List.setIfInBounds_toArray, List.set_cons_zero, List.set_cons_succ]
      refine takeVal 10 42 (.int .i64 y.2) rfl (by kernel_rfl) (by kernel_rfl) (by kernel_rfl) rfl (by rfl) (fun _ _ _ h => h) hHeld (fun _ hw' => by obtain ⟨⟨l1, l2⟩, _⟩ := hw'; go_simp) ?_
      simp only [List.setIfInBounds_toArray, List.set_cons_zero, List.set_cons_succ]
      refine takeVal 11 43 (.bool false) rfl (by kernel_rfl) (by kernel_rfl) (by kernel_rfl) rfl (by rfl) (fun _ _ _ h => h) hHeld (fun _ hw' => by go_simp) ?_
      simp only [List.setIfInBounds_toArray, List.set_cons_zero, List.set_cons_succ]
      refine takeVal 12 44 (.bool false) rfl (by kernel_rfl) (by kernel_rfl) (by kernel_rfl) rfl (by rfl) (fun _ _ _ h => h) hHeld (fun _ hw' => rfl) ?_
      simp only [List.setIfInBounds_toArray, List.set_cons_zero, List.set_cons_succ]
      refine takeVal 13 45 (.bool false) rfl (by kernel_rfl) (by kernel_rfl) (by kernel_rfl) rfl (by rfl) (fun _ _ _ h => h) hHeld (fun _ hw' => rfl) ?_
      simp only [List.setIfInBounds_toArray, List.set_cons_zero, List.set_cons_succ]
      refine takeVal 14 46 (.pointer (some ⟨wA.heap.size, 1, none⟩)) rfl (by kernel_rfl) (by kernel_rfl) (by kernel_rfl) rfl (by rfl) (fun _ _ _ h => h) hHeld (fun _ hw' => by go_simp) ?_
      simp only [List.setIfInBounds_toArray, List.set_cons_zero, List.set_cons_succ]
      refine takeVal 15 47 (.int .i64 y.2) rfl (by kernel_rfl) (by kernel_rfl) (by kernel_rfl) rfl (by rfl) (fun _ _ _ h => h) hHeld (fun _ hw' => by obtain ⟨⟨l1, l2⟩, _⟩ := hw'; go_simp) ?_
      simp only [List.setIfInBounds_toArray, List.set_cons_zero, List.set_cons_succ]
      refine takeVal 16 48 (.bool false) rfl (by kernel_rfl) (by kernel_rfl) (by kernel_rfl) rfl (by rfl) (fun _ _ _ h => h) hHeld (fun _ hw' => by go_simp) ?_
      simp only [List.setIfInBounds_toArray, List.set_cons_zero, List.set_cons_succ]
      refine takeVal 17 49 (.bool false) rfl (by kernel_rfl) (by kernel_rfl) (by kernel_rfl) rfl (by rfl) (fun _ _ _ h => h) hHeld (fun _ hw' => rfl) ?_
      simp only [List.setIfInBounds_toArray, List.set_cons_zero, List.set_cons_succ]
      refine takeVal 18 50 (.bool false) rfl (by kernel_rfl) (by kernel_rfl) (by kernel_rfl) rfl (by rfl) (fun _ _ _ h => h) hHeld (fun _ hw' => rfl) ?_
      simp only [List.setIfInBounds_toArray, List.set_cons_zero, List.set_cons_succ]
      refine takeVal 19 51 (.slice (some ⟨g1, 0, none⟩) N cl) rfl (by kernel_rfl) (by kernel_rfl) (by kernel_rfl) rfl (by rfl) (fun _ _ _ h => h) hHeld (fun _ hw' => rfl) ?_
      simp only [List.setIfInBounds_toArray, List.set_cons_zero, List.set_cons_succ]
      refine takeVal 20 52 (.pointer (some ⟨wA.heap.size, 0, none⟩)) rfl (by kernel_rfl) (by kernel_rfl) (by kernel_rfl) rfl (by rfl) (fun _ _ _ h => h) hHeld (fun _ hw' => by go_simp) ?_
      simp only [List.setIfInBounds_toArray, List.set_cons_zero, List.set_cons_succ]
      refine takeVal 21 53 (.int .i64 y.1) rfl (by kernel_rfl) (by kernel_rfl) (by kernel_rfl) rfl (by rfl) (fun _ _ _ h => h) hHeld (fun _ hw' => by obtain ⟨⟨l1, l2⟩, _⟩ := hw'; go_simp) ?_
      simp only [List.setIfInBounds_toArray, List.set_cons_zero, List.set_cons_succ]
      refine takeVal 23 55 (.pointer (some ⟨wA.heap.size, 0, none⟩)) rfl (by kernel_rfl) (by kernel_rfl) (by kernel_rfl) rfl (by rfl) (fun _ _ _ h => h) hHeld (fun _ hw' => by go_simp) ?_
      simp only [List.setIfInBounds_toArray, List.set_cons_zero, List.set_cons_succ]
      refine takeVal 24 56 (.int .i64 y.1) rfl (by kernel_rfl) (by kernel_rfl) (by kernel_rfl) rfl (by rfl) (fun _ _ _ h => h) hHeld (fun _ hw' => by obtain ⟨⟨l1, l2⟩, _⟩ := hw'; go_simp) ?_
      simp only [List.setIfInBounds_toArray, List.set_cons_zero, List.set_cons_succ]
      refine step1 22 (by kernel_rfl) ?_
      refine stCall 22 54 25 #[.slice (some ⟨g1, 0, none⟩) N cl, .int .i64 y.1, .bool false] _ rfl rfl (by rfl) (by go_simp) (HW _ _ hHeld.2.2.2.1) ?_
      rintro e w5 ⟨gs, s, rfl, hgs, hbs, hway, c5⟩
      have hHeld := hHeld.call c5
      have hno : s.getD (y.1).toNat false = false := no_way hL hNR hs1 hway
      have hbc := hbs.cell (j := (y.1).toNat) (by omega)
      rw [hno] at hbc
      refine ⟨_, rfl, hHeld, ?_⟩
      refine wpAnyH_more (S' := fun w' => NS w3 wA.heap.size y p own E (some ⟨g1, 0, none⟩) l w' ∧ w'.cell? ⟨gs, (y.1).toNat, none⟩ = some (.bool false)) (fun _ h => h.1) _ _ _ _ ?_
      have hgl := slt hbs.1
      have hHeld := And.intro hHeld hbc
      simp only [List.setIfInBounds_toArray, List.set_cons_zero, List.set_cons_succ]
      refine takeVal 25 57 (.pointer (some ⟨gs, (y.1).toNat, none⟩)) rfl (by kernel_rfl) (by kernel_rfl) (by kernel_rfl) rfl (by rfl) (fun _ _ _ h => h) hHeld (fun _ hw' => by go_simp) ?_
      simp only [List.setIfInBounds_toArray, List.set_cons_zero, List.set_cons_succ]
      refine takeVal 26 58 (.bool false) rfl (by kernel_rfl) (by kernel_rfl) (by kernel_rfl) rfl (by rfl) (fun _ _ _ h => h) hHeld (fun _ hw' => by have l5 := hw'.2; go_simp) ?_
      simp only [List.setIfInBounds_toArray, List.set_cons_zero, List.set_cons_succ]
      refine takeVal 27 59 (.bool false) rfl (by kernel_rfl) (by kernel_rfl) (by kernel_rfl) rfl (by rfl) (fun _ _ _ h => h) hHeld (fun _ hw' => rfl) ?_
      simp only [List.setIfInBounds_toArray, List.set_cons_zero, List.set_cons_succ]
      refine takeVal 28 60 (.bool false) rfl (by kernel_rfl) (by kernel_rfl) (by kernel_rfl) rfl (by rfl) (fun _ _ _ h => h) hHeld (fun _ hw' => rfl) ?_
      simp only [List.setIfInBounds_toArray, List.set_cons_zero, List.set_cons_succ]
      refine takeVal 29 61 (.pointer (some ⟨p, 0, none⟩)) rfl (by kernel_rfl) (by kernel_rfl) (by kernel_rfl) rfl (by rfl) (fun _ _ _ h => h) hHeld (fun _ hw' => rfl) ?_
      simp only [List.setIfInBounds_toArray, List.set_cons_zero, List.set_cons_succ]
      refine takeVal 30 62 (.pointer (some ⟨wA.heap.size, 0, none⟩)) rfl (by kernel_rfl) (by kernel_rfl) (by kernel_rfl) rfl (by rfl) (fun _ _ _ h => h) hHeld (fun _ hw' => by go_simp) ?_
      simp only [List.setIfInBounds_toArray, List.set_cons_zero, List.set_cons_succ]
      refine takeVal 31 63 (.int .i64 y.1) rfl (by kernel_rfl) (by kernel_rfl) (by kernel_rfl) rfl (by rfl) (fun _ _ _ h => h) hHeld (fun _ hw' => by obtain ⟨⟨⟨l1, l2⟩, _⟩, _⟩ := hw'; go_simp) ?_
      simp only [List.setIfInBounds_toArray, List.set_cons_zero, List.set_cons_succ]
      refine takeVal 32 64 (.pointer (some ⟨wA.heap.size, 1, none⟩)) rfl (by kernel_rfl) (by kernel_rfl) (by kernel_rfl) rfl (by rfl) (fun _ _ _ h => h) hHeld (fun _ hw' => by go_simp) ?_
      simp only [List.setIfInBounds_toArray, List.set_cons_zero, List.set_cons_succ]
      refine takeVal 33 65 (.int .i64 y.2) rfl (by kernel_rfl) (by kernel_rfl) (by kernel_rfl) rfl (by rfl) (fun _ _ _ h => h) hHeld (fun _ hw' => by obtain ⟨⟨⟨l1, l2⟩, _⟩, _⟩ := hw'; go_simp) ?_
      simp only [List.setIfInBounds_toArray, List.set_cons_zero, List.set_cons_succ]
      refine step1 34 (by kernel_rfl) ?_
      refine stCall 34 66 26 #[.pointer (some ⟨p, 0, none⟩), .int .i64 y.1, .int .i64 y.2] _ rfl rfl (by rfl) (by go_simp) (reaches_any y.1 y.2 hHeld.1.2.2.1 hs1.i64 hs2.i64) ?_
      rintro e w6 ⟨r6, rfl, q6, c6⟩
      obtain rfl : r6 = true := q6.2 (.inr (.one hEy))
      have hHeld := And.intro (hHeld.1.call c6) (cell_keep hHeld.2 c6 hgl (fun e => e))
      have hgl := Nat.lt_of_lt_of_le hgl c6.size
      refine ⟨_, rfl, hHeld, ?_⟩
      simp only [List.setIfInBounds_toArray, List.set_cons_zero, List.set_cons_succ]
      refine takeVal 35 67 (.bool false) rfl (by kernel_rfl) (by kernel_rfl) (by kernel_rfl) rfl (by rfl) (fun _ _ _ h => h) hHeld (fun _ hw' => by go_simp) ?_
      simp only [List.setIfInBounds_toArray, List.set_cons_zero, List.set_cons_succ]
      refine takeVal 36 68 (.bool false) rfl (by kernel_rfl) (by kernel_rfl) (by kernel_rfl) rfl (by rfl) (fun _ _ _ h => h) hHeld (fun _ hw' => rfl) ?_
      simp only [List.setIfInBounds_toArray, List.set_cons_zero, List.set_cons_succ]
      refine takeVal 37 69 (.bool false) rfl (by kernel_rfl) (by kernel_rfl) (by kernel_rfl) rfl (by rfl) (fun _ _ _ h => h) hHeld (fun _ hw' => rfl) ?_
      simp only [List.setIfInBounds_toArray, List.set_cons_zero, List.set_cons_succ]
      refine takeVal 38 70 (.pointer (some ⟨p, 0, none⟩)) rfl (by kernel_rfl) (by kernel_rfl) (by kernel_rfl) rfl (by rfl) (fun _ _ _ h => h) hHeld (fun _ hw' => rfl) ?_
      simp only [List.setIfInBounds_toArray, List.set_cons_zero, List.set_cons_succ]
      refine takeVal 39 71 (.pointer (some ⟨wA.heap.size, 1, none⟩)) rfl (by kernel_rfl) (by kernel_rfl) (by kernel_rfl) rfl (by rfl) (fun _ _ _ h => h) hHeld (fun _ hw' => by go_simp) ?_
      simp only [List.setIfInBounds_toArray, List.set_cons_zero, List.set_cons_succ]
      refine takeVal 40 72 (.int .i64 y.2) rfl (by kernel_rfl) (by kernel_rfl) (by kernel_rfl) rfl (by rfl) (fun _ _ _ h => h) hHeld (fun _ hw' => by obtain ⟨⟨⟨l1, l2⟩, _⟩, _⟩ := hw'; go_simp) ?_
      simp only [List.setIfInBounds_toArray, List.set_cons_zero, List.set_cons_succ]
      refine takeVal 41 73 (.pointer (some ⟨wA.heap.size, 0, none⟩)) rfl (by kernel_rfl) (by kernel_rfl) (by kernel_rfl) rfl (by rfl) (fun _ _ _ h => h) hHeld (fun _ hw' => by go_simp) ?_
      simp only [List.setIfInBounds_toArray, List.set_cons_zero, List.set_cons_succ]
      refine takeVal 42 74 (.int .i64 y.1) rfl (by kernel_rfl) (by kernel_rfl) (by kernel_rfl) rfl (by rfl) (fun _ _ _ h => h) hHeld (fun _ hw' => by obtain ⟨⟨⟨l1, l2⟩, _⟩, _⟩ := hw'; go_simp) ?_
      simp only [List.setIfInBounds_toArray, List.set_cons_zero, List.set_cons_succ]
      refine step1 43 (by kernel_rfl) ?_
      refine stCall 43 75 26 #[.pointer (some ⟨p, 0, none⟩), .int .i64 y.2, .int .i64 y.1] _ rfl rfl (by rfl) (by go_simp) (reaches_any y.2 y.1 hHeld.1.2.2.1 hs2.i64 hs1.i64) ?_
      rintro e w7 ⟨r7, rfl, q7, c7⟩
      obtain rfl : r7 = false := no_back hNR hEy q7
      have hHeld := And.intro (hHeld.1.call c7) (cell_keep hHeld.2 c7 hgl (fun e => e))
      refine ⟨_, rfl, hHeld, ?_⟩
      simp only [List.setIfInBounds_toArray, List.set_cons_zero, List.set_cons_succ]
      refine takeVal 44 76 (.bool false) rfl (by kernel_rfl) (by kernel_rfl) (by kernel_rfl) rfl (by rfl) (fun _ _ _ h => h) hHeld (fun _ hw' => rfl) ?_
      simp only [List.setIfInBounds_toArray, List.set_cons_zero, List.set_cons_succ]
      refine wpAnyH_done (by kernel_rfl) ?_ _
      refine NoPanic.normal ?_
      obtain ⟨⟨⟨l1, l2⟩, hgx, hG7, hA7, C7⟩, _⟩ := hHeld
      have HF := free_any y.1 hG7 hs1.i64
      clear hA7 hG7
      cases r with
      | true =>
        go_wp2_with fail
        go_roundw
        case rel => exact ⟨k + 1, true, _, rfl, by omega, rfl, by go_num, ⟨fun _ => let ⟨j, h1, h2⟩ := hr.1 rfl; ⟨j, by omega, h2⟩, fun _ => rfl⟩, C7⟩
        case measure => simp [intOf]; omega
      | false =>
        go_wp2_with (first
          | (go_at_call 27; go_must (refine HF.mono ?_; rintro e w8 ⟨r8, rfl, q8, rfl⟩))
          | fail)
        go_roundw
        case rel => exact ⟨k + 1, r8, _, rfl, by omega, rfl, by go_num, by have := hstep r8 q8; simpa using this, C7⟩
        case measure => simp [intOf]; omega
    · obtain rfl : k = N := by omega
      have hfin : k = 0 ∨ r = true := by
        rcases Nat.eq_zero_or_pos k with h0 | h0
        · exact .inl h0
        · refine .inr (hr.2 ?_)
          have hE0 : E (edK l 0).1 (edK l 0).2 := (hL.2 _).1 (edK_mem (by omega))
          obtain ⟨c, d, hcd, hfree, _⟩ := free_one hNR hSec hE0
          obtain ⟨j, hj, e⟩ := edK_of_mem ((hL.2 (c, d)).2 hcd)
          exact ⟨j, by omega, by rw [e]; exact hfree⟩
      cases r with
      | true =>
        clear hfin
        go_wp2_with fail
        go_ret
        exact ⟨rfl, (HX.out.1.tr hc).below⟩
      | false =>
        obtain rfl : k = 0 := hfin.elim (fun e => e) (fun e => by cases e)
        have hl0 := lenE0
        go_wp2_with fail
        go_ret
        exact ⟨rfl, (HX.out.1.tr hc).below⟩

end Go.Proofs.Ytjnafcogdakbbaa
