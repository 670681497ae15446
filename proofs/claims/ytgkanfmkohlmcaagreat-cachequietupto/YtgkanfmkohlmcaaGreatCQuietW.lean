/-
  CacheQuiet returns true: the walk.
-/
import Derived.Test.YtgkanfmkohlmcaaGreatCQ2
import Derived.Deep.CutRange
import Derived.Deep.DeepCutAuto
namespace Go.Proofs.YtgkanfmkohlmcaaGreat
open Go.RowKit

theorem lat_cells1 (w : World) (x : Int) : LAt (w.alloc (.cells #[.int .i64 x] 3)) (some ⟨w.heap.size, 0, none⟩) [x] := lat_one w x
theorem lat_cells2 (w : World) (x y : Int) : LAt (w.alloc (.cells #[.int .i64 x, .int .i64 y] 3)) (some ⟨w.heap.size, 0, none⟩) [x, y] :=
  .inr ⟨_, rfl, by simp, fun k hk => by
    have : k = 0 ∨ k = 1 := by simp at hk; omega
    rw [cell_of_row _ _ _ _ _ _ (heap_alloc_new _ _)]
    rcases this with rfl | rfl <;> rfl⟩
theorem one64 {x : Int} (h : I64 x) : ∀ k, k < [x].length → I64 ([x].getD k 0) := by
  intro k hk
  have : k = 0 := by simpa using hk
  subst this
  exact h
theorem two64 {x y : Int} (h : I64 x) (h2 : I64 y) : ∀ k, k < [x, y].length → I64 ([x, y].getD k 0) := by
  intro k hk
  have : k = 0 ∨ k = 1 := by simp at hk; omega
  rcases this with rfl | rfl
  · exact h
  · exact h2
theorem wrap_I64q (x : Int) : I64 (wrap64 x) := by
  unfold I64 wrap64
  omega
theorem four_cell {w : World} {bB : Nat} {a b c d : Int} (h : w.heap[bB]? = some (.cells #[.int .i64 a, .int .i64 b, .int .i64 c, .int .i64 d] 3 (0, 0))) {k : Nat} (hk : k < 4) : w.cell? ⟨bB, k, none⟩ = some (.int .i64 ([a, b, c, d].getD k 0)) := by
  rw [cell_of_row _ _ _ _ _ _ h]
  have : k = 0 ∨ k = 1 ∨ k = 2 ∨ k = 3 := by omega
  rcases this with rfl | rfl | rfl | rfl <;> rfl
theorem four_64 {a b c d : Int} (ha : I64 a) (hb : I64 b) (hc : I64 c) (hd : I64 d) (k : Nat) : I64 ([a, b, c, d].getD k 0) := by
  match k with
  | 0 => exact ha
  | 1 => exact hb
  | 2 => exact hc
  | 3 => exact hd
  | k + 4 => exact ⟨by simp, by simp⟩

theorem up_eqQ {α : Type} {R : α → α → Prop} (hi : ∀ a, ¬ R a a) (ht : ∀ a b, R a b → ¬ R b a) : ∀ (l m : List α), l.Pairwise R → m.Pairwise R → (∀ x, x ∈ l ↔ x ∈ m) → l = m
  | [], [], _, _, _ => rfl
  | [], y :: m, _, _, h => absurd ((h y).2 (by simp)) (by simp)
  | x :: l, [], _, _, h => absurd ((h x).1 (by simp)) (by simp)
  | x :: l, y :: m, hl, hm, h => by
    obtain ⟨l1, l2⟩ := List.pairwise_cons.1 hl
    obtain ⟨m1, m2⟩ := List.pairwise_cons.1 hm
    have e : x = y := by
      rcases List.mem_cons.1 ((h x).1 (by simp)) with e | e
      · exact e
      · rcases List.mem_cons.1 ((h y).2 (by simp)) with k | k
        · exact k.symm
        · exact absurd (l1 y k) (ht y x (m1 x e))
    subst e
    congr 1
    refine up_eqQ hi ht l m l2 m2 fun z => ?_
    constructor
    · intro hz
      rcases List.mem_cons.1 ((h z).1 (by simp [hz])) with e | e
      · subst e; exact absurd (l1 z hz) (hi z)
      · exact e
    · intro hz
      rcases List.mem_cons.1 ((h z).2 (by simp [hz])) with e | e
      · subst e; exact absurd (m1 z hz) (hi z)
      · exact e
theorem elist_oneQ {E : Int → Int → Prop} {l m : List (Int × Int)} (h : EList E l) (k : EList E m) : l = m :=
  up_eqQ (R := ltE) (fun a => by unfold ltE; omega) (fun a b h => by unfold ltE at *; omega) l m h.1 k.1 fun x => (h.2 x).trans (k.2 x).symm
theorem bytes_rowQ {w : World} {q : Nat} {S : List Int} (h : w.heap[q]? = some (.cells (D.SA S) 46 (0, 0))) : D.BytesAt w (some ⟨q, 0, none⟩) S := .inr ⟨q, 0, rfl, slt h, fun j hj => by rw [Nat.zero_add]; exact D.sec_cell h j hj⟩
section
variable {w0 w1 w w' : World} {n t c p g lb db t2 x2 p2 g2 lb2 db2 : Nat} {s s2 : TSt}
theorem Duo.dirtyL (h : Duo w0 w n t c p g lb db t2 x2 p2 g2 lb2 db2 s s2) : Calls Tryz.prog 11 #[.pointer (some ⟨c, 0, none⟩)] w fun e w' => ∃ va vc, e = .returned (.slice va (secs s.z.dirty).length vc) ∧ LAt w' va (secs s.z.dirty) ∧ Chg w w' No := by
  obtain ⟨ρ, ov, ρ2, ov2, a, b, d1, d2⟩ := h
  refine (dirty_any a.ca).mono ?_
  rintro e w' ⟨v, rfl, hI, hc⟩
  obtain ⟨va, vc, rfl, h1, _⟩ := hI.lat
  exact ⟨va, vc, rfl, h1, hc⟩
theorem Duo.slen (h : Duo w0 w n t c p g lb db t2 x2 p2 g2 lb2 db2 s s2) : s.z.d.S.length = 128 * n := by
  obtain ⟨ρ, ov, ρ2, ov2, a, b, d1, d2⟩ := h
  obtain ⟨_, _, _, _, _, hc⟩ := a.ca
  exact hc.dk.len
end

set_option maxRecDepth 100000 in
set_option maxHeartbeats 20000000 in
theorem quiet_walk (x0 : Int) (hx0 : I64 x0) (l : List SV) (ad : Option Addr) (cap : Nat) (l2 : List SV) (ad2 : Option Addr) (cap2 : Nat) (w : World) (hs : ScAt w ad l) (hl : l.length ≤ 1048576) (hok : ∀ j, j < l.length → (l.getD j SV.z).OK) (hs2 : ScAt w ad2 l2) (hl2 : l2.length ≤ 1048576) (hok2 : ∀ j, j < l2.length → (l2.getD j SV.z).OK) :
    Calls Tryz.prog 4 #[.int .i64 x0, .slice ad l.length cap, .slice ad2 l2.length cap2] w fun e w' => e = .returned (.bool true) ∧ Chg w w' No := by
  have hb := D.pickN_bd x0 (n := 25) (by omega)
  obtain ⟨n, hn⟩ : ∃ n : Nat, 8 + D.pickN x0 25 = (n : Int) := ⟨(8 + D.pickN x0 25).toNat, by omega⟩
  have hn8 : 8 ≤ n := by omega
  have hn4 : n ≤ 4096 := by omega
  have HST := story_any x0 hx0 l ad cap w hs hl hok n hn
  have HSA := hid (fun (X : World) (hX : Chg w X No) => story_any x0 hx0 l ad cap X (hs.call hX) hl hok n hn)
  have HS2 := hid hs2
  have HOK2 := hid hok2
  generalize hm : l.length = m at *
  generalize hm2 : l2.length = m2 at *
  have HM2 := hid hm2
  have HLM := hid hm
  have HML : Hid (m ≤ 1048576) := hid hl
  clear hn hb hs hok hs2 hok2 hx0 hm hm2 hl
  go_enter Tryz.func4, Tryz.ntmps4
  go_upto_region 2 with (first
    | (go_at_call 5; go_must (refine HST.mono ?_; rintro e w1 ⟨t, c, p, g, s, rfl, hF1, hK, har, hnx, hwr, hod, hsF⟩; have HF1 := hid hF1; have HK := hid (And.intro hK (And.intro har hwr)); have HSF := hid hsF; have HSB := HSA.out w1 hF1.chg; clear HST hF1 hK har hnx hwr hod hsF))
    | fail)
  go_upto_region 5 with (first
    | (go_at_call 5; go_must (refine HSB.mono ?_; rintro e w2 ⟨t2, x2, p2, g2, s2, rfl, hF2, hK2, har2, hnx2, hwr2, hod2, hsF2⟩; have HF2 := hid hF2; have HSF2 := hid hsF2; have HKN := known_any w2; clear HSB hF2 hK2 har2 hnx2 hwr2 hod2 hsF2))
    | (go_at_call 6; go_must (refine HKN.mono ?_; rintro e w3 ⟨rfl, hc3⟩; have HF3 := hid (HF2.out.call hc3); clear HKN hc3))
    | fail)
  obtain ⟨lb, db, lb2, db2, hDu⟩ := duo_of HF1.out HF3.out
  have hss : s2 = s := HSF2.out.trans HSF.out.symm
  subst hss
  have HD3 := hid hDu
  have HQ3 := hid (QI.of HK.out.1 HK.out.2.1)
  have HW3 : Hid (s2.z.d.wr ≤ 5000 * m) := hid (by rw [← HLM.out]; exact HK.out.2.2)
  have q2 := hDu.q2
  clear hDu HF1 HF2 HF3 HSF HSF2 HK HSA
  go_upto_region 7 with fail
  clear q2
  go_loopw [10] (fun i wq => ∃ (k : Nat) (z : CSt), k ≤ m2 ∧ k ≤ 30 ∧ i = .int .i64 k ∧ Hid (Duo w wq n t c p g lb db t2 x2 p2 g2 lb2 db2 { s2 with z := z } { s2 with z := z }) ∧ Hid (QI n z) ∧ Hid (z.d.wr ≤ 5000 * m)) (fun i _ => m2 - (intOf i).toNat)
  case atStart => exact ⟨0, s2.z, by omega, by omega, rfl, HD3, HQ3, HW3⟩
  case round =>
    clear HD3 HQ3 HW3
    obtain ⟨k, z, hk, hk30, rfl, HD, HQ, HW⟩ := hrel
    by_cases hlt : k < m2
    · have i1 : (k : Int) < (m2 : Int) := by omega
      by_cases h30 : k < 30
      · have i0 : (0 : Int) ≤ (k : Int) := by omega
        have i2 : (k : Int) < 30 := by omega
        rcases HS2.out with h0 | ⟨b, o, rfl, hbl, hsc⟩
        · have := HM2.out; rw [h0] at this; simp at this; omega
        obtain ⟨af, caf, hra, _⟩ := hsc k (by rw [HM2.out]; exact hlt)
        have hokx := HOK2.out k hlt
        generalize l2.getD k SV.z = x at hra hokx
        have CK : Hid (∀ X, Chg w X No → X.cell? ⟨b, o + k * 5, none⟩ = some (.int .i64 x.kind)) := hid (fun X hX => cell_keep (hra 0 _ rfl) hX hbl (fun e => e))
        have CN : Hid (∀ X, Chg w X No → X.cell? ⟨b, o + k * 5 + 1, none⟩ = some (.int .i64 x.N)) := hid (fun X hX => cell_keep (hra 1 _ rfl) hX hbl (fun e => e))
        have HIN := hid hokx.n
        have HIK := hid hokx.k
        have hPb := D.pickN_bd x.N (n := 1000) (by omega)
        obtain ⟨P1, hP1⟩ : ∃ P : Nat, D.pickN x.N 1000 = (P : Int) := ⟨(D.pickN x.N 1000).toNat, by omega⟩
        have HP1 := hid (fun w => D.pick_any x.N 1000 w HIN.out (by omega) (by omega))
        rw [hP1] at HP1 hPb
        have hP1b : P1 < 1000 := by omega
        clear hP1 hPb hokx hra hsc hbl
        go_upto_region 9 with fail
        refine wp_region_noPanic ?_
        refine wp_region_held_drew (S := fun w' => Chg w w' No) (by kernel_rfl) (HD.out.ch.tr (Chg.refl _ No).drew) (fun hHeld => ?_)
        refine takeVal 0 53 (.int .i64 (n : Int)) rfl (by kernel_rfl) (by kernel_rfl) (by kernel_rfl) rfl (by rfl) (fun _ _ _ h => h) hHeld (fun W' hw' => rfl) ?_
        simp only [List.setIfInBounds_toArray, List.set_cons_zero, List.set_cons_succ]
        refine takeVal 1 54 (.slice (some ⟨b, o, none⟩) m2 cap2) rfl (by kernel_rfl) (by kernel_rfl) (by kernel_rfl) rfl (by rfl) (fun _ _ _ h => h) hHeld (fun W' hw' => rfl) ?_
        simp only [List.setIfInBounds_toArray, List.set_cons_zero, List.set_cons_succ]
        refine takeVal 2 55 (.int .i64 (k : Int)) rfl (by kernel_rfl) (by kernel_rfl) (by kernel_rfl) rfl (by rfl) (fun _ _ _ h => h) hHeld (fun W' hw' => rfl) ?_
        simp only [List.setIfInBounds_toArray, List.set_cons_zero, List.set_cons_succ]
        refine takeVal 3 56 (.pointer (some ⟨b, o + k * 5, none⟩)) rfl (by kernel_rfl) (by kernel_rfl) (by kernel_rfl) rfl (by rfl) (fun _ _ _ h => h) hHeld (fun W' hw' => by go_simp) ?_
        simp only [List.setIfInBounds_toArray, List.set_cons_zero, List.set_cons_succ]
        refine takeVal 4 57 (.pointer (some ⟨b, o + k * 5 + 1, none⟩)) rfl (by kernel_rfl) (by kernel_rfl) (by kernel_rfl) rfl (by rfl) (fun _ _ _ h => h) hHeld (fun W' hw' => by go_simp) ?_
        simp only [List.setIfInBounds_toArray, List.set_cons_zero, List.set_cons_succ]
        refine takeVal 5 58 (.int .i64 x.N) rfl (by kernel_rfl) (by kernel_rfl) (by kernel_rfl) rfl (by rfl) (fun _ _ _ h => h) hHeld (fun W' hw' => by have hc := CN.out W' hw'; go_simp) ?_
        simp only [List.setIfInBounds_toArray, List.set_cons_zero, List.set_cons_succ]
        refine takeVal 6 59 (.int .i64 (IntKind.i64.wrap (x.N * 4096))) rfl (by kernel_rfl) (by kernel_rfl) (by kernel_rfl) rfl (by rfl) (fun _ _ _ h => h) hHeld (fun W' hw' => by go_simp) ?_
        simp only [List.setIfInBounds_toArray, List.set_cons_zero, List.set_cons_succ]
        refine takeVal 7 60 (.int .i64 (n : Int)) rfl (by kernel_rfl) (by kernel_rfl) (by kernel_rfl) rfl (by rfl) (fun _ _ _ h => h) hHeld (fun W' hw' => rfl) ?_
        simp only [List.setIfInBounds_toArray, List.set_cons_zero, List.set_cons_succ]
        refine takeVal 8 61 (.int .i64 (IntKind.i64.wrap (IntKind.i64.wrap (x.N * 4096) + (n : Int)))) rfl (by kernel_rfl) (by kernel_rfl) (by kernel_rfl) rfl (by rfl) (fun _ _ _ h => h) hHeld (fun W' hw' => by go_simp) ?_
        simp only [List.setIfInBounds_toArray, List.set_cons_zero, List.set_cons_succ]
        refine takeVal 9 62 (.slice (some ⟨b, o, none⟩) m2 cap2) rfl (by kernel_rfl) (by kernel_rfl) (by kernel_rfl) rfl (by rfl) (fun _ _ _ h => h) hHeld (fun W' hw' => rfl) ?_
        simp only [List.setIfInBounds_toArray, List.set_cons_zero, List.set_cons_succ]
        refine takeVal 10 63 (.int .i64 (k : Int)) rfl (by kernel_rfl) (by kernel_rfl) (by kernel_rfl) rfl (by rfl) (fun _ _ _ h => h) hHeld (fun W' hw' => rfl) ?_
        simp only [List.setIfInBounds_toArray, List.set_cons_zero, List.set_cons_succ]
        refine takeVal 11 64 (.pointer (some ⟨b, o + k * 5, none⟩)) rfl (by kernel_rfl) (by kernel_rfl) (by kernel_rfl) rfl (by rfl) (fun _ _ _ h => h) hHeld (fun W' hw' => by go_simp) ?_
        simp only [List.setIfInBounds_toArray, List.set_cons_zero, List.set_cons_succ]
        refine takeVal 12 65 (.pointer (some ⟨b, o + k * 5 + 1, none⟩)) rfl (by kernel_rfl) (by kernel_rfl) (by kernel_rfl) rfl (by rfl) (fun _ _ _ h => h) hHeld (fun W' hw' => by go_simp) ?_
        simp only [List.setIfInBounds_toArray, List.set_cons_zero, List.set_cons_succ]
        refine takeVal 13 66 (.int .i64 x.N) rfl (by kernel_rfl) (by kernel_rfl) (by kernel_rfl) rfl (by rfl) (fun _ _ _ h => h) hHeld (fun W' hw' => by have hc := CN.out W' hw'; go_simp) ?_
        simp only [List.setIfInBounds_toArray, List.set_cons_zero, List.set_cons_succ]
        refine step1 14 (by kernel_rfl) ?_
        refine stCall 14 67 8 #[.int .i64 x.N, .int .i64 1000] _ rfl rfl (by rfl) (by go_simp) (HP1.out _) ?_
        rintro e w6 ⟨rfl, ew6⟩
        subst ew6
        refine ⟨_, rfl, hHeld, ?_⟩
        simp only [List.setIfInBounds_toArray, List.set_cons_zero, List.set_cons_succ]
        refine takeVal 15 68 (.int .i64 (-1 - (P1 : Int))) rfl (by kernel_rfl) (by kernel_rfl) (by kernel_rfl) rfl (by rfl) (fun _ _ _ h => h) hHeld (fun W' hw' => by go_simp; rw [IntKind.wrap_i64]; omega) ?_
        simp only [List.setIfInBounds_toArray, List.set_cons_zero, List.set_cons_succ]
        obtain ⟨B2, hB2⟩ : ∃ y, y = IntKind.i64.wrap (IntKind.i64.wrap (x.N * 4096) + (n : Int)) := ⟨_, rfl⟩
        have HB2 : Hid (I64 B2) := hid (by rw [hB2, IntKind.wrap_i64]; unfold I64; omega)
        rw [← hB2]
        clear hB2
        refine step1 16 (by kernel_rfl) ?_
        refine stNew 16 69 (.slice (some ⟨wr.drew.heap.size, 0, none⟩) 4 4) (.cells #[.int .i64 (-1), .int .i64 (n : Int), .int .i64 B2, .int .i64 (-1 - (P1 : Int))] 3) rfl rfl (by rfl) (by go_simp) ⟨hHeld.tr (Chg.alloc _ _ _), ?_⟩
        simp only [List.setIfInBounds_toArray, List.set_cons_zero, List.set_cons_succ]
        have hS6 := hHeld.tr (Chg.alloc wr.drew (.cells #[.int .i64 (-1), .int .i64 (n : Int), .int .i64 B2, .int .i64 (-1 - (P1 : Int))] 3) No)
        refine takeVal 17 11 (.slice (some ⟨wr.drew.heap.size, 0, none⟩) 4 4) rfl (by kernel_rfl) (by kernel_rfl) (by kernel_rfl) rfl (by rfl) (fun _ _ _ h => h) hS6 (fun W' hw' => rfl) ?_
        simp only [List.setIfInBounds_toArray, List.set_cons_zero, List.set_cons_succ]
        refine wpAnyH_done (by kernel_rfl) ?_ _
        refine NoPanic.normal ?_
        have D6 := hid (HD.out.call ((Chg.refl wr No).drew.tr (Chg.alloc wr.drew (.cells #[.int .i64 (-1), .int .i64 (n : Int), .int .i64 B2, .int .i64 (-1 - (P1 : Int))] 3) No)))
        have CB := hid (heap_alloc_new wr.drew (.cells #[.int .i64 (-1), .int .i64 (n : Int), .int .i64 B2, .int .i64 (-1 - (P1 : Int))] 3))
        obtain ⟨w6, hw6⟩ : ∃ y, y = wr.drew.alloc (.cells #[.int .i64 (-1), .int .i64 (n : Int), .int .i64 B2, .int .i64 (-1 - (P1 : Int))] 3) := ⟨_, rfl⟩
        rw [← hw6] at D6 CB
        rw [← hw6]
        obtain ⟨bB, hbB⟩ : ∃ y, y = wr.drew.heap.size := ⟨_, rfl⟩
        rw [← hbB] at CB
        rw [← hbB]
        clear hw6 hbB hS6 hHeld HD HP1
        have hPb := D.pickN_bd x.kind (n := 4) (by omega)
        obtain ⟨P2, hP2⟩ : ∃ P : Nat, D.pickN x.kind 4 = (P : Int) := ⟨(D.pickN x.kind 4).toNat, by omega⟩
        have HP2 := hid (fun w => D.pick_any x.kind 4 w HIK.out (by omega) (by omega))
        rw [hP2] at HP2 hPb
        have hP2b : P2 < 4 := by omega
        clear hP2 hPb
        have hcB := four_cell CB.out hP2b
        have hI0 := four_64 (a := -1) (b := (n : Int)) (c := B2) (d := -1 - (P1 : Int)) ⟨by omega, by omega⟩ ⟨by omega, by omega⟩ HB2.out ⟨by omega, by omega⟩ P2
        generalize ([-1, (n : Int), B2, -1 - (P1 : Int)] : List Int).getD P2 0 = B0 at hcB hI0
        have HI0 := hid hI0
        have hck := CK.out _ D6.out.ch
        have p0 : (0 : Int) ≤ (P2 : Int) := by omega
        have p1 : (P2 : Int) < 4 := by omega
        clear hI0
        go_upto_region 11 with (first
          | (go_at_call 8; go_must (refine (HP2.out _).mono ?_; rintro e wp ⟨rfl, ewp⟩; subst ewp))
          | fail)
        clear hcB hck p0 p1 HP2
        obtain ⟨w7, hw7⟩ : ∃ y, y = wp := ⟨_, rfl⟩
        subst hw7
        go_cut [85] (fun v wc => v = .bool (decide (0 ≤ B0 ∧ B0 < (n : Int))) ∧ wc = w7)
        case first =>
          as_aux_lemma =>
            by_cases h0 : 0 ≤ B0
            · by_cases h1 : B0 < n
              · go_wp2_with fail
                go_meet
                case rel => exact ⟨by rw [decide_eq_true (show 0 ≤ B0 ∧ B0 < (n : Int) by omega)], rfl⟩
              · go_wp2_with fail
                go_meet
                case rel => exact ⟨by rw [decide_eq_false (show ¬ (0 ≤ B0 ∧ B0 < (n : Int)) by omega)], rfl⟩
            · go_wp2_with fail
              go_meet
              case rel => exact ⟨by rw [decide_eq_false (show ¬ (0 ≤ B0 ∧ B0 < (n : Int)) by omega)], rfl⟩
        case rest =>
         as_aux_lemma =>
           obtain ⟨rfl, hwc⟩ := hcut
           subst hwc
           obtain ⟨w8, hw8⟩ : ∃ y, y = wc := ⟨_, rfl⟩
           rw [← hw8] at D6 CB
           rw [← hw8]
           clear hw8
           go_upto_if 85 with fail
           go_cut [12] (fun v wc => ∃ B : Int, v = .int .i64 B ∧ Hid (I64 B) ∧ Hid (¬ (0 ≤ B ∧ B < n)) ∧ wc = w8)
           case first =>
            as_aux_lemma =>
              by_cases hd : 0 ≤ B0 ∧ B0 < (n : Int)
              · rw [decide_eq_true hd]
                go_wp2_with fail
                go_meet
                case rel => exact ⟨(n : Int), rfl, hid ⟨by omega, by omega⟩, hid (by omega), rfl⟩
              · rw [decide_eq_false hd]
                go_wp2_with fail
                go_meet
                case rel => exact ⟨B0, rfl, HI0, hid hd, rfl⟩
           case rest =>
            as_aux_lemma =>
              obtain ⟨B, rfl, HIB, HB, hwc⟩ := hcut
              subst hwc
              obtain ⟨w9, hw9⟩ : ∃ y, y = wc := ⟨_, rfl⟩
              rw [← hw9] at D6
              rw [← hw9]
              clear hw9 CB
              have hKb := D.pickN_bd x.N (n := (n : Int)) (by omega)
              obtain ⟨K, hK⟩ : ∃ K : Nat, D.pickN x.N n = (K : Int) := ⟨(D.pickN x.N n).toNat, by omega⟩
              have HPK := hid (fun w => D.pick_any x.N n w HIN.out (by omega) (by omega))
              rw [hK] at HPK hKb
              have hKn : K < n := by omega
              have k0 : (0 : Int) ≤ (K : Int) := by omega
              have k1 : (K : Int) < (n : Int) := by omega
              clear hK hKb
              have hcn := CN.out _ D6.out.ch
              have hzs := D.zero_sec
              have HTB := hid HQ.out.tb
              have HWB : Hid (z.d.wr < 4611686018427380000) := hid (by have := HW.out; have := HML.out; omega)
              go_upto_region 14 with (first
                | (go_at_call 8; go_must (refine (HPK.out _).mono ?_; rintro e wp ⟨rfl, ewp⟩; subst ewp))
                | fail)
              clear hcn HPK
              have q1 := D6.out.q1
              go_upto_region 15 with (first
                | (go_at_call 15; go_must (refine (D6.out.readB B HB.out).mono ?_; rintro e wa ⟨rfl, hDa⟩; have Da := hid hDa; have HQa := hid (heap_alloc_new wa (.cells (D.SA D.Zs) 46)); clear hDa))
                | (refine D.store_sec rfl _ _ rfl wa.heap.size rfl D.Zs rfl D.Zs_len D.Zs D.Zs_len HQa.out ?_; intro wb hwb; have Db := hid (Da.out.call ((Chg.alloc wa (.cells (D.SA D.Zs) 46) No).trans (wrote_chg hwb) (c := No) (fun _ _ e => e) (fun j hj e => by omega))); clear hwb)
                | fail)
              clear q1 D6 Da HQa
              have q1 := Db.out.q1
              go_upto_region 16 with (first
                | (go_at_call 16; go_must (refine (Db.out.standB B HB.out).mono ?_; rintro e wc ⟨rfl, hDa⟩; have Dc := hid hDa; have HQa := hid (heap_alloc_new wc (.cells (D.SA D.Zs) 46)); clear hDa))
                | (refine D.store_sec rfl _ _ rfl wc.heap.size rfl D.Zs rfl D.Zs_len D.Zs D.Zs_len HQa.out ?_; intro wd hwb; have Dd := hid (Dc.out.call ((Chg.alloc wc (.cells (D.SA D.Zs) 46) No).trans (wrote_chg hwb) (c := No) (fun _ _ e => e) (fun j hj e => by omega))); clear hwb)
                | fail)
              clear q1 Db Dc HQa hzs
              have q1 := Dd.out.q1
              go_upto_region 17 with (first
                | (go_at_call 14; go_must (refine (Dd.out.flushB B HIB.out HB.out HTB.out HWB.out).mono ?_; rintro e we ⟨rfl, hDa⟩; have De := hid hDa; clear hDa))
                | fail)
              clear q1 Dd
              go_cut [20] (fun v wc => v = .int .i64 40 ∧ Hid (Duo w wc n t c p g lb db t2 x2 p2 g2 lb2 db2 { s2 with z := z } { s2 with z := z }))
              case first =>
                as_aux_lemma =>
                  refine wp_region_noPanic ?_
                  refine wp_region_held_drew (S := fun w' => w'.cell? ⟨t, 1, none⟩ = some (.pointer (some ⟨c, 0, none⟩))) (by kernel_rfl) De.out.q1 (fun hHeld => ?_)
                  refine takeVal 0 121 (.pointer (some ⟨t, 0, none⟩)) rfl (by kernel_rfl) (by kernel_rfl) (by kernel_rfl) rfl (by rfl) (fun _ _ _ h => h) hHeld (fun W' hw' => rfl) ?_
                  simp only [List.setIfInBounds_toArray, List.set_cons_zero, List.set_cons_succ]
                  refine takeVal 1 122 (.pointer (some ⟨t, 0, none⟩)) rfl (by kernel_rfl) (by kernel_rfl) (by kernel_rfl) rfl (by rfl) (fun _ _ _ h => h) hHeld (fun W' hw' => by go_simp) ?_
                  simp only [List.setIfInBounds_toArray, List.set_cons_zero, List.set_cons_succ]
                  refine takeVal 2 123 (.pointer (some ⟨t, 1, none⟩)) rfl (by kernel_rfl) (by kernel_rfl) (by kernel_rfl) rfl (by rfl) (fun _ _ _ h => h) hHeld (fun W' hw' => by go_simp) ?_
                  simp only [List.setIfInBounds_toArray, List.set_cons_zero, List.set_cons_succ]
                  refine takeVal 3 124 (.pointer (some ⟨c, 0, none⟩)) rfl (by kernel_rfl) (by kernel_rfl) (by kernel_rfl) rfl (by rfl) (fun _ _ _ h => h) hHeld (fun W' hw' => by have hc := hw'; go_simp) ?_
                  simp only [List.setIfInBounds_toArray, List.set_cons_zero, List.set_cons_succ]
                  refine takeVal 4 125 (.int .i64 (B : Int)) rfl (by kernel_rfl) (by kernel_rfl) (by kernel_rfl) rfl (by rfl) (fun _ _ _ h => h) hHeld (fun W' hw' => rfl) ?_
                  simp only [List.setIfInBounds_toArray, List.set_cons_zero, List.set_cons_succ]
                  refine takeVal 6 127 (.int .i64 (K : Int)) rfl (by kernel_rfl) (by kernel_rfl) (by kernel_rfl) rfl (by rfl) (fun _ _ _ h => h) hHeld (fun W' hw' => rfl) ?_
                  simp only [List.setIfInBounds_toArray, List.set_cons_zero, List.set_cons_succ]
                  have D0 := De.out.call (Chg.refl we No).drew
                  refine step2 5 7 (by kernel_rfl) ?_ ?_
                  · refine stCall 5 126 18 #[.int .u8 9] _ rfl rfl (by rfl) (by go_simp) (full_any 9 _) ?_
                    rintro e wf ⟨rfl, cf⟩
                    have D1 := D0.call cf
                    refine ⟨_, rfl, D1.q1, ?_⟩
                    simp only [List.setIfInBounds_toArray, List.set_cons_zero, List.set_cons_succ]
                    refine step1 7 (by kernel_rfl) ?_
                    have DB := D1.beside (Chg.alloc wf (.cells #[.int .i64 (K : Int)] 3) No)
                    refine stNew 7 128 (.slice (some ⟨wf.heap.size, 0, none⟩) 1 1) (.cells #[.int .i64 (K : Int)] 3) rfl rfl (by rfl) (by go_simp) ⟨DB.duo.q1, ?_⟩
                    simp only [List.setIfInBounds_toArray, List.set_cons_zero, List.set_cons_succ]
                    refine step1 8 (by kernel_rfl) ?_
                    refine stCall 8 129 17 #[.pointer (some ⟨c, 0, none⟩), .int .i64 (B : Int), .agg (D.SA (fullS 9)), .slice (some ⟨wf.heap.size, 0, none⟩) 1 1] _ rfl rfl (by rfl) (by go_simp) (DuoB.putB (B : Int) (fullS 9) [(K : Int)] 1 DB (fullS_len 9) HIB.out (lat_cells1 _ _) (by simp) (by simp) (one64 ⟨by omega, by omega⟩) ⟨0, by simp, HB.out⟩ HTB.out HWB.out) ?_
                    rintro e wz ⟨rfl, hDz⟩
                    refine ⟨_, rfl, hDz.q1, ?_⟩
                    simp only [List.setIfInBounds_toArray, List.set_cons_zero, List.set_cons_succ]
                    refine takeVal 9 20 (.int .i64 40) rfl (by kernel_rfl) (by kernel_rfl) (by kernel_rfl) rfl (by rfl) (fun _ _ _ h => h) hDz.q1 (fun W' hw' => rfl) ?_
                    simp only [List.setIfInBounds_toArray, List.set_cons_zero, List.set_cons_succ]
                    refine wpAnyH_done (by kernel_rfl) ?_ _
                    refine NoPanic.normal ?_
                    go_wp2_with fail
                    go_meet
                    case rel => exact ⟨rfl, hid hDz⟩
                  · have DB0 := D0.beside (Chg.alloc we.drew (.cells #[.int .i64 (K : Int)] 3) No)
                    refine stNew 7 128 (.slice (some ⟨we.drew.heap.size, 0, none⟩) 1 1) (.cells #[.int .i64 (K : Int)] 3) rfl rfl (by rfl) (by go_simp) ⟨DB0.duo.q1, ?_⟩
                    simp only [List.setIfInBounds_toArray, List.set_cons_zero, List.set_cons_succ]
                    refine step1 5 (by kernel_rfl) ?_
                    refine stCall 5 126 18 #[.int .u8 9] _ rfl rfl (by rfl) (by go_simp) (full_any 9 _) ?_
                    rintro e wf ⟨rfl, cf⟩
                    have DB := DB0.call cf
                    refine ⟨_, rfl, DB.duo.q1, ?_⟩
                    simp only [List.setIfInBounds_toArray, List.set_cons_zero, List.set_cons_succ]
                    refine step1 8 (by kernel_rfl) ?_
                    refine stCall 8 129 17 #[.pointer (some ⟨c, 0, none⟩), .int .i64 (B : Int), .agg (D.SA (fullS 9)), .slice (some ⟨we.drew.heap.size, 0, none⟩) 1 1] _ rfl rfl (by rfl) (by go_simp) (DuoB.putB (B : Int) (fullS 9) [(K : Int)] 1 DB (fullS_len 9) HIB.out ((lat_cells1 we.drew _).call cf) (by have := cf.size; simp at this ⊢; omega) (by simp) (one64 ⟨by omega, by omega⟩) ⟨0, by simp, HB.out⟩ HTB.out HWB.out) ?_
                    rintro e wz ⟨rfl, hDz⟩
                    refine ⟨_, rfl, hDz.q1, ?_⟩
                    simp only [List.setIfInBounds_toArray, List.set_cons_zero, List.set_cons_succ]
                    refine takeVal 9 20 (.int .i64 40) rfl (by kernel_rfl) (by kernel_rfl) (by kernel_rfl) rfl (by rfl) (fun _ _ _ h => h) hDz.q1 (fun W' hw' => rfl) ?_
                    simp only [List.setIfInBounds_toArray, List.set_cons_zero, List.set_cons_succ]
                    refine wpAnyH_done (by kernel_rfl) ?_ _
                    refine NoPanic.normal ?_
                    go_wp2_with fail
                    go_meet
                    case rel => exact ⟨rfl, hid hDz⟩
              case rest =>
                as_aux_lemma =>
                  obtain ⟨rfl, Df⟩ := hcut
                  obtain ⟨wg, hwg⟩ : ∃ y, y = wc := ⟨_, rfl⟩
                  rw [← hwg] at Df
                  rw [← hwg]
                  clear hwg De
                  go_upto_region 18 with fail
                  go_cut [21] (fun v wc => v = .int .i64 40 ∧ Hid (Duo w wc n t c p g lb db t2 x2 p2 g2 lb2 db2 { s2 with z := z } { s2 with z := z }))
                  case first =>
                    as_aux_lemma =>
                      refine wp_region_noPanic ?_
                      refine wp_region_held_drew (S := fun w' => w'.cell? ⟨t, 1, none⟩ = some (.pointer (some ⟨c, 0, none⟩))) (by kernel_rfl) Df.out.q1 (fun hHeld => ?_)
                      refine takeVal 0 130 (.pointer (some ⟨t, 0, none⟩)) rfl (by kernel_rfl) (by kernel_rfl) (by kernel_rfl) rfl (by rfl) (fun _ _ _ h => h) hHeld (fun W' hw' => rfl) ?_
                      simp only [List.setIfInBounds_toArray, List.set_cons_zero, List.set_cons_succ]
                      refine takeVal 1 131 (.pointer (some ⟨t, 0, none⟩)) rfl (by kernel_rfl) (by kernel_rfl) (by kernel_rfl) rfl (by rfl) (fun _ _ _ h => h) hHeld (fun W' hw' => by go_simp) ?_
                      simp only [List.setIfInBounds_toArray, List.set_cons_zero, List.set_cons_succ]
                      refine takeVal 2 132 (.pointer (some ⟨t, 1, none⟩)) rfl (by kernel_rfl) (by kernel_rfl) (by kernel_rfl) rfl (by rfl) (fun _ _ _ h => h) hHeld (fun W' hw' => by go_simp) ?_
                      simp only [List.setIfInBounds_toArray, List.set_cons_zero, List.set_cons_succ]
                      refine takeVal 3 133 (.pointer (some ⟨c, 0, none⟩)) rfl (by kernel_rfl) (by kernel_rfl) (by kernel_rfl) rfl (by rfl) (fun _ _ _ h => h) hHeld (fun W' hw' => by have hc := hw'; go_simp) ?_
                      simp only [List.setIfInBounds_toArray, List.set_cons_zero, List.set_cons_succ]
                      refine takeVal 4 134 (.int .i64 (K : Int)) rfl (by kernel_rfl) (by kernel_rfl) (by kernel_rfl) rfl (by rfl) (fun _ _ _ h => h) hHeld (fun W' hw' => rfl) ?_
                      simp only [List.setIfInBounds_toArray, List.set_cons_zero, List.set_cons_succ]
                      refine takeVal 6 136 (.int .i64 (K : Int)) rfl (by kernel_rfl) (by kernel_rfl) (by kernel_rfl) rfl (by rfl) (fun _ _ _ h => h) hHeld (fun W' hw' => rfl) ?_
                      simp only [List.setIfInBounds_toArray, List.set_cons_zero, List.set_cons_succ]
                      refine takeVal 7 137 (.int .i64 (B : Int)) rfl (by kernel_rfl) (by kernel_rfl) (by kernel_rfl) rfl (by rfl) (fun _ _ _ h => h) hHeld (fun W' hw' => rfl) ?_
                      simp only [List.setIfInBounds_toArray, List.set_cons_zero, List.set_cons_succ]
                      have D0 := Df.out.call (Chg.refl wg No).drew
                      refine step2 5 8 (by kernel_rfl) ?_ ?_
                      · refine stCall 5 135 18 #[.int .u8 9] _ rfl rfl (by rfl) (by go_simp) (full_any 9 _) ?_
                        rintro e wf ⟨rfl, cf⟩
                        have D1 := D0.call cf
                        refine ⟨_, rfl, D1.q1, ?_⟩
                        simp only [List.setIfInBounds_toArray, List.set_cons_zero, List.set_cons_succ]
                        refine step1 8 (by kernel_rfl) ?_
                        have DB := D1.beside (Chg.alloc wf (.cells #[.int .i64 (K : Int), .int .i64 (B : Int)] 3) No)
                        refine stNew 8 138 (.slice (some ⟨wf.heap.size, 0, none⟩) 2 2) (.cells #[.int .i64 (K : Int), .int .i64 (B : Int)] 3) rfl rfl (by rfl) (by go_simp) ⟨DB.duo.q1, ?_⟩
                        simp only [List.setIfInBounds_toArray, List.set_cons_zero, List.set_cons_succ]
                        refine step1 9 (by kernel_rfl) ?_
                        refine stCall 9 139 17 #[.pointer (some ⟨c, 0, none⟩), .int .i64 (K : Int), .agg (D.SA (fullS 9)), .slice (some ⟨wf.heap.size, 0, none⟩) 2 2] _ rfl rfl (by rfl) (by go_simp) (DuoB.putB (K : Int) (fullS 9) [(K : Int), (B : Int)] 2 DB (fullS_len 9) ⟨by omega, by omega⟩ (lat_cells2 _ _ _) (by simp) (by simp) (two64 ⟨by omega, by omega⟩ HIB.out) ⟨2, by simp, HB.out⟩ HTB.out HWB.out) ?_
                        rintro e wz ⟨rfl, hDz⟩
                        refine ⟨_, rfl, hDz.q1, ?_⟩
                        simp only [List.setIfInBounds_toArray, List.set_cons_zero, List.set_cons_succ]
                        refine takeVal 10 21 (.int .i64 40) rfl (by kernel_rfl) (by kernel_rfl) (by kernel_rfl) rfl (by rfl) (fun _ _ _ h => h) hDz.q1 (fun W' hw' => rfl) ?_
                        simp only [List.setIfInBounds_toArray, List.set_cons_zero, List.set_cons_succ]
                        refine wpAnyH_done (by kernel_rfl) ?_ _
                        refine NoPanic.normal ?_
                        go_wp2_with fail
                        go_meet
                        case rel => exact ⟨rfl, hid hDz⟩
                      · have DB0 := D0.beside (Chg.alloc wg.drew (.cells #[.int .i64 (K : Int), .int .i64 (B : Int)] 3) No)
                        refine stNew 8 138 (.slice (some ⟨wg.drew.heap.size, 0, none⟩) 2 2) (.cells #[.int .i64 (K : Int), .int .i64 (B : Int)] 3) rfl rfl (by rfl) (by go_simp) ⟨DB0.duo.q1, ?_⟩
                        simp only [List.setIfInBounds_toArray, List.set_cons_zero, List.set_cons_succ]
                        refine step1 5 (by kernel_rfl) ?_
                        refine stCall 5 135 18 #[.int .u8 9] _ rfl rfl (by rfl) (by go_simp) (full_any 9 _) ?_
                        rintro e wf ⟨rfl, cf⟩
                        have DB := DB0.call cf
                        refine ⟨_, rfl, DB.duo.q1, ?_⟩
                        simp only [List.setIfInBounds_toArray, List.set_cons_zero, List.set_cons_succ]
                        refine step1 9 (by kernel_rfl) ?_
                        refine stCall 9 139 17 #[.pointer (some ⟨c, 0, none⟩), .int .i64 (K : Int), .agg (D.SA (fullS 9)), .slice (some ⟨wg.drew.heap.size, 0, none⟩) 2 2] _ rfl rfl (by rfl) (by go_simp) (DuoB.putB (K : Int) (fullS 9) [(K : Int), (B : Int)] 2 DB (fullS_len 9) ⟨by omega, by omega⟩ ((lat_cells2 wg.drew _ _).call cf) (by have := cf.size; simp at this ⊢; omega) (by simp) (two64 ⟨by omega, by omega⟩ HIB.out) ⟨2, by simp, HB.out⟩ HTB.out HWB.out) ?_
                        rintro e wz ⟨rfl, hDz⟩
                        refine ⟨_, rfl, hDz.q1, ?_⟩
                        simp only [List.setIfInBounds_toArray, List.set_cons_zero, List.set_cons_succ]
                        refine takeVal 10 21 (.int .i64 40) rfl (by kernel_rfl) (by kernel_rfl) (by kernel_rfl) rfl (by rfl) (fun _ _ _ h => h) hDz.q1 (fun W' hw' => rfl) ?_
                        simp only [List.setIfInBounds_toArray, List.set_cons_zero, List.set_cons_succ]
                        refine wpAnyH_done (by kernel_rfl) ?_ _
                        refine NoPanic.normal ?_
                        go_wp2_with fail
                        go_meet
                        case rel => exact ⟨rfl, hid hDz⟩
                  case rest =>
                    as_aux_lemma =>
                      obtain ⟨rfl, Dh⟩ := hcut
                      obtain ⟨wh, hwh⟩ : ∃ y, y = wc := ⟨_, rfl⟩
                      rw [← hwh] at Dh
                      rw [← hwh]
                      clear hwh Df
                      have q1 := Dh.out.q1
                      go_upto_region 21 with (first
                        | (go_at_call 19; go_must (refine (Dh.out.drainB B HB.out HTB.out HWB.out).mono ?_; rintro e wi ⟨rfl, hDa⟩; have Di := hid hDa; replace q1 := hDa.q1; clear hDa))
                        | (go_at_call 20; go_must (refine (Di.out.dropB B HB.out).mono ?_; rintro e wj ⟨rfl, hDa⟩; have Dj := hid hDa; replace q1 := hDa.q1; clear hDa))
                        | (go_at_call 9; go_must (refine (Dj.out.markB B 5 HB.out).mono ?_; rintro e wk ⟨rfl, hDa⟩; have Dk1 := hid hDa; replace q1 := hDa.q1; clear hDa))
                        | fail)
                      clear Dh Di Dj
                      go_upto_region 22 with (first
                        | (go_at_call 15; go_must (refine (Dk1.out.read (K : Int) ⟨by omega, by omega⟩ HQ.out.al).mono ?_; rintro e wl ⟨rfl, hDa⟩; have Dl := hid hDa; replace q1 := hDa.q1; clear hDa))
                        | fail)
                      clear Dk1
                      go_upto_region 23 with (first
                        | (go_at_call 16; go_must (refine (Dl.out.stands (K : Int) ⟨by omega, by omega⟩ HQ.out.al).mono ?_; rintro e wm ⟨rfl, hDa, hks⟩; have Dm := hid hDa; replace q1 := hDa.q1; clear hDa hks))
                        | fail)
                      clear Dl
                      go_upto_region 24 with (first
                        | (go_at_call 11; go_must (refine Dm.out.dirty.mono ?_; rintro e wn ⟨va, vc, rfl, hcc⟩; have Dn := hid (Dm.out.call hcc); replace q1 := Dn.out.q1; clear hcc))
                        | fail)
                      clear Dm
                      go_upto_region 25 with (first
                        | (go_at_call 12; go_must (refine Dn.out.elig.mono ?_; rintro e wo ⟨vb, vd, rfl, hla, hcc⟩; have Do := hid (Dn.out.call hcc); replace q1 := Do.out.q1; clear hcc hla))
                        | fail)
                      clear Dn
                      go_upto_region 26 with (first
                        | (go_at_call 21; go_must (refine Do.out.edges.mono ?_; rintro e wq ⟨ve, vf, lE, rfl, hEL, hEA, hcc⟩; have Dp := hid (Do.out.call hcc); clear hcc hEL hEA))
                        | fail)
                      clear Do q1
                      by_cases h3 : (k : Int) % 3 = 0
                      · as_aux_lemma =>
                          have hb3 : ((k : Int) % 3 == 0) = true := by simpa using h3
                          have hm3 : (k : Int).tmod 3 = 0 := by rw [Int.tmod_eq_emod_of_nonneg (by omega)]; exact h3
                          have HVS := hid (fun X => versioned_any (900000 + (k : Int)) (by omega) (by omega) X)
                          have D0 := Dp.out.call (Chg.refl wq No).drew
                          refine wp_region_noPanic ?_
                          refine wp_region_held_drew (S := fun w' => w'.cell? ⟨t, 1, none⟩ = some (.pointer (some ⟨c, 0, none⟩)) ∧ w'.cell? ⟨t2, 1, none⟩ = some (.pointer (some ⟨x2, 0, none⟩))) (by kernel_rfl) ⟨Dp.out.q1, Dp.out.swap.q1⟩ (fun hHeld => ?_)
                          refine takeVal 0 222 (.int .i64 (k : Int)) rfl (by kernel_rfl) (by kernel_rfl) (by kernel_rfl) rfl (by rfl) (fun _ _ _ h => h) hHeld (fun W' hw' => rfl) ?_
                          simp only [List.setIfInBounds_toArray, List.set_cons_zero, List.set_cons_succ]
                          refine takeVal 1 223 (.int .i64 0) rfl (by kernel_rfl) (by kernel_rfl) (by kernel_rfl) rfl (by rfl) (fun _ _ _ h => h) hHeld (fun W' hw' => by go_simp) ?_
                          simp only [List.setIfInBounds_toArray, List.set_cons_zero, List.set_cons_succ]
                          refine takeVal 2 224 (.bool true) rfl (by kernel_rfl) (by kernel_rfl) (by kernel_rfl) rfl (by rfl) (fun _ _ _ h => h) hHeld (fun W' hw' => by go_simp) ?_
                          simp only [List.setIfInBounds_toArray, List.set_cons_zero, List.set_cons_succ]
                          refine takeVal 3 225 (.bool true) rfl (by kernel_rfl) (by kernel_rfl) (by kernel_rfl) rfl (by rfl) (fun _ _ _ h => h) hHeld (fun W' hw' => rfl) ?_
                          simp only [List.setIfInBounds_toArray, List.set_cons_zero, List.set_cons_succ]
                          refine takeVal 4 226 (.pointer (some ⟨t, 0, none⟩)) rfl (by kernel_rfl) (by kernel_rfl) (by kernel_rfl) rfl (by rfl) (fun _ _ _ h => h) hHeld (fun W' hw' => rfl) ?_
                          simp only [List.setIfInBounds_toArray, List.set_cons_zero, List.set_cons_succ]
                          refine takeVal 5 227 (.pointer (some ⟨t, 0, none⟩)) rfl (by kernel_rfl) (by kernel_rfl) (by kernel_rfl) rfl (by rfl) (fun _ _ _ h => h) hHeld (fun W' hw' => by go_simp) ?_
                          simp only [List.setIfInBounds_toArray, List.set_cons_zero, List.set_cons_succ]
                          refine takeVal 6 228 (.pointer (some ⟨t, 1, none⟩)) rfl (by kernel_rfl) (by kernel_rfl) (by kernel_rfl) rfl (by rfl) (fun _ _ _ h => h) hHeld (fun W' hw' => by go_simp) ?_
                          simp only [List.setIfInBounds_toArray, List.set_cons_zero, List.set_cons_succ]
                          refine takeVal 7 229 (.pointer (some ⟨c, 0, none⟩)) rfl (by kernel_rfl) (by kernel_rfl) (by kernel_rfl) rfl (by rfl) (fun _ _ _ h => h) hHeld (fun W' hw' => by have hc := hw'.1; go_simp) ?_
                          simp only [List.setIfInBounds_toArray, List.set_cons_zero, List.set_cons_succ]
                          refine takeVal 8 230 (.int .i64 (K : Int)) rfl (by kernel_rfl) (by kernel_rfl) (by kernel_rfl) rfl (by rfl) (fun _ _ _ h => h) hHeld (fun W' hw' => rfl) ?_
                          simp only [List.setIfInBounds_toArray, List.set_cons_zero, List.set_cons_succ]
                          refine takeVal 9 231 (.int .i64 (k : Int)) rfl (by kernel_rfl) (by kernel_rfl) (by kernel_rfl) rfl (by rfl) (fun _ _ _ h => h) hHeld (fun W' hw' => rfl) ?_
                          simp only [List.setIfInBounds_toArray, List.set_cons_zero, List.set_cons_succ]
                          refine takeVal 10 232 (.int .i64 (900000 + (k : Int))) rfl (by kernel_rfl) (by kernel_rfl) (by kernel_rfl) rfl (by rfl) (fun _ _ _ h => h) hHeld (fun W' hw' => by go_simp; rw [IntKind.wrap_i64]; omega) ?_
                          simp only [List.setIfInBounds_toArray, List.set_cons_zero, List.set_cons_succ]
                          refine step1 11 (by kernel_rfl) ?_
                          refine stCall 11 233 22 #[.int .i64 (900000 + (k : Int))] _ rfl rfl (by rfl) (by go_simp) (HVS.out _) ?_
                          rintro e wv ⟨rfl, cv⟩
                          have D1 := D0.call cv
                          have h1 := And.intro D1.q1 D1.swap.q1
                          refine ⟨_, rfl, h1, ?_⟩
                          simp only [List.setIfInBounds_toArray, List.set_cons_zero, List.set_cons_succ]
                          refine step1 12 (by kernel_rfl) ?_
                          refine stCall 12 234 17 #[.pointer (some ⟨c, 0, none⟩), .int .i64 (K : Int), .agg (D.SA (verL (900000 + (k : Int)))), .slice none 0 0] _ rfl rfl (by rfl) (by go_simp) (D1.putG (K : Int) (verL (900000 + (k : Int))) (verL_len _) ⟨by omega, by omega⟩ ⟨by omega, by omega⟩ HQ.out.al HTB.out HWB.out) ?_
                          rintro e wu ⟨rfl, D2⟩
                          have h2 := And.intro D2.q1 D2.swap.q1
                          refine ⟨_, rfl, h2, ?_⟩
                          simp only [List.setIfInBounds_toArray, List.set_cons_zero, List.set_cons_succ]
                          refine takeVal 13 235 (.bool false) rfl (by kernel_rfl) (by kernel_rfl) (by kernel_rfl) rfl (by rfl) (fun _ _ _ h => h) h2 (fun W' hw' => by go_simp) ?_
                          simp only [List.setIfInBounds_toArray, List.set_cons_zero, List.set_cons_succ]
                          refine takeVal 14 236 (.bool false) rfl (by kernel_rfl) (by kernel_rfl) (by kernel_rfl) rfl (by rfl) (fun _ _ _ h => h) h2 (fun W' hw' => rfl) ?_
                          simp only [List.setIfInBounds_toArray, List.set_cons_zero, List.set_cons_succ]
                          refine takeVal 15 237 (.pointer (some ⟨t2, 0, none⟩)) rfl (by kernel_rfl) (by kernel_rfl) (by kernel_rfl) rfl (by rfl) (fun _ _ _ h => h) h2 (fun W' hw' => rfl) ?_
                          simp only [List.setIfInBounds_toArray, List.set_cons_zero, List.set_cons_succ]
                          refine takeVal 16 238 (.pointer (some ⟨t2, 0, none⟩)) rfl (by kernel_rfl) (by kernel_rfl) (by kernel_rfl) rfl (by rfl) (fun _ _ _ h => h) h2 (fun W' hw' => by go_simp) ?_
                          simp only [List.setIfInBounds_toArray, List.set_cons_zero, List.set_cons_succ]
                          refine takeVal 17 239 (.pointer (some ⟨t2, 1, none⟩)) rfl (by kernel_rfl) (by kernel_rfl) (by kernel_rfl) rfl (by rfl) (fun _ _ _ h => h) h2 (fun W' hw' => by go_simp) ?_
                          simp only [List.setIfInBounds_toArray, List.set_cons_zero, List.set_cons_succ]
                          refine takeVal 18 240 (.pointer (some ⟨x2, 0, none⟩)) rfl (by kernel_rfl) (by kernel_rfl) (by kernel_rfl) rfl (by rfl) (fun _ _ _ h => h) h2 (fun W' hw' => by have hc := hw'.2; go_simp) ?_
                          simp only [List.setIfInBounds_toArray, List.set_cons_zero, List.set_cons_succ]
                          refine takeVal 19 241 (.int .i64 (K : Int)) rfl (by kernel_rfl) (by kernel_rfl) (by kernel_rfl) rfl (by rfl) (fun _ _ _ h => h) h2 (fun W' hw' => rfl) ?_
                          simp only [List.setIfInBounds_toArray, List.set_cons_zero, List.set_cons_succ]
                          refine takeVal 20 242 (.int .i64 (k : Int)) rfl (by kernel_rfl) (by kernel_rfl) (by kernel_rfl) rfl (by rfl) (fun _ _ _ h => h) h2 (fun W' hw' => rfl) ?_
                          simp only [List.setIfInBounds_toArray, List.set_cons_zero, List.set_cons_succ]
                          refine takeVal 21 243 (.int .i64 (900000 + (k : Int))) rfl (by kernel_rfl) (by kernel_rfl) (by kernel_rfl) rfl (by rfl) (fun _ _ _ h => h) h2 (fun W' hw' => by go_simp; rw [IntKind.wrap_i64]; omega) ?_
                          simp only [List.setIfInBounds_toArray, List.set_cons_zero, List.set_cons_succ]
                          refine step1 22 (by kernel_rfl) ?_
                          refine stCall 22 244 22 #[.int .i64 (900000 + (k : Int))] _ rfl rfl (by rfl) (by go_simp) (HVS.out _) ?_
                          rintro e wv2 ⟨rfl, cv2⟩
                          have D3 := D2.call cv2
                          have h3 := And.intro D3.q1 D3.swap.q1
                          refine ⟨_, rfl, h3, ?_⟩
                          simp only [List.setIfInBounds_toArray, List.set_cons_zero, List.set_cons_succ]
                          refine step1 23 (by kernel_rfl) ?_
                          refine stCall 23 245 17 #[.pointer (some ⟨x2, 0, none⟩), .int .i64 (K : Int), .agg (D.SA (verL (900000 + (k : Int)))), .slice none 0 0] _ rfl rfl (by rfl) (by go_simp) (D3.swap.putG (K : Int) (verL (900000 + (k : Int))) (verL_len _) ⟨by omega, by omega⟩ ⟨by omega, by omega⟩ HQ.out.al HTB.out HWB.out) ?_
                          rintro e wu2 ⟨rfl, D4⟩
                          have h4 := And.intro D4.swap.q1 D4.q1
                          refine ⟨_, rfl, h4, ?_⟩
                          simp only [List.setIfInBounds_toArray, List.set_cons_zero, List.set_cons_succ]
                          refine takeVal 24 246 (.bool false) rfl (by kernel_rfl) (by kernel_rfl) (by kernel_rfl) rfl (by rfl) (fun _ _ _ h => h) h4 (fun W' hw' => by go_simp) ?_
                          simp only [List.setIfInBounds_toArray, List.set_cons_zero, List.set_cons_succ]
                          refine takeVal 25 247 (.bool false) rfl (by kernel_rfl) (by kernel_rfl) (by kernel_rfl) rfl (by rfl) (fun _ _ _ h => h) h4 (fun W' hw' => rfl) ?_
                          simp only [List.setIfInBounds_toArray, List.set_cons_zero, List.set_cons_succ]
                          refine takeVal 26 248 (.bool false) rfl (by kernel_rfl) (by kernel_rfl) (by kernel_rfl) rfl (by rfl) (fun _ _ _ h => h) h4 (fun W' hw' => rfl) ?_
                          simp only [List.setIfInBounds_toArray, List.set_cons_zero, List.set_cons_succ]
                          refine wpAnyH_done (by kernel_rfl) ?_ _
                          refine NoPanic.normal ?_
                          have hfin : Hid (Duo w wu2 n t c p g lb db t2 x2 p2 g2 lb2 db2 { s2 with z := layC z (K : Int) (verL (900000 + (k : Int))) [] } { s2 with z := layC z (K : Int) (verL (900000 + (k : Int))) [] }) := hid D4.swap
                          have HQ2 := hid (HQ.out.lay hfin.out.inv)
                          clear D0 D1 D2 D3 D4 h1 h2 h3 h4 hHeld HVS
                          go_wp2_with fail
                          go_roundw
                          case rel => exact ⟨k + 1, _, by omega, by omega, by go_num, hfin, HQ2, HW⟩
                          case measure => simp [intOf]; omega

                      · as_aux_lemma =>
                          have hb3 : ((k : Int) % 3 == 0) = false := by simpa using h3
                          have hm3 : ((k : Int).tmod 3 == 0) = false := by rw [Int.tmod_eq_emod_of_nonneg (by omega)]; simpa using h3
                          refine wp_region_noPanic ?_
                          refine wp_region_held_drew (S := fun w' => w'.cell? ⟨t, 1, none⟩ = some (.pointer (some ⟨c, 0, none⟩)) ∧ w'.cell? ⟨t2, 1, none⟩ = some (.pointer (some ⟨x2, 0, none⟩))) (by kernel_rfl) ⟨Dp.out.q1, Dp.out.swap.q1⟩ (fun hHeld => ?_)
                          refine takeVal 0 222 (.int .i64 (k : Int)) rfl (by kernel_rfl) (by kernel_rfl) (by kernel_rfl) rfl (by rfl) (fun _ _ _ h => h) hHeld (fun W' hw' => rfl) ?_
                          simp only [List.setIfInBounds_toArray, List.set_cons_zero, List.set_cons_succ]
                          refine takeVal 1 223 (.int .i64 ((k : Int) % 3)) rfl (by kernel_rfl) (by kernel_rfl) (by kernel_rfl) rfl (by rfl) (fun _ _ _ h => h) hHeld (fun W' hw' => by go_simp; rw [Int.tmod_eq_emod_of_nonneg (by omega)]) ?_
                          simp only [List.setIfInBounds_toArray, List.set_cons_zero, List.set_cons_succ]
                          refine takeVal 2 224 (.bool false) rfl (by kernel_rfl) (by kernel_rfl) (by kernel_rfl) rfl (by rfl) (fun _ _ _ h => h) hHeld (fun W' hw' => by go_simp) ?_
                          simp only [List.setIfInBounds_toArray, List.set_cons_zero, List.set_cons_succ]
                          refine takeVal 3 225 (.bool false) rfl (by kernel_rfl) (by kernel_rfl) (by kernel_rfl) rfl (by rfl) (fun _ _ _ h => h) hHeld (fun W' hw' => rfl) ?_
                          simp only [List.setIfInBounds_toArray, List.set_cons_zero, List.set_cons_succ]
                          refine takeNot 4 226 rfl (by kernel_rfl) (by kernel_rfl) (by kernel_rfl) rfl (by rfl) (fun _ _ _ h => h) hHeld ?_
                          simp only [List.setIfInBounds_toArray, List.set_cons_zero, List.set_cons_succ]
                          refine takeNot 5 227 rfl (by kernel_rfl) (by kernel_rfl) (by kernel_rfl) rfl (by rfl) (fun _ _ _ h => h) hHeld ?_
                          simp only [List.setIfInBounds_toArray, List.set_cons_zero, List.set_cons_succ]
                          refine takeNot 6 228 rfl (by kernel_rfl) (by kernel_rfl) (by kernel_rfl) rfl (by rfl) (fun _ _ _ h => h) hHeld ?_
                          simp only [List.setIfInBounds_toArray, List.set_cons_zero, List.set_cons_succ]
                          refine takeNot 7 229 rfl (by kernel_rfl) (by kernel_rfl) (by kernel_rfl) rfl (by rfl) (fun _ _ _ h => h) hHeld ?_
                          simp only [List.setIfInBounds_toArray, List.set_cons_zero, List.set_cons_succ]
                          refine takeNot 8 230 rfl (by kernel_rfl) (by kernel_rfl) (by kernel_rfl) rfl (by rfl) (fun _ _ _ h => h) hHeld ?_
                          simp only [List.setIfInBounds_toArray, List.set_cons_zero, List.set_cons_succ]
                          refine takeNot 9 231 rfl (by kernel_rfl) (by kernel_rfl) (by kernel_rfl) rfl (by rfl) (fun _ _ _ h => h) hHeld ?_
                          simp only [List.setIfInBounds_toArray, List.set_cons_zero, List.set_cons_succ]
                          refine takeNot 10 232 rfl (by kernel_rfl) (by kernel_rfl) (by kernel_rfl) rfl (by rfl) (fun _ _ _ h => h) hHeld ?_
                          simp only [List.setIfInBounds_toArray, List.set_cons_zero, List.set_cons_succ]
                          refine takeNot 11 233 rfl (by kernel_rfl) (by kernel_rfl) (by kernel_rfl) rfl (by rfl) (fun _ _ _ h => h) hHeld ?_
                          simp only [List.setIfInBounds_toArray, List.set_cons_zero, List.set_cons_succ]
                          refine takeNot 12 234 rfl (by kernel_rfl) (by kernel_rfl) (by kernel_rfl) rfl (by rfl) (fun _ _ _ h => h) hHeld ?_
                          simp only [List.setIfInBounds_toArray, List.set_cons_zero, List.set_cons_succ]
                          refine takeNot 13 235 rfl (by kernel_rfl) (by kernel_rfl) (by kernel_rfl) rfl (by rfl) (fun _ _ _ h => h) hHeld ?_
                          simp only [List.setIfInBounds_toArray, List.set_cons_zero, List.set_cons_succ]
                          refine takeNot 14 236 rfl (by kernel_rfl) (by kernel_rfl) (by kernel_rfl) rfl (by rfl) (fun _ _ _ h => h) hHeld ?_
                          simp only [List.setIfInBounds_toArray, List.set_cons_zero, List.set_cons_succ]
                          refine takeNot 15 237 rfl (by kernel_rfl) (by kernel_rfl) (by kernel_rfl) rfl (by rfl) (fun _ _ _ h => h) hHeld ?_
                          simp only [List.setIfInBounds_toArray, List.set_cons_zero, List.set_cons_succ]
                          refine takeNot 16 238 rfl (by kernel_rfl) (by kernel_rfl) (by kernel_rfl) rfl (by rfl) (fun _ _ _ h => h) hHeld ?_
                          simp only [List.setIfInBounds_toArray, List.set_cons_zero, List.set_cons_succ]
                          refine takeNot 17 239 rfl (by kernel_rfl) (by kernel_rfl) (by kernel_rfl) rfl (by rfl) (fun _ _ _ h => h) hHeld ?_
                          simp only [List.setIfInBounds_toArray, List.set_cons_zero, List.set_cons_succ]
                          refine takeNot 18 240 rfl (by kernel_rfl) (by kernel_rfl) (by kernel_rfl) rfl (by rfl) (fun _ _ _ h => h) hHeld ?_
                          simp only [List.setIfInBounds_toArray, List.set_cons_zero, List.set_cons_succ]
                          refine takeNot 19 241 rfl (by kernel_rfl) (by kernel_rfl) (by kernel_rfl) rfl (by rfl) (fun _ _ _ h => h) hHeld ?_
                          simp only [List.setIfInBounds_toArray, List.set_cons_zero, List.set_cons_succ]
                          refine takeNot 20 242 rfl (by kernel_rfl) (by kernel_rfl) (by kernel_rfl) rfl (by rfl) (fun _ _ _ h => h) hHeld ?_
                          simp only [List.setIfInBounds_toArray, List.set_cons_zero, List.set_cons_succ]
                          refine takeNot 21 243 rfl (by kernel_rfl) (by kernel_rfl) (by kernel_rfl) rfl (by rfl) (fun _ _ _ h => h) hHeld ?_
                          simp only [List.setIfInBounds_toArray, List.set_cons_zero, List.set_cons_succ]
                          refine takeNot 22 244 rfl (by kernel_rfl) (by kernel_rfl) (by kernel_rfl) rfl (by rfl) (fun _ _ _ h => h) hHeld ?_
                          simp only [List.setIfInBounds_toArray, List.set_cons_zero, List.set_cons_succ]
                          refine takeNot 23 245 rfl (by kernel_rfl) (by kernel_rfl) (by kernel_rfl) rfl (by rfl) (fun _ _ _ h => h) hHeld ?_
                          simp only [List.setIfInBounds_toArray, List.set_cons_zero, List.set_cons_succ]
                          refine takeNot 24 246 rfl (by kernel_rfl) (by kernel_rfl) (by kernel_rfl) rfl (by rfl) (fun _ _ _ h => h) hHeld ?_
                          simp only [List.setIfInBounds_toArray, List.set_cons_zero, List.set_cons_succ]
                          refine takeNot 25 247 rfl (by kernel_rfl) (by kernel_rfl) (by kernel_rfl) rfl (by rfl) (fun _ _ _ h => h) hHeld ?_
                          simp only [List.setIfInBounds_toArray, List.set_cons_zero, List.set_cons_succ]
                          refine takeVal 26 248 (.bool false) rfl (by kernel_rfl) (by kernel_rfl) (by kernel_rfl) rfl (by rfl) (fun _ _ _ h => h) hHeld (fun W' hw' => rfl) ?_
                          simp only [List.setIfInBounds_toArray, List.set_cons_zero, List.set_cons_succ]
                          refine wpAnyH_done (by kernel_rfl) ?_ _
                          refine NoPanic.normal ?_
                          have hfin := hid (Dp.out.call (Chg.refl wq No).drew)
                          clear hHeld Dp
                          go_wp2_with fail
                          go_roundw
                          case rel => exact ⟨k + 1, _, by omega, by omega, by go_num, hfin, HQ, HW⟩
                          case measure => simp [intOf]; omega

      · as_aux_lemma =>
          have i2 : ¬ ((k : Int) < 30) := by omega
          go_upto_region 28 with fail
          have D0 := HD.out.call (Chg.refl wr No).drew
          have HTB := hid HQ.out.tb
          have HWB : Hid (z.d.wr < 4611686018427380000) := hid (by have := HW.out; have := HML.out; omega)
          have hLl := secs_len z.dirty
          have HLL := hid hLl
          clear hLl
          refine wp_region_noPanic ?_
          refine wp_region_held_drew (S := fun w' => w'.cell? ⟨t, 1, none⟩ = some (.pointer (some ⟨c, 0, none⟩)) ∧ w'.cell? ⟨t2, 1, none⟩ = some (.pointer (some ⟨x2, 0, none⟩))) (by kernel_rfl) ⟨HD.out.q1, HD.out.swap.q1⟩ (fun hHeld => ?_)
          refine takeVal 0 249 (.pointer (some ⟨t, 0, none⟩)) rfl (by kernel_rfl) (by kernel_rfl) (by kernel_rfl) rfl (by rfl) (fun _ _ _ h => h) hHeld (fun W' hw' => rfl) ?_
          simp only [List.setIfInBounds_toArray, List.set_cons_zero, List.set_cons_succ]
          refine takeVal 1 250 (.pointer (some ⟨t, 0, none⟩)) rfl (by kernel_rfl) (by kernel_rfl) (by kernel_rfl) rfl (by rfl) (fun _ _ _ h => h) hHeld (fun W' hw' => by go_simp) ?_
          simp only [List.setIfInBounds_toArray, List.set_cons_zero, List.set_cons_succ]
          refine takeVal 2 251 (.pointer (some ⟨t, 1, none⟩)) rfl (by kernel_rfl) (by kernel_rfl) (by kernel_rfl) rfl (by rfl) (fun _ _ _ h => h) hHeld (fun W' hw' => by go_simp) ?_
          simp only [List.setIfInBounds_toArray, List.set_cons_zero, List.set_cons_succ]
          refine takeVal 3 252 (.pointer (some ⟨c, 0, none⟩)) rfl (by kernel_rfl) (by kernel_rfl) (by kernel_rfl) rfl (by rfl) (fun _ _ _ h => h) hHeld (fun W' hw' => by have hc := hw'.1; go_simp) ?_
          simp only [List.setIfInBounds_toArray, List.set_cons_zero, List.set_cons_succ]
          refine takeVal 5 254 (.pointer (some ⟨t2, 0, none⟩)) rfl (by kernel_rfl) (by kernel_rfl) (by kernel_rfl) rfl (by rfl) (fun _ _ _ h => h) hHeld (fun W' hw' => rfl) ?_
          simp only [List.setIfInBounds_toArray, List.set_cons_zero, List.set_cons_succ]
          refine takeVal 6 255 (.pointer (some ⟨t2, 0, none⟩)) rfl (by kernel_rfl) (by kernel_rfl) (by kernel_rfl) rfl (by rfl) (fun _ _ _ h => h) hHeld (fun W' hw' => by go_simp) ?_
          simp only [List.setIfInBounds_toArray, List.set_cons_zero, List.set_cons_succ]
          refine takeVal 7 256 (.pointer (some ⟨t2, 1, none⟩)) rfl (by kernel_rfl) (by kernel_rfl) (by kernel_rfl) rfl (by rfl) (fun _ _ _ h => h) hHeld (fun W' hw' => by go_simp) ?_
          simp only [List.setIfInBounds_toArray, List.set_cons_zero, List.set_cons_succ]
          refine takeVal 8 257 (.pointer (some ⟨x2, 0, none⟩)) rfl (by kernel_rfl) (by kernel_rfl) (by kernel_rfl) rfl (by rfl) (fun _ _ _ h => h) hHeld (fun W' hw' => by have hc := hw'.2; go_simp) ?_
          simp only [List.setIfInBounds_toArray, List.set_cons_zero, List.set_cons_succ]
          refine step1 4 (by kernel_rfl) ?_
          refine stCall 4 253 11 #[.pointer (some ⟨c, 0, none⟩)] _ rfl rfl (by rfl) (by go_simp) (D0.dirtyL) ?_
          rintro e wa ⟨va, vc, rfl, hLa, hca⟩
          have D1 := D0.call hca
          have h1 := And.intro D1.q1 D1.swap.q1
          refine ⟨_, rfl, h1, ?_⟩
          simp only [List.setIfInBounds_toArray, List.set_cons_zero, List.set_cons_succ]
          refine step1 9 (by kernel_rfl) ?_
          refine stCall 9 258 11 #[.pointer (some ⟨x2, 0, none⟩)] _ rfl rfl (by rfl) (by go_simp) (D1.swap.dirtyL) ?_
          rintro e wb ⟨vb, vd, rfl, hLb, hcb⟩
          have D2 := D1.call hcb
          have h2 := And.intro D2.q1 D2.swap.q1
          refine ⟨_, rfl, h2, ?_⟩
          simp only [List.setIfInBounds_toArray, List.set_cons_zero, List.set_cons_succ]
          refine step1 10 (by kernel_rfl) ?_
          refine stCall 10 259 10 #[.slice va (secs z.dirty).length vc, .slice vb (secs z.dirty).length vd] _ rfl rfl (by rfl) (by go_simp) (sameInts_same (secs z.dirty) va vb vc vd _ HLL.out (hLa.call hcb) hLb) ?_
          rintro e wd ⟨rfl, hcd⟩
          have D3 := D2.call hcd
          have h3 := And.intro D3.q1 D3.swap.q1
          refine ⟨_, rfl, h3, ?_⟩
          simp only [List.setIfInBounds_toArray, List.set_cons_zero, List.set_cons_succ]
          refine takeVal 11 260 (.bool false) rfl (by kernel_rfl) (by kernel_rfl) (by kernel_rfl) rfl (by rfl) (fun _ _ _ h => h) h3 (fun W' hw' => by go_simp) ?_
          simp only [List.setIfInBounds_toArray, List.set_cons_zero, List.set_cons_succ]
          refine takeVal 12 261 (.bool false) rfl (by kernel_rfl) (by kernel_rfl) (by kernel_rfl) rfl (by rfl) (fun _ _ _ h => h) h3 (fun W' hw' => rfl) ?_
          simp only [List.setIfInBounds_toArray, List.set_cons_zero, List.set_cons_succ]
          refine takeVal 13 262 (.pointer (some ⟨t, 0, none⟩)) rfl (by kernel_rfl) (by kernel_rfl) (by kernel_rfl) rfl (by rfl) (fun _ _ _ h => h) h3 (fun W' hw' => rfl) ?_
          simp only [List.setIfInBounds_toArray, List.set_cons_zero, List.set_cons_succ]
          refine takeVal 14 263 (.pointer (some ⟨t, 0, none⟩)) rfl (by kernel_rfl) (by kernel_rfl) (by kernel_rfl) rfl (by rfl) (fun _ _ _ h => h) h3 (fun W' hw' => by go_simp) ?_
          simp only [List.setIfInBounds_toArray, List.set_cons_zero, List.set_cons_succ]
          refine takeVal 15 264 (.pointer (some ⟨t, 1, none⟩)) rfl (by kernel_rfl) (by kernel_rfl) (by kernel_rfl) rfl (by rfl) (fun _ _ _ h => h) h3 (fun W' hw' => by go_simp) ?_
          simp only [List.setIfInBounds_toArray, List.set_cons_zero, List.set_cons_succ]
          refine takeVal 16 265 (.pointer (some ⟨c, 0, none⟩)) rfl (by kernel_rfl) (by kernel_rfl) (by kernel_rfl) rfl (by rfl) (fun _ _ _ h => h) h3 (fun W' hw' => by have hc := hw'.1; go_simp) ?_
          simp only [List.setIfInBounds_toArray, List.set_cons_zero, List.set_cons_succ]
          refine takeVal 18 267 (.pointer (some ⟨t2, 0, none⟩)) rfl (by kernel_rfl) (by kernel_rfl) (by kernel_rfl) rfl (by rfl) (fun _ _ _ h => h) h3 (fun W' hw' => rfl) ?_
          simp only [List.setIfInBounds_toArray, List.set_cons_zero, List.set_cons_succ]
          refine takeVal 19 268 (.pointer (some ⟨t2, 0, none⟩)) rfl (by kernel_rfl) (by kernel_rfl) (by kernel_rfl) rfl (by rfl) (fun _ _ _ h => h) h3 (fun W' hw' => by go_simp) ?_
          simp only [List.setIfInBounds_toArray, List.set_cons_zero, List.set_cons_succ]
          refine takeVal 20 269 (.pointer (some ⟨t2, 1, none⟩)) rfl (by kernel_rfl) (by kernel_rfl) (by kernel_rfl) rfl (by rfl) (fun _ _ _ h => h) h3 (fun W' hw' => by go_simp) ?_
          simp only [List.setIfInBounds_toArray, List.set_cons_zero, List.set_cons_succ]
          refine takeVal 21 270 (.pointer (some ⟨x2, 0, none⟩)) rfl (by kernel_rfl) (by kernel_rfl) (by kernel_rfl) rfl (by rfl) (fun _ _ _ h => h) h3 (fun W' hw' => by have hc := hw'.2; go_simp) ?_
          simp only [List.setIfInBounds_toArray, List.set_cons_zero, List.set_cons_succ]
          refine step1 17 (by kernel_rfl) ?_
          refine stCall 17 266 21 #[.pointer (some ⟨c, 0, none⟩)] _ rfl rfl (by rfl) (by go_simp) (D3.edges) ?_
          rintro e we ⟨ve, vf, lE, rfl, hEL, hEA, hce⟩
          have D4 := D3.call hce
          have h4 := And.intro D4.q1 D4.swap.q1
          refine ⟨_, rfl, h4, ?_⟩
          simp only [List.setIfInBounds_toArray, List.set_cons_zero, List.set_cons_succ]
          refine step1 22 (by kernel_rfl) ?_
          refine stCall 22 271 21 #[.pointer (some ⟨x2, 0, none⟩)] _ rfl rfl (by rfl) (by go_simp) (D4.swap.edges) ?_
          rintro e wf ⟨vg, vh, lF, rfl, hFL, hFA, hcf⟩
          obtain rfl : lE = lF := elist_oneQ hEL hFL
          have D5 := D4.call hcf
          have h5 := And.intro D5.q1 D5.swap.q1
          refine ⟨_, rfl, h5, ?_⟩
          simp only [List.setIfInBounds_toArray, List.set_cons_zero, List.set_cons_succ]
          refine step1 23 (by kernel_rfl) ?_
          refine stCall 23 272 23 #[.slice ve lE.length vf, .slice vg lE.length vh] _ rfl rfl (by rfl) (by go_simp) (sameEdges_same lE ve vg vf vh _ (Nat.le_trans (elist_len2 hEL (D5.inv.inSec)) (by decide)) (hEA.call hcf) hFA) ?_
          rintro e wg ⟨rfl, dn, ewg⟩
          have D6 : Duo w wg n t c p g lb db t2 x2 p2 g2 lb2 db2 { s2 with z := z } { s2 with z := z } := by rw [ewg]; exact D5.call (chg_drewN _ _)
          have h6 := And.intro D6.q1 D6.swap.q1
          clear ewg
          refine ⟨_, rfl, h6, ?_⟩
          simp only [List.setIfInBounds_toArray, List.set_cons_zero, List.set_cons_succ]
          refine takeVal 24 273 (.bool false) rfl (by kernel_rfl) (by kernel_rfl) (by kernel_rfl) rfl (by rfl) (fun _ _ _ h => h) h6 (fun W' hw' => by go_simp) ?_
          simp only [List.setIfInBounds_toArray, List.set_cons_zero, List.set_cons_succ]
          refine takeVal 25 274 (.bool false) rfl (by kernel_rfl) (by kernel_rfl) (by kernel_rfl) rfl (by rfl) (fun _ _ _ h => h) h6 (fun W' hw' => rfl) ?_
          simp only [List.setIfInBounds_toArray, List.set_cons_zero, List.set_cons_succ]
          refine takeVal 26 275 (.bool false) rfl (by kernel_rfl) (by kernel_rfl) (by kernel_rfl) rfl (by rfl) (fun _ _ _ h => h) h6 (fun W' hw' => rfl) ?_
          simp only [List.setIfInBounds_toArray, List.set_cons_zero, List.set_cons_succ]
          refine takeVal 27 276 (.pointer (some ⟨t, 0, none⟩)) rfl (by kernel_rfl) (by kernel_rfl) (by kernel_rfl) rfl (by rfl) (fun _ _ _ h => h) h6 (fun W' hw' => rfl) ?_
          simp only [List.setIfInBounds_toArray, List.set_cons_zero, List.set_cons_succ]
          refine takeVal 28 277 (.pointer (some ⟨t, 0, none⟩)) rfl (by kernel_rfl) (by kernel_rfl) (by kernel_rfl) rfl (by rfl) (fun _ _ _ h => h) h6 (fun W' hw' => by go_simp) ?_
          simp only [List.setIfInBounds_toArray, List.set_cons_zero, List.set_cons_succ]
          refine takeVal 29 278 (.pointer (some ⟨t, 1, none⟩)) rfl (by kernel_rfl) (by kernel_rfl) (by kernel_rfl) rfl (by rfl) (fun _ _ _ h => h) h6 (fun W' hw' => by go_simp) ?_
          simp only [List.setIfInBounds_toArray, List.set_cons_zero, List.set_cons_succ]
          refine takeVal 30 279 (.pointer (some ⟨c, 0, none⟩)) rfl (by kernel_rfl) (by kernel_rfl) (by kernel_rfl) rfl (by rfl) (fun _ _ _ h => h) h6 (fun W' hw' => by have hc := hw'.1; go_simp) ?_
          simp only [List.setIfInBounds_toArray, List.set_cons_zero, List.set_cons_succ]
          refine takeVal 32 281 (.pointer (some ⟨t2, 0, none⟩)) rfl (by kernel_rfl) (by kernel_rfl) (by kernel_rfl) rfl (by rfl) (fun _ _ _ h => h) h6 (fun W' hw' => rfl) ?_
          simp only [List.setIfInBounds_toArray, List.set_cons_zero, List.set_cons_succ]
          refine takeVal 33 282 (.pointer (some ⟨t2, 0, none⟩)) rfl (by kernel_rfl) (by kernel_rfl) (by kernel_rfl) rfl (by rfl) (fun _ _ _ h => h) h6 (fun W' hw' => by go_simp) ?_
          simp only [List.setIfInBounds_toArray, List.set_cons_zero, List.set_cons_succ]
          refine takeVal 34 283 (.pointer (some ⟨t2, 1, none⟩)) rfl (by kernel_rfl) (by kernel_rfl) (by kernel_rfl) rfl (by rfl) (fun _ _ _ h => h) h6 (fun W' hw' => by go_simp) ?_
          simp only [List.setIfInBounds_toArray, List.set_cons_zero, List.set_cons_succ]
          refine takeVal 35 284 (.pointer (some ⟨x2, 0, none⟩)) rfl (by kernel_rfl) (by kernel_rfl) (by kernel_rfl) rfl (by rfl) (fun _ _ _ h => h) h6 (fun W' hw' => by have hc := hw'.2; go_simp) ?_
          simp only [List.setIfInBounds_toArray, List.set_cons_zero, List.set_cons_succ]
          refine step1 31 (by kernel_rfl) ?_
          refine stCall 31 280 7 #[.pointer (some ⟨c, 0, none⟩)] _ rfl rfl (by rfl) (by go_simp) (D6.landed HQ.out.ld) ?_
          rintro e wh ⟨vi, vj, rfl, D7⟩
          have h7 := And.intro D7.q1 D7.swap.q1
          refine ⟨_, rfl, h7, ?_⟩
          simp only [List.setIfInBounds_toArray, List.set_cons_zero, List.set_cons_succ]
          refine step1 36 (by kernel_rfl) ?_
          refine stCall 36 285 7 #[.pointer (some ⟨x2, 0, none⟩)] _ rfl rfl (by rfl) (by go_simp) (D7.swap.landed HQ.out.ld) ?_
          rintro e wi ⟨vk, vl, rfl, D8⟩
          have h8 := And.intro D8.swap.q1 D8.q1
          refine ⟨_, rfl, h8, ?_⟩
          simp only [List.setIfInBounds_toArray, List.set_cons_zero, List.set_cons_succ]
          refine step1 37 (by kernel_rfl) ?_
          refine stCall 37 286 10 #[.slice vi 0 vj, .slice vk 0 vl] _ rfl rfl (by rfl) (by go_simp) (sameInts_same [] vi vk vj vl _ (by decide) (.inl rfl) (.inl rfl)) ?_
          rintro e wj ⟨rfl, hcj⟩
          have D9 := D8.swap.call hcj
          have h9 := And.intro D9.q1 D9.swap.q1
          refine ⟨_, rfl, h9, ?_⟩
          simp only [List.setIfInBounds_toArray, List.set_cons_zero, List.set_cons_succ]
          refine takeVal 38 287 (.bool false) rfl (by kernel_rfl) (by kernel_rfl) (by kernel_rfl) rfl (by rfl) (fun _ _ _ h => h) h9 (fun W' hw' => by go_simp) ?_
          simp only [List.setIfInBounds_toArray, List.set_cons_zero, List.set_cons_succ]
          refine takeVal 39 288 (.bool false) rfl (by kernel_rfl) (by kernel_rfl) (by kernel_rfl) rfl (by rfl) (fun _ _ _ h => h) h9 (fun W' hw' => rfl) ?_
          simp only [List.setIfInBounds_toArray, List.set_cons_zero, List.set_cons_succ]
          refine wpAnyH_done (by kernel_rfl) ?_ _
          refine NoPanic.normal ?_
          have E0 := hid D9
          clear D0 D1 D2 D3 D4 D5 D6 D7 D8 D9 h1 h2 h3 h4 h5 h6 h7 h8 h9 hLa hLb hca hcb hcd hEL hFL hEA hFA hce hcf hcj hHeld HD HLL
          go_upto_region 30 with fail
          have hsy := HQ.out.sync
          have HSY := hid (fun (X : World) (hX : Duo w X n t c p g lb db t2 x2 p2 g2 lb2 db2 { s2 with z := z } { s2 with z := z }) => hX.sync HTB.out HWB.out)
          dsimp only at HSY
          have HSZ := hid (fun (X : World) (z1 : CSt) (hX : Duo w X n t2 x2 p2 g2 lb2 db2 t c p g lb db { s2 with z := z } { s2 with z := z1 }) => hX.sync HTB.out HWB.out)
          dsimp only at HSZ
          generalize hr1 : syncC n z = r1 at *
          obtain ⟨z1, e1⟩ := r1
          dsimp only at hsy HSY HSZ
          subst hsy
          clear hr1
          refine wp_region_noPanic ?_
          refine wp_region_held_drew (S := fun w' => (w'.cell? ⟨t, 1, none⟩ = some (.pointer (some ⟨c, 0, none⟩)) ∧ w'.cell? ⟨t2, 1, none⟩ = some (.pointer (some ⟨x2, 0, none⟩))) ∧ w'.cell? ⟨t, 0, none⟩ = some (.pointer (some ⟨p, 0, none⟩)) ∧ w'.cell? ⟨t2, 0, none⟩ = some (.pointer (some ⟨p2, 0, none⟩))) (by kernel_rfl) (And.intro (And.intro E0.out.q1 E0.out.swap.q1) (And.intro E0.out.q0 E0.out.swap.q0)) (fun hHeld => ?_)
          have F0 := E0.out.call (Chg.refl wj No).drew
          refine takeVal 0 289 (.pointer (some ⟨t, 0, none⟩)) rfl (by kernel_rfl) (by kernel_rfl) (by kernel_rfl) rfl (by rfl) (fun _ _ _ h => h) hHeld (fun W' hw' => rfl) ?_
          simp only [List.setIfInBounds_toArray, List.set_cons_zero, List.set_cons_succ]
          refine takeVal 1 290 (.pointer (some ⟨t, 0, none⟩)) rfl (by kernel_rfl) (by kernel_rfl) (by kernel_rfl) rfl (by rfl) (fun _ _ _ h => h) hHeld (fun W' hw' => by go_simp) ?_
          simp only [List.setIfInBounds_toArray, List.set_cons_zero, List.set_cons_succ]
          refine takeVal 2 291 (.pointer (some ⟨t, 1, none⟩)) rfl (by kernel_rfl) (by kernel_rfl) (by kernel_rfl) rfl (by rfl) (fun _ _ _ h => h) hHeld (fun W' hw' => by go_simp) ?_
          simp only [List.setIfInBounds_toArray, List.set_cons_zero, List.set_cons_succ]
          refine takeVal 3 292 (.pointer (some ⟨c, 0, none⟩)) rfl (by kernel_rfl) (by kernel_rfl) (by kernel_rfl) rfl (by rfl) (fun _ _ _ h => h) hHeld (fun W' hw' => by have hc := hw'.1.1; go_simp) ?_
          simp only [List.setIfInBounds_toArray, List.set_cons_zero, List.set_cons_succ]
          refine step1 4 (by kernel_rfl) ?_
          refine stCall 4 293 24 #[.pointer (some ⟨c, 0, none⟩)] _ rfl rfl (by rfl) (by go_simp) (HSY.out _ F0) ?_
          rintro e wk ⟨rfl, F1⟩
          have g1 := And.intro (And.intro F1.q1 F1.swap.q1) (And.intro F1.q0 F1.swap.q0)
          refine ⟨_, rfl, g1, ?_⟩
          simp only [List.setIfInBounds_toArray, List.set_cons_zero, List.set_cons_succ]
          refine takeVal 5 294 (.bool true) rfl (by kernel_rfl) (by kernel_rfl) (by kernel_rfl) rfl (by rfl) (fun _ _ _ h => h) g1 (fun W' hw' => by go_simp) ?_
          simp only [List.setIfInBounds_toArray, List.set_cons_zero, List.set_cons_succ]
          refine takeVal 6 295 (.bool true) rfl (by kernel_rfl) (by kernel_rfl) (by kernel_rfl) rfl (by rfl) (fun _ _ _ h => h) g1 (fun W' hw' => rfl) ?_
          simp only [List.setIfInBounds_toArray, List.set_cons_zero, List.set_cons_succ]
          refine takeVal 7 296 (.pointer (some ⟨t2, 0, none⟩)) rfl (by kernel_rfl) (by kernel_rfl) (by kernel_rfl) rfl (by rfl) (fun _ _ _ h => h) g1 (fun W' hw' => rfl) ?_
          simp only [List.setIfInBounds_toArray, List.set_cons_zero, List.set_cons_succ]
          refine takeVal 8 297 (.pointer (some ⟨t2, 0, none⟩)) rfl (by kernel_rfl) (by kernel_rfl) (by kernel_rfl) rfl (by rfl) (fun _ _ _ h => h) g1 (fun W' hw' => by go_simp) ?_
          simp only [List.setIfInBounds_toArray, List.set_cons_zero, List.set_cons_succ]
          refine takeVal 9 298 (.pointer (some ⟨t2, 1, none⟩)) rfl (by kernel_rfl) (by kernel_rfl) (by kernel_rfl) rfl (by rfl) (fun _ _ _ h => h) g1 (fun W' hw' => by go_simp) ?_
          simp only [List.setIfInBounds_toArray, List.set_cons_zero, List.set_cons_succ]
          refine takeVal 10 299 (.pointer (some ⟨x2, 0, none⟩)) rfl (by kernel_rfl) (by kernel_rfl) (by kernel_rfl) rfl (by rfl) (fun _ _ _ h => h) g1 (fun W' hw' => by have hc := hw'.1.2; go_simp) ?_
          simp only [List.setIfInBounds_toArray, List.set_cons_zero, List.set_cons_succ]
          refine step1 11 (by kernel_rfl) ?_
          refine stCall 11 300 24 #[.pointer (some ⟨x2, 0, none⟩)] _ rfl rfl (by rfl) (by go_simp) (HSZ.out _ _ F1.swap) ?_
          rintro e wl ⟨rfl, F2⟩
          have g2x := And.intro (And.intro F2.swap.q1 F2.q1) (And.intro F2.swap.q0 F2.q0)
          refine ⟨_, rfl, g2x, ?_⟩
          simp only [List.setIfInBounds_toArray, List.set_cons_zero, List.set_cons_succ]
          refine takeVal 12 301 (.bool true) rfl (by kernel_rfl) (by kernel_rfl) (by kernel_rfl) rfl (by rfl) (fun _ _ _ h => h) g2x (fun W' hw' => by go_simp) ?_
          simp only [List.setIfInBounds_toArray, List.set_cons_zero, List.set_cons_succ]
          refine takeVal 13 302 (.bool true) rfl (by kernel_rfl) (by kernel_rfl) (by kernel_rfl) rfl (by rfl) (fun _ _ _ h => h) g2x (fun W' hw' => rfl) ?_
          simp only [List.setIfInBounds_toArray, List.set_cons_zero, List.set_cons_succ]
          refine takeVal 14 303 (.bool true) rfl (by kernel_rfl) (by kernel_rfl) (by kernel_rfl) rfl (by rfl) (fun _ _ _ h => h) g2x (fun W' hw' => rfl) ?_
          simp only [List.setIfInBounds_toArray, List.set_cons_zero, List.set_cons_succ]
          refine takeVal 15 304 (.pointer (some ⟨t, 0, none⟩)) rfl (by kernel_rfl) (by kernel_rfl) (by kernel_rfl) rfl (by rfl) (fun _ _ _ h => h) g2x (fun W' hw' => rfl) ?_
          simp only [List.setIfInBounds_toArray, List.set_cons_zero, List.set_cons_succ]
          refine takeVal 16 305 (.pointer (some ⟨t, 0, none⟩)) rfl (by kernel_rfl) (by kernel_rfl) (by kernel_rfl) rfl (by rfl) (fun _ _ _ h => h) g2x (fun W' hw' => by go_simp) ?_
          simp only [List.setIfInBounds_toArray, List.set_cons_zero, List.set_cons_succ]
          refine takeVal 17 306 (.pointer (some ⟨t, 0, none⟩)) rfl (by kernel_rfl) (by kernel_rfl) (by kernel_rfl) rfl (by rfl) (fun _ _ _ h => h) g2x (fun W' hw' => by go_simp) ?_
          simp only [List.setIfInBounds_toArray, List.set_cons_zero, List.set_cons_succ]
          refine takeVal 18 307 (.pointer (some ⟨p, 0, none⟩)) rfl (by kernel_rfl) (by kernel_rfl) (by kernel_rfl) rfl (by rfl) (fun _ _ _ h => h) g2x (fun W' hw' => by have hc := hw'.2.1; go_simp) ?_
          simp only [List.setIfInBounds_toArray, List.set_cons_zero, List.set_cons_succ]
          refine takeVal 20 309 (.pointer (some ⟨t2, 0, none⟩)) rfl (by kernel_rfl) (by kernel_rfl) (by kernel_rfl) rfl (by rfl) (fun _ _ _ h => h) g2x (fun W' hw' => rfl) ?_
          simp only [List.setIfInBounds_toArray, List.set_cons_zero, List.set_cons_succ]
          refine takeVal 21 310 (.pointer (some ⟨t2, 0, none⟩)) rfl (by kernel_rfl) (by kernel_rfl) (by kernel_rfl) rfl (by rfl) (fun _ _ _ h => h) g2x (fun W' hw' => by go_simp) ?_
          simp only [List.setIfInBounds_toArray, List.set_cons_zero, List.set_cons_succ]
          refine takeVal 22 311 (.pointer (some ⟨t2, 0, none⟩)) rfl (by kernel_rfl) (by kernel_rfl) (by kernel_rfl) rfl (by rfl) (fun _ _ _ h => h) g2x (fun W' hw' => by go_simp) ?_
          simp only [List.setIfInBounds_toArray, List.set_cons_zero, List.set_cons_succ]
          refine takeVal 23 312 (.pointer (some ⟨p2, 0, none⟩)) rfl (by kernel_rfl) (by kernel_rfl) (by kernel_rfl) rfl (by rfl) (fun _ _ _ h => h) g2x (fun W' hw' => by have hc := hw'.2.2; go_simp) ?_
          simp only [List.setIfInBounds_toArray, List.set_cons_zero, List.set_cons_succ]
          refine step1 19 (by kernel_rfl) ?_
          refine stCall 19 308 26 #[.pointer (some ⟨p, 0, none⟩)] _ rfl rfl (by rfl) (by go_simp) (F2.swap.image) ?_
          rintro e wm ⟨q, rfl, hq, hcm⟩
          have F3 := F2.swap.call hcm
          have g3 := And.intro (And.intro F3.q1 F3.swap.q1) (And.intro F3.q0 F3.swap.q0)
          refine ⟨_, rfl, g3, ?_⟩
          simp only [List.setIfInBounds_toArray, List.set_cons_zero, List.set_cons_succ]
          refine step1 24 (by kernel_rfl) ?_
          refine stCall 24 313 26 #[.pointer (some ⟨p2, 0, none⟩)] _ rfl rfl (by rfl) (by go_simp) (F3.swap.image) ?_
          rintro e wn ⟨q8, rfl, hq8, hcn⟩
          have F4 := F3.call hcn
          have g4 := And.intro (And.intro F4.q1 F4.swap.q1) (And.intro F4.q0 F4.swap.q0)
          refine ⟨_, rfl, g4, ?_⟩
          simp only [List.setIfInBounds_toArray, List.set_cons_zero, List.set_cons_succ]
          refine step1 25 (by kernel_rfl) ?_
          refine stCall 25 314 25 #[.slice (some ⟨q, 0, none⟩) n n, .slice (some ⟨q8, 0, none⟩) n n] _ rfl rfl (by rfl) (by go_simp) (D.same_any z1.d.S n _ _ _ _ _ F4.slen (by omega) (bytes_rowQ (hcn.keep hq (fun e => e))) (bytes_rowQ hq8)) ?_
          rintro e wo ⟨rfl, dn, ewo⟩
          have F5 : Duo w wo n t c p g lb db t2 x2 p2 g2 lb2 db2 { s2 with z := z1 } { s2 with z := z1 } := by rw [ewo]; exact F4.call (chg_drewN _ _)
          have g5 := And.intro (And.intro F5.q1 F5.swap.q1) (And.intro F5.q0 F5.swap.q0)
          clear ewo
          refine ⟨_, rfl, g5, ?_⟩
          simp only [List.setIfInBounds_toArray, List.set_cons_zero, List.set_cons_succ]
          refine takeVal 26 315 (.bool true) rfl (by kernel_rfl) (by kernel_rfl) (by kernel_rfl) rfl (by rfl) (fun _ _ _ h => h) g5 (fun W' hw' => rfl) ?_
          simp only [List.setIfInBounds_toArray, List.set_cons_zero, List.set_cons_succ]
          refine takeVal 27 316 (.bool true) rfl (by kernel_rfl) (by kernel_rfl) (by kernel_rfl) rfl (by rfl) (fun _ _ _ h => h) g5 (fun W' hw' => rfl) ?_
          simp only [List.setIfInBounds_toArray, List.set_cons_zero, List.set_cons_succ]
          refine takeVal 28 317 (.pointer (some ⟨t, 0, none⟩)) rfl (by kernel_rfl) (by kernel_rfl) (by kernel_rfl) rfl (by rfl) (fun _ _ _ h => h) g5 (fun W' hw' => rfl) ?_
          simp only [List.setIfInBounds_toArray, List.set_cons_zero, List.set_cons_succ]
          refine takeVal 29 318 (.pointer (some ⟨t, 0, none⟩)) rfl (by kernel_rfl) (by kernel_rfl) (by kernel_rfl) rfl (by rfl) (fun _ _ _ h => h) g5 (fun W' hw' => by go_simp) ?_
          simp only [List.setIfInBounds_toArray, List.set_cons_zero, List.set_cons_succ]
          refine takeVal 30 319 (.pointer (some ⟨t, 0, none⟩)) rfl (by kernel_rfl) (by kernel_rfl) (by kernel_rfl) rfl (by rfl) (fun _ _ _ h => h) g5 (fun W' hw' => by go_simp) ?_
          simp only [List.setIfInBounds_toArray, List.set_cons_zero, List.set_cons_succ]
          refine takeVal 31 320 (.pointer (some ⟨p, 0, none⟩)) rfl (by kernel_rfl) (by kernel_rfl) (by kernel_rfl) rfl (by rfl) (fun _ _ _ h => h) g5 (fun W' hw' => by have hc := hw'.2.1; go_simp) ?_
          simp only [List.setIfInBounds_toArray, List.set_cons_zero, List.set_cons_succ]
          refine takeVal 33 322 (.pointer (some ⟨t2, 0, none⟩)) rfl (by kernel_rfl) (by kernel_rfl) (by kernel_rfl) rfl (by rfl) (fun _ _ _ h => h) g5 (fun W' hw' => rfl) ?_
          simp only [List.setIfInBounds_toArray, List.set_cons_zero, List.set_cons_succ]
          refine takeVal 34 323 (.pointer (some ⟨t2, 0, none⟩)) rfl (by kernel_rfl) (by kernel_rfl) (by kernel_rfl) rfl (by rfl) (fun _ _ _ h => h) g5 (fun W' hw' => by go_simp) ?_
          simp only [List.setIfInBounds_toArray, List.set_cons_zero, List.set_cons_succ]
          refine takeVal 35 324 (.pointer (some ⟨t2, 0, none⟩)) rfl (by kernel_rfl) (by kernel_rfl) (by kernel_rfl) rfl (by rfl) (fun _ _ _ h => h) g5 (fun W' hw' => by go_simp) ?_
          simp only [List.setIfInBounds_toArray, List.set_cons_zero, List.set_cons_succ]
          refine takeVal 36 325 (.pointer (some ⟨p2, 0, none⟩)) rfl (by kernel_rfl) (by kernel_rfl) (by kernel_rfl) rfl (by rfl) (fun _ _ _ h => h) g5 (fun W' hw' => by have hc := hw'.2.2; go_simp) ?_
          simp only [List.setIfInBounds_toArray, List.set_cons_zero, List.set_cons_succ]
          refine step1 32 (by kernel_rfl) ?_
          refine stCall 32 321 27 #[.pointer (some ⟨p, 0, none⟩)] _ rfl rfl (by rfl) (by go_simp) (F5.wr) ?_
          rintro e wp ⟨rfl, ewp⟩
          subst ewp
          refine ⟨_, rfl, g5, ?_⟩
          simp only [List.setIfInBounds_toArray, List.set_cons_zero, List.set_cons_succ]
          refine step1 37 (by kernel_rfl) ?_
          refine stCall 37 326 27 #[.pointer (some ⟨p2, 0, none⟩)] _ rfl rfl (by rfl) (by go_simp) (F5.swap.wr) ?_
          rintro e wq ⟨rfl, ewq⟩
          subst ewq
          refine ⟨_, rfl, g5, ?_⟩
          simp only [List.setIfInBounds_toArray, List.set_cons_zero, List.set_cons_succ]
          refine takeVal 38 327 (.bool true) rfl (by kernel_rfl) (by kernel_rfl) (by kernel_rfl) rfl (by rfl) (fun _ _ _ h => h) g5 (fun W' hw' => by go_simp) ?_
          simp only [List.setIfInBounds_toArray, List.set_cons_zero, List.set_cons_succ]
          refine takeVal 39 328 (.bool true) rfl (by kernel_rfl) (by kernel_rfl) (by kernel_rfl) rfl (by rfl) (fun _ _ _ h => h) g5 (fun W' hw' => rfl) ?_
          simp only [List.setIfInBounds_toArray, List.set_cons_zero, List.set_cons_succ]
          refine takeVal 40 6 (.bool true) rfl (by kernel_rfl) (by kernel_rfl) (by kernel_rfl) rfl (by rfl) (fun _ _ _ h => h) g5 (fun W' hw' => rfl) ?_
          simp only [List.setIfInBounds_toArray, List.set_cons_zero, List.set_cons_succ]
          refine wpAnyH_done (by kernel_rfl) ?_ _
          refine NoPanic.normal ?_
          have hch := F5.ch
          clear F0 F1 F2 F3 F4 F5 g1 g2x g3 g4 g5 hHeld
          go_wp2_with fail
          go_ret
          exact ⟨rfl, hch⟩

    · as_aux_lemma =>
        have i1 : ¬ ((k : Int) < (m2 : Int)) := by omega
        go_upto_region 28 with fail
        have D0 := HD.out.call (Chg.refl wr No).drew
        have HTB := hid HQ.out.tb
        have HWB : Hid (z.d.wr < 4611686018427380000) := hid (by have := HW.out; have := HML.out; omega)
        have hLl := secs_len z.dirty
        have HLL := hid hLl
        clear hLl
        refine wp_region_noPanic ?_
        refine wp_region_held_drew (S := fun w' => w'.cell? ⟨t, 1, none⟩ = some (.pointer (some ⟨c, 0, none⟩)) ∧ w'.cell? ⟨t2, 1, none⟩ = some (.pointer (some ⟨x2, 0, none⟩))) (by kernel_rfl) ⟨HD.out.q1, HD.out.swap.q1⟩ (fun hHeld => ?_)
        refine takeVal 0 249 (.pointer (some ⟨t, 0, none⟩)) rfl (by kernel_rfl) (by kernel_rfl) (by kernel_rfl) rfl (by rfl) (fun _ _ _ h => h) hHeld (fun W' hw' => rfl) ?_
        simp only [List.setIfInBounds_toArray, List.set_cons_zero, List.set_cons_succ]
        refine takeVal 1 250 (.pointer (some ⟨t, 0, none⟩)) rfl (by kernel_rfl) (by kernel_rfl) (by kernel_rfl) rfl (by rfl) (fun _ _ _ h => h) hHeld (fun W' hw' => by go_simp) ?_
        simp only [List.setIfInBounds_toArray, List.set_cons_zero, List.set_cons_succ]
        refine takeVal 2 251 (.pointer (some ⟨t, 1, none⟩)) rfl (by kernel_rfl) (by kernel_rfl) (by kernel_rfl) rfl (by rfl) (fun _ _ _ h => h) hHeld (fun W' hw' => by go_simp) ?_
        simp only [List.setIfInBounds_toArray, List.set_cons_zero, List.set_cons_succ]
        refine takeVal 3 252 (.pointer (some ⟨c, 0, none⟩)) rfl (by kernel_rfl) (by kernel_rfl) (by kernel_rfl) rfl (by rfl) (fun _ _ _ h => h) hHeld (fun W' hw' => by have hc := hw'.1; go_simp) ?_
        simp only [List.setIfInBounds_toArray, List.set_cons_zero, List.set_cons_succ]
        refine takeVal 5 254 (.pointer (some ⟨t2, 0, none⟩)) rfl (by kernel_rfl) (by kernel_rfl) (by kernel_rfl) rfl (by rfl) (fun _ _ _ h => h) hHeld (fun W' hw' => rfl) ?_
        simp only [List.setIfInBounds_toArray, List.set_cons_zero, List.set_cons_succ]
        refine takeVal 6 255 (.pointer (some ⟨t2, 0, none⟩)) rfl (by kernel_rfl) (by kernel_rfl) (by kernel_rfl) rfl (by rfl) (fun _ _ _ h => h) hHeld (fun W' hw' => by go_simp) ?_
        simp only [List.setIfInBounds_toArray, List.set_cons_zero, List.set_cons_succ]
        refine takeVal 7 256 (.pointer (some ⟨t2, 1, none⟩)) rfl (by kernel_rfl) (by kernel_rfl) (by kernel_rfl) rfl (by rfl) (fun _ _ _ h => h) hHeld (fun W' hw' => by go_simp) ?_
        simp only [List.setIfInBounds_toArray, List.set_cons_zero, List.set_cons_succ]
        refine takeVal 8 257 (.pointer (some ⟨x2, 0, none⟩)) rfl (by kernel_rfl) (by kernel_rfl) (by kernel_rfl) rfl (by rfl) (fun _ _ _ h => h) hHeld (fun W' hw' => by have hc := hw'.2; go_simp) ?_
        simp only [List.setIfInBounds_toArray, List.set_cons_zero, List.set_cons_succ]
        refine step1 4 (by kernel_rfl) ?_
        refine stCall 4 253 11 #[.pointer (some ⟨c, 0, none⟩)] _ rfl rfl (by rfl) (by go_simp) (D0.dirtyL) ?_
        rintro e wa ⟨va, vc, rfl, hLa, hca⟩
        have D1 := D0.call hca
        have h1 := And.intro D1.q1 D1.swap.q1
        refine ⟨_, rfl, h1, ?_⟩
        simp only [List.setIfInBounds_toArray, List.set_cons_zero, List.set_cons_succ]
        refine step1 9 (by kernel_rfl) ?_
        refine stCall 9 258 11 #[.pointer (some ⟨x2, 0, none⟩)] _ rfl rfl (by rfl) (by go_simp) (D1.swap.dirtyL) ?_
        rintro e wb ⟨vb, vd, rfl, hLb, hcb⟩
        have D2 := D1.call hcb
        have h2 := And.intro D2.q1 D2.swap.q1
        refine ⟨_, rfl, h2, ?_⟩
        simp only [List.setIfInBounds_toArray, List.set_cons_zero, List.set_cons_succ]
        refine step1 10 (by kernel_rfl) ?_
        refine stCall 10 259 10 #[.slice va (secs z.dirty).length vc, .slice vb (secs z.dirty).length vd] _ rfl rfl (by rfl) (by go_simp) (sameInts_same (secs z.dirty) va vb vc vd _ HLL.out (hLa.call hcb) hLb) ?_
        rintro e wd ⟨rfl, hcd⟩
        have D3 := D2.call hcd
        have h3 := And.intro D3.q1 D3.swap.q1
        refine ⟨_, rfl, h3, ?_⟩
        simp only [List.setIfInBounds_toArray, List.set_cons_zero, List.set_cons_succ]
        refine takeVal 11 260 (.bool false) rfl (by kernel_rfl) (by kernel_rfl) (by kernel_rfl) rfl (by rfl) (fun _ _ _ h => h) h3 (fun W' hw' => by go_simp) ?_
        simp only [List.setIfInBounds_toArray, List.set_cons_zero, List.set_cons_succ]
        refine takeVal 12 261 (.bool false) rfl (by kernel_rfl) (by kernel_rfl) (by kernel_rfl) rfl (by rfl) (fun _ _ _ h => h) h3 (fun W' hw' => rfl) ?_
        simp only [List.setIfInBounds_toArray, List.set_cons_zero, List.set_cons_succ]
        refine takeVal 13 262 (.pointer (some ⟨t, 0, none⟩)) rfl (by kernel_rfl) (by kernel_rfl) (by kernel_rfl) rfl (by rfl) (fun _ _ _ h => h) h3 (fun W' hw' => rfl) ?_
        simp only [List.setIfInBounds_toArray, List.set_cons_zero, List.set_cons_succ]
        refine takeVal 14 263 (.pointer (some ⟨t, 0, none⟩)) rfl (by kernel_rfl) (by kernel_rfl) (by kernel_rfl) rfl (by rfl) (fun _ _ _ h => h) h3 (fun W' hw' => by go_simp) ?_
        simp only [List.setIfInBounds_toArray, List.set_cons_zero, List.set_cons_succ]
        refine takeVal 15 264 (.pointer (some ⟨t, 1, none⟩)) rfl (by kernel_rfl) (by kernel_rfl) (by kernel_rfl) rfl (by rfl) (fun _ _ _ h => h) h3 (fun W' hw' => by go_simp) ?_
        simp only [List.setIfInBounds_toArray, List.set_cons_zero, List.set_cons_succ]
        refine takeVal 16 265 (.pointer (some ⟨c, 0, none⟩)) rfl (by kernel_rfl) (by kernel_rfl) (by kernel_rfl) rfl (by rfl) (fun _ _ _ h => h) h3 (fun W' hw' => by have hc := hw'.1; go_simp) ?_
        simp only [List.setIfInBounds_toArray, List.set_cons_zero, List.set_cons_succ]
        refine takeVal 18 267 (.pointer (some ⟨t2, 0, none⟩)) rfl (by kernel_rfl) (by kernel_rfl) (by kernel_rfl) rfl (by rfl) (fun _ _ _ h => h) h3 (fun W' hw' => rfl) ?_
        simp only [List.setIfInBounds_toArray, List.set_cons_zero, List.set_cons_succ]
        refine takeVal 19 268 (.pointer (some ⟨t2, 0, none⟩)) rfl (by kernel_rfl) (by kernel_rfl) (by kernel_rfl) rfl (by rfl) (fun _ _ _ h => h) h3 (fun W' hw' => by go_simp) ?_
        simp only [List.setIfInBounds_toArray, List.set_cons_zero, List.set_cons_succ]
        refine takeVal 20 269 (.pointer (some ⟨t2, 1, none⟩)) rfl (by kernel_rfl) (by kernel_rfl) (by kernel_rfl) rfl (by rfl) (fun _ _ _ h => h) h3 (fun W' hw' => by go_simp) ?_
        simp only [List.setIfInBounds_toArray, List.set_cons_zero, List.set_cons_succ]
        refine takeVal 21 270 (.pointer (some ⟨x2, 0, none⟩)) rfl (by kernel_rfl) (by kernel_rfl) (by kernel_rfl) rfl (by rfl) (fun _ _ _ h => h) h3 (fun W' hw' => by have hc := hw'.2; go_simp) ?_
        simp only [List.setIfInBounds_toArray, List.set_cons_zero, List.set_cons_succ]
        refine step1 17 (by kernel_rfl) ?_
        refine stCall 17 266 21 #[.pointer (some ⟨c, 0, none⟩)] _ rfl rfl (by rfl) (by go_simp) (D3.edges) ?_
        rintro e we ⟨ve, vf, lE, rfl, hEL, hEA, hce⟩
        have D4 := D3.call hce
        have h4 := And.intro D4.q1 D4.swap.q1
        refine ⟨_, rfl, h4, ?_⟩
        simp only [List.setIfInBounds_toArray, List.set_cons_zero, List.set_cons_succ]
        refine step1 22 (by kernel_rfl) ?_
        refine stCall 22 271 21 #[.pointer (some ⟨x2, 0, none⟩)] _ rfl rfl (by rfl) (by go_simp) (D4.swap.edges) ?_
        rintro e wf ⟨vg, vh, lF, rfl, hFL, hFA, hcf⟩
        obtain rfl : lE = lF := elist_oneQ hEL hFL
        have D5 := D4.call hcf
        have h5 := And.intro D5.q1 D5.swap.q1
        refine ⟨_, rfl, h5, ?_⟩
        simp only [List.setIfInBounds_toArray, List.set_cons_zero, List.set_cons_succ]
        refine step1 23 (by kernel_rfl) ?_
        refine stCall 23 272 23 #[.slice ve lE.length vf, .slice vg lE.length vh] _ rfl rfl (by rfl) (by go_simp) (sameEdges_same lE ve vg vf vh _ (Nat.le_trans (elist_len2 hEL (D5.inv.inSec)) (by decide)) (hEA.call hcf) hFA) ?_
        rintro e wg ⟨rfl, dn, ewg⟩
        have D6 : Duo w wg n t c p g lb db t2 x2 p2 g2 lb2 db2 { s2 with z := z } { s2 with z := z } := by rw [ewg]; exact D5.call (chg_drewN _ _)
        have h6 := And.intro D6.q1 D6.swap.q1
        clear ewg
        refine ⟨_, rfl, h6, ?_⟩
        simp only [List.setIfInBounds_toArray, List.set_cons_zero, List.set_cons_succ]
        refine takeVal 24 273 (.bool false) rfl (by kernel_rfl) (by kernel_rfl) (by kernel_rfl) rfl (by rfl) (fun _ _ _ h => h) h6 (fun W' hw' => by go_simp) ?_
        simp only [List.setIfInBounds_toArray, List.set_cons_zero, List.set_cons_succ]
        refine takeVal 25 274 (.bool false) rfl (by kernel_rfl) (by kernel_rfl) (by kernel_rfl) rfl (by rfl) (fun _ _ _ h => h) h6 (fun W' hw' => rfl) ?_
        simp only [List.setIfInBounds_toArray, List.set_cons_zero, List.set_cons_succ]
        refine takeVal 26 275 (.bool false) rfl (by kernel_rfl) (by kernel_rfl) (by kernel_rfl) rfl (by rfl) (fun _ _ _ h => h) h6 (fun W' hw' => rfl) ?_
        simp only [List.setIfInBounds_toArray, List.set_cons_zero, List.set_cons_succ]
        refine takeVal 27 276 (.pointer (some ⟨t, 0, none⟩)) rfl (by kernel_rfl) (by kernel_rfl) (by kernel_rfl) rfl (by rfl) (fun _ _ _ h => h) h6 (fun W' hw' => rfl) ?_
        simp only [List.setIfInBounds_toArray, List.set_cons_zero, List.set_cons_succ]
        refine takeVal 28 277 (.pointer (some ⟨t, 0, none⟩)) rfl (by kernel_rfl) (by kernel_rfl) (by kernel_rfl) rfl (by rfl) (fun _ _ _ h => h) h6 (fun W' hw' => by go_simp) ?_
        simp only [List.setIfInBounds_toArray, List.set_cons_zero, List.set_cons_succ]
        refine takeVal 29 278 (.pointer (some ⟨t, 1, none⟩)) rfl (by kernel_rfl) (by kernel_rfl) (by kernel_rfl) rfl (by rfl) (fun _ _ _ h => h) h6 (fun W' hw' => by go_simp) ?_
        simp only [List.setIfInBounds_toArray, List.set_cons_zero, List.set_cons_succ]
        refine takeVal 30 279 (.pointer (some ⟨c, 0, none⟩)) rfl (by kernel_rfl) (by kernel_rfl) (by kernel_rfl) rfl (by rfl) (fun _ _ _ h => h) h6 (fun W' hw' => by have hc := hw'.1; go_simp) ?_
        simp only [List.setIfInBounds_toArray, List.set_cons_zero, List.set_cons_succ]
        refine takeVal 32 281 (.pointer (some ⟨t2, 0, none⟩)) rfl (by kernel_rfl) (by kernel_rfl) (by kernel_rfl) rfl (by rfl) (fun _ _ _ h => h) h6 (fun W' hw' => rfl) ?_
        simp only [List.setIfInBounds_toArray, List.set_cons_zero, List.set_cons_succ]
        refine takeVal 33 282 (.pointer (some ⟨t2, 0, none⟩)) rfl (by kernel_rfl) (by kernel_rfl) (by kernel_rfl) rfl (by rfl) (fun _ _ _ h => h) h6 (fun W' hw' => by go_simp) ?_
        simp only [List.setIfInBounds_toArray, List.set_cons_zero, List.set_cons_succ]
        refine takeVal 34 283 (.pointer (some ⟨t2, 1, none⟩)) rfl (by kernel_rfl) (by kernel_rfl) (by kernel_rfl) rfl (by rfl) (fun _ _ _ h => h) h6 (fun W' hw' => by go_simp) ?_
        simp only [List.setIfInBounds_toArray, List.set_cons_zero, List.set_cons_succ]
        refine takeVal 35 284 (.pointer (some ⟨x2, 0, none⟩)) rfl (by kernel_rfl) (by kernel_rfl) (by kernel_rfl) rfl (by rfl) (fun _ _ _ h => h) h6 (fun W' hw' => by have hc := hw'.2; go_simp) ?_
        simp only [List.setIfInBounds_toArray, List.set_cons_zero, List.set_cons_succ]
        refine step1 31 (by kernel_rfl) ?_
        refine stCall 31 280 7 #[.pointer (some ⟨c, 0, none⟩)] _ rfl rfl (by rfl) (by go_simp) (D6.landed HQ.out.ld) ?_
        rintro e wh ⟨vi, vj, rfl, D7⟩
        have h7 := And.intro D7.q1 D7.swap.q1
        refine ⟨_, rfl, h7, ?_⟩
        simp only [List.setIfInBounds_toArray, List.set_cons_zero, List.set_cons_succ]
        refine step1 36 (by kernel_rfl) ?_
        refine stCall 36 285 7 #[.pointer (some ⟨x2, 0, none⟩)] _ rfl rfl (by rfl) (by go_simp) (D7.swap.landed HQ.out.ld) ?_
        rintro e wi ⟨vk, vl, rfl, D8⟩
        have h8 := And.intro D8.swap.q1 D8.q1
        refine ⟨_, rfl, h8, ?_⟩
        simp only [List.setIfInBounds_toArray, List.set_cons_zero, List.set_cons_succ]
        refine step1 37 (by kernel_rfl) ?_
        refine stCall 37 286 10 #[.slice vi 0 vj, .slice vk 0 vl] _ rfl rfl (by rfl) (by go_simp) (sameInts_same [] vi vk vj vl _ (by decide) (.inl rfl) (.inl rfl)) ?_
        rintro e wj ⟨rfl, hcj⟩
        have D9 := D8.swap.call hcj
        have h9 := And.intro D9.q1 D9.swap.q1
        refine ⟨_, rfl, h9, ?_⟩
        simp only [List.setIfInBounds_toArray, List.set_cons_zero, List.set_cons_succ]
        refine takeVal 38 287 (.bool false) rfl (by kernel_rfl) (by kernel_rfl) (by kernel_rfl) rfl (by rfl) (fun _ _ _ h => h) h9 (fun W' hw' => by go_simp) ?_
        simp only [List.setIfInBounds_toArray, List.set_cons_zero, List.set_cons_succ]
        refine takeVal 39 288 (.bool false) rfl (by kernel_rfl) (by kernel_rfl) (by kernel_rfl) rfl (by rfl) (fun _ _ _ h => h) h9 (fun W' hw' => rfl) ?_
        simp only [List.setIfInBounds_toArray, List.set_cons_zero, List.set_cons_succ]
        refine wpAnyH_done (by kernel_rfl) ?_ _
        refine NoPanic.normal ?_
        have E0 := hid D9
        clear D0 D1 D2 D3 D4 D5 D6 D7 D8 D9 h1 h2 h3 h4 h5 h6 h7 h8 h9 hLa hLb hca hcb hcd hEL hFL hEA hFA hce hcf hcj hHeld HD HLL
        go_upto_region 30 with fail
        have hsy := HQ.out.sync
        have HSY := hid (fun (X : World) (hX : Duo w X n t c p g lb db t2 x2 p2 g2 lb2 db2 { s2 with z := z } { s2 with z := z }) => hX.sync HTB.out HWB.out)
        dsimp only at HSY
        have HSZ := hid (fun (X : World) (z1 : CSt) (hX : Duo w X n t2 x2 p2 g2 lb2 db2 t c p g lb db { s2 with z := z } { s2 with z := z1 }) => hX.sync HTB.out HWB.out)
        dsimp only at HSZ
        generalize hr1 : syncC n z = r1 at *
        obtain ⟨z1, e1⟩ := r1
        dsimp only at hsy HSY HSZ
        subst hsy
        clear hr1
        refine wp_region_noPanic ?_
        refine wp_region_held_drew (S := fun w' => (w'.cell? ⟨t, 1, none⟩ = some (.pointer (some ⟨c, 0, none⟩)) ∧ w'.cell? ⟨t2, 1, none⟩ = some (.pointer (some ⟨x2, 0, none⟩))) ∧ w'.cell? ⟨t, 0, none⟩ = some (.pointer (some ⟨p, 0, none⟩)) ∧ w'.cell? ⟨t2, 0, none⟩ = some (.pointer (some ⟨p2, 0, none⟩))) (by kernel_rfl) (And.intro (And.intro E0.out.q1 E0.out.swap.q1) (And.intro E0.out.q0 E0.out.swap.q0)) (fun hHeld => ?_)
        have F0 := E0.out.call (Chg.refl wj No).drew
        refine takeVal 0 289 (.pointer (some ⟨t, 0, none⟩)) rfl (by kernel_rfl) (by kernel_rfl) (by kernel_rfl) rfl (by rfl) (fun _ _ _ h => h) hHeld (fun W' hw' => rfl) ?_
        simp only [List.setIfInBounds_toArray, List.set_cons_zero, List.set_cons_succ]
        refine takeVal 1 290 (.pointer (some ⟨t, 0, none⟩)) rfl (by kernel_rfl) (by kernel_rfl) (by kernel_rfl) rfl (by rfl) (fun _ _ _ h => h) hHeld (fun W' hw' => by go_simp) ?_
        simp only [List.setIfInBounds_toArray, List.set_cons_zero, List.set_cons_succ]
        refine takeVal 2 291 (.pointer (some ⟨t, 1, none⟩)) rfl (by kernel_rfl) (by kernel_rfl) (by kernel_rfl) rfl (by rfl) (fun _ _ _ h => h) hHeld (fun W' hw' => by go_simp) ?_
        simp only [List.setIfInBounds_toArray, List.set_cons_zero, List.set_cons_succ]
        refine takeVal 3 292 (.pointer (some ⟨c, 0, none⟩)) rfl (by kernel_rfl) (by kernel_rfl) (by kernel_rfl) rfl (by rfl) (fun _ _ _ h => h) hHeld (fun W' hw' => by have hc := hw'.1.1; go_simp) ?_
        simp only [List.setIfInBounds_toArray, List.set_cons_zero, List.set_cons_succ]
        refine step1 4 (by kernel_rfl) ?_
        refine stCall 4 293 24 #[.pointer (some ⟨c, 0, none⟩)] _ rfl rfl (by rfl) (by go_simp) (HSY.out _ F0) ?_
        rintro e wk ⟨rfl, F1⟩
        have g1 := And.intro (And.intro F1.q1 F1.swap.q1) (And.intro F1.q0 F1.swap.q0)
        refine ⟨_, rfl, g1, ?_⟩
        simp only [List.setIfInBounds_toArray, List.set_cons_zero, List.set_cons_succ]
        refine takeVal 5 294 (.bool true) rfl (by kernel_rfl) (by kernel_rfl) (by kernel_rfl) rfl (by rfl) (fun _ _ _ h => h) g1 (fun W' hw' => by go_simp) ?_
        simp only [List.setIfInBounds_toArray, List.set_cons_zero, List.set_cons_succ]
        refine takeVal 6 295 (.bool true) rfl (by kernel_rfl) (by kernel_rfl) (by kernel_rfl) rfl (by rfl) (fun _ _ _ h => h) g1 (fun W' hw' => rfl) ?_
        simp only [List.setIfInBounds_toArray, List.set_cons_zero, List.set_cons_succ]
        refine takeVal 7 296 (.pointer (some ⟨t2, 0, none⟩)) rfl (by kernel_rfl) (by kernel_rfl) (by kernel_rfl) rfl (by rfl) (fun _ _ _ h => h) g1 (fun W' hw' => rfl) ?_
        simp only [List.setIfInBounds_toArray, List.set_cons_zero, List.set_cons_succ]
        refine takeVal 8 297 (.pointer (some ⟨t2, 0, none⟩)) rfl (by kernel_rfl) (by kernel_rfl) (by kernel_rfl) rfl (by rfl) (fun _ _ _ h => h) g1 (fun W' hw' => by go_simp) ?_
        simp only [List.setIfInBounds_toArray, List.set_cons_zero, List.set_cons_succ]
        refine takeVal 9 298 (.pointer (some ⟨t2, 1, none⟩)) rfl (by kernel_rfl) (by kernel_rfl) (by kernel_rfl) rfl (by rfl) (fun _ _ _ h => h) g1 (fun W' hw' => by go_simp) ?_
        simp only [List.setIfInBounds_toArray, List.set_cons_zero, List.set_cons_succ]
        refine takeVal 10 299 (.pointer (some ⟨x2, 0, none⟩)) rfl (by kernel_rfl) (by kernel_rfl) (by kernel_rfl) rfl (by rfl) (fun _ _ _ h => h) g1 (fun W' hw' => by have hc := hw'.1.2; go_simp) ?_
        simp only [List.setIfInBounds_toArray, List.set_cons_zero, List.set_cons_succ]
        refine step1 11 (by kernel_rfl) ?_
        refine stCall 11 300 24 #[.pointer (some ⟨x2, 0, none⟩)] _ rfl rfl (by rfl) (by go_simp) (HSZ.out _ _ F1.swap) ?_
        rintro e wl ⟨rfl, F2⟩
        have g2x := And.intro (And.intro F2.swap.q1 F2.q1) (And.intro F2.swap.q0 F2.q0)
        refine ⟨_, rfl, g2x, ?_⟩
        simp only [List.setIfInBounds_toArray, List.set_cons_zero, List.set_cons_succ]
        refine takeVal 12 301 (.bool true) rfl (by kernel_rfl) (by kernel_rfl) (by kernel_rfl) rfl (by rfl) (fun _ _ _ h => h) g2x (fun W' hw' => by go_simp) ?_
        simp only [List.setIfInBounds_toArray, List.set_cons_zero, List.set_cons_succ]
        refine takeVal 13 302 (.bool true) rfl (by kernel_rfl) (by kernel_rfl) (by kernel_rfl) rfl (by rfl) (fun _ _ _ h => h) g2x (fun W' hw' => rfl) ?_
        simp only [List.setIfInBounds_toArray, List.set_cons_zero, List.set_cons_succ]
        refine takeVal 14 303 (.bool true) rfl (by kernel_rfl) (by kernel_rfl) (by kernel_rfl) rfl (by rfl) (fun _ _ _ h => h) g2x (fun W' hw' => rfl) ?_
        simp only [List.setIfInBounds_toArray, List.set_cons_zero, List.set_cons_succ]
        refine takeVal 15 304 (.pointer (some ⟨t, 0, none⟩)) rfl (by kernel_rfl) (by kernel_rfl) (by kernel_rfl) rfl (by rfl) (fun _ _ _ h => h) g2x (fun W' hw' => rfl) ?_
        simp only [List.setIfInBounds_toArray, List.set_cons_zero, List.set_cons_succ]
        refine takeVal 16 305 (.pointer (some ⟨t, 0, none⟩)) rfl (by kernel_rfl) (by kernel_rfl) (by kernel_rfl) rfl (by rfl) (fun _ _ _ h => h) g2x (fun W' hw' => by go_simp) ?_
        simp only [List.setIfInBounds_toArray, List.set_cons_zero, List.set_cons_succ]
        refine takeVal 17 306 (.pointer (some ⟨t, 0, none⟩)) rfl (by kernel_rfl) (by kernel_rfl) (by kernel_rfl) rfl (by rfl) (fun _ _ _ h => h) g2x (fun W' hw' => by go_simp) ?_
        simp only [List.setIfInBounds_toArray, List.set_cons_zero, List.set_cons_succ]
        refine takeVal 18 307 (.pointer (some ⟨p, 0, none⟩)) rfl (by kernel_rfl) (by kernel_rfl) (by kernel_rfl) rfl (by rfl) (fun _ _ _ h => h) g2x (fun W' hw' => by have hc := hw'.2.1; go_simp) ?_
        simp only [List.setIfInBounds_toArray, List.set_cons_zero, List.set_cons_succ]
        refine takeVal 20 309 (.pointer (some ⟨t2, 0, none⟩)) rfl (by kernel_rfl) (by kernel_rfl) (by kernel_rfl) rfl (by rfl) (fun _ _ _ h => h) g2x (fun W' hw' => rfl) ?_
        simp only [List.setIfInBounds_toArray, List.set_cons_zero, List.set_cons_succ]
        refine takeVal 21 310 (.pointer (some ⟨t2, 0, none⟩)) rfl (by kernel_rfl) (by kernel_rfl) (by kernel_rfl) rfl (by rfl) (fun _ _ _ h => h) g2x (fun W' hw' => by go_simp) ?_
        simp only [List.setIfInBounds_toArray, List.set_cons_zero, List.set_cons_succ]
        refine takeVal 22 311 (.pointer (some ⟨t2, 0, none⟩)) rfl (by kernel_rfl) (by kernel_rfl) (by kernel_rfl) rfl (by rfl) (fun _ _ _ h => h) g2x (fun W' hw' => by go_simp) ?_
        simp only [List.setIfInBounds_toArray, List.set_cons_zero, List.set_cons_succ]
        refine takeVal 23 312 (.pointer (some ⟨p2, 0, none⟩)) rfl (by kernel_rfl) (by kernel_rfl) (by kernel_rfl) rfl (by rfl) (fun _ _ _ h => h) g2x (fun W' hw' => by have hc := hw'.2.2; go_simp) ?_
        simp only [List.setIfInBounds_toArray, List.set_cons_zero, List.set_cons_succ]
        refine step1 19 (by kernel_rfl) ?_
        refine stCall 19 308 26 #[.pointer (some ⟨p, 0, none⟩)] _ rfl rfl (by rfl) (by go_simp) (F2.swap.image) ?_
        rintro e wm ⟨q, rfl, hq, hcm⟩
        have F3 := F2.swap.call hcm
        have g3 := And.intro (And.intro F3.q1 F3.swap.q1) (And.intro F3.q0 F3.swap.q0)
        refine ⟨_, rfl, g3, ?_⟩
        simp only [List.setIfInBounds_toArray, List.set_cons_zero, List.set_cons_succ]
        refine step1 24 (by kernel_rfl) ?_
        refine stCall 24 313 26 #[.pointer (some ⟨p2, 0, none⟩)] _ rfl rfl (by rfl) (by go_simp) (F3.swap.image) ?_
        rintro e wn ⟨q8, rfl, hq8, hcn⟩
        have F4 := F3.call hcn
        have g4 := And.intro (And.intro F4.q1 F4.swap.q1) (And.intro F4.q0 F4.swap.q0)
        refine ⟨_, rfl, g4, ?_⟩
        simp only [List.setIfInBounds_toArray, List.set_cons_zero, List.set_cons_succ]
        refine step1 25 (by kernel_rfl) ?_
        refine stCall 25 314 25 #[.slice (some ⟨q, 0, none⟩) n n, .slice (some ⟨q8, 0, none⟩) n n] _ rfl rfl (by rfl) (by go_simp) (D.same_any z1.d.S n _ _ _ _ _ F4.slen (by omega) (bytes_rowQ (hcn.keep hq (fun e => e))) (bytes_rowQ hq8)) ?_
        rintro e wo ⟨rfl, dn, ewo⟩
        have F5 : Duo w wo n t c p g lb db t2 x2 p2 g2 lb2 db2 { s2 with z := z1 } { s2 with z := z1 } := by rw [ewo]; exact F4.call (chg_drewN _ _)
        have g5 := And.intro (And.intro F5.q1 F5.swap.q1) (And.intro F5.q0 F5.swap.q0)
        clear ewo
        refine ⟨_, rfl, g5, ?_⟩
        simp only [List.setIfInBounds_toArray, List.set_cons_zero, List.set_cons_succ]
        refine takeVal 26 315 (.bool true) rfl (by kernel_rfl) (by kernel_rfl) (by kernel_rfl) rfl (by rfl) (fun _ _ _ h => h) g5 (fun W' hw' => rfl) ?_
        simp only [List.setIfInBounds_toArray, List.set_cons_zero, List.set_cons_succ]
        refine takeVal 27 316 (.bool true) rfl (by kernel_rfl) (by kernel_rfl) (by kernel_rfl) rfl (by rfl) (fun _ _ _ h => h) g5 (fun W' hw' => rfl) ?_
        simp only [List.setIfInBounds_toArray, List.set_cons_zero, List.set_cons_succ]
        refine takeVal 28 317 (.pointer (some ⟨t, 0, none⟩)) rfl (by kernel_rfl) (by kernel_rfl) (by kernel_rfl) rfl (by rfl) (fun _ _ _ h => h) g5 (fun W' hw' => rfl) ?_
        simp only [List.setIfInBounds_toArray, List.set_cons_zero, List.set_cons_succ]
        refine takeVal 29 318 (.pointer (some ⟨t, 0, none⟩)) rfl (by kernel_rfl) (by kernel_rfl) (by kernel_rfl) rfl (by rfl) (fun _ _ _ h => h) g5 (fun W' hw' => by go_simp) ?_
        simp only [List.setIfInBounds_toArray, List.set_cons_zero, List.set_cons_succ]
        refine takeVal 30 319 (.pointer (some ⟨t, 0, none⟩)) rfl (by kernel_rfl) (by kernel_rfl) (by kernel_rfl) rfl (by rfl) (fun _ _ _ h => h) g5 (fun W' hw' => by go_simp) ?_
        simp only [List.setIfInBounds_toArray, List.set_cons_zero, List.set_cons_succ]
        refine takeVal 31 320 (.pointer (some ⟨p, 0, none⟩)) rfl (by kernel_rfl) (by kernel_rfl) (by kernel_rfl) rfl (by rfl) (fun _ _ _ h => h) g5 (fun W' hw' => by have hc := hw'.2.1; go_simp) ?_
        simp only [List.setIfInBounds_toArray, List.set_cons_zero, List.set_cons_succ]
        refine takeVal 33 322 (.pointer (some ⟨t2, 0, none⟩)) rfl (by kernel_rfl) (by kernel_rfl) (by kernel_rfl) rfl (by rfl) (fun _ _ _ h => h) g5 (fun W' hw' => rfl) ?_
        simp only [List.setIfInBounds_toArray, List.set_cons_zero, List.set_cons_succ]
        refine takeVal 34 323 (.pointer (some ⟨t2, 0, none⟩)) rfl (by kernel_rfl) (by kernel_rfl) (by kernel_rfl) rfl (by rfl) (fun _ _ _ h => h) g5 (fun W' hw' => by go_simp) ?_
        simp only [List.setIfInBounds_toArray, List.set_cons_zero, List.set_cons_succ]
        refine takeVal 35 324 (.pointer (some ⟨t2, 0, none⟩)) rfl (by kernel_rfl) (by kernel_rfl) (by kernel_rfl) rfl (by rfl) (fun _ _ _ h => h) g5 (fun W' hw' => by go_simp) ?_
        simp only [List.setIfInBounds_toArray, List.set_cons_zero, List.set_cons_succ]
        refine takeVal 36 325 (.pointer (some ⟨p2, 0, none⟩)) rfl (by kernel_rfl) (by kernel_rfl) (by kernel_rfl) rfl (by rfl) (fun _ _ _ h => h) g5 (fun W' hw' => by have hc := hw'.2.2; go_simp) ?_
        simp only [List.setIfInBounds_toArray, List.set_cons_zero, List.set_cons_succ]
        refine step1 32 (by kernel_rfl) ?_
        refine stCall 32 321 27 #[.pointer (some ⟨p, 0, none⟩)] _ rfl rfl (by rfl) (by go_simp) (F5.wr) ?_
        rintro e wp ⟨rfl, ewp⟩
        subst ewp
        refine ⟨_, rfl, g5, ?_⟩
        simp only [List.setIfInBounds_toArray, List.set_cons_zero, List.set_cons_succ]
        refine step1 37 (by kernel_rfl) ?_
        refine stCall 37 326 27 #[.pointer (some ⟨p2, 0, none⟩)] _ rfl rfl (by rfl) (by go_simp) (F5.swap.wr) ?_
        rintro e wq ⟨rfl, ewq⟩
        subst ewq
        refine ⟨_, rfl, g5, ?_⟩
        simp only [List.setIfInBounds_toArray, List.set_cons_zero, List.set_cons_succ]
        refine takeVal 38 327 (.bool true) rfl (by kernel_rfl) (by kernel_rfl) (by kernel_rfl) rfl (by rfl) (fun _ _ _ h => h) g5 (fun W' hw' => by go_simp) ?_
        simp only [List.setIfInBounds_toArray, List.set_cons_zero, List.set_cons_succ]
        refine takeVal 39 328 (.bool true) rfl (by kernel_rfl) (by kernel_rfl) (by kernel_rfl) rfl (by rfl) (fun _ _ _ h => h) g5 (fun W' hw' => rfl) ?_
        simp only [List.setIfInBounds_toArray, List.set_cons_zero, List.set_cons_succ]
        refine takeVal 40 6 (.bool true) rfl (by kernel_rfl) (by kernel_rfl) (by kernel_rfl) rfl (by rfl) (fun _ _ _ h => h) g5 (fun W' hw' => rfl) ?_
        simp only [List.setIfInBounds_toArray, List.set_cons_zero, List.set_cons_succ]
        refine wpAnyH_done (by kernel_rfl) ?_ _
        refine NoPanic.normal ?_
        have hch := F5.ch
        clear F0 F1 F2 F3 F4 F5 g1 g2x g3 g4 g5 hHeld
        go_wp2_with fail
        go_ret
        exact ⟨rfl, hch⟩

end Go.Proofs.YtgkanfmkohlmcaaGreat
