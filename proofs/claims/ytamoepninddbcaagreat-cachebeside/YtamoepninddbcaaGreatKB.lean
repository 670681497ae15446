/-
  The document's cache: where a sector stands, whether a number is in a list, whether an edge leads to a sector.
-/
import Derived.Test.YtamoepninddbcaaGreatKA
namespace Go.Proofs.YtamoepninddbcaaGreat
open Go.RowKit

/-- Where a number stands in a list; below 0: nowhere. -/
def plL : List Int → Int → Nat → Int
  | [], _, _ => -1
  | y :: l, x, k => if y = x then (k : Int) else plL l x (k + 1)
theorem plL_out : ∀ (l : List Int) (x : Int) (k : Nat), ¬ x ∈ l → plL l x k = -1
  | [], _, _, _ => rfl
  | y :: l, x, k, h => by
    unfold plL
    rw [if_neg (fun e => h (by rw [e]; exact List.mem_cons_self ..))]
    exact plL_out l x (k + 1) fun e => h (List.mem_cons_of_mem _ e)
theorem plL_in : ∀ (l : List Int) (x : Int) (k : Nat), x ∈ l → ∃ j, l[j]? = some x ∧ plL l x k = ((k + j : Nat) : Int)
  | [], _, _, h => by cases h
  | y :: l, x, k, h => by
    unfold plL
    by_cases e : y = x
    · rw [if_pos e]
      exact ⟨0, by rw [e]; rfl, rfl⟩
    · rw [if_neg e]
      rcases List.mem_cons.1 h with h | h
      · exact absurd h.symm e
      · obtain ⟨j, h1, h2⟩ := plL_in l x (k + 1) h
        exact ⟨j + 1, h1, by rw [h2]; congr 1; omega⟩
theorem nodup_leK : ∀ (m l : List (Int × Int)), m.Nodup → (∀ x ∈ m, x ∈ l) → m.length ≤ l.length
  | [], _, _, _ => Nat.zero_le _
  | x :: m, l, h, hs => by
    obtain ⟨h1, h2⟩ := List.nodup_cons.1 h
    have hx := hs x (List.mem_cons_self ..)
    have ih := nodup_leK m (l.erase x) h2 fun y hy => (List.mem_erase_of_ne (fun e => h1 (by rw [← e]; exact hy))).2 (hs y (List.mem_cons_of_mem _ hy))
    rw [List.length_erase_of_mem hx] at ih
    have := List.length_pos_of_mem hx
    rw [List.length_cons]
    omega
theorem drop_consK {α : Type} {l : List α} {i : Nat} {x : α} (h : l[i]? = some x) : l.drop i = x :: l.drop (i + 1) := by
  obtain ⟨hl, rfl⟩ := List.getElem?_eq_some_iff.1 h
  exact List.drop_eq_getElem_cons hl
section
variable {r rd n : Nat} {ρ : Nat → Option RRole} {z : CSt}
set_option maxHeartbeats 4000000 in
set_option maxRecDepth 100000 in
theorem rplace_any (x : Int) (w : World) (h : IsRC w r rd n ρ z) : Calls Tryz.prog 74 #[.pointer (some ⟨r, 0, none⟩), .int .i64 x] w fun e w' => e = .returned (.int .i64 (plL (secs z.dirty) x 0)) ∧ w' = w := by
  obtain ⟨rk, rc, X, v0, v1, lv, tv, W, h⟩ := h
  obtain ⟨R, hR⟩ : ∃ y, y = plL (secs z.dirty) x 0 := ⟨_, rfl⟩
  rw [← hR]
  have hn4 := secs_len z.dirty
  obtain ⟨m, hm⟩ : ∃ y, y = (secs z.dirty).length := ⟨_, rfl⟩
  obtain ⟨a, cp, hpv⟩ := row_shK h.it
  have q1 := h.c1
  rw [hpv, ← hm] at q1
  have n1 : (m : Int) ≤ 4096 := by omega
  have HR := hid hR
  have HM := hid hm
  have H := hid h
  have HPv := hid hpv
  clear hR hm h hpv hn4
  go_enter Tryz.func74, Tryz.ntmps74
  go_upto_region 2 with fail
  go_loopw [5] (fun x5 wr => ∃ i : Nat, x5 = .int .i64 (i : Int) ∧ i ≤ m ∧ wr = w ∧ Hid (plL ((secs z.dirty).drop i) x i = R)) (fun x5 _ => m - (intOf x5).toNat)
  case atStart => exact ⟨0, rfl, Nat.zero_le _, rfl, hid (by rw [List.drop_zero]; exact HR.out.symm)⟩
  case round =>
    obtain ⟨i, rfl, hi, rfl, HA⟩ := hrel
    have i0 : (0 : Int) ≤ (i : Int) := by omega
    by_cases hlt : i < m
    · have i1 : (i : Int) < (m : Int) := by omega
      obtain ⟨y, he⟩ : ∃ e, (secs z.dirty)[i]? = some e := ⟨_, List.getElem?_eq_getElem (by rw [← HM.out]; exact hlt)⟩
      obtain ⟨ga, cp2, h1, _, p1, _⟩ := H.out.item he
      rw [HPv.out] at h1
      cases h1
      have HAt : Hid (R = if y = x then (i : Int) else plL ((secs z.dirty).drop (i + 1)) x (i + 1)) := hid (by
        rw [← HA.out, drop_consK he]
        rfl)
      clear he
      by_cases hst : y = x
      · have HRi : Hid (R = (i : Int)) := hid (by rw [HAt.out, if_pos hst])
        subst hst
        go_wp2_with fail
        go_ret
        exact ⟨by rw [HRi.out]; rfl, rfl⟩
      · have HRn : Hid (plL ((secs z.dirty).drop (i + 1)) x (i + 1) = R) := hid (by rw [HAt.out, if_neg hst])
        have z1 : (y == x) = false := beq_eq_false_iff_ne.2 hst
        go_wp2_with fail
        exact ⟨⟨i + 1, by go_num, by omega, trivial, HRn⟩, by simp [intOf]; omega⟩
    · have i1 : ¬ (i : Int) < (m : Int) := by omega
      have HRn : Hid (R = -1) := hid (by
        rw [← HA.out, List.drop_of_length_le (by rw [← HM.out]; omega)]
        rfl)
      go_wp2_with fail
      go_ret
      exact ⟨by rw [HRn.out]; rfl, rfl⟩
set_option maxHeartbeats 4000000 in
set_option maxRecDepth 100000 in
theorem ramong_any (l : List Int) (a : Option Addr) (ca : Nat) (x : Int) (w : World) (h : LAt w a l) (hl : l.length ≤ 17592186044000) : Calls Tryz.prog 101 #[.slice a l.length ca, .int .i64 x] w fun e w' => e = .returned (.bool (decide (x ∈ l))) ∧ w' = w := by
  obtain ⟨R, hR⟩ : ∃ y, y = decide (x ∈ l) := ⟨_, rfl⟩
  rw [← hR]
  obtain ⟨m, hm⟩ : ∃ y, y = l.length := ⟨_, rfl⟩
  rw [← hm] at hl ⊢
  have n1 : (m : Int) ≤ 17592186044000 := by omega
  have HR := hid hR
  have HM := hid hm
  have H := hid h
  clear hR hm h
  go_enter Tryz.func101, Tryz.ntmps101
  go_upto_region 2 with fail
  go_loopw [5] (fun x5 wr => ∃ i : Nat, x5 = .int .i64 (i : Int) ∧ i ≤ m ∧ wr = w ∧ Hid (R = decide (x ∈ l.drop i))) (fun x5 _ => m - (intOf x5).toNat)
  case atStart => exact ⟨0, rfl, Nat.zero_le _, rfl, hid (by rw [List.drop_zero]; exact HR.out)⟩
  case round =>
    obtain ⟨i, rfl, hi, rfl, HA⟩ := hrel
    have i0 : (0 : Int) ≤ (i : Int) := by omega
    by_cases hlt : i < m
    · have i1 : (i : Int) < (m : Int) := by omega
      have hil : i < l.length := by rw [← HM.out]; exact hlt
      obtain ⟨g, hga, p1⟩ : ∃ g, a = some ⟨g, 0, none⟩ ∧ wr.cell? ⟨g, i, none⟩ = some (.int .i64 (l.getD i 0)) := by
        rcases H.out with e | ⟨g, e, _, hc⟩
        · rw [e] at hil; exact absurd hil (Nat.not_lt_zero _)
        · exact ⟨g, e, hc i hil⟩
      subst hga
      obtain ⟨y, hy⟩ : ∃ y, y = l.getD i 0 := ⟨_, rfl⟩
      rw [← hy] at p1
      have HAt : Hid (R = decide (x = y ∨ x ∈ l.drop (i + 1))) := hid (by
        rw [HA.out, drop_consK (List.getElem?_eq_getElem hil), hy, List.getD_eq_getElem?_getD, List.getElem?_eq_getElem hil]
        exact decide_eq_decide.2 List.mem_cons)
      clear hy hil
      by_cases hst : y = x
      · have HRi : Hid (R = true) := hid (by rw [HAt.out]; exact decide_eq_true (.inl hst.symm))
        subst hst
        go_wp2_with fail
        go_ret
        exact ⟨by rw [HRi.out]; rfl, rfl⟩
      · have HRn : Hid (R = decide (x ∈ l.drop (i + 1))) := hid (by rw [HAt.out]; exact decide_eq_decide.2 ⟨fun e => e.resolve_left fun e => hst e.symm, .inr⟩)
        have z1 : (y == x) = false := beq_eq_false_iff_ne.2 hst
        go_wp2_with fail
        exact ⟨⟨i + 1, by go_num, by omega, trivial, HRn⟩, by simp [intOf]; omega⟩
    · have i1 : ¬ (i : Int) < (m : Int) := by omega
      have HRn : Hid (R = false) := hid (by
        rw [HA.out, List.drop_of_length_le (by rw [← HM.out]; omega)]
        rfl)
      go_wp2_with fail
      go_ret
      exact ⟨by rw [HRn.out]; rfl, rfl⟩
/-- There are not too many edges. -/
theorem IsRC0.few {w : World} {rk rc : Nat} {X : Array Value} {v0 v1 lv : Value} {tv : Int → Value} {W : List (Int × Int)} (h : IsRC0 w r rd rk n rc X v0 v1 lv tv W ρ z) : W.length ≤ 16777216 := by
  have hs : ∀ e ∈ W, e ∈ (List.range 4096).flatMap fun (a : Nat) => (List.range 4096).map fun (b : Nat) => ((a : Int), (b : Int)) := fun e he => by
    have h1 := h.inv.inSec e.1 e.2 ((h.we _ _).1 he)
    refine List.mem_flatMap.2 ⟨e.1.toNat, List.mem_range.2 (by have := h1.1; unfold Sec at this; omega), List.mem_map.2 ⟨e.2.toNat, List.mem_range.2 (by have := h1.2; unfold Sec at this; omega), ?_⟩⟩
    have h2 := h1.1
    have h3 := h1.2
    unfold Sec at h2 h3
    refine Prod.ext ?_ ?_
    · show ((e.1.toNat : Nat) : Int) = e.1
      omega
    · show ((e.2.toNat : Nat) : Int) = e.2
      omega
  have := nodup_leK W _ h.wd hs
  rw [List.length_flatMap] at this
  simp only [List.length_map, List.length_range] at this
  have e : ((List.range 4096).map fun _ => 4096).sum = 16777216 := by rw [List.map_const', List.sum_replicate_nat, List.length_range]
  omega
set_option maxHeartbeats 4000000 in
set_option maxRecDepth 100000 in
open Classical in
theorem rled_any (x : Int) (w : World) (h : IsRC w r rd n ρ z) : Calls Tryz.prog 75 #[.pointer (some ⟨r, 0, none⟩), .int .i64 x] w fun e w' => e = .returned (.bool (decide (¬ FreeE z.E x))) ∧ w' = w := by
  obtain ⟨rk, rc, X, v0, v1, lv, tv, W, h⟩ := h
  obtain ⟨R, hR⟩ : ∃ y, y = decide (¬ FreeE z.E x) := ⟨_, rfl⟩
  rw [← hR]
  have hR2 : R = W.any fun e => e.2 == x := by
    rw [hR, Bool.eq_iff_iff, decide_eq_true_iff, List.any_eq_true]
    refine ⟨fun e => ?_, fun ⟨e, he, hx⟩ hf => ?_⟩
    · unfold FreeE at e
      obtain ⟨a, ha⟩ := Classical.not_forall.1 e
      exact ⟨(a, x), (h.we a x).2 (Classical.not_not.1 ha), beq_self_eq_true x⟩
    · exact hf e.1 (by rw [← beq_iff_eq.1 hx]; exact (h.we e.1 e.2).1 he)
  have hfw := h.few
  obtain ⟨m, hm⟩ : ∃ y, y = W.length := ⟨_, rfl⟩
  obtain ⟨a, cp, hpv⟩ := row_shK h.wy
  have q1 := h.c2
  rw [hpv, ← hm] at q1
  have n1 : (m : Int) ≤ 16777216 := by omega
  have HR := hid hR2
  have HM := hid hm
  have H := hid h
  have HPv := hid hpv
  clear hR hR2 hm h hpv hfw
  go_enter Tryz.func75, Tryz.ntmps75
  go_upto_region 2 with fail
  go_loopw [5] (fun x5 wr => ∃ i : Nat, x5 = .int .i64 (i : Int) ∧ i ≤ m ∧ wr = w ∧ Hid (R = (W.drop i).any fun e => e.2 == x)) (fun x5 _ => m - (intOf x5).toNat)
  case atStart => exact ⟨0, rfl, Nat.zero_le _, rfl, hid (by rw [List.drop_zero]; exact HR.out)⟩
  case round =>
    obtain ⟨i, rfl, hi, rfl, HA⟩ := hrel
    have i0 : (0 : Int) ≤ (i : Int) := by omega
    by_cases hlt : i < m
    · have i1 : (i : Int) < (m : Int) := by omega
      have hil : i < W.length := by rw [← HM.out]; exact hlt
      obtain ⟨ed, he⟩ : ∃ e, W[i]? = some e := ⟨_, List.getElem?_eq_getElem hil⟩
      obtain ⟨g, cp2, h1, _, _, p1⟩ := H.out.edge he
      rw [HPv.out] at h1
      cases h1
      obtain ⟨y, hy⟩ : ∃ y, y = ed.2 := ⟨_, rfl⟩
      rw [← hy] at p1
      have HAx : Hid (R = (y == x || (W.drop (i + 1)).any fun e => e.2 == x)) := hid (by
        rw [HA.out, drop_consK he, hy]
        rfl)
      clear he
      clear hy hil
      by_cases hst : y = x
      · have HRi : Hid (R = true) := hid (by rw [HAx.out, beq_iff_eq.2 hst]; rfl)
        subst hst
        go_wp2_with fail
        go_ret
        exact ⟨by rw [HRi.out]; rfl, rfl⟩
      · have z1 : (y == x) = false := beq_eq_false_iff_ne.2 hst
        have HRn : Hid (R = (W.drop (i + 1)).any fun e => e.2 == x) := hid (by rw [HAx.out, z1]; rfl)
        go_wp2_with fail
        exact ⟨⟨i + 1, by go_num, by omega, trivial, HRn⟩, by simp [intOf]; omega⟩
    · have i1 : ¬ (i : Int) < (m : Int) := by omega
      have HRn : Hid (R = false) := hid (by
        rw [HA.out, List.drop_of_length_le (by rw [← HM.out]; omega)]
        rfl)
      go_wp2_with fail
      go_ret
      exact ⟨by rw [HRn.out]; rfl, rfl⟩
end
end Go.Proofs.YtamoepninddbcaaGreat
