/-
  The document's cache: all from which there is a way to a sector.
-/
import Derived.Test.YtamoepninddbcaaGreatKB
namespace Go.Proofs.YtamoepninddbcaaGreat
open Go.RowKit

/-- All from which there is a way to x, each once. -/
structure Ahead (z : CSt) (x : Int) (l : List Int) : Prop where
  nd : l.Nodup
  is : ∀ a, a ∈ l ↔ Reach z.E a x
  len : l.length ≤ 4097
theorem nodup_leI : ∀ (m l : List Int), m.Nodup → (∀ x ∈ m, x ∈ l) → m.length ≤ l.length
  | [], _, _, _ => Nat.zero_le _
  | x :: m, l, h, hs => by
    obtain ⟨h1, h2⟩ := List.nodup_cons.1 h
    have hx := hs x (List.mem_cons_self ..)
    have ih := nodup_leI m (l.erase x) h2 fun y hy => (List.mem_erase_of_ne (fun e => h1 (by rw [← e]; exact hy))).2 (hs y (List.mem_cons_of_mem _ hy))
    rw [List.length_erase_of_mem hx] at ih
    have := List.length_pos_of_mem hx
    rw [List.length_cons]
    omega
theorem reach_step {E : Int → Int → Prop} {a b x : Int} (h : Reach E b x) (e : E a b) : Reach E a x := by
  rcases h with rfl | h
  · exact .inr (.one e)
  · exact .inr (Way.trans (.one e) h)
/-- How far it has come: the list so far, closed for those ahead of i. -/
structure AhI (z : CSt) (x : Int) (W : List (Int × Int)) (l : List Int) (i : Nat) : Prop where
  nd : l.Nodup
  is : ∀ a ∈ l, Reach z.E a x
  me : x ∈ l
  cl : ∀ (j : Nat) b, j < i → l[j]? = some b → ∀ e ∈ W, e.2 = b → e.1 ∈ l
theorem AhI.len {n : Nat} {z : CSt} {x : Int} {W : List (Int × Int)} {l : List Int} {i : Nat} (h : AhI z x W l i) (hi : CInv n z) : l.length ≤ 4097 := by
  have hs : ∀ a ∈ l, a ∈ x :: (List.range 4096).map fun (b : Nat) => (b : Int) := fun a ha => by
    rcases h.is a ha with e | e
    · rw [e]; exact List.mem_cons_self ..
    · refine List.mem_cons_of_mem _ ?_
      have h1 : Sec a := (e.sec hi.inSec).1
      unfold Sec at h1
      exact List.mem_map.2 ⟨a.toNat, List.mem_range.2 (by omega), by omega⟩
  have := nodup_leI l _ h.nd hs
  rw [List.length_cons, List.length_map, List.length_range] at this
  omega
theorem AhI.done {n : Nat} {z : CSt} {x : Int} {W : List (Int × Int)} {l : List Int} {i : Nat} (h : AhI z x W l i) (hi : CInv n z) (hw : ∀ a b, (a, b) ∈ W ↔ z.E a b) (hl : l.length ≤ i) : Ahead z x l := by
  have hcl : ∀ a b, z.E a b → b ∈ l → a ∈ l := fun a b e hb => by
    obtain ⟨j, hj⟩ := List.mem_iff_getElem?.1 hb
    have hjl : j < l.length := (List.getElem?_eq_some_iff.1 hj).1
    exact h.cl j b (by omega) hj (a, b) ((hw a b).2 e) rfl
  refine ⟨h.nd, fun a => ⟨h.is a, fun ha => ?_⟩, h.len hi⟩
  rcases ha with rfl | ha
  · exact h.me
  · have hm := h.me
    clear h
    induction ha with
    | one e => exact hcl _ _ e hm
    | more e _ ih => exact hcl _ _ e (ih hm)
section
variable {r rd n : Nat} {ρ : Nat → Option RRole} {z : CSt}
set_option maxHeartbeats 4000000 in
set_option maxRecDepth 100000 in
theorem rahead_any (x : Int) (w : World) (h : IsRC w r rd n ρ z) : Calls Tryz.prog 73 #[.pointer (some ⟨r, 0, none⟩), .int .i64 x] w fun e w' => ∃ v l, e = .returned v ∧ Ints w' w.heap.size v l ∧ Ahead z x l ∧ Chg w w' No := by
  obtain ⟨rk, rc, X, v0, v1, lv, tv, W, h⟩ := h
  have hi := h.inv
  have hfw := h.few
  obtain ⟨m, hm⟩ : ∃ y, y = W.length := ⟨_, rfl⟩
  obtain ⟨a1, cp, hpv⟩ := row_shK h.wy
  have n1 : (m : Int) ≤ 16777216 := by omega
  have H := hid h
  have HM := hid hm
  have HI := hid hi
  have HK2 : Hid (∀ W', Chg w W' No → W'.cell? ⟨r, 2, none⟩ = some (.slice a1 m cp)) := hid (fun W' hW => by
    have := (h.call hW).c2
    rw [hpv, ← hm] at this
    exact this)
  have HPv := hid hpv
  clear h hi hfw hpv hm
  go_enter Tryz.func73, Tryz.ntmps73
  go_upto_region 3 with fail
  have H0 : Hid (∃ l, Ints (w.alloc (.cells #[.int .i64 x] 3)) w.heap.size (.slice (some ⟨w.heap.size, 0, none⟩) 1 1) l ∧ AhI z x W l 0 ∧ Chg w (w.alloc (.cells #[.int .i64 x] 3)) No) := hid ⟨[x], ints_new w x, ⟨by simp, fun a ha => by rw [List.mem_singleton.1 ha]; exact .inl rfl, List.mem_singleton.2 rfl, fun j b hj => absurd hj (Nat.not_lt_zero _)⟩, Chg.alloc w _ No⟩
  go_loopw [5, 6] (fun x5 x6 wr => ∃ (v : Value) (i : Nat), v = x5 ∧ x6 = .int .i64 (i : Int) ∧ i ≤ 4097 ∧ Hid (∃ l, Ints wr w.heap.size v l ∧ AhI z x W l i ∧ Chg w wr No)) (fun _ x6 _ => 4097 - (intOf x6).toNat)
  case atStart => exact ⟨_, 0, rfl, rfl, Nat.zero_le _, H0⟩
  case round =>
    obtain ⟨v, i, rfl, rfl, hi7, HA⟩ := hrel
    clear H0
    have i0 : (0 : Int) ≤ (i : Int) := by omega
    obtain ⟨l, l1, l2, l3⟩ := HA.out
    have hln := l2.len HI.out
    obtain ⟨al, cl, hv⟩ := row_shK l1
    subst hv
    obtain ⟨ll, hll⟩ : ∃ y, y = l.length := ⟨_, rfl⟩
    have HLl := hid hll
    rw [← hll] at l1 ⊢
    have n2 : (ll : Int) ≤ 4097 := by omega
    have HL1 := hid l1
    have HL2 := hid l2
    have HL3 := hid l3
    clear l1 l2 l3 HA hll hln
    by_cases hlt : i < ll
    · have i1 : (i : Int) < (ll : Int) := by omega
      obtain ⟨y, hy⟩ : ∃ y, l[i]? = some y := ⟨_, List.getElem?_eq_getElem (by rw [← HLl.out]; exact hlt)⟩
      have HY := hid hy
      have H1 : Hid (∃ l', Ints wr w.heap.size (.slice al ll cl) l' ∧ AhI z x W l' i ∧ Chg w wr No ∧ l'[i]? = some y ∧ ∀ e ∈ W.take 0, e.2 = y → e.1 ∈ l') := hid ⟨l, HL1.out, HL2.out, HL3.out, hy, fun e he => by rw [List.take_zero] at he; cases he⟩
      clear hy HL1 HL2 HL3 HLl HY
      go_upto_region 6 with fail
      go_loopw [5, 7] (fun x5 x7 wr => ∃ (v : Value) (k : Nat), v = x5 ∧ x7 = .int .i64 (k : Int) ∧ k ≤ m ∧ Hid (∃ l', Ints wr w.heap.size v l' ∧ AhI z x W l' i ∧ Chg w wr No ∧ l'[i]? = some y ∧ ∀ e ∈ W.take k, e.2 = y → e.1 ∈ l')) (fun _ x7 _ => m - (intOf x7).toNat)
      case atStart => exact ⟨_, 0, rfl, rfl, Nat.zero_le _, H1⟩
      case round =>
        obtain ⟨v, k, rfl, rfl, hk, HB⟩ := hrel
        clear H1
        have k0 : (0 : Int) ≤ (k : Int) := by omega
        obtain ⟨l, l1, l2, l3, l4, l5⟩ := HB.out
        have hln := l2.len HI.out
        have hil : i < l.length := (List.getElem?_eq_some_iff.1 l4).1
        have q2 := HK2.out wr l3
        obtain ⟨gl, cl, hv, hat, hge⟩ : ∃ gl cl, v = .slice (some ⟨gl, 0, none⟩) l.length cl ∧ (∀ k, k < l.length → wr.cell? ⟨gl, k, none⟩ = some (.int .i64 (l.getD k 0))) ∧ w.heap.size ≤ gl := by
          obtain ⟨a, c, e1, e2, e3⟩ := Ints.lat l1
          rcases e2 with e2 | ⟨g, e2, _, e4⟩
          · rw [e2] at hil; exact absurd hil (Nat.not_lt_zero _)
          · subst e2
            exact ⟨g, c, e1, e4, e3 g rfl⟩
        subst hv
        have hyd : l.getD i 0 = y := by rw [List.getD_eq_getElem?_getD, l4]; rfl
        have p3 := hat i hil
        rw [hyd] at p3
        have HLat : Hid (LAt wr (some ⟨gl, 0, none⟩) l) := hid (by
          obtain ⟨a, c, e1, e2, _⟩ := Ints.lat l1
          cases e1
          exact e2)
        obtain ⟨ll, hll⟩ : ∃ y, y = l.length := ⟨_, rfl⟩
        have HLl := hid hll
        rw [← hll] at l1 hil ⊢
        have n2 : (ll : Int) ≤ 4097 := by omega
        have i1 : (i : Int) < (ll : Int) := by omega
        have HL1 := hid l1
        have HL2 := hid l2
        have HL3 := hid l3
        have HL4 := hid l4
        have HL5 := hid l5
        clear l1 l2 l3 l4 l5 HB hll hln hat hil hyd hge
        by_cases hkm : k < m
        · have k1 : (k : Int) < (m : Int) := by omega
          obtain ⟨e, he⟩ : ∃ e, W[k]? = some e := ⟨_, List.getElem?_eq_getElem (by rw [← HM.out]; exact hkm)⟩
          obtain ⟨ge, cp2, h1, _, p1, p2⟩ := (H.out.call HL3.out).edge he
          rw [HPv.out, ← HM.out] at h1
          cases h1
          have HE := hid he
          obtain ⟨ea, hea⟩ : ∃ y, y = e.1 := ⟨_, rfl⟩
          obtain ⟨eb, heb⟩ : ∃ y, y = e.2 := ⟨_, rfl⟩
          rw [← hea] at p1
          rw [← heb] at p2
          have HEa := hid hea
          have HEb := hid heb
          have HMem : Hid (e ∈ W) := hid (List.mem_of_getElem? he)
          have HTk : Hid (W.take (k + 1) = W.take k ++ [e]) := hid (by rw [List.take_add_one, he]; rfl)
          have K2 : Hid (∀ W', Chg wr W' No → W'.cell? ⟨r, 2, none⟩ = some (.slice (some ⟨ge, 0, none⟩) m cp)) := hid (fun W' hW => HK2.out W' (HL3.out.tr hW))
          have KE0 : Hid (∀ W', Chg wr W' No → W'.cell? ⟨ge, k * 2, none⟩ = some (.int .i64 ea)) := hid (fun W' hW => by
            obtain ⟨g9, c9, e9, _, p9, _⟩ := (H.out.call (HL3.out.tr hW)).edge HE.out
            rw [HPv.out] at e9
            cases e9
            rw [HEa.out]
            exact p9)
          have KE1 : Hid (∀ W', Chg wr W' No → W'.cell? ⟨ge, k * 2 + 1, none⟩ = some (.int .i64 eb)) := hid (fun W' hW => by
            obtain ⟨g9, c9, e9, _, _, p9⟩ := (H.out.call (HL3.out.tr hW)).edge HE.out
            rw [HPv.out] at e9
            cases e9
            rw [HEb.out]
            exact p9)
          have KL : Hid (∀ W', Chg wr W' No → W'.cell? ⟨gl, i, none⟩ = some (.int .i64 y)) := hid (fun W' hW => by
            rcases HLat.out with e9 | ⟨g9, e9, hlt9, h9⟩
            · have := HL4.out
              rw [e9] at this
              cases this
            · cases e9
              have := h9 i (by have := HLl.out; omega)
              rw [List.getD_eq_getElem?_getD, HL4.out] at this
              exact cell_keep this hW hlt9 (fun e => e))
          clear he hea heb
          by_cases hby : eb = y
          · have zb : (eb == y) = true := beq_iff_eq.2 hby
            have HAm : Hid (∀ W', Chg wr W' No → Calls Tryz.prog 101 #[.slice (some ⟨gl, 0, none⟩) ll cl, .int .i64 ea] W' fun e w' => e = .returned (.bool (decide (ea ∈ l))) ∧ w' = W') := hid (fun W' hW => by
              have := ramong_any l (some ⟨gl, 0, none⟩) cl ea W' (HLat.out.call hW) (by have := HLl.out; omega)
              rw [← HLl.out] at this
              exact this)
            by_cases hin : ea ∈ l
            · rw [decide_eq_true hin] at HAm
              have HNx : Hid (∃ l', Ints wr w.heap.size (.slice (some ⟨gl, 0, none⟩) ll cl) l' ∧ AhI z x W l' i ∧ Chg w wr No ∧ l'[i]? = some y ∧ ∀ e ∈ W.take (k + 1), e.2 = y → e.1 ∈ l') := hid ⟨l, HL1.out, HL2.out, HL3.out, HL4.out, fun e2 h2 h3 => by
                rw [HTk.out] at h2
                rcases List.mem_append.1 h2 with h2 | h2
                · exact HL5.out e2 h2 h3
                · rw [List.mem_singleton.1 h2, ← HEa.out]; exact hin⟩
              clear hin hby p1 p2 p3
              go_upto_region 8 with fail
              clear q2
              refine wp_region_noPanic ?_
              refine wp_region_held_drew (S := fun W => Chg wr W No) (by kernel_rfl) ((Chg.refl wr No).drew) (fun hHeld => ?_)
              refine takeVal 0 25 (.pointer (some ⟨r, 0, none⟩)) rfl (by kernel_rfl) (by kernel_rfl) (by kernel_rfl) rfl (by rfl) (fun _ _ _ h => h) hHeld (fun _ hw' => rfl) ?_
              simp only [List.setIfInBounds_toArray, List.set_cons_zero, List.set_cons_succ]
              refine takeVal 1 26 (.pointer (some ⟨r, 0, none⟩)) rfl (by kernel_rfl) (by kernel_rfl) (by kernel_rfl) rfl (by rfl) (fun _ _ _ h => h) hHeld (fun _ hw' => by go_simp) ?_
              simp only [List.setIfInBounds_toArray, List.set_cons_zero, List.set_cons_succ]
              refine takeVal 2 27 (.pointer (some ⟨r, 2, none⟩)) rfl (by kernel_rfl) (by kernel_rfl) (by kernel_rfl) rfl (by rfl) (fun _ _ _ h => h) hHeld (fun _ hw' => by go_simp) ?_
              simp only [List.setIfInBounds_toArray, List.set_cons_zero, List.set_cons_succ]
              refine takeVal 3 28 (.slice (some ⟨ge, 0, none⟩) m cp) rfl (by kernel_rfl) (by kernel_rfl) (by kernel_rfl) rfl (by rfl) (fun _ _ _ h => h) hHeld (fun _ hw' => by have hc := K2.out _ hw'; go_simp) ?_
              simp only [List.setIfInBounds_toArray, List.set_cons_zero, List.set_cons_succ]
              refine takeVal 4 29 (.int .i64 (k : Int)) rfl (by kernel_rfl) (by kernel_rfl) (by kernel_rfl) rfl (by rfl) (fun _ _ _ h => h) hHeld (fun _ hw' => rfl) ?_
              simp only [List.setIfInBounds_toArray, List.set_cons_zero, List.set_cons_succ]
              refine takeVal 5 30 (.pointer (some ⟨ge, k * 2, none⟩)) rfl (by kernel_rfl) (by kernel_rfl) (by kernel_rfl) rfl (by rfl) (fun _ _ _ h => h) hHeld (fun _ hw' => by go_simp) ?_
              simp only [List.setIfInBounds_toArray, List.set_cons_zero, List.set_cons_succ]
              refine takeVal 6 31 (.pointer (some ⟨ge, k * 2 + 1, none⟩)) rfl (by kernel_rfl) (by kernel_rfl) (by kernel_rfl) rfl (by rfl) (fun _ _ _ h => h) hHeld (fun _ hw' => by go_simp) ?_
              simp only [List.setIfInBounds_toArray, List.set_cons_zero, List.set_cons_succ]
              refine takeVal 7 32 (.int .i64 eb) rfl (by kernel_rfl) (by kernel_rfl) (by kernel_rfl) rfl (by rfl) (fun _ _ _ h => h) hHeld (fun _ hw' => by have hc := KE1.out _ hw'; go_simp) ?_
              simp only [List.setIfInBounds_toArray, List.set_cons_zero, List.set_cons_succ]
              refine takeVal 8 33 (.slice (some ⟨gl, 0, none⟩) ll cl) rfl (by kernel_rfl) (by kernel_rfl) (by kernel_rfl) rfl (by rfl) (fun _ _ _ h => h) hHeld (fun _ hw' => rfl) ?_
              simp only [List.setIfInBounds_toArray, List.set_cons_zero, List.set_cons_succ]
              refine takeVal 9 34 (.int .i64 (i : Int)) rfl (by kernel_rfl) (by kernel_rfl) (by kernel_rfl) rfl (by rfl) (fun _ _ _ h => h) hHeld (fun _ hw' => rfl) ?_
              simp only [List.setIfInBounds_toArray, List.set_cons_zero, List.set_cons_succ]
              refine takeVal 10 35 (.pointer (some ⟨gl, i, none⟩)) rfl (by kernel_rfl) (by kernel_rfl) (by kernel_rfl) rfl (by rfl) (fun _ _ _ h => h) hHeld (fun _ hw' => by go_simp) ?_
              simp only [List.setIfInBounds_toArray, List.set_cons_zero, List.set_cons_succ]
              refine takeVal 11 36 (.int .i64 y) rfl (by kernel_rfl) (by kernel_rfl) (by kernel_rfl) rfl (by rfl) (fun _ _ _ h => h) hHeld (fun _ hw' => by have hc := KL.out _ hw'; go_simp) ?_
              simp only [List.setIfInBounds_toArray, List.set_cons_zero, List.set_cons_succ]
              refine takeVal 12 37 (.bool true) rfl (by kernel_rfl) (by kernel_rfl) (by kernel_rfl) rfl (by rfl) (fun _ _ _ h => h) hHeld (fun _ hw' => by go_simp) ?_
              simp only [List.setIfInBounds_toArray, List.set_cons_zero, List.set_cons_succ]
              refine takeVal 13 38 (.bool true) rfl (by kernel_rfl) (by kernel_rfl) (by kernel_rfl) rfl (by rfl) (fun _ _ _ h => h) hHeld (fun _ hw' => rfl) ?_
              simp only [List.setIfInBounds_toArray, List.set_cons_zero, List.set_cons_succ]
              refine takeVal 14 39 (.slice (some ⟨gl, 0, none⟩) ll cl) rfl (by kernel_rfl) (by kernel_rfl) (by kernel_rfl) rfl (by rfl) (fun _ _ _ h => h) hHeld (fun _ hw' => rfl) ?_
              simp only [List.setIfInBounds_toArray, List.set_cons_zero, List.set_cons_succ]
              refine takeVal 15 40 (.pointer (some ⟨r, 0, none⟩)) rfl (by kernel_rfl) (by kernel_rfl) (by kernel_rfl) rfl (by rfl) (fun _ _ _ h => h) hHeld (fun _ hw' => rfl) ?_
              simp only [List.setIfInBounds_toArray, List.set_cons_zero, List.set_cons_succ]
              refine takeVal 16 41 (.pointer (some ⟨r, 0, none⟩)) rfl (by kernel_rfl) (by kernel_rfl) (by kernel_rfl) rfl (by rfl) (fun _ _ _ h => h) hHeld (fun _ hw' => by go_simp) ?_
              simp only [List.setIfInBounds_toArray, List.set_cons_zero, List.set_cons_succ]
              refine takeVal 17 42 (.pointer (some ⟨r, 2, none⟩)) rfl (by kernel_rfl) (by kernel_rfl) (by kernel_rfl) rfl (by rfl) (fun _ _ _ h => h) hHeld (fun _ hw' => by go_simp) ?_
              simp only [List.setIfInBounds_toArray, List.set_cons_zero, List.set_cons_succ]
              refine takeVal 18 43 (.slice (some ⟨ge, 0, none⟩) m cp) rfl (by kernel_rfl) (by kernel_rfl) (by kernel_rfl) rfl (by rfl) (fun _ _ _ h => h) hHeld (fun _ hw' => by have hc := K2.out _ hw'; go_simp) ?_
              simp only [List.setIfInBounds_toArray, List.set_cons_zero, List.set_cons_succ]
              refine takeVal 19 44 (.int .i64 (k : Int)) rfl (by kernel_rfl) (by kernel_rfl) (by kernel_rfl) rfl (by rfl) (fun _ _ _ h => h) hHeld (fun _ hw' => rfl) ?_
              simp only [List.setIfInBounds_toArray, List.set_cons_zero, List.set_cons_succ]
              refine takeVal 20 45 (.pointer (some ⟨ge, k * 2, none⟩)) rfl (by kernel_rfl) (by kernel_rfl) (by kernel_rfl) rfl (by rfl) (fun _ _ _ h => h) hHeld (fun _ hw' => by go_simp) ?_
              simp only [List.setIfInBounds_toArray, List.set_cons_zero, List.set_cons_succ]
              refine takeVal 21 46 (.pointer (some ⟨ge, k * 2, none⟩)) rfl (by kernel_rfl) (by kernel_rfl) (by kernel_rfl) rfl (by rfl) (fun _ _ _ h => h) hHeld (fun _ hw' => by go_simp) ?_
              simp only [List.setIfInBounds_toArray, List.set_cons_zero, List.set_cons_succ]
              refine takeVal 22 47 (.int .i64 ea) rfl (by kernel_rfl) (by kernel_rfl) (by kernel_rfl) rfl (by rfl) (fun _ _ _ h => h) hHeld (fun _ hw' => by have hc := KE0.out _ hw'; go_simp) ?_
              simp only [List.setIfInBounds_toArray, List.set_cons_zero, List.set_cons_succ]
              refine step1 23 (by kernel_rfl) ?_
              refine stCall 23 48 101 #[.slice (some ⟨gl, 0, none⟩) ll cl, .int .i64 ea] _ rfl rfl (by rfl) (by go_simp) (HAm.out _ hHeld) ?_
              rintro e9 w' ⟨rfl, hw⟩
              subst hw
              refine ⟨_, rfl, hHeld, ?_⟩
              simp only [List.setIfInBounds_toArray, List.set_cons_zero, List.set_cons_succ]
              refine takeVal 24 49 (.bool false) rfl (by kernel_rfl) (by kernel_rfl) (by kernel_rfl) rfl (by rfl) (fun _ _ _ h => h) hHeld (fun _ hw' => by go_simp) ?_
              simp only [List.setIfInBounds_toArray, List.set_cons_zero, List.set_cons_succ]
              refine takeVal 25 50 (.bool false) rfl (by kernel_rfl) (by kernel_rfl) (by kernel_rfl) rfl (by rfl) (fun _ _ _ h => h) hHeld (fun _ hw' => rfl) ?_
              simp only [List.setIfInBounds_toArray, List.set_cons_zero, List.set_cons_succ]
              refine wpAnyH_done (by kernel_rfl) ?_ _
              refine NoPanic.normal ?_
              have HCn := hid hHeld
              clear hHeld
              go_wp2_with fail
              exact ⟨⟨_, k + 1, rfl, by go_num, by omega, hid (by obtain ⟨l', a1, a2, a3, a4, a5⟩ := HNx.out; exact ⟨l', row_keep a1 HCn.out (fun _ _ e => e), a2, a3.tr HCn.out, a4, a5⟩)⟩, by simp [intOf]; omega⟩
            · rw [decide_eq_false hin] at HAm
              have HIn := hid hin
              have HBy := hid hby
              clear hin hby p1 p2 p3
              go_upto_region 8 with fail
              clear q2
              refine wp_region_noPanic ?_
              refine wp_region_held_drew (S := fun W => Chg wr W No) (by kernel_rfl) ((Chg.refl wr No).drew) (fun hHeld => ?_)
              refine takeVal 0 25 (.pointer (some ⟨r, 0, none⟩)) rfl (by kernel_rfl) (by kernel_rfl) (by kernel_rfl) rfl (by rfl) (fun _ _ _ h => h) hHeld (fun _ hw' => rfl) ?_
              simp only [List.setIfInBounds_toArray, List.set_cons_zero, List.set_cons_succ]
              refine takeVal 1 26 (.pointer (some ⟨r, 0, none⟩)) rfl (by kernel_rfl) (by kernel_rfl) (by kernel_rfl) rfl (by rfl) (fun _ _ _ h => h) hHeld (fun _ hw' => by go_simp) ?_
              simp only [List.setIfInBounds_toArray, List.set_cons_zero, List.set_cons_succ]
              refine takeVal 2 27 (.pointer (some ⟨r, 2, none⟩)) rfl (by kernel_rfl) (by kernel_rfl) (by kernel_rfl) rfl (by rfl) (fun _ _ _ h => h) hHeld (fun _ hw' => by go_simp) ?_
              simp only [List.setIfInBounds_toArray, List.set_cons_zero, List.set_cons_succ]
              refine takeVal 3 28 (.slice (some ⟨ge, 0, none⟩) m cp) rfl (by kernel_rfl) (by kernel_rfl) (by kernel_rfl) rfl (by rfl) (fun _ _ _ h => h) hHeld (fun _ hw' => by have hc := K2.out _ hw'; go_simp) ?_
              simp only [List.setIfInBounds_toArray, List.set_cons_zero, List.set_cons_succ]
              refine takeVal 4 29 (.int .i64 (k : Int)) rfl (by kernel_rfl) (by kernel_rfl) (by kernel_rfl) rfl (by rfl) (fun _ _ _ h => h) hHeld (fun _ hw' => rfl) ?_
              simp only [List.setIfInBounds_toArray, List.set_cons_zero, List.set_cons_succ]
              refine takeVal 5 30 (.pointer (some ⟨ge, k * 2, none⟩)) rfl (by kernel_rfl) (by kernel_rfl) (by kernel_rfl) rfl (by rfl) (fun _ _ _ h => h) hHeld (fun _ hw' => by go_simp) ?_
              simp only [List.setIfInBounds_toArray, List.set_cons_zero, List.set_cons_succ]
              refine takeVal 6 31 (.pointer (some ⟨ge, k * 2 + 1, none⟩)) rfl (by kernel_rfl) (by kernel_rfl) (by kernel_rfl) rfl (by rfl) (fun _ _ _ h => h) hHeld (fun _ hw' => by go_simp) ?_
              simp only [List.setIfInBounds_toArray, List.set_cons_zero, List.set_cons_succ]
              refine takeVal 7 32 (.int .i64 eb) rfl (by kernel_rfl) (by kernel_rfl) (by kernel_rfl) rfl (by rfl) (fun _ _ _ h => h) hHeld (fun _ hw' => by have hc := KE1.out _ hw'; go_simp) ?_
              simp only [List.setIfInBounds_toArray, List.set_cons_zero, List.set_cons_succ]
              refine takeVal 8 33 (.slice (some ⟨gl, 0, none⟩) ll cl) rfl (by kernel_rfl) (by kernel_rfl) (by kernel_rfl) rfl (by rfl) (fun _ _ _ h => h) hHeld (fun _ hw' => rfl) ?_
              simp only [List.setIfInBounds_toArray, List.set_cons_zero, List.set_cons_succ]
              refine takeVal 9 34 (.int .i64 (i : Int)) rfl (by kernel_rfl) (by kernel_rfl) (by kernel_rfl) rfl (by rfl) (fun _ _ _ h => h) hHeld (fun _ hw' => rfl) ?_
              simp only [List.setIfInBounds_toArray, List.set_cons_zero, List.set_cons_succ]
              refine takeVal 10 35 (.pointer (some ⟨gl, i, none⟩)) rfl (by kernel_rfl) (by kernel_rfl) (by kernel_rfl) rfl (by rfl) (fun _ _ _ h => h) hHeld (fun _ hw' => by go_simp) ?_
              simp only [List.setIfInBounds_toArray, List.set_cons_zero, List.set_cons_succ]
              refine takeVal 11 36 (.int .i64 y) rfl (by kernel_rfl) (by kernel_rfl) (by kernel_rfl) rfl (by rfl) (fun _ _ _ h => h) hHeld (fun _ hw' => by have hc := KL.out _ hw'; go_simp) ?_
              simp only [List.setIfInBounds_toArray, List.set_cons_zero, List.set_cons_succ]
              refine takeVal 12 37 (.bool true) rfl (by kernel_rfl) (by kernel_rfl) (by kernel_rfl) rfl (by rfl) (fun _ _ _ h => h) hHeld (fun _ hw' => by go_simp) ?_
              simp only [List.setIfInBounds_toArray, List.set_cons_zero, List.set_cons_succ]
              refine takeVal 13 38 (.bool true) rfl (by kernel_rfl) (by kernel_rfl) (by kernel_rfl) rfl (by rfl) (fun _ _ _ h => h) hHeld (fun _ hw' => rfl) ?_
              simp only [List.setIfInBounds_toArray, List.set_cons_zero, List.set_cons_succ]
              refine takeVal 14 39 (.slice (some ⟨gl, 0, none⟩) ll cl) rfl (by kernel_rfl) (by kernel_rfl) (by kernel_rfl) rfl (by rfl) (fun _ _ _ h => h) hHeld (fun _ hw' => rfl) ?_
              simp only [List.setIfInBounds_toArray, List.set_cons_zero, List.set_cons_succ]
              refine takeVal 15 40 (.pointer (some ⟨r, 0, none⟩)) rfl (by kernel_rfl) (by kernel_rfl) (by kernel_rfl) rfl (by rfl) (fun _ _ _ h => h) hHeld (fun _ hw' => rfl) ?_
              simp only [List.setIfInBounds_toArray, List.set_cons_zero, List.set_cons_succ]
              refine takeVal 16 41 (.pointer (some ⟨r, 0, none⟩)) rfl (by kernel_rfl) (by kernel_rfl) (by kernel_rfl) rfl (by rfl) (fun _ _ _ h => h) hHeld (fun _ hw' => by go_simp) ?_
              simp only [List.setIfInBounds_toArray, List.set_cons_zero, List.set_cons_succ]
              refine takeVal 17 42 (.pointer (some ⟨r, 2, none⟩)) rfl (by kernel_rfl) (by kernel_rfl) (by kernel_rfl) rfl (by rfl) (fun _ _ _ h => h) hHeld (fun _ hw' => by go_simp) ?_
              simp only [List.setIfInBounds_toArray, List.set_cons_zero, List.set_cons_succ]
              refine takeVal 18 43 (.slice (some ⟨ge, 0, none⟩) m cp) rfl (by kernel_rfl) (by kernel_rfl) (by kernel_rfl) rfl (by rfl) (fun _ _ _ h => h) hHeld (fun _ hw' => by have hc := K2.out _ hw'; go_simp) ?_
              simp only [List.setIfInBounds_toArray, List.set_cons_zero, List.set_cons_succ]
              refine takeVal 19 44 (.int .i64 (k : Int)) rfl (by kernel_rfl) (by kernel_rfl) (by kernel_rfl) rfl (by rfl) (fun _ _ _ h => h) hHeld (fun _ hw' => rfl) ?_
              simp only [List.setIfInBounds_toArray, List.set_cons_zero, List.set_cons_succ]
              refine takeVal 20 45 (.pointer (some ⟨ge, k * 2, none⟩)) rfl (by kernel_rfl) (by kernel_rfl) (by kernel_rfl) rfl (by rfl) (fun _ _ _ h => h) hHeld (fun _ hw' => by go_simp) ?_
              simp only [List.setIfInBounds_toArray, List.set_cons_zero, List.set_cons_succ]
              refine takeVal 21 46 (.pointer (some ⟨ge, k * 2, none⟩)) rfl (by kernel_rfl) (by kernel_rfl) (by kernel_rfl) rfl (by rfl) (fun _ _ _ h => h) hHeld (fun _ hw' => by go_simp) ?_
              simp only [List.setIfInBounds_toArray, List.set_cons_zero, List.set_cons_succ]
              refine takeVal 22 47 (.int .i64 ea) rfl (by kernel_rfl) (by kernel_rfl) (by kernel_rfl) rfl (by rfl) (fun _ _ _ h => h) hHeld (fun _ hw' => by have hc := KE0.out _ hw'; go_simp) ?_
              simp only [List.setIfInBounds_toArray, List.set_cons_zero, List.set_cons_succ]
              refine step1 23 (by kernel_rfl) ?_
              refine stCall 23 48 101 #[.slice (some ⟨gl, 0, none⟩) ll cl, .int .i64 ea] _ rfl rfl (by rfl) (by go_simp) (HAm.out _ hHeld) ?_
              rintro e9 w' ⟨rfl, hw⟩
              subst hw
              refine ⟨_, rfl, hHeld, ?_⟩
              simp only [List.setIfInBounds_toArray, List.set_cons_zero, List.set_cons_succ]
              refine takeVal 24 49 (.bool true) rfl (by kernel_rfl) (by kernel_rfl) (by kernel_rfl) rfl (by rfl) (fun _ _ _ h => h) hHeld (fun _ hw' => by go_simp) ?_
              simp only [List.setIfInBounds_toArray, List.set_cons_zero, List.set_cons_succ]
              refine takeVal 25 50 (.bool true) rfl (by kernel_rfl) (by kernel_rfl) (by kernel_rfl) rfl (by rfl) (fun _ _ _ h => h) hHeld (fun _ hw' => rfl) ?_
              simp only [List.setIfInBounds_toArray, List.set_cons_zero, List.set_cons_succ]
              refine wpAnyH_done (by kernel_rfl) ?_ _
              refine NoPanic.normal ?_
              have HCn := hid hHeld
              clear hHeld
              have q2 := K2.out _ HCn.out
              have p1 := KE0.out _ HCn.out
              obtain ⟨we, hwe⟩ : ∃ y, y = wr.drew := ⟨_, rfl⟩
              rw [← hwe] at HCn q2 p1 ⊢
              clear hwe
              have HI5 : Hid (Ints (we.alloc (.cells #[.int .i64 ea] 3)) w.heap.size (.slice (some ⟨gl, 0, none⟩) ll cl) l) := hid (row_keep HL1.out (HCn.out.tr (Chg.alloc we (.cells #[.int .i64 ea] 3) No)) (fun _ _ e => e))
              have hcell : (we.alloc (.cells #[.int .i64 ea] 3)).cell? ⟨we.heap.size, 0, none⟩ = some (.int .i64 ea) := (cell_of_row _ _ _ _ _ _ (heap_alloc_new _ _)).trans rfl
              have HSz : Hid (w.heap.size ≤ we.heap.size) := hid (Nat.le_trans HL3.out.size HCn.out.size)
              have HLn : Hid (l.length ≤ 4097) := hid (HL2.out.len HI.out)
              go_wp2_with (first
                | (at_builtin; go_must (refine wp_appI rfl _ _ rfl w.heap.size we.heap.size 1 _ l ea rfl rfl HI5.out hcell (by have := HLn.out; omega) (by have := HSz.out; simp; omega) ?_; intro v5 w5 h51 h52 h53; have H51 := hid h51; have H52 := hid h52; clear h51 h52 h53))
                | fail)
              refine ⟨⟨v5, k + 1, rfl, by go_num, by omega, hid ⟨l ++ [ea], H51.out, ⟨?_, ?_, List.mem_append_left _ HL2.out.me, ?_⟩, ?_, ?_, ?_⟩⟩, by simp [intOf]; omega⟩
              · rw [List.nodup_append]
                exact ⟨HL2.out.nd, by simp, fun a ha b hb e9 => HIn.out (by rw [List.mem_singleton.1 hb] at e9; rw [← e9]; exact ha)⟩
              · intro a ha
                rcases List.mem_append.1 ha with ha | ha
                · exact HL2.out.is a ha
                · rw [List.mem_singleton.1 ha]
                  refine reach_step (HL2.out.is y (List.mem_of_getElem? HL4.out)) ?_
                  have h9 := HMem.out
                  rw [← H.out.we, HEa.out, ← HBy.out, HEb.out]
                  exact h9
              · intro j b hj hb e9 he9 h99
                have hil : i < l.length := (List.getElem?_eq_some_iff.1 HL4.out).1
                rw [List.getElem?_append_left (by omega)] at hb
                exact List.mem_append_left _ (HL2.out.cl j b hj hb e9 he9 h99)
              · exact (((HL3.out.tr HCn.out).tr (Chg.alloc we (.cells #[.int .i64 ea] 3) No)).trans H52.out (fun _ _ e => e) (fun j hj e => by have := (row_ge HI5.out e).1; omega))
              · have hil : i < l.length := (List.getElem?_eq_some_iff.1 HL4.out).1
                rw [List.getElem?_append_left hil]
                exact HL4.out
              · intro e9 h9 h99
                rw [HTk.out] at h9
                rcases List.mem_append.1 h9 with h9 | h9
                · exact List.mem_append_left _ (HL5.out e9 h9 h99)
                · rw [List.mem_singleton.1 h9, ← HEa.out]
                  exact List.mem_append_right _ (List.mem_singleton.2 rfl)
          · have zb : (eb == y) = false := beq_eq_false_iff_ne.2 hby
            have HNx : Hid (∃ l', Ints wr w.heap.size (.slice (some ⟨gl, 0, none⟩) ll cl) l' ∧ AhI z x W l' i ∧ Chg w wr No ∧ l'[i]? = some y ∧ ∀ e ∈ W.take (k + 1), e.2 = y → e.1 ∈ l') := hid ⟨l, HL1.out, HL2.out, HL3.out, HL4.out, fun e2 h2 h3 => by
              rw [HTk.out] at h2
              rcases List.mem_append.1 h2 with h2 | h2
              · exact HL5.out e2 h2 h3
              · rw [List.mem_singleton.1 h2, ← HEb.out] at h3; exact absurd h3 hby⟩
            clear hby p1 p2 p3
            go_upto_region 8 with fail
            clear q2
            refine wp_region_noPanic ?_
            refine wp_region_held_drew (S := fun W => Chg wr W No) (by kernel_rfl) ((Chg.refl wr No).drew) (fun hHeld => ?_)
            refine takeVal 0 25 (.pointer (some ⟨r, 0, none⟩)) rfl (by kernel_rfl) (by kernel_rfl) (by kernel_rfl) rfl (by rfl) (fun _ _ _ h => h) hHeld (fun _ hw' => rfl) ?_
            simp only [List.setIfInBounds_toArray, List.set_cons_zero, List.set_cons_succ]
            refine takeVal 1 26 (.pointer (some ⟨r, 0, none⟩)) rfl (by kernel_rfl) (by kernel_rfl) (by kernel_rfl) rfl (by rfl) (fun _ _ _ h => h) hHeld (fun _ hw' => by go_simp) ?_
            simp only [List.setIfInBounds_toArray, List.set_cons_zero, List.set_cons_succ]
            refine takeVal 2 27 (.pointer (some ⟨r, 2, none⟩)) rfl (by kernel_rfl) (by kernel_rfl) (by kernel_rfl) rfl (by rfl) (fun _ _ _ h => h) hHeld (fun _ hw' => by go_simp) ?_
            simp only [List.setIfInBounds_toArray, List.set_cons_zero, List.set_cons_succ]
            refine takeVal 3 28 (.slice (some ⟨ge, 0, none⟩) m cp) rfl (by kernel_rfl) (by kernel_rfl) (by kernel_rfl) rfl (by rfl) (fun _ _ _ h => h) hHeld (fun _ hw' => by have hc := K2.out _ hw'; go_simp) ?_
            simp only [List.setIfInBounds_toArray, List.set_cons_zero, List.set_cons_succ]
            refine takeVal 4 29 (.int .i64 (k : Int)) rfl (by kernel_rfl) (by kernel_rfl) (by kernel_rfl) rfl (by rfl) (fun _ _ _ h => h) hHeld (fun _ hw' => rfl) ?_
            simp only [List.setIfInBounds_toArray, List.set_cons_zero, List.set_cons_succ]
            refine takeVal 5 30 (.pointer (some ⟨ge, k * 2, none⟩)) rfl (by kernel_rfl) (by kernel_rfl) (by kernel_rfl) rfl (by rfl) (fun _ _ _ h => h) hHeld (fun _ hw' => by go_simp) ?_
            simp only [List.setIfInBounds_toArray, List.set_cons_zero, List.set_cons_succ]
            refine takeVal 6 31 (.pointer (some ⟨ge, k * 2 + 1, none⟩)) rfl (by kernel_rfl) (by kernel_rfl) (by kernel_rfl) rfl (by rfl) (fun _ _ _ h => h) hHeld (fun _ hw' => by go_simp) ?_
            simp only [List.setIfInBounds_toArray, List.set_cons_zero, List.set_cons_succ]
            refine takeVal 7 32 (.int .i64 eb) rfl (by kernel_rfl) (by kernel_rfl) (by kernel_rfl) rfl (by rfl) (fun _ _ _ h => h) hHeld (fun _ hw' => by have hc := KE1.out _ hw'; go_simp) ?_
            simp only [List.setIfInBounds_toArray, List.set_cons_zero, List.set_cons_succ]
            refine takeVal 8 33 (.slice (some ⟨gl, 0, none⟩) ll cl) rfl (by kernel_rfl) (by kernel_rfl) (by kernel_rfl) rfl (by rfl) (fun _ _ _ h => h) hHeld (fun _ hw' => rfl) ?_
            simp only [List.setIfInBounds_toArray, List.set_cons_zero, List.set_cons_succ]
            refine takeVal 9 34 (.int .i64 (i : Int)) rfl (by kernel_rfl) (by kernel_rfl) (by kernel_rfl) rfl (by rfl) (fun _ _ _ h => h) hHeld (fun _ hw' => rfl) ?_
            simp only [List.setIfInBounds_toArray, List.set_cons_zero, List.set_cons_succ]
            refine takeVal 10 35 (.pointer (some ⟨gl, i, none⟩)) rfl (by kernel_rfl) (by kernel_rfl) (by kernel_rfl) rfl (by rfl) (fun _ _ _ h => h) hHeld (fun _ hw' => by go_simp) ?_
            simp only [List.setIfInBounds_toArray, List.set_cons_zero, List.set_cons_succ]
            refine takeVal 11 36 (.int .i64 y) rfl (by kernel_rfl) (by kernel_rfl) (by kernel_rfl) rfl (by rfl) (fun _ _ _ h => h) hHeld (fun _ hw' => by have hc := KL.out _ hw'; go_simp) ?_
            simp only [List.setIfInBounds_toArray, List.set_cons_zero, List.set_cons_succ]
            refine takeVal 12 37 (.bool false) rfl (by kernel_rfl) (by kernel_rfl) (by kernel_rfl) rfl (by rfl) (fun _ _ _ h => h) hHeld (fun _ hw' => by go_simp) ?_
            simp only [List.setIfInBounds_toArray, List.set_cons_zero, List.set_cons_succ]
            refine takeVal 13 38 (.bool false) rfl (by kernel_rfl) (by kernel_rfl) (by kernel_rfl) rfl (by rfl) (fun _ _ _ h => h) hHeld (fun _ hw' => rfl) ?_
            simp only [List.setIfInBounds_toArray, List.set_cons_zero, List.set_cons_succ]
            refine takeNot 14 39 rfl (by kernel_rfl) (by kernel_rfl) (by kernel_rfl) rfl (by rfl) (fun _ _ _ h => h) hHeld ?_
            simp only [List.setIfInBounds_toArray, List.set_cons_zero, List.set_cons_succ]
            refine takeNot 15 40 rfl (by kernel_rfl) (by kernel_rfl) (by kernel_rfl) rfl (by rfl) (fun _ _ _ h => h) hHeld ?_
            simp only [List.setIfInBounds_toArray, List.set_cons_zero, List.set_cons_succ]
            refine takeNot 16 41 rfl (by kernel_rfl) (by kernel_rfl) (by kernel_rfl) rfl (by rfl) (fun _ _ _ h => h) hHeld ?_
            simp only [List.setIfInBounds_toArray, List.set_cons_zero, List.set_cons_succ]
            refine takeNot 17 42 rfl (by kernel_rfl) (by kernel_rfl) (by kernel_rfl) rfl (by rfl) (fun _ _ _ h => h) hHeld ?_
            simp only [List.setIfInBounds_toArray, List.set_cons_zero, List.set_cons_succ]
            refine takeNot 18 43 rfl (by kernel_rfl) (by kernel_rfl) (by kernel_rfl) rfl (by rfl) (fun _ _ _ h => h) hHeld ?_
            simp only [List.setIfInBounds_toArray, List.set_cons_zero, List.set_cons_succ]
            refine takeNot 19 44 rfl (by kernel_rfl) (by kernel_rfl) (by kernel_rfl) rfl (by rfl) (fun _ _ _ h => h) hHeld ?_
            simp only [List.setIfInBounds_toArray, List.set_cons_zero, List.set_cons_succ]
            refine takeNot 20 45 rfl (by kernel_rfl) (by kernel_rfl) (by kernel_rfl) rfl (by rfl) (fun _ _ _ h => h) hHeld ?_
            simp only [List.setIfInBounds_toArray, List.set_cons_zero, List.set_cons_succ]
            refine takeNot 21 46 rfl (by kernel_rfl) (by kernel_rfl) (by kernel_rfl) rfl (by rfl) (fun _ _ _ h => h) hHeld ?_
            simp only [List.setIfInBounds_toArray, List.set_cons_zero, List.set_cons_succ]
            refine takeNot 22 47 rfl (by kernel_rfl) (by kernel_rfl) (by kernel_rfl) rfl (by rfl) (fun _ _ _ h => h) hHeld ?_
            simp only [List.setIfInBounds_toArray, List.set_cons_zero, List.set_cons_succ]
            refine takeNot 23 48 rfl (by kernel_rfl) (by kernel_rfl) (by kernel_rfl) rfl (by rfl) (fun _ _ _ h => h) hHeld ?_
            simp only [List.setIfInBounds_toArray, List.set_cons_zero, List.set_cons_succ]
            refine takeNot 24 49 rfl (by kernel_rfl) (by kernel_rfl) (by kernel_rfl) rfl (by rfl) (fun _ _ _ h => h) hHeld ?_
            simp only [List.setIfInBounds_toArray, List.set_cons_zero, List.set_cons_succ]
            refine takeVal 25 50 (.bool false) rfl (by kernel_rfl) (by kernel_rfl) (by kernel_rfl) rfl (by rfl) (fun _ _ _ h => h) hHeld (fun _ hw' => rfl) ?_
            simp only [List.setIfInBounds_toArray, List.set_cons_zero, List.set_cons_succ]
            refine wpAnyH_done (by kernel_rfl) ?_ _
            refine NoPanic.normal ?_
            have HCn := hid hHeld
            clear hHeld
            go_wp2_with fail
            exact ⟨⟨_, k + 1, rfl, by go_num, by omega, hid (by obtain ⟨l', a1, a2, a3, a4, a5⟩ := HNx.out; exact ⟨l', row_keep a1 HCn.out (fun _ _ e => e), a2, a3.tr HCn.out, a4, a5⟩)⟩, by simp [intOf]; omega⟩
        · have k1 : ¬ (k : Int) < (m : Int) := by omega
          have HTk : Hid (W.take k = W) := hid (List.take_of_length_le (by rw [← HM.out]; omega))
          have HNx : Hid (∃ l', Ints wr w.heap.size (.slice (some ⟨gl, 0, none⟩) ll cl) l' ∧ AhI z x W l' (i + 1) ∧ Chg w wr No) := hid ⟨l, HL1.out, ⟨HL2.out.nd, HL2.out.is, HL2.out.me, fun j b hj hb e9 he9 h9 => by
            by_cases hji : j = i
            · rw [hji, HL4.out] at hb
              cases hb
              exact HL5.out e9 (by rw [HTk.out]; exact he9) h9
            · exact HL2.out.cl j b (by omega) hb e9 he9 h9⟩, HL3.out⟩
          clear p3
          go_wp2_with fail
          exact ⟨⟨_, i + 1, rfl, by go_num, by omega, HNx⟩, by simp [intOf]; omega⟩
    · have i1 : ¬ (i : Int) < (ll : Int) := by omega
      have HD := hid (HL2.out.done HI.out H.out.we (by rw [← HLl.out]; omega))
      go_wp2_with fail
      go_ret
      exact ⟨_, rfl, l, HL1.out, HD.out, HL3.out⟩
end
end Go.Proofs.YtamoepninddbcaaGreat
