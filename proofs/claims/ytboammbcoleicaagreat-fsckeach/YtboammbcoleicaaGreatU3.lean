/-
  Is a slot an entry?
-/
import Derived.Test.YtboammbcoleicaaGreatT2
import Derived.StringKeys
import Derived.Test.YtboammbcoleicaaGreatU2
namespace Go.Proofs.YtboammbcoleicaaGreat
open Go.RowKit Go.Shelf

theorem keyS : Maps.Keyed Tryz.prog 9 := Maps.string_keyed Tryz.underlying9
theorem keyOfS {s : ByteArray} (h : s.size ≤ 1000) : keyOf Tryz.prog 9 (.string s) = some (.string s.data.toList) := WideMaps.keyOf_string_mk Tryz.underlying9 (by unfold maxLen; omega)
theorem keyLitS (l : List UInt8) : WideAt.IsKeyLit (.string l) := trivial
/-- A block is a set of just these texts. -/
def NSet (w : World) (b : Nat) (l : List ByteArray) : Prop :=
  ∃ D : DataW Unit, w.ownsMap Tryz.prog 9 unitElem b (Maps.size D) D ∧ Maps.size D ≤ l.length ∧ ∀ x : ByteArray, Maps.has D (.string x.data.toList) = hasN l x
theorem NSet.lt {w : World} {b : Nat} {l : List ByteArray} (h : NSet w b l) : b < w.heap.size := let ⟨_, h, _⟩ := h; h.lt
theorem NSet.isMap {w : World} {b : Nat} {l : List ByteArray} (h : NSet w b l) : ∃ es clock, w.heap[b]? = some (.map es clock) := by
  obtain ⟨D, ⟨es, clock, h, _⟩, _⟩ := h
  exact ⟨es, clock, h⟩
theorem NSet.keep {w w' : World} {b : Nat} {l : List ByteArray} {ks : Nat → Prop} (h : NSet w b l) (hc : Chg w w' ks) (hn : ¬ ks b) : NSet w' b l := by
  obtain ⟨D, ⟨es, clock, hb, r⟩, k⟩ := h
  exact ⟨D, ⟨es, clock, hc.keep hb hn, r⟩, k⟩
theorem NSet.made (w : World) : NSet (w.alloc (.map #[] 0)) w.heap.size [] :=
  ⟨.map [], World.ownsMap_made w Tryz.prog 9 unitElem, by simp [Maps.size], fun x => by simp [Maps.has, hasN]⟩
theorem NSet.store {w : World} {b : Nat} {l : List ByteArray} (h : NSet w b l) {x : ByteArray} (hx : x.size ≤ 1000) (hl : l.length ≤ 1000000) :
    ∃ w', (Instr.mapUpdate 132 (.map (some b)) (.string x) (.agg #[])).run Tryz.prog w = .ok () w' ∧ NSet w' b (x :: l) ∧ Chg w w' (· = b) ∧ w'.heap.size = w.heap.size := by
  obtain ⟨D, h, hs, hh⟩ := h
  obtain ⟨w', hrun, ho, ht⟩ := h.store keyS Tryz.underlying132 (by unfold maxLen; omega) (keyOfS hx) (unitElem_mk (H := Unit))
  obtain ⟨h1, h2⟩ := turned_chg ht
  refine ⟨w', hrun, ⟨D.put (.string x.data.toList) (.agg []), ?_, ?_, fun y => ?_⟩, h1, h2⟩
  · obtain ⟨es, clock, hb, F, hs', hD⟩ := ho
    refine ⟨es, clock, hb, F, ?_, hD⟩
    rw [hD]
    simp [Maps.size, length_sorted]
  · rw [Maps.size_put (h.tidy keyS)]
    split <;> simp <;> omega
  · by_cases hy : y.data = x.data
    · rw [show y.data.toList = x.data.toList by rw [hy], Maps.has_put_same h.isMap (keyLitS _)]
      simp [hasN, hy]
    · rw [Maps.has_put_other (by simpa using fun e => hy (Array.ext' e)), hh y]
      have : ¬ x.data = y.data := fun e => hy e.symm
      simp [hasN, this]
section
variable {ops : Array Oper} {rest : List Oper} {o : Oper} {a : Act} {Q : Exit → Act → World → Prop} {w : World}
theorem wp_okN (hg : o.guard = none) (m x : Operand) (hop : o.op = Op.lookup 132 m x true) (b : Nat) (l : List ByteArray) (k : ByteArray) (hm : a.eval m = .map (some b)) (hx : a.eval x = .string k)
    (h : NSet w b l) (hk : k.size ≤ 1000) (hK : wpList Tryz.prog ops Q rest (a.put o.dst (.tuple #[.agg #[], .bool (hasN l k)])) w) : wpList Tryz.prog ops Q (o :: rest) a w := by
  obtain ⟨D, h, _, hh⟩ := h
  refine wpList_lookup_own_unit w hg m x 132 hop 9 136 keyS Tryz.underlying132 (zeroU w) b _ D hm h _ _ hx (keyOfS hk) ?_
  rw [hh k]
  exact hK
theorem wp_storeN (hg : o.guard = none) (m x v : Operand) (hop : o.op = Op.mapUpdate 132 m x v) (b : Nat) (l : List ByteArray) (k : ByteArray) (hm : a.eval m = .map (some b)) (hx : a.eval x = .string k) (hv : a.eval v = .agg #[])
    (h : NSet w b l) (hk : k.size ≤ 1000) (hl : l.length ≤ 1000000)
    (hK : ∀ w', NSet w' b (k :: l) → Chg w w' (· = b) → w'.heap.size = w.heap.size → wpList Tryz.prog ops Q rest (a.put o.dst undef) w') : wpList Tryz.prog ops Q (o :: rest) a w := by
  refine wpList_plain hg fun K' hK' => ?_
  obtain ⟨w', hrun, r1, r2, r3⟩ := h.store hk hl
  unfold Oper.wp
  simp [execOp, hop, hm, hx, hv, hrun, Result.andThen]
  exact hK' _ _ (hK w' r1 r2 r3)
end

end Go.Proofs.YtboammbcoleicaaGreat

namespace Go.Proofs.YtboammbcoleicaaGreat
open Go.RowKit Go.Shelf

set_option maxRecDepth 100000 in
set_option maxHeartbeats 1000000 in
theorem isEntry_any {c : LC} {s : LS} {l : List ByteArray} {nb : Nat} (n : Int) (nm : ByteArray) (w : World) (h : IsL w c s) (hk : TkOk c s.tk) (hn : NSet w nb l) (hnI : I64 n) (hnm : nm.size ≤ 1000) :
    Calls Tryz.prog 77 #[LP c, .agg (SLA n nm), .map (some nb)] w fun e w' => e = .returned (.bool (isEntryB c.M c.im s n (hasN l nm))) ∧ Chg w w' No := by
  have hu := zeroU
  have hzi := zero_inode
  have HH := hid h
  have hA := Chg.alloc w (.cells (SLA n nm) 121) No
  have hN := heap_alloc_new w (.cells (SLA n nm) 121)
  have HNS := hid (hn.keep hA (fun e => e))
  have s0 : (w.alloc (.cells (SLA n nm) 121)).cell? ⟨w.heap.size, 0, none⟩ = some (.int .i64 n) := (cell_of_row _ _ _ _ _ _ hN).trans rfl
  have s1 : (w.alloc (.cells (SLA n nm) 121)).cell? ⟨w.heap.size, 1, none⟩ = some (.string nm) := (cell_of_row _ _ _ _ _ _ hN).trans rfl
  have hB := Chg.alloc (w.alloc (.cells (SLA n nm) 121)) (.cells #[] 136) No
  have hNB := hB.keep hN (fun e => e)
  have t0 : ((w.alloc (.cells (SLA n nm) 121)).alloc (.cells #[] 136)).cell? ⟨w.heap.size, 0, none⟩ = some (.int .i64 n) := (cell_of_row _ _ _ _ _ _ hNB).trans rfl
  have HSc := hid t0
  have HSz : Hid (w.heap.size < ((w.alloc (.cells (SLA n nm) 121)).alloc (.cells #[] 136)).heap.size) := hid (slt hNB)
  have HCc := hid (hA.trans hB (c := No) (fun _ _ e => e) (fun _ _ e => e))
  have HnI := hid hnI
  unfold LP
  cases hl : hasN l nm with
  | true =>
    have HNl := hid hl
    have HE : Hid (isEntryB c.M c.im s n true = false) := hid rfl
    rw [HE.out]
    clear h hk hn hA hB hN hNB hl
    go_enter Tryz.func77, Tryz.ntmps77
    go_wp2_with (first
      | (at_lookup; go_must (refine wp_okN rfl _ _ rfl nb l nm rfl rfl HNS.out hnm ?_; rw [HNl.out]))
      | fail)
    go_ret
    exact ⟨rfl, HCc.out⟩
  | false =>
    have HNl := hid hl
    by_cases h1 : n = 1
    · have HE : Hid (isEntryB c.M c.im s n false = false) := hid (by simp [isEntryB, h1])
      rw [HE.out]
      have hb1 : (n == 1) = true := by simpa using h1
      clear h hk hn hA hB hN hNB hl h1
      go_enter Tryz.func77, Tryz.ntmps77
      go_wp2_with (first
        | (at_lookup; go_must (refine wp_okN rfl _ _ rfl nb l nm rfl rfl HNS.out hnm ?_; rw [HNl.out]))
        | fail)
      go_ret
      exact ⟨rfl, HCc.out⟩
    · have hb1 : (n == 1) = false := by simpa using h1
      cases ht : s.tk n with
      | some z =>
        have HT := hid ht
        obtain ⟨_, _, zl, _, _⟩ := hk n z ht
        have HZl := hid zl
        obtain ⟨K, hKe⟩ : ∃ y, y = z.getD 0 0 := ⟨_, rfl⟩
        obtain ⟨Lk, hLe⟩ : ∃ y, y = z.getD 1 0 := ⟨_, rfl⟩
        have HE : Hid (isEntryB c.M c.im s n false = (decide (K = 1) && decide (Lk < 100))) := hid (by rw [hKe, hLe]; simp [isEntryB, h1, ht])
        have HKe := hid hKe
        have HLe := hid hLe
        clear hKe hLe
        rw [HE.out]
        clear h hk hn hA hB hN hNB hl ht zl
        go_enter Tryz.func77, Tryz.ntmps77
        go_upto_region 4 with (first
          | (at_lookup; go_must (refine wp_okN rfl _ _ rfl nb l nm rfl rfl HNS.out hnm ?_; rw [HNl.out]))
          | fail)
        have HL4 := hid (HH.out.call HCc.out)
        generalize hW : (w.alloc (.cells (SLA n nm) 121)).alloc (.cells #[] 136) = W1 at *
        clear hW
        have hP := fun (W : World) (hW : Chg W1 W No) => (HL4.out.v.p.call hW).c6
        have hS := fun (W : World) (hW : Chg W1 W No) => cell_keep HSc.out hW HSz.out (fun e => e)
        have hlk : ∀ (W : World), Chg W1 W No → (Instr.lookup 99 (.map (some c.b.tb)) (.int .i64 n) true).run Tryz.prog W = .ok (.tuple #[.agg (NA z), .bool true]) W := fun W hW => by
          have := (HL4.out.call hW).t.look_ok HnI.out
          rw [HT.out] at this
          exact this
        refine wp_region_noPanic ?_
        refine wp_region_held_drew (S := fun w' => Chg W1 w' No) (by kernel_rfl) (Chg.refl _ _).drew (fun hHeld => ?_)
        refine takeVal 0 27 (.pointer (some ⟨c.b.p, 0, none⟩)) rfl (by kernel_rfl) (by kernel_rfl) (by kernel_rfl) rfl (by rfl) (fun _ _ _ h => h) hHeld (fun W' hw' => rfl) ?_
        simp only [List.setIfInBounds_toArray, List.set_cons_zero, List.set_cons_succ]
        refine takeVal 1 28 (.pointer (some ⟨c.b.p, 0, none⟩)) rfl (by kernel_rfl) (by kernel_rfl) (by kernel_rfl) rfl (by rfl) (fun _ _ _ h => h) hHeld (fun W' hw' => by go_simp) ?_
        simp only [List.setIfInBounds_toArray, List.set_cons_zero, List.set_cons_succ]
        refine takeVal 2 29 (.pointer (some ⟨c.b.p, 6, none⟩)) rfl (by kernel_rfl) (by kernel_rfl) (by kernel_rfl) rfl (by rfl) (fun _ _ _ h => h) hHeld (fun W' hw' => by go_simp) ?_
        simp only [List.setIfInBounds_toArray, List.set_cons_zero, List.set_cons_succ]
        refine takeVal 3 30 (.map (some c.b.tb)) rfl (by kernel_rfl) (by kernel_rfl) (by kernel_rfl) rfl (by rfl) (fun _ _ _ h => h) hHeld (fun W' hw' => by have hc := hP W' hw'; go_simp) ?_
        simp only [List.setIfInBounds_toArray, List.set_cons_zero, List.set_cons_succ]
        refine takeVal 4 31 (.pointer (some ⟨w.heap.size, 0, none⟩)) rfl (by kernel_rfl) (by kernel_rfl) (by kernel_rfl) rfl (by rfl) (fun _ _ _ h => h) hHeld (fun W' hw' => by go_simp) ?_
        simp only [List.setIfInBounds_toArray, List.set_cons_zero, List.set_cons_succ]
        refine takeVal 5 32 (.int .i64 n) rfl (by kernel_rfl) (by kernel_rfl) (by kernel_rfl) rfl (by rfl) (fun _ _ _ h => h) hHeld (fun W' hw' => by have hc := hS W' hw'; go_simp) ?_
        simp only [List.setIfInBounds_toArray, List.set_cons_zero, List.set_cons_succ]
        refine takeVal 6 33 (.tuple #[.agg (NA z), .bool true]) rfl (by kernel_rfl) (by kernel_rfl) (by kernel_rfl) rfl (by rfl) (fun _ _ _ h => h) hHeld (fun W' hw' => by have hl := hlk W' hw'; go_simp) ?_
        simp only [List.setIfInBounds_toArray, List.set_cons_zero, List.set_cons_succ]
        refine takeVal 7 26 (.tuple #[.agg (NA z), .bool true]) rfl (by kernel_rfl) (by kernel_rfl) (by kernel_rfl) rfl (by rfl) (fun _ _ _ h => h) hHeld (fun W' hw' => rfl) ?_
        simp only [List.setIfInBounds_toArray, List.set_cons_zero, List.set_cons_succ]
        refine takeVal 8 34 (.agg (NA z)) rfl (by kernel_rfl) (by kernel_rfl) (by kernel_rfl) rfl (by rfl) (fun _ _ _ h => h) hHeld (fun W' hw' => by go_simp) ?_
        simp only [List.setIfInBounds_toArray, List.set_cons_zero, List.set_cons_succ]
        refine takeVal 9 35 (.bool true) rfl (by kernel_rfl) (by kernel_rfl) (by kernel_rfl) rfl (by rfl) (fun _ _ _ h => h) hHeld (fun W' hw' => by go_simp) ?_
        simp only [List.setIfInBounds_toArray, List.set_cons_zero, List.set_cons_succ]
        refine step1 10 (by kernel_rfl) ?_
        refine stNew 10 9 (.pointer (some ⟨W1.drew.heap.size, 0, none⟩)) (.cells (NA Zi) 82) rfl rfl (by rfl) (by go_simp) ⟨hHeld.trans (Chg.alloc _ _ No) (fun _ _ e => e) (fun _ _ e => e), ?_⟩
        simp only [List.setIfInBounds_toArray, List.set_cons_zero, List.set_cons_succ]
        refine step1 11 (by kernel_rfl) ?_
        refine stStoreR 11 82 (.tmp 9) (.tmp 34) W1.drew.heap.size (NA z) 82 (NA Zi) rfl rfl (by rfl) rfl rfl rfl (heap_alloc_new _ _) (by rw [szI, NA_size, HZl.out]) (by first | rfl | (rw [NA_size, NA_size, Zi_len, HZl.out])) (NA_one _) ?_
        intro w5 hw5
        have hc5 : Chg W1 w5 No := (hHeld.trans (Chg.alloc _ _ No) (c := No) (fun _ _ e => e) (fun _ _ e => e)).trans (kt_new hw5) (fun _ _ e => e) (fun j hj e => by have : W1.drew.heap.size = W1.heap.size := rfl; omega)
        refine ⟨hc5, ?_⟩
        refine takeVal 12 10 (.bool true) rfl (by kernel_rfl) (by kernel_rfl) (by kernel_rfl) rfl (by rfl) (fun _ _ _ h => h) hc5 (fun W' hw' => rfl) ?_
        simp only [List.setIfInBounds_toArray, List.set_cons_zero, List.set_cons_succ]
        refine wpAnyH_done (by kernel_rfl) ?_ _
        refine NoPanic.normal ?_
        have HG5 := hid hw5.here
        have HC5 := hid (HCc.out.trans hc5 (c := No) (fun _ _ e => e) (fun _ _ e => e))
        have HC15 := hid hc5
        obtain ⟨g9, hg9⟩ : ∃ y, y = W1.drew.heap.size := ⟨_, rfl⟩
        rw [← hg9] at HG5
        rw [← hg9]
        clear hP hS hlk hw5 hc5 hHeld hg9
        have z0 := row_cell HG5.out 0 (by rw [HZl.out]; decide)
        have z1 := row_cell HG5.out 1 (by rw [HZl.out]; decide)
        rw [← HKe.out] at z0
        rw [← HLe.out] at z1
        by_cases hK : K = 1
        · have hKb : (K == 1) = true := by simpa using hK
          have HK1 := hid hK
          clear hK
          go_wp2_with fail
          go_ret
          exact ⟨by simp [HK1.out], HC5.out⟩
        · have hKb : (K == 1) = false := by simpa using hK
          have HK1 := hid hK
          clear hK
          go_wp2_with fail
          go_ret
          exact ⟨by simp [HK1.out], HC5.out⟩
      | none =>
        have HT := hid ht
        have HZl : Hid (Zi.length = 18) := hid Zi_len
        obtain ⟨r, hre⟩ : ∃ y, y = soundZ c.M c.im n := ⟨_, rfl⟩
        have HE : Hid (isEntryB c.M c.im s n false = r.2) := hid (by rw [hre]; simp [isEntryB, h1, ht])
        have HRe := hid hre
        rw [HE.out]
        clear hre
        clear h hk hn hA hB hN hNB hl ht
        have HSl := hid (soundZ_len c.M c.im n)
        go_enter Tryz.func77, Tryz.ntmps77
        go_upto_region 4 with (first
          | (at_lookup; go_must (refine wp_okN rfl _ _ rfl nb l nm rfl rfl HNS.out hnm ?_; rw [HNl.out]))
          | fail)
        have HL4 := hid (HH.out.call HCc.out)
        generalize hW : (w.alloc (.cells (SLA n nm) 121)).alloc (.cells #[] 136) = W1 at *
        clear hW
        have hP := fun (W : World) (hW : Chg W1 W No) => (HL4.out.v.p.call hW).c6
        have hS := fun (W : World) (hW : Chg W1 W No) => cell_keep HSc.out hW HSz.out (fun e => e)
        have hlk : ∀ (W : World), Chg W1 W No → (Instr.lookup 99 (.map (some c.b.tb)) (.int .i64 n) true).run Tryz.prog W = .ok (.tuple #[.agg (NA Zi), .bool false]) W := fun W hW => by
          have := (HL4.out.call hW).t.look_ok HnI.out
          rw [HT.out] at this
          exact this
        refine wp_region_noPanic ?_
        refine wp_region_held_drew (S := fun w' => Chg W1 w' No) (by kernel_rfl) (Chg.refl _ _).drew (fun hHeld => ?_)
        refine takeVal 0 27 (.pointer (some ⟨c.b.p, 0, none⟩)) rfl (by kernel_rfl) (by kernel_rfl) (by kernel_rfl) rfl (by rfl) (fun _ _ _ h => h) hHeld (fun W' hw' => rfl) ?_
        simp only [List.setIfInBounds_toArray, List.set_cons_zero, List.set_cons_succ]
        refine takeVal 1 28 (.pointer (some ⟨c.b.p, 0, none⟩)) rfl (by kernel_rfl) (by kernel_rfl) (by kernel_rfl) rfl (by rfl) (fun _ _ _ h => h) hHeld (fun W' hw' => by go_simp) ?_
        simp only [List.setIfInBounds_toArray, List.set_cons_zero, List.set_cons_succ]
        refine takeVal 2 29 (.pointer (some ⟨c.b.p, 6, none⟩)) rfl (by kernel_rfl) (by kernel_rfl) (by kernel_rfl) rfl (by rfl) (fun _ _ _ h => h) hHeld (fun W' hw' => by go_simp) ?_
        simp only [List.setIfInBounds_toArray, List.set_cons_zero, List.set_cons_succ]
        refine takeVal 3 30 (.map (some c.b.tb)) rfl (by kernel_rfl) (by kernel_rfl) (by kernel_rfl) rfl (by rfl) (fun _ _ _ h => h) hHeld (fun W' hw' => by have hc := hP W' hw'; go_simp) ?_
        simp only [List.setIfInBounds_toArray, List.set_cons_zero, List.set_cons_succ]
        refine takeVal 4 31 (.pointer (some ⟨w.heap.size, 0, none⟩)) rfl (by kernel_rfl) (by kernel_rfl) (by kernel_rfl) rfl (by rfl) (fun _ _ _ h => h) hHeld (fun W' hw' => by go_simp) ?_
        simp only [List.setIfInBounds_toArray, List.set_cons_zero, List.set_cons_succ]
        refine takeVal 5 32 (.int .i64 n) rfl (by kernel_rfl) (by kernel_rfl) (by kernel_rfl) rfl (by rfl) (fun _ _ _ h => h) hHeld (fun W' hw' => by have hc := hS W' hw'; go_simp) ?_
        simp only [List.setIfInBounds_toArray, List.set_cons_zero, List.set_cons_succ]
        refine takeVal 6 33 (.tuple #[.agg (NA Zi), .bool false]) rfl (by kernel_rfl) (by kernel_rfl) (by kernel_rfl) rfl (by rfl) (fun _ _ _ h => h) hHeld (fun W' hw' => by have hl := hlk W' hw'; go_simp) ?_
        simp only [List.setIfInBounds_toArray, List.set_cons_zero, List.set_cons_succ]
        refine takeVal 7 26 (.tuple #[.agg (NA Zi), .bool false]) rfl (by kernel_rfl) (by kernel_rfl) (by kernel_rfl) rfl (by rfl) (fun _ _ _ h => h) hHeld (fun W' hw' => rfl) ?_
        simp only [List.setIfInBounds_toArray, List.set_cons_zero, List.set_cons_succ]
        refine takeVal 8 34 (.agg (NA Zi)) rfl (by kernel_rfl) (by kernel_rfl) (by kernel_rfl) rfl (by rfl) (fun _ _ _ h => h) hHeld (fun W' hw' => by go_simp) ?_
        simp only [List.setIfInBounds_toArray, List.set_cons_zero, List.set_cons_succ]
        refine takeVal 9 35 (.bool false) rfl (by kernel_rfl) (by kernel_rfl) (by kernel_rfl) rfl (by rfl) (fun _ _ _ h => h) hHeld (fun W' hw' => by go_simp) ?_
        simp only [List.setIfInBounds_toArray, List.set_cons_zero, List.set_cons_succ]
        refine step1 10 (by kernel_rfl) ?_
        refine stNew 10 9 (.pointer (some ⟨W1.drew.heap.size, 0, none⟩)) (.cells (NA Zi) 82) rfl rfl (by rfl) (by go_simp) ⟨hHeld.trans (Chg.alloc _ _ No) (fun _ _ e => e) (fun _ _ e => e), ?_⟩
        simp only [List.setIfInBounds_toArray, List.set_cons_zero, List.set_cons_succ]
        refine step1 11 (by kernel_rfl) ?_
        refine stStoreR 11 82 (.tmp 9) (.tmp 34) W1.drew.heap.size (NA Zi) 82 (NA Zi) rfl rfl (by rfl) rfl rfl rfl (heap_alloc_new _ _) (by rw [szI, NA_size, HZl.out]) (by first | rfl | (rw [NA_size, NA_size, Zi_len, HZl.out])) (NA_one _) ?_
        intro w5 hw5
        have hc5 : Chg W1 w5 No := (hHeld.trans (Chg.alloc _ _ No) (c := No) (fun _ _ e => e) (fun _ _ e => e)).trans (kt_new hw5) (fun _ _ e => e) (fun j hj e => by have : W1.drew.heap.size = W1.heap.size := rfl; omega)
        refine ⟨hc5, ?_⟩
        refine takeVal 12 10 (.bool false) rfl (by kernel_rfl) (by kernel_rfl) (by kernel_rfl) rfl (by rfl) (fun _ _ _ h => h) hc5 (fun W' hw' => rfl) ?_
        simp only [List.setIfInBounds_toArray, List.set_cons_zero, List.set_cons_succ]
        refine wpAnyH_done (by kernel_rfl) ?_ _
        refine NoPanic.normal ?_
        have HG5 := hid hw5.here
        have HC5 := hid (HCc.out.trans hc5 (c := No) (fun _ _ e => e) (fun _ _ e => e))
        have HC15 := hid hc5
        obtain ⟨g9, hg9⟩ : ∃ y, y = W1.drew.heap.size := ⟨_, rfl⟩
        rw [← hg9] at HG5
        rw [← hg9]
        clear hP hS hlk hw5 hc5 hHeld hg9
        have hSo := sound_any n w5 (HL4.out.call HC15.out).v.p
        have k0 := cell_keep HSc.out HC15.out HSz.out (fun e => e)
        unfold LP at hSo
        rw [← HRe.out] at hSo HSl
        go_wp2_with (first
          | (go_at_call 50; go_must (refine hSo.mono ?_; rintro e w6 ⟨rfl, hc6⟩))
          | (refine store_R rfl 82 _ _ rfl w6.heap.size (NA r.1) rfl rfl 82 _ (heap_alloc_new _ _) (by rw [szI, NA_size, HSl.out]) (by rw [NA_size, NA_size, Zi_len, HSl.out]) (NA_one _) ?_; intro w7 hw7)
          | fail)
        go_ret
        refine ⟨rfl, (HC5.out.trans hc6 (c := No) (fun _ _ e => e) (fun _ _ e => e)).trans ((Chg.alloc w6 (.cells (NA Zi) 82) No).trans (kt_new hw7) (c := No) (fun _ _ e => e) (fun j hj e => by omega)) (fun _ _ e => e) (fun _ _ e => e)⟩

end Go.Proofs.YtboammbcoleicaaGreat
