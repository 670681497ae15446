/-
  The chapter's examples (known) come out true.
-/
import Derived.Test.YtmgkfifjcodhnaaLN2
import Derived.Test.YtmgkfifjcodhnaaL3
import Derived.Test.YtmgkfifjcodhnaaLI3
namespace Go.Proofs.Ytmgkfifjcodhnaa
open Go.RowKit

def kS : List Int := supS 64 16
theorem kS_sec : IsSec kS := supS_sec _ _
theorem k_sup (w : World) : Calls Try.prog 9 #[.agg #[.int .i64 64, .int .i64 16]] w fun e w' => e = .returned (.tuple #[.agg (SA kS), .int .i64 0]) ∧ Below w.heap.size w w' := by
  have h := superSector_any 64 16 w
  rw [show supE 64 16 = 0 by decide] at h
  exact h
theorem k_rds : rdSup (getV kS 4 4) (getV kS 8 4) kS = (64, 16, 0) := by decide
theorem k_rsup (w : World) : Calls Try.prog 10 #[.agg (SA kS)] w fun e w' => e = .returned (.tuple #[.agg #[.int .i64 64, .int .i64 16], .int .i64 0]) ∧ Below w.heap.size w w' := by
  have h := readSuper_any kS kS_sec w
  rw [k_rds] at h
  exact h
def ab : ByteArray := ⟨#[97, 98]⟩
theorem ab_list : ab.toList = [97, 98] := by rw [ByteArray.toList_eq]; rfl
theorem ab_has : Has ab := has_ascii ab (by decide) (fun j b hb => by
  match j, hb with
  | 0, hb => cases hb; decide
  | 1, hb => cases hb; decide
  | j + 2, hb => simp [ab] at hb)
theorem ab_slot : slotB 7 ab = true := by
  unfold slotB nameB
  rw [ab_list]
  decide
def kT : List Int := spl (layS (numsSlot 7 ab)) 5 (bytesI ab)
theorem kT_eq : slotS 7 ab = kT := by unfold slotS; rw [if_pos ab_slot]; rfl
theorem kT_sec : IsSec kT := by rw [← kT_eq]; exact slotS_sec _ _
theorem k_slot (w : World) : Calls Try.prog 11 #[.agg #[.int .i64 7, .string ⟨#[97, 98]⟩]] w fun e w' => e = .returned (.tuple #[.agg (SA kT), .int .i64 0]) ∧ Below w.heap.size w w' := by
  have h := slotSector_any 7 ab (fun _ => ab_has) w
  rw [kT_eq, show slotE 7 ab = 0 by unfold slotE; rw [if_pos ab_slot]] at h
  exact h
theorem kT_name : nameOf kT = ab := by decide
theorem kT_no : getV kT 0 4 = 7 := by decide
theorem k_rslot (w : World) : Calls Try.prog 12 #[.agg (SA kT)] w fun e w' => e = .returned (.tuple #[.agg #[.int .i64 7, .string ⟨#[97, 98]⟩], .int .i64 0]) ∧ Below w.heap.size w w' := by
  have h := readSlot_any kT kT_sec (fun _ => by rw [kT_name]; exact ab_has) w
  have e : rdSlot (getV kT 0 4) kT = (7, ab, 0) := by
    unfold rdSlot
    rw [kT_name, kT_no, if_pos ⟨by decide, ab_slot, kT_eq⟩]
  rw [e] at h
  exact h
def kZ : List Int := [1, 0, 300, 0, 0, 0, 0, 0, 0, 0, 0, 0, 0, 0, 0, 0, 30, 0]
def kI : List Int := layS (numsIno kZ 18)
theorem kI_sec : IsSec kI := layS_sec _
theorem k_ino (w : World) : Calls Try.prog 5 #[.agg #[.int .i64 1, .int .i64 0, .int .i64 300, .int .i64 0, .int .i64 0, .int .i64 0, .int .i64 0, .int .i64 0, .int .i64 0, .int .i64 0, .int .i64 0, .int .i64 0, .int .i64 0, .int .i64 0, .int .i64 0, .int .i64 0, .int .i64 30, .int .i64 0]] w fun e w' => e = .returned (.tuple #[.agg (SA kI), .int .i64 0]) ∧ Below w.heap.size w w' :=
  inodeSector_ok kZ rfl w (by decide)
theorem kS_9 : kS.take 9 = [66, 82, 75, 87, 64, 0, 0, 0, 16] := by decide
theorem kT_8 : kT.take 8 = [7, 0, 0, 0, 2, 97, 98, 0] := by decide
theorem kI_5 : kI.getD 5 0 = 1 := by decide
theorem kI_64 : kI.getD 64 0 = 30 := by decide
theorem conv_head {w : World} {g : Nat} {s : List Int} (h : w.heap[g]? = some (.cells (SA s) 26 (0, 0))) (n : Nat) (hn : n ≤ s.length) (cap : Nat) : (convert 44 9 (.slice (some ⟨g, 0, none⟩) n cap)).run Try.prog w = .ok (.string (strOf (s.take n))) w := by
  have hl : (s.take n).length = n := by simp [hn]
  have k := conv_bytes w g 0 (s.take n) cap (fun j hj => by
    rw [hl] at hj
    rw [Nat.zero_add, sec_cell h j (by omega)]
    simp [List.getD_eq_getElem?_getD, hj])
  rw [hl] at k
  exact k
theorem wr_keep {w w1 w2 : World} {c : List Int} {g : Nat} {o : Obj} (h : Wrote (w1.alloc (.cells (SA Zs) 26)) w1.heap.size c w2) (hb : Below w.heap.size w w1) (hg : w.heap[g]? = some o) : w2.heap[g]? = some o := by
  have := slt hg
  have := hb.size
  rw [h.other _ (by omega), Below.heap_alloc _ _ _ (by omega), hb.block _ (by omega)]
  exact hg
theorem pr_keep {w w1 w2 : World} {c z : Array Value} {t : TypeId} {g : Nat} {o : Obj} (h : PutR (w1.alloc (.cells z t)) w1.heap.size c t w2) (hb : Below w.heap.size w w1) (hg : w.heap[g]? = some o) : w2.heap[g]? = some o := by
  have := slt hg
  have := hb.size
  rw [h.other _ (by omega), Below.heap_alloc _ _ _ (by omega), hb.block _ (by omega)]
  exact hg

set_option maxRecDepth 100000 in
set_option maxHeartbeats 4000000 in
theorem known_any (w : World) : Calls Try.prog 4 #[] w fun e w' => e = .returned (.bool true) ∧ Below w.heap.size w w' := by
  have hz := zero_sec
  have hlS := kS_sec.1
  have hlT := kT_sec.1
  have hlI := kI_sec.1
  go_enter Try.func4, Try.ntmps4
  go_upto_region 2 with (first | (go_at_call 9; refine (k_sup _).mono ?_; rintro e w1 ⟨rfl, hb1⟩) | (refine store_sec rfl (.tmp 1) _ rfl w1.heap.size rfl kS rfl hlS Zs Zs_len (heap_alloc_new _ _) ?_; intro w2 hw2))
  have z2 : w2.heap.size = w1.heap.size + 1 := by rw [hw2.size]; simp
  have H2 := hid hw2.here
  have HB2 : Hid (Below w.heap.size w w2) := hw2.below (hb1.alloc hb1.size _) hb1.size
  have Z2 := hid z2
  clear hw2 hb1 z2
  go_upto_region 3 with (first | refine load_sec rfl (.tmp 1) rfl w1.heap.size rfl kS hlS H2.out ?_ | (go_at_call 10; refine (k_rsup _).mono ?_; rintro e w3 ⟨rfl, hb3⟩))
  obtain ⟨W3, hW3⟩ : ∃ x, x = w3.alloc (.cells #[.int .i64 64, .int .i64 16] 36) := ⟨_, rfl⟩
  rw [← hW3]
  have b3 : Below w2.heap.size w2 W3 := by rw [hW3]; exact hb3.alloc hb3.size _
  have s3 : W3.heap[w3.heap.size]? = some (.cells #[.int .i64 64, .int .i64 16] 36 (0, 0)) := by rw [hW3]; exact heap_alloc_new _ _
  have a3 : W3.heap[w1.heap.size]? = some (.cells (SA kS) 26 (0, 0)) := by rw [b3.block _ (slt H2.out)]; exact H2.out
  have B3 : Below w.heap.size w W3 := btr HB2.out b3 HB2.out.size
  have HA3 := hid a3
  have HS3 := hid s3
  have HB3 := hid B3
  clear hW3 hb3 b3 s3 a3 B3 H2 HB2 Z2
  go_upto_region 4 with (first | (go_at_call 11; refine (k_slot _).mono ?_; rintro e w4 ⟨rfl, hb4⟩) | (refine store_sec rfl (.tmp 5) _ rfl w4.heap.size rfl kT rfl hlT Zs Zs_len (heap_alloc_new _ _) ?_; intro w5 hw5))
  have HA5 := hid (wr_keep hw5 hb4 HA3.out)
  have HS5 := hid (wr_keep hw5 hb4 HS3.out)
  have HT5 := hid hw5.here
  have HB5 : Hid (Below w.heap.size w w5) := hw5.below ((btr HB3.out hb4 HB3.out.size).alloc (Nat.le_trans HB3.out.size hb4.size) _) (Nat.le_trans HB3.out.size hb4.size)
  clear hw5 hb4 HA3 HS3 HB3
  go_upto_region 5 with (first | refine load_sec rfl (.tmp 5) rfl w4.heap.size rfl kT hlT HT5.out ?_ | (go_at_call 12; refine (k_rslot _).mono ?_; rintro e w6 ⟨rfl, hb6⟩))
  obtain ⟨W6, hW6⟩ : ∃ x, x = w6.alloc (.cells #[.int .i64 7, .string ⟨#[97, 98]⟩] 41) := ⟨_, rfl⟩
  rw [← hW6]
  have b6 : Below w5.heap.size w5 W6 := by rw [hW6]; exact hb6.alloc hb6.size _
  have HD6 : Hid (W6.heap[w6.heap.size]? = some (.cells #[.int .i64 7, .string ⟨#[97, 98]⟩] 41 (0, 0))) := by show _ = _; rw [hW6]; exact heap_alloc_new _ _
  have HA6 : Hid (W6.heap[w1.heap.size]? = some (.cells (SA kS) 26 (0, 0))) := by show _ = _; rw [b6.block _ (slt HA5.out)]; exact HA5.out
  have HS6 : Hid (W6.heap[w3.heap.size]? = some (.cells #[.int .i64 64, .int .i64 16] 36 (0, 0))) := by show _ = _; rw [b6.block _ (slt HS5.out)]; exact HS5.out
  have HT6 : Hid (W6.heap[w4.heap.size]? = some (.cells (SA kT) 26 (0, 0))) := by show _ = _; rw [b6.block _ (slt HT5.out)]; exact HT5.out
  have HB6 : Hid (Below w.heap.size w W6) := btr HB5.out b6 HB5.out.size
  clear hW6 hb6 b6 HA5 HS5 HT5 HB5
  go_upto_region 6 with (first | (go_at_call 5; refine (k_ino _).mono ?_; rintro e w7 ⟨rfl, hb7⟩) | (refine store_sec rfl (.tmp 9) _ rfl w7.heap.size rfl kI rfl hlI Zs Zs_len (heap_alloc_new _ _) ?_; intro w8 hw8))
  have HA8 := hid (wr_keep hw8 hb7 HA6.out)
  have hS8 := wr_keep hw8 hb7 HS6.out
  have HT8 := hid (wr_keep hw8 hb7 HT6.out)
  have HD8 := hid (wr_keep hw8 hb7 HD6.out)
  have hB8 : Below w.heap.size w w8 := hw8.below ((btr HB6.out hb7 HB6.out.size).alloc (Nat.le_trans HB6.out.size hb7.size) _) (Nat.le_trans HB6.out.size hb7.size)
  have c1 : w8.cell? ⟨w3.heap.size, 1, none⟩ = some (.int .i64 16) := cell_of_row w8 w3.heap.size 1 _ _ _ hS8
  have c5 := sec_cell hw8.here 5 (by rw [hlI]; decide)
  have c64 := sec_cell hw8.here 64 (by rw [hlI]; decide)
  rw [kI_5] at c5
  rw [kI_64] at c64
  have v1 := conv_head HA8.out 9 (by rw [hlS]; decide) 128
  have v2 := conv_head HT8.out 8 (by rw [hlT]; decide) 128
  rw [kS_9] at v1
  rw [kT_8] at v2
  have v1' : (convert 44 9 (.slice (some ⟨w1.heap.size, 0, none⟩) 9 128)).run Try.prog w8 = .ok (.string ⟨#[66, 82, 75, 87, 64, 0, 0, 0, 16]⟩) w8 := v1
  have v2' : (convert 44 9 (.slice (some ⟨w4.heap.size, 0, none⟩) 8 128)).run Try.prog w8 = .ok (.string ⟨#[7, 0, 0, 0, 2, 97, 98, 0]⟩) w8 := v2
  have HB8 := hid hB8
  have d0 : w8.cell? ⟨w6.heap.size, 0, none⟩ = some (.int .i64 7) := cell_of_row w8 w6.heap.size 0 _ _ _ HD8.out
  have d1 : w8.cell? ⟨w6.heap.size, 1, none⟩ = some (.string ⟨#[97, 98]⟩) := cell_of_row w8 w6.heap.size 1 _ _ _ HD8.out
  clear hw8 hb7 hS8 hB8 v1 v2 HA6 HS6 HT6 HD6 HB6 HA8 HT8
  go_wp2
  go_ret
  exact ⟨rfl, HB8.out⟩

end Go.Proofs.Ytmgkfifjcodhnaa
