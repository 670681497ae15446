/-
  The statements' own helpers name and few.
-/
import Derived.Test.YtcckjkmkegpekabDoorPA
namespace Go.Proofs.YtcckjkmkegpekabDoor
open Go.RowKit Go.Shelf

theorem foldl_pushI (c : List Int) : ∀ r : ByteArray, c.foldl (fun r n => r.push (UInt8.ofNat n.toNat)) r = ⟨r.data ++ (c.map fun n => UInt8.ofNat n.toNat).toArray⟩ := by
  induction c with
  | nil => intro r; simp
  | cons x c ih =>
    intro r
    rw [List.foldl_cons, ih]
    congr 1
    simp [ByteArray.push]
theorem conv_own {w : World} {B : Nat} {v : Value} {l : List UInt8} (h : BOwn w B v l) : (convert 34 9 v).run Tryd.prog w = .ok (.string ⟨l.toArray⟩) w := by
  cases l with
  | nil =>
    obtain ⟨a, cap, rfl, -, -⟩ := row_shape h
    rw [run_convert_bytes_string w 34 9 5 _ _ _ Tryd.underlying34 Tryd.underlying5 Tryd.underlying9]
    cases a with
    | none => simp [Conv.bytesToString]; rfl
    | some x =>
      have hl : (loadCells x 0).run Tryd.prog w = .ok (([] : List Int).map (Value.int .u8)).toArray w := by
        simpa using run_loadCells_list (P := Tryd.prog) w x [] (by simp)
      rw [List.length_nil, run_bytesToString w x 0 cap [] hl]
      rfl
  | cons b l =>
    obtain ⟨g, cap, rfl, hb, hg, hc, hcell⟩ := row_cells h (by simp)
    rw [run_convert_bytes_string w 34 9 5 _ _ _ Tryd.underlying34 Tryd.underlying5 Tryd.underlying9]
    have hl := run_loadCells_list (P := Tryd.prog) w ⟨g, 0, none⟩ (((b :: l).map fun b => (b.toNat : Int)).map (Value.int .u8)) (fun j v hj => by
      rw [addr_add, Nat.zero_add]
      exact hcell j v (by rw [List.map_map] at hj; exact hj))
    rw [List.length_map, List.length_map] at hl
    rw [run_bytesToString w _ (b :: l).length cap ((b :: l).map fun b => (b.toNat : Int)) hl, foldl_pushI]
    simp [List.map_map, Function.comp_def]

theorem fix_take (l : List UInt8) (k : Nat) (b : UInt8) (h : l[k]? = some b) : (l.take (k + 1)).map fixB = (l.take k).map fixB ++ [fixB b] := by
  rw [List.take_add_one, h]; simp

theorem toList_nil' : (⟨#[]⟩ : ByteArray).toList = [] := by rw [ByteArray.toList_eq]
theorem nat_beq {x : UInt8} (n : Int) (c : UInt8) (hc : (c.toNat : Int) = n) (h : x ≠ c) : ((x.toNat : Int) == n) = false := by
  simp only [beq_eq_false_iff_ne]; intro e; exact h (UInt8.toNat_inj.1 (by omega))

set_option maxRecDepth 100000 in
set_option maxHeartbeats 2000000 in
theorem name_any (s : ByteArray) (w : World) :
    Calls Tryd.prog 12 #[.string s] w fun e w' => ∃ p : ByteArray, e = .returned (.string p) ∧ p.data.toList = nameL s.data.toList ∧ Below w.heap.size w w' := by
  have HL := hid (len_eq s)
  have e1 := toList_dot
  have e2 := toList_dots
  go_enter Tryd.func12, Tryd.ntmps12
  go_wp2_with fail
  go_loopw [3, 4] (fun v i wr => ∃ k : Nat, k ≤ s.size ∧ k ≤ 40 ∧ i = .int .i64 k ∧ Below w.heap.size w wr ∧ Hid (BOwn wr w.heap.size v ((s.data.toList.take k).map fixB))) (fun _ i _ => s.size - (intOf i).toNat)
  case atStart => exact ⟨0, by omega, by omega, rfl, Below.refl _ _, row_nil _ _ _ _⟩
  case round =>
    obtain ⟨k, hk, hk40, rfl, hbr, HO⟩ := hrel
    have hln : ((s.data.toList.take k).map fixB).length = k := by rw [List.length_map, List.length_take, HL.out]; omega
    obtain ⟨a, cap, hv, -, hbase⟩ := row_shape HO.out
    rw [hln] at hv
    subst hv
    by_cases hlt : k < s.size
    · by_cases h40 : k < 40
      · obtain ⟨x, hx⟩ : ∃ x : UInt8, s[k]'hlt = x := ⟨_, rfl⟩
        have hxl := dat_at s k hlt
        have hget := get_at s k hlt
        rw [hx] at hxl hget
        have HX := hid hxl
        have hi0 : (0 : Int) ≤ (k : Int) := by omega
        have hi1 : (k : Int) < (s.size : Int) := by omega
        have i40 : (k : Int) < 40 := by omega
        clear hxl hln
        have HAll : Hid (∀ (y : UInt8), fixB x = y → ∀ v' w', BOwn w' w.heap.size v' ((s.data.toList.take k).map fixB ++ [y]) → Hid (BOwn w' w.heap.size v' ((s.data.toList.take (k + 1)).map fixB))) := by
          intro y hy v' w' h
          show BOwn _ _ _ _
          rw [fix_take _ _ _ HX.out, hy]; exact h
        have HB2 : Hid (∀ (c : Int) w2, Chg (wr.alloc (.cells #[.int .u8 c] 5)) w2 (fun j => Value.ownBlock (.slice a k cap) = some j) → Below w.heap.size w w2) := by
          intro y w2 hc
          refine hc.to (hbr.alloc hbr.size _) (by have := hbr.size; simp; omega) fun j hj => ?_
          cases a with
          | none => cases hj
          | some ad => obtain ⟨g, rfl, hg⟩ := hbase ad rfl; cases hj; exact hg
        have HOW : Hid (∀ c : Int, BOwn (wr.alloc (.cells #[.int .u8 c] 5)) w.heap.size (.slice a k cap) ((s.data.toList.take k).map fixB)) := fun y => row_below HO.out (below_new _ _)
        have HAT : Hid (∀ c : Int, (wr.alloc (.cells #[.int .u8 c] 5)).cell? ⟨wr.heap.size, 0, none⟩ = some (.int .u8 c)) := fun y => by rw [cell_of_row _ _ _ _ _ _ (heap_alloc_new _ _)]; rfl
        have HA120 : Hid ((wr.alloc (.cells #[.int .u8 120] 5)).cell? ⟨wr.heap.size, 0, none⟩ = some (byteV 120)) := HAT.out 120
        have HLE : Hid (((s.data.toList.take k).map fixB).length ≤ 1000000000000) := by show _ ≤ _; rw [List.length_map, List.length_take]; omega
        have HSZ : Hid (∀ c : Int, w.heap.size ≤ (wr.alloc (.cells #[.int .u8 c] 5)).heap.size) := fun y => by have := hbr.size; simp; omega
        by_cases c0 : x = 0
        · subst c0
          go_wp2_with (first | (at_builtin; go_must (refine wp_appB rfl _ _ rfl w.heap.size wr.heap.size 1 _ ((s.data.toList.take k).map fixB) 120 rfl rfl (HOW.out 120) HA120.out HLE.out (HSZ.out 120) ?_; intro v' w' h1 h2 h3; have HN := HAll.out 120 rfl v' w' h1; have HNB := hid (HB2.out 120 w' h2); clear h1 h2 h3)) | go_in)
          exact ⟨⟨k + 1, by omega, by omega, by go_num, HNB.out, HN⟩, by simp [intOf]; omega⟩
        · have n0 := nat_beq 0 0 rfl c0
          by_cases c1 : x = 47
          · subst c1
            go_wp2_with (first | (at_builtin; go_must (refine wp_appB rfl _ _ rfl w.heap.size wr.heap.size 1 _ ((s.data.toList.take k).map fixB) 120 rfl rfl (HOW.out 120) HA120.out HLE.out (HSZ.out 120) ?_; intro v' w' h1 h2 h3; have HN := HAll.out 120 rfl v' w' h1; have HNB := hid (HB2.out 120 w' h2); clear h1 h2 h3)) | go_in)
            exact ⟨⟨k + 1, by omega, by omega, by go_num, HNB.out, HN⟩, by simp [intOf]; omega⟩
          · have n1 := nat_beq 47 47 rfl c1
            have HFX : Hid (fixB x = x) := by show _ = _; unfold fixB; rw [if_neg (by simp [c0, c1])]
            go_wp2_with (first | (at_builtin; go_must (refine wp_appB rfl _ _ rfl w.heap.size wr.heap.size 1 _ ((s.data.toList.take k).map fixB) x rfl rfl (HOW.out x.toNat) (HAT.out x.toNat) HLE.out (HSZ.out x.toNat) ?_; intro v' w' h1 h2 h3; have HN := HAll.out x HFX.out v' w' h1; have HNB := hid (HB2.out x.toNat w' h2); clear h1 h2 h3)) | go_in)
            exact ⟨⟨k + 1, by omega, by omega, by go_num, HNB.out, HN⟩, by simp [intOf]; omega⟩
      · obtain rfl : k = 40 := by omega
        have hcv := conv_own HO.out
        have HF : Hid (fixL s.data.toList = (s.data.toList.take 40).map fixB) := rfl
        have h1 : (⟨((s.data.toList.take 40).map fixB).toArray⟩ : ByteArray).toList.length = 40 := by rw [tl]; simpa using hln
        have HN : Hid (nameL s.data.toList = (⟨((s.data.toList.take 40).map fixB).toArray⟩ : ByteArray).data.toList) := by
          show _ = _
          unfold nameL
          rw [HF.out, if_neg]
          intro h
          rcases h with h | h | h <;> rw [h] at hln <;> simp at hln
        generalize hq : (⟨((s.data.toList.take 40).map fixB).toArray⟩ : ByteArray) = q at *
        have k1 : (q.toList == [46]) = false := by
          cases e : (q.toList == [46])
          · rfl
          · rw [eq_of_beq e] at h1; simp at h1
        have k2 : (q.toList == [46, 46]) = false := by
          cases e : (q.toList == [46, 46])
          · rfl
          · rw [eq_of_beq e] at h1; simp at h1
        clear hq h1 hln
        go_wp2_with fail
        go_ret
        exact ⟨q, rfl, HN.out.symm, hbr⟩
    · have hcv := conv_own HO.out
      have HF : Hid (fixL s.data.toList = (s.data.toList.take k).map fixB) := by
        show _ = _
        unfold fixL
        rw [List.take_of_length_le (by rw [HL.out]; omega), List.take_of_length_le (by rw [HL.out]; omega)]
      have HQ : Hid ((⟨((s.data.toList.take k).map fixB).toArray⟩ : ByteArray).data.toList = fixL s.data.toList) := by show _ = _; rw [HF.out]
      have HS : Hid ((⟨((s.data.toList.take k).map fixB).toArray⟩ : ByteArray).size = k) := by show _ = _; rw [← len_eq]; exact hln
      generalize hq : (⟨((s.data.toList.take k).map fixB).toArray⟩ : ByteArray) = q at *
      clear hq hln
      have hroom : q.size + (⟨#[110]⟩ : ByteArray).size ≤ 9223372036854775807 := by
        rw [HS.out]
        have : (⟨#[110]⟩ : ByteArray).size = 1 := rfl
        omega
      have HAP : Hid ((q ++ (⟨#[110]⟩ : ByteArray)).data.toList = q.data.toList ++ [110]) := by show _ = _; simp
      by_cases h0 : k = 0
      · have HN : Hid (nameL s.data.toList = q.data.toList ++ [110]) := by
          show _ = _
          unfold nameL
          rw [if_pos (.inl (by rw [← HQ.out]; apply List.length_eq_zero_iff.1; rw [len_eq, HS.out, h0])), HQ.out]
        subst h0
        go_wp2_with fail
        go_ret
        exact ⟨_, rfl, by rw [HAP.out, HN.out], hbr⟩
      have h0' : ((k : Int) == 0) = false := by simp; omega
      cases k1 : (q.toList == [46])
      case true =>
        have HN : Hid (nameL s.data.toList = q.data.toList ++ [110]) := by
          show _ = _
          unfold nameL
          rw [if_pos (.inr (.inl (by rw [← HQ.out, ← tl]; exact eq_of_beq k1))), HQ.out]
        go_wp2_with fail
        go_ret
        exact ⟨_, rfl, by rw [HAP.out, HN.out], hbr⟩
      cases k2 : (q.toList == [46, 46])
      case true =>
        have HN : Hid (nameL s.data.toList = q.data.toList ++ [110]) := by
          show _ = _
          unfold nameL
          rw [if_pos (.inr (.inr (by rw [← HQ.out, ← tl]; exact eq_of_beq k2))), HQ.out]
        go_wp2_with fail
        go_ret
        exact ⟨_, rfl, by rw [HAP.out, HN.out], hbr⟩
      have HN : Hid (nameL s.data.toList = q.data.toList) := by
        show _ = _
        unfold nameL
        rw [if_neg, HQ.out]
        rw [← HQ.out]
        intro h
        rcases h with h | h | h
        · have e := congrArg List.length h
          rw [len_eq, HS.out] at e
          exact h0 e
        · rw [tl, h] at k1; exact absurd k1 (by decide)
        · rw [tl, h] at k2; exact absurd k2 (by decide)
      go_wp2_with fail
      go_ret
      exact ⟨q, rfl, HN.out.symm, hbr⟩

end Go.Proofs.YtcckjkmkegpekabDoor
