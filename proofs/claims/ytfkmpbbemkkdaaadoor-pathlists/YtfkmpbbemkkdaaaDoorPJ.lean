/-
  path.Join.
-/
import Derived.Test.YtfkmpbbemkkdaaaDoorPS
import Derived.Laws.Concat
namespace Go.Proofs.YtfkmpbbemkkdaaaDoor
open Go.RowKit Go.Shelf

theorem extra : Builder.Extra Tryd.prog layJoin_ren := {
  sizeBuilder := by kernel_rfl
  liesBuilder := by kernel_rfl
  t5 := Tryd.underlying5
  a5 := Tryd.isAgg5
  z5 := Tryd.sizeOf5
  v5 := Tryd.zeroValue5
  infoByte := by kernel_rfl
  cellsByte := by kernel_rfl
  sizeByte := by kernel_rfl
  neB5 := by decide }

theorem sizes_take {xs : List (List UInt8)} {k : Nat} {y : List UInt8} (h : xs[k]? = some y) : sizes (xs.take (k + 1)) = sizes (xs.take k) + (1 + y.length) := by
  rw [List.take_add_one, h, sizes_append]
  simp [sizes]
theorem sizes_ok : ∀ {xs : List (List UInt8)}, (∀ x ∈ xs, okName x = true) → sizes xs ≤ 41 * xs.length := by
  intro xs
  induction xs with
  | nil => intro _; simp [sizes]
  | cons x xs ih =>
    intro h
    have h1 := (ok_parts (h x (by simp))).2.1
    have h2 := ih (fun y hy => h y (by simp [hy]))
    rw [sizes_cons, List.length_cons]; omega
theorem datas_get {ls : List ByteArray} {k : Nat} (h : k < ls.length) : (datas ls)[k]? = some (ls.getD k ByteArray.empty).data.toList := by
  unfold datas; rw [List.getElem?_map, getS h]; rfl
theorem oks {ls : List ByteArray} {k : Nat} (hk : k ≤ ls.length) (h : ∀ j, j < k → okName (ls.getD j ByteArray.empty).data.toList = true) : ∀ x ∈ (datas ls).take k, okName x = true := by
  intro x hx
  obtain ⟨j, hj, e⟩ := List.mem_iff_getElem.1 hx
  rw [List.length_take] at hj
  have h1 := h j (by omega)
  have h2 := datas_get (ls := ls) (k := j) (by omega)
  rw [List.getElem_take] at e
  rw [List.getElem?_eq_getElem (by rw [datas_len]; omega), e] at h2
  rw [Option.some.inj h2]; exact h1

theorem path_room {ls : List ByteArray} {p : ByteArray} (hs : sizes (datas ls) ≤ 400) (h : 47 :: p.data.toList = pathOf (datas ls)) : (⟨#[47]⟩ : ByteArray).size + p.size ≤ 9223372036854775807 := by
  have h1 := congrArg List.length h
  rw [path_len, List.length_cons, len_eq] at h1
  have h2 : (⟨#[47]⟩ : ByteArray).size = 1 := rfl
  rw [h2]
  split at h1 <;> omega

/-- The library's Join. -/
theorem glue_any (ls : List ByteArray) (a : Option Addr) (c : Nat) (w : World) (h : LAt w a ls) (hc : ls.length ≤ c) (hs : sizes (datas ls) ≤ 400) :
    Calls Tryd.prog 12 #[.slice a ls.length c, .string ⟨#[47]⟩] w fun e w' => ∃ p : ByteArray, e = .returned (.string p) ∧ 47 :: p.data.toList = pathOf (datas ls) ∧ Below w.heap.size w w' := by
  have hl := sizes_len (datas ls)
  rw [datas_len] at hl
  rcases h with rfl | ⟨g, rfl, hg, h⟩
  · refine (Any.strings_Join_none (P := Tryd.prog) (ρ := layJoin_ren) layJoin extra a c ⟨#[47]⟩ w).mono ?_
    rintro e w' ⟨rfl, rfl⟩
    exact ⟨⟨#[]⟩, rfl, rfl, Below.refl _ _⟩
  · have e := join_path (datas ls)
    have hlen : (Lib.join (datas ls) [47]).length ≤ 400 := by
      have h1 := congrArg List.length e
      rw [path_len] at h1
      simp at h1
      split at h1 <;> omega
    refine (Any.strings_Join (P := Tryd.prog) (ρ := layJoin_ren) layJoin extra g 0 c ls ⟨#[47]⟩ w (fun j x hx => by rw [Nat.zero_add]; exact h j x hx) hg (by omega) hc (by
      have : (Lib.join (ls.map (·.data.toList)) [47]).length ≤ 400 := hlen
      have e2 : (⟨#[47]⟩ : ByteArray).data.toList = [47] := rfl
      rw [e2]; omega)).mono ?_
    rintro e w' ⟨rfl, hb⟩
    refine ⟨_, rfl, ?_, hb⟩
    rw [← join_path]
    rfl

set_option maxRecDepth 100000 in
set_option maxHeartbeats 2000000 in
theorem join_any (ls : List ByteArray) (a : Option Addr) (c : Nat) (w : World) (h : LAt w a ls) (hc : ls.length ≤ c) (hN : ls.length ≤ 140737488355328) :
    Calls Tryd.prog 4 #[.slice a ls.length c] w fun e w' => ∃ p : ByteArray, e = .returned (.tuple #[.string p, .int .i64 (joinR (datas ls)).2]) ∧ p.data.toList = (joinR (datas ls)).1 ∧ Below w.heap.size w w' := by
  have HA := hid h
  have hglue : ∀ w', Below w.heap.size w w' → sizes (datas ls) ≤ 400 → _ := fun w' hb hs => glue_any ls a c w' (h.below hb) hc hs
  have HGl := hid hglue
  clear h hglue
  generalize hlen : ls.length = m at *
  have HLen := hid hlen
  clear hlen
  go_enter Tryd.func4, Tryd.ntmps4
  go_wp2_with fail
  go_loopw [4, 10] (fun n i wr => ∃ k z : Nat, k ≤ m ∧ i = .int .i64 k ∧ n = .int .i64 z ∧ z ≤ 41 * k ∧ Below w.heap.size w wr ∧ Hid (z = sizes ((datas ls).take k)) ∧ Hid (∀ j, j < k → okName (ls.getD j ByteArray.empty).data.toList = true)) (fun _ i _ => m - (intOf i).toNat)
  case atStart => exact ⟨0, 0, by omega, rfl, rfl, by omega, Below.refl _ _, (by rfl : (0 : Nat) = sizes []), fun j hj => by omega⟩
  case round =>
    obtain ⟨k, z, hk, rfl, rfl, hz, hbr, HZ, HK⟩ := hrel
    by_cases hlt : k < m
    · rcases HA.out with h0 | ⟨g, rfl, hg, hcell⟩
      · have := HLen.out; rw [h0] at this; simp at this; omega
      have p1 : wr.cell? ⟨g, k, none⟩ = some (.string (ls.getD k ByteArray.empty)) := cell_below hbr hg (hcell k _ (getS (by have := HLen.out; omega)))
      have hD := datas_get (ls := ls) (k := k) (by have := HLen.out; omega)
      have hck := fun w' => check_any (ls.getD k ByteArray.empty) w'
      have HU : Hid (okName (ls.getD k ByteArray.empty).data.toList = true ∨ ¬ okName (ls.getD k ByteArray.empty).data.toList = true) := by
        rcases Classical.em (okName (ls.getD k ByteArray.empty).data.toList = true) with h | h
        · exact .inl h
        · exact .inr h
      obtain ⟨u, hu⟩ : ∃ u, u = ls.getD k ByteArray.empty := ⟨_, rfl⟩
      rw [← hu] at p1 hck HU hD
      have HQ := hid hu
      have HD := hid hD
      have hi0 : (0 : Int) ≤ (k : Int) := by omega
      have hi1 : (k : Int) < (m : Int) := by omega
      clear hu hcell hD
      rcases HU.out with hok | hno
      · rw [chk_ok hok] at hck
        have hul : u.size ≤ 40 := by have := (ok_parts hok).2.1; rw [len_eq] at this; exact this
        have HK2 : Hid (∀ j, j < k + 1 → okName (ls.getD j ByteArray.empty).data.toList = true) := by
          intro j hj
          rcases Nat.lt_or_ge j k with g | g
          · exact HK.out j g
          · obtain rfl : j = k := by omega
            rw [← HQ.out]; exact hok
        have HZ2 : Hid (z + (1 + u.size) = sizes ((datas ls).take (k + 1))) := by
          show _ = _
          rw [sizes_take HD.out, ← HZ.out, len_eq]
        clear hok HU
        go_wp2_with (go_at_call 11; refine (hck _).mono ?_; rintro e w5 ⟨rfl, hb5⟩)
        exact ⟨⟨k + 1, z + (1 + u.size), by omega, by go_num, by go_num, by omega, btr hbr hb5 hbr.size, HZ2, HK2⟩, by simp [intOf]; omega⟩
      · rw [chk_bad hno] at hck
        have HR : Hid (joinR (datas ls) = ([], 71)) := by
          show _ = _
          unfold joinR
          rw [if_neg]
          rw [notall (k := k) (by have := HLen.out; omega) (by rw [← HQ.out]; exact hno)]
          simp
        clear hno HU
        go_wp2_with (go_at_call 11; refine (hck _).mono ?_; rintro e w5 ⟨rfl, hb5⟩)
        go_ret2
        exact ⟨⟨#[]⟩, by rw [HR.out] <;> rfl, by rw [HR.out] <;> rfl, btr hbr hb5 hbr.size⟩
    · obtain rfl : k = m := by omega
      have HALL : Hid ((datas ls).all okName = true) := by exact alls HLen.out HK.out (by omega)
      have HT : Hid (z = sizes (datas ls)) := by
        show _ = _
        rw [HZ.out, List.take_of_length_le (by rw [datas_len, HLen.out]; omega)]
      by_cases hbig : (400 : Int) < (z : Int)
      · have HR : Hid (joinR (datas ls) = ([], 70)) := by
          show _ = _
          unfold joinR
          rw [if_pos HALL.out, if_pos (by rw [← HT.out]; omega)]
        go_wp2_with fail
        go_ret2
        exact ⟨⟨#[]⟩, by rw [HR.out] <;> rfl, by rw [HR.out] <;> rfl, hbr⟩
      · have hs : sizes (datas ls) ≤ 400 := by rw [← HT.out]; omega
        have HR := hid (join_ok HALL.out hs)
        have hgl := HGl.out wr hbr hs
        have HS := hid hs
        clear HZ HT hs HK
        go_wp2_with (go_at_call 12; refine hgl.mono ?_; rintro e w5 ⟨p, rfl, hp, hb5⟩; have HP := hid hp; have hps := path_room HS.out hp; clear hp)
        go_ret2
        exact ⟨_, by rw [HR.out] <;> rfl, by rw [HR.out, ← HP.out]; simp, btr hbr hb5 hbr.size⟩

end Go.Proofs.YtfkmpbbemkkdaaaDoor
