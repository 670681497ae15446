/-
  package plain: the list of an empty directory.
-/
import Derived.Test.YtbkddnibcpjkgaaDoorQW
import Derived.Test.YtbkddnibcpjkgaaDoorShelfK
import Derived.Shelf.AbstractIn
import Derived.Shelf.Slices.In.SortNone
namespace Go.Proofs.YtbkddnibcpjkgaaDoor
open Go.RowKit Go.Sort Go.Lib Go.Maps Go.Shelf

theorem sortsS (m : Nat) : AnyZ.SortsIn Tryd.prog laySortedS_ren Fence.wide m :=
  ⟨fun blk off cap ss W hH hblk hsz => callsIn_wide.2 (Any.slices_Sort_string laySortS blk off cap ss W hH hblk hsz),
   fun p cap W => callsIn_wide.2 (Any.slices_Sort_string_none laySortS p cap W)⟩
theorem keys_call (mb : Nat) (W : World) : Calls Tryd.prog 51 #[.map (some mb)] W fun e w' => e = .returned (.func (.func 61) #[] #[.pointer (some ⟨W.heap.size, 0, none⟩)]) ∧ w' = W.alloc (.cells #[.map (some mb)] 66) :=
  (callsIn_wide (n := 5)).1 (AnyZ.keys_in layKeysS Fence.wide 5 trivial rfl (some mb) W)
theorem sorted_call {w : World} {b : Nat} {f : ByteArray → Option Int} (h : MapT w b f 0) :
    Calls Tryd.prog 50 #[.func (.func 61) #[] #[.pointer (some ⟨w.heap.size, 0, none⟩)]] (w.alloc (.cells #[.map (some b)] 66)) fun e w' => e = .returned (.slice none 0 0) ∧ Chg w w' No := by
  obtain ⟨D0, hown, hsz, _⟩ := h
  have hbl := hown.lt
  have hk : strKeys D0 = [] := by
    cases D0 with
    | map es =>
      have : es = [] := List.length_eq_zero_iff.1 (Nat.le_zero.1 hsz)
      rw [this]
      rfl
    | _ => rfl
  have hsz1 : Maps.size D0 ≤ maxLen := by unfold maxLen; omega
  have hseq : SeqGives Fence.wide 2 Tryd.prog 61 #[.pointer (some ⟨w.heap.size, 0, none⟩)] encStr (fun ss => ss.Perm (strKeys D0)) (Maps.size D0) (w.alloc (.cells #[.map (some b)] 66)) :=
    AnyZ.keys_gives (ρ := layKeysS_ren) { layKeysS with } Fence.wide _ trivial rfl (by omega) w.heap.size b _ D0 _ (by simp) (by simp) (by
      obtain ⟨es, clock, hb, Ft, hs, hD⟩ := hown
      exact ⟨es, clock, (Below.heap_alloc _ _ b hbl).trans hb, Ft, hs, hD⟩)
  have cS := AnyZ.sorted_in laySortedS Fence.wide 5 trivial trivial trivial trivial rfl (by omega) (sortsS _) (enters_of Tryd.func60 (by kernel_rfl) rfl) 61 #[.pointer (some ⟨w.heap.size, 0, none⟩)] trivial (enters_of Tryd.func61 (by kernel_rfl) rfl) _ _ hsz1 (by omega) _ hseq
  change CallsIn _ _ Tryd.prog 50 _ _ _ at cS
  refine ((callsIn_wide (n := 5)).1 cS).mono ?_
  rintro e w' ⟨v, ss, rfl, hS, hrow, hnil, hb⟩
  rw [hk] at hS
  have hss : ss = [] := List.Perm.eq_nil hS
  rw [hnil.2 hss]
  exact ⟨rfl, (Chg.alloc w _ No).tr (Chg.of_below hb No)⟩

set_option maxHeartbeats 2000000 in
set_option maxRecDepth 100000 in
theorem list_none {q : PC} {c : NC} {x : Nd} (w : World) (h : IsN w c x) (hx : x.cnt = 0) :
    Calls Tryd.prog 36 #[.pointer (some ⟨q.p, 0, none⟩), .pointer (some ⟨c.p, 0, none⟩)] w fun e w' => e = .returned (.slice none 0 0) ∧ Chg w w' No := by
  have c6 := h.c6
  have hm := h.nm
  rw [hx] at hm
  have hK := keys_call c.nb w
  have hS := sorted_call hm
  clear hm hx h
  go_enter Tryd.func36, Tryd.ntmps36
  go_wp2_with (first
    | (go_at_call 51; go_must (refine hK.mono ?_; rintro e w1 ⟨rfl, rfl⟩))
    | (go_at_call 50; go_must (refine hS.mono ?_; rintro e w2 ⟨rfl, hc2⟩; have HC2 := hid hc2; clear hc2))
    | fail)
  go_loopw [5, 16] (fun x5 x16 wr => x5 = .slice none 0 0 ∧ x16 = .int .i64 0 ∧ wr = w2) (fun _ _ _ => 0)
  case atStart => exact ⟨rfl, rfl, rfl⟩
  case round =>
    obtain ⟨rfl, rfl, rfl⟩ := hrel
    go_wp2_with fail
    go_ret
    exact ⟨rfl, HC2.out⟩
end Go.Proofs.YtbkddnibcpjkgaaDoor
