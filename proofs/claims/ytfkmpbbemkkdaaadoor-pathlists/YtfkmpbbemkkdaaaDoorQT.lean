/-
  The statements' own helper tag.
-/
import Derived.Test.YtfkmpbbemkkdaaaDoorPA3
namespace Go.Proofs.YtfkmpbbemkkdaaaDoor
open Go.RowKit Go.Shelf

def tagB (k : Nat) : ByteArray := ⟨#[109, UInt8.ofNat (65 + k)]⟩
theorem conv_one (w : World) (g : Nat) (n : Int) (h : w.cell? ⟨g, 0, none⟩ = some (.int .u8 n)) : (convert 38 9 (.slice (some ⟨g, 0, none⟩) 1 1)).run Tryd.prog w = .ok (.string ⟨#[UInt8.ofNat n.toNat]⟩) w := by
  rw [run_convert_bytes_string w 38 9 5 _ _ _ Tryd.underlying38 Tryd.underlying5 Tryd.underlying9]
  have hl := run_loadCells_list (P := Tryd.prog) w ⟨g, 0, none⟩ (([n] : List Int).map (Value.int .u8)) (fun j v hj => by
    rw [addr_add, Nat.zero_add]
    match j, hj with
    | 0, hj => cases hj; exact h
    | j + 1, hj => simp at hj)
  rw [List.length_map] at hl
  rw [show (1 : Nat) = ([n] : List Int).length from rfl, run_bytesToString w _ ([n] : List Int).length _ [n] hl]
  rfl

set_option maxRecDepth 100000 in
set_option maxHeartbeats 1000000 in
theorem tag_any (k : Nat) (hk : k < 5) (w : World) :
    Calls Tryd.prog 9 #[.int .i64 (k : Int)] w fun e w' => e = .returned (.string (tagB k)) ∧ Below w.heap.size w w' := by
  have hcv := fun n => conv_one (w.alloc (.cells #[.int .u8 n] 5)) w.heap.size n (by rw [cell_of_row _ _ _ _ _ _ (heap_alloc_new _ _)]; rfl)
  have hb : ∀ n, Below w.heap.size w (w.alloc (.cells #[.int .u8 n] 5)) := fun n => (Below.refl _ _).alloc (Nat.le_refl _) _
  have hk' : k = 0 ∨ k = 1 ∨ k = 2 ∨ k = 3 ∨ k = 4 := by omega
  rcases hk' with rfl | rfl | rfl | rfl | rfl
  · have h1 := hcv 65
    have h2 := hid (hb 65)
    clear hcv hb hk
    go_enter Tryd.func9, Tryd.ntmps9
    go_wp2
    go_ret
    exact ⟨rfl, h2.out⟩
  · have h1 := hcv 66
    have h2 := hid (hb 66)
    clear hcv hb hk
    go_enter Tryd.func9, Tryd.ntmps9
    go_wp2
    go_ret
    exact ⟨rfl, h2.out⟩
  · have h1 := hcv 67
    have h2 := hid (hb 67)
    clear hcv hb hk
    go_enter Tryd.func9, Tryd.ntmps9
    go_wp2
    go_ret
    exact ⟨rfl, h2.out⟩
  · have h1 := hcv 68
    have h2 := hid (hb 68)
    clear hcv hb hk
    go_enter Tryd.func9, Tryd.ntmps9
    go_wp2
    go_ret
    exact ⟨rfl, h2.out⟩
  · have h1 := hcv 69
    have h2 := hid (hb 69)
    clear hcv hb hk
    go_enter Tryd.func9, Tryd.ntmps9
    go_wp2
    go_ret
    exact ⟨rfl, h2.out⟩

end Go.Proofs.YtfkmpbbemkkdaaaDoor
