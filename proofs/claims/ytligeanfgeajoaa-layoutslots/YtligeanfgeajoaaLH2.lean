/-
  strings.IndexRune, of the zero byte and the stroke: a rune of 128 or more is not among them.
-/
import Derived.Test.YtligeanfgeajoaaLH1
import Derived.Deep.LoopGhost
namespace Go.Proofs.Ytligeanfgeajoaa
open Go.RowKit Go.Shelf

theorem enc_form' (C : Nat) (h : ¬ C < 128) : ∀ E : ByteArray, E = (if C < 0x80 then ⟨#[UInt8.ofNat C]⟩ else if C < 0x800 then ⟨#[UInt8.ofNat (0xC0 + C / 64), UInt8.ofNat (0x80 + C % 64)]⟩ else if C < 0x10000 then ⟨#[UInt8.ofNat (0xE0 + C / 4096), UInt8.ofNat (0x80 + C / 64 % 64), UInt8.ofNat (0x80 + C % 64)]⟩ else ⟨#[UInt8.ofNat (0xF0 + C / 262144), UInt8.ofNat (0x80 + C / 4096 % 64), UInt8.ofNat (0x80 + C / 64 % 64), UInt8.ofNat (0x80 + C % 64)]⟩) →
    (∃ X Y : UInt8, E = ⟨#[X, Y]⟩ ∧ 128 ≤ Y.toNat) ∨ (∃ X Y Z : UInt8, E = ⟨#[X, Y, Z]⟩) ∨ (∃ X Y Z T : UInt8, E = ⟨#[X, Y, Z, T]⟩) := by
  intro E hE
  rw [if_neg h] at hE
  split at hE
  · exact .inl ⟨_, _, hE, by simp; omega⟩
  · split at hE
    · exact .inr (.inl ⟨_, _, _, hE⟩)
    · exact .inr (.inr ⟨_, _, _, _, hE⟩)
theorem enc_form (r : Int) (h : 128 ≤ r) : (∃ X Y : UInt8, Utf8.encode r = ⟨#[X, Y]⟩ ∧ 128 ≤ Y.toNat) ∨ (∃ X Y Z : UInt8, Utf8.encode r = ⟨#[X, Y, Z]⟩) ∨ (∃ X Y Z T : UInt8, Utf8.encode r = ⟨#[X, Y, Z, T]⟩) :=
  enc_form' (if Utf8.valid r then r.toNat else Utf8.runeError) (by split; (· omega); (· decide)) _ rfl

set_option maxHeartbeats 400000 in
theorem validRune_any (r : Int) (w : World) (h0 : 128 ≤ r) (h1 : r ≤ 1114111) :
    Calls Try.prog 67 #[.int .i32 r] w fun e w' => e = .returned (.bool (validRune r)) ∧ w' = w := by
  have h00 : (0 : Int) ≤ r := by omega
  by_cases h2 : r < 55296
  · go_enter Try.func67, Try.ntmps67
    go_wp2
    go_ret
    exact ⟨ret_bool (by simp [validRune]; omega), rfl⟩
  · by_cases h3 : 57343 < r
    · go_enter Try.func67, Try.ntmps67
      go_wp2
      go_ret
      exact ⟨ret_bool (by simp [validRune]; omega), rfl⟩
    · go_enter Try.func67, Try.ntmps67
      go_wp2
      go_ret
      exact ⟨ret_bool (by simp [validRune]; omega), rfl⟩

set_option maxRecDepth 100000 in
set_option maxHeartbeats 2000000 in
theorem rune_err (w : World) : Calls Try.prog 62 #[.string ⟨#[0, 47]⟩, .int .i32 65533] w fun e w' => e = .returned (.int .i64 (-1)) ∧ Below w.heap.size w w' := by
  have n0 := fun ty => run_next_any w two 0 ty (by decide)
  have n1 := fun ty => run_next_any w two 1 ty (by decide)
  have n2 := fun ty => run_next_end (P := Try.prog) w two 2 ty (by decide)
  rw [show Utf8.decode two 0 = (0, 1) by decide] at n0
  rw [show Utf8.decode two 1 = (47, 1) by decide] at n1
  unfold two at n0 n1 n2
  have hb : ∀ p, Below w.heap.size w (w.iter ⟨#[0, 47]⟩ p) := fun p => (Below.refl _ _).alloc (Nat.le_refl _) _
  go_enter Try.func62, Try.ntmps62
  go_wp2
  go_loopg [5, 6] 2 (fun g _ _ wx => ∃ i : Nat, i + g = 2 ∧ wx = w.iter ⟨#[0, 47]⟩ i)
  case atStart => exact ⟨0, by omega, rfl⟩
  case round =>
    obtain ⟨i, hig, rfl⟩ := hrel
    cases gk with
    | zero =>
      obtain rfl : i = 2 := by omega
      have hbb := hb 2
      clear n0 n1 hb
      go_wp2
      go_ret
      exact ⟨rfl, hbb⟩
    | succ g =>
      have hi : i = 0 ∨ i = 1 := by omega
      rcases hi with rfl | rfl
      · clear n1 n2 hb
        go_wp2
        go_roundg g
        case measure => omega
        case rel => exact ⟨1, by omega, rfl⟩
      · clear n0 n2 hb
        go_wp2
        go_roundg g
        case measure => omega
        case rel => exact ⟨2, by omega, rfl⟩

theorem indexByte_none (c : Int) (w : World) : Calls Try.prog 66 #[.string ⟨#[]⟩, .int .u8 c] w fun e w' => e = .returned (.int .i64 (-1)) ∧ w' = w :=
  Any.strings_IndexByte (P := Try.prog) (ρ := layAny_ren) { layAny with } ⟨#[]⟩ c w

set_option maxRecDepth 100000 in
set_option maxHeartbeats 4000000 in
theorem rune_hi (r : Int) (w : World) (h0 : 128 ≤ r) (h1 : r ≤ 1114111) (hne : ¬ r = 65533) : Calls Try.prog 62 #[.string ⟨#[0, 47]⟩, .int .i32 r] w fun e w' => e = .returned (.int .i64 (-1)) ∧ Below w.heap.size w w' := by
  have h00 : (0 : Int) ≤ r := by omega
  have hn : (r == 65533) = false := by simp [hne]
  have h128 : ¬ r < 128 := by omega
  have hv := fun w' => validRune_any r w' h0 h1
  cases hV : validRune r
  · rw [hV] at hv
    go_enter Try.func62, Try.ntmps62
    go_wp2_with (go_at_call 67; refine (hv _).mono ?_; rintro e w2 ⟨rfl, rfl⟩)
    go_ret
    exact ⟨rfl, Below.refl _ _⟩
  · rw [hV] at hv
    rcases enc_form r h0 with ⟨X, Y, hE, hY⟩ | ⟨X, Y, Z, hE⟩ | ⟨X, Y, Z, T, hE⟩
    · have hYne : ((47 : Int) != (Y.toNat : Int)) = true := by simp; omega
      go_enter Try.func62, Try.ntmps62
      go_wp2_with (go_at_call 67; refine (hv _).mono ?_; rintro e w2 ⟨rfl, rfl⟩)
      go_step3
      go_wp2
      go_loopw [9, 10] (fun i f wr => i = .int .i64 1 ∧ f = .int .i64 0 ∧ Below w2.heap.size w2 wr) (fun _ _ _ => 0)
      case atStart => exact ⟨rfl, rfl, Below.refl _ _⟩
      case round =>
        obtain ⟨rfl, rfl, hbr⟩ := hrel
        go_wp2
        go_step3
        go_upto_region 6 with fail
        refine wp_region_noPanic ?_
        refine wp_region_held_drew (S := fun _ => True) (by kernel_rfl) trivial (fun hHeld => ?_)
        refine takeVal 0 27 (.string ⟨#[0, 47]⟩) rfl (by kernel_rfl) (by kernel_rfl) (by kernel_rfl) rfl (by rfl) (fun _ _ _ h => h) hHeld (fun x' hw' => rfl) ?_
        simp only [List.setIfInBounds_toArray, List.set_cons_zero, List.set_cons_succ]
        refine takeVal 1 28 (.int .i64 1) rfl (by kernel_rfl) (by kernel_rfl) (by kernel_rfl) rfl (by rfl) (fun _ _ _ h => h) hHeld (fun x' hw' => rfl) ?_
        simp only [List.setIfInBounds_toArray, List.set_cons_zero, List.set_cons_succ]
        refine takeVal 2 29 (.int .u8 47) rfl (by kernel_rfl) (by kernel_rfl) (by kernel_rfl) rfl (by rfl) (fun _ _ _ h => h) hHeld (fun x' hw' => by go_simp; rfl) ?_
        simp only [List.setIfInBounds_toArray, List.set_cons_zero, List.set_cons_succ]
        refine takeVal 3 30 (.string ⟨#[X, Y]⟩) rfl (by kernel_rfl) (by kernel_rfl) (by kernel_rfl) rfl (by rfl) (fun _ _ _ h => h) hHeld (fun x' hw' => rfl) ?_
        simp only [List.setIfInBounds_toArray, List.set_cons_zero, List.set_cons_succ]
        refine takeVal 4 31 (.int .i64 1) rfl (by kernel_rfl) (by kernel_rfl) (by kernel_rfl) rfl (by rfl) (fun _ _ _ h => h) hHeld (fun x' hw' => rfl) ?_
        simp only [List.setIfInBounds_toArray, List.set_cons_zero, List.set_cons_succ]
        refine takeVal 5 32 (.int .u8 (Y.toNat : Int)) rfl (by kernel_rfl) (by kernel_rfl) (by kernel_rfl) rfl (by rfl) (fun _ _ _ h => h) hHeld (fun x' hw' => by go_simp; rfl) ?_
        simp only [List.setIfInBounds_toArray, List.set_cons_zero, List.set_cons_succ]
        refine takeVal 6 33 (.bool true) rfl (by kernel_rfl) (by kernel_rfl) (by kernel_rfl) rfl (by rfl) (fun _ _ _ h => h) hHeld (fun x' hw' => by go_simp) ?_
        simp only [List.setIfInBounds_toArray, List.set_cons_zero, List.set_cons_succ]
        refine wpAnyH_done (by kernel_rfl) ?_ _
        refine NoPanic.normal ?_
        clear hHeld
        go_upto_region 7 with fail
        refine wp_region_noPanic ?_
        refine wp_region_held_drew (S := fun _ => True) (by kernel_rfl) trivial (fun hHeld => ?_)
        refine takeVal 0 34 (.string ⟨#[0, 47]⟩) rfl (by kernel_rfl) (by kernel_rfl) (by kernel_rfl) rfl (by rfl) (fun _ _ _ h => h) hHeld (fun x' hw' => rfl) ?_
        simp only [List.setIfInBounds_toArray, List.set_cons_zero, List.set_cons_succ]
        refine takeVal 1 35 (.int .i64 1) rfl (by kernel_rfl) (by kernel_rfl) (by kernel_rfl) rfl (by rfl) (fun _ _ _ h => h) hHeld (fun x' hw' => rfl) ?_
        simp only [List.setIfInBounds_toArray, List.set_cons_zero, List.set_cons_succ]
        refine takeVal 2 36 (.int .i64 2) rfl (by kernel_rfl) (by kernel_rfl) (by kernel_rfl) rfl (by rfl) (fun _ _ _ h => h) hHeld (fun x' hw' => by go_simp; rfl) ?_
        simp only [List.setIfInBounds_toArray, List.set_cons_zero, List.set_cons_succ]
        refine takeVal 3 37 (.string ⟨#[]⟩) rfl (by kernel_rfl) (by kernel_rfl) (by kernel_rfl) rfl (by rfl) (fun _ _ _ h => h) hHeld (fun x' hw' => by go_simp; rfl) ?_
        simp only [List.setIfInBounds_toArray, List.set_cons_zero, List.set_cons_succ]
        refine takeVal 4 38 (.string ⟨#[X, Y]⟩) rfl (by kernel_rfl) (by kernel_rfl) (by kernel_rfl) rfl (by rfl) (fun _ _ _ h => h) hHeld (fun x' hw' => rfl) ?_
        simp only [List.setIfInBounds_toArray, List.set_cons_zero, List.set_cons_succ]
        refine takeVal 5 39 (.int .i64 1) rfl (by kernel_rfl) (by kernel_rfl) (by kernel_rfl) rfl (by rfl) (fun _ _ _ h => h) hHeld (fun x' hw' => rfl) ?_
        simp only [List.setIfInBounds_toArray, List.set_cons_zero, List.set_cons_succ]
        refine takeVal 6 40 (.int .u8 (Y.toNat : Int)) rfl (by kernel_rfl) (by kernel_rfl) (by kernel_rfl) rfl (by rfl) (fun _ _ _ h => h) hHeld (fun x' hw' => by go_simp; rfl) ?_
        simp only [List.setIfInBounds_toArray, List.set_cons_zero, List.set_cons_succ]
        refine step1 7 (by kernel_rfl) ?_
        refine stCall 7 41 66 #[.string ⟨#[]⟩, .int .u8 (Y.toNat : Int)] _ rfl rfl (by rfl) (by go_simp) (indexByte_none _ _) ?_
        rintro e w5 ⟨rfl, hw5⟩
        have hb5 : Below w2.heap.size w2 w5 := by rw [hw5]; exact below_drew (below_drew hbr)
        clear hw5
        refine ⟨_, rfl, trivial, ?_⟩
        simp only [List.setIfInBounds_toArray, List.set_cons_zero, List.set_cons_succ]
        refine takeVal 8 11 (.int .i64 (-1)) rfl (by kernel_rfl) (by kernel_rfl) (by kernel_rfl) rfl (by rfl) (fun _ _ _ h => h) hHeld (fun x' hw' => rfl) ?_
        simp only [List.setIfInBounds_toArray, List.set_cons_zero, List.set_cons_succ]
        refine wpAnyH_done (by kernel_rfl) ?_ _
        refine NoPanic.normal ?_
        clear hHeld
        go_wp2
        rw [Exit.noGoto_ret]
        go_wp2
        first | rw [Exit.noGoto_ret] | skip
        first | (go_ret; exact ⟨rfl, hb5⟩) | trace_state
    · go_enter Try.func62, Try.ntmps62
      go_wp2_with (go_at_call 67; refine (hv _).mono ?_; rintro e w2 ⟨rfl, rfl⟩)
      go_step3
      go_wp2
      go_loop [9, 10] (fun i f => i = .int .i64 2 ∧ f = .int .i64 0) (fun _ _ => 0)
      case atStart => exact ⟨rfl, rfl⟩
      case round =>
        obtain ⟨rfl, rfl⟩ := hrel
        go_wp2
        go_ret
        exact ⟨rfl, Below.refl _ _⟩
    · go_enter Try.func62, Try.ntmps62
      go_wp2_with (go_at_call 67; refine (hv _).mono ?_; rintro e w2 ⟨rfl, rfl⟩)
      go_step3
      go_wp2
      go_loop [9, 10] (fun i f => i = .int .i64 3 ∧ f = .int .i64 0) (fun _ _ => 0)
      case atStart => exact ⟨rfl, rfl⟩
      case round =>
        obtain ⟨rfl, rfl⟩ := hrel
        go_wp2
        go_ret
        exact ⟨rfl, Below.refl _ _⟩

end Go.Proofs.Ytligeanfgeajoaa
