/-
  A graph behind any script.
-/
import Derived.Test.YtfkommjpofpmbaaLawS
import Derived.Deep.MidRow
namespace Go.Proofs.Ytfkommjpofpmbaa
open Go.RowKit

/-- A script that lies in memory. -/
def ScriptAt (w : World) (ad : Option Addr) (ws : List StV) : Prop :=
  ws = [] ∨ ∃ b o, ad = some ⟨b, o, none⟩ ∧ b < w.heap.size ∧ ∀ j, j < ws.length → ∀ i v, (ws.getD j StV.z).cells[i]? = some v → w.cell? ⟨b, o + j * 4 + i, none⟩ = some v
theorem ScriptAt.keep {w w' : World} {ad : Option Addr} {ws : List StV} (h : ScriptAt w ad ws) (hc : Chg w w' No) : ScriptAt w' ad ws := by
  rcases h with h | ⟨b, o, rfl, hb, h⟩
  · exact .inl h
  · refine .inr ⟨b, o, rfl, by have := hc.size; omega, fun j hj i v hv => ?_⟩
    rw [World.cell?_of_block (hc.block b hb (fun e => e))]
    exact h j hj i v hv
theorem ScriptAt.range {w : World} {b o : Nat} {ws : List StV} (h : ∀ j, j < ws.length → ∀ i v, (ws.getD j StV.z).cells[i]? = some v → w.cell? ⟨b, o + j * 4 + i, none⟩ = some v) {j : Nat} (hj : j < ws.length) : w.rangeAt b (o + j * 4) (ws.getD j StV.z).cells :=
  fun i v hv => h j hj i v hv
theorem szS : (Try.prog.info? 35).map (·.size) = some 4 := by kernel_rfl

set_option maxRecDepth 100000 in
set_option maxHeartbeats 2000000 in
theorem made_any (ws : List StV) (ad : Option Addr) (cap : Nat) (w : World) (hl : ws.length ≤ 140737488355328) (hz : ScriptAt w ad ws) (hok : ∀ s, s ∈ ws → s.OK) : Calls Try.prog 5 #[.slice ad ws.length cap] w fun e w' =>
    ∃ p own E, e = .returned (.pointer (some ⟨p, 0, none⟩)) ∧ IsG w' p own E ∧ (∀ k, own k → w.heap.size ≤ k ∧ k < w'.heap.size) ∧ Chg w w' No := by
  have HN := new_any w
  have HZ := hid hz
  generalize hn : ws.length = n at *
  clear hz
  go_enter Try.func5, Try.ntmps5
  go_wp2_with (first
    | (go_at_call 16; go_must (refine HN.mono ?_; rintro e w1 ⟨p, own, rfl, hG, ho, hc⟩))
    | go_in)
  go_loopw [4] (fun i wr => ∃ (k : Nat) (own : Nat → Prop) (E : Int → Int → Prop) (wq : World), wq = wr ∧ k ≤ n ∧ i = .int .i64 k ∧ IsG wq p own E ∧ (∀ k, own k → w.heap.size ≤ k ∧ k < wq.heap.size) ∧ Chg w wq No) (fun i _ => n - (intOf i).toNat)
  case atStart => exact ⟨0, own, _, _, rfl, by omega, rfl, hG, ho, hc⟩
  case round =>
    obtain ⟨k, own1, E1, wA, rfl, hk, rfl, hG1, ho1, hc1⟩ := hrel
    by_cases hlt : k < n
    · rcases HZ.out.keep hc1 with h0 | ⟨b, o, rfl, hb, hcell⟩
      · rw [h0] at hn; simp at hn; omega
      have hr := ScriptAt.range hcell (j := k) (by omega)
      have hs : (ws.getD k StV.z).OK := hok _ (by rw [List.getD_eq_getElem?_getD, List.getElem?_eq_getElem (by omega)]; exact List.getElem_mem _)
      generalize ws.getD k StV.z = s at hr hs
      have HC := stepped_any s hs hG1 (fun k hk => (ho1 k hk).2)
      have hi0 : (0 : Int) ≤ (k : Int) := by omega
      have hi1 : (k : Int) < (n : Int) := by omega
      have HG1 := hid (And.intro hG1 ho1)
      clear hG1 ho1 hcell
      go_wp2_with (first
        | (refine wpList_load_mid rfl 35 _ rfl b (o + k * 4) rfl s.cells _ hr Try.underlying35 rfl (by rw [szS]; rfl) ?_)
        | (go_at_call 20; go_must (refine HC.mono ?_; rintro e w3 ⟨t, vl, ve, E', own', rfl, h31, h32, h33, h34, h35, h36⟩))
        | go_in)
      obtain ⟨hG1, ho1⟩ := HG1.out
      have hsz := hc1.size
      have hsz3 := h36.size
      go_roundw
      case rel =>
        refine ⟨k + 1, own', E', _, rfl, by omega, by go_num, h34, fun j hj => ?_, hc1.trans h36 (fun _ _ e => e) (fun j hj e => ?_)⟩
        · rcases h35 j hj with e | e
          · have := ho1 j e; omega
          · omega
        · have := ho1 j e; omega
      case measure => simp [intOf]; omega
    · have HG1 := hid (And.intro hG1 (And.intro ho1 hc1))
      clear hG1 ho1 hc1
      go_wp2_with fail
      go_ret
      obtain ⟨hG1, ho1, hc1⟩ := HG1.out
      exact ⟨p, own1, E1, rfl, hG1, ho1, hc1⟩

end Go.Proofs.Ytfkommjpofpmbaa
