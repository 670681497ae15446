/-
  A graph behind any script, with what each step made of it.
-/
import Derived.Test.YtfkommjpofpmbaaLawI
import Derived.Test.YtfkommjpofpmbaaLawM
namespace Go.Proofs.Ytfkommjpofpmbaa
open Go.RowKit

/-- The edges behind a script. -/
def Runs : List StV → (Int → Int → Prop) → (Int → Int → Prop) → Prop
  | [], E, E' => E' = E
  | s :: l, E, E' => ∃ t E1, Says E s t E1 ∧ Runs l E1 E'
theorem Runs.more {l : List StV} {s : StV} {t : Ans} {E E1 E2 : Int → Int → Prop} (h : Runs l E E1) (k : Says E1 s t E2) : Runs (l ++ [s]) E E2 := by
  induction l generalizing E with
  | nil => cases h; exact ⟨t, E2, k, rfl⟩
  | cons x l ih => obtain ⟨u, F, h1, h2⟩ := h; exact ⟨u, F, h1, ih h2⟩
theorem Runs.one {l : List StV} {E E1 E2 : Int → Int → Prop} (h : Runs l E E1) (k : Runs l E E2) : E1 = E2 := by
  induction l generalizing E with
  | nil => cases h; cases k; rfl
  | cons x l ih =>
    obtain ⟨u, F, h1, h2⟩ := h
    obtain ⟨v, G, k1, k2⟩ := k
    obtain ⟨_, rfl⟩ := h1.one k1
    exact ih h2 k2
theorem take_more {l : List StV} {k : Nat} (h : k < l.length) : l.take (k + 1) = l.take k ++ [l.getD k StV.z] := by
  rw [List.take_succ_eq_append_getElem h, List.getD_eq_getElem?_getD, List.getElem?_eq_getElem h]
  rfl

set_option maxRecDepth 100000 in
set_option maxHeartbeats 2000000 in
theorem made2_any (ws : List StV) (ad : Option Addr) (cap : Nat) (w : World) (hl : ws.length ≤ 140737488355328) (hz : ScriptAt w ad ws) (hok : ∀ s, s ∈ ws → s.OK) : Calls Try.prog 5 #[.slice ad ws.length cap] w fun e w' =>
    ∃ p own E, e = .returned (.pointer (some ⟨p, 0, none⟩)) ∧ IsG w' p own E ∧ Runs ws E0 E ∧ (∀ k, own k → w.heap.size ≤ k ∧ k < w'.heap.size) ∧ Chg w w' No := by
  have HN := new_any w
  have HZ := hid hz
  generalize hn : ws.length = n at *
  clear hz
  go_enter Try.func5, Try.ntmps5
  go_wp2_with (first
    | (go_at_call 16; go_must (refine HN.mono ?_; rintro e w1 ⟨p, own, rfl, hG, ho, hc⟩))
    | go_in)
  go_loopw [4] (fun i wr => ∃ (k : Nat) (own : Nat → Prop) (E : Int → Int → Prop) (wq : World), wq = wr ∧ k ≤ n ∧ i = .int .i64 k ∧ IsG wq p own E ∧ Runs (ws.take k) E0 E ∧ (∀ k, own k → w.heap.size ≤ k ∧ k < wq.heap.size) ∧ Chg w wq No) (fun i _ => n - (intOf i).toNat)
  case atStart => exact ⟨0, own, _, _, rfl, by omega, rfl, hG, rfl, ho, hc⟩
  case round =>
    obtain ⟨k, own1, E1, wA, rfl, hk, rfl, hG1, hR1, ho1, hc1⟩ := hrel
    have HR1 := hid hR1
    clear hR1
    by_cases hlt : k < n
    · rcases HZ.out.keep hc1 with h0 | ⟨b, o, rfl, hb, hcell⟩
      · rw [h0] at hn; simp at hn; omega
      have hr := ScriptAt.range hcell (j := k) (by omega)
      have hs : (ws.getD k StV.z).OK := hok _ (by rw [List.getD_eq_getElem?_getD, List.getElem?_eq_getElem (by omega)]; exact List.getElem_mem _)
      have HTK : Hid (ws.take (k + 1) = ws.take k ++ [ws.getD k StV.z]) := hid (take_more (by omega))
      generalize ws.getD k StV.z = s at hr hs HTK
      have HC := stepped_any s hs hG1 (fun k hk => (ho1 k hk).2)
      have hi0 : (0 : Int) ≤ (k : Int) := by omega
      have hi1 : (k : Int) < (n : Int) := by omega
      have HG1 := hid (And.intro hG1 ho1)
      clear hG1 ho1 hcell
      go_wp2_with (first
        | (refine wpList_load_mid rfl 35 _ rfl b (o + k * 4) rfl s.cells _ hr Try.underlying35 rfl (by rw [szS]; rfl) ?_)
        | (go_at_call 20; go_must (refine HC.mono ?_; rintro e w3 ⟨t, vl, ve, E', own', rfl, h31, h32, h33, h34, h35, h36⟩))
        | go_in)
      obtain ⟨hG1, ho1⟩ := HG1.out
      have hsz := hc1.size
      have hsz3 := h36.size
      go_roundw
      case rel =>
        refine ⟨k + 1, own', E', _, rfl, by omega, by go_num, h34, by rw [HTK.out]; exact HR1.out.more h31, fun j hj => ?_, hc1.trans h36 (fun _ _ e => e) (fun j hj e => ?_)⟩
        · rcases h35 j hj with e | e
          · have := ho1 j e; omega
          · omega
        · have := ho1 j e; omega
      case measure => simp [intOf]; omega
    · have HG1 := hid (And.intro hG1 (And.intro ho1 hc1))
      clear hG1 ho1 hc1
      go_wp2_with fail
      go_ret
      obtain ⟨hG1, ho1, hc1⟩ := HG1.out
      refine ⟨p, own1, E1, rfl, hG1, ?_, ho1, hc1⟩
      have hR := HR1.out
      rw [List.take_of_length_le (by omega)] at hR
      exact hR

end Go.Proofs.Ytfkommjpofpmbaa
