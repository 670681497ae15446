/-
  The walk over all ways: what it has seen behind it.
-/
import Derived.Test.YtgkanfmkohlmcaaGreatGraph0
namespace Go.Proofs.YtgkanfmkohlmcaaGreat
open Go.RowKit

/-- What the walk finds: its three variables, the steps, what it has seen. -/
structure WEnv (w : World) (ps pt pw bs b : Nat) (f : Int → Option Nat) (E : Int → Int → Prop) : Prop where
  c1 : w.heap[ps]? = some (.cells #[.map (some bs)] 101 (0, 0))
  c2 : w.heap[pt]? = some (.cells #[.map (some b)] 103 (0, 0))
  c3 : w.heap[pw]? = some (.cells #[.func (.func 93) #[] #[.pointer (some ⟨ps, 0, none⟩), .pointer (some ⟨pt, 0, none⟩), .pointer (some ⟨pw, 0, none⟩)]] 88 (0, 0))
  st : StepsAt w b f E
  nb : ¬ SB b f bs
  n1 : bs ≠ ps
  n2 : bs ≠ pt
  n3 : bs ≠ pw
theorem WEnv.keep {w w' : World} {ps pt pw bs b : Nat} {f : Int → Option Nat} {E : Int → Int → Prop} (h : WEnv w ps pt pw bs b f E) (hc : Chg w w' (· = bs)) : WEnv w' ps pt pw bs b f E :=
  ⟨hc.keep h.c1 (fun e => h.n1 e.symm), hc.keep h.c2 (fun e => h.n2 e.symm), hc.keep h.c3 (fun e => h.n3 e.symm), h.st.keep hc (fun _ hk e => h.nb (e ▸ hk)), h.nb, h.n1, h.n2, h.n3⟩

/-- What a walk from n leaves of what was seen. -/
structure Seen (E : Int → Int → Prop) (n : Int) (S T : Int → Prop) : Prop where
  old : ∀ x, S x → T x
  me : T n
  new : ∀ x, T x → S x ∨ Reach E n x
  shut : ∀ x, T x → ¬ S x → ∀ y, E x y → T y

theorem cell0 {w : World} {g : Nat} {v : Value} {t : TypeId} (h : w.heap[g]? = some (.cells #[v] t (0, 0))) : w.cell? ⟨g, 0, none⟩ = some v := by
  rw [cell_of_row _ _ _ _ _ _ h]; rfl

abbrev wargs (n : Int) (ps pt pw : Nat) : Array Value := #[.int .i64 n, .pointer (some ⟨ps, 0, none⟩), .pointer (some ⟨pt, 0, none⟩), .pointer (some ⟨pw, 0, none⟩)]

variable {ps pt pw bs b : Nat} {f : Int → Option Nat} {E : Int → Int → Prop}

set_option maxRecDepth 100000 in
set_option maxHeartbeats 1000000 in
theorem walk_seen (n : Int) (S : Int → Prop) (w : World) (h : WEnv w ps pt pw bs b f E) (hS : SetAt w bs S) (hn : S n) : Calls Tryz.prog 93 (wargs n ps pt pw) w fun e w' =>
    e = .returned (.tuple #[]) ∧ ∃ T, SetAt w' bs T ∧ Chg w w' (· = bs) ∧ Seen E n S T := by
  have hI := hS.i64 hn
  have k1 := cell0 h.c1
  clear h
  unfold wargs
  go_enter Tryz.func93, Tryz.ntmps93
  go_wp2_with (first
    | (at_lookup; go_must (refine wp_ok rfl _ _ rfl bs S n rfl rfl hS hI ?_; intro r hr; obtain rfl : r = true := hr.2 hn))
    | go_in)
  refine bodyPost_ret (results_none rfl _ _ _) rfl ?_
  exact ⟨rfl, S, hS.keep (Chg.alloc w _ No) (fun e => e), Chg.alloc _ _ _, ⟨fun _ h => h, hn, fun _ h => .inl h, fun _ h k => absurd h k⟩⟩

/-- What holds while the walk goes through the steps from n. -/
structure Going (E : Int → Int → Prop) (n : Int) (S left T : Int → Prop) : Prop where
  old : ∀ x, S x → T x
  me : T n
  new : ∀ x, T x → S x ∨ Reach E n x
  shut : ∀ x, T x → ¬ S x → x ≠ n → ∀ y, E x y → T y
  gone : ∀ y, E n y → left y ∨ T y
theorem Going.start (n : Int) (S : Int → Prop) : Going E n S (E n) (fun x => x = n ∨ S x) :=
  ⟨fun _ h => .inr h, .inl rfl, fun _ h => h.elim (fun e => .inr (.inl e.symm)) .inl, fun _ h k l => (h.elim (fun e => absurd e l) (fun e => absurd e k)), fun _ h => .inl h⟩
theorem Going.next {n m : Int} {S left T U : Int → Prop} (h : Going E n S left T) (hm : E n m) (k : Seen E m T U) : Going E n S (fun y => left y ∧ y ≠ m) U := by
  refine ⟨fun x hx => k.old x (h.old x hx), k.old n h.me, fun x hx => ?_, fun x hx hn hne y hy => ?_, fun y hy => ?_⟩
  · rcases k.new x hx with e | e
    · exact h.new x e
    · exact .inr (Reach.step hm e)
  · by_cases hT : T x
    · exact k.old y (h.shut x hT hn hne y hy)
    · exact k.shut x hx hT y hy
  · by_cases e : y = m
    · exact .inr (e ▸ k.me)
    · exact (h.gone y hy).elim (fun l => .inl ⟨l, e⟩) (fun l => .inr (k.old y l))
theorem Going.done {n : Int} {S left T : Int → Prop} (h : Going E n S left T) (hl : ∀ x, ¬ left x) : Seen E n S T :=
  ⟨h.old, h.me, h.new, fun x hx hn y hy => by
    by_cases e : x = n
    · subst e
      exact (h.gone y hy).elim (fun l => absurd l (hl y)) (fun l => l)
    · exact h.shut x hx hn e y hy⟩

/-- What a call of the walk leaves. -/
abbrev WPost (E : Int → Int → Prop) (bs : Nat) (n : Int) (S : Int → Prop) (w : World) (e : Ending) (w' : World) : Prop :=
  e = .returned (.tuple #[]) ∧ ∃ T, SetAt w' bs T ∧ Chg w w' (· = bs) ∧ Seen E n S T

set_option maxRecDepth 100000 in
set_option maxHeartbeats 2000000 in
theorem walk_body (hs : InSec E) (n0 n : Int) (S : Int → Prop) (w : World) (h : WEnv w ps pt pw bs b f E) (hS : SetAt w bs S) (hn : ¬ S n) (hI : I64 n) (hn0 : n = n0 ∨ Sec n) (hS0 : ∀ x, S x → x = n0 ∨ Sec x)
    (hcall : ∀ (m : Int) (T : Int → Prop) (w' : World), WEnv w' ps pt pw bs b f E → SetAt w' bs T → E n m → (∀ x, x = n ∨ S x → T x) → (∀ x, T x → x = n0 ∨ Sec x) → Calls Tryz.prog 93 (wargs m ps pt pw) w' (WPost E bs m T w')) :
    Calls Tryz.prog 93 (wargs n ps pt pw) w (WPost E bs n S w) := by
  have k1 := cell0 h.c1
  have k2 := cell0 h.c2
  have HH := hid h
  have hbs := hS.lt
  have hps := slt h.c1
  have hpt := slt h.c2
  have hA := Chg.alloc w (.cells #[] 118) (· = bs)
  have hSA := hS.keep (Chg.alloc w (.cells #[] 118) No) (fun e => e)
  have hfew : ∃ L : List Int, L.length ≤ 5000 ∧ ∀ x, S x → x ∈ L := by
    obtain ⟨L, h1, h2⟩ := few_sec.one n0
    exact ⟨L, by omega, fun x hx => h2 x (hS0 x hx)⟩
  generalize hE : E n = En
  have HF := hid (show ∀ c, f n = some c → SetAt w c En by rw [← hE]; exact fun c hc => h.st.sets n c hc)
  have HF0 := hid (show f n = none → ∀ x, ¬ En x by rw [← hE]; exact fun hc => h.st.none hc)
  obtain ⟨c, hc⟩ : ∃ c, f n = c := ⟨_, rfl⟩
  rw [hc] at HF HF0
  have HM := h.st.map
  have hcb : ∀ d, c = some d → d ≠ bs := fun d e ed => h.nb (.inr ⟨n, by rw [hc, e, ed]⟩)
  have hcl : ∀ d, c = some d → d < w.heap.size := fun d e => h.st.lt (.inr ⟨n, by rw [hc, e]⟩)
  have hbb : b ≠ bs := fun e => h.nb (.inl e.symm)
  have hn1 := h.n1
  have hn2 := h.n2
  clear h
  unfold wargs
  go_enter Tryz.func93, Tryz.ntmps93
  go_wp2_with (first
    | (at_lookup; go_must (first
        | (refine wp_ok rfl _ _ rfl bs S n rfl rfl hS hI ?_; intro r hr; obtain rfl : r = false := by cases r; rfl; exact absurd (hr.1 rfl) hn)
        | (refine wp_look rfl _ _ rfl b f n c hc rfl rfl ((HM.keep (Chg.alloc w _ No) (fun e => e)).keep h2 hbb) hI ?_)))
    | (at_mapUpdate; go_must (refine wp_storeS rfl _ _ _ rfl bs S n rfl rfl rfl hSA hI hfew ?_; intro w1 h1 h2 h3; have hA2 := hA.trans h2 (c := (· = bs)) (fun _ _ e => e) (fun _ _ e => e); have k2' : w1.cell? ⟨pt, 0, none⟩ = some (.map (some b)) := cell0 (hA2.keep HH.out.c2 (fun e => hn2 e.symm))))
    | (at_range; go_must (refine wp_rangeS rfl _ rfl c En rfl (fun d e => ((HF.out d e).keep hA2 (hcb d e))) HF0.out ?_; intro w2 cnt0 hr0 hc0 hz0))
    | go_in)
  go_frame
  have hsz : w.heap.size ≤ w1.heap.size := hA2.size
  have HS := hid (And.intro h3 hz0)
  clear h3 hz0
  generalize hrr : w1.heap.size = r at *
  go_loopw [7] (fun _ wr => ∃ (left : Int → Prop) (cnt : Nat) (T : Int → Prop), RangeS wr c r En left cnt ∧ SetAt wr bs T ∧ Chg w wr (· = bs) ∧ Going E n S left T) (fun _ wr => leftN wr c r)
  case atStart => exact ⟨En, cnt0, _, hr0, h1.keep hc0 (fun e => e), hA2.trans hc0 (fun _ _ e => e) (fun _ _ e => e.elim), hE ▸ Going.start n S⟩
  case round =>
    obtain ⟨left, cnt, T, hr, hT, hW, hG⟩ := hrel
    go_wp2_with (first
      | (at_next; go_must (refine wp_nextS rfl _ rfl c r En left cnt rfl hr ?_ ?_))
      | go_in)
    · intro hl
      go_wp2
      go_end0
      exact ⟨rfl, T, hT, hW, hG.done hl⟩
    · intro x w3 cnt3 hl hx hIx hr3 hlt hc3 hz3 hen
      clear hz3
      have hW3 : Chg w w3 (· = bs) := hW.trans hc3 (fun _ _ e => e) (fun j hj e => by omega)
      have hT3 : SetAt w3 bs T := hT.keep hc3 (by omega)
      have henv3 := HH.out.keep hW3
      have k3 := cell0 henv3.c3
      have hEx : E n x := by rw [hE]; exact hx
      have hC := hcall x T w3 henv3 hT3 hEx (fun y hy => hy.elim (fun e => e ▸ hG.me) (hG.old y)) (fun y hy => by
        rcases hG.new y hy with e | e | e
        · exact hS0 y e
        · exact e ▸ hn0
        · exact .inr (e.sec hs).2)
      have HR := hid (And.intro hr3 (And.intro hlt hr))
      clear hr3 hlt hr henv3
      go_wp2_with (go_at_call 93; go_must (refine hC.mono ?_; rintro e w4 ⟨rfl, U, hU, hc4, hSeen⟩))
      obtain ⟨hr3, hlt, hr⟩ := HR.out
      have hr4 := hr3.keep hc4 (fun d e => hcb d e) (by omega)
      go_roundw
      case rel => exact ⟨_, cnt3, U, hr4, hU, hW3.trans hc4 (fun _ _ e => e) (fun _ _ e => e), hG.next hEx hSeen⟩
      case measure => rw [hr4.leftN, hr.leftN]; exact hlt

set_option maxHeartbeats 2000000 in
theorem walk_new (hs : InSec E) (n0 : Int) : ∀ (k : Nat) (n : Int) (S : Int → Prop) (w : World), WEnv w ps pt pw bs b f E → SetAt w bs S → ¬ S n → I64 n → (n = n0 ∨ Sec n) → (∀ x, S x → x = n0 ∨ Sec x) → Few k (fun x => Sec x ∧ ¬ (x = n ∨ S x)) →
    Calls Tryz.prog 93 (wargs n ps pt pw) w (WPost E bs n S w) := by
  intro k
  induction k with
  | zero =>
    intro n S w h hS hn hI hn0 hS0 hF
    refine walk_body hs n0 n S w h hS hn hI hn0 hS0 fun m T w' h' hT hm hsub hT0 => ?_
    have hTm : T m := Classical.byContradiction fun hne => hF.none m ⟨(hs n m hm).2, fun e => hne (hsub m e)⟩
    exact walk_seen m T w' h' hT hTm
  | succ k ih =>
    intro n S w h hS hn hI hn0 hS0 hF
    refine walk_body hs n0 n S w h hS hn hI hn0 hS0 fun m T w' h' hT hm hsub hT0 => ?_
    by_cases hTm : T m
    · exact walk_seen m T w' h' hT hTm
    · have hsm := (hs n m hm).2
      refine ih m T w' h' hT hTm hsm.i64 (.inr hsm) hT0 (hF.less (m := m) ⟨hsm, fun e => hTm (hsub m e)⟩ fun x hx => ⟨⟨hx.1, fun e => hx.2 (.inr (hsub x e))⟩, fun e => hx.2 (.inl e)⟩)

end Go.Proofs.YtgkanfmkohlmcaaGreat
