/-
  Remove: the edges of a sector go, all others stay.
-/
import Derived.Test.YtamoepninddbcaaGreatGraph1
import Derived.Laws.EntriesVeiled
namespace Go.Proofs.YtamoepninddbcaaGreat
open Go.RowKit

variable {w : World} {b : Nat} {f : Int → Option Nat} {E : Int → Int → Prop}

theorem from_env (h : StepsAt w b f E) : WEnv ((((w.alloc (.cells #[.map (some b)] 115)).alloc (.map #[] 0)).alloc (.cells #[.map (some (w.heap.size + 1))] 121)).alloc
      (.cells #[.func (.func 116) #[] #[.pointer (some ⟨w.heap.size + 1 + 1, 0, none⟩), .pointer (some ⟨w.heap.size, 0, none⟩), .pointer (some ⟨w.heap.size + 1 + 1 + 1, 0, none⟩)]] 107))
    (w.heap.size + 1 + 1) w.heap.size (w.heap.size + 1 + 1 + 1) (w.heap.size + 1) b f E := by
  refine ⟨?_, ?_, ?_, ?_, fun k => ?_, by omega, by omega, by omega⟩
  · rw [heap_alloc_if, if_neg (by simp), heap_alloc_if, if_pos (by simp)]
  · rw [heap_alloc_if, if_neg (by simp; omega), heap_alloc_if, if_neg (by simp; omega), heap_alloc_if, if_neg (by simp), heap_alloc_if, if_pos rfl]
  · rw [heap_alloc_if, if_pos (by simp)]
  · refine (((h.keep (Chg.alloc _ _ No) (fun _ _ e => e)).keep (Chg.alloc _ _ No) (fun _ _ e => e)).keep (Chg.alloc _ _ No) (fun _ _ e => e)).keep (Chg.alloc _ _ No) (fun _ _ e => e)
  · have := h.lt k
    omega
theorem from_set : SetAt ((((w.alloc (.cells #[.map (some b)] 115)).alloc (.map #[] 0)).alloc (.cells #[.map (some (w.heap.size + 1))] 121)).alloc
      (.cells #[.func (.func 116) #[] #[.pointer (some ⟨w.heap.size + 1 + 1, 0, none⟩), .pointer (some ⟨w.heap.size, 0, none⟩), .pointer (some ⟨w.heap.size + 1 + 1 + 1, 0, none⟩)]] 107)) (w.heap.size + 1) (fun _ => False) := by
  have := SetAt.made (w.alloc (.cells #[.map (some b)] 115))
  rw [World.size_alloc] at this
  exact (this.keep (Chg.alloc _ _ No) (fun e => e)).keep (Chg.alloc _ _ No) (fun e => e)

set_option maxRecDepth 100000 in
set_option maxHeartbeats 1000000 in
theorem from_any (n : Int) (h : StepsAt w b f E) (hs : InSec E) (hI : I64 n) : Calls Tryz.prog 108 #[.map (some b), .int .i64 n] w fun e w' =>
    ∃ bs, e = .returned (.map (some bs)) ∧ w.heap.size ≤ bs ∧ SetAt w' bs (Reach E n) ∧ Chg w w' No := by
  have hmm := @run_makeMap Tryz.prog
  have hmf : ∀ (fn : Fn) (first cap : Array Value) (w : World), (Instr.makeFunc fn first cap).run Tryz.prog w = .ok (.func fn first cap) w := fun _ _ _ _ => rfl
  have HE := from_env h
  have HC := walk_new hs n 4096 n (fun _ => False) _ HE (from_set (w := w) (b := b)) (fun e => e) hI (.inl rfl) (fun _ e => e.elim) (few_sec.mono fun _ e => e.1)
  unfold wargs at HC
  have HE1 := hid HE
  clear h HE
  go_enter Tryz.func108, Tryz.ntmps108
  go_wp2_with (go_at_call 116; go_must (refine HC.mono ?_; rintro e w1 ⟨rfl, T, hT, hc, hSn⟩; have k5 := cell0 (hc.keep HE1.out.c1 (by omega))))
  go_ret
  have hc0 : Chg w w1 No := by
    refine ((((Chg.alloc w _ No).trans (Chg.alloc _ _ No) (fun _ _ e => e) (fun _ _ e => e)).trans (Chg.alloc _ _ No) (fun _ _ e => e) (fun _ _ e => e)).trans (Chg.alloc _ _ No) (fun _ _ e => e) (fun _ _ e => e)).trans hc (fun _ _ e => e) (fun j hj e => ?_)
    omega
  refine ⟨w.heap.size + 1, rfl, by omega, hT.cong fun x => ⟨fun hx => (hSn.new x hx).elim (fun e => e.elim) (fun e => e), fun hx => ?_⟩, hc0⟩
  exact hx.closed hSn.me fun x y hx hxy => hSn.shut x hx (fun e => e) y hxy

/-- A graph lies at p. -/
structure IsG0 (w : World) (p bp bq : Nat) (f g : Int → Option Nat) (E : Int → Int → Prop) : Prop where
  me : w.heap[p]? = some (.cells #[.map (some bp), .map (some bq)] 117 (0, 0))
  po : StepsAt w bp f E
  pr : StepsAt w bq g (rev E)
  ap : ∀ k, SB bp f k → ¬ SB bq g k
  sec : InSec E
  ring : NoRing E
/-- A graph lies at p, in blocks of its own. -/
def IsG (w : World) (p : Nat) (own : Nat → Prop) (E : Int → Int → Prop) : Prop := ∃ bp bq f g, IsG0 w p bp bq f g E ∧ own p ∧ ∀ k, SB bp f k ∨ SB bq g k → own k

theorem steps_isMap (h : StepsAt w b f E) {k : Nat} (hk : SB b f k) : ∃ es clock, w.heap[k]? = some (Obj.map es clock) := by
  rcases hk with rfl | ⟨x, hx⟩
  · obtain ⟨D, ⟨es, clock, h, _⟩, _⟩ := h.map
    exact ⟨es, clock, h⟩
  · obtain ⟨D, ⟨es, clock, h, _⟩, _⟩ := h.sets x k hx
    exact ⟨es, clock, h⟩
variable {p bp bq : Nat} {g : Int → Option Nat} {own : Nat → Prop}
theorem IsG0.np (h : IsG0 w p bp bq f g E) : ¬ SB bp f p ∧ ¬ SB bq g p := by
  constructor
  · intro k
    obtain ⟨es, clock, e⟩ := steps_isMap h.po k
    rw [h.me] at e
    cases e
  · intro k
    obtain ⟨es, clock, e⟩ := steps_isMap h.pr k
    rw [h.me] at e
    cases e
theorem IsG0.c0 (h : IsG0 w p bp bq f g E) : w.cell? ⟨p, 0, none⟩ = some (.map (some bp)) := by rw [cell_of_row _ _ _ _ _ _ h.me]; rfl
theorem IsG0.c1 (h : IsG0 w p bp bq f g E) : w.cell? ⟨p, 1, none⟩ = some (.map (some bq)) := by rw [cell_of_row _ _ _ _ _ _ h.me]; rfl
theorem IsG.keep {w' : World} {ks : Nat → Prop} (h : IsG w p own E) (hc : Chg w w' ks) (hn : ∀ k, own k → ¬ ks k) : IsG w' p own E := by
  obtain ⟨bp, bq, f, g, h, hp, ho⟩ := h
  exact ⟨bp, bq, f, g, ⟨hc.keep h.me (hn p hp), h.po.keep hc (fun k hk => hn k (ho k (.inl hk))), h.pr.keep hc (fun k hk => hn k (ho k (.inr hk))), h.ap, h.sec, h.ring⟩, hp, ho⟩
theorem IsG.call {w' : World} (h : IsG w p own E) (hc : Chg w w' No) : IsG w' p own E := h.keep hc fun _ _ e => e
theorem IsG.cong {F : Int → Int → Prop} (h : IsG w p own E) (hE : ∀ x y, E x y ↔ F x y) : IsG w p own F := by
  have : E = F := by funext x y; exact propext (hE x y)
  exact this ▸ h
theorem IsG.sec (h : IsG w p own E) : InSec E := let ⟨_, _, _, _, h, _⟩ := h; h.sec
theorem IsG.ring (h : IsG w p own E) : NoRing E := let ⟨_, _, _, _, h, _⟩ := h; h.ring

set_option maxRecDepth 100000 in
set_option maxHeartbeats 1000000 in
theorem new_any (w : World) : Calls Tryz.prog 57 #[] w fun e w' => ∃ p own, e = .returned (.pointer (some ⟨p, 0, none⟩)) ∧ IsG w' p own (fun _ _ => False) ∧ (∀ k, own k → w.heap.size ≤ k ∧ k < w'.heap.size) ∧ Chg w w' No := by
  have hmm := @run_makeMap Tryz.prog
  go_enter Tryz.func57, Tryz.ntmps57
  go_wp2
  go_ret
  have a1 := (MapAt.made w).keep (Chg.alloc _ (.map #[] 0) No) (fun e => e)
  have a2 := a1.keep (Chg.alloc _ (.cells #[.map (some w.heap.size), .map (some (w.heap.size + 1))] 117) No) (fun e => e)
  have b1 := MapAt.made (w.alloc (.map #[] 0))
  rw [World.size_alloc] at b1
  have b2 := b1.keep (Chg.alloc _ (.cells #[.map (some w.heap.size), .map (some (w.heap.size + 1))] 117) No) (fun e => e)
  refine ⟨w.heap.size + 1 + 1, fun k => w.heap.size ≤ k ∧ k < w.heap.size + 3, rfl, ⟨w.heap.size, w.heap.size + 1, fun _ => none, fun _ => none, ⟨?_, ⟨a2, fun x => by simp, fun x c hx => (by cases hx), fun x y c hx => (by cases hx), fun x c hx => (by cases hx)⟩, ⟨b2, fun x => by simp [rev], fun x c hx => (by cases hx), fun x y c hx => (by cases hx), fun x c hx => (by cases hx)⟩, ?_, fun _ _ h => h.elim, fun a h => (by obtain ⟨_, h⟩ := h.first; exact h)⟩, ⟨by omega, by omega⟩, ?_⟩, ?_, ?_⟩
  · rw [heap_alloc_if, if_pos (by simp)]
  · rintro k (rfl | ⟨x, hx⟩) (h | ⟨x, hx⟩)
    · omega
    · cases hx
    · cases hx
    · cases hx
  · rintro k ((rfl | ⟨x, hx⟩) | (rfl | ⟨x, hx⟩))
    · omega
    · cases hx
    · omega
    · cases hx
  · intro k hk
    simp
    omega
  · exact ((Chg.alloc w _ No).trans (Chg.alloc _ _ No) (fun _ _ e => e) (fun _ _ e => e)).trans (Chg.alloc _ _ No) (fun _ _ e => e) (fun _ _ e => e)

set_option maxRecDepth 100000 in
set_option maxHeartbeats 1000000 in
theorem free_any (n : Int) (h : IsG w p own E) (hI : I64 n) : Calls Tryz.prog 62 #[.pointer (some ⟨p, 0, none⟩), .int .i64 n] w fun e w' => ∃ r, e = .returned (.bool r) ∧ (r = true ↔ ∀ a, ¬ E a n) ∧ w = w' := by
  obtain ⟨bp, bq, f, g, h, _⟩ := h
  have k1 := h.c1
  have HM := h.pr.map
  obtain ⟨c, hc⟩ : ∃ c, g n = c := ⟨_, rfl⟩
  have HF := hid (show ∀ d, c = some d → SetAt w d (rev E n) from fun d e => h.pr.sets n d (by rw [hc, e]))
  have HF0 := hid (show c = none → ∀ x, ¬ rev E n x from fun e => h.pr.none (by rw [hc, e]))
  clear h
  go_enter Tryz.func62, Tryz.ntmps62
  go_wp2_with (first
    | (at_lookup; go_must (refine wp_look rfl _ _ rfl bq g n c hc rfl rfl HM hI ?_))
    | (at_len; go_must (refine wp_len rfl _ rfl c (rev E n) rfl HF.out HF0.out ?_; intro s hs))
    | go_in)
  go_ret
  exact ⟨_, rfl, by simpa [rev] using hs, rfl⟩

set_option maxRecDepth 100000 in
set_option maxHeartbeats 1000000 in
theorem reaches_any (a c : Int) (h : IsG w p own E) (hA : I64 a) (hC : I64 c) : Calls Tryz.prog 92 #[.pointer (some ⟨p, 0, none⟩), .int .i64 a, .int .i64 c] w fun e w' => ∃ r, e = .returned (.bool r) ∧ (r = true ↔ Reach E a c) ∧ Chg w w' No := by
  have HF := free_any c h hC
  obtain ⟨bp, bq, f, g, h, _⟩ := h
  have k0 := h.c0
  have HC := from_any a h.po h.sec hA
  clear h
  go_enter Tryz.func92, Tryz.ntmps92
  go_wp2_with (first
    | (go_at_call 62; go_must (refine HF.mono ?_; rintro e w1 ⟨r, rfl, hr, rfl⟩))
    | (go_at_call 108; go_must (refine HC.mono ?_; rintro e w1 ⟨bs, rfl, hbs, hS, hc⟩))
    | (at_lookup; go_must (refine wp_ok rfl _ _ rfl bs (Reach E a) c rfl rfl hS hC ?_; intro r2 hr2))
    | go_in)
  · go_ret
    refine ⟨_, rfl, ?_, Chg.refl _ _⟩
    have hfree := hr.1 (by assumption)
    simp
    constructor
    · exact fun e => .inl e
    · rintro (e | e)
      · exact e
      · obtain ⟨d, hd⟩ := e.last
        exact absurd hd (hfree d)
  · go_ret
    exact ⟨_, rfl, hr2, hc.trans (Chg.alloc _ _ No) (fun _ _ e => e) (fun _ _ e => e)⟩

def isSec (n : Int) : Bool := decide (0 ≤ n) && decide (n < 4096)
theorem isSec_iff (n : Int) : isSec n = true ↔ Sec n := by simp [isSec, Sec]
theorem isSector_any (n : Int) (w : World) : Calls Tryz.prog 95 #[.int .i64 n] w fun e w' => e = .returned (.bool (isSec n)) ∧ w = w' := by
  by_cases h0 : 0 ≤ n
  · by_cases h1 : n < 4096
    · have HE : Hid (isSec n = true) := by show _ = _; simp [isSec, h0, h1]
      go_enter Tryz.func95, Tryz.ntmps95
      go_wp2
      go_ret
      exact ⟨ret_bool HE.out.symm, rfl⟩
    · have HE : Hid (isSec n = false) := by show _ = _; simp [isSec, h1]
      go_enter Tryz.func95, Tryz.ntmps95
      go_wp2
      go_ret
      exact ⟨ret_bool HE.out.symm, rfl⟩
  · have HE : Hid (isSec n = false) := by show _ = _; simp [isSec, h0]
    go_enter Tryz.func95, Tryz.ntmps95
    go_wp2
    go_ret
    exact ⟨ret_bool HE.out.symm, rfl⟩

/-- What Add answers, and what edges there are behind it. -/
def Added (E : Int → Int → Prop) (p q : Int) (c : Int) (E' : Int → Int → Prop) : Prop :=
  (¬ (Sec p ∧ Sec q) ∧ c = 1 ∧ E' = E) ∨ (Sec p ∧ Sec q ∧ Reach E q p ∧ c = 30 ∧ E' = E) ∨ (Sec p ∧ Sec q ∧ ¬ Reach E q p ∧ c = 0 ∧ E' = addE E p q)

set_option maxRecDepth 100000 in
set_option maxHeartbeats 1000000 in
theorem addG_any (q r : Int) (h : IsG w p own E) (hQ : I64 q) (hR : I64 r) : Calls Tryz.prog 61 #[.pointer (some ⟨p, 0, none⟩), .int .i64 q, .int .i64 r] w fun e w' =>
    ∃ c E' own', e = .returned (.int .i64 c) ∧ Added E q r c E' ∧ IsG w' p own' E' ∧ (∀ k, own' k → own k ∨ (w.heap.size ≤ k ∧ k < w'.heap.size)) ∧ Chg w w' own := by
  have HS := fun w => isSector_any q w
  have HT := fun w => isSector_any r w
  have HC := reaches_any r q h hR hQ
  have HH := hid h
  cases hq : isSec q with
  | false =>
    have hn : ¬ (Sec q ∧ Sec r) := fun e => by rw [(isSec_iff q).2 e.1] at hq; cases hq
    rw [hq] at HS
    clear h HT HC
    go_enter Tryz.func61, Tryz.ntmps61
    go_wp2_with (first
      | (go_at_call 95; go_must (refine (HS _).mono ?_; rintro e w1 ⟨rfl, rfl⟩))
      | go_in)
    go_ret
    exact ⟨_, E, own, rfl, .inl ⟨hn, rfl, rfl⟩, HH.out, fun _ k => .inl k, Chg.refl _ _⟩
  | true =>
    rw [hq] at HS
    cases hr : isSec r with
    | false =>
      have hn : ¬ (Sec q ∧ Sec r) := fun e => by rw [(isSec_iff r).2 e.2] at hr; cases hr
      rw [hr] at HT
      clear h HC
      go_enter Tryz.func61, Tryz.ntmps61
      go_wp2_with (first
        | (go_at_call 95; go_must (first | (refine (HS _).mono ?_; rintro e w1 ⟨rfl, rfl⟩) | (refine (HT _).mono ?_; rintro e w1 ⟨rfl, rfl⟩)))
        | go_in)
      go_ret
      exact ⟨_, E, own, rfl, .inl ⟨hn, rfl, rfl⟩, HH.out, fun _ k => .inl k, Chg.refl _ _⟩
    | true =>
      rw [hr] at HT
      have sq := (isSec_iff q).1 hq
      have sr := (isSec_iff r).1 hr
      clear h
      go_enter Tryz.func61, Tryz.ntmps61
      go_wp2_with (first
        | (go_at_call 95; go_must (first | (refine (HS _).mono ?_; rintro e w1 ⟨rfl, rfl⟩) | (refine (HT _).mono ?_; rintro e w1 ⟨rfl, rfl⟩)))
        | (go_at_call 92; go_must (refine HC.mono ?_; rintro e w1 ⟨r1, rfl, hr1, hc1⟩; obtain ⟨bp, bq, f, g, h1, hp1, ho1⟩ := HH.out.call hc1; have k0 := h1.c0; have hnp := h1.np; have HA := add_any q r h1.po h1.sec sq sr; have HH1 := hid (And.intro h1 ho1); clear h1 ho1))
        | (go_at_call 96; go_must (first
            | (refine HA.mono ?_; rintro e w2 ⟨rfl, f', hf', hcA, hoA⟩; have k1 : w2.cell? ⟨p, 1, none⟩ = some (.map (some bq)) := (by rw [cell_of_row _ _ _ _ _ _ (hcA.keep HH1.out.1.me hnp.1)]; rfl); have hp2 := HH1.out.1.pr.keep hcA (fun k hk hk' => HH1.out.1.ap k hk' hk); have HB := add_any r q hp2 (fun a b e => (HH1.out.1.sec b a e).symm) sr sq; clear HA)
            | (refine HB.mono ?_; rintro e w3 ⟨rfl, g', hg', hcB, hoB⟩)))
        | go_in)
      · go_ret
        have hre := hr1.1 (by assumption)
        exact ⟨_, E, own, rfl, .inr (.inl ⟨sq, sr, hre, rfl, rfl⟩), HH.out.call hc1, fun _ k => .inl k, hc1.mono fun _ _ e => e.elim⟩
      · go_ret
        obtain ⟨h1, ho1⟩ := HH1.out
        have hre : ¬ Reach E r q := fun e => by
          have := hr1.2 e
          simp_all
        have hap2 : ∀ k, SB bp f' k → ¬ SB bq g k := fun k hk hk2 => by
          rcases hoA k hk with e | e
          · exact h1.ap k e hk2
          · have := h1.pr.lt hk2
            omega
        have hap3 : ∀ k, SB bp f' k → ¬ SB bq g' k := fun k hk hk2 => by
          rcases hoB k hk2 with e | e
          · exact hap2 k hk e
          · have := hf'.lt hk
            omega
        have hs12 := hcA.size
        have hs23 := hcB.size
        have hs01 := hc1.size
        refine ⟨_, addE E q r, fun k => own k ∨ (w.heap.size ≤ k ∧ k < w3.heap.size), rfl, .inr (.inr ⟨sq, sr, hre, rfl, rfl⟩), ⟨bp, bq, f', g', ⟨hcB.keep (hcA.keep h1.me hnp.1) hnp.2, hf'.keep hcB (fun k hk => hap2 k hk), hg'.cong fun x y => ?_, hap3, inSec_add h1.sec sq sr, noRing_add h1.ring hre⟩, .inl hp1, fun k hk => ?_⟩, fun _ k => k, ?_⟩
        · show addE (rev E) r q x y ↔ addE E q r y x
          unfold addE rev
          constructor
          · rintro (⟨rfl, rfl⟩ | e)
            · exact .inl ⟨rfl, rfl⟩
            · exact .inr e
          · rintro (⟨rfl, rfl⟩ | e)
            · exact .inl ⟨rfl, rfl⟩
            · exact .inr e
        · rcases hk with hk | hk
          · rcases hoA k hk with e | e
            · exact .inl (ho1 k (.inl e))
            · have := hf'.lt hk
              exact .inr ⟨by omega, by omega⟩
          · rcases hoB k hk with e | e
            · exact .inl (ho1 k (.inr e))
            · have := hg'.lt hk
              exact .inr ⟨by omega, by omega⟩
        · exact hc1.trans (hcA.trans hcB (c := own) (fun j _ e => ho1 j (.inl e)) (fun j _ e => ho1 j (.inr e))) (fun _ _ e => e.elim) (fun _ _ e => e)

end Go.Proofs.YtamoepninddbcaaGreat

namespace Go.Proofs.YtamoepninddbcaaGreat
open Go.RowKit

variable {w : World} {b : Nat} {f : Int → Option Nat} {E : Int → Int → Prop} {p bp bq : Nat} {g : Int → Option Nat} {own : Nat → Prop}

theorem StepsAt.delKey {w' : World} {n : Int} (h : StepsAt w b f E) (hM : MapAt w' b (fun y => if y = n then Option.none else f y)) (hc : Chg w w' (· = b)) : StepsAt w' b (fun y => if y = n then Option.none else f y) (fun x y => E x y ∧ x ≠ n) := by
  refine ⟨hM, fun x => ?_, fun x d hx => ?_, fun x y c hx hy => ?_, fun x c hx => ?_⟩
  · by_cases e : x = n
    · simp [e]
    · simp only [e, if_false]
      rw [h.dom x]
      simp [e]
  · by_cases e : x = n
    · simp [e] at hx
    · simp only [e, if_false] at hx
      refine ((h.sets x d hx).keep hc (h.ne x d hx)).cong fun y => ?_
      simp [e]
  · by_cases e : x = n
    · simp [e] at hx
    · by_cases e' : y = n
      · simp [e'] at hy
      · simp only [e, if_false] at hx
        simp only [e', if_false] at hy
        exact h.inj x y c hx hy
  · by_cases e : x = n
    · simp [e] at hx
    · simp only [e, if_false] at hx
      exact h.ne x c hx
theorem SB.del {n : Int} {k : Nat} (h : SB b (fun y => if y = n then Option.none else f y) k) : SB b f k := by
  rcases h with rfl | ⟨x, hx⟩
  · exact .inl rfl
  · by_cases e : x = n
    · simp [e] at hx
    · simp only [e, if_false] at hx
      exact .inr ⟨x, hx⟩

/-- What Remove answers, and what edges there are behind it. -/
def Removed (E : Int → Int → Prop) (n c : Int) (E' : Int → Int → Prop) : Prop := (¬ Sec n ∧ c = 1 ∧ E' = E) ∨ (Sec n ∧ c = 0 ∧ E' = delE E n)

/-- The steps back, those from n as long as they are to come. -/
def Fb (E : Int → Int → Prop) (n : Int) (left : Int → Prop) (y x : Int) : Prop := E x y ∧ (x = n → left y)
/-- The steps, those to n as long as they are to come. -/
def Fp (E : Int → Int → Prop) (n : Int) (left : Int → Prop) (x y : Int) : Prop := E x y ∧ (y = n → left x)

set_option maxRecDepth 100000 in
set_option maxHeartbeats 2000000 in
theorem removeG_any (n : Int) (h : IsG w p own E) : Calls Tryz.prog 106 #[.pointer (some ⟨p, 0, none⟩), .int .i64 n] w fun e w' =>
    ∃ c E', e = .returned (.int .i64 c) ∧ Removed E n c E' ∧ IsG w' p own E' ∧ Chg w w' own := by
  have HS := fun w => isSector_any n w
  have HH := hid h
  cases hq : isSec n with
  | false =>
    have hn : ¬ Sec n := fun e => by rw [(isSec_iff n).2 e] at hq; cases hq
    rw [hq] at HS
    clear h
    go_enter Tryz.func106, Tryz.ntmps106
    go_wp2_with (first
      | (go_at_call 95; go_must (refine (HS _).mono ?_; rintro e w1 ⟨rfl, rfl⟩))
      | go_in)
    go_ret
    exact ⟨_, E, rfl, .inl ⟨hn, rfl, rfl⟩, HH.out, Chg.refl _ _⟩
  | true =>
    rw [hq] at HS
    have sn := (isSec_iff n).1 hq
    have In := sn.i64
    obtain ⟨bp, bq, f, g, h, hp, ho⟩ := h
    have k0 := h.c0
    have k1 := h.c1
    have HM := h.po.map
    obtain ⟨c, hc⟩ : ∃ c, f n = c := ⟨_, rfl⟩
    generalize hEn : E n = En
    have HF := hid (show ∀ d, c = some d → SetAt w d En by rw [← hEn]; exact fun d e => h.po.sets n d (by rw [hc, e]))
    have HF0 := hid (show c = none → ∀ x, ¬ En x by rw [← hEn]; exact fun e => h.po.none (by rw [hc, e]))
    have hcn : ∀ d, c = some d → ¬ SB bq g d := fun d e => h.ap d (.inr ⟨n, by rw [hc, e]⟩)
    have HG := hid h
    clear h
    go_enter Tryz.func106, Tryz.ntmps106
    go_wp2_with (first
      | (go_at_call 95; go_must (refine (HS _).mono ?_; rintro e w1 ⟨rfl, rfl⟩))
      | (at_lookup; go_must (refine wp_look rfl _ _ rfl bp f n c hc rfl rfl HM In ?_))
      | (at_range; go_must (refine wp_rangeS rfl _ rfl c En rfl HF.out HF0.out ?_; intro w2 cnt0 hr0 hc0 hz0))
      | go_in)
    go_frame
    clear hz0
    generalize hrr : w.heap.size = r at *
    go_loopw [5] (fun _ wr => ∃ (left : Int → Prop) (cnt : Nat) (g1 : Int → Option Nat) (wq : World), wq = wr ∧ RangeS wq c r En left cnt ∧ StepsAt wq bq g1 (Fb E n left) ∧ Chg w wq (SB bq g) ∧ ∀ k, SB bq g1 k → SB bq g k) (fun _ wr => leftN wr c r)
    case atStart =>
      refine ⟨En, cnt0, g, _, rfl, hr0, (HG.out.pr.keep hc0 (fun _ _ e => e)).cong fun y x => ?_, hc0.mono fun _ _ e => e.elim, fun _ k => k⟩
      show E x y ↔ E x y ∧ (x = n → En y)
      exact ⟨fun e => ⟨e, fun ex => by rw [← hEn, ← ex]; exact e⟩, fun e => e.1⟩
    case round =>
      obtain ⟨left, cnt, g1, wA, rfl, hr, hT, hW, hsub⟩ := hrel
      have hgr : ∀ k, SB bq g1 k → k ≠ r := fun k hk e => by
        have := HG.out.pr.lt (hsub k hk)
        omega
      go_wp2_with (first
        | (at_next; go_must (refine wp_nextS rfl _ rfl c r En left cnt rfl hr ?_ ?_))
        | fail)
      · intro hl
        clear hr
        have hG := HG.out
        have kA0 : wA.cell? ⟨p, 0, none⟩ = some (.map (some bp)) := by rw [cell_of_row _ _ _ _ _ _ (hW.keep hG.me hG.np.2)]; rfl
        have kA1 : wA.cell? ⟨p, 1, none⟩ = some (.map (some bq)) := by rw [cell_of_row _ _ _ _ _ _ (hW.keep hG.me hG.np.2)]; rfl
        have hT1 : StepsAt wA bq g1 (fun y x => E x y ∧ x ≠ n) := hT.cong fun y x => ⟨fun e => ⟨e.1, fun ex => hl y (e.2 ex)⟩, fun e => ⟨e.1, fun ex => absurd ex e.2⟩⟩
        have hP1 : StepsAt wA bp f E := hG.po.keep hW fun k hk => hG.ap k hk
        obtain ⟨c2, hc2⟩ : ∃ c2, g1 n = c2 := ⟨_, rfl⟩
        generalize hE2 : (fun x => E x n ∧ x ≠ n) = E2
        have HF2 := hid (show ∀ d, c2 = some d → SetAt wA d E2 by rw [← hE2]; exact fun d e => hT1.sets n d (by rw [hc2, e]))
        have HF20 := hid (show c2 = none → ∀ x, ¬ E2 x by rw [← hE2]; exact fun e => hT1.none (by rw [hc2, e]))
        have hcn2 : ∀ d, c2 = some d → ¬ SB bp f d := fun d e k => hG.ap d k (hsub d (.inr ⟨n, by rw [hc2, e]⟩))
        have HM1 := hT1.map
        have HX := hid (And.intro hT1 (And.intro hP1 hG))
        clear hT1 hP1 hG hT k0 k1
        go_wp2_with (first
          | (at_lookup; go_must (refine wp_look rfl _ _ rfl bq g1 n c2 hc2 rfl rfl HM1 In ?_))
          | (at_range; go_must (refine wp_rangeS rfl _ rfl c2 E2 rfl HF2.out HF20.out ?_; intro wB cnt1 hrB hcB hzB))
          | go_in)
        go_frame
        clear hzB
        have hrA : w.heap.size ≤ wA.heap.size := hW.size
        generalize hrr2 : wA.heap.size = r2 at *
        go_loopw [6] (fun _ wr => ∃ (left : Int → Prop) (cnt : Nat) (f2 : Int → Option Nat) (wq : World), wq = wr ∧ RangeS wq c2 r2 E2 left cnt ∧ StepsAt wq bp f2 (Fp E n left) ∧ Chg wA wq (SB bp f) ∧ ∀ k, SB bp f2 k → SB bp f k) (fun _ wr => leftN wr c2 r2)
        case atStart =>
          refine ⟨E2, cnt1, f, _, rfl, hrB, (HX.out.2.1.keep hcB (fun _ _ e => e)).cong fun x y => ?_, hcB.mono fun _ _ e => e.elim, fun _ k => k⟩
          show E x y ↔ E x y ∧ (y = n → E2 x)
          rw [← hE2]
          refine ⟨fun e => ⟨e, fun ey => ⟨ey ▸ e, fun ex => ?_⟩⟩, fun e => e.1⟩
          subst ex ey
          exact HX.out.2.2.ring _ (.one e)
        case round =>
          obtain ⟨left2, cnt2, f2, wC, rfl, hr2, hT2, hW2, hsub2⟩ := hrel
          have hgr2 : ∀ k, SB bp f2 k → k ≠ r2 := fun k hk e => by
            have := HX.out.2.2.po.lt (hsub2 k hk)
            omega
          go_wp2_with (first
            | (at_next; go_must (refine wp_nextS rfl _ rfl c2 r2 E2 left2 cnt2 rfl hr2 ?_ ?_))
            | fail)
          · intro hl2
            clear hr2
            have hP2 : StepsAt wC bp f2 (fun x y => E x y ∧ y ≠ n) := hT2.cong fun x y => ⟨fun e => ⟨e.1, fun ey => hl2 x (e.2 ey)⟩, fun e => ⟨e.1, fun ey => absurd ey e.2⟩⟩
            have hQ2 : StepsAt wC bq g1 (fun y x => E x y ∧ x ≠ n) := HX.out.1.keep hW2 fun k hk hk' => HX.out.2.2.ap k hk' (hsub k hk)
            have hmeC := hW2.keep (hW.keep HX.out.2.2.me HX.out.2.2.np.2) HX.out.2.2.np.1
            have kC0 : wC.cell? ⟨p, 0, none⟩ = some (.map (some bp)) := by rw [cell_of_row _ _ _ _ _ _ hmeC]; rfl
            have HMp := hP2.map
            have hbpq : bp ≠ bq := fun e => HX.out.2.2.ap bp (.inl rfl) (.inl e)
            have hpb : p ≠ bp := fun e => HX.out.2.2.np.1 (.inl e)
            have hpb2 : p ≠ bq := fun e => HX.out.2.2.np.2 (.inl e)
            have HY := hid (And.intro hP2 hQ2)
            have HMq := hQ2.map
            clear hP2 hQ2 hT2
            go_wp2_with (first
              | (at_delete; go_must (first
                  | (refine wp_delM rfl _ _ rfl bp f2 n rfl rfl HMp In ?_; intro wD d1 d2 d3; have kD1 : wD.cell? ⟨p, 1, none⟩ = some (.map (some bq)) := (by rw [cell_of_row _ _ _ _ _ _ (d2.keep hmeC hpb)]; rfl); have HMq1 := HMq.keep d2 (fun e => hbpq e.symm))
                  | (refine wp_delM rfl _ _ rfl bq g1 n rfl rfl HMq1 In ?_; intro wE e1 e2 e3)))
              | go_in)
            go_ret
            obtain ⟨hP2, hQ2⟩ := HY.out
            have hG := HX.out.2.2
            have hP3 := (hP2.delKey d1 d2).keep e2 (fun k hk e => hG.ap k (hsub2 k hk.del) (.inl e))
            have hQ3 := (hQ2.keep d2 (fun k hk e => hG.ap k (.inl e) (hsub k hk))).delKey e1 e2
            refine ⟨_, delE E n, rfl, .inr ⟨sn, rfl, rfl⟩, ⟨bp, bq, _, _, ⟨e2.keep (d2.keep hmeC hpb) hpb2, hP3.cong fun x y => ?_, hQ3.cong fun y x => ?_, fun k hk hk' => hG.ap k (hsub2 k hk.del) (hsub k hk'.del), inSec_del n hG.sec, noRing_del n hG.ring⟩, hp, fun k hk => ?_⟩, ?_⟩
            · unfold delE
              exact ⟨fun e => ⟨e.1.1, e.2, e.1.2⟩, fun e => ⟨⟨e.1, e.2.2⟩, e.2.1⟩⟩
            · show _ ↔ delE E n x y
              unfold delE
              exact ⟨fun e => ⟨e.1.1, e.1.2, e.2⟩, fun e => ⟨⟨e.1, e.2.1⟩, e.2.2⟩⟩
            · rcases hk with hk | hk
              · exact ho k (.inl (hsub2 k hk.del))
              · exact ho k (.inr (hsub k hk.del))
            · refine (hW.trans hW2 (c := own) (fun j _ e => ho j (.inr e)) (fun j _ e => ho j (.inl e))).trans (d2.trans e2 (c := own) (fun j _ e => ho j (.inl (.inl e))) (fun j _ e => ho j (.inr (.inl e)))) (fun _ _ e => e) (fun _ _ e => e)
          · intro x w3 cnt3 hl2 hx hIx hr3 hlt hc3 hz3 hen
            clear hz3
            have hW3 : Chg wA w3 (SB bp f) := hW2.trans hc3 (fun _ _ e => e) (fun j hj e => by omega)
            have hT3 := hT2.keep hc3 hgr2
            have hmeC := hW3.keep (hW.keep HX.out.2.2.me HX.out.2.2.np.2) HX.out.2.2.np.1
            have kC0 : w3.cell? ⟨p, 0, none⟩ = some (.map (some bp)) := by rw [cell_of_row _ _ _ _ _ _ hmeC]; rfl
            have hEx : E x n := by rw [← hE2] at hx; exact hx.1
            have HC := remove_any x n hT3 (fun a b e => HX.out.2.2.sec a b e.1) ⟨hEx, fun _ => hl2⟩
            have HR := hid (And.intro hr3 (And.intro hlt (And.intro hr2 hT3)))
            clear hr3 hlt hr2 hT3 hT2
            go_wp2_with (go_at_call 115; go_must (refine HC.mono ?_; rintro e w4 ⟨rfl, f3, hf3, hc4, hs4⟩))
            obtain ⟨hr3, hlt, hr2, hT3⟩ := HR.out
            have hr4 := hr3.keep hc4 (fun d e k => hcn2 d e (hsub2 d k)) (fun k => hgr2 r2 k rfl)
            go_roundw
            case rel =>
              refine ⟨_, cnt3, f3, _, rfl, hr4, hf3.cong fun a b => ?_, hW3.trans hc4 (fun _ _ e => e) (fun j _ e => hsub2 j e), fun k hk => hsub2 k (hs4 k hk)⟩
              unfold cutE Fp
              constructor
              · rintro ⟨⟨e1, e2⟩, e3⟩
                exact ⟨e1, fun eb => ⟨e2 eb, fun ea => e3 ⟨ea, eb⟩⟩⟩
              · rintro ⟨e1, e2⟩
                exact ⟨⟨e1, fun eb => (e2 eb).1⟩, fun e => (e2 e.2).2 e.1⟩
            case measure => rw [hr4.leftN, hr2.leftN]; exact hlt
      · intro x w3 cnt3 hl hx hIx hr3 hlt hc3 hz3 hen
        clear hz3
        have hG := HG.out
        have hW3 : Chg w w3 (SB bq g) := hW.trans hc3 (fun _ _ e => e) (fun j hj e => by omega)
        have hT3 := hT.keep hc3 hgr
        have kC1 : w3.cell? ⟨p, 1, none⟩ = some (.map (some bq)) := by rw [cell_of_row _ _ _ _ _ _ (hW3.keep hG.me hG.np.2)]; rfl
        have hEx : E n x := by rw [hEn]; exact hx
        have HC := remove_any x n hT3 (fun a b e => (hG.sec b a e.1).symm) ⟨hEx, fun _ => hl⟩
        have HR := hid (And.intro hr3 (And.intro hlt (And.intro hr hT3)))
        clear hr3 hlt hr hT3 hT hG
        go_wp2_with (go_at_call 115; go_must (refine HC.mono ?_; rintro e w4 ⟨rfl, g3, hg3, hc4, hs4⟩))
        obtain ⟨hr3, hlt, hr, hT3⟩ := HR.out
        have hr4 := hr3.keep hc4 (fun d e k => hcn d e (hsub d k)) (fun k => hgr r k rfl)
        go_roundw
        case rel =>
          refine ⟨_, cnt3, g3, _, rfl, hr4, hg3.cong fun a b => ?_, hW3.trans hc4 (fun _ _ e => e) (fun j _ e => hsub j e), fun k hk => hsub k (hs4 k hk)⟩
          unfold cutE Fb
          constructor
          · rintro ⟨⟨e1, e2⟩, e3⟩
            exact ⟨e1, fun eb => ⟨e2 eb, fun ea => e3 ⟨ea, eb⟩⟩⟩
          · rintro ⟨e1, e2⟩
            exact ⟨⟨e1, fun eb => (e2 eb).1⟩, fun e => (e2 e.2).2 e.1⟩
        case measure => rw [hr4.leftN, hr.leftN]; exact hlt

end Go.Proofs.YtamoepninddbcaaGreat
