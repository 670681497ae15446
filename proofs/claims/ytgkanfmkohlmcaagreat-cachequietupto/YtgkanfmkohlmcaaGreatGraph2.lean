/-
  All that steps lead to; Free, Reaches, New.
-/
import Derived.Test.YtgkanfmkohlmcaaGreatGraph1
import Derived.Laws.EntriesVeiled
namespace Go.Proofs.YtgkanfmkohlmcaaGreat
open Go.RowKit

variable {w : World} {b : Nat} {f : Int → Option Nat} {E : Int → Int → Prop}

theorem from_env (h : StepsAt w b f E) : WEnv ((((w.alloc (.cells #[.map (some b)] 103)).alloc (.map #[] 0)).alloc (.cells #[.map (some (w.heap.size + 1))] 101)).alloc
      (.cells #[.func (.func 93) #[] #[.pointer (some ⟨w.heap.size + 1 + 1, 0, none⟩), .pointer (some ⟨w.heap.size, 0, none⟩), .pointer (some ⟨w.heap.size + 1 + 1 + 1, 0, none⟩)]] 88))
    (w.heap.size + 1 + 1) w.heap.size (w.heap.size + 1 + 1 + 1) (w.heap.size + 1) b f E := by
  refine ⟨?_, ?_, ?_, ?_, fun k => ?_, by omega, by omega, by omega⟩
  · rw [heap_alloc_if, if_neg (by simp), heap_alloc_if, if_pos (by simp)]
  · rw [heap_alloc_if, if_neg (by simp; omega), heap_alloc_if, if_neg (by simp; omega), heap_alloc_if, if_neg (by simp), heap_alloc_if, if_pos rfl]
  · rw [heap_alloc_if, if_pos (by simp)]
  · refine (((h.keep (Chg.alloc _ _ No) (fun _ _ e => e)).keep (Chg.alloc _ _ No) (fun _ _ e => e)).keep (Chg.alloc _ _ No) (fun _ _ e => e)).keep (Chg.alloc _ _ No) (fun _ _ e => e)
  · have := h.lt k
    omega
theorem from_set : SetAt ((((w.alloc (.cells #[.map (some b)] 103)).alloc (.map #[] 0)).alloc (.cells #[.map (some (w.heap.size + 1))] 101)).alloc
      (.cells #[.func (.func 93) #[] #[.pointer (some ⟨w.heap.size + 1 + 1, 0, none⟩), .pointer (some ⟨w.heap.size, 0, none⟩), .pointer (some ⟨w.heap.size + 1 + 1 + 1, 0, none⟩)]] 88)) (w.heap.size + 1) (fun _ => False) := by
  have := SetAt.made (w.alloc (.cells #[.map (some b)] 103))
  rw [World.size_alloc] at this
  exact (this.keep (Chg.alloc _ _ No) (fun e => e)).keep (Chg.alloc _ _ No) (fun e => e)

set_option maxRecDepth 100000 in
set_option maxHeartbeats 1000000 in
theorem from_any (n : Int) (h : StepsAt w b f E) (hs : InSec E) (hI : I64 n) : Calls Tryz.prog 77 #[.map (some b), .int .i64 n] w fun e w' =>
    ∃ bs, e = .returned (.map (some bs)) ∧ w.heap.size ≤ bs ∧ SetAt w' bs (Reach E n) ∧ Chg w w' No := by
  have hmm := @run_makeMap Tryz.prog
  have hmf : ∀ (fn : Fn) (first cap : Array Value) (w : World), (Instr.makeFunc fn first cap).run Tryz.prog w = .ok (.func fn first cap) w := fun _ _ _ _ => rfl
  have HE := from_env h
  have HC := walk_new hs n 4096 n (fun _ => False) _ HE (from_set (w := w) (b := b)) (fun e => e) hI (.inl rfl) (fun _ e => e.elim) (few_sec.mono fun _ e => e.1)
  unfold wargs at HC
  have HE1 := hid HE
  clear h HE
  go_enter Tryz.func77, Tryz.ntmps77
  go_wp2_with (go_at_call 93; go_must (refine HC.mono ?_; rintro e w1 ⟨rfl, T, hT, hc, hSn⟩; have k5 := cell0 (hc.keep HE1.out.c1 (by omega))))
  go_ret
  have hc0 : Chg w w1 No := by
    refine ((((Chg.alloc w _ No).trans (Chg.alloc _ _ No) (fun _ _ e => e) (fun _ _ e => e)).trans (Chg.alloc _ _ No) (fun _ _ e => e) (fun _ _ e => e)).trans (Chg.alloc _ _ No) (fun _ _ e => e) (fun _ _ e => e)).trans hc (fun _ _ e => e) (fun j hj e => ?_)
    omega
  refine ⟨w.heap.size + 1, rfl, by omega, hT.cong fun x => ⟨fun hx => (hSn.new x hx).elim (fun e => e.elim) (fun e => e), fun hx => ?_⟩, hc0⟩
  exact hx.closed hSn.me fun x y hx hxy => hSn.shut x hx (fun e => e) y hxy

/-- A graph lies at p. -/
structure IsG0 (w : World) (p bp bq : Nat) (f g : Int → Option Nat) (E : Int → Int → Prop) : Prop where
  me : w.heap[p]? = some (.cells #[.map (some bp), .map (some bq)] 105 (0, 0))
  po : StepsAt w bp f E
  pr : StepsAt w bq g (rev E)
  ap : ∀ k, SB bp f k → ¬ SB bq g k
  sec : InSec E
  ring : NoRing E
/-- A graph lies at p, in blocks of its own. -/
def IsG (w : World) (p : Nat) (own : Nat → Prop) (E : Int → Int → Prop) : Prop := ∃ bp bq f g, IsG0 w p bp bq f g E ∧ own p ∧ ∀ k, SB bp f k ∨ SB bq g k → own k

theorem steps_isMap (h : StepsAt w b f E) {k : Nat} (hk : SB b f k) : ∃ es clock, w.heap[k]? = some (Obj.map es clock) := by
  rcases hk with rfl | ⟨x, hx⟩
  · obtain ⟨D, ⟨es, clock, h, _⟩, _⟩ := h.map
    exact ⟨es, clock, h⟩
  · obtain ⟨D, ⟨es, clock, h, _⟩, _⟩ := h.sets x k hx
    exact ⟨es, clock, h⟩
variable {p bp bq : Nat} {g : Int → Option Nat} {own : Nat → Prop}
theorem IsG0.np (h : IsG0 w p bp bq f g E) : ¬ SB bp f p ∧ ¬ SB bq g p := by
  constructor
  · intro k
    obtain ⟨es, clock, e⟩ := steps_isMap h.po k
    rw [h.me] at e
    cases e
  · intro k
    obtain ⟨es, clock, e⟩ := steps_isMap h.pr k
    rw [h.me] at e
    cases e
theorem IsG0.c0 (h : IsG0 w p bp bq f g E) : w.cell? ⟨p, 0, none⟩ = some (.map (some bp)) := by rw [cell_of_row _ _ _ _ _ _ h.me]; rfl
theorem IsG0.c1 (h : IsG0 w p bp bq f g E) : w.cell? ⟨p, 1, none⟩ = some (.map (some bq)) := by rw [cell_of_row _ _ _ _ _ _ h.me]; rfl
theorem IsG.keep {w' : World} {ks : Nat → Prop} (h : IsG w p own E) (hc : Chg w w' ks) (hn : ∀ k, own k → ¬ ks k) : IsG w' p own E := by
  obtain ⟨bp, bq, f, g, h, hp, ho⟩ := h
  exact ⟨bp, bq, f, g, ⟨hc.keep h.me (hn p hp), h.po.keep hc (fun k hk => hn k (ho k (.inl hk))), h.pr.keep hc (fun k hk => hn k (ho k (.inr hk))), h.ap, h.sec, h.ring⟩, hp, ho⟩
theorem IsG.call {w' : World} (h : IsG w p own E) (hc : Chg w w' No) : IsG w' p own E := h.keep hc fun _ _ e => e
theorem IsG.cong {F : Int → Int → Prop} (h : IsG w p own E) (hE : ∀ x y, E x y ↔ F x y) : IsG w p own F := by
  have : E = F := by funext x y; exact propext (hE x y)
  exact this ▸ h
theorem IsG.sec (h : IsG w p own E) : InSec E := let ⟨_, _, _, _, h, _⟩ := h; h.sec
theorem IsG.ring (h : IsG w p own E) : NoRing E := let ⟨_, _, _, _, h, _⟩ := h; h.ring

set_option maxRecDepth 100000 in
set_option maxHeartbeats 1000000 in
theorem new_any (w : World) : Calls Tryz.prog 57 #[] w fun e w' => ∃ p own, e = .returned (.pointer (some ⟨p, 0, none⟩)) ∧ IsG w' p own (fun _ _ => False) ∧ (∀ k, own k → w.heap.size ≤ k ∧ k < w'.heap.size) ∧ Chg w w' No := by
  have hmm := @run_makeMap Tryz.prog
  go_enter Tryz.func57, Tryz.ntmps57
  go_wp2
  go_ret
  have a1 := (MapAt.made w).keep (Chg.alloc _ (.map #[] 0) No) (fun e => e)
  have a2 := a1.keep (Chg.alloc _ (.cells #[.map (some w.heap.size), .map (some (w.heap.size + 1))] 105) No) (fun e => e)
  have b1 := MapAt.made (w.alloc (.map #[] 0))
  rw [World.size_alloc] at b1
  have b2 := b1.keep (Chg.alloc _ (.cells #[.map (some w.heap.size), .map (some (w.heap.size + 1))] 105) No) (fun e => e)
  refine ⟨w.heap.size + 1 + 1, fun k => w.heap.size ≤ k ∧ k < w.heap.size + 3, rfl, ⟨w.heap.size, w.heap.size + 1, fun _ => none, fun _ => none, ⟨?_, ⟨a2, fun x => by simp, fun x c hx => (by cases hx), fun x y c hx => (by cases hx), fun x c hx => (by cases hx)⟩, ⟨b2, fun x => by simp [rev], fun x c hx => (by cases hx), fun x y c hx => (by cases hx), fun x c hx => (by cases hx)⟩, ?_, fun _ _ h => h.elim, fun a h => (by obtain ⟨_, h⟩ := h.first; exact h)⟩, ⟨by omega, by omega⟩, ?_⟩, ?_, ?_⟩
  · rw [heap_alloc_if, if_pos (by simp)]
  · rintro k (rfl | ⟨x, hx⟩) (h | ⟨x, hx⟩)
    · omega
    · cases hx
    · cases hx
    · cases hx
  · rintro k ((rfl | ⟨x, hx⟩) | (rfl | ⟨x, hx⟩))
    · omega
    · cases hx
    · omega
    · cases hx
  · intro k hk
    simp
    omega
  · exact ((Chg.alloc w _ No).trans (Chg.alloc _ _ No) (fun _ _ e => e) (fun _ _ e => e)).trans (Chg.alloc _ _ No) (fun _ _ e => e) (fun _ _ e => e)

set_option maxRecDepth 100000 in
set_option maxHeartbeats 1000000 in
theorem free_any (n : Int) (h : IsG w p own E) (hI : I64 n) : Calls Tryz.prog 37 #[.pointer (some ⟨p, 0, none⟩), .int .i64 n] w fun e w' => ∃ r, e = .returned (.bool r) ∧ (r = true ↔ ∀ a, ¬ E a n) ∧ w = w' := by
  obtain ⟨bp, bq, f, g, h, _⟩ := h
  have k1 := h.c1
  have HM := h.pr.map
  obtain ⟨c, hc⟩ : ∃ c, g n = c := ⟨_, rfl⟩
  have HF := hid (show ∀ d, c = some d → SetAt w d (rev E n) from fun d e => h.pr.sets n d (by rw [hc, e]))
  have HF0 := hid (show c = none → ∀ x, ¬ rev E n x from fun e => h.pr.none (by rw [hc, e]))
  clear h
  go_enter Tryz.func37, Tryz.ntmps37
  go_wp2_with (first
    | (at_lookup; go_must (refine wp_look rfl _ _ rfl bq g n c hc rfl rfl HM hI ?_))
    | (at_len; go_must (refine wp_len rfl _ rfl c (rev E n) rfl HF.out HF0.out ?_; intro s hs))
    | go_in)
  go_ret
  exact ⟨_, rfl, by simpa [rev] using hs, rfl⟩

set_option maxRecDepth 100000 in
set_option maxHeartbeats 1000000 in
theorem reaches_any (a c : Int) (h : IsG w p own E) (hA : I64 a) (hC : I64 c) : Calls Tryz.prog 65 #[.pointer (some ⟨p, 0, none⟩), .int .i64 a, .int .i64 c] w fun e w' => ∃ r, e = .returned (.bool r) ∧ (r = true ↔ Reach E a c) ∧ Chg w w' No := by
  have HF := free_any c h hC
  obtain ⟨bp, bq, f, g, h, _⟩ := h
  have k0 := h.c0
  have HC := from_any a h.po h.sec hA
  clear h
  go_enter Tryz.func65, Tryz.ntmps65
  go_wp2_with (first
    | (go_at_call 37; go_must (refine HF.mono ?_; rintro e w1 ⟨r, rfl, hr, rfl⟩))
    | (go_at_call 77; go_must (refine HC.mono ?_; rintro e w1 ⟨bs, rfl, hbs, hS, hc⟩))
    | (at_lookup; go_must (refine wp_ok rfl _ _ rfl bs (Reach E a) c rfl rfl hS hC ?_; intro r2 hr2))
    | go_in)
  · go_ret
    refine ⟨_, rfl, ?_, Chg.refl _ _⟩
    have hfree := hr.1 (by assumption)
    simp
    constructor
    · exact fun e => .inl e
    · rintro (e | e)
      · exact e
      · obtain ⟨d, hd⟩ := e.last
        exact absurd hd (hfree d)
  · go_ret
    exact ⟨_, rfl, hr2, hc.trans (Chg.alloc _ _ No) (fun _ _ e => e) (fun _ _ e => e)⟩

def isSec (n : Int) : Bool := decide (0 ≤ n) && decide (n < 4096)
theorem isSec_iff (n : Int) : isSec n = true ↔ Sec n := by simp [isSec, Sec]
theorem isSector_any (n : Int) (w : World) : Calls Tryz.prog 67 #[.int .i64 n] w fun e w' => e = .returned (.bool (isSec n)) ∧ w = w' := by
  by_cases h0 : 0 ≤ n
  · by_cases h1 : n < 4096
    · have HE : Hid (isSec n = true) := by show _ = _; simp [isSec, h0, h1]
      go_enter Tryz.func67, Tryz.ntmps67
      go_wp2
      go_ret
      exact ⟨ret_bool HE.out.symm, rfl⟩
    · have HE : Hid (isSec n = false) := by show _ = _; simp [isSec, h1]
      go_enter Tryz.func67, Tryz.ntmps67
      go_wp2
      go_ret
      exact ⟨ret_bool HE.out.symm, rfl⟩
  · have HE : Hid (isSec n = false) := by show _ = _; simp [isSec, h0]
    go_enter Tryz.func67, Tryz.ntmps67
    go_wp2
    go_ret
    exact ⟨ret_bool HE.out.symm, rfl⟩

/-- What Add answers, and what edges there are behind it. -/
def Added (E : Int → Int → Prop) (p q : Int) (c : Int) (E' : Int → Int → Prop) : Prop :=
  (¬ (Sec p ∧ Sec q) ∧ c = 1 ∧ E' = E) ∨ (Sec p ∧ Sec q ∧ Reach E q p ∧ c = 30 ∧ E' = E) ∨ (Sec p ∧ Sec q ∧ ¬ Reach E q p ∧ c = 0 ∧ E' = addE E p q)

set_option maxRecDepth 100000 in
set_option maxHeartbeats 1000000 in
theorem addG_any (q r : Int) (h : IsG w p own E) (hQ : I64 q) (hR : I64 r) : Calls Tryz.prog 44 #[.pointer (some ⟨p, 0, none⟩), .int .i64 q, .int .i64 r] w fun e w' =>
    ∃ c E' own', e = .returned (.int .i64 c) ∧ Added E q r c E' ∧ IsG w' p own' E' ∧ (∀ k, own' k → own k ∨ (w.heap.size ≤ k ∧ k < w'.heap.size)) ∧ Chg w w' own := by
  have HS := fun w => isSector_any q w
  have HT := fun w => isSector_any r w
  have HC := reaches_any r q h hR hQ
  have HH := hid h
  cases hq : isSec q with
  | false =>
    have hn : ¬ (Sec q ∧ Sec r) := fun e => by rw [(isSec_iff q).2 e.1] at hq; cases hq
    rw [hq] at HS
    clear h HT HC
    go_enter Tryz.func44, Tryz.ntmps44
    go_wp2_with (first
      | (go_at_call 67; go_must (refine (HS _).mono ?_; rintro e w1 ⟨rfl, rfl⟩))
      | go_in)
    go_ret
    exact ⟨_, E, own, rfl, .inl ⟨hn, rfl, rfl⟩, HH.out, fun _ k => .inl k, Chg.refl _ _⟩
  | true =>
    rw [hq] at HS
    cases hr : isSec r with
    | false =>
      have hn : ¬ (Sec q ∧ Sec r) := fun e => by rw [(isSec_iff r).2 e.2] at hr; cases hr
      rw [hr] at HT
      clear h HC
      go_enter Tryz.func44, Tryz.ntmps44
      go_wp2_with (first
        | (go_at_call 67; go_must (first | (refine (HS _).mono ?_; rintro e w1 ⟨rfl, rfl⟩) | (refine (HT _).mono ?_; rintro e w1 ⟨rfl, rfl⟩)))
        | go_in)
      go_ret
      exact ⟨_, E, own, rfl, .inl ⟨hn, rfl, rfl⟩, HH.out, fun _ k => .inl k, Chg.refl _ _⟩
    | true =>
      rw [hr] at HT
      have sq := (isSec_iff q).1 hq
      have sr := (isSec_iff r).1 hr
      clear h
      go_enter Tryz.func44, Tryz.ntmps44
      go_wp2_with (first
        | (go_at_call 67; go_must (first | (refine (HS _).mono ?_; rintro e w1 ⟨rfl, rfl⟩) | (refine (HT _).mono ?_; rintro e w1 ⟨rfl, rfl⟩)))
        | (go_at_call 65; go_must (refine HC.mono ?_; rintro e w1 ⟨r1, rfl, hr1, hc1⟩; obtain ⟨bp, bq, f, g, h1, hp1, ho1⟩ := HH.out.call hc1; have k0 := h1.c0; have hnp := h1.np; have HA := add_any q r h1.po h1.sec sq sr; have HH1 := hid (And.intro h1 ho1); clear h1 ho1))
        | (go_at_call 68; go_must (first
            | (refine HA.mono ?_; rintro e w2 ⟨rfl, f', hf', hcA, hoA⟩; have k1 : w2.cell? ⟨p, 1, none⟩ = some (.map (some bq)) := (by rw [cell_of_row _ _ _ _ _ _ (hcA.keep HH1.out.1.me hnp.1)]; rfl); have hp2 := HH1.out.1.pr.keep hcA (fun k hk hk' => HH1.out.1.ap k hk' hk); have HB := add_any r q hp2 (fun a b e => (HH1.out.1.sec b a e).symm) sr sq; clear HA)
            | (refine HB.mono ?_; rintro e w3 ⟨rfl, g', hg', hcB, hoB⟩)))
        | go_in)
      · go_ret
        have hre := hr1.1 (by assumption)
        exact ⟨_, E, own, rfl, .inr (.inl ⟨sq, sr, hre, rfl, rfl⟩), HH.out.call hc1, fun _ k => .inl k, hc1.mono fun _ _ e => e.elim⟩
      · go_ret
        obtain ⟨h1, ho1⟩ := HH1.out
        have hre : ¬ Reach E r q := fun e => by
          have := hr1.2 e
          simp_all
        have hap2 : ∀ k, SB bp f' k → ¬ SB bq g k := fun k hk hk2 => by
          rcases hoA k hk with e | e
          · exact h1.ap k e hk2
          · have := h1.pr.lt hk2
            omega
        have hap3 : ∀ k, SB bp f' k → ¬ SB bq g' k := fun k hk hk2 => by
          rcases hoB k hk2 with e | e
          · exact hap2 k hk e
          · have := hf'.lt hk
            omega
        have hs12 := hcA.size
        have hs23 := hcB.size
        have hs01 := hc1.size
        refine ⟨_, addE E q r, fun k => own k ∨ (w.heap.size ≤ k ∧ k < w3.heap.size), rfl, .inr (.inr ⟨sq, sr, hre, rfl, rfl⟩), ⟨bp, bq, f', g', ⟨hcB.keep (hcA.keep h1.me hnp.1) hnp.2, hf'.keep hcB (fun k hk => hap2 k hk), hg'.cong fun x y => ?_, hap3, inSec_add h1.sec sq sr, noRing_add h1.ring hre⟩, .inl hp1, fun k hk => ?_⟩, fun _ k => k, ?_⟩
        · show addE (rev E) r q x y ↔ addE E q r y x
          unfold addE rev
          constructor
          · rintro (⟨rfl, rfl⟩ | e)
            · exact .inl ⟨rfl, rfl⟩
            · exact .inr e
          · rintro (⟨rfl, rfl⟩ | e)
            · exact .inl ⟨rfl, rfl⟩
            · exact .inr e
        · rcases hk with hk | hk
          · rcases hoA k hk with e | e
            · exact .inl (ho1 k (.inl e))
            · have := hf'.lt hk
              exact .inr ⟨by omega, by omega⟩
          · rcases hoB k hk with e | e
            · exact .inl (ho1 k (.inr e))
            · have := hg'.lt hk
              exact .inr ⟨by omega, by omega⟩
        · exact hc1.trans (hcA.trans hcB (c := own) (fun j _ e => ho1 j (.inl e)) (fun j _ e => ho1 j (.inr e))) (fun _ _ e => e.elim) (fun _ _ e => e)

end Go.Proofs.YtgkanfmkohlmcaaGreat
