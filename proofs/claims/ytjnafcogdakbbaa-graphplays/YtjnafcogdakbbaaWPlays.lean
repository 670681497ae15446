/-
  GraphPlays, walked: any script on two graphs in turns.
-/
import Derived.Test.YtjnafcogdakbbaaLawF
import Derived.Test.YtjnafcogdakbbaaLawK
import Derived.Test.YtjnafcogdakbbaaLawM
import Derived.Deep.CutRange
import Derived.Deep.DeepCutAuto
namespace Go.Proofs.Ytjnafcogdakbbaa
open Go.RowKit

theorem chg_drewP (w : World) : Chg w w.drew No := (Chg.refl w No).drew
def two (x y : Nat) (i : Nat) : Nat := if i = 0 then x else y
def twoO (x y : Nat → Prop) (i : Nat) : Nat → Prop := if i = 0 then x else y
theorem lt2 {i : Nat} (h : i < 2) : i = 0 ∨ i = 1 := by omega
theorem load_step {w : World} {g k : Nat} {s : StV} (h : w.rangeAt g k s.cells) : (loadVar 32 ⟨g, k, none⟩).run Try.prog w = .ok (.agg #[.int .i64 s.wh, .int .i64 s.what, .int .i64 s.a, .int .i64 s.b]) w :=
  run_loadVar_mid w g k 32 s.cells _ h Try.underlying32 rfl (by rw [szS]; rfl)
section
variable {ops : Array Oper} {Q : Exit → Act → World → Prop} {S : World → Prop} {fuel : Nat} {listed : Array Bool} {a : Act} {w : World}
theorem takeS (i d : Nat) (x : Operand) (g k : Nat) (s : StV) {o : Oper} (hop : ops[i]? = some o) (hs : Region.noSelect ops = true) (hf : Region.free .any ops listed i = true) (hr : (Region.ready .any ops listed).contains i = true)
    (hd : o.dst = some d) (ho : o.op = .load 32 x) (hx : a.eval x = .pointer (some ⟨g, k, none⟩)) (hw : Region.wanted o (yielded ops a.tmps) = true) (hQ : ∀ c a w, ¬ Q (.panic c) a w) (hS : S w)
    (hg : ∀ w, S w → w.rangeAt g k s.cells)
    (h : wpAnyH Try.prog .any ops Q S fuel (listed.setIfInBounds i true) { a with tmps := a.tmps.setIfInBounds d (.agg #[.int .i64 s.wh, .int .i64 s.what, .int .i64 s.a, .int .i64 s.b]) } w) : wpAnyH Try.prog .any ops Q S (fuel + 1) listed a w := by
  refine takeVal i d _ hop hs hf hr hd hw hQ hS (fun w hw' => ?_) h
  unfold execOp
  simp only [ho, hx, Instr.loadAt, Instr.sureAddr, Sem.run_bind, Sem.run_pure, Result.andThen_ok, load_step (hg w hw')]
end
theorem range_keep {w w' : World} {g k : Nat} {l : List Value} {ks : Nat → Prop} (h : w.rangeAt g k l) (hg : g < w.heap.size) (hc : Chg w w' ks) (hn : ¬ ks g) : w'.rangeAt g k l := fun i v hv => cell_keep (h i v hv) hc hg hn

theorem Four.keep' {w w' : World} {B bg br : Nat} {p r : Nat → Nat} {o q : Nat → Nat → Prop} {E F : Nat → Int → Int → Prop} {ks : Nat → Prop} (h : Four w B bg br p r o q E F) (hc : Chg w w' ks) (h1 : ∀ i k, i < 2 → o i k → ¬ ks k) (h2 : ∀ i k, i < 2 → q i k → ¬ ks k) (h3 : ¬ ks bg) (h4 : ¬ ks br) : Four w' B bg br p r o q E F :=
  ⟨fun i hi => (h.g i hi).keep hc (fun k hk => h1 i k hi hk), fun i hi => (h.h i hi).keep hc (fun k hk => h2 i k hi hk),
    fun i k hi hk => ⟨(h.mg i k hi hk).1, Nat.lt_of_lt_of_le (h.mg i k hi hk).2.1 hc.size, (h.mg i k hi hk).2.2⟩, fun i k hi hk => ⟨(h.mr i k hi hk).1, Nat.lt_of_lt_of_le (h.mr i k hi hk).2.1 hc.size, (h.mr i k hi hk).2.2⟩,
    h.dgr, h.dgg, h.drr, ⟨Nat.lt_of_lt_of_le h.lg.1 hc.size, h.lg.2⟩, ⟨Nat.lt_of_lt_of_le h.lr.1 hc.size, h.lr.2⟩,
    fun i hi => cell_keep (h.cg i hi) hc h.lg.1 h3, fun i hi => cell_keep (h.cr i hi) hc h.lr.1 h4⟩
theorem upd_in {o : Nat → Nat → Prop} {i j k : Nat} {own' : Nat → Prop} {X : Nat → Prop} (hs : ∀ k, own' k → o i k ∨ X k) (h : upd o i own' j k) : o j k ∨ X k := by
  by_cases e : j = i
  · subst e; rw [upd_same] at h; exact hs k h
  · rw [upd_other _ _ e] at h; exact .inl h

/-- How long an answer's lists are. -/
theorem says_len {D E' : Int → Int → Prop} {s : StV} {t : Ans} (h : Says D s t E') (hs : InSec D) : t.L.length ≤ 4097 ∧ t.M.length ≤ 16777216 := by
  rcases h with ⟨_, _, _, h3, h4⟩ | ⟨_, _, _, h3, h4, _⟩ | ⟨_, h1, _, _, h4, _⟩ | ⟨_, _, _, h3, h4, _⟩ | ⟨_, _, _, h3, h4⟩ | ⟨_, h1, _, _, h4, _⟩
  · rw [h3, h4]; simp
  · rw [h3, h4]; simp
  · rw [h4]
    refine ⟨?_, by simp⟩
    obtain ⟨L, hL, hm⟩ := few_sec.one s.a
    refine Nat.le_trans (nodup_len t.L L (h1.1.imp fun {a b} h e => by omega) fun x hx => hm x ?_) hL
    rcases ((h1.2 x).1 hx).2 with e | e
    · exact .inl e
    · exact .inr (e.sec hs).1
  · rw [h3, h4]; simp
  · rw [h3, h4]; simp
  · rw [h4]
    exact ⟨by simp, elist_len h1 hs⟩
theorem told_range {w : World} {g : Nat} {c : Int} {b : Bool} {vl ve : Value} (h : w.heap[g]? = some (.cells (toldA c b vl ve) 37 (0, 0))) : w.rangeAt g 0 [.int .i64 c, .bool b, vl, ve] := fun i v hv => by
  rw [Nat.zero_add, cell_of_row _ _ _ _ _ _ h, ← Array.getElem?_toList]
  exact hv

/-- What a step, done, leaves: an answer in a block of its own, and the four. -/
structure PG (w wA : World) (bg br : Nat) (p r : Nat → Nat) (o q : Nat → Nat → Prop) (E F : Nat → Int → Int → Prop) (D E' : Int → Int → Prop) (s : StV) (b kk g8 : Nat) (t : Ans) (vl ve : Value) (wc : World) : Prop where
  says : Says D s t E'
  told : wc.heap[g8]? = some (.cells (toldA t.c t.r vl ve) 37 (0, 0))
  ge : wA.heap.size ≤ g8
  L : Ints wc wA.heap.size vl t.L
  M : Edgs wc wA.heap.size ve t.M
  four : Four wc w.heap.size bg br p r o q E F
  chg : Chg w wc No
  range : wc.rangeAt b kk s.cells

set_option maxRecDepth 100000 in
set_option maxHeartbeats 4000000 in
theorem plays_walk (ws : List StV) (ad : Option Addr) (cap : Nat) (w : World) (hl : ws.length ≤ 140737488355328) (hz : ScriptAt w ad ws) (hok : ∀ s, s ∈ ws → s.OK) :
    Calls Try.prog 3 #[.slice ad ws.length cap] w fun e w' => e = .returned (.bool true) ∧ Below w.heap.size w w' := by
  have HK := known_any w
  have HZ := hid hz
  generalize hn : ws.length = n at *
  clear hz
  go_enter Try.func3, Try.ntmps3
  go_wp2_with (first
    | (go_at_call 9; go_must (refine HK.mono ?_; rintro e w1 ⟨rfl, c1⟩; have HN1 := new_any w1; clear HK))
    | (go_at_call 10; go_must (first
        | (refine HN1.mono ?_; rintro e w2 ⟨p0, o0, rfl, g0, m0, c2⟩; have HN2 := new_any w2; clear HN1)
        | (refine HN2.mono ?_; rintro e w3 ⟨p1, o1, rfl, g1, m1, c3⟩; have HR1 := rnew_any (w3.alloc (.cells #[.pointer (some ⟨p0, 0, none⟩), .pointer (some ⟨p1, 0, none⟩)] 24)); clear HN2)))
    | (go_at_call 11; go_must (first
        | (refine HR1.mono ?_; rintro e w5 ⟨r0, q0, rfl, h0, s0, c5⟩; have HR2 := rnew_any w5; clear HR1)
        | (refine HR2.mono ?_; rintro e w6 ⟨r1, q1, rfl, h1, s1, c6⟩; clear HR2; have k0 : w6.cell? ⟨w3.heap.size, 0, none⟩ = some (.pointer (some ⟨p0, 0, none⟩)) := cell_keep (by rw [cell_of_row _ _ _ _ _ _ (heap_alloc_new _ _)]; rfl) (c5.tr c6) (by simp) (fun e => e); have k1 : w6.cell? ⟨w3.heap.size, 1, none⟩ = some (.pointer (some ⟨p1, 0, none⟩)) := cell_keep (by rw [cell_of_row _ _ _ _ _ _ (heap_alloc_new _ _)]; rfl) (c5.tr c6) (by simp) (fun e => e); have z5 := c5.size; have z6 := c6.size; have z4 : (w3.alloc (.cells #[.pointer (some ⟨p0, 0, none⟩), .pointer (some ⟨p1, 0, none⟩)] 24)).heap.size = w3.heap.size + 1 := (by simp); have z36 : w3.heap.size < w6.heap.size := by omega)))
    | go_in)
  have a6 := Chg.alloc w6 (.cells #[.pointer (some ⟨r0, 0, none⟩), .pointer (some ⟨r1, 0, none⟩)] 27) No
  have a3 := Chg.alloc w3 (.cells #[.pointer (some ⟨p0, 0, none⟩), .pointer (some ⟨p1, 0, none⟩)] 24) No
  have k2 : (w6.alloc (.cells #[.pointer (some ⟨r0, 0, none⟩), .pointer (some ⟨r1, 0, none⟩)] 27)).cell? ⟨w6.heap.size, 0, none⟩ = some (.pointer (some ⟨r0, 0, none⟩)) := by rw [cell_of_row _ _ _ _ _ _ (heap_alloc_new _ _)]; rfl
  have k3 : (w6.alloc (.cells #[.pointer (some ⟨r0, 0, none⟩), .pointer (some ⟨r1, 0, none⟩)] 27)).cell? ⟨w6.heap.size, 1, none⟩ = some (.pointer (some ⟨r1, 0, none⟩)) := by rw [cell_of_row _ _ _ _ _ _ (heap_alloc_new _ _)]; rfl
  have z7 : (w6.alloc (.cells #[.pointer (some ⟨r0, 0, none⟩), .pointer (some ⟨r1, 0, none⟩)] 27)).heap.size = w6.heap.size + 1 := by simp
  generalize w6.alloc (.cells #[.pointer (some ⟨r0, 0, none⟩), .pointer (some ⟨r1, 0, none⟩)] 27) = w7 at *
  generalize w3.alloc (.cells #[.pointer (some ⟨p0, 0, none⟩), .pointer (some ⟨p1, 0, none⟩)] 24) = w4 at *
  have z1 := c1.size
  have z2 := c2.size
  have z3 := c3.size
  have C7 : Chg w w7 No := (((((c1.tr c2).tr c3).tr a3).tr c5).tr c6).tr a6
  have hF0 : Four w7 w.heap.size w3.heap.size w6.heap.size (two p0 p1) (two r0 r1) (twoO o0 o1) (twoO q0 q1) (fun _ _ _ => False) (fun _ _ _ => False) := by
    have M0 : ∀ i k, i < 2 → twoO o0 o1 i k → w1.heap.size ≤ k ∧ k < w3.heap.size ∧ (i = 0 → k < w2.heap.size) ∧ (i = 1 → w2.heap.size ≤ k) := fun i k hi hk => by
      rcases lt2 hi with rfl | rfl
      · have := m0 k hk; omega
      · have := m1 k hk; omega
    have S0 : ∀ i k, i < 2 → twoO q0 q1 i k → w3.heap.size < k ∧ k < w6.heap.size ∧ (i = 0 → k < w5.heap.size) ∧ (i = 1 → w5.heap.size ≤ k) := fun i k hi hk => by
      rcases lt2 hi with rfl | rfl
      · have := s0 k hk; omega
      · have := s1 k hk; omega
    refine ⟨fun i hi => ?_, fun i hi => ?_, fun i k hi hk => ?_, fun i k hi hk => ?_, fun i j k hi hj hk hq => ?_, fun i j k hi hj hij hk hq => ?_, fun i j k hi hj hij hk hq => ?_, by omega, by omega, fun i hi => ?_, fun i hi => ?_⟩
    · rcases lt2 hi with rfl | rfl
      · exact g0.call ((((c3.tr a3).tr c5).tr c6).tr a6)
      · exact g1.call (((a3.tr c5).tr c6).tr a6)
    · rcases lt2 hi with rfl | rfl
      · exact h0.call (c6.tr a6)
      · exact h1.call a6
    · have := M0 i k hi hk; omega
    · have := S0 i k hi hk; omega
    · have := M0 i k hi hk; have := S0 j k hj hq; omega
    · have := M0 i k hi hk; have := M0 j k hj hq; omega
    · have := S0 i k hi hk; have := S0 j k hj hq; omega
    · rcases lt2 hi with rfl | rfl
      · exact cell_keep k0 a6 z36 (fun e => e)
      · exact cell_keep k1 a6 z36 (fun e => e)
    · rcases lt2 hi with rfl | rfl
      · exact k2
      · exact k3
  generalize two p0 p1 = p at *
  generalize two r0 r1 = r at *
  generalize w3.heap.size = bg at *
  generalize w6.heap.size = br at *
  clear g0 g1 h0 h1 m0 m1 s0 s1 k0 k1 k2 k3 c1 c2 c3 c5 c6 a3 a6 z1 z2 z3 z4 z5 z6 z36
  go_loopw [6] (fun i wr => ∃ (k : Nat) (o q : Nat → Nat → Prop) (E : Nat → Int → Int → Prop) (wq : World), wq = wr ∧ k ≤ n ∧ i = .int .i64 k ∧ Four wq w.heap.size bg br p r o q E E ∧ Chg w wq No) (fun i _ => n - (intOf i).toNat)
  case atStart => exact ⟨0, _, _, _, _, rfl, by omega, rfl, hF0, C7⟩
  case round =>
    obtain ⟨k, o, q, E, wA, rfl, hk, rfl, hF, hc⟩ := hrel
    clear hF0 C7
    by_cases hlt : k < n
    · rcases HZ.out with h0 | ⟨b, oo, rfl, hb, hcell⟩
      · rw [h0] at hn; simp at hn; omega
      have hr := range_keep (ScriptAt.range hcell (j := k) (by omega)) hb hc (fun e => e)
      have hs : (ws.getD k StV.z).OK := hok _ (by rw [List.getD_eq_getElem?_getD, List.getElem?_eq_getElem (by omega)]; exact List.getElem_mem _)
      clear hcell
      generalize ws.getD k StV.z = s at hr hs
      have hwh : wA.cell? ⟨b, oo + k * 4, none⟩ = some (.int .i64 s.wh) := hr 0 _ rfl
      obtain ⟨im, him, him2⟩ : ∃ im : Nat, pickN s.wh 2 = (im : Int) ∧ im < 2 := ⟨(pickN s.wh 2).toNat, by have := pickN_bd s.wh (n := 2) (by omega); omega, by have := pickN_bd s.wh (n := 2) (by omega); omega⟩
      have HP := fun w => pick_any s.wh 2 w hs.1 (by omega) (by omega)
      simp only [him] at HP
      have hi0 : (0 : Int) ≤ (k : Int) := by omega
      have hi1 : (k : Int) < (n : Int) := by omega
      have hj0 : (0 : Int) ≤ (im : Int) := by omega
      have hj1 : (im : Int) < 2 := by omega
      have HH := hid (And.intro hF (And.intro hc hr))
      clear hF hc hr him
      go_upto_region 12 with (first
        | (go_at_call 12; go_must (refine (HP _).mono ?_; rintro e w2 ⟨rfl, rfl⟩))
        | fail)
      obtain ⟨hF, hc, hr⟩ := HH.out
      clear hwh HP
      have hzA := hc.size
      go_cut [8] (fun x wc => ∃ (g8 : Nat) (t : Ans) (vl ve : Value) (E' : Int → Int → Prop) (own' : Nat → Prop), x = .pointer (some ⟨g8, 0, none⟩) ∧ Hid (PG w wA bg br p r (upd o im own') q (upd E im E') E (E im) E' s b (oo + k * 4) g8 t vl ve wc))
      case first =>
        refine wp_region_noPanic ?_
        have hFd := hF.call (chg_drewP wA)
        have hcd := hc.tr (chg_drewP wA)
        have hrd := range_keep hr (by omega) (chg_drewP wA) (fun e => e)
        have zD : wA.drew.heap.size = wA.heap.size := rfl
        refine wp_region_held_drew (S := fun w' => w'.cell? ⟨bg, im, none⟩ = some (.pointer (some ⟨p im, 0, none⟩)) ∧ w'.rangeAt b (oo + k * 4) s.cells) (by kernel_rfl) ⟨hFd.cg im him2, hrd⟩ (fun hHeld => ?_)
        refine takeVal 0 45 (.slice (some ⟨bg, 0, none⟩) 2 2) rfl (by kernel_rfl) (by kernel_rfl) (by kernel_rfl) rfl (by rfl) (fun _ _ _ h => h) hHeld (fun _ hw' => rfl) ?_
        simp only [List.setIfInBounds_toArray, List.set_cons_zero, List.set_cons_succ]
        refine takeVal 1 46 (.int .i64 (im : Int)) rfl (by kernel_rfl) (by kernel_rfl) (by kernel_rfl) rfl (by rfl) (fun _ _ _ h => h) hHeld (fun _ hw' => rfl) ?_
        simp only [List.setIfInBounds_toArray, List.set_cons_zero, List.set_cons_succ]
        refine takeVal 2 47 (.pointer (some ⟨bg, im, none⟩)) rfl (by kernel_rfl) (by kernel_rfl) (by kernel_rfl) rfl (by rfl) (fun _ _ _ h => h) hHeld (fun _ hw' => by go_simp) ?_
        simp only [List.setIfInBounds_toArray, List.set_cons_zero, List.set_cons_succ]
        refine takeVal 3 48 (.pointer (some ⟨p im, 0, none⟩)) rfl (by kernel_rfl) (by kernel_rfl) (by kernel_rfl) rfl (by rfl) (fun _ _ _ h => h) hHeld (fun _ hw' => by obtain ⟨l1, _⟩ := hw'; go_simp) ?_
        simp only [List.setIfInBounds_toArray, List.set_cons_zero, List.set_cons_succ]
        refine takeVal 4 49 (.slice (some ⟨b, oo, none⟩) n cap) rfl (by kernel_rfl) (by kernel_rfl) (by kernel_rfl) rfl (by rfl) (fun _ _ _ h => h) hHeld (fun _ hw' => rfl) ?_
        simp only [List.setIfInBounds_toArray, List.set_cons_zero, List.set_cons_succ]
        refine takeVal 5 50 (.int .i64 (k : Int)) rfl (by kernel_rfl) (by kernel_rfl) (by kernel_rfl) rfl (by rfl) (fun _ _ _ h => h) hHeld (fun _ hw' => rfl) ?_
        simp only [List.setIfInBounds_toArray, List.set_cons_zero, List.set_cons_succ]
        refine takeVal 6 51 (.pointer (some ⟨b, oo + k * 4, none⟩)) rfl (by kernel_rfl) (by kernel_rfl) (by kernel_rfl) rfl (by rfl) (fun _ _ _ h => h) hHeld (fun _ hw' => by go_simp) ?_
        simp only [List.setIfInBounds_toArray, List.set_cons_zero, List.set_cons_succ]
        refine takeS 7 52 (.tmp 51) b (oo + k * 4) s rfl (by kernel_rfl) (by kernel_rfl) (by kernel_rfl) rfl rfl rfl (by rfl) (fun _ _ _ h => h) hHeld (fun _ h => h.2) ?_
        simp only [List.setIfInBounds_toArray, List.set_cons_zero, List.set_cons_succ]
        refine step2 8 9 (by kernel_rfl) ?_ ?_
        · refine stCall 8 53 13 #[.pointer (some ⟨p im, 0, none⟩), .agg #[.int .i64 s.wh, .int .i64 s.what, .int .i64 s.a, .int .i64 s.b]] _ rfl rfl (by rfl) (by go_simp) (stepped_any s hs (hFd.g im him2) (fun k hk => (hFd.mg im k him2 hk).2.1)) ?_
          rintro e wS ⟨t, vl, ve, E', own', rfl, h31, h32, h33, h34, h35, h36⟩
          have hF2 := hFd.stepG him2 h34 h35 h36
          have hcS : Chg w wS No := hcd.trans h36 (fun _ _ e => e) (fun j hj e => by have := hFd.mg im j him2 e; omega)
          have zS := hcS.size
          have zS' := h36.size
          have hrS := range_keep hrd (by omega) h36 (fun e => by have := hFd.mg im b him2 e; omega)
          refine ⟨_, rfl, ⟨hF2.cg im him2, hrS⟩, ?_⟩
          simp only [List.setIfInBounds_toArray, List.set_cons_zero, List.set_cons_succ]
          refine step1 9 (by kernel_rfl) ?_
          refine stNew 9 8 (.pointer (some ⟨wS.heap.size, 0, none⟩)) (.cells #[.int .i64 0, .bool false, .slice none 0 0, .slice none 0 0] 37) rfl rfl (by rfl) (by go_simp) ?_
          have aS := Chg.alloc wS (.cells #[.int .i64 0, .bool false, .slice none 0 0, .slice none 0 0] 37) No
          refine ⟨⟨(hF2.call aS).cg im him2, range_keep hrS (by omega) aS (fun e => e)⟩, ?_⟩
          simp only [List.setIfInBounds_toArray, List.set_cons_zero, List.set_cons_succ]
          refine step1 10 (by kernel_rfl) ?_
          refine stStoreT 10 rfl rfl (by rfl) _ _ rfl wS.heap.size t.c t.r vl ve rfl rfl _ (heap_alloc_new _ _) rfl (row_one h32) (row_one h33) ?_
          intro wT hT8 hT9 hT10
          have hcT : Chg wS wT No := aS.trans hT9 (fun _ _ e => e) (fun j hj e => by omega)
          have hrT := range_keep hrS (by omega) hcT (fun e => e)
          refine ⟨⟨(hF2.call hcT).cg im him2, hrT⟩, ?_⟩
          refine wpAnyH_done (by kernel_rfl) ?_ _
          refine NoPanic.normal ?_
          have hP := hid (PG.mk (w := w) (wA := wA) h31 hT8 (by omega) (row_keep h32 hcT (fun _ _ e => e)) (row_keep h33 hcT (fun _ _ e => e)) (hF2.call hcT) (hcS.tr hcT) hrT)
          have hX : Chg wA wT (fun j => o im j) := (chg_drewP wA).trans (h36.trans hcT (c := fun j => o im j) (fun _ _ e => e) (fun _ _ e => e.elim)) (fun _ _ e => e.elim) (fun _ _ e => e)
          clear hHeld
          go_wp2_with fail
          go_meet
          case rel => exact ⟨wS.heap.size, t, vl, ve, E', own', rfl, hP⟩
        · refine stNew 9 8 (.pointer (some ⟨wA.drew.heap.size, 0, none⟩)) (.cells #[.int .i64 0, .bool false, .slice none 0 0, .slice none 0 0] 37) rfl rfl (by rfl) (by go_simp) ?_
          have aD := Chg.alloc wA.drew (.cells #[.int .i64 0, .bool false, .slice none 0 0, .slice none 0 0] 37) No
          have hFn := hFd.call aD
          have hrn := range_keep hrd (by omega) aD (fun e => e)
          have hcn := hcd.tr aD
          have zN : (wA.drew.alloc (.cells #[.int .i64 0, .bool false, .slice none 0 0, .slice none 0 0] 37)).heap.size = wA.heap.size + 1 := Array.size_push _
          have hz8 := heap_alloc_new wA.drew (.cells #[.int .i64 0, .bool false, .slice none 0 0, .slice none 0 0] 37)
          refine ⟨⟨hFn.cg im him2, hrn⟩, ?_⟩
          simp only [List.setIfInBounds_toArray, List.set_cons_zero, List.set_cons_succ]
          refine step1 8 (by kernel_rfl) ?_
          refine stCall 8 53 13 #[.pointer (some ⟨p im, 0, none⟩), .agg #[.int .i64 s.wh, .int .i64 s.what, .int .i64 s.a, .int .i64 s.b]] _ rfl rfl (by rfl) (by go_simp) (stepped_any s hs (hFn.g im him2) (fun k hk => (hFn.mg im k him2 hk).2.1)) ?_
          rintro e wS ⟨t, vl, ve, E', own', rfl, h31, h32, h33, h34, h35, h36⟩
          have hF2 := hFn.stepG him2 h34 h35 h36
          have hcS : Chg w wS No := hcn.trans h36 (fun _ _ e => e) (fun j hj e => by have := hFn.mg im j him2 e; omega)
          have zS := hcS.size
          have zS' := h36.size
          have hrS := range_keep hrn (by omega) h36 (fun e => by have := hFn.mg im b him2 e; omega)
          refine ⟨_, rfl, ⟨hF2.cg im him2, hrS⟩, ?_⟩
          simp only [List.setIfInBounds_toArray, List.set_cons_zero, List.set_cons_succ]
          refine step1 10 (by kernel_rfl) ?_
          refine stStoreT 10 rfl rfl (by rfl) _ _ rfl wA.drew.heap.size t.c t.r vl ve rfl rfl _ (h36.keep hz8 (fun e => by have := hFd.mg im _ him2 e; omega)) rfl (row_one h32) (row_one h33) ?_
          intro wT hT8 hT9 hT10
          have hF3 := hF2.keep' hT9 (fun i k hi hk e => by rcases upd_in h35 hk with h | h; (· have := hFd.mg i k hi h; omega); (· omega)) (fun i k hi hk e => by have := hFd.mr i k hi hk; omega) (by have := hFd.lg; omega) (by have := hFd.lr; omega)
          have hrT := range_keep hrS (by omega) hT9 (by omega)
          refine ⟨⟨hF3.cg im him2, hrT⟩, ?_⟩
          refine wpAnyH_done (by kernel_rfl) ?_ _
          refine NoPanic.normal ?_
          have hP := hid (PG.mk (w := w) (wA := wA) (g8 := wA.heap.size) h31 hT8 (by omega) (row_base (row_keep h32 hT9 (fun j hj e => by have := (row_ge h32 hj).1; omega)) (by omega)) (row_base (row_keep h33 hT9 (fun j hj e => by have := (row_ge h33 hj).1; omega)) (by omega)) hF3 (hcS.trans hT9 (fun _ _ e => e) (fun j hj e => by omega)) hrT)
          have hX : Chg wA wT (fun j => o im j) := (chg_drewP wA).trans ((aD.trans h36 (c := fun j => o im j) (fun _ _ e => e.elim) (fun _ _ e => e)).trans hT9 (c := fun j => o im j) (fun _ _ e => e) (fun j hj e => by omega)) (fun _ _ e => e.elim) (fun _ _ e => e)
          clear hHeld
          go_wp2_with fail
          go_meet
          case rel => exact ⟨wA.heap.size, t, vl, ve, E', own', rfl, hP⟩
      case rest =>
        obtain ⟨g8, t, vl, ve, E', own', rfl, HG⟩ := hcut
        obtain ⟨wB, hwB⟩ : ∃ x, x = wc := ⟨_, rfl⟩
        subst hwB
        have hqA : ∀ k, q im k → k < wA.heap.size := fun k hk => (hF.mr im k him2 hk).2.1
        clear hF hc hr
        obtain ⟨hsays, htold, hge, hL, hM, hF, hc, hr⟩ := HG.out
        have hzB := hc.size
        have hz8 := slt htold
        go_upto_region 13 with fail
        go_cut [9] (fun x wd => ∃ (g9 : Nat) (u : Ans) (vl' ve' : Value) (F' : Int → Int → Prop) (own2 : Nat → Prop), x = .pointer (some ⟨g9, 0, none⟩) ∧ Hid (PG w wB bg br p r (upd o im own') (upd q im own2) (upd E im E') (upd E im F') (E im) F' s b (oo + k * 4) g9 u vl' ve' wd ∧ wd.heap[g8]? = some (.cells (toldA t.c t.r vl ve) 37 (0, 0)) ∧ Ints wd wA.heap.size vl t.L ∧ Edgs wd wA.heap.size ve t.M))
        case first =>
          refine wp_region_noPanic ?_
          have hFd := hF.call (chg_drewP wB)
          have hcd := hc.tr (chg_drewP wB)
          have hrd := range_keep hr (by omega) (chg_drewP wB) (fun e => e)
          have zD : wB.drew.heap.size = wB.heap.size := rfl
          refine wp_region_held_drew (S := fun w' => w'.cell? ⟨br, im, none⟩ = some (.pointer (some ⟨r im, 0, none⟩)) ∧ w'.rangeAt b (oo + k * 4) s.cells) (by kernel_rfl) ⟨hFd.cr im him2, hrd⟩ (fun hHeld => ?_)
          refine takeVal 0 54 (.slice (some ⟨br, 0, none⟩) 2 2) rfl (by kernel_rfl) (by kernel_rfl) (by kernel_rfl) rfl (by rfl) (fun _ _ _ h => h) hHeld (fun _ hw' => rfl) ?_
          simp only [List.setIfInBounds_toArray, List.set_cons_zero, List.set_cons_succ]
          refine takeVal 1 55 (.int .i64 (im : Int)) rfl (by kernel_rfl) (by kernel_rfl) (by kernel_rfl) rfl (by rfl) (fun _ _ _ h => h) hHeld (fun _ hw' => rfl) ?_
          simp only [List.setIfInBounds_toArray, List.set_cons_zero, List.set_cons_succ]
          refine takeVal 2 56 (.pointer (some ⟨br, im, none⟩)) rfl (by kernel_rfl) (by kernel_rfl) (by kernel_rfl) rfl (by rfl) (fun _ _ _ h => h) hHeld (fun _ hw' => by go_simp) ?_
          simp only [List.setIfInBounds_toArray, List.set_cons_zero, List.set_cons_succ]
          refine takeVal 3 57 (.pointer (some ⟨r im, 0, none⟩)) rfl (by kernel_rfl) (by kernel_rfl) (by kernel_rfl) rfl (by rfl) (fun _ _ _ h => h) hHeld (fun _ hw' => by obtain ⟨l1, _⟩ := hw'; go_simp) ?_
          simp only [List.setIfInBounds_toArray, List.set_cons_zero, List.set_cons_succ]
          refine takeVal 4 58 (.slice (some ⟨b, oo, none⟩) n cap) rfl (by kernel_rfl) (by kernel_rfl) (by kernel_rfl) rfl (by rfl) (fun _ _ _ h => h) hHeld (fun _ hw' => rfl) ?_
          simp only [List.setIfInBounds_toArray, List.set_cons_zero, List.set_cons_succ]
          refine takeVal 5 59 (.int .i64 (k : Int)) rfl (by kernel_rfl) (by kernel_rfl) (by kernel_rfl) rfl (by rfl) (fun _ _ _ h => h) hHeld (fun _ hw' => rfl) ?_
          simp only [List.setIfInBounds_toArray, List.set_cons_zero, List.set_cons_succ]
          refine takeVal 6 60 (.pointer (some ⟨b, oo + k * 4, none⟩)) rfl (by kernel_rfl) (by kernel_rfl) (by kernel_rfl) rfl (by rfl) (fun _ _ _ h => h) hHeld (fun _ hw' => by go_simp) ?_
          simp only [List.setIfInBounds_toArray, List.set_cons_zero, List.set_cons_succ]
          refine takeS 7 61 (.tmp 60) b (oo + k * 4) s rfl (by kernel_rfl) (by kernel_rfl) (by kernel_rfl) rfl rfl rfl (by rfl) (fun _ _ _ h => h) hHeld (fun _ h => h.2) ?_
          simp only [List.setIfInBounds_toArray, List.set_cons_zero, List.set_cons_succ]
          refine step2 8 9 (by kernel_rfl) ?_ ?_
          · refine stCall 8 62 14 #[.pointer (some ⟨r im, 0, none⟩), .agg #[.int .i64 s.wh, .int .i64 s.what, .int .i64 s.a, .int .i64 s.b]] _ rfl rfl (by rfl) (by go_simp) (wanted_any s hs (hFd.h im him2) (fun k hk => (hFd.mr im k him2 hk).2.1)) ?_
            rintro e wS ⟨u, vl', ve', F', own2, rfl, h31, h32, h33, h34, h35, h36⟩
            have hF2 := hFd.stepR him2 h34 h35 h36
            have hcS : Chg w wS No := hcd.trans h36 (fun _ _ e => e) (fun j hj e => by have := hFd.mr im j him2 e; omega)
            have zS := hcS.size
            have zS' := h36.size
            have hrS := range_keep hrd (by omega) h36 (fun e => by have := hFd.mr im b him2 e; omega)
            refine ⟨_, rfl, ⟨hF2.cr im him2, hrS⟩, ?_⟩
            simp only [List.setIfInBounds_toArray, List.set_cons_zero, List.set_cons_succ]
            refine step1 9 (by kernel_rfl) ?_
            refine stNew 9 9 (.pointer (some ⟨wS.heap.size, 0, none⟩)) (.cells #[.int .i64 0, .bool false, .slice none 0 0, .slice none 0 0] 37) rfl rfl (by rfl) (by go_simp) ?_
            have aS := Chg.alloc wS (.cells #[.int .i64 0, .bool false, .slice none 0 0, .slice none 0 0] 37) No
            refine ⟨⟨(hF2.call aS).cr im him2, range_keep hrS (by omega) aS (fun e => e)⟩, ?_⟩
            simp only [List.setIfInBounds_toArray, List.set_cons_zero, List.set_cons_succ]
            refine step1 10 (by kernel_rfl) ?_
            refine stStoreT 10 rfl rfl (by rfl) _ _ rfl wS.heap.size u.c u.r vl' ve' rfl rfl _ (heap_alloc_new _ _) rfl (row_one h32) (row_one h33) ?_
            intro wT hT8 hT9 hT10
            have hcT : Chg wS wT No := aS.trans hT9 (fun _ _ e => e) (fun j hj e => by omega)
            have hrT := range_keep hrS (by omega) hcT (fun e => e)
            refine ⟨⟨(hF2.call hcT).cr im him2, hrT⟩, ?_⟩
            refine wpAnyH_done (by kernel_rfl) ?_ _
            refine NoPanic.normal ?_
            have hP := hid (PG.mk (w := w) (wA := wB) h31 hT8 (by omega) (row_keep h32 hcT (fun _ _ e => e)) (row_keep h33 hcT (fun _ _ e => e)) (hF2.call hcT) (hcS.tr hcT) hrT)
            have hX : Chg wB wT (fun j => q im j) := (chg_drewP wB).trans (h36.trans hcT (c := fun j => q im j) (fun _ _ e => e) (fun _ _ e => e.elim)) (fun _ _ e => e.elim) (fun _ _ e => e)
            clear hHeld
            go_wp2_with fail
            go_meet
            case rel => exact ⟨wS.heap.size, u, vl', ve', F', own2, rfl, hid ⟨hP.out, hX.keep htold (fun e => by have := hqA _ e; omega), row_keep hL hX (fun j hj e => by have := (row_ge hL hj).1; have := hqA _ e; omega), row_keep hM hX (fun j hj e => by have := (row_ge hM hj).1; have := hqA _ e; omega)⟩⟩
          · refine stNew 9 9 (.pointer (some ⟨wB.drew.heap.size, 0, none⟩)) (.cells #[.int .i64 0, .bool false, .slice none 0 0, .slice none 0 0] 37) rfl rfl (by rfl) (by go_simp) ?_
            have aD := Chg.alloc wB.drew (.cells #[.int .i64 0, .bool false, .slice none 0 0, .slice none 0 0] 37) No
            have hFn := hFd.call aD
            have hrn := range_keep hrd (by omega) aD (fun e => e)
            have hcn := hcd.tr aD
            have zN : (wB.drew.alloc (.cells #[.int .i64 0, .bool false, .slice none 0 0, .slice none 0 0] 37)).heap.size = wB.heap.size + 1 := Array.size_push _
            have hz8 := heap_alloc_new wB.drew (.cells #[.int .i64 0, .bool false, .slice none 0 0, .slice none 0 0] 37)
            refine ⟨⟨hFn.cr im him2, hrn⟩, ?_⟩
            simp only [List.setIfInBounds_toArray, List.set_cons_zero, List.set_cons_succ]
            refine step1 8 (by kernel_rfl) ?_
            refine stCall 8 62 14 #[.pointer (some ⟨r im, 0, none⟩), .agg #[.int .i64 s.wh, .int .i64 s.what, .int .i64 s.a, .int .i64 s.b]] _ rfl rfl (by rfl) (by go_simp) (wanted_any s hs (hFn.h im him2) (fun k hk => (hFn.mr im k him2 hk).2.1)) ?_
            rintro e wS ⟨u, vl', ve', F', own2, rfl, h31, h32, h33, h34, h35, h36⟩
            have hF2 := hFn.stepR him2 h34 h35 h36
            have hcS : Chg w wS No := hcn.trans h36 (fun _ _ e => e) (fun j hj e => by have := hFn.mr im j him2 e; omega)
            have zS := hcS.size
            have zS' := h36.size
            have hrS := range_keep hrn (by omega) h36 (fun e => by have := hFn.mr im b him2 e; omega)
            refine ⟨_, rfl, ⟨hF2.cr im him2, hrS⟩, ?_⟩
            simp only [List.setIfInBounds_toArray, List.set_cons_zero, List.set_cons_succ]
            refine step1 10 (by kernel_rfl) ?_
            refine stStoreT 10 rfl rfl (by rfl) _ _ rfl wB.drew.heap.size u.c u.r vl' ve' rfl rfl _ (h36.keep hz8 (fun e => by have := hFd.mr im _ him2 e; omega)) rfl (row_one h32) (row_one h33) ?_
            intro wT hT8 hT9 hT10
            have hF3 := hF2.keep' hT9 (fun i k hi hk e => by have := hFd.mg i k hi hk; omega) (fun i k hi hk e => by rcases upd_in h35 hk with h | h; (· have := hFd.mr i k hi h; omega); (· omega)) (by have := hFd.lg; omega) (by have := hFd.lr; omega)
            have hrT := range_keep hrS (by omega) hT9 (by omega)
            refine ⟨⟨hF3.cr im him2, hrT⟩, ?_⟩
            refine wpAnyH_done (by kernel_rfl) ?_ _
            refine NoPanic.normal ?_
            have hP := hid (PG.mk (w := w) (wA := wB) (g8 := wB.heap.size) h31 hT8 (by omega) (row_base (row_keep h32 hT9 (fun j hj e => by have := (row_ge h32 hj).1; omega)) (by omega)) (row_base (row_keep h33 hT9 (fun j hj e => by have := (row_ge h33 hj).1; omega)) (by omega)) hF3 (hcS.trans hT9 (fun _ _ e => e) (fun j hj e => by omega)) hrT)
            have hX : Chg wB wT (fun j => q im j) := (chg_drewP wB).trans ((aD.trans h36 (c := fun j => q im j) (fun _ _ e => e.elim) (fun _ _ e => e)).trans hT9 (c := fun j => q im j) (fun _ _ e => e) (fun j hj e => by omega)) (fun _ _ e => e.elim) (fun _ _ e => e)
            clear hHeld
            go_wp2_with fail
            go_meet
            case rel => exact ⟨wB.heap.size, u, vl', ve', F', own2, rfl, hid ⟨hP.out, hX.keep htold (fun e => by have := hqA _ e; omega), row_keep hL hX (fun j hj e => by have := (row_ge hL hj).1; have := hqA _ e; omega), row_keep hM hX (fun j hj e => by have := (row_ge hM hj).1; have := hqA _ e; omega)⟩⟩
        case rest =>
          obtain ⟨g9, u, vl', ve', F', own2, rfl, HR⟩ := hcut
          obtain ⟨⟨says2, told2, ge2, L2, M2, F2, c22, r22⟩, t8, L8, M8⟩ := HR.out
          have hln := says_len hsays (by have := (HH.out.1.g im him2).sec; exact this)
          obtain ⟨rfl, rfl⟩ := hsays.one says2
          obtain ⟨a1, ca1, rfl, hI1, _⟩ := L8.at_
          obtain ⟨b1, cb1, rfl, hE1, _⟩ := M8.at_
          obtain ⟨a2, ca2, rfl, hI2, _⟩ := L2.at_
          obtain ⟨b2, cb2, rfl, hE2, _⟩ := M2.at_
          have HS := same_any t a1 b1 a2 b2 ca1 cb1 ca2 cb2 wc (by omega) (by omega) hI1 hE1 hI2 hE2
          have hr8 := told_range t8
          have hr9 := told_range told2
          have HX := hid (And.intro F2 c22)
          clear hsays htold hL hM hF hc hr says2 told2 L2 M2 F2 c22 r22 t8 L8 M8 hI1 hE1 hI2 hE2 hqA
          go_wp2_with (first
            | (refine wpList_load_mid rfl 37 _ rfl g8 0 rfl _ _ hr8 Try.underlying37 rfl (by rw [szT]; rfl) ?_)
            | (refine wpList_load_mid rfl 37 _ rfl g9 0 rfl _ _ hr9 Try.underlying37 rfl (by rw [szT]; rfl) ?_)
            | (go_at_call 15; go_must (refine HS.mono ?_; rintro e w9 ⟨rfl, c9⟩))
            | fail)
          obtain ⟨F2, c22⟩ := HX.out
          go_roundw
          case rel => exact ⟨k + 1, _, _, _, _, rfl, by omega, by go_num, F2.call c9, c22.tr c9⟩
          case measure => simp [intOf]; omega
    · obtain rfl : k = n := by omega
      go_upto_region 16 with fail
      refine wp_region_noPanic ?_
      refine wp_region_held_drew (S := fun w' => Four w' w.heap.size bg br p r o q E E ∧ Chg w w' No) (by kernel_rfl) ⟨hF.call (chg_drewP wA), hc.tr (chg_drewP wA)⟩ (fun hHeld => ?_)
      refine takeVal 0 67 (.slice (some ⟨bg, 0, none⟩) 2 2) rfl (by kernel_rfl) (by kernel_rfl) (by kernel_rfl) rfl (by rfl) (fun _ _ _ h => h) hHeld (fun _ hw' => rfl) ?_
      simp only [List.setIfInBounds_toArray, List.set_cons_zero, List.set_cons_succ]
      refine takeVal 1 68 (.pointer (some ⟨bg, 0, none⟩)) rfl (by kernel_rfl) (by kernel_rfl) (by kernel_rfl) rfl (by rfl) (fun _ _ _ h => h) hHeld (fun _ hw' => by go_simp) ?_
      simp only [List.setIfInBounds_toArray, List.set_cons_zero, List.set_cons_succ]
      refine takeVal 2 69 (.pointer (some ⟨p 0, 0, none⟩)) rfl (by kernel_rfl) (by kernel_rfl) (by kernel_rfl) rfl (by rfl) (fun _ _ _ h => h) hHeld (fun _ hw' => by have l1 := hw'.1.cg 0 (by omega); go_simp) ?_
      simp only [List.setIfInBounds_toArray, List.set_cons_zero, List.set_cons_succ]
      refine takeVal 4 71 (.slice (some ⟨br, 0, none⟩) 2 2) rfl (by kernel_rfl) (by kernel_rfl) (by kernel_rfl) rfl (by rfl) (fun _ _ _ h => h) hHeld (fun _ hw' => rfl) ?_
      simp only [List.setIfInBounds_toArray, List.set_cons_zero, List.set_cons_succ]
      refine takeVal 5 72 (.pointer (some ⟨br, 0, none⟩)) rfl (by kernel_rfl) (by kernel_rfl) (by kernel_rfl) rfl (by rfl) (fun _ _ _ h => h) hHeld (fun _ hw' => by go_simp) ?_
      simp only [List.setIfInBounds_toArray, List.set_cons_zero, List.set_cons_succ]
      refine takeVal 6 73 (.pointer (some ⟨r 0, 0, none⟩)) rfl (by kernel_rfl) (by kernel_rfl) (by kernel_rfl) rfl (by rfl) (fun _ _ _ h => h) hHeld (fun _ hw' => by have l1 := hw'.1.cr 0 (by omega); go_simp) ?_
      simp only [List.setIfInBounds_toArray, List.set_cons_zero, List.set_cons_succ]
      refine step1 3 (by kernel_rfl) ?_
      refine stCall 3 70 17 #[.pointer (some ⟨p 0, 0, none⟩)] _ rfl rfl (by rfl) (by go_simp) (edgesG_any (hHeld.1.g 0 (by omega))) ?_
      rintro e waa ⟨v, l0, rfl, hv, hLl0, c⟩
      obtain ⟨al0, cal0, rfl, hAl0, _⟩ := hv.at_
      refine ⟨_, rfl, ⟨hHeld.1.call c, hHeld.2.tr c⟩, ?_⟩
      simp only [List.setIfInBounds_toArray, List.set_cons_zero, List.set_cons_succ]
      replace hHeld : Four waa w.heap.size bg br p r o q E E ∧ Chg w waa No := ⟨hHeld.1.call c, hHeld.2.tr c⟩
      refine step1 7 (by kernel_rfl) ?_
      refine stCall 7 74 18 #[.pointer (some ⟨r 0, 0, none⟩)] _ rfl rfl (by rfl) (by go_simp) (redges_any (hHeld.1.h 0 (by omega))) ?_
      rintro e wab ⟨v, m0, rfl, hv, hLm0, c⟩
      obtain ⟨am0, cam0, rfl, hAm0, _⟩ := hv.at_
      refine ⟨_, rfl, ⟨hHeld.1.call c, hHeld.2.tr c⟩, ?_⟩
      simp only [List.setIfInBounds_toArray, List.set_cons_zero, List.set_cons_succ]
      replace hHeld : Four wab w.heap.size bg br p r o q E E ∧ Chg w wab No := ⟨hHeld.1.call c, hHeld.2.tr c⟩
      replace hAl0 := hAl0.call c
      obtain rfl := elist_one hLm0 hLl0
      have hln0 := elist_len hLm0 (hHeld.1.g 0 (by omega)).sec
      refine step1 8 (by kernel_rfl) ?_
      refine stCall 8 75 16 #[.slice al0 m0.length cal0, .slice am0 m0.length cam0] _ rfl rfl (by rfl) (by go_simp) (edges_any m0 al0 am0 cal0 cam0 _ (by omega) hAl0 hAm0) ?_
      rintro e wac ⟨rfl, nq, rfl⟩
      replace hHeld : Four (wab.drewN nq) w.heap.size bg br p r o q E E ∧ Chg w (wab.drewN nq) No := ⟨hHeld.1.call (chg_drewN _ _), hHeld.2.tr (chg_drewN _ _)⟩
      refine ⟨_, rfl, hHeld, ?_⟩
      simp only [List.setIfInBounds_toArray, List.set_cons_zero, List.set_cons_succ]
      refine takeVal 9 76 (.bool true) rfl (by kernel_rfl) (by kernel_rfl) (by kernel_rfl) rfl (by rfl) (fun _ _ _ h => h) hHeld (fun _ hw' => rfl) ?_
      simp only [List.setIfInBounds_toArray, List.set_cons_zero, List.set_cons_succ]
      refine takeVal 10 77 (.slice (some ⟨bg, 0, none⟩) 2 2) rfl (by kernel_rfl) (by kernel_rfl) (by kernel_rfl) rfl (by rfl) (fun _ _ _ h => h) hHeld (fun _ hw' => rfl) ?_
      simp only [List.setIfInBounds_toArray, List.set_cons_zero, List.set_cons_succ]
      refine takeVal 11 78 (.pointer (some ⟨bg, 1, none⟩)) rfl (by kernel_rfl) (by kernel_rfl) (by kernel_rfl) rfl (by rfl) (fun _ _ _ h => h) hHeld (fun _ hw' => by go_simp) ?_
      simp only [List.setIfInBounds_toArray, List.set_cons_zero, List.set_cons_succ]
      refine takeVal 12 79 (.pointer (some ⟨p 1, 0, none⟩)) rfl (by kernel_rfl) (by kernel_rfl) (by kernel_rfl) rfl (by rfl) (fun _ _ _ h => h) hHeld (fun _ hw' => by have l1 := hw'.1.cg 1 (by omega); go_simp) ?_
      simp only [List.setIfInBounds_toArray, List.set_cons_zero, List.set_cons_succ]
      refine takeVal 14 81 (.slice (some ⟨br, 0, none⟩) 2 2) rfl (by kernel_rfl) (by kernel_rfl) (by kernel_rfl) rfl (by rfl) (fun _ _ _ h => h) hHeld (fun _ hw' => rfl) ?_
      simp only [List.setIfInBounds_toArray, List.set_cons_zero, List.set_cons_succ]
      refine takeVal 15 82 (.pointer (some ⟨br, 1, none⟩)) rfl (by kernel_rfl) (by kernel_rfl) (by kernel_rfl) rfl (by rfl) (fun _ _ _ h => h) hHeld (fun _ hw' => by go_simp) ?_
      simp only [List.setIfInBounds_toArray, List.set_cons_zero, List.set_cons_succ]
      refine takeVal 16 83 (.pointer (some ⟨r 1, 0, none⟩)) rfl (by kernel_rfl) (by kernel_rfl) (by kernel_rfl) rfl (by rfl) (fun _ _ _ h => h) hHeld (fun _ hw' => by have l1 := hw'.1.cr 1 (by omega); go_simp) ?_
      simp only [List.setIfInBounds_toArray, List.set_cons_zero, List.set_cons_succ]
      refine step1 13 (by kernel_rfl) ?_
      refine stCall 13 80 17 #[.pointer (some ⟨p 1, 0, none⟩)] _ rfl rfl (by rfl) (by go_simp) (edgesG_any (hHeld.1.g 1 (by omega))) ?_
      rintro e wba ⟨v, l1, rfl, hv, hLl1, c⟩
      obtain ⟨al1, cal1, rfl, hAl1, _⟩ := hv.at_
      refine ⟨_, rfl, ⟨hHeld.1.call c, hHeld.2.tr c⟩, ?_⟩
      simp only [List.setIfInBounds_toArray, List.set_cons_zero, List.set_cons_succ]
      replace hHeld : Four wba w.heap.size bg br p r o q E E ∧ Chg w wba No := ⟨hHeld.1.call c, hHeld.2.tr c⟩
      refine step1 17 (by kernel_rfl) ?_
      refine stCall 17 84 18 #[.pointer (some ⟨r 1, 0, none⟩)] _ rfl rfl (by rfl) (by go_simp) (redges_any (hHeld.1.h 1 (by omega))) ?_
      rintro e wbb ⟨v, m1, rfl, hv, hLm1, c⟩
      obtain ⟨am1, cam1, rfl, hAm1, _⟩ := hv.at_
      refine ⟨_, rfl, ⟨hHeld.1.call c, hHeld.2.tr c⟩, ?_⟩
      simp only [List.setIfInBounds_toArray, List.set_cons_zero, List.set_cons_succ]
      replace hHeld : Four wbb w.heap.size bg br p r o q E E ∧ Chg w wbb No := ⟨hHeld.1.call c, hHeld.2.tr c⟩
      replace hAl1 := hAl1.call c
      obtain rfl := elist_one hLm1 hLl1
      have hln1 := elist_len hLm1 (hHeld.1.g 1 (by omega)).sec
      refine step1 18 (by kernel_rfl) ?_
      refine stCall 18 85 16 #[.slice al1 m1.length cal1, .slice am1 m1.length cam1] _ rfl rfl (by rfl) (by go_simp) (edges_any m1 al1 am1 cal1 cam1 _ (by omega) hAl1 hAm1) ?_
      rintro e wbc ⟨rfl, nq, rfl⟩
      replace hHeld : Four (wbb.drewN nq) w.heap.size bg br p r o q E E ∧ Chg w (wbb.drewN nq) No := ⟨hHeld.1.call (chg_drewN _ _), hHeld.2.tr (chg_drewN _ _)⟩
      refine ⟨_, rfl, hHeld, ?_⟩
      simp only [List.setIfInBounds_toArray, List.set_cons_zero, List.set_cons_succ]
      refine takeVal 19 86 (.bool true) rfl (by kernel_rfl) (by kernel_rfl) (by kernel_rfl) rfl (by rfl) (fun _ _ _ h => h) hHeld (fun _ hw' => by go_simp) ?_
      simp only [List.setIfInBounds_toArray, List.set_cons_zero, List.set_cons_succ]
      refine takeVal 20 2 (.bool true) rfl (by kernel_rfl) (by kernel_rfl) (by kernel_rfl) rfl (by rfl) (fun _ _ _ h => h) hHeld (fun _ hw' => rfl) ?_
      simp only [List.setIfInBounds_toArray, List.set_cons_zero, List.set_cons_succ]
      refine wpAnyH_done (by kernel_rfl) ?_ _
      refine NoPanic.normal ?_
      have HX := hid hHeld
      clear hHeld
      go_wp2_with fail
      go_ret
      exact ⟨rfl, HX.out.2.below⟩

end Go.Proofs.Ytjnafcogdakbbaa
