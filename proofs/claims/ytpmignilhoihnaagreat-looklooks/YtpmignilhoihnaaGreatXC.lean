/-
 look.Look of an image whose first sector speaks of it.
-/
import Derived.Test.YtpmignilhoihnaaGreatX3
import Derived.Laws.EntriesVeiled
import Derived.Test.YtpmignilhoihnaaGreatX8
namespace Go.Proofs.YtpmignilhoihnaaGreat
open Go.RowKit

section
variable {ops : Array Oper} {Q : Exit → Act → World → Prop} {S : World → Prop} {σ : Type}
theorem wpAnyH_net (L : σ → Array Bool) (A : σ → Act) (F : σ → World → Prop) (m : σ → Nat) (f : Nat) (hS : ∀ s w, F s w → S w)
  (step : ∀ s, m s ≠ 0 → ∃ rs : List Nat, Region.ready .any ops (L s) = rs ∧ rs ≠ [] ∧ ∀ i ∈ rs, ∀ w, F s w → wpOp Tryz.prog ops Q i (fun a' w' => ∃ s', m s' + 1 = m s ∧ L s' = (L s).setIfInBounds i true ∧ a' = A s' ∧ F s' w') (A s) w)
  (last : ∀ s w, m s = 0 → F s w → wpAnyH Tryz.prog .any ops Q S f (L s) (A s) w) :
  ∀ n s w, m s = n → F s w → wpAnyH Tryz.prog .any ops Q S (f + n) (L s) (A s) w
 | 0, s, w, hm, hF => last s w hm hF
 | n + 1, s, w, hm, hF => by
  obtain ⟨rs, hr, hne, hst⟩ := step s (by omega)
  refine wpAnyH_all hr hne fun i hi => wpOp_mono ?_ (hst i hi w hF)
  rintro a' w' ⟨s', h1, h2, rfl, h4⟩
  rw [← h2]
  exact ⟨hS s' w' h4, wpAnyH_net L A F m f hS step last n s' w' (by omega) h4⟩
theorem opNew {i d : Nat} {v : Value} {ob : Obj} {o : Oper} {a : Act} {w : World} {R : Act → World → Prop} (hop : ops[i]? = some o) (hd : o.dst = some d) (hw : Region.wanted o (yielded ops a.tmps) = true)
  (hrun : (execOp a.eval o).run Tryz.prog w = .ok (.value v) (w.alloc ob)) (h : R { a with tmps := a.tmps.setIfInBounds d v } (w.alloc ob)) : wpOp Tryz.prog ops Q i R a w := by
 refine wpOp_step hop (fun K hK => ?_);rw [if_pos hw];unfold Oper.wp;rw [hrun];refine hK _ _ ?_;unfold Act.put;rw [hd]
 exact h
theorem opCall {i d f : Nat} {args : Array Value} {R : Ending → World → Prop} {P : Act → World → Prop} {o : Oper} {a : Act} {w : World} (hop : ops[i]? = some o) (hd : o.dst = some d) (hw : Region.wanted o (yielded ops a.tmps) = true)
  (hrun : (execOp a.eval o).run Tryz.prog w = .ok (.enter f args) w) (hc : Calls Tryz.prog f args w R) (h : ∀ e w', R e w' → ∃ v, e = .returned v ∧ P { a with tmps := a.tmps.setIfInBounds d v } w') : wpOp Tryz.prog ops Q i P a w := by
 refine wpOp_step hop (fun K hK => ?_);rw [if_pos hw];unfold Oper.wp;rw [hrun, Oper.upon_enter];refine hc.mono ?_
 intro e w' hR
 obtain ⟨v, rfl, hrest⟩ := h e w' hR;refine hK _ _ ?_;unfold Act.put;rw [hd]
 exact hrest
end
theorem wanted_free {o : Oper} (h : o.guard = none) (y : Nat → Option Bool) : Region.wanted o y = true := by
 unfold Region.wanted;rw [h]
end Go.Proofs.YtpmignilhoihnaaGreat

namespace Go.Proofs.YtpmignilhoihnaaGreat
open Go.RowKit Go.Shelf

theorem Chg.t2 {w a b : World} (h : Chg w a No) (k : Chg a b No) : Chg w b No := h.trans k (fun _ _ e => e) (fun _ _ e => e)
set_option maxRecDepth 100000 in
set_option maxHeartbeats 1000000 in
theorem queue_any (w : World) : Calls Tryz.prog 42 #[] w fun e w' => e = .returned (.tuple #[.func (.func 73) #[] #[.pointer (some ⟨w.heap.size, 0, none⟩)], .func (.func 74) #[] #[.pointer (some ⟨w.heap.size, 0, none⟩)]]) ∧ w' = w.alloc (.cells #[.slice none 0 0] 126) := by
 go_enter Tryz.func42, Tryz.ntmps42
 go_wp2_with fail
 go_ret2
 exact ⟨rfl, rfl⟩

def look0 (N M : Nat) (ia : Option Addr) (ic g wc cb vb tb : Nat) : Array Value :=
 #[.int .i64 N, .int .i64 M, .slice ia N ic, .slice (some ⟨g, 0, none⟩) N wc, .map (some cb), .map (some vb), .map (some tb), .nilFunc, .nilFunc]
structure Beg (w0 w : World) (N M : Nat) (ia : Option Addr) (ic : Nat) (im : Img) (p g wc cb vb tb : Nat) : Prop where
 me : w.heap[p]? = some (.cells (look0 N M ia ic g wc cb vb tb) 61 (0, 0))
 ci : ImgAt w ia im
 wt : WtAt w g im
 h4 : SetAt w cb (fun _ => False)
 h5 : SetAt w vb (fun _ => False)
 h6 : MapV w tb (fun _ => none)
 b0 : w0.heap.size ≤ g
 b1 : w0.heap.size ≤ cb
 b2 : w0.heap.size ≤ vb
 b3 : w0.heap.size ≤ tb
 cv : cb ≠ vb
 ct : cb ≠ tb
 vt : vb ≠ tb
 pp : w0.heap.size ≤ p
 ch : Chg w0 w No

structure MB where
 g : Option (Nat × Nat)
 c : Option Nat
 v : Option Nat
 t : Option Nat
def bN {α : Type} : Option α → Nat
 | none => 1
 | some _ => 0
def MB.n (s : MB) : Nat := bN s.g + bN s.c + bN s.v + bN s.t
def vMap : Option Nat → Value
 | none => undef
 | some b => .map (some b)
def vCl (n : Nat) : Option (Nat × Nat) → Value
 | none => undef
 | some (g, k) => .slice (some ⟨g, 0, none⟩) n k
def L4 (s : MB) : Array Bool := #[true, true, true, s.g.isSome, s.c.isSome, s.v.isSome, s.t.isSome, false, false, false]
def rd4 (s : MB) : List Nat := (match s.g with | none => [3] | some _ => []) ++ (match s.c with | none => [4] | some _ => []) ++ (match s.v with | none => [5] | some _ => []) ++ (match s.t with | none => [6] | some _ => [])
def A4 (a0 : Act) (n : Nat) (s : MB) : Act := { a0 with tmps := (((a0.tmps.setIfInBounds 9 (vCl n s.g)).setIfInBounds 10 (vMap s.c)).setIfInBounds 11 (vMap s.v)).setIfInBounds 12 (vMap s.t) }
structure B4 (w0 : World) (N M : Nat) (ia : Option Addr) (im : Img) (s : MB) (w : World) : Prop where
 ch : Chg w0 w No
 hh : w.heap[w0.heap.size]? = some (.cells #[.int .i64 N, .int .i64 M] 42 (0, 0))
 ig : ImgAt w ia im
 g : ∀ g k, s.g = some (g, k) → WtAt w g im ∧ w0.heap.size ≤ g
 c : ∀ b, s.c = some b → SetAt w b (fun _ => False) ∧ w0.heap.size ≤ b
 v : ∀ b, s.v = some b → SetAt w b (fun _ => False) ∧ w0.heap.size ≤ b
 t : ∀ b, s.t = some b → MapV w b (fun _ => none) ∧ w0.heap.size ≤ b
 cv : ∀ b b', s.c = some b → s.v = some b' → b ≠ b'
 ct : ∀ b b', s.c = some b → s.t = some b' → b ≠ b'
 vt : ∀ b b', s.v = some b → s.t = some b' → b ≠ b'
section
variable {w0 w w' : World} {N M : Nat} {ia : Option Addr} {im : Img} {s : MB}
theorem B4.call (h : B4 w0 N M ia im s w) (hc : Chg w w' No) : B4 w0 N M ia im s w' :=
 ⟨h.ch.t2 hc, hc.keep h.hh (fun e => e), h.ig.keep hc (fun _ _ e => e), fun g k e => ⟨(h.g g k e).1.keep hc (fun e => e), (h.g g k e).2⟩, fun b e => ⟨(h.c b e).1.keep hc (fun e => e), (h.c b e).2⟩, fun b e => ⟨(h.v b e).1.keep hc (fun e => e), (h.v b e).2⟩, fun b e => ⟨(h.t b e).1.keep hc (fun e => e), (h.t b e).2⟩, h.cv, h.ct, h.vt⟩
theorem setAt_lt {b : Nat} {P : Int → Prop} (h : SetAt w b P) : b < w.heap.size := by
 obtain ⟨es, k, e⟩ := h.isMap
 exact slt e
theorem mapV_lt {b : Nat} {f : Int → Option Value} (h : MapV w b f) : b < w.heap.size := by
 obtain ⟨es, k, e⟩ := h.isMap
 exact slt e
theorem B4.newC (h : B4 w0 N M ia im s w) : B4 w0 N M ia im { s with c := some w.heap.size } (w.alloc (.map #[] 0)) := by
 have hh := h.call (Chg.alloc w (.map #[] 0) No);refine ⟨hh.ch, hh.hh, hh.ig, hh.g, fun b e => ?_, hh.v, hh.t, fun b b' e e' => ?_, fun b b' e e' => ?_, hh.vt⟩
 ·cases e; exact ⟨SetAt.made w, h.ch.size⟩
 ·cases e; have := setAt_lt (h.v b' e').1; omega
 ·cases e; have := mapV_lt (h.t b' e').1; omega
theorem B4.newV (h : B4 w0 N M ia im s w) : B4 w0 N M ia im { s with v := some w.heap.size } (w.alloc (.map #[] 0)) := by
 have hh := h.call (Chg.alloc w (.map #[] 0) No);refine ⟨hh.ch, hh.hh, hh.ig, hh.g, hh.c, fun b e => ?_, hh.t, fun b b' e e' => ?_, hh.ct, fun b b' e e' => ?_⟩
 ·cases e; exact ⟨SetAt.made w, h.ch.size⟩
 ·cases e'; have := setAt_lt (h.c b e).1; omega
 ·cases e; have := mapV_lt (h.t b' e').1; omega
theorem B4.newT (h : B4 w0 N M ia im s w) : B4 w0 N M ia im { s with t := some w.heap.size } (w.alloc (.map #[] 0)) := by
 have hh := h.call (Chg.alloc w (.map #[] 0) No);refine ⟨hh.ch, hh.hh, hh.ig, hh.g, hh.c, hh.v, fun b e => ?_, hh.cv, fun b b' e e' => ?_, fun b b' e e' => ?_⟩
 ·cases e; exact ⟨MapV.made w, h.ch.size⟩
 ·cases e'; have := setAt_lt (h.c b e).1; omega
 ·cases e'; have := setAt_lt (h.v b e).1; omega
theorem B4.newG (h : B4 w0 N M ia im s w) {g k : Nat} (hc : Chg w w' No) (hw : WtAt w' g im) (hg : w.heap.size ≤ g) : B4 w0 N M ia im { s with g := some (g, k) } w' := by
 have hh := h.call hc;refine ⟨hh.ch, hh.hh, hh.ig, fun g' k' e => ?_, hh.c, hh.v, hh.t, hh.cv, hh.ct, hh.vt⟩
 cases e
 exact ⟨hw, Nat.le_trans h.ch.size hg⟩
theorem B4.beg {ic g k cb vb tb : Nat} (h : B4 w0 N M ia im ⟨some (g, k), some cb, some vb, some tb⟩ w) : Beg w0 (w.alloc (.cells (look0 N M ia ic g k cb vb tb) 61)) N M ia ic im w.heap.size g k cb vb tb := by
 have hh := h.call (Chg.alloc w (.cells (look0 N M ia ic g k cb vb tb) 61) No)
 exact ⟨heap_alloc_new _ _, hh.ig, (hh.g g k rfl).1, (hh.c cb rfl).1, (hh.v vb rfl).1, (hh.t tb rfl).1, (hh.g g k rfl).2, (hh.c cb rfl).2, (hh.v vb rfl).2, (hh.t tb rfl).2, hh.cv cb vb rfl rfl, hh.ct cb tb rfl rfl, hh.vt vb tb rfl rfl, h.ch.size, hh.ch⟩
end
theorem mem_rd4 {s : MB} {i : Nat} (h : i ∈ rd4 s) : (i = 3 ∧ s.g = none) ∨ (i = 4 ∧ s.c = none) ∨ (i = 5 ∧ s.v = none) ∨ (i = 6 ∧ s.t = none) := by
 obtain ⟨g, c, v, t⟩ := s;unfold rd4 at h
 simp only [List.mem_append] at h
 rcases h with ((h | h) | h) | h
 ·cases g with
  | none => exact .inl ⟨List.mem_singleton.1 h, rfl⟩
  | some _ => cases h
 ·cases c with
  | none => exact .inr (.inl ⟨List.mem_singleton.1 h, rfl⟩)
  | some _ => cases h
 ·cases v with
  | none => exact .inr (.inr (.inl ⟨List.mem_singleton.1 h, rfl⟩))
  | some _ => cases h
 ·cases t with
  | none => exact .inr (.inr (.inr ⟨List.mem_singleton.1 h, rfl⟩))
  | some _ => cases h
theorem full4 {s : MB} (h : s.n = 0) : ∃ g k c v t, s = ⟨some (g, k), some c, some v, some t⟩ := by
 obtain ⟨g, c, v, t⟩ := s
 rcases g with _ | ⟨g, k⟩
 ·unfold MB.n bN at h; simp only at h; omega
 ·rcases c with _ | c
  ·unfold MB.n bN at h; simp only at h; omega
  ·rcases v with _ | v
   ·unfold MB.n bN at h; simp only at h; omega
   ·rcases t with _ | t
    ·unfold MB.n bN at h; simp only at h; omega
    ·exact ⟨g, k, c, v, t, rfl⟩
theorem rd4_ne {s : MB} (h : s.n ≠ 0) : rd4 s ≠ [] := by
 obtain ⟨g, c, v, t⟩ := s
 intro he
 apply h
 unfold rd4 at he
 simp only [List.append_eq_nil_iff] at he
 obtain ⟨⟨⟨h1, h2⟩, h3⟩, h4⟩ := he
 cases g with
 | none => cases h1
 | some _ =>
  cases c with
  | none => cases h2
  | some _ =>
   cases v with
   | none => cases h3
   | some _ =>
    cases t with
    | none => cases h4
    | some _ => rfl
theorem make4 {ops : Array Oper} {Q : Exit → Act → World → Prop} {a0 : Act} {w V : World} {N M ic f : Nat} {ia : Option Addr} {im : Img} (o3 o4 o5 o6 : Oper) (h3 : ops[3]? = some o3) (h4 : ops[4]? = some o4) (h5 : ops[5]? = some o5) (h6 : ops[6]? = some o6)
  (d3 : o3.dst = some 9) (d4 : o4.dst = some 10) (d5 : o5.dst = some 11) (d6 : o6.dst = some 12) (g3 : o3.guard = none) (g4 : o4.guard = none) (g5 : o5.guard = none) (g6 : o6.guard = none)
  (r3 : ∀ s W, (execOp (A4 a0 N s).eval o3).run Tryz.prog W = .ok (.enter 41 #[.slice ia N ic]) W)
  (r4 : ∀ (W : World) (a : Act), (execOp a.eval o4).run Tryz.prog W = .ok (.value (.map (some W.heap.size))) (W.alloc (.map #[] 0)))
  (r5 : ∀ (W : World) (a : Act), (execOp a.eval o5).run Tryz.prog W = .ok (.value (.map (some W.heap.size))) (W.alloc (.map #[] 0)))
  (r6 : ∀ (W : World) (a : Act), (execOp a.eval o6).run Tryz.prog W = .ok (.value (.map (some W.heap.size))) (W.alloc (.map #[] 0)))
  (hcl : ∀ W, ImgAt W ia im → Calls Tryz.prog 41 #[.slice ia N ic] W fun e w' => ∃ g wc, e = .returned (.slice (some ⟨g, 0, none⟩) N wc) ∧ W.heap.size ≤ g ∧ WtAt w' g im ∧ Chg W w' No)
  (hst : a0 = A4 a0 N ⟨none, none, none, none⟩) (hr : ∀ s : MB, s.n ≠ 0 → Region.ready .any ops (L4 s) = rd4 s) (start : B4 w N M ia im ⟨none, none, none, none⟩ V)
  (last : ∀ g k c v t W, B4 w N M ia im ⟨some (g, k), some c, some v, some t⟩ W → wpAnyH Tryz.prog .any ops Q (fun w' => w'.heap[w.heap.size]? = some (.cells #[.int .i64 N, .int .i64 M] 42 (0, 0))) f (L4 ⟨some (g, k), some c, some v, some t⟩) (A4 a0 N ⟨some (g, k), some c, some v, some t⟩) W) :
  wpAnyH Tryz.prog .any ops Q (fun w' => w'.heap[w.heap.size]? = some (.cells #[.int .i64 N, .int .i64 M] 42 (0, 0))) (f + 4) (L4 ⟨none, none, none, none⟩) a0 V := by
 rw [hst];refine wpAnyH_net (L := L4) (A := A4 a0 N) (F := B4 w N M ia im) (m := MB.n) f (fun s w h => h.hh) (fun s hs => ⟨rd4 s, hr s hs, rd4_ne hs, fun i hi W hF => ?_⟩) (fun s W hs hF => ?_) 4 _ V rfl start
 ·rcases mem_rd4 hi with ⟨rfl, e⟩ | ⟨rfl, e⟩ | ⟨rfl, e⟩ | ⟨rfl, e⟩
  ·refine opCall h3 d3 (wanted_free g3 _) (r3 s W) (hcl W hF.ig) ?_
   rintro e' w' ⟨g, k, rfl, q1, q2, q3⟩
   obtain ⟨g', c, v, t⟩ := s
   cases e
   refine ⟨_, rfl, _, ?_, ?_, ?_, hF.newG (k := k) q3 q2 q1⟩
   ·unfold MB.n bN; simp only; omega
   ·rfl
   ·unfold A4
    simp only
    rw [Array.setIfInBounds_comm (i := 12) (j := 9) _ _ (by decide), Array.setIfInBounds_comm (i := 11) (j := 9) _ _ (by decide), Array.setIfInBounds_comm (i := 10) (j := 9) _ _ (by decide), Array.setIfInBounds_setIfInBounds]
    rfl
  ·obtain ⟨g', c, v, t⟩ := s
   cases e
   refine opNew h4 d4 (wanted_free g4 _) (r4 W _) ⟨_, ?_, ?_, ?_, hF.newC⟩
   ·unfold MB.n bN; simp only; omega
   ·rfl
   ·unfold A4
    simp only
    rw [Array.setIfInBounds_comm (i := 12) (j := 10) _ _ (by decide), Array.setIfInBounds_comm (i := 11) (j := 10) _ _ (by decide), Array.setIfInBounds_setIfInBounds]
    rfl
  ·obtain ⟨g', c, v, t⟩ := s
   cases e
   refine opNew h5 d5 (wanted_free g5 _) (r5 W _) ⟨_, ?_, ?_, ?_, hF.newV⟩
   ·unfold MB.n bN; simp only; omega
   ·rfl
   ·unfold A4
    simp only
    rw [Array.setIfInBounds_comm (i := 12) (j := 11) _ _ (by decide), Array.setIfInBounds_setIfInBounds]
    rfl
  ·obtain ⟨g', c, v, t⟩ := s
   cases e
   refine opNew h6 d6 (wanted_free g6 _) (r6 W _) ⟨_, ?_, ?_, ?_, hF.newT⟩
   ·unfold MB.n bN; simp only
   ·rfl
   ·unfold A4
    simp only
    rw [Array.setIfInBounds_setIfInBounds]
    rfl
 ·obtain ⟨g, k, c, v, t, rfl⟩ := full4 hs
  exact last g k c v t W hF

set_option maxRecDepth 100000 in
set_option maxHeartbeats 4000000 in
theorem begin_any {b o ic N M : Nat} {im : Img} {w : World} (h : ImgAt w (some ⟨b, o, none⟩) im) (hl : im.length = N) (n1 : 8 ≤ N) (n2 : N ≤ 4096) (m1 : 1 ≤ M) (m2 : M + 2 ≤ N) :
  Calls Tryz.prog 22 #[.agg (SUA N M), .slice (some ⟨b, o, none⟩) N ic] w fun e w' => ∃ lb wc, e = .returned (.pointer (some ⟨lb.p, 0, none⟩)) ∧ IsL w' ⟨w.heap.size, lb, N, M, some ⟨b, o, none⟩, ic, wc, im⟩ ⟨im, fun _ => false, fun _ => false, fun _ => none, []⟩ ∧ Chg w w' No ∧ w.heap.size ≤ lb.p := by
 have hmm := @run_makeMap Tryz.prog;have hA := Chg.alloc w (.cells #[.int .i64 N, .int .i64 M] 42) No;have HA := hid hA;have HN := hid (heap_alloc_new w (.cells #[.int .i64 N, .int .i64 M] 42));have HI := hid (h.keep hA (fun _ _ e => e))
 have HIB : Hid (b < w.heap.size) := hid (by
  rcases h.2 with e | ⟨b', o', e, hb, _⟩
  ·rw [e] at hl; simp at hl; omega
  ·cases e; exact hb)
 have HB : Hid (8 ≤ N ∧ N ≤ 4096 ∧ 1 ≤ M ∧ M + 2 ≤ N) := hid ⟨n1, n2, m1, m2⟩;have HL := hid hl;clear h hl n1 n2 m1 m2 hA;unfold SUA
 go_enter Tryz.func22, Tryz.ntmps22
 go_upto_region 1 with fail
 go_cut [5] (fun x wz => ∃ p g wc cb vb tb : Nat, x = .pointer (some ⟨p, 0, none⟩) ∧ Hid (Beg w wz N M (some ⟨b, o, none⟩) ic im p g wc cb vb tb))
 case first =>
  obtain ⟨w0, hw0⟩ : ∃ y, y = w.alloc (.cells #[.int .i64 N, .int .i64 M] 42) := ⟨_, rfl⟩;rw [← hw0] at HA HN HI ⊢;have HZ : Hid (w.heap.size < w0.heap.size) := hid (slt HN.out);clear hw0;refine wp_region_noPanic ?_;refine wp_region_held_drew (S := fun w' => w'.heap[w.heap.size]? = some (.cells #[.int .i64 N, .int .i64 M] 42 (0, 0))) (by kernel_rfl) HN.out (fun hH => ?_);obtain ⟨v, hv⟩ : ∃ y, y = w0.drew := ⟨_, rfl⟩;rw [← hv] at hH ⊢;have HC : Hid (Chg w v No) := hid (by rw [hv]; exact HA.out.drew);have HM : Hid (ImgAt v (some ⟨b, o, none⟩) im) := hid (by rw [hv]; exact HI.out.keep (Chg.refl w0 No).drew (fun _ _ e => e));have HH := hid hH;have HZ : Hid (w.heap.size < v.heap.size) := hid (slt hH);clear hv HA HN HI;refine takeR 0 6 42 (.tmp 2) w.heap.size 42 #[.int .i64 N, .int .i64 M] _ rfl (by kernel_rfl) (by kernel_rfl) (by kernel_rfl) rfl rfl rfl Tryz.underlying42 rfl szSU (by rfl) (fun _ _ _ h => h) hH (fun W' hw' => hw') ?_;simp only [sS];refine tV 1 7 (.slice (some ⟨b, o, none⟩) N ic) rfl (by kernel_rfl) rfl (by rfl) hH (fun W' hw' => rfl) ?_;simp only [sS];refine tV 2 8 (.slice (some ⟨b, o, none⟩) N ic) rfl (by kernel_rfl) rfl (by rfl) hH (fun W' hw' => rfl) ?_;simp only [sS]
  refine make4 (f := 3) (ic := ic) (ia := some ⟨b, o, none⟩) (im := im) (w := w) (N := N) (M := M) _ _ _ _ rfl rfl rfl rfl rfl rfl rfl rfl rfl rfl rfl rfl (fun s W => by simp only [A4]; go_simp) (fun W a => by go_simp) (fun W a => by go_simp) (fun W a => by go_simp) (fun W hW => by
   have hk := clone_any (ic := ic) hW (by have := HB.out.1; have := HL.out; omega) (by have := HB.out.2.1; have := HL.out; omega);rw [HL.out] at hk
   exact hk) rfl (fun s hs => ?_) ⟨HC.out, HH.out, HM.out, (fun _ _ e => by cases e), (fun _ e => by cases e), (fun _ e => by cases e), (fun _ e => by cases e), (fun _ _ e => by cases e), (fun _ _ e => by cases e), fun _ _ e => by cases e⟩ (fun g k cb vb tb W h4 => ?_)
  ·rcases s with ⟨_ | ⟨g, k⟩, _ | c, _ | v, _ | t⟩ <;> first | exact absurd rfl hs | kernel_rfl
  simp only [A4, L4, vMap, vCl, Option.isSome_some, List.setIfInBounds_toArray, List.set_cons_zero, List.set_cons_succ]
  have hH4 := h4.hh;refine tV 7 13 (.agg (look0 N M (some ⟨b, o, none⟩) ic g k cb vb tb)) rfl (by kernel_rfl) rfl (by rfl) hH4 (fun W' hw' => by unfold look0; go_simp) ?_;simp only [sS];refine step1 8 (by kernel_rfl) ?_;refine stNew 8 14 (.pointer (some ⟨W.heap.size, 0, none⟩)) (.cells (look0 N M (some ⟨b, o, none⟩) ic g k cb vb tb) 61) rfl rfl (by rfl) (by unfold look0; go_simp) ?_;have HP := hid (h4.beg (ic := ic) (M := M));have hc := Chg.alloc W (.cells (look0 N M (some ⟨b, o, none⟩) ic g k cb vb tb) 61) No;have hH5 := hc.keep hH4 (fun e => e);refine ⟨hH5, ?_⟩;simp only [sS];refine tV 9 5 (.pointer (some ⟨W.heap.size, 0, none⟩)) rfl (by kernel_rfl) rfl (by rfl) hH5 (fun W' hw' => rfl) ?_;simp only [sS];refine wpAnyH_done (by kernel_rfl) ?_ _;refine NoPanic.normal ?_;clear hH hH4 hH5 hc h4
  go_wp2_with fail
  go_meet
  case rel => exact ⟨_, _, _, _, _, _, rfl, HP⟩
 case rest =>
  obtain ⟨p, g, cp, cb, vb, tb, rfl, HP⟩ := hcut;have hq := queue_any wc;obtain ⟨w1, hw1⟩ : ∃ y, y = wc.alloc (.cells #[.slice none 0 0] 126) := ⟨_, rfl⟩;have HW : Hid (w1.heap[wc.heap.size]? = some (.cells #[.slice none 0 0] 126 (0, 0))) := hid (by rw [hw1]; exact heap_alloc_new _ _);have HC1 : Hid (Chg wc w1 No) := hid (by rw [hw1]; exact Chg.alloc _ _ _);rw [← hw1] at hq;have me1 := HC1.out.keep HP.out.me (fun e => e);have HME := hid me1;have d7 : w1.cell? ⟨p, 7, none⟩ = some .nilFunc := (cell_of_row _ _ _ _ _ _ me1).trans rfl;have d8 : w1.cell? ⟨p, 8, none⟩ = some .nilFunc := (cell_of_row _ _ _ _ _ _ me1).trans rfl;have f7 := frozen_of_row w1 p 7 _ _ me1;have f8 := frozen_of_row w1 p 8 _ _ me1;clear me1 hw1
  go_wp2_with (first
   | (go_at_call 42; go_must (refine hq.mono ?_; rintro e w1 ⟨rfl, rfl⟩))
   | fail)
  go_ret
  obtain ⟨w3, hw3⟩ : ∃ y, y = (w1.setCell ⟨p, 7, none⟩ (.func (.func 73) #[] #[.pointer (some ⟨wc.heap.size, 0, none⟩)])).setCell ⟨p, 8, none⟩ (.func (.func 74) #[] #[.pointer (some ⟨wc.heap.size, 0, none⟩)]) := ⟨_, rfl⟩;rw [← hw3]
  have hc3 : Chg w1 w3 (· = p) := by rw [hw3]; exact (Chg.setCell).trans Chg.setCell (fun _ _ e => e) (fun _ _ e => e)
  have hm3 : w3.heap[p]? = some (.cells (lookV ⟨p, g, cb, vb, tb, wc.heap.size⟩ N M (some ⟨b, o, none⟩) ic cp) 61 (0, 0)) := by
   rw [hw3]
   exact (heap_setCell_same _ p 8 _ _ _ (heap_setCell_same w1 p 7 _ _ _ HME.out)).trans rfl
  have hP := HP.out;have hB := HB.out;have hps := slt hP.me;obtain ⟨A, hA⟩ := (hP.wt.keep HC1.out (fun e => e)).isRow;obtain ⟨e4, k4, q4⟩ := (hP.h4.keep HC1.out (fun e => e)).isMap;obtain ⟨e5, k5, q5⟩ := (hP.h5.keep HC1.out (fun e => e)).isMap;obtain ⟨e6, k6, q6⟩ := (hP.h6.keep HC1.out (fun e => e)).isMap;have n3 : ¬ g = p := obj_ne hA HME.out (by intro e; cases e);have n4 : ¬ cb = p := obj_ne q4 HME.out (by intro e; cases e);have n5 : ¬ vb = p := obj_ne q5 HME.out (by intro e; cases e);have n6 : ¬ tb = p := obj_ne q6 HME.out (by intro e; cases e)
  have nq : ¬ wc.heap.size = p := by omega
  have hws := hP.ch.size
  have ci3 : ImgAt w3 (some ⟨b, o, none⟩) im := (hP.ci.keep HC1.out (fun _ _ e => e)).keep hc3 (fun k hk e => by
   have h1 := hP.pp;have h2 := HIB.out;have h3 : b = k := hk
   omega)
  refine ⟨⟨p, g, cb, vb, tb, wc.heap.size⟩, cp, rfl, ⟨⟨⟨hm3, ci3, HL.out, hB.1, hB.2.1, hB.2.2.1, hB.2.2.2, fun k hk => ?_, hP.b0, hP.b1, hP.b2, hP.b3, hws, hP.cv, hP.ct, hP.vt⟩, ⟨(hP.wt.keep HC1.out (fun e => e)).keep hc3 n3, HL.out, ?_, fun x hx => by cases hx⟩, ?_, fun x hx => by cases hx⟩, ?_, ⟨hws, .slice none 0 0, [], hc3.keep HW.out nq, .inl ⟨rfl, rfl⟩, rfl, fun j l hj => by simp at hj⟩⟩, (hP.ch.trans HC1.out (c := No) (fun _ _ e => e) (fun _ _ e => e)).trans hc3 (fun _ _ e => e) (fun j hj e => by have h1 := hP.pp; omega), hP.pp⟩
  ·have h3 : b = k := hk
   have := HIB.out
   show k < w.heap.size
   omega
  ·have := (hP.h4.keep HC1.out (fun e => e)).keep hc3 n4
   simpa using this
  ·have := (hP.h5.keep HC1.out (fun e => e)).keep hc3 n5
   simpa using this
  ·have := (hP.h6.keep HC1.out (fun e => e)).keep hc3 n6
   simpa using this

end Go.Proofs.YtpmignilhoihnaaGreat

namespace Go.Proofs.YtpmignilhoihnaaGreat
open Go.RowKit Go.Shelf

def loadE (M : Nat) (s : LS) : Nat := s.q.length + freeN M s.tk
theorem enterL_E {c : LC} {s : LS} {i : Int} (hi : May c s i) : loadE c.M (enterL c.N c.M c.im i s) ≤ loadE c.M s := by
 unfold May at hi;unfold enterL
 cases ht : s.tk i with
 | some z =>
  simp only
  unfold loadE
  simp only
  rw [freeN_same ht]
  exact Nat.le_refl _
 | none =>
  rw [ht] at hi
  simp only at hi ⊢
  obtain ⟨b1, b2, _, _⟩ := sound_bd hi;have hfr := freeN_put (z := moreZ (inoT c.N c.M (soundZ c.M c.im i).1 s.wt s.cl)) b1 b2 ht;unfold loadE
  simp only [takeL_tk]
  rcases takeL_q c.N c.M (soundZ c.M c.im i).1 s with e | e <;> rw [e]
  ·omega
  ·rw [List.length_append]
   simp only [List.length_singleton]
   omega
theorem slotL_E {c : LC} (n : Int) (r : List ByteArray × LS) : loadE c.M (slotL c.N c.M c.im n r).2 ≤ loadE c.M r.2 := by
 unfold slotL
 simp only
 split
 ·exact Nat.le_refl _
 ·split
  ·rename_i hh
   exact enterL_E (may_of hh.2)
  ·exact Nat.le_refl _
theorem dirK_E {c : LC} : ∀ (l : List Int) (r : List ByteArray × LS), loadE c.M (dirK c.N c.M c.im l r).2 ≤ loadE c.M r.2
 | [], _ => Nat.le_refl _
 | n :: l, r => Nat.le_trans (dirK_E l _) (slotL_E n r)
theorem dirL_E {c : LC} (l : List Int) (s : LS) : loadE c.M (dirL c.N c.M c.im l s) ≤ loadE c.M s := dirK_E l ([], s)
theorem dirL_ok {c : LC} {l : List Int} {s : LS} (h : LOk c s) : LOk c (dirL c.N c.M c.im l s) := dirK_ok l ([], s) h
theorem allL_nil {N M : Int} {im : Img} {s : LS} (h : s.q = []) : ∀ f, allL N M im f s = s
 | 0 => rfl
 | f + 1 => by simp [allL, h]
theorem allL_cons {N M : Int} {im : Img} {s : LS} {l : List Int} {q : List (List Int)} (h : s.q = l :: q) (f : Nat) : allL N M im (f + 1) s = allL N M im f (dirL N M im l { s with q := q }) := by simp [allL, h]
theorem load_pop {M : Nat} {s : LS} {l : List Int} {q : List (List Int)} (h : s.q = l :: q) : loadE M { s with q := q } + 1 = loadE M s := by
 unfold loadE
 simp only [h, List.length_cons]
 omega
theorem LOk.pop {c : LC} {s : LS} {l : List Int} {q : List (List Int)} (h : LOk c s) (e : s.q = l :: q) : LOk c { s with q := q } :=
 ⟨h.tk, fun m hm => h.qd m (by rw [e]; exact List.mem_cons_of_mem _ hm), fun m hm => h.ql m (by rw [e]; exact List.mem_cons_of_mem _ hm), by have h1 := h.fr; rw [e] at h1; simp only [List.length_cons] at h1; show q.length + freeN c.M s.tk ≤ c.M; omega⟩
theorem allL_ok {c : LC} : ∀ (f : Nat) (s : LS), LOk c s → LOk c (allL c.N c.M c.im f s)
 | 0, _, h => h
 | f + 1, s, h => by
  cases hq : s.q with
  | nil => rw [allL_nil hq]; exact h
  | cons l q => rw [allL_cons hq]; exact allL_ok f _ (dirL_ok (h.pop hq))
def startL (im : Img) : LS := ⟨im, fun _ => false, fun _ => false, fun _ => none, []⟩
theorem startL_ok (c : LC) (im : Img) : LOk c (startL im) where
 tk := fun i z h => by cases h
 qd := fun l hl => by cases hl
 ql := fun l hl => by cases hl
 fr := by
  show 0 + freeN c.M (startL im).tk ≤ c.M
  have := freeN_le c.M (startL im).tk
  omega
def goneL (M : Nat) (im : Img) : LS := allL im.length M im M (enterL im.length M im 1 (startL im))
def lookL (M : Nat) (im : Img) : LS := { goneL M im with wt := layK (goneL M im).tk (goneL M im).wt M }
def rootB (M : Nat) (im : Img) : Bool := (soundZ M im 1).2 && decide ((soundZ M im 1).1.getD 0 0 = 2)
def lookE (im : Img) : Int := if (supOf im).2.2 ≠ 0 then 120 else if rootB (supOf im).2.1.toNat im = true then 0 else 121

theorem ex_least (P : Nat → Prop) : ∀ n, P n → ∃ m, P m ∧ ∀ k, k < m → ¬ P k := by
 intro n
 induction n using Nat.strongRecOn with
 | ind n ih =>
  intro hn
  by_cases h : ∃ k, k < n ∧ P k
  ·obtain ⟨k, hk, hp⟩ := h
   exact ih k hk hp
  ·exact ⟨n, hn, fun k hk hp => h ⟨k, hk, hp⟩⟩
open Classical in
noncomputable def leastN (P : Nat → Prop) : Nat := if h : ∃ n, P n then Classical.choose (ex_least P (Classical.choose h) (Classical.choose_spec h)) else 0
theorem leastN_spec {P : Nat → Prop} (h : ∃ n, P n) : P (leastN P) := by
 unfold leastN;rw [dif_pos h]
 exact (Classical.choose_spec (ex_least P (Classical.choose h) (Classical.choose_spec h))).1
theorem leastN_le {P : Nat → Prop} {n : Nat} (h : P n) : leastN P ≤ n := by
 unfold leastN;rw [dif_pos ⟨n, h⟩];have := (Classical.choose_spec (ex_least P (Classical.choose ⟨n, h⟩) (Classical.choose_spec ⟨n, h⟩))).2
 rcases Nat.lt_or_ge n (Classical.choose (ex_least P (Classical.choose ⟨n, h⟩) (Classical.choose_spec ⟨n, h⟩))) with k | k
 ·exact absurd h (this n k)
 ·exact k

end Go.Proofs.YtpmignilhoihnaaGreat

namespace Go.Proofs.YtpmignilhoihnaaGreat
open Go.RowKit Go.Shelf

theorem begin_any2 {b o ic N M : Nat} {im : Img} {w : World} (h : ImgAt w (some ⟨b, o, none⟩) im) (hl : im.length = N) (n1 : 8 ≤ N) (n2 : N ≤ 4096) (m1 : 1 ≤ M) (m2 : M + 2 ≤ N) :
  Calls Tryz.prog 22 #[.agg (SUA N M), .slice (some ⟨b, o, none⟩) N ic] w fun e w' => ∃ c : LC, e = .returned (LP c) ∧ c.B = w.heap.size ∧ c.N = N ∧ c.M = M ∧ c.im = im ∧ IsL w' c (startL im) ∧ Chg w w' No ∧ w.heap.size ≤ c.b.p := by
 refine (begin_any h hl n1 n2 m1 m2).mono ?_
 rintro e w' ⟨lb, wc, rfl, h1, h2, h3⟩
 exact ⟨⟨w.heap.size, lb, N, M, some ⟨b, o, none⟩, ic, wc, im⟩, rfl, rfl, rfl, rfl, rfl, h1, h2, h3⟩
theorem kl_new {w0 w w' : World} {c : LC} (h0 : Chg w0 w No) (h : Chg w w' (Kl c w)) (hB : w0.heap.size ≤ c.B) : Chg w0 w' No :=
 h0.trans h (fun _ _ e => e) (fun j hj e => by have := e.1; omega)
def LkI (w0 w : World) (c : LC) (F : LS) (f : Nat) (x : Value) (b : Bool) : Prop :=
 Chg w0 w No ∧ ((b = false ∧ IsL w c F) ∨ (b = true ∧ ∃ g l s a cap, f = g + 1 ∧ x = .slice a l.length cap ∧ LAt w a l ∧ IsL w c s ∧ LOk c s ∧ (∀ y ∈ l, (c.M : Int) < y ∧ y < c.N) ∧ l.length ≤ 1068 ∧ loadE c.M (dirL c.N c.M c.im l s) ≤ g ∧ F = allL c.N c.M c.im g (dirL c.N c.M c.im l s)))
theorem next_any {w0 w : World} {c : LC} {s F : LS} {f : Nat} (h : IsL w c s) (hk : LOk c s) (hf : loadE c.M s ≤ f) (hF : F = allL c.N c.M c.im f s) (h0 : Chg w0 w No) (hB : w0.heap.size ≤ c.B) :
  Calls Tryz.prog 74 #[.pointer (some ⟨c.b.qb, 0, none⟩)] w fun e w' => ∃ x b, e = .returned (.tuple #[x, .bool b]) ∧ LkI w0 w' c F f x b := by
 have hM := h.v.p.m2;have hN := h.v.p.n2;have hfr := hk.fr
 cases hq : s.q with
 | nil =>
  have hQ := h.q;rw [hq] at hQ;refine (empty_none c.B c.b.qb w hQ).mono ?_
  rintro e w' ⟨rfl, rfl⟩
  exact ⟨_, false, rfl, h0, .inl ⟨rfl, by rw [hF, allL_nil hq]; exact h⟩⟩
 | cons l q =>
  have hQ := h.q;rw [hq] at hQ hfr
  simp only [List.length_cons] at hfr
  refine (empty_some c.B c.b.qb l q w hQ (by omega)).mono ?_
  rintro e w' ⟨a, cap, rfl, hl, hq', hc⟩
  obtain ⟨h1, h2⟩ := h.queued hq' (hc.mono fun _ _ e => .inl e);have e1 := load_pop (M := c.M) hq;have e2 := dirL_E (c := c) l { s with q := q };obtain ⟨g, rfl⟩ : ∃ g, f = g + 1 := ⟨f - 1, by omega⟩
  exact ⟨_, true, rfl, kl_new h0 h2 hB, .inr ⟨rfl, g, l, { s with q := q }, a, cap, rfl, rfl, hl, h1, hk.pop hq, hk.qd l (by rw [hq]; exact List.mem_cons_self), hk.ql l (by rw [hq]; exact List.mem_cons_self), by omega, by rw [hF, allL_cons hq]⟩⟩
theorem rootB_parts {M : Nat} {im : Img} : rootB M im = true ↔ (soundZ M im 1).2 = true ∧ (soundZ M im 1).1.getD 0 0 = 2 := by simp [rootB]

end Go.Proofs.YtpmignilhoihnaaGreat

namespace Go.Proofs.YtpmignilhoihnaaGreat
open Go.RowKit Go.Shelf

def writeI (M : Nat) (im : Img) (s : LS) : List Int := catK (fun j => keysL im.length fun x => decide (wrKind M im s.wt s.wp x = j)) 3
def inodesI (M : Nat) (s : LS) : List Int := keysL (M + 1) fun x => (s.tk x).isSome
def blocksI (im : Img) (s : LS) : List Int := keysL im.length s.cl
def RepAt (w0 w : World) (r : Array Value) (T : Img) (l1 l2 l3 : List Int) : Prop :=
 ∃ g wc v1 v2 v3, r = #[.slice (some ⟨g, 0, none⟩) T.length wc, v1, v2, v3] ∧ w0.heap.size ≤ g ∧ WtAt w g T ∧ Rep w0 w v1 v2 v3 l1 l2 l3
theorem build_rep (w : World) : (Instr.build 26 #[]).run Tryz.prog w = .ok (.agg nil4) w := by kernel_rfl
theorem nil4_one : nil4.all (·.oneCell') = true := by simp [nil4, Value.oneCell']

set_option maxRecDepth 100000 in
set_option maxHeartbeats 4000000 in
theorem look_bad (ia : Option Addr) (ic : Nat) (im : Img) (w : World) (h : ImgAt w ia im) (he : (supOf im).2.2 ≠ 0) :
  Calls Tryz.prog 10 #[.slice ia im.length ic] w fun e w' => e = .returned (.tuple #[.agg nil4, .int .i64 120]) ∧ Chg w w' No := by
 have hzr := zero_rep;have hbr := build_rep
 have hzs : ∀ w', (zeroValue 42).run Tryz.prog w' = .ok (.agg #[.int .i64 0, .int .i64 0]) w' := fun w' => by kernel_rfl
 have hA := Chg.alloc w (.cells nil4 26) No;have HA := hid hA;have HN := hid (heap_alloc_new w (.cells nil4 26));have hSO := superOf_any ia ic im (w.alloc (.cells nil4 26)) (h.keep hA (fun _ _ e => e))
 have e120 : (supOf im).2.2 = 120 := by
  unfold supOf at he ⊢
  split
  ·rename_i h1
   rw [if_pos h1] at he
   simp only at he ⊢
   split
   ·rename_i h2
    rw [if_pos h2] at he
    exact absurd h2.1 he
   ·rfl
  ·rfl
 rw [e120] at hSO
 generalize (supOf im).1 = sa at *
 generalize (supOf im).2.1 = sb at *
 generalize im.length = n at *
 clear h hA he e120
 go_enter Tryz.func10, Tryz.ntmps10
 go_wp2_with (first
  | (go_at_call 21; go_must (refine hSO.mono ?_; rintro e w1 ⟨rfl, hc1⟩))
  | (refine store_R rfl 42 _ _ rfl w1.heap.size (SUA sa sb) rfl rfl 42 _ (heap_alloc_new _ _) szSU rfl (SUA_one _ _) ?_; intro w2 hw2; have hcA : Chg w w2 No := ((HA.out.trans hc1 (c := No) (fun _ _ e => e) (fun _ _ e => e)).trans (Chg.alloc w1 (.cells #[.int .i64 0, .int .i64 0] 42) No) (c := No) (fun _ _ e => e) (fun _ _ e => e)).trans (kt_new hw2) (fun _ _ e => e) (fun j hj e => by have := hc1.size; simp at this; omega); have hN2 : w2.heap[w.heap.size]? = some (.cells nil4 26 (0, 0)) := ((hc1.trans (Chg.alloc w1 (.cells #[.int .i64 0, .int .i64 0] 42) No) (c := No) (fun _ _ e => e) (fun _ _ e => e)).trans (kt_new hw2) (c := (· = w1.heap.size)) (fun _ _ e => e.elim) (fun _ _ e => e)).keep HN.out (fun e => by have := hc1.size; simp at this; omega))
  | (refine store_R rfl 26 _ _ rfl w.heap.size nil4 rfl rfl 26 _ hN2 szRep rfl nil4_one ?_; intro w5 hw5)
  | fail)
 refine bodyPost_ret (v := .tuple #[.agg nil4, .int .i64 120]) (results_R Tryz.results10 _ _ w.heap.size _ 26 _ _ Tryz.underlying26 rfl szRep rfl rfl hw5.here) rfl ⟨rfl, hcA.trans (kt_new hw5) (fun _ _ e => e) (fun j hj e => by omega)⟩

end Go.Proofs.YtpmignilhoihnaaGreat

namespace Go.Proofs.YtpmignilhoihnaaGreat
open Go.RowKit Go.Shelf

theorem Rep.keep {w0 w w' : World} {v1 v2 v3 : Value} {l1 l2 l3 : List Int} {k : Nat} (h : Rep w0 w v1 v2 v3 l1 l2 l3) (hc : Chg w w' (· = k)) (hk : k < w0.heap.size) : Rep w0 w' v1 v2 v3 l1 l2 l3 :=
 ⟨h.o1.keep hc (fun j e1 e2 => by have := (h.o1.blk e1).1; omega), h.o2.keep hc (fun j e1 e2 => by have := (h.o2.blk e1).1; omega), h.o3.keep hc (fun j e1 e2 => by have := (h.o3.blk e1).1; omega), h.a12, h.a13, h.a23⟩
theorem Rep.base {w0 w1 w : World} {v1 v2 v3 : Value} {l1 l2 l3 : List Int} (h : Rep w1 w v1 v2 v3 l1 l2 l3) (hb : w0.heap.size ≤ w1.heap.size) : Rep w0 w v1 v2 v3 l1 l2 l3 :=
 ⟨h.o1.base hb, h.o2.base hb, h.o3.base hb, h.a12, h.a13, h.a23⟩

theorem rep_one (a : Option Addr) (n c : Nat) {v1 v2 v3 : Value} (h1 : v1.oneCell' = true) (h2 : v2.oneCell' = true) (h3 : v3.oneCell' = true) : (#[Value.slice a n c, v1, v2, v3]).all (·.oneCell') = true := by
 have h0 : (Value.slice a n c).oneCell' = true := rfl
 simp [h0, h1, h2, h3]
def LookPost (M : Nat) (im : Img) (w : World) (e : Ending) (w' : World) : Prop :=
 ∃ r, e = .returned (.tuple #[.agg r, .int .i64 (if rootB M im = true then 0 else 121)]) ∧ Chg w w' No ∧ (rootB M im = false → r = nil4) ∧ (rootB M im = true → RepAt w w' r (lookL M im).wt (writeI M im (lookL M im)) (inodesI M (lookL M im)) (blocksI im (lookL M im)))

set_option maxRecDepth 100000 in
set_option maxHeartbeats 4000000 in
theorem look_good (ia : Option Addr) (ic : Nat) (im : Img) (M : Nat) (w : World) (h : ImgAt w ia im) (he : (supOf im).2.2 = 0) (hM : M = (supOf im).2.1.toNat) :
  Calls Tryz.prog 10 #[.slice ia im.length ic] w fun e w' => LookPost M im w e w' := by
 have hzr := zero_rep;have hbr := build_rep;have hzi := zero_inode
 have hzs : ∀ w', (zeroValue 42).run Tryz.prog w' = .ok (.agg #[.int .i64 0, .int .i64 0]) w' := fun w' => by kernel_rfl
 have hA := Chg.alloc w (.cells nil4 26) No;have HA := hid hA;have HN := hid (heap_alloc_new w (.cells nil4 26));have hI0 := h.keep hA (fun _ _ e => e);have hSO := superOf_any ia ic im (w.alloc (.cells nil4 26)) hI0;obtain ⟨s1, s2, s3, s4, s5⟩ := supOf_ok he;rw [he, s1, show (supOf im).2.1 = ((M : Nat) : Int) by omega] at hSO
 have m1 : 1 ≤ M := by omega
 have m2 : M + 2 ≤ im.length := by omega
 obtain ⟨b, o, hia⟩ : ∃ b o, ia = some ⟨b, o, none⟩ := by
  rcases h.2 with e | ⟨b, o, e, _⟩
  ·rw [e] at s2; simp at s2
  ·exact ⟨b, o, e⟩
 subst hia;have HI0 := hid hI0;have HS := hid (And.intro s2 (And.intro s3 (And.intro m1 m2)));obtain ⟨n, hn⟩ : ∃ y, y = im.length := ⟨_, rfl⟩;have HLn := hid hn;rw [← hn] at hSO HS ⊢;have HBG : Hid (∀ W, ImgAt W (some ⟨b, o, none⟩) im → Calls Tryz.prog 22 #[.agg (SUA n M), .slice (some ⟨b, o, none⟩) n ic] W fun e w' => ∃ c : LC, e = .returned (LP c) ∧ c.B = W.heap.size ∧ c.N = n ∧ c.M = M ∧ c.im = im ∧ IsL w' c (startL im) ∧ Chg W w' No ∧ W.heap.size ≤ c.b.p) := hid (fun W hW => begin_any2 hW HLn.out.symm HS.out.1 HS.out.2.1 HS.out.2.2.1 HS.out.2.2.2);clear h hA hI0 he hM s1 s2 s3 s4 s5 m1 m2 hn
 go_enter Tryz.func10, Tryz.ntmps10
 go_upto_region 2 with (first
  | (go_at_call 21; go_must (refine hSO.mono ?_; rintro e w1 ⟨rfl, hc1⟩))
  | (refine store_R rfl 42 _ _ rfl w1.heap.size (SUA n M) rfl rfl 42 _ (heap_alloc_new _ _) szSU rfl (SUA_one _ _) ?_; intro w2 hw2)
  | fail)
 have h12 : Chg (w.alloc (.cells nil4 26)) w2 No := (hc1.trans (Chg.alloc w1 (.cells #[.int .i64 0, .int .i64 0] 42) No) (c := No) (fun _ _ e => e) (fun _ _ e => e)).trans (kt_new hw2) (fun _ _ e => e) (fun j hj e => by have := hc1.size; omega);have HC2 : Hid (Chg w w2 No) := hid (HA.out.trans h12 (fun _ _ e => e) (fun _ _ e => e));have HN2 : Hid (w2.heap[w.heap.size]? = some (.cells nil4 26 (0, 0))) := hid (h12.keep HN.out (fun e => e));have HG2 := hid hw2.here;have HI2 := hid (HI0.out.keep h12 (fun _ _ e => e));have hBG := HBG.out w2 HI2.out;have HZ2 : Hid (w.heap.size < w2.heap.size) := hid (slt HN2.out);clear h12 hw2 hc1 hSO HI0 HN HA;obtain ⟨g4, hg4⟩ : ∃ y, y = w1.heap.size := ⟨_, rfl⟩;rw [← hg4] at HG2 ⊢;clear hg4
 go_upto_region 5 with (first
  | (refine load_R rfl 42 _ rfl g4 rfl 42 _ _ HG2.out Tryz.underlying42 rfl szSU ?_)
  | (go_at_call 22; go_must (refine hBG.mono ?_; rintro e w3 ⟨c, rfl, hB3, hN3, hM3, hi3, hL3, hc3, hp3⟩))
  | fail)
 have HB3 := hid hB3;have HNM := hid (And.intro hN3 (And.intro hM3 hi3));have HL3 := hid hL3;have HC3 := hid hc3;have hSD := sound_any 1 w3 hL3.v.p;rw [hM3, hi3] at hSD;have HRL := hid (soundZ_len M im 1);clear hBG hB3 hN3 hM3 hi3 hL3 hc3 hp3;have HRB := hid (rootB_parts (M := M) (im := im));obtain ⟨rz, hrz⟩ : ∃ y, y = soundZ M im 1 := ⟨_, rfl⟩;rw [← hrz] at hSD HRL HRB;have HRZ := hid hrz;obtain ⟨z, is⟩ := rz
 simp only at hSD HRL HRB
 clear hrz;unfold LP at hSD ⊢
 go_upto_region 6 with (first
  | (go_at_call 23; go_must (refine hSD.mono ?_; rintro e w4 ⟨rfl, hc4⟩))
  | (refine store_R rfl 51 _ _ rfl w4.heap.size (NA z) rfl rfl 51 _ (heap_alloc_new _ _) (by rw [szI, NA_size, HRL.out]) (by rw [NA_size, NA_size, Zi_len, HRL.out]) (NA_one _) ?_; intro w5 hw5)
  | fail)
 have h35 : Chg w3 w5 No := (hc4.trans (Chg.alloc w4 (.cells (NA Zi) 51) No) (c := No) (fun _ _ e => e) (fun _ _ e => e)).trans (kt_new hw5) (fun _ _ e => e) (fun j hj e => by have := hc4.size; omega);have HL5 := hid (HL3.out.call h35);have H25 : Hid (Chg w2 w5 No) := hid (HC3.out.trans h35 (fun _ _ e => e) (fun _ _ e => e));have HC5 : Hid (Chg w w5 No) := hid (HC2.out.trans H25.out (fun _ _ e => e) (fun _ _ e => e));have HN5 : Hid (w5.heap[w.heap.size]? = some (.cells nil4 26 (0, 0))) := hid (H25.out.keep HN2.out (fun e => e));have q0 := row_cell hw5.here 0 (by rw [HRL.out]; decide);obtain ⟨K, hKz⟩ : ∃ y, y = z.getD 0 0 := ⟨_, rfl⟩;rw [← hKz] at q0 HRB;obtain ⟨g7, hg7⟩ : ∃ y, y = w4.heap.size := ⟨_, rfl⟩;rw [← hg7] at q0 ⊢;clear hg7 hw5 hc4 h35 hSD HG2 hKz
 cases is with
 | false =>
  have HRf : Hid (rootB M im = false) := hid (by
   cases hq : rootB M im with
   | false => rfl
   | true => have := (HRB.out.1 hq).1; cases this)
  clear HRB
  go_wp2_with (first
   | (refine store_R rfl 26 _ _ rfl w.heap.size nil4 rfl rfl 26 _ HN5.out szRep rfl nil4_one ?_; intro w6 hw6)
   | fail)
  refine bodyPost_ret (v := .tuple #[.agg nil4, .int .i64 121]) (results_R Tryz.results10 _ _ w.heap.size _ 26 _ _ Tryz.underlying26 rfl szRep rfl rfl hw6.here) rfl ⟨nil4, by rw [HRf.out]; rfl, HC5.out.trans (kt_new hw6) (fun _ _ e => e) (fun j hj e => by omega), fun _ => rfl, fun e => by rw [HRf.out] at e; cases e⟩
 | true =>
  by_cases hK : K = 2
  ·have HRt : Hid (rootB M im = true) := hid (HRB.out.2 ⟨rfl, hK⟩)
   have HSt : Hid ((soundZ M im 1).2 = true) := hid (by rw [← HRZ.out])
   have hKb : (K == 2) = true := by simpa using hK
   clear HRB HRZ HRL;obtain ⟨s1, hs1⟩ : ∃ y, y = enterL im.length M im 1 (startL im) := ⟨_, rfl⟩
   have hMay : May c (startL im) 1 := by
    show (soundZ c.M c.im 1).2 = true
    rw [HNM.out.2.1, HNM.out.2.2]
    exact HSt.out
   have hEN := enter_any 1 w5 HL5.out (startL_ok c im).tk (by simp [startL]) hMay ⟨by decide, by decide⟩;have hOk := enterL_ok (startL_ok c im) hMay
   have eN : (c.N : Int) = (im.length : Nat) := by rw [HNM.out.1, HLn.out]
   rw [eN, HNM.out.2.1, HNM.out.2.2, ← hs1] at hEN hOk;have HOk := hid hOk
   have hld : loadE c.M s1 ≤ M := by have := hOk.fr; rw [HNM.out.2.1] at this ⊢; exact this
   have HF : Hid (goneL M im = allL c.N c.M c.im M s1) := hid (by unfold goneL; rw [eN, HNM.out.2.1, HNM.out.2.2, hs1]);have HLd := hid hld;have HFo : Hid (LOk c (goneL M im)) := hid (by rw [HF.out]; exact allL_ok M s1 hOk);clear hs1 hMay hOk hld eN;obtain ⟨F, hF⟩ : ∃ y, y = goneL M im := ⟨_, rfl⟩;rw [← hF] at HF HFo;have HFF := hid hF;have HB2 : Hid (w2.heap.size ≤ c.B) := hid (by rw [HB3.out]; exact Nat.le_refl _);clear hF;unfold LP at hEN
   go_wp2_with (first
    | (go_at_call 24; go_must (refine hEN.mono ?_; rintro e w6 ⟨rfl, hL6, hk6⟩; have d8 := hL6.v.p.c8; have hNX := next_any hL6 HOk.out HLd.out HF.out (kl_new H25.out hk6 HB2.out) HB2.out))
    | (go_at_call 74; go_must (refine hNX.mono ?_; rintro e w7 ⟨x7, b7, rfl, hI7⟩))
    | fail)
   have HI7 := hid hI7;clear hI7 hNX d8 hL6 hk6 hEN q0
   go_loopw [9, 10] (fun x9 x10 wr => ∃ (vv : Value) (bb : Bool), vv = x9 ∧ x10 = .bool bb ∧ Hid (∃ f, LkI w2 wr c F f vv bb)) (fun x9 x10 wr => leastN (fun f => ∃ bb, x10 = .bool bb ∧ LkI w2 wr c F f x9 bb))
   case atStart => exact ⟨_, _, rfl, rfl, hid ⟨_, HI7.out⟩⟩
   case round =>
    obtain ⟨vv, bb, rfl, rfl, HI⟩ := hrel
    cases bb with
    | true =>
     obtain ⟨g, hgl, l, s, a, cap, rfl, hLA, hLs, hOs, hd, hl, hle, hFe, hcw⟩ : ∃ g, leastN (fun f => ∃ bb, Value.bool true = .bool bb ∧ LkI w2 wr c F f vv bb) = g + 1 ∧ ∃ l s a cap, vv = .slice a l.length cap ∧ LAt wr a l ∧ IsL wr c s ∧ LOk c s ∧ (∀ y ∈ l, (c.M : Int) < y ∧ y < c.N) ∧ l.length ≤ 1068 ∧ loadE c.M (dirL c.N c.M c.im l s) ≤ g ∧ F = allL c.N c.M c.im g (dirL c.N c.M c.im l s) ∧ Chg w2 wr No := by
      obtain ⟨f, hf⟩ := HI.out;obtain ⟨bb, e, hI⟩ := leastN_spec (P := fun f => ∃ bb, Value.bool true = .bool bb ∧ LkI w2 wr c F f vv bb) ⟨f, true, rfl, hf⟩
      cases e
      obtain ⟨hcw, ⟨e, _⟩ | ⟨_, g, l, s, a, cap, h1, h2, h3, h4, h5, h6, h7, h8, h9⟩⟩ := hI
      ·cases e
      ·exact ⟨g, h1, l, s, a, cap, h2, h3, h4, h5, h6, h7, h8, h9, hcw⟩
     have hDR := directory_any l a cap wr hLs hOs hLA hd hl;have HGL := hid hgl;have HOd := hid (dirL_ok (l := l) hOs);have HLe := hid hle;have HFe := hid hFe;have HCw := hid hcw;unfold LP at hDR;clear hgl hLA hLs hOs hd hl hle hFe hcw HI
     go_wp2_with (first
      | (go_at_call 25; go_must (refine hDR.mono ?_; rintro e w8 ⟨rfl, hL8, hk8⟩; have d8 := hL8.v.p.c8; have hNX := next_any hL8 HOd.out HLe.out HFe.out (kl_new HCw.out hk8 HB2.out) HB2.out))
      | (go_at_call 74; go_must (refine hNX.mono ?_; rintro e w9 ⟨x9, b9, rfl, hI9⟩))
      | fail)
     exact ⟨⟨x9, b9, rfl, rfl, hid ⟨g, hI9⟩⟩, Nat.lt_of_le_of_lt (leastN_le (n := g) ⟨b9, rfl, hI9⟩) (by rw [HGL.out]; exact Nat.lt_succ_self g)⟩
    | false =>
     obtain ⟨hLs, hcw⟩ : IsL wr c F ∧ Chg w2 wr No := by
      obtain ⟨f, hcw, ⟨_, h1⟩ | ⟨e, _⟩⟩ := HI.out
      ·exact ⟨h1, hcw⟩
      ·cases e
     have hLI := layInodes_any wr hLs HFo.out.tk;have HCw := hid hcw;have HW : Hid (∀ W, IsL W c { F with wt := layK F.tk F.wt c.M } → Calls Tryz.prog 27 #[LP c] W fun e w' => ∃ v1 v2 v3, e = .returned (.agg #[.slice (some ⟨c.b.wb, 0, none⟩) c.N c.wc, v1, v2, v3]) ∧ Rep W w' v1 v2 v3 (writeL c { F with wt := layK F.tk F.wt c.M }) (inodesL c { F with wt := layK F.tk F.wt c.M }) (blocksL c { F with wt := layK F.tk F.wt c.M }) ∧ Chg W w' No) := hid (fun W hW => report_any W hW HFo.out.tk);have HLk : Hid (lookL M im = { F with wt := layK F.tk F.wt c.M }) := hid (by unfold lookL; rw [HFF.out, HNM.out.2.1]);obtain ⟨T, hT⟩ : ∃ y, y = ({ F with wt := layK F.tk F.wt c.M } : LS) := ⟨_, rfl⟩;rw [← hT] at hLI HW HLk;unfold LP at hLI HW;clear hT hLs hcw HI
     go_upto_region 14 with (first
      | (go_at_call 26; go_must (refine hLI.mono ?_; rintro e w8 ⟨rfl, hL8, hk8⟩))
      | fail)
     have hRP := HW.out w8 hL8;have HL8 := hid hL8;have HC8 : Hid (Chg w2 w8 No) := hid (kl_new HCw.out hk8 HB2.out);have HN8 : Hid (w8.heap[w.heap.size]? = some (.cells nil4 26 (0, 0))) := hid (HC8.out.keep HN2.out (fun e => e));clear hL8 hk8 hLI HW
     go_wp2_with (first
      | (go_at_call 27; go_must (refine hRP.mono ?_; rintro e w9 ⟨v1, v2, v3, rfl, hR9, hc9⟩; have hN9 := hc9.keep HN8.out (fun e => e)))
      | (refine store_R rfl 26 _ _ rfl w.heap.size #[.slice (some ⟨c.b.wb, 0, none⟩) c.N c.wc, v1, v2, v3] rfl rfl 26 _ hN9 szRep rfl (rep_one _ _ _ hR9.o1.one hR9.o2.one hR9.o3.one) ?_; intro w10 hw10)
      | fail)
     have hcA := kt_new hw10;have h29 : Chg w2 w9 No := HC8.out.trans hc9 (fun _ _ e => e) (fun _ _ e => e);have hz2 := HZ2.out;have hz8 := HC8.out.size;have hzB := HB2.out;have hb0 := HL8.out.v.p.b0
     have eN : c.N = im.length := by rw [HNM.out.1, HLn.out]
     refine bodyPost_ret (v := .tuple #[.agg #[.slice (some ⟨c.b.wb, 0, none⟩) c.N c.wc, v1, v2, v3], .int .i64 0]) (results_R Tryz.results10 _ _ w.heap.size _ 26 _ _ Tryz.underlying26 rfl szRep rfl rfl hw10.here) rfl ⟨_, by rw [HRt.out]; rfl, (HC2.out.trans h29 (c := No) (fun _ _ e => e) (fun _ _ e => e)).trans hcA (fun _ _ e => e) (fun j hj e => by omega), fun e => (by rw [HRt.out] at e; cases e), fun _ => ?_⟩;rw [HLk.out];have hwl := HL8.out.v.k.wl;have hrep := (hR9.keep hcA (by omega)).base (w0 := w) (by omega);refine ⟨c.b.wb, c.wc, v1, v2, v3, by rw [hwl], by omega, (HL8.out.v.k.wt.keep hc9 (fun e => e)).keep hcA (by omega), ?_⟩
     have e1 : writeL c T = writeI M im T := by unfold writeL writeI wrP; rw [eN, HNM.out.2.1, HNM.out.2.2]
     have e2 : inodesL c T = inodesI M T := by unfold inodesL inodesI; rw [HNM.out.2.1]
     have e3 : blocksL c T = blocksI im T := by unfold blocksL blocksI; rw [eN]
     rw [← e1, ← e2, ← e3]
     exact hrep
  ·have HRf : Hid (rootB M im = false) := hid (by
    cases hq : rootB M im with
    | false => rfl
    | true => exact absurd (HRB.out.1 hq).2 hK)
   have hKb : (K == 2) = false := by simpa using hK
   clear HRB
   go_wp2_with (first
    | (refine store_R rfl 26 _ _ rfl w.heap.size nil4 rfl rfl 26 _ HN5.out szRep rfl nil4_one ?_; intro w6 hw6)
    | fail)
   refine bodyPost_ret (v := .tuple #[.agg nil4, .int .i64 121]) (results_R Tryz.results10 _ _ w.heap.size _ 26 _ _ Tryz.underlying26 rfl szRep rfl rfl hw6.here) rfl ⟨nil4, by rw [HRf.out]; rfl, HC5.out.trans (kt_new hw6) (fun _ _ e => e) (fun j hj e => by omega), fun _ => rfl, fun e => by rw [HRf.out] at e; cases e⟩

end Go.Proofs.YtpmignilhoihnaaGreat
