/-
 The document's Look, walked.
-/
import Derived.Test.YtpmignilhoihnaaGreatOR2
namespace Go.Proofs.YtpmignilhoihnaaGreat
open Go.RowKit Go.Shelf

section
variable {ops : Array Oper} {Q : Exit → Act → World → Prop}
theorem opAppImg {i d : Nat} {o : Oper} {a : Act} {w : World} {R : Act → World → Prop} (hop : ops[i]? = some o) (hd : o.dst = some d) (hw : Region.wanted o (yielded ops a.tmps) = true) (s x : Operand)
  (ho : o.op = .call { callee := .builtin .append, args := #[s, x], argTypes := #[22, 22] }) (B g b off c : Nat) (im : Img) (hs : a.eval s = .slice (some ⟨g, 0, none⟩) 0 0) (hx : a.eval x = .slice (some ⟨b, off, none⟩) im.length c)
  (h0 : w.heap[g]? = some (.cells #[] 33 (0, 0))) (hBg : B ≤ g) (hI : ImgAt w (some ⟨b, off, none⟩) im) (hn : 1 ≤ im.length) (hl : im.length ≤ 4096)
  (hK : ∀ g' c' w', B ≤ g' → WtAt w' g' im → Chg w w' (fun k => k = g) → R { a with tmps := a.tmps.setIfInBounds d (.slice (some ⟨g', 0, none⟩) im.length c') } w') : wpOp Tryz.prog ops Q i R a w := by
 obtain ⟨ti, hi, hz, hsz, hby⟩ := infoSec;have hfl := flat_len im (fun s hx => (hI.1 s hx).1);have hown : w.ownsRow B 33 128 (.slice (some ⟨g, 0, none⟩) 0 0) 0 ([] : List Value) := ⟨rfl, .inr ⟨g, 0, #[], rfl, hBg, h0, Nat.le_refl _, by unfold maxLen; omega, rfl, rfl⟩⟩
 obtain ⟨v', w', hr, h1, h2, _, _⟩ := run_append_own_at (P := Tryz.prog) w B 22 o.type 33 ti _ 128 128 Tryz.underlying22 hi hz hsz hby (by rw [show Value.cells (.agg (SA Zs)) = SA Zs from rfl, SA_size, Zs_len]) (by decide) (.slice (some ⟨g, 0, none⟩) 0 0) 0 [] hown ⟨b, off, none⟩ im.length c (im.flatten.map (Value.int .u8)) (by rw [List.length_map, hfl]) (img_src hI hn) (fun u hu => by
  obtain ⟨y, _, rfl⟩ := List.mem_map.1 hu
  rfl) (by unfold maxLen; omega) (by omega) (by have := slt h0; omega)
 rw [Nat.zero_add, List.nil_append] at h1;obtain ⟨g', c', rfl, hB', hwt⟩ := wt_of_row hI.1 hn h1
 have hh := hK g' c' w' hB' hwt ((Chg.grown h2).mono fun j _ e => by
  have e := e.symm
  simp [Value.ownBlock] at e
  exact e.symm)
 refine wpOp_step hop (fun K hKK => ?_);rw [if_pos hw];unfold Oper.wp execOp
 simp only [ho, resolve, invoke, builtin, Sem.run_bind, Sem.run_pure, Result.andThen_ok, List.map_toArray, List.map_cons, List.map_nil, hs, hx, hr]
 refine hKK _ _ ?_;unfold Act.put;rw [hd]
 exact hh
end
end Go.Proofs.YtpmignilhoihnaaGreat

namespace Go.Proofs.YtpmignilhoihnaaGreat
open Go.RowKit Go.Shelf

inductive Wn where
 | no
 | built (b : Nat)
 | full (b g c : Nat)
structure MS where
 c : Option Nat
 t : Option Nat
 i : Option Nat
 e : Option Nat
 g : Wn
def Wn.isB : Wn → Bool
 | .no => false
 | _ => true
def Wn.isF : Wn → Bool
 | .full _ _ _ => true
 | _ => false
def Wn.n : Wn → Nat
 | .no => 2
 | .built _ => 1
 | .full _ _ _ => 0
def bn : Option Nat → Nat
 | none => 1
 | some _ => 0
def MS.n (s : MS) : Nat := bn s.c + bn s.t + bn s.i + bn s.e + s.g.n
def vM (n : Nat) : Option Nat → Value
 | none => undef
 | some g => .slice (some ⟨g, 0, none⟩) n n
def Wn.vb : Wn → Value
 | .no => undef
 | .built b => .slice (some ⟨b, 0, none⟩) 0 0
 | .full b _ _ => .slice (some ⟨b, 0, none⟩) 0 0
def Wn.vg (n : Nat) : Wn → Value
 | .full _ g c => .slice (some ⟨g, 0, none⟩) n c
 | _ => undef
def L6 (s : MS) : Array Bool := #[true, true, s.g.isB, true, s.g.isF, true, true, s.c.isSome, true, true, true, s.t.isSome, true, true, true, s.i.isSome, true, true, true, s.e.isSome, false, false, false]
def rd6 (s : MS) : List Nat := (match s.g with | .no => [2] | .built _ => [4] | .full _ _ _ => []) ++ (match s.c with | none => [7] | some _ => []) ++ (match s.t with | none => [11] | some _ => []) ++ (match s.i with | none => [15] | some _ => []) ++ (match s.e with | none => [19] | some _ => [])
def six (x : Array Value) (a b c d e f : Value) : Array Value := (((((x.setIfInBounds 40 a).setIfInBounds 42 b).setIfInBounds 45 c).setIfInBounds 49 d).setIfInBounds 53 e).setIfInBounds 57 f
section
variable {x : Array Value} {a b c d e f v : Value}
theorem six40 : (six x a b c d e f).setIfInBounds 40 v = six x v b c d e f := by
 unfold six;rw [Array.setIfInBounds_comm (i := 57) (j := 40) _ _ (by decide), Array.setIfInBounds_comm (i := 53) (j := 40) _ _ (by decide), Array.setIfInBounds_comm (i := 49) (j := 40) _ _ (by decide), Array.setIfInBounds_comm (i := 45) (j := 40) _ _ (by decide), Array.setIfInBounds_comm (i := 42) (j := 40) _ _ (by decide), Array.setIfInBounds_setIfInBounds]
theorem six42 : (six x a b c d e f).setIfInBounds 42 v = six x a v c d e f := by
 unfold six;rw [Array.setIfInBounds_comm (i := 57) (j := 42) _ _ (by decide), Array.setIfInBounds_comm (i := 53) (j := 42) _ _ (by decide), Array.setIfInBounds_comm (i := 49) (j := 42) _ _ (by decide), Array.setIfInBounds_comm (i := 45) (j := 42) _ _ (by decide), Array.setIfInBounds_setIfInBounds]
theorem six45 : (six x a b c d e f).setIfInBounds 45 v = six x a b v d e f := by
 unfold six;rw [Array.setIfInBounds_comm (i := 57) (j := 45) _ _ (by decide), Array.setIfInBounds_comm (i := 53) (j := 45) _ _ (by decide), Array.setIfInBounds_comm (i := 49) (j := 45) _ _ (by decide), Array.setIfInBounds_setIfInBounds]
theorem six49 : (six x a b c d e f).setIfInBounds 49 v = six x a b c v e f := by
 unfold six;rw [Array.setIfInBounds_comm (i := 57) (j := 49) _ _ (by decide), Array.setIfInBounds_comm (i := 53) (j := 49) _ _ (by decide), Array.setIfInBounds_setIfInBounds]
theorem six53 : (six x a b c d e f).setIfInBounds 53 v = six x a b c d v f := by
 unfold six;rw [Array.setIfInBounds_comm (i := 57) (j := 53) _ _ (by decide), Array.setIfInBounds_setIfInBounds]
theorem six57 : (six x a b c d e f).setIfInBounds 57 v = six x a b c d e v := by
 unfold six;rw [Array.setIfInBounds_setIfInBounds]
theorem gd_ne {i j : Nat} {u : Value} (h : j ≠ i) : (x.setIfInBounds j v).getD i u = x.getD i u := by
 rw [Array.getD_eq_getD_getElem?, Array.getD_eq_getD_getElem?, Array.getElem?_setIfInBounds_ne h]
theorem six_ne {k : Nat} {u : Value} (h : 40 ≠ k ∧ 42 ≠ k ∧ 45 ≠ k ∧ 49 ≠ k ∧ 53 ≠ k ∧ 57 ≠ k) : (six x a b c d e f).getD k u = x.getD k u := by
 unfold six;rw [gd_ne h.2.2.2.2.2, gd_ne h.2.2.2.2.1, gd_ne h.2.2.2.1, gd_ne h.2.2.1, gd_ne h.2.1, gd_ne h.1]
theorem six_40 {u : Value} (h : 40 < x.size) : (six x a b c d e f).getD 40 u = a := by
 unfold six;rw [gd_ne (by decide), gd_ne (by decide), gd_ne (by decide), gd_ne (by decide), gd_ne (by decide), Array.getD_eq_getD_getElem?, Array.getElem?_setIfInBounds_self_of_lt h]
 rfl
end
def A6 (a0 : Act) (n M : Nat) (s : MS) : Act := { a0 with tmps := six a0.tmps s.g.vb (s.g.vg n) (vM n s.c) (vM (M + 1) s.t) (vM (M + 1) s.i) (vM (M + 1) s.e) }
theorem A6_ev (a0 : Act) (n M : Nat) (s : MS) {k : Nat} (h : 40 ≠ k ∧ 42 ≠ k ∧ 45 ≠ k ∧ 49 ≠ k ∧ 53 ≠ k ∧ 57 ≠ k) : (A6 a0 n M s).eval (.tmp k) = a0.eval (.tmp k) := by
 unfold A6 Act.eval
 simp only
 rw [six_ne h]
theorem A6_40 (a0 : Act) (n M : Nat) (s : MS) (h : 40 < a0.tmps.size) : (A6 a0 n M s).eval (.tmp 40) = s.g.vb := by
 unfold A6 Act.eval
 simp only
 rw [six_40 h]
structure M6 (w2 : World) (n M : Nat) (im : Img) (s : MS) (w : World) : Prop where
 ch : Chg w2 w No
 c : ∀ g, s.c = some g → BAt w g n (fun _ => false) ∧ w2.heap.size ≤ g
 t : ∀ g, s.t = some g → BAt w g (M + 1) (fun _ => false) ∧ w2.heap.size ≤ g
 i : ∀ g, s.i = some g → InAt w g (M + 1) (fun _ => Zi) ∧ w2.heap.size ≤ g
 e : ∀ g, s.e = some g → NAt w g (M + 1) (fun _ => 0) ∧ w2.heap.size ≤ g
 b : ∀ b, s.g = .built b → w.heap[b]? = some (.cells #[] 33 (0, 0)) ∧ w2.heap.size ≤ b
 g : ∀ b g c, s.g = .full b g c → WtAt w g im ∧ w2.heap.size ≤ g
 d : ∀ g g', s.c = some g → s.t = some g' → g ≠ g'
section
variable {w2 w w' : World} {n M : Nat} {im : Img} {s : MS}
theorem BAt.ltM {g : Nat} {p : Int → Bool} (h : BAt w g n p) : g < w.heap.size := let ⟨_, h, _⟩ := h; slt h
theorem M6.call (h : M6 w2 n M im s w) (hc : Chg w w' No) : M6 w2 n M im s w' :=
 ⟨h.ch.trans hc (fun _ _ e => e) (fun _ _ e => e), fun g e => ⟨(h.c g e).1.keep hc (fun e => e), (h.c g e).2⟩, fun g e => ⟨(h.t g e).1.keep hc (fun e => e), (h.t g e).2⟩, fun g e => ⟨(h.i g e).1.keep hc (fun e => e), (h.i g e).2⟩, fun g e => ⟨(h.e g e).1.keep hc (fun e => e), (h.e g e).2⟩, fun b e => ⟨hc.keep (h.b b e).1 (fun e => e), (h.b b e).2⟩, fun b g c e => ⟨(h.g b g c e).1.keep hc (fun e => e), (h.g b g c e).2⟩, h.d⟩
theorem M6.newC (h : M6 w2 n M im s w) : M6 w2 n M im { s with c := some w.heap.size } (w.alloc (.cells (UA n) 4)) := by
 have hh := h.call (Chg.alloc w (.cells (UA n) 4) No);refine ⟨hh.ch, fun g e => ?_, hh.t, hh.i, hh.e, hh.b, hh.g, fun g g' e e' => ?_⟩
 ·cases e
  exact ⟨bat_made w n, h.ch.size⟩
 ·cases e
  have := (h.t g' e').1.ltM
  omega
theorem M6.newT (h : M6 w2 n M im s w) : M6 w2 n M im { s with t := some w.heap.size } (w.alloc (.cells (UA (M + 1)) 4)) := by
 have hh := h.call (Chg.alloc w (.cells (UA (M + 1)) 4) No);refine ⟨hh.ch, hh.c, fun g e => ?_, hh.i, hh.e, hh.b, hh.g, fun g g' e e' => ?_⟩
 ·cases e
  exact ⟨bat_made w (M + 1), h.ch.size⟩
 ·cases e'
  have := (h.c g e).1.ltM
  omega
theorem M6.newI (h : M6 w2 n M im s w) : M6 w2 n M im { s with i := some w.heap.size } (w.alloc (.cells (IA18 (M + 1)) 51)) := by
 have hh := h.call (Chg.alloc w (.cells (IA18 (M + 1)) 51) No);refine ⟨hh.ch, hh.c, hh.t, fun g e => ?_, hh.e, hh.b, hh.g, hh.d⟩
 cases e
 exact ⟨inat_made w (M + 1), h.ch.size⟩
theorem M6.newE (h : M6 w2 n M im s w) : M6 w2 n M im { s with e := some w.heap.size } (w.alloc (.cells (TA (M + 1)) 3)) := by
 have hh := h.call (Chg.alloc w (.cells (TA (M + 1)) 3) No);refine ⟨hh.ch, hh.c, hh.t, hh.i, fun g e => ?_, hh.b, hh.g, hh.d⟩
 cases e
 exact ⟨nat_made w (M + 1), h.ch.size⟩
theorem M6.newB (h : M6 w2 n M im s w) : M6 w2 n M im { s with g := .built w.heap.size } (w.alloc (.cells #[] 33)) := by
 have hh := h.call (Chg.alloc w (.cells #[] 33) No);refine ⟨hh.ch, hh.c, hh.t, hh.i, hh.e, fun b e => ?_, (fun b g c e => by cases e), hh.d⟩
 cases e
 exact ⟨heap_alloc_new _ _, h.ch.size⟩
theorem M6.newG (h : M6 w2 n M im s w) {b g c : Nat} (hb : s.g = .built b) (hw : WtAt w' g im) (hg : w2.heap.size ≤ g) (hc : Chg w w' (fun k => k = b)) : M6 w2 n M im { s with g := .full b g c } w' := by
 obtain ⟨h1, h2⟩ := h.b b hb;refine ⟨h.ch.trans hc (fun _ _ e => e) (fun j hj e => by omega), fun g e => ?_, fun g e => ?_, fun g e => ?_, fun g e => ?_, (fun b e => by cases e), fun b g c e => ?_, h.d⟩
 ·obtain ⟨k1, k2⟩ := h.c g e
  refine ⟨k1.keep hc ?_, k2⟩;obtain ⟨A, hA, _⟩ := k1
  exact obj_ne hA h1 (by intro e; cases e)
 ·obtain ⟨k1, k2⟩ := h.t g e
  refine ⟨k1.keep hc ?_, k2⟩;obtain ⟨A, hA, _⟩ := k1
  exact obj_ne hA h1 (by intro e; cases e)
 ·obtain ⟨k1, k2⟩ := h.i g e
  refine ⟨k1.keep hc ?_, k2⟩;obtain ⟨A, hA, _⟩ := k1
  exact obj_ne hA h1 (by intro e; cases e)
 ·obtain ⟨k1, k2⟩ := h.e g e
  refine ⟨k1.keep hc ?_, k2⟩;obtain ⟨A, hA, _⟩ := k1
  exact obj_ne hA h1 (by intro e; cases e)
 ·cases e
  exact ⟨hw, hg⟩
end
theorem run_mk {a : Act} {o : Oper} {w : World} {t : TypeId} {x : Operand} {v : Value} {ob : Obj} (ho : o.op = .makeSlice t x x) (h : (Instr.makeSlice t (a.eval x) (a.eval x)).run Tryz.prog w = .ok v (w.alloc ob)) : (execOp a.eval o).run Tryz.prog w = .ok (.value v) (w.alloc ob) := by
 unfold execOp
 simp only [ho, Sem.run_bind, Sem.run_pure, h, Result.andThen_ok]
theorem build_none (w : World) : (Instr.buildSlice 22 0 #[]).run Tryz.prog w = .ok (.slice (some ⟨w.heap.size, 0, none⟩) 0 0) (w.alloc (.cells #[] 33)) := by kernel_rfl
theorem run_bs {a : Act} {o : Oper} {w : World} (ho : o.op = .buildSlice 22 0 #[]) : (execOp a.eval o).run Tryz.prog w = .ok (.value (.slice (some ⟨w.heap.size, 0, none⟩) 0 0)) (w.alloc (.cells #[] 33)) := by
 have h := build_none w;unfold execOp
 simp only [ho, Sem.run_bind, Sem.run_pure, List.map_toArray, List.map_nil, h, Result.andThen_ok]
theorem mem_rd6 {s : MS} {i : Nat} (h : i ∈ rd6 s) : (i = 2 ∧ s.g = .no) ∨ (i = 4 ∧ ∃ b, s.g = .built b) ∨ (i = 7 ∧ s.c = none) ∨ (i = 11 ∧ s.t = none) ∨ (i = 15 ∧ s.i = none) ∨ (i = 19 ∧ s.e = none) := by
 obtain ⟨c, t, ii, e, g⟩ := s;unfold rd6 at h
 simp only [List.mem_append] at h
 rcases h with (((h | h) | h) | h) | h
 ·cases g with
  | no => exact .inl ⟨List.mem_singleton.1 h, rfl⟩
  | built b => exact .inr (.inl ⟨List.mem_singleton.1 h, b, rfl⟩)
  | full b g c => cases h
 ·cases c with
  | none => exact .inr (.inr (.inl ⟨List.mem_singleton.1 h, rfl⟩))
  | some _ => cases h
 ·cases t with
  | none => exact .inr (.inr (.inr (.inl ⟨List.mem_singleton.1 h, rfl⟩)))
  | some _ => cases h
 ·cases ii with
  | none => exact .inr (.inr (.inr (.inr (.inl ⟨List.mem_singleton.1 h, rfl⟩))))
  | some _ => cases h
 ·cases e with
  | none => exact .inr (.inr (.inr (.inr (.inr ⟨List.mem_singleton.1 h, rfl⟩))))
  | some _ => cases h
theorem rd6_ne {s : MS} (h : s.n ≠ 0) : rd6 s ≠ [] := by
 obtain ⟨c, t, ii, e, g⟩ := s
 intro he
 apply h
 unfold rd6 at he
 simp only [List.append_eq_nil_iff] at he
 obtain ⟨⟨⟨⟨h1, h2⟩, h3⟩, h4⟩, h5⟩ := he
 cases g with
 | no => cases h1
 | built _ => cases h1
 | full _ _ _ =>
  cases c with
  | none => cases h2
  | some _ =>
   cases t with
   | none => cases h3
   | some _ =>
    cases ii with
    | none => cases h4
    | some _ =>
     cases e with
     | none => cases h5
     | some _ => rfl
theorem full_of {s : MS} (h : s.n = 0) : ∃ c t i e b g k, s = ⟨some c, some t, some i, some e, .full b g k⟩ := by
 obtain ⟨c, t, ii, e, g⟩ := s
 cases c with
 | none => unfold MS.n bn at h; simp only at h; omega
 | some c =>
  cases t with
  | none => unfold MS.n bn at h; simp only at h; omega
  | some t =>
   cases ii with
   | none => unfold MS.n bn at h; simp only at h; omega
   | some ii =>
    cases e with
    | none => unfold MS.n bn at h; simp only at h; omega
    | some e =>
     cases g with
     | no => unfold MS.n Wn.n at h; simp only at h; omega
     | built _ => unfold MS.n Wn.n at h; simp only at h; omega
     | full b g k => exact ⟨c, t, ii, e, b, g, k, rfl⟩
theorem make6 {ops : Array Oper} {Q : Exit → Act → World → Prop} {a0 : Act} {w2 W : World} {n M b off ic f : Nat} {im : Img} (hl : im.length = n) (n1 : 8 ≤ n) (n2 : n ≤ 4096) (m2 : M + 2 ≤ n) (hI : ImgAt w2 (some ⟨b, off, none⟩) im)
  (o2 o4 o7 o11 o15 o19 : Oper) (h2 : ops[2]? = some o2) (h4 : ops[4]? = some o4) (h7 : ops[7]? = some o7) (h11 : ops[11]? = some o11) (h15 : ops[15]? = some o15) (h19 : ops[19]? = some o19)
  (d2 : o2.dst = some 40) (d4 : o4.dst = some 42) (d7 : o7.dst = some 45) (d11 : o11.dst = some 49) (d15 : o15.dst = some 53) (d19 : o19.dst = some 57)
  (g2 : o2.guard = none) (g4 : o4.guard = none) (g7 : o7.guard = none) (g11 : o11.guard = none) (g15 : o15.guard = none) (g19 : o19.guard = none)
  (p2 : o2.op = .buildSlice 22 0 #[]) (p4 : o4.op = .call { callee := .builtin .append, args := #[.tmp 40, .tmp 41], argTypes := #[22, 22] })
  (p7 : o7.op = .makeSlice 64 (.tmp 44) (.tmp 44)) (p11 : o11.op = .makeSlice 64 (.tmp 48) (.tmp 48)) (p15 : o15.op = .makeSlice 65 (.tmp 52) (.tmp 52)) (p19 : o19.op = .makeSlice 24 (.tmp 56) (.tmp 56))
  (hsz : a0.tmps.size = 147) (e41 : a0.eval (.tmp 41) = .slice (some ⟨b, off, none⟩) n ic) (e44 : a0.eval (.tmp 44) = .int .i64 (n : Int)) (e48 : a0.eval (.tmp 48) = .int .i64 ((M : Int) + 1)) (e52 : a0.eval (.tmp 52) = .int .i64 ((M : Int) + 1)) (e56 : a0.eval (.tmp 56) = .int .i64 ((M : Int) + 1))
  (hst : a0 = A6 a0 n M ⟨none, none, none, none, .no⟩) (hr : ∀ s : MS, s.n ≠ 0 → Region.ready .any ops (L6 s) = rd6 s) (hW : Chg w2 W No)
  (last : ∀ c t i e b g k w, M6 w2 n M im ⟨some c, some t, some i, some e, .full b g k⟩ w → wpAnyH Tryz.prog .any ops Q (fun w' => Chg w2 w' No) f (L6 ⟨some c, some t, some i, some e, .full b g k⟩) (A6 a0 n M ⟨some c, some t, some i, some e, .full b g k⟩) w) :
  wpAnyH Tryz.prog .any ops Q (fun w' => Chg w2 w' No) (f + 6) (L6 ⟨none, none, none, none, .no⟩) a0 W := by
 have hM1 : ((M + 1 : Nat) : Int) = (M : Int) + 1 := by omega
 have start : M6 w2 n M im ⟨none, none, none, none, .no⟩ W := ⟨hW, (fun g e => by cases e), (fun g e => by cases e), (fun g e => by cases e), (fun g e => by cases e), (fun b e => by cases e), (fun b g c e => by cases e), fun g g' e => by cases e⟩;rw [hst];refine wpAnyH_net (L := L6) (A := A6 a0 n M) (F := M6 w2 n M im) (m := MS.n) f (fun s w h => h.ch) (fun s hs => ⟨rd6 s, hr s hs, rd6_ne hs, fun i hi w hF => ?_⟩) (fun s w hs hF => ?_) 6 _ W rfl start
 ·have ev : ∀ k, (40 ≠ k ∧ 42 ≠ k ∧ 45 ≠ k ∧ 49 ≠ k ∧ 53 ≠ k ∧ 57 ≠ k) → (A6 a0 n M s).eval (.tmp k) = a0.eval (.tmp k) := fun k hk => A6_ev a0 n M s hk
  rcases mem_rd6 hi with ⟨rfl, e⟩ | ⟨rfl, bb, e⟩ | ⟨rfl, e⟩ | ⟨rfl, e⟩ | ⟨rfl, e⟩ | ⟨rfl, e⟩
  ·obtain ⟨c, t, ii, ee, g⟩ := s
   cases e
   refine opNew h2 d2 (wanted_free g2 _) (run_bs p2) ⟨_, ?_, ?_, ?_, hF.newB⟩
   ·rfl
   ·rfl
   ·unfold A6
    simp only [six40]
    rfl
  ·obtain ⟨c, t, ii, ee, g⟩ := s
   cases e
   obtain ⟨q1, q2⟩ := hF.b bb rfl;refine opAppImg h4 d4 (wanted_free g4 _) _ _ p4 w2.heap.size bb b off ic im ?_ ((ev 41 (by decide)).trans (by rw [e41, hl])) q1 q2 (hI.keep hF.ch (fun _ _ e => e)) (by omega) (by omega) (fun g' c' w' hB hwt hc => ?_)
   ·exact A6_40 a0 n M _ (by omega)
   ·refine ⟨_, ?_, ?_, ?_, hF.newG (c := c') rfl hwt hB hc⟩
    ·rfl
    ·rfl
    ·unfold A6
     simp only [six42, hl]
     rfl
  ·obtain ⟨c, t, ii, ee, g⟩ := s
   cases e
   refine opNew h7 d7 (wanted_free g7 _) (run_mk p7 (by rw [ev 44 (by decide), e44]; exact make_bools n (by omega) w)) ⟨_, ?_, ?_, ?_, hF.newC⟩
   ·unfold MS.n bn; simp only; omega
   ·rfl
   ·unfold A6
    simp only [six45]
    rfl
  ·obtain ⟨c, t, ii, ee, g⟩ := s
   cases e
   refine opNew h11 d11 (wanted_free g11 _) (run_mk p11 (by rw [ev 48 (by decide), e48, ← hM1]; exact make_bools (M + 1) (by omega) w)) ⟨_, ?_, ?_, ?_, hF.newT⟩
   ·unfold MS.n bn; simp only; omega
   ·rfl
   ·unfold A6
    simp only [six49]
    rfl
  ·obtain ⟨c, t, ii, ee, g⟩ := s
   cases e
   refine opNew h15 d15 (wanted_free g15 _) (run_mk p15 (by rw [ev 52 (by decide), e52, ← hM1]; exact make_inos (M + 1) (by omega) w)) ⟨_, ?_, ?_, ?_, hF.newI⟩
   ·unfold MS.n bn; simp only; omega
   ·rfl
   ·unfold A6
    simp only [six53]
    rfl
  ·obtain ⟨c, t, ii, ee, g⟩ := s
   cases e
   refine opNew h19 d19 (wanted_free g19 _) (run_mk p19 (by rw [ev 56 (by decide), e56, ← hM1]; exact make_ints (M + 1) (by omega) w)) ⟨_, ?_, ?_, ?_, hF.newE⟩
   ·unfold MS.n bn; simp only; omega
   ·rfl
   ·unfold A6
    simp only [six57]
    rfl
 ·obtain ⟨c, t, i, e, b, g, k, rfl⟩ := full_of hs
  exact last c t i e b g k w hF
end Go.Proofs.YtpmignilhoihnaaGreat

namespace Go.Proofs.YtpmignilhoihnaaGreat
open Go.RowKit Go.Shelf

def KC6 (w : World) (n M b off ic c t i e g k : Nat) (im : Img) : KC := ⟨w.heap.size, g, k, c, t, i, e, w.heap.size + 1, n, M, some ⟨b, off, none⟩, ic, im⟩
theorem isk_made {w2 w : World} {n M b off ic c t i e bb g k : Nat} {im : Img} (hI : ImgAt w2 (some ⟨b, off, none⟩) im) (hl : im.length = n) (n1 : 8 ≤ n) (n2 : n ≤ 4096) (m1 : 1 ≤ M) (m2 : M + 2 ≤ n) (h : M6 w2 n M im ⟨some c, some t, some i, some e, .full bb g k⟩ w) :
  IsK (w.alloc (.cells (rlookV (KC6 w n M b off ic c t i e g k im) (.slice none 0 0)) 67)) (KC6 w n M b off ic c t i e g k im) (startK im (.slice none 0 0)) := by
 have hA := Chg.alloc w (.cells (rlookV (KC6 w n M b off ic c t i e g k im) (.slice none 0 0)) 67) No;obtain ⟨c1, c2⟩ := h.c c rfl;obtain ⟨t1, t2⟩ := h.t t rfl;obtain ⟨i1, i2⟩ := h.i i rfl;obtain ⟨e1, e2⟩ := h.e e rfl;obtain ⟨g1, g2⟩ := h.g bb g k rfl;have hz := h.ch.size
 have hb : b < w2.heap.size := by
  rcases hI.2 with q | ⟨b', o', q, hq, _⟩
  ·rw [q] at hl; simp at hl; omega
  ·cases q; exact hq
 refine ⟨heap_alloc_new _ _, (hI.keep h.ch (fun _ _ e => e)).keep hA (fun _ _ e => e), hl, n1, n2, m1, m2, g1.keep hA (fun e => e), hl, c1.keep hA (fun e => e), t1.keep hA (fun e => e), i1.keep hA (fun e => e), fun _ => Zi_len, e1.keep hA (fun e => e), ⟨rfl, .inl ⟨rfl, rfl⟩⟩, h.d c t rfl rfl, ?_, ?_⟩
 ·obtain ⟨A, hA', _⟩ := e1
  have := slt hA'
  show e < w.heap.size + 1
  omega
 ·intro q hq
  have hq : b = q := hq;subst hq;refine ⟨?_, ?_, ?_, ?_, ?_, ?_, ?_⟩
  ·show b ≠ w.heap.size; omega
  ·show b ≠ g; omega
  ·show b ≠ c; omega
  ·show b ≠ t; omega
  ·show b ≠ i; omega
  ·show b ≠ e; omega
  ·show b < w.heap.size + 1; omega
theorem kc6_new {w2 w : World} {n M b off ic c t i e bb g k : Nat} {im : Img} (h : M6 w2 n M im ⟨some c, some t, some i, some e, .full bb g k⟩ w) : ∀ q, KC2 (KC6 w n M b off ic c t i e g k im) q → w2.heap.size ≤ q := by
 have hz := h.ch.size
 intro q hq
 rcases hq with e' | e' | e' | e' | e' | e' | e'
 ·have e' : q = w.heap.size := e'; omega
 ·have e' : q = g := e'; have := (h.g bb g k rfl).2; omega
 ·have e' : q = c := e'; have := (h.c c rfl).2; omega
 ·have e' : q = t := e'; have := (h.t t rfl).2; omega
 ·have e' : q = i := e'; have := (h.i i rfl).2; omega
 ·have e' : q = e := e'; have := (h.e e rfl).2; omega
 ·have e' : w.heap.size + 1 ≤ q := e'; omega
structure LW (w2 w : World) (c : KC) (F : LS) (j : Nat) (k : KT) (s : LS) (pre ds : List Int) : Prop where
 is : IsK w c k
 db : DB c.N c.M c.im pre k s ds
 pl : pre.length = j
 fin : F = allL c.N c.M c.im (c.M - j) s
 ch : Chg w2 w No
 bs : c.B ≤ w.heap.size
theorem LW.start {w2 w1 w : World} {c : KC} {im : Img} (him : c.im = im) (hN : c.N = im.length) (hM1 : 1 ≤ c.M) (hs : AllSec im) (hr : rootB c.M im = true) {v v' : Value}
  (hk : IsK w1 c (takeKT c (startK im v) 1 (soundZ c.M im ((1 : Nat) : Int)).1 v')) (hw : w = w1.setCell ⟨c.eb, 1, none⟩ (.int .i64 1)) (hc : Chg w2 w1 No) (he : w2.heap.size ≤ c.eb) (hB : c.B ≤ w1.heap.size) :
  ∃ k, LW w2 w c (goneL c.M im) 0 k (enterL c.N c.M im ((1 : Nat) : Int) (startL im)) [] [1] := by
 have h1 := hk.setE (k := 1) (by omega) 1;have hs2 : Chg w1 (w1.setCell ⟨c.eb, 1, none⟩ (.int .i64 1)) (· = c.eb) := Chg.setCell;refine ⟨_, (by rw [hw]; exact h1), ?_, rfl, ?_, by rw [hw]; exact hc.trans hs2 (fun _ _ e => e) (fun j hj e => by omega), by rw [hw]; have := hs2.size; omega⟩
 ·have := start_db (c := c) hN hM1 hs hr v v'
  rw [him]
  exact this
 ·unfold goneL
  rw [him, Nat.sub_zero, ← hN]
  rfl
theorem LW.next {w2 w w' : World} {c : KC} {F : LS} {j : Nat} {k k' : KT} {s : LS} {pre ds ds' : List Int} {d : Int} {l : List Int} {q : List (List Int)} {nms : List ByteArray} (h : LW w2 w c F j k s pre (d :: ds)) (hq : s.q = l :: q) (hk : IsK w' c k') (hd : DS c.N c.M c.im (pre ++ [d]) l l.length k' nms (dirK c.N c.M c.im l ([], { s with q := q })) ds') (hc : Chg w w' (KC2 c)) (hn : ∀ b, KC2 c b → w2.heap.size ≤ b) :
  LW w2 w' c F (j + 1) k' (dirK c.N c.M c.im l ([], { s with q := q })).2 (pre ++ [d]) ds' := by
 have hlen : k.row.length ≤ c.M := h.db.rlen;have hrow := h.db.row;refine ⟨hk, hd.done, by rw [List.length_append, h.pl]; rfl, ?_, h.ch.trans hc (fun _ _ e => e) (fun b hb e => by have := hn b e; omega), by have := hc.size; have := h.bs; omega⟩
 have hj : j < c.M := by
  rw [hrow, List.length_append, h.pl, List.length_cons] at hlen
  omega
 rw [h.fin, show c.M - j = (c.M - (j + 1)) + 1 by omega, allL_cons hq]
 rfl
theorem LW.last {w2 w : World} {c : KC} {F : LS} {j : Nat} {k : KT} {s : LS} {pre : List Int} (h : LW w2 w c F j k s pre []) : DB c.N c.M c.im pre k F [] := by
 have hq : s.q = [] := h.db.qi.none.2 rfl
 have : F = s := by rw [h.fin, allL_nil hq]
 rw [this]
 exact h.db
end Go.Proofs.YtpmignilhoihnaaGreat

namespace Go.Proofs.YtpmignilhoihnaaGreat
open Go.RowKit Go.Shelf

theorem sup_is {im : Img} (h : (supOf im).2.2 = 0) : rdSup (getV (secI im 0) 4 4) (getV (secI im 0) 8 4) (secI im 0) = supOf im := by
 unfold supOf at h ⊢
 split
 ·rename_i h1
  rw [if_pos h1] at h
  simp only at h ⊢
  split
  ·rfl
  ·rename_i h2
   rw [if_neg h2] at h
   cases h
 ·rename_i h1
  rw [if_neg h1] at h
  cases h

set_option maxHeartbeats 8000000 in
set_option maxRecDepth 100000 in
theorem rlook_good (ia : Option Addr) (ic : Nat) (im : Img) (M : Nat) (w : World) (h : ImgAt w ia im) (he : (supOf im).2.2 = 0) (hM : M = (supOf im).2.1.toNat) :
  Calls Tryz.prog 11 #[.slice ia im.length ic] w fun e w' => LookPost M im w e w' := by
 have hzr := zero_rep;have hbr := build_rep;have hzi := zero_inode
 have hzs : ∀ w', (zeroValue 42).run Tryz.prog w' = .ok (.agg #[.int .i64 0, .int .i64 0]) w' := fun w' => by kernel_rfl
 obtain ⟨s1, s2, s3, s4, s5⟩ := supOf_ok he
 have m1 : 1 ≤ M := by omega
 have m2 : M + 2 ≤ im.length := by omega
 obtain ⟨b, o, hia, hb, hr⟩ : ∃ b o, ia = some ⟨b, o, none⟩ ∧ b < w.heap.size ∧ ∀ (j : Nat) s, im[j]? = some s → w.rangeAt b (o + j * 128) (s.map (Value.int .u8)) := by
  rcases h.2 with e | e
  ·rw [e] at s2; simp at s2
  ·exact e
 subst hia;have HI := hid h;have hA := Chg.alloc w (.cells nil4 26) No;have HA := hid hA;have HN0 := hid (heap_alloc_new w (.cells nil4 26));have hI0 := h.keep hA (fun _ _ e => e)
 have hrk : (w.alloc (.cells nil4 26)).rangeAt b (o + 0 * 128) ((secI im 0).map (Value.int .u8)) := by
  rcases hI0.2 with e | ⟨b', o', e1, _, e3⟩
  ·rw [e] at s2; simp at s2
  ·cases e1
   exact e3 0 _ (getD_at (by omega))
 have hsec := h.secI 0;have HRK := hid hrk;have HSL := hid hsec.1;have hRI := rsup_c (secI im 0) hsec (w.alloc (.cells nil4 26));rw [sup_is he, he, s1, show (supOf im).2.1 = ((M : Nat) : Int) by omega] at hRI;have HAs : Hid (AllSec im) := hid (fun n => h.secI n);obtain ⟨n, hn⟩ : ∃ y, y = im.length := ⟨_, rfl⟩;have HN := hid hn;rw [← hn] at hRI m2 s2 s3 ⊢
 have i1 : ¬ ((n : Int) < 8) := by omega
 have i2 : ¬ ((n : Int) > 4096) := by omega
 have i3 : (0 : Int) < (n : Int) := by omega
 have n9 : (n : Int) ≤ 4096 := by omega
 obtain ⟨sk, hsk⟩ : ∃ y, y = secI im 0 := ⟨_, rfl⟩;rw [← hsk] at HRK HSL hRI;have HB := hid (And.intro s2 (And.intro s3 (And.intro m1 m2)));clear hr hrk hsec hn h hb hsk hA hI0 he hM s1 s2 s3 s4 s5 m1 m2
 go_enter Tryz.func11, Tryz.ntmps11
 go_upto_region 4 with (first
  | (refine load_mid 33 _ rfl b (o + 0 * 128) rfl _ _ HRK.out Tryz.underlying33 rfl (by rw [sz26, List.length_map, HSL.out]) (by rfl) ?_)
  | (go_at_call 19; go_must (refine hRI.mono ?_; rintro e w1 ⟨rfl, hc1⟩))
  | (refine store_R rfl 42 _ _ rfl w1.heap.size (SUA n M) rfl rfl 42 _ (heap_alloc_new _ _) szSU rfl (SUA_one _ _) ?_; intro w2 hw2)
  | fail)
 have hg6 := hw2.here;have h12 : Chg (w.alloc (.cells nil4 26)) w2 No := (hc1.trans (Chg.alloc w1 (.cells #[.int .i64 0, .int .i64 0] 42) No) (c := No) (fun _ _ e => e) (fun _ _ e => e)).trans (kt_new hw2) (fun _ _ e => e) (fun j hj e => by have := hc1.size; omega);have HC2 : Hid (Chg w w2 No) := hid (HA.out.tr2 h12);have HN2 : Hid (w2.heap[w.heap.size]? = some (.cells nil4 26 (0, 0))) := hid (h12.keep HN0.out (fun e => e));have HZ2 : Hid (w.heap.size < w2.heap.size) := hid (slt HN2.out);have HI2 := hid (HI.out.keep HC2.out (fun _ _ e => e));have HG6 := hid hg6;obtain ⟨gS, hgS⟩ : ∃ x, x = w1.heap.size := ⟨_, rfl⟩;rw [← hgS] at HG6 hg6 ⊢;have hcr : w2.cell? ⟨gS, 0, none⟩ = some (.int .i64 n) := (cell_of_row _ _ _ _ _ _ hg6).trans rfl;have hcr1 : w2.cell? ⟨gS, 1, none⟩ = some (.int .i64 M) := (cell_of_row _ _ _ _ _ _ hg6).trans rfl;clear hg6 hw2 hc1 h12 hRI HRK HSL hgS HN0 HA HI
 have wM : IntKind.i64.wrap ((M : Int) + 1) = (M : Int) + 1 := by have := HB.out; rw [IntKind.wrap_i64]; omega
 go_upto_region 6 with fail
 refine wp_region_noPanic ?_;refine wp_region_held_drew (S := fun w' => Chg w2 w' No) (by kernel_rfl) (Chg.refl _ _).drew (fun hH => ?_);refine takeR 0 38 42 (.tmp 4) gS 42 (SUA n M) _ rfl (by kernel_rfl) (by kernel_rfl) (by kernel_rfl) rfl rfl rfl Tryz.underlying42 rfl szSU (by rfl) (fun _ _ _ h => h) hH (fun W' hw' => Chg.keep hw' HG6.out (fun e => e)) ?_;simp only [sS];refine tV 1 39 (.slice (some ⟨b, o, none⟩) n ic) rfl (by kernel_rfl) rfl (by rfl) hH (fun W' hw' => rfl) ?_;simp only [sS];refine tV 3 41 (.slice (some ⟨b, o, none⟩) n ic) rfl (by kernel_rfl) rfl (by rfl) hH (fun W' hw' => rfl) ?_;simp only [sS];refine tV 5 43 (.slice (some ⟨b, o, none⟩) n ic) rfl (by kernel_rfl) rfl (by rfl) hH (fun W' hw' => rfl) ?_;simp only [sS];refine tV 6 44 (.int .i64 (n : Int)) rfl (by kernel_rfl) rfl (by rfl) hH (fun W' hw' => by go_simp) ?_;simp only [sS];refine tV 8 46 (.pointer (some ⟨gS, 1, none⟩)) rfl (by kernel_rfl) rfl (by rfl) hH (fun W' hw' => by go_simp) ?_;simp only [sS];refine tV 9 47 (.int .i64 (M : Int)) rfl (by kernel_rfl) rfl (by rfl) hH (fun W' hw' => by have hc := cell_keep hcr1 hw' (slt HG6.out) (fun e => e); go_simp) ?_;simp only [sS]
 refine tV 10 48 (.int .i64 ((M : Int) + 1)) rfl (by kernel_rfl) rfl (by rfl) hH (fun W' hw' => by go_simp <;> exact wM) ?_
 simp only [sS];refine tV 12 50 (.pointer (some ⟨gS, 1, none⟩)) rfl (by kernel_rfl) rfl (by rfl) hH (fun W' hw' => by go_simp) ?_;simp only [sS];refine tV 13 51 (.int .i64 (M : Int)) rfl (by kernel_rfl) rfl (by rfl) hH (fun W' hw' => by have hc := cell_keep hcr1 hw' (slt HG6.out) (fun e => e); go_simp) ?_;simp only [sS]
 refine tV 14 52 (.int .i64 ((M : Int) + 1)) rfl (by kernel_rfl) rfl (by rfl) hH (fun W' hw' => by go_simp <;> exact wM) ?_
 simp only [sS];refine tV 16 54 (.pointer (some ⟨gS, 1, none⟩)) rfl (by kernel_rfl) rfl (by rfl) hH (fun W' hw' => by go_simp) ?_;simp only [sS];refine tV 17 55 (.int .i64 (M : Int)) rfl (by kernel_rfl) rfl (by rfl) hH (fun W' hw' => by have hc := cell_keep hcr1 hw' (slt HG6.out) (fun e => e); go_simp) ?_;simp only [sS]
 refine tV 18 56 (.int .i64 ((M : Int) + 1)) rfl (by kernel_rfl) rfl (by rfl) hH (fun W' hw' => by go_simp <;> exact wM) ?_
 simp only [sS];refine make6 (f := 3) HN.out.symm HB.out.1 HB.out.2.1 HB.out.2.2.2 HI2.out _ _ _ _ _ _ rfl rfl rfl rfl rfl rfl rfl rfl rfl rfl rfl rfl rfl rfl rfl rfl rfl rfl rfl rfl rfl rfl rfl rfl rfl rfl rfl rfl rfl rfl rfl (fun s hs => ?_) hH (fun cb tb ib eb bb g wc W h6 => ?_)
 ·rcases s with ⟨_ | c, _ | t, _ | i, _ | e, _ | b | ⟨b, g, k⟩⟩ <;> first | exact absurd rfl hs | kernel_rfl
 have HK0 := hid (isk_made (ic := ic) HI2.out HN.out.symm HB.out.1 HB.out.2.1 HB.out.2.2.1 HB.out.2.2.2 h6);have HNew := hid (kc6_new (b := b) (off := o) (ic := ic) h6);have hH6 := h6.ch
 simp only [A6, six, L6, vM, Wn.vb, Wn.vg, Wn.isB, Wn.isF, Option.isSome_some, List.setIfInBounds_toArray, List.set_cons_zero, List.set_cons_succ]
 refine tV 20 58 (.agg (rlookV (KC6 W n M b o ic cb tb ib eb g wc im) (.slice none 0 0))) rfl (by kernel_rfl) rfl (by rfl) hH6 (fun W' hw' => by simp only [rlookV, KC6, SUA]; go_simp) ?_;simp only [sS];refine step1 21 (by kernel_rfl) ?_;refine stNew 21 59 (.pointer (some ⟨W.heap.size, 0, none⟩)) (.cells (rlookV (KC6 W n M b o ic cb tb ib eb g wc im) (.slice none 0 0)) 67) rfl rfl (by rfl) (by simp only [rlookV, KC6]; go_simp) ?_;have hH7 : Chg w2 (W.alloc (.cells (rlookV (KC6 W n M b o ic cb tb ib eb g wc im) (.slice none 0 0)) 67)) No := hH6.tr2 (Chg.alloc _ _ No);refine ⟨hH7, ?_⟩;simp only [sS];refine tV 22 6 (.pointer (some ⟨W.heap.size, 0, none⟩)) rfl (by kernel_rfl) rfl (by rfl) hH7 (fun W' hw' => rfl) ?_;simp only [sS];refine wpAnyH_done (by kernel_rfl) ?_ _;refine NoPanic.normal ?_
 have hsz : (W.alloc (.cells (rlookV (KC6 W n M b o ic cb tb ib eb g wc im) (.slice none 0 0)) 67)).heap.size = W.heap.size + 1 := by simp
 obtain ⟨w3, hw3⟩ : ∃ y, y = W.alloc (.cells (rlookV (KC6 W n M b o ic cb tb ib eb g wc im) (.slice none 0 0)) 67) := ⟨_, rfl⟩;rw [← hw3] at HK0 hH7 hsz ⊢;obtain ⟨c, hp, hcN, hcM, hci, HK3, HNw, hB3⟩ : ∃ c : KC, W.heap.size = c.p ∧ n = c.N ∧ M = c.M ∧ im = c.im ∧ Hid (IsK w3 c (startK c.im (.slice none 0 0))) ∧ Hid (∀ q, KC2 c q → w2.heap.size ≤ q) ∧ c.B ≤ w3.heap.size := ⟨KC6 W n M b o ic cb tb ib eb g wc im, rfl, rfl, rfl, rfl, HK0, HNew, by rw [hsz]; exact Nat.le_refl _⟩;have HB3 := hid hB3;have HC3 := hid hH7;rw [hp];clear hw3 hsz hH7 hH6 h6 hH hp HK0 HNew hB3;subst hcN hcM hci;have HmB := HB;have hSD := rsound_any 1 w3 HK3.out;have HRL := hid (soundZ_len c.M c.im 1);have HRB := hid (rootB_parts (M := c.M) (im := c.im));obtain ⟨rz, hrz⟩ : ∃ y, y = soundZ c.M c.im 1 := ⟨_, rfl⟩;rw [← hrz] at hSD HRL HRB;have HRZ := hid hrz;obtain ⟨z, is⟩ := rz
 simp only at hSD HRL HRB
 clear hrz hcr wM
 go_upto_region 8 with (first
  | (go_at_call 28; go_must (refine hSD.mono ?_; rintro e w4 ⟨rfl, hc4⟩))
  | (refine store_R rfl 51 _ _ rfl w4.heap.size (NA z) rfl rfl 51 _ (heap_alloc_new _ _) (by rw [szI, NA_size, HRL.out]) (by rw [NA_size, NA_size, Zi_len, HRL.out]) (NA_one _) ?_; intro w5 hw5)
  | fail)
 have h35 : Chg w3 w5 No := (hc4.trans (Chg.alloc w4 (.cells (NA Zi) 51) No) (c := No) (fun _ _ e => e) (fun _ _ e => e)).trans (kt_new hw5) (fun _ _ e => e) (fun j hj e => by have := hc4.size; omega);have HK5 := hid (HK3.out.call h35);have H25 : Hid (Chg w2 w5 No) := hid (HC3.out.tr2 h35);have HC5 : Hid (Chg w w5 No) := hid (HC2.out.tr2 H25.out);have HN5 : Hid (w5.heap[w.heap.size]? = some (.cells nil4 26 (0, 0))) := hid (H25.out.keep HN2.out (fun e => e));have HB5 : Hid (c.B ≤ w5.heap.size) := hid (by have := HB3.out; have := h35.size; omega);have q0 := row_cell hw5.here 0 (by rw [HRL.out]; decide);have HG7 := hid hw5.here;obtain ⟨K, hKz⟩ : ∃ y, y = z.getD 0 0 := ⟨_, rfl⟩;rw [← hKz] at q0 HRB;obtain ⟨g7, hg7⟩ : ∃ y, y = w4.heap.size := ⟨_, rfl⟩;rw [← hg7] at q0 HG7 ⊢;clear hg7 hw5 hc4 h35 hSD hKz HK3 HC3 HB3
 cases is with
 | false =>
  as_aux_lemma =>
   have HRf : Hid (rootB c.M c.im = false) := hid (by
    cases hq : rootB c.M c.im with
    | false => rfl
    | true => have := (HRB.out.1 hq).1; cases this)
   clear HRB
   go_wp2_with (first
    | (refine store_R rfl 26 _ _ rfl w.heap.size nil4 rfl rfl 26 _ HN5.out szRep rfl nil4_one ?_; intro w6 hw6)
    | fail)
   refine bodyPost_ret (v := .tuple #[.agg nil4, .int .i64 121]) (results_R Tryz.results11 _ _ w.heap.size _ 26 _ _ Tryz.underlying26 rfl szRep rfl rfl hw6.here) rfl ⟨nil4, by rw [HRf.out]; rfl, HC5.out.trans (kt_new hw6) (fun _ _ e => e) (fun j hj e => by omega), fun _ => rfl, fun e => by rw [HRf.out] at e; cases e⟩
 | true =>
  by_cases hK : K = 2
  ·have HRt : Hid (rootB c.M c.im = true) := hid (HRB.out.2 ⟨rfl, hK⟩)
   have HSd : Hid ((soundZ c.M c.im 1).2 = true) := hid (by rw [← HRZ.out]);have HZe : Hid (z = (soundZ c.M c.im ((1 : Nat) : Int)).1) := hid (by rw [show ((1 : Nat) : Int) = 1 from rfl, ← HRZ.out])
   have hzb : 0 ≤ z.getD 2 0 ∧ z.getD 2 0 ≤ 136704 := by
    obtain ⟨_, _, _, z0, zb, _⟩ := sound_parts HSd.out;rw [show (1 : Int) = ((1 : Nat) : Int) from rfl, ← HZe.out] at z0 zb
    exact (inoB_parts z0 zb).1 2 (by omega)
   have hTK := takes_k 1 z w5 HK5.out HRL.out (Nat.le_refl _) HmB.out.2.2.1 hzb.1 hzb.2 (Nat.zero_le _) HB5.out;rw [show ((1 : Nat) : Int) = 1 from rfl] at hTK
   have hKb : (K == 2) = true := by simpa using hK
   have hKc : (K != 2) = false := by simpa using hK
   have hKd : decide (K = 2) = true := decide_eq_true hK;clear HRB HRZ hzb hK HSd
   go_upto_region 11 with (first
    | (refine load_R rfl 51 _ rfl g7 rfl 51 _ _ HG7.out Tryz.underlying51 rfl (by rw [szI, NA_size, HRL.out]) ?_)
    | (go_at_call 29; go_must (refine hTK.mono ?_; rintro e w6 ⟨rfl, ⟨v6, hk6⟩, hc6⟩))
    | fail)
   have HK6 := hid hk6
   have H26 : Hid (Chg w2 w6 No) := hid (H25.out.trans hc6 (fun _ _ e => e) (fun q hq e => by
    have hk2 : KC2 c q := by
     rcases e with e | e | e | e | e | e
     ·exact .inl e
     ·exact .inr (.inl e)
     ·exact .inr (.inr (.inl e))
     ·exact .inr (.inr (.inr (.inl e)))
     ·exact .inr (.inr (.inr (.inr (.inl e))))
     ·cases e
    have := HNw.out q hk2
    omega))
   have HB6 : Hid (c.B ≤ w6.heap.size) := hid (by have := HB5.out; have := hc6.size; omega);have c7 := hk6.cE;have m1' := HmB.out.2.2.1;have m2' := HmB.out.2.2.2;have m3' := HmB.out.2.1;obtain ⟨q1, q2⟩ := hk6.en.cell (k := 1) (by omega)
   have k1 : (1 : Int) < (c.M : Int) + 1 := by omega
   have m9 : (c.M : Int) ≤ 4096 := by omega
   obtain ⟨y1, hy1⟩ : ∃ y, y = (takeKT c (startK c.im (.slice none 0 0)) 1 z v6).en ((1 : Nat) : Int) := ⟨_, rfl⟩;rw [← hy1] at q1
   have HSt : Hid (∀ W, W = w6.setCell ⟨c.eb, 1, none⟩ (.int .i64 1) → ∃ k, LW w2 W c (goneL c.M c.im) 0 k (enterL c.N c.M c.im ((1 : Nat) : Int) (startL c.im)) [] [1]) := hid (fun W hW => by
    have hk := HK6.out;rw [HZe.out] at hk
    exact LW.start rfl HN.out m1' HAs.out HRt.out hk hW H26.out (HNw.out _ (.inr (.inr (.inr (.inr (.inr (.inl rfl))))))) HB6.out)
   clear hk6 hc6 hTK q0 hKb hKc hKd hy1 m1' m2' m3' HK6 HG7 HK5 H25 HC5 HN5 HB5 HZe
   go_upto_region 12 with fail
   obtain ⟨w7, hw7⟩ : ∃ y, y = w6.setCell ⟨c.eb, 1, none⟩ (.int .i64 1) := ⟨_, rfl⟩;obtain ⟨F, hF⟩ : ∃ y, y = goneL c.M c.im := ⟨_, rfl⟩;have G0 := hid (HSt.out w7 hw7);rw [← hF] at G0;have HFF := hid hF;rw [← hw7];clear HSt hw7 hF c7 q1 q2 k1 H26 HB6
   go_wp2_with fail
   go_loopw [9] (fun x9 wq => ∃ j : Nat, x9 = .int .i64 (j : Int) ∧ Hid (∃ k s pre ds, LW w2 wq c F j k s pre ds)) (fun x9 _ => c.M + 1 - (intOf x9).toNat)
   case atStart => exact ⟨0, rfl, hid (by obtain ⟨k, hk⟩ := G0.out; exact ⟨k, _, _, _, hk⟩)⟩
   case round =>
    as_aux_lemma =>
     obtain ⟨j, rfl, HX⟩ := hrel;clear G0;obtain ⟨k, s, pre, ds, hL⟩ := HX.out;have c8 := hL.is.cR;obtain ⟨ra, rc, hv, hLA⟩ := hL.is.row.lat;rw [hv] at c8;have hrow := hL.db.row;have hpl := hL.pl;have hrl := hL.db.rlen;clear HX hv
     cases ds with
     | cons d ds =>
      obtain ⟨m, l, q, rfl, mm1, mm2, hq, hl, htab, hds⟩ := hL.db.pop
      have hlen : j < k.row.length := by rw [hrow, List.length_append, hpl, List.length_cons]; omega
      have hgd : k.row.getD j 0 = (m : Int) := by
       rw [hrow, List.getD_eq_getElem?_getD, List.getElem?_append_right (by omega), hpl, Nat.sub_self]
       rfl
      have hDR := directory_k m l wr hL.is hL.bs mm2 hds hl htab
      obtain ⟨gR, rfl, _, hcell⟩ : ∃ g, ra = some ⟨g, 0, none⟩ ∧ (∃ A, wr.heap[g]? = some (.cells A 3 (0, 0))) ∧ ∀ k', k' < k.row.length → wr.cell? ⟨g, k', none⟩ = some (.int .i64 (k.row.getD k' 0)) := by
       rcases hLA with e | e
       ·rw [e] at hlen; simp at hlen
       ·exact e
      have q5 := hcell j hlen;rw [hgd] at q5
      have k5 : (0 : Int) ≤ (j : Int) := by omega
      have k6 : (j : Int) < (k.row.length : Int) := by omega
      have k7 : (j : Int) ≤ 4096 := by omega
      have k9 : j < c.M := by omega
      have HL := hid hL;have Hq := hid hq;obtain ⟨rl, hrl'⟩ : ∃ y, y = k.row.length := ⟨_, rfl⟩;rw [← hrl'] at c8 k6;clear hL hq hds hl htab hcell hgd hlen hrow hpl hrl hLA hrl'
      go_wp2_with (first
       | (go_at_call 30; go_must (refine hDR.mono ?_; rintro e w8 ⟨rfl, ⟨k', hk', nms, ds', hd'⟩, hc'⟩; have HNx := hid (HL.out.next Hq.out hk' hd' hc' HNw.out); clear hk' hd' hc'))
       | fail)
      exact ⟨⟨j + 1, by go_num, hid ⟨_, _, _, _, HNx.out⟩⟩, by simp [intOf]; omega⟩
     | nil =>
      have hlen : k.row.length = j := by rw [hrow, List.append_nil]; exact hpl
      rw [hlen] at c8
      have k6 : ¬ (j : Int) < (j : Int) := by omega
      have hDB := hL.last;have HDB := hid hDB;have HE := hid (ek_of hDB (by have := hL.is.m2; omega))
      have hw0 : ({ k with wt := layK F.tk F.wt 0 } : KT) = k := by
       show ({ k with wt := F.wt } : KT) = k
       rw [← hDB.kl.wt]
      have G1 : Hid (IsK wr c { k with wt := layK F.tk F.wt 0 } ∧ Chg w2 wr No) := hid ⟨by rw [hw0]; exact hL.is, hL.ch⟩
      have hL2 : ∀ i, (layK F.tk F.wt i).length = c.N := fun i => by rw [layK_len]; have := hDB.iv.len; omega
      have HLl := hid hL2;clear hL hrow hpl hrl hLA hlen hDB hw0 hL2
      go_wp2_with fail
      go_loopw [10] (fun x10 wq => ∃ i : Nat, 1 ≤ i ∧ i ≤ c.M + 1 ∧ x10 = .int .i64 (i : Int) ∧ Hid (IsK wq c { k with wt := layK F.tk F.wt (i - 1) } ∧ Chg w2 wq No)) (fun x10 _ => c.M + 1 - (intOf x10).toNat)
      case atStart => exact ⟨1, by omega, by omega, rfl, G1⟩
      case round =>
       as_aux_lemma =>
        obtain ⟨i, i1, i2, rfl, HX⟩ := hrel;clear G1;obtain ⟨hk, hc⟩ := HX.out;have d0 : wr.cell? ⟨gS, 1, none⟩ = some (.int .i64 (c.M : Int)) := cell_keep hcr1 hc (slt HG6.out) (fun e => e);have HKi := hid hk;have HCi := hid hc;clear HX
        by_cases hlt : i ≤ c.M
        ·have j0 : (0 : Int) ≤ (i : Int) := by omega
         have j1 : (i : Int) ≤ (c.M : Int) := by omega
         have j3 : (i : Int) < (c.M : Int) + 1 := by omega
         have j4 : (i : Int) < (c.N : Int) := by have := HmB.out.2.2.2; omega
         have c3 := hk.cW
         have hbz : ∀ W, (Instr.build 33 #[]).run Tryz.prog W = .ok (.agg (SA Zs)) W := fun W => by kernel_rfl
         obtain ⟨wt0, hwt0⟩ : ∃ y, y = layK F.tk F.wt (i - 1) := ⟨_, rfl⟩
         have HLay : Hid (layK F.tk F.wt (i + 1 - 1) = wt0.set i (inodeW F.tk (i : Int))) := hid (by
          obtain ⟨q, rfl⟩ : ∃ q, i = q + 1 := ⟨i - 1, by omega⟩;rw [hwt0, Nat.add_sub_cancel, Nat.add_sub_cancel, show ((q + 1 : Nat) : Int) = (q : Int) + 1 by omega]
          rfl)
         rw [← hwt0] at HKi;have HWi : Hid (WtAt wr c.g wt0) := hid HKi.out.wt;have HWl : Hid (i < wt0.length) := hid (by rw [HKi.out.wl]; omega)
         have HZi : Hid (k.tk (i : Int) = false → inodeW F.tk (i : Int) = Zs) := hid (fun e => by
          rw [HDB.out.kl.tk i hlt] at e;unfold inodeW
          cases hq : F.tk (i : Int) with
          | none => exact inoS_zero
          | some z => rw [hq] at e; cases e)
         have HZt : Hid (k.tk (i : Int) = true → inodeW F.tk (i : Int) = inoS ((k.ino i).set 1 (k.en (i : Int)))) := hid (fun e => by
          rw [HDB.out.kl.tk i hlt] at e;unfold inodeW
          cases hq : F.tk (i : Int) with
          | none => rw [hq] at e; cases e
          | some z => rw [← HDB.out.kl.ino i z hq]; rfl)
         clear hk hc hwt0
         go_upto_region 20 with (first
          | (refine store_wt rfl _ _ rfl c.g i rfl Zs rfl Zs_sec wt0 HWi.out HWl.out ?_; intro w8 hw8 hc8 hz8)
          | fail)
         have hk8 : IsK w8 c { k with wt := wt0.set i Zs } := HKi.out.setW hw8 (by rw [List.length_set]; exact HKi.out.wl) hc8;have HK8 := hid hk8;have HC8 : Hid (Chg w2 w8 No) := hid (HCi.out.trans hc8 (fun _ _ e => e) (fun q hq e => by have := HNw.out q (.inr (.inl e)); omega));have c5 := hk8.cT;obtain ⟨d3, d4⟩ := hk8.tk.cell (k := i) (by omega);replace d3 : w8.cell? ⟨c.tb, i, none⟩ = some (.bool (k.tk (i : Int))) := d3;clear hw8 hc8 hz8 c3 d0 HKi HCi HWi hbz d4
         cases ht : k.tk (i : Int) with
         | false =>
          rw [ht] at d3
          have HNx : Hid (IsK w8 c { k with wt := layK F.tk F.wt (i + 1 - 1) } ∧ Chg w2 w8 No) := hid ⟨by
           rw [HLay.out, HZi.out ht]
           exact HK8.out, HC8.out⟩
          clear hk8 ht HZi HZt
          go_wp2_with fail
          exact ⟨⟨i + 1, by omega, by omega, by go_num, HNx⟩, by simp [intOf]; omega⟩
         | true =>
          rw [ht] at d3;have HLy : Hid (layK F.tk F.wt (i + 1 - 1) = wt0.set i (inoS ((k.ino i).set 1 (k.en (i : Int))))) := hid (by rw [HLay.out, HZt.out ht]);have c6 := hk8.cN6;have HZl := hid (hk8.i18 i);have HZl : Hid ((k.ino i).length = 18) := HZl;have HRg := hid (hk8.inn.range (i := i) (by omega) (hk8.i18 i));have HRg : Hid (w8.rangeAt c.ib (i * 18) ((k.ino i).map (Value.int .i64))) := HRg;obtain ⟨zi, hzi⟩ : ∃ y, y = k.ino i := ⟨_, rfl⟩;rw [← hzi] at HLy HZl HRg;obtain ⟨ee, hee⟩ : ∃ y, y = k.en (i : Int) := ⟨_, rfl⟩;rw [← hee] at HLy
          have HEe : Hid (∀ W, Chg w8 W No → W.cell? ⟨c.eb, i, none⟩ = some (.int .i64 ee) ∧ W.cell? ⟨c.p, 7, none⟩ = some (.slice (some ⟨c.eb, 0, none⟩) (c.M + 1) (c.M + 1))) := hid (fun W hW => by
           have hkW := HK8.out.call hW;have h1 := (hkW.en.cell (k := i) (by omega)).1;have h1 : W.cell? ⟨c.eb, i, none⟩ = some (.int .i64 (k.en (i : Int))) := h1;rw [← hee] at h1
           exact ⟨h1, hkW.cE⟩)
          clear hk8 ht HZi HZt HLay hzi hee
          go_upto_region 22 with (first
           | (refine load_mid 51 _ rfl c.ib (i * 18) rfl _ _ HRg.out Tryz.underlying51 rfl (by rw [szI, List.length_map, HZl.out]) (by rfl) ?_)
           | (refine store_R rfl 51 _ _ rfl w8.heap.size (NA zi) rfl rfl 51 _ (heap_alloc_new _ _) (by rw [szI, NA_size, HZl.out]) (by rw [NA_size, NA_size, Zi_len, HZl.out]) (NA_one _) ?_; intro w9 hw9)
           | fail)
          have h89 : Chg w8 w9 No := (Chg.alloc w8 (.cells (NA Zi) 51) No).trans (kt_new hw9) (fun _ _ e => e) (fun j hj e => by omega);have HG9 := hid hw9.here;obtain ⟨gy, hgy⟩ : ∃ y, y = w8.heap.size := ⟨_, rfl⟩;rw [← hgy] at HG9 ⊢;have Hgy := hid hgy;obtain ⟨e1, e2⟩ := HEe.out w9 h89;have y1 := row_cell HG9.out 1 (by rw [HZl.out]; decide);have f1 := frozen_of_row w9 gy 1 _ 51 HG9.out;obtain ⟨y0, hy0⟩ : ∃ y, y = zi.getD 1 0 := ⟨_, rfl⟩;rw [← hy0] at y1;have H89 := hid h89;clear hw9 hgy h89 hy0 HRg HEe c5 c6 d3
          go_upto_region 23 with fail
          obtain ⟨w10, hw10⟩ : ∃ y, y = w9.setCell ⟨gy, 1, none⟩ (.int .i64 ee) := ⟨_, rfl⟩;obtain ⟨yz, hyz⟩ : ∃ y, y = zi.set 1 ee := ⟨_, rfl⟩
          have HGy : Hid (w10.heap[gy]? = some (.cells (NA yz) 51 (0, 0))) := hid (by
           have := heap_setCell_same w9 gy 1 (NA zi) 51 (.int .i64 ee) HG9.out;rw [NA_set] at this;rw [hw10, hyz]
           exact this)
          have hs10 : Chg w9 w10 (· = gy) := by rw [hw10]; exact Chg.setCell
          have h810 : Chg w8 w10 No := H89.out.trans hs10 (fun _ _ e => e) (fun j hj e => by have := Hgy.out; omega);have HYl : Hid (yz.length = 18) := hid (by rw [hyz, List.length_set]; exact HZl.out);have HK10 := hid (HK8.out.call h810);have HC10 : Hid (Chg w2 w10 No) := hid (HC8.out.tr2 h810);rw [← hyz] at HLy;rw [← hw10]
          have HgN : Hid (gy ≠ c.g) := hid (by
           obtain ⟨A, hA⟩ := HK10.out.wt.isRow
           exact obj_ne HGy.out hA (by intro e; cases e))
          have HQ3 : Hid (∀ W, Chg w10 W (· = c.g) → W.cell? ⟨c.p, 3, none⟩ = some (.slice (some ⟨c.g, 0, none⟩) c.N c.wc)) := hid (fun W hW => (cell_of_row _ _ _ _ _ _ (hW.keep HK10.out.me HK10.out.ne.1)).trans rfl);clear hw10 hyz hs10 h810 HG9 H89 HK8 HC8 e1 e2 y1 f1 Hgy;refine wp_region_noPanic ?_;refine wp_region_held_drew (S := fun w' => Chg w10 w' (· = c.g)) (by kernel_rfl) (Chg.refl _ _).drew (fun hH => ?_);refine tV 0 135 (.pointer (some ⟨c.p, 0, none⟩)) rfl (by kernel_rfl) rfl (by rfl) hH (fun W' hw' => rfl) ?_;simp only [sS];refine tV 1 136 (.pointer (some ⟨c.p, 0, none⟩)) rfl (by kernel_rfl) rfl (by rfl) hH (fun W' hw' => by go_simp) ?_;simp only [sS];refine tV 2 137 (.pointer (some ⟨c.p, 3, none⟩)) rfl (by kernel_rfl) rfl (by rfl) hH (fun W' hw' => by go_simp) ?_;simp only [sS];refine tV 3 138 (.slice (some ⟨c.g, 0, none⟩) c.N c.wc) rfl (by kernel_rfl) rfl (by rfl) hH (fun W' hw' => by have hc := HQ3.out W' hw'; go_simp) ?_;simp only [sS];refine tV 4 139 (.int .i64 (i : Int)) rfl (by kernel_rfl) rfl (by rfl) hH (fun W' hw' => rfl) ?_;simp only [sS];refine takeR 5 140 51 (.tmp 11) gy 51 (NA yz) _ rfl (by kernel_rfl) (by kernel_rfl) (by kernel_rfl) rfl rfl rfl Tryz.underlying51 rfl (by rw [szI, NA_size, HYl.out]) (by rfl) (fun _ _ _ h => h) hH (fun W' hw' => Chg.keep hw' HGy.out HgN.out) ?_;simp only [sS];refine step1 6 (by kernel_rfl) ?_;refine stCall 6 141 31 #[.agg (NA yz)] _ rfl rfl (by rfl) (by go_simp) (rinodeSector_any yz HYl.out _) ?_
          rintro e w11 ⟨rfl, hb11⟩
          have hn11 : Chg w10 w11 No := ((Chg.refl w10 No).drew).tr2 (Chg.of_below hb11 No)
          have hH11 : Chg w10 w11 (· = c.g) := hn11.mono fun _ _ e => e.elim
          refine ⟨_, rfl, hH11, ?_⟩;simp only [sS];refine tV 7 134 (.tuple #[.agg (SA (inoS yz)), .int .i64 (inoE yz)]) rfl (by kernel_rfl) rfl (by rfl) hH11 (fun W' hw' => rfl) ?_;simp only [sS];refine tV 8 142 (.agg (SA (inoS yz))) rfl (by kernel_rfl) rfl (by rfl) hH11 (fun W' hw' => rfl) ?_;simp only [sS];refine tV 9 143 (.int .i64 (inoE yz)) rfl (by kernel_rfl) rfl (by rfl) hH11 (fun W' hw' => rfl) ?_;simp only [sS];refine tV 10 144 (.pointer (some ⟨c.g, i * 128, none⟩)) rfl (by kernel_rfl) rfl (by rfl) hH11 (fun W' hw' => by go_simp) ?_;simp only [sS];have HK11 := hid (HK10.out.call hn11);refine step1 11 (by kernel_rfl) ?_;refine stStoreW 11 (.tmp 144) (.tmp 142) c.g i (inoS yz) (wt0.set i Zs) rfl rfl (by rfl) rfl rfl rfl (inoS_sec _) HK11.out.wt (by rw [List.length_set]; exact HWl.out) ?_
          intro w12 hw12 hc12 hz12
          refine ⟨hH11.trans hc12 (fun _ _ e => e) (fun _ _ e => e), ?_⟩;refine wpAnyH_done (by kernel_rfl) ?_ _;refine NoPanic.normal ?_
          have HNx : Hid (IsK w12 c { k with wt := layK F.tk F.wt (i + 1 - 1) } ∧ Chg w2 w12 No) := hid ⟨by
           rw [HLy.out];have := HK11.out.setW hw12 (by rw [List.length_set]; exact HK11.out.wl) hc12;rw [List.set_set] at this
           exact this, (HC10.out.tr2 hn11).trans hc12 (fun _ _ e => e) (fun q hq e => by have := HNw.out q (.inr (.inl e)); omega)⟩
          clear hH hH11 hn11 hb11 hw12 hc12 hz12 HK11 HK10 HC10 HGy HgN HQ3
          go_wp2_with fail
          exact ⟨⟨i + 1, by omega, by omega, by go_num, HNx⟩, by simp [intOf]; omega⟩
        ·have j1 : ¬ (i : Int) ≤ (c.M : Int) := by omega
         have hi : i - 1 = c.M := by omega
         rw [hi] at HKi;have hRP := rreport_k wr HKi.out HE.out;have HNr : Hid (wr.heap[w.heap.size]? = some (.cells nil4 26 (0, 0))) := hid (HCi.out.keep HN2.out (fun e => e));clear hk hc hi
         go_wp2_with (first
          | (go_at_call 32; go_must (refine hRP.mono ?_; rintro e w9 ⟨v1, v2, v3, rfl, hR9, hc9⟩; have hN9 := hc9.keep HNr.out (fun e => e)))
          | (refine store_R rfl 26 _ _ rfl w.heap.size #[.slice (some ⟨c.g, 0, none⟩) c.N c.wc, v1, v2, v3] rfl rfl 26 _ hN9 szRep rfl (rep_one _ _ _ hR9.o1.one hR9.o2.one hR9.o3.one) ?_; intro w10 hw10)
          | fail)
         have hcA := kt_new hw10;have h29 : Chg w2 w9 No := HCi.out.tr2 hc9;have hz2 := HZ2.out;have hz8 := HCi.out.size;refine bodyPost_ret (v := .tuple #[.agg #[.slice (some ⟨c.g, 0, none⟩) c.N c.wc, v1, v2, v3], .int .i64 0]) (results_R Tryz.results11 _ _ w.heap.size _ 26 _ _ Tryz.underlying26 rfl szRep rfl rfl hw10.here) rfl ⟨_, by rw [HRt.out]; rfl, (HC2.out.tr2 h29).trans hcA (fun _ _ e => e) (fun j hj e => by omega), fun e => (by rw [HRt.out] at e; cases e), fun _ => ?_⟩
         have hLk : lookL c.M c.im = { F with wt := layK F.tk F.wt c.M } := by unfold lookL; rw [HFF.out]
         have hrep := (hR9.keep hcA (by omega)).base (w0 := w) (by omega);have hgn := HNw.out c.g (.inr (.inl rfl));rw [hLk];refine ⟨c.g, c.wc, v1, v2, v3, by show _ = #[Value.slice (some ⟨c.g, 0, none⟩) (layK F.tk F.wt c.M).length c.wc, v1, v2, v3]; rw [HLl.out], by omega, (HKi.out.wt.keep hc9 (fun e => e)).keep hcA (by omega), ?_⟩
         have e1 : writeI c.M c.im { F with wt := layK F.tk F.wt c.M } = catK (fun j => keysL c.N fun x => decide (wrKind c.M c.im (layK F.tk F.wt c.M) F.wp x = j)) 3 := by unfold writeI; rw [HN.out]
         have e3 : blocksI c.im { F with wt := layK F.tk F.wt c.M } = keysL c.N F.cl := by unfold blocksI; rw [HN.out]
         rw [e1, e3]
         exact hrep
  ·as_aux_lemma =>
    have HRf : Hid (rootB c.M c.im = false) := hid (by
     cases hq : rootB c.M c.im with
     | false => rfl
     | true => exact absurd (HRB.out.1 hq).2 hK)
    have hKb : (K == 2) = false := by simpa using hK
    have hKc : (K != 2) = true := by simpa using hK
    have hKd : decide (K = 2) = false := decide_eq_false hK;clear HRB hK
    go_wp2_with (first
     | (refine store_R rfl 26 _ _ rfl w.heap.size nil4 rfl rfl 26 _ HN5.out szRep rfl nil4_one ?_; intro w6 hw6)
     | fail)
    refine bodyPost_ret (v := .tuple #[.agg nil4, .int .i64 121]) (results_R Tryz.results11 _ _ w.heap.size _ 26 _ _ Tryz.underlying26 rfl szRep rfl rfl hw6.here) rfl ⟨nil4, by rw [HRf.out]; rfl, HC5.out.trans (kt_new hw6) (fun _ _ e => e) (fun j hj e => by omega), fun _ => rfl, fun e => by rw [HRf.out] at e; cases e⟩
end Go.Proofs.YtpmignilhoihnaaGreat
