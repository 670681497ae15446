/-
 The document's look, where it begins: what is made is a look that has claimed nothing.
-/
import Derived.Test.YtpmignilhoihnaaGreatOL2
import Derived.Test.YtpmignilhoihnaaGreatS14
import Derived.Test.YtpmignilhoihnaaGreatOK
namespace Go.Proofs.YtpmignilhoihnaaGreat
open Go.RowKit Go.Shelf

section
variable {ops : Array Oper} {Q : Exit → Act → World → Prop}
theorem opAppImg {i d : Nat} {o : Oper} {a : Act} {w : World} {R : Act → World → Prop} (hop : ops[i]? = some o) (hd : o.dst = some d) (hw : Region.wanted o (yielded ops a.tmps) = true) (s x : Operand)
  (ho : o.op = .call { callee := .builtin .append, args := #[s, x], argTypes := #[22, 22] }) (B g b off c : Nat) (im : Img) (hs : a.eval s = .slice (some ⟨g, 0, none⟩) 0 0) (hx : a.eval x = .slice (some ⟨b, off, none⟩) im.length c)
  (h0 : w.heap[g]? = some (.cells #[] 33 (0, 0))) (hBg : B ≤ g) (hI : ImgAt w (some ⟨b, off, none⟩) im) (hn : 1 ≤ im.length) (hl : im.length ≤ 4096)
  (hK : ∀ g' c' w', B ≤ g' → WtAt w' g' im → Chg w w' (fun k => k = g) → R { a with tmps := a.tmps.setIfInBounds d (.slice (some ⟨g', 0, none⟩) im.length c') } w') : wpOp Tryz.prog ops Q i R a w := by
 obtain ⟨ti, hi, hz, hsz, hby⟩ := infoSec;have hfl := flat_len im (fun s hx => (hI.1 s hx).1);have hown : w.ownsRow B 33 128 (.slice (some ⟨g, 0, none⟩) 0 0) 0 ([] : List Value) := ⟨rfl, .inr ⟨g, 0, #[], rfl, hBg, h0, Nat.le_refl _, by unfold maxLen; omega, rfl, rfl⟩⟩
 obtain ⟨v', w', hr, h1, h2, _, _⟩ := run_append_own_at (P := Tryz.prog) w B 22 o.type 33 ti _ 128 128 Tryz.underlying22 hi hz hsz hby (by rw [show Value.cells (.agg (SA Zs)) = SA Zs from rfl, SA_size, Zs_len]) (by decide) (.slice (some ⟨g, 0, none⟩) 0 0) 0 [] hown ⟨b, off, none⟩ im.length c (im.flatten.map (Value.int .u8)) (by rw [List.length_map, hfl]) (img_src hI hn) (fun u hu => by
  obtain ⟨y, _, rfl⟩ := List.mem_map.1 hu
  rfl) (by unfold maxLen; omega) (by omega) (by have := slt h0; omega)
 rw [Nat.zero_add, List.nil_append] at h1;obtain ⟨g', c', rfl, hB', hwt⟩ := wt_of_row hI.1 hn h1
 have hh := hK g' c' w' hB' hwt ((Chg.grown h2).mono fun j _ e => by
  have e := e.symm
  simp [Value.ownBlock] at e
  exact e.symm)
 refine wpOp_step hop (fun K hKK => ?_);rw [if_pos hw];unfold Oper.wp execOp
 simp only [ho, resolve, invoke, builtin, Sem.run_bind, Sem.run_pure, Result.andThen_ok, List.map_toArray, List.map_cons, List.map_nil, hs, hx, hr]
 refine hKK _ _ ?_;unfold Act.put;rw [hd]
 exact hh
end
end Go.Proofs.YtpmignilhoihnaaGreat

namespace Go.Proofs.YtpmignilhoihnaaGreat
open Go.RowKit Go.Shelf

inductive Wn where
 | no
 | built (b : Nat)
 | full (b g c : Nat)
structure MS where
 c : Option Nat
 t : Option Nat
 i : Option Nat
 e : Option Nat
 g : Wn
def Wn.isB : Wn → Bool
 | .no => false
 | _ => true
def Wn.isF : Wn → Bool
 | .full _ _ _ => true
 | _ => false
def Wn.n : Wn → Nat
 | .no => 2
 | .built _ => 1
 | .full _ _ _ => 0
def bn : Option Nat → Nat
 | none => 1
 | some _ => 0
def MS.n (s : MS) : Nat := bn s.c + bn s.t + bn s.i + bn s.e + s.g.n
def vM (n : Nat) : Option Nat → Value
 | none => undef
 | some g => .slice (some ⟨g, 0, none⟩) n n
def Wn.vb : Wn → Value
 | .no => undef
 | .built b => .slice (some ⟨b, 0, none⟩) 0 0
 | .full b _ _ => .slice (some ⟨b, 0, none⟩) 0 0
def Wn.vg (n : Nat) : Wn → Value
 | .full _ g c => .slice (some ⟨g, 0, none⟩) n c
 | _ => undef
def L6 (s : MS) : Array Bool := #[true, true, s.g.isB, true, s.g.isF, true, true, s.c.isSome, true, true, true, s.t.isSome, true, true, true, s.i.isSome, true, true, true, s.e.isSome, false, false, false]
def rd6 (s : MS) : List Nat := (match s.g with | .no => [2] | .built _ => [4] | .full _ _ _ => []) ++ (match s.c with | none => [7] | some _ => []) ++ (match s.t with | none => [11] | some _ => []) ++ (match s.i with | none => [15] | some _ => []) ++ (match s.e with | none => [19] | some _ => [])
def six (x : Array Value) (a b c d e f : Value) : Array Value := (((((x.setIfInBounds 40 a).setIfInBounds 42 b).setIfInBounds 45 c).setIfInBounds 49 d).setIfInBounds 53 e).setIfInBounds 57 f
section
variable {x : Array Value} {a b c d e f v : Value}
theorem six40 : (six x a b c d e f).setIfInBounds 40 v = six x v b c d e f := by
 unfold six;rw [Array.setIfInBounds_comm (i := 57) (j := 40) _ _ (by decide), Array.setIfInBounds_comm (i := 53) (j := 40) _ _ (by decide), Array.setIfInBounds_comm (i := 49) (j := 40) _ _ (by decide), Array.setIfInBounds_comm (i := 45) (j := 40) _ _ (by decide), Array.setIfInBounds_comm (i := 42) (j := 40) _ _ (by decide), Array.setIfInBounds_setIfInBounds]
theorem six42 : (six x a b c d e f).setIfInBounds 42 v = six x a v c d e f := by
 unfold six;rw [Array.setIfInBounds_comm (i := 57) (j := 42) _ _ (by decide), Array.setIfInBounds_comm (i := 53) (j := 42) _ _ (by decide), Array.setIfInBounds_comm (i := 49) (j := 42) _ _ (by decide), Array.setIfInBounds_comm (i := 45) (j := 42) _ _ (by decide), Array.setIfInBounds_setIfInBounds]
theorem six45 : (six x a b c d e f).setIfInBounds 45 v = six x a b v d e f := by
 unfold six;rw [Array.setIfInBounds_comm (i := 57) (j := 45) _ _ (by decide), Array.setIfInBounds_comm (i := 53) (j := 45) _ _ (by decide), Array.setIfInBounds_comm (i := 49) (j := 45) _ _ (by decide), Array.setIfInBounds_setIfInBounds]
theorem six49 : (six x a b c d e f).setIfInBounds 49 v = six x a b c v e f := by
 unfold six;rw [Array.setIfInBounds_comm (i := 57) (j := 49) _ _ (by decide), Array.setIfInBounds_comm (i := 53) (j := 49) _ _ (by decide), Array.setIfInBounds_setIfInBounds]
theorem six53 : (six x a b c d e f).setIfInBounds 53 v = six x a b c d v f := by
 unfold six;rw [Array.setIfInBounds_comm (i := 57) (j := 53) _ _ (by decide), Array.setIfInBounds_setIfInBounds]
theorem six57 : (six x a b c d e f).setIfInBounds 57 v = six x a b c d e v := by
 unfold six;rw [Array.setIfInBounds_setIfInBounds]
theorem gd_ne {i j : Nat} {u : Value} (h : j ≠ i) : (x.setIfInBounds j v).getD i u = x.getD i u := by
 rw [Array.getD_eq_getD_getElem?, Array.getD_eq_getD_getElem?, Array.getElem?_setIfInBounds_ne h]
theorem six_ne {k : Nat} {u : Value} (h : 40 ≠ k ∧ 42 ≠ k ∧ 45 ≠ k ∧ 49 ≠ k ∧ 53 ≠ k ∧ 57 ≠ k) : (six x a b c d e f).getD k u = x.getD k u := by
 unfold six;rw [gd_ne h.2.2.2.2.2, gd_ne h.2.2.2.2.1, gd_ne h.2.2.2.1, gd_ne h.2.2.1, gd_ne h.2.1, gd_ne h.1]
theorem six_40 {u : Value} (h : 40 < x.size) : (six x a b c d e f).getD 40 u = a := by
 unfold six;rw [gd_ne (by decide), gd_ne (by decide), gd_ne (by decide), gd_ne (by decide), gd_ne (by decide), Array.getD_eq_getD_getElem?, Array.getElem?_setIfInBounds_self_of_lt h]
 rfl
end
def A6 (a0 : Act) (n M : Nat) (s : MS) : Act := { a0 with tmps := six a0.tmps s.g.vb (s.g.vg n) (vM n s.c) (vM (M + 1) s.t) (vM (M + 1) s.i) (vM (M + 1) s.e) }
theorem A6_ev (a0 : Act) (n M : Nat) (s : MS) {k : Nat} (h : 40 ≠ k ∧ 42 ≠ k ∧ 45 ≠ k ∧ 49 ≠ k ∧ 53 ≠ k ∧ 57 ≠ k) : (A6 a0 n M s).eval (.tmp k) = a0.eval (.tmp k) := by
 unfold A6 Act.eval
 simp only
 rw [six_ne h]
theorem A6_40 (a0 : Act) (n M : Nat) (s : MS) (h : 40 < a0.tmps.size) : (A6 a0 n M s).eval (.tmp 40) = s.g.vb := by
 unfold A6 Act.eval
 simp only
 rw [six_40 h]
structure M6 (w2 : World) (n M : Nat) (im : Img) (s : MS) (w : World) : Prop where
 ch : Chg w2 w No
 c : ∀ g, s.c = some g → BAt w g n (fun _ => false) ∧ w2.heap.size ≤ g
 t : ∀ g, s.t = some g → BAt w g (M + 1) (fun _ => false) ∧ w2.heap.size ≤ g
 i : ∀ g, s.i = some g → InAt w g (M + 1) (fun _ => Zi) ∧ w2.heap.size ≤ g
 e : ∀ g, s.e = some g → NAt w g (M + 1) (fun _ => 0) ∧ w2.heap.size ≤ g
 b : ∀ b, s.g = .built b → w.heap[b]? = some (.cells #[] 33 (0, 0)) ∧ w2.heap.size ≤ b
 g : ∀ b g c, s.g = .full b g c → WtAt w g im ∧ w2.heap.size ≤ g
 d : ∀ g g', s.c = some g → s.t = some g' → g ≠ g'
section
variable {w2 w w' : World} {n M : Nat} {im : Img} {s : MS}
theorem BAt.ltM {g : Nat} {p : Int → Bool} (h : BAt w g n p) : g < w.heap.size := let ⟨_, h, _⟩ := h; slt h
theorem M6.call (h : M6 w2 n M im s w) (hc : Chg w w' No) : M6 w2 n M im s w' :=
 ⟨h.ch.trans hc (fun _ _ e => e) (fun _ _ e => e), fun g e => ⟨(h.c g e).1.keep hc (fun e => e), (h.c g e).2⟩, fun g e => ⟨(h.t g e).1.keep hc (fun e => e), (h.t g e).2⟩, fun g e => ⟨(h.i g e).1.keep hc (fun e => e), (h.i g e).2⟩, fun g e => ⟨(h.e g e).1.keep hc (fun e => e), (h.e g e).2⟩, fun b e => ⟨hc.keep (h.b b e).1 (fun e => e), (h.b b e).2⟩, fun b g c e => ⟨(h.g b g c e).1.keep hc (fun e => e), (h.g b g c e).2⟩, h.d⟩
theorem M6.newC (h : M6 w2 n M im s w) : M6 w2 n M im { s with c := some w.heap.size } (w.alloc (.cells (UA n) 4)) := by
 have hh := h.call (Chg.alloc w (.cells (UA n) 4) No);refine ⟨hh.ch, fun g e => ?_, hh.t, hh.i, hh.e, hh.b, hh.g, fun g g' e e' => ?_⟩
 ·cases e
  exact ⟨bat_made w n, h.ch.size⟩
 ·cases e
  have := (h.t g' e').1.ltM
  omega
theorem M6.newT (h : M6 w2 n M im s w) : M6 w2 n M im { s with t := some w.heap.size } (w.alloc (.cells (UA (M + 1)) 4)) := by
 have hh := h.call (Chg.alloc w (.cells (UA (M + 1)) 4) No);refine ⟨hh.ch, hh.c, fun g e => ?_, hh.i, hh.e, hh.b, hh.g, fun g g' e e' => ?_⟩
 ·cases e
  exact ⟨bat_made w (M + 1), h.ch.size⟩
 ·cases e'
  have := (h.c g e).1.ltM
  omega
theorem M6.newI (h : M6 w2 n M im s w) : M6 w2 n M im { s with i := some w.heap.size } (w.alloc (.cells (IA18 (M + 1)) 51)) := by
 have hh := h.call (Chg.alloc w (.cells (IA18 (M + 1)) 51) No);refine ⟨hh.ch, hh.c, hh.t, fun g e => ?_, hh.e, hh.b, hh.g, hh.d⟩
 cases e
 exact ⟨inat_made w (M + 1), h.ch.size⟩
theorem M6.newE (h : M6 w2 n M im s w) : M6 w2 n M im { s with e := some w.heap.size } (w.alloc (.cells (TA (M + 1)) 3)) := by
 have hh := h.call (Chg.alloc w (.cells (TA (M + 1)) 3) No);refine ⟨hh.ch, hh.c, hh.t, hh.i, fun g e => ?_, hh.b, hh.g, hh.d⟩
 cases e
 exact ⟨nat_made w (M + 1), h.ch.size⟩
theorem M6.newB (h : M6 w2 n M im s w) : M6 w2 n M im { s with g := .built w.heap.size } (w.alloc (.cells #[] 33)) := by
 have hh := h.call (Chg.alloc w (.cells #[] 33) No);refine ⟨hh.ch, hh.c, hh.t, hh.i, hh.e, fun b e => ?_, (fun b g c e => by cases e), hh.d⟩
 cases e
 exact ⟨heap_alloc_new _ _, h.ch.size⟩
theorem M6.newG (h : M6 w2 n M im s w) {b g c : Nat} (hb : s.g = .built b) (hw : WtAt w' g im) (hg : w2.heap.size ≤ g) (hc : Chg w w' (fun k => k = b)) : M6 w2 n M im { s with g := .full b g c } w' := by
 obtain ⟨h1, h2⟩ := h.b b hb;refine ⟨h.ch.trans hc (fun _ _ e => e) (fun j hj e => by omega), fun g e => ?_, fun g e => ?_, fun g e => ?_, fun g e => ?_, (fun b e => by cases e), fun b g c e => ?_, h.d⟩
 ·obtain ⟨k1, k2⟩ := h.c g e
  refine ⟨k1.keep hc ?_, k2⟩;obtain ⟨A, hA, _⟩ := k1
  exact obj_ne hA h1 (by intro e; cases e)
 ·obtain ⟨k1, k2⟩ := h.t g e
  refine ⟨k1.keep hc ?_, k2⟩;obtain ⟨A, hA, _⟩ := k1
  exact obj_ne hA h1 (by intro e; cases e)
 ·obtain ⟨k1, k2⟩ := h.i g e
  refine ⟨k1.keep hc ?_, k2⟩;obtain ⟨A, hA, _⟩ := k1
  exact obj_ne hA h1 (by intro e; cases e)
 ·obtain ⟨k1, k2⟩ := h.e g e
  refine ⟨k1.keep hc ?_, k2⟩;obtain ⟨A, hA, _⟩ := k1
  exact obj_ne hA h1 (by intro e; cases e)
 ·cases e
  exact ⟨hw, hg⟩
end
theorem run_mk {a : Act} {o : Oper} {w : World} {t : TypeId} {x : Operand} {v : Value} {ob : Obj} (ho : o.op = .makeSlice t x x) (h : (Instr.makeSlice t (a.eval x) (a.eval x)).run Tryz.prog w = .ok v (w.alloc ob)) : (execOp a.eval o).run Tryz.prog w = .ok (.value v) (w.alloc ob) := by
 unfold execOp
 simp only [ho, Sem.run_bind, Sem.run_pure, h, Result.andThen_ok]
theorem build_none (w : World) : (Instr.buildSlice 22 0 #[]).run Tryz.prog w = .ok (.slice (some ⟨w.heap.size, 0, none⟩) 0 0) (w.alloc (.cells #[] 33)) := by kernel_rfl
theorem run_bs {a : Act} {o : Oper} {w : World} (ho : o.op = .buildSlice 22 0 #[]) : (execOp a.eval o).run Tryz.prog w = .ok (.value (.slice (some ⟨w.heap.size, 0, none⟩) 0 0)) (w.alloc (.cells #[] 33)) := by
 have h := build_none w;unfold execOp
 simp only [ho, Sem.run_bind, Sem.run_pure, List.map_toArray, List.map_nil, h, Result.andThen_ok]
theorem mem_rd6 {s : MS} {i : Nat} (h : i ∈ rd6 s) : (i = 2 ∧ s.g = .no) ∨ (i = 4 ∧ ∃ b, s.g = .built b) ∨ (i = 7 ∧ s.c = none) ∨ (i = 11 ∧ s.t = none) ∨ (i = 15 ∧ s.i = none) ∨ (i = 19 ∧ s.e = none) := by
 obtain ⟨c, t, ii, e, g⟩ := s;unfold rd6 at h
 simp only [List.mem_append] at h
 rcases h with (((h | h) | h) | h) | h
 ·cases g with
  | no => exact .inl ⟨List.mem_singleton.1 h, rfl⟩
  | built b => exact .inr (.inl ⟨List.mem_singleton.1 h, b, rfl⟩)
  | full b g c => cases h
 ·cases c with
  | none => exact .inr (.inr (.inl ⟨List.mem_singleton.1 h, rfl⟩))
  | some _ => cases h
 ·cases t with
  | none => exact .inr (.inr (.inr (.inl ⟨List.mem_singleton.1 h, rfl⟩)))
  | some _ => cases h
 ·cases ii with
  | none => exact .inr (.inr (.inr (.inr (.inl ⟨List.mem_singleton.1 h, rfl⟩))))
  | some _ => cases h
 ·cases e with
  | none => exact .inr (.inr (.inr (.inr (.inr ⟨List.mem_singleton.1 h, rfl⟩))))
  | some _ => cases h
theorem rd6_ne {s : MS} (h : s.n ≠ 0) : rd6 s ≠ [] := by
 obtain ⟨c, t, ii, e, g⟩ := s
 intro he
 apply h
 unfold rd6 at he
 simp only [List.append_eq_nil_iff] at he
 obtain ⟨⟨⟨⟨h1, h2⟩, h3⟩, h4⟩, h5⟩ := he
 cases g with
 | no => cases h1
 | built _ => cases h1
 | full _ _ _ =>
  cases c with
  | none => cases h2
  | some _ =>
   cases t with
   | none => cases h3
   | some _ =>
    cases ii with
    | none => cases h4
    | some _ =>
     cases e with
     | none => cases h5
     | some _ => rfl
theorem full_of {s : MS} (h : s.n = 0) : ∃ c t i e b g k, s = ⟨some c, some t, some i, some e, .full b g k⟩ := by
 obtain ⟨c, t, ii, e, g⟩ := s
 cases c with
 | none => unfold MS.n bn at h; simp only at h; omega
 | some c =>
  cases t with
  | none => unfold MS.n bn at h; simp only at h; omega
  | some t =>
   cases ii with
   | none => unfold MS.n bn at h; simp only at h; omega
   | some ii =>
    cases e with
    | none => unfold MS.n bn at h; simp only at h; omega
    | some e =>
     cases g with
     | no => unfold MS.n Wn.n at h; simp only at h; omega
     | built _ => unfold MS.n Wn.n at h; simp only at h; omega
     | full b g k => exact ⟨c, t, ii, e, b, g, k, rfl⟩
theorem make6 {ops : Array Oper} {Q : Exit → Act → World → Prop} {a0 : Act} {w2 W : World} {n M b off ic f : Nat} {im : Img} (hl : im.length = n) (n1 : 8 ≤ n) (n2 : n ≤ 4096) (m2 : M + 2 ≤ n) (hI : ImgAt w2 (some ⟨b, off, none⟩) im)
  (o2 o4 o7 o11 o15 o19 : Oper) (h2 : ops[2]? = some o2) (h4 : ops[4]? = some o4) (h7 : ops[7]? = some o7) (h11 : ops[11]? = some o11) (h15 : ops[15]? = some o15) (h19 : ops[19]? = some o19)
  (d2 : o2.dst = some 40) (d4 : o4.dst = some 42) (d7 : o7.dst = some 45) (d11 : o11.dst = some 49) (d15 : o15.dst = some 53) (d19 : o19.dst = some 57)
  (g2 : o2.guard = none) (g4 : o4.guard = none) (g7 : o7.guard = none) (g11 : o11.guard = none) (g15 : o15.guard = none) (g19 : o19.guard = none)
  (p2 : o2.op = .buildSlice 22 0 #[]) (p4 : o4.op = .call { callee := .builtin .append, args := #[.tmp 40, .tmp 41], argTypes := #[22, 22] })
  (p7 : o7.op = .makeSlice 64 (.tmp 44) (.tmp 44)) (p11 : o11.op = .makeSlice 64 (.tmp 48) (.tmp 48)) (p15 : o15.op = .makeSlice 65 (.tmp 52) (.tmp 52)) (p19 : o19.op = .makeSlice 24 (.tmp 56) (.tmp 56))
  (hsz : a0.tmps.size = 147) (e41 : a0.eval (.tmp 41) = .slice (some ⟨b, off, none⟩) n ic) (e44 : a0.eval (.tmp 44) = .int .i64 (n : Int)) (e48 : a0.eval (.tmp 48) = .int .i64 ((M : Int) + 1)) (e52 : a0.eval (.tmp 52) = .int .i64 ((M : Int) + 1)) (e56 : a0.eval (.tmp 56) = .int .i64 ((M : Int) + 1))
  (hst : a0 = A6 a0 n M ⟨none, none, none, none, .no⟩) (hr : ∀ s : MS, s.n ≠ 0 → Region.ready .any ops (L6 s) = rd6 s) (hW : Chg w2 W No)
  (last : ∀ c t i e b g k w, M6 w2 n M im ⟨some c, some t, some i, some e, .full b g k⟩ w → wpAnyH Tryz.prog .any ops Q (fun w' => Chg w2 w' No) f (L6 ⟨some c, some t, some i, some e, .full b g k⟩) (A6 a0 n M ⟨some c, some t, some i, some e, .full b g k⟩) w) :
  wpAnyH Tryz.prog .any ops Q (fun w' => Chg w2 w' No) (f + 6) (L6 ⟨none, none, none, none, .no⟩) a0 W := by
 have hM1 : ((M + 1 : Nat) : Int) = (M : Int) + 1 := by omega
 have start : M6 w2 n M im ⟨none, none, none, none, .no⟩ W := ⟨hW, (fun g e => by cases e), (fun g e => by cases e), (fun g e => by cases e), (fun g e => by cases e), (fun b e => by cases e), (fun b g c e => by cases e), fun g g' e => by cases e⟩;rw [hst];refine wpAnyH_net (L := L6) (A := A6 a0 n M) (F := M6 w2 n M im) (m := MS.n) f (fun s w h => h.ch) (fun s hs => ⟨rd6 s, hr s hs, rd6_ne hs, fun i hi w hF => ?_⟩) (fun s w hs hF => ?_) 6 _ W rfl start
 ·have ev : ∀ k, (40 ≠ k ∧ 42 ≠ k ∧ 45 ≠ k ∧ 49 ≠ k ∧ 53 ≠ k ∧ 57 ≠ k) → (A6 a0 n M s).eval (.tmp k) = a0.eval (.tmp k) := fun k hk => A6_ev a0 n M s hk
  rcases mem_rd6 hi with ⟨rfl, e⟩ | ⟨rfl, bb, e⟩ | ⟨rfl, e⟩ | ⟨rfl, e⟩ | ⟨rfl, e⟩ | ⟨rfl, e⟩
  ·obtain ⟨c, t, ii, ee, g⟩ := s
   cases e
   refine opNew h2 d2 (wanted_free g2 _) (run_bs p2) ⟨_, ?_, ?_, ?_, hF.newB⟩
   ·rfl
   ·rfl
   ·unfold A6
    simp only [six40]
    rfl
  ·obtain ⟨c, t, ii, ee, g⟩ := s
   cases e
   obtain ⟨q1, q2⟩ := hF.b bb rfl;refine opAppImg h4 d4 (wanted_free g4 _) _ _ p4 w2.heap.size bb b off ic im ?_ ((ev 41 (by decide)).trans (by rw [e41, hl])) q1 q2 (hI.keep hF.ch (fun _ _ e => e)) (by omega) (by omega) (fun g' c' w' hB hwt hc => ?_)
   ·exact A6_40 a0 n M _ (by omega)
   ·refine ⟨_, ?_, ?_, ?_, hF.newG (c := c') rfl hwt hB hc⟩
    ·rfl
    ·rfl
    ·unfold A6
     simp only [six42, hl]
     rfl
  ·obtain ⟨c, t, ii, ee, g⟩ := s
   cases e
   refine opNew h7 d7 (wanted_free g7 _) (run_mk p7 (by rw [ev 44 (by decide), e44]; exact make_bools n (by omega) w)) ⟨_, ?_, ?_, ?_, hF.newC⟩
   ·unfold MS.n bn; simp only; omega
   ·rfl
   ·unfold A6
    simp only [six45]
    rfl
  ·obtain ⟨c, t, ii, ee, g⟩ := s
   cases e
   refine opNew h11 d11 (wanted_free g11 _) (run_mk p11 (by rw [ev 48 (by decide), e48, ← hM1]; exact make_bools (M + 1) (by omega) w)) ⟨_, ?_, ?_, ?_, hF.newT⟩
   ·unfold MS.n bn; simp only; omega
   ·rfl
   ·unfold A6
    simp only [six49]
    rfl
  ·obtain ⟨c, t, ii, ee, g⟩ := s
   cases e
   refine opNew h15 d15 (wanted_free g15 _) (run_mk p15 (by rw [ev 52 (by decide), e52, ← hM1]; exact make_inos (M + 1) (by omega) w)) ⟨_, ?_, ?_, ?_, hF.newI⟩
   ·unfold MS.n bn; simp only; omega
   ·rfl
   ·unfold A6
    simp only [six53]
    rfl
  ·obtain ⟨c, t, ii, ee, g⟩ := s
   cases e
   refine opNew h19 d19 (wanted_free g19 _) (run_mk p19 (by rw [ev 56 (by decide), e56, ← hM1]; exact make_ints (M + 1) (by omega) w)) ⟨_, ?_, ?_, ?_, hF.newE⟩
   ·unfold MS.n bn; simp only; omega
   ·rfl
   ·unfold A6
    simp only [six57]
    rfl
 ·obtain ⟨c, t, i, e, b, g, k, rfl⟩ := full_of hs
  exact last c t i e b g k w hF
end Go.Proofs.YtpmignilhoihnaaGreat

namespace Go.Proofs.YtpmignilhoihnaaGreat
open Go.RowKit Go.Shelf

def KC6 (w : World) (n M b off ic c t i e g k : Nat) (im : Img) : KC := ⟨w.heap.size, g, k, c, t, i, e, w.heap.size + 1, n, M, some ⟨b, off, none⟩, ic, im⟩
theorem isk_made {w2 w : World} {n M b off ic c t i e bb g k : Nat} {im : Img} (hI : ImgAt w2 (some ⟨b, off, none⟩) im) (hl : im.length = n) (n1 : 8 ≤ n) (n2 : n ≤ 4096) (m1 : 1 ≤ M) (m2 : M + 2 ≤ n) (h : M6 w2 n M im ⟨some c, some t, some i, some e, .full bb g k⟩ w) :
  IsK (w.alloc (.cells (rlookV (KC6 w n M b off ic c t i e g k im) (.slice none 0 0)) 67)) (KC6 w n M b off ic c t i e g k im) (startK im (.slice none 0 0)) := by
 have hA := Chg.alloc w (.cells (rlookV (KC6 w n M b off ic c t i e g k im) (.slice none 0 0)) 67) No;obtain ⟨c1, c2⟩ := h.c c rfl;obtain ⟨t1, t2⟩ := h.t t rfl;obtain ⟨i1, i2⟩ := h.i i rfl;obtain ⟨e1, e2⟩ := h.e e rfl;obtain ⟨g1, g2⟩ := h.g bb g k rfl;have hz := h.ch.size
 have hb : b < w2.heap.size := by
  rcases hI.2 with q | ⟨b', o', q, hq, _⟩
  ·rw [q] at hl; simp at hl; omega
  ·cases q; exact hq
 refine ⟨heap_alloc_new _ _, (hI.keep h.ch (fun _ _ e => e)).keep hA (fun _ _ e => e), hl, n1, n2, m1, m2, g1.keep hA (fun e => e), hl, c1.keep hA (fun e => e), t1.keep hA (fun e => e), i1.keep hA (fun e => e), fun _ => Zi_len, e1.keep hA (fun e => e), ⟨rfl, .inl ⟨rfl, rfl⟩⟩, h.d c t rfl rfl, ?_, ?_⟩
 ·obtain ⟨A, hA', _⟩ := e1
  have := slt hA'
  show e < w.heap.size + 1
  omega
 ·intro q hq
  have hq : b = q := hq;subst hq;refine ⟨?_, ?_, ?_, ?_, ?_, ?_, ?_⟩
  ·show b ≠ w.heap.size; omega
  ·show b ≠ g; omega
  ·show b ≠ c; omega
  ·show b ≠ t; omega
  ·show b ≠ i; omega
  ·show b ≠ e; omega
  ·show b < w.heap.size + 1; omega
theorem kc6_new {w2 w : World} {n M b off ic c t i e bb g k : Nat} {im : Img} (h : M6 w2 n M im ⟨some c, some t, some i, some e, .full bb g k⟩ w) : ∀ q, KC2 (KC6 w n M b off ic c t i e g k im) q → w2.heap.size ≤ q := by
 have hz := h.ch.size
 intro q hq
 rcases hq with e' | e' | e' | e' | e' | e' | e'
 ·have e' : q = w.heap.size := e'; omega
 ·have e' : q = g := e'; have := (h.g bb g k rfl).2; omega
 ·have e' : q = c := e'; have := (h.c c rfl).2; omega
 ·have e' : q = t := e'; have := (h.t t rfl).2; omega
 ·have e' : q = i := e'; have := (h.i i rfl).2; omega
 ·have e' : q = e := e'; have := (h.e e rfl).2; omega
 ·have e' : w.heap.size + 1 ≤ q := e'; omega
structure LW (w2 w : World) (c : KC) (F : LS) (j : Nat) (k : KT) (s : LS) (pre ds : List Int) : Prop where
 is : IsK w c k
 db : DB c.N c.M c.im pre k s ds
 pl : pre.length = j
 fin : F = allL c.N c.M c.im (c.M - j) s
 ch : Chg w2 w No
 bs : c.B ≤ w.heap.size
theorem LW.start {w2 w1 w : World} {c : KC} {im : Img} (him : c.im = im) (hN : c.N = im.length) (hM1 : 1 ≤ c.M) (hs : AllSec im) (hr : rootB c.M im = true) {v v' : Value}
  (hk : IsK w1 c (takeKT c (startK im v) 1 (soundZ c.M im ((1 : Nat) : Int)).1 v')) (hw : w = w1.setCell ⟨c.eb, 1, none⟩ (.int .i64 1)) (hc : Chg w2 w1 No) (he : w2.heap.size ≤ c.eb) (hB : c.B ≤ w1.heap.size) :
  ∃ k, LW w2 w c (goneL c.M im) 0 k (enterL c.N c.M im ((1 : Nat) : Int) (startL im)) [] [1] := by
 have h1 := hk.setE (k := 1) (by omega) 1;have hs2 : Chg w1 (w1.setCell ⟨c.eb, 1, none⟩ (.int .i64 1)) (· = c.eb) := Chg.setCell;refine ⟨_, (by rw [hw]; exact h1), ?_, rfl, ?_, by rw [hw]; exact hc.trans hs2 (fun _ _ e => e) (fun j hj e => by omega), by rw [hw]; have := hs2.size; omega⟩
 ·have := start_db (c := c) hN hM1 hs hr v v'
  rw [him]
  exact this
 ·unfold goneL
  rw [him, Nat.sub_zero, ← hN]
  rfl
theorem LW.next {w2 w w' : World} {c : KC} {F : LS} {j : Nat} {k k' : KT} {s : LS} {pre ds ds' : List Int} {d : Int} {l : List Int} {q : List (List Int)} {nms : List ByteArray} (h : LW w2 w c F j k s pre (d :: ds)) (hq : s.q = l :: q) (hk : IsK w' c k') (hd : DS c.N c.M c.im (pre ++ [d]) l l.length k' nms (dirK c.N c.M c.im l ([], { s with q := q })) ds') (hc : Chg w w' (KC2 c)) (hn : ∀ b, KC2 c b → w2.heap.size ≤ b) :
  LW w2 w' c F (j + 1) k' (dirK c.N c.M c.im l ([], { s with q := q })).2 (pre ++ [d]) ds' := by
 have hlen : k.row.length ≤ c.M := h.db.rlen;have hrow := h.db.row;refine ⟨hk, hd.done, by rw [List.length_append, h.pl]; rfl, ?_, h.ch.trans hc (fun _ _ e => e) (fun b hb e => by have := hn b e; omega), by have := hc.size; have := h.bs; omega⟩
 have hj : j < c.M := by
  rw [hrow, List.length_append, h.pl, List.length_cons] at hlen
  omega
 rw [h.fin, show c.M - j = (c.M - (j + 1)) + 1 by omega, allL_cons hq]
 rfl
theorem LW.last {w2 w : World} {c : KC} {F : LS} {j : Nat} {k : KT} {s : LS} {pre : List Int} (h : LW w2 w c F j k s pre []) : DB c.N c.M c.im pre k F [] := by
 have hq : s.q = [] := h.db.qi.none.2 rfl
 have : F = s := by rw [h.fin, allL_nil hq]
 rw [this]
 exact h.db
end Go.Proofs.YtpmignilhoihnaaGreat
