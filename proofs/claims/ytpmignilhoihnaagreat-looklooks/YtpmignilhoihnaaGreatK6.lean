/-
 The keeper that is handed to a table: an index reckoned, and the next keeper asked.
-/
import Derived.Test.YtpmignilhoihnaaGreatC1
import Derived.Maps.AppendAt
namespace Go.Proofs.YtpmignilhoihnaaGreat
open Go.RowKit Go.Shelf

section
variable {ops : Array Oper} {rest : List Oper} {o : Oper} {a : Act} {w : World} {Q : Exit → Act → World → Prop}
theorem load_mid (t : TypeId) (x : Operand) (ho : o.op = .load t x) (g off : Nat) (hx : a.eval x = .pointer (some ⟨g, off, none⟩)) (cs : List Value) (d : TypeDesc) (hr : w.rangeAt g off cs)
  (hu : Tryz.prog.underlying t = some d) (hd : d.isRow = true) (hi : (Tryz.prog.info? t).map (·.size) = some cs.length) (hw : Region.wanted o (yielded ops a.tmps) = true)
  (h : wpList Tryz.prog ops Q rest (a.put o.dst (.agg cs.toArray)) w) : wpList Tryz.prog ops Q (o :: rest) a w :=
 wpList_want hw fun _ hK => by
  unfold Oper.wp execOp
  simp only [ho, hx, Instr.loadAt, Instr.sureAddr, Sem.run_bind, Sem.run_pure, Result.andThen_ok, run_loadVar_mid w g off t cs d hr hu hd hi]
  exact hK _ _ h
end
theorem few_cl {c : LC} {cl : Int → Bool} {w : World} (h : ClOk c cl) (hp : IsP w c) : ∃ L : List Int, L.length ≤ 5000 ∧ ∀ x, cl x = true → x ∈ L := by
 refine ⟨(List.range 4096).map Int.ofNat, by simp, fun x hx => ?_⟩;obtain ⟨h1, h2⟩ := h x hx;have := hp.n2
 exact List.mem_map.2 ⟨x.toNat, List.mem_range.2 (by omega), by show ((x.toNat : Nat) : Int) = x; omega⟩
theorem IsP.ne_cb {w : World} {c : LC} {wt : Img} {cl : Int → Bool} (h : IsP w c) (k : IsW w c wt cl) : c.b.p ≠ c.b.cb ∧ c.b.wb ≠ c.b.cb := by
 obtain ⟨es, ck, hm⟩ := k.cl.isMap;obtain ⟨A, hA⟩ := k.wt.isRow
 exact ⟨obj_ne h.me hm (by intro e; cases e), obj_ne hA hm (by intro e; cases e)⟩
theorem IsP.cl {w w' : World} {c : LC} {wt : Img} {cl : Int → Bool} (h : IsP w c) (k : IsW w c wt cl) (hc : Chg w w' (· = c.b.cb)) : IsP w' c :=
 h.keep hc (h.ne_cb k).1 (fun _ e => e ▸ h.b1)

end Go.Proofs.YtpmignilhoihnaaGreat

namespace Go.Proofs.YtpmignilhoihnaaGreat
open Go.RowKit Go.Shelf

set_option maxRecDepth 100000 in
set_option maxHeartbeats 1000000 in
theorem claim_any {c : LC} {wt : Img} {cl : Int → Bool} (n : Int) (w : World) (hp : IsP w c) (hw : IsW w c wt cl) (hn : I64 n) :
  Calls Tryz.prog 78 #[.pointer (some ⟨c.b.p, 0, none⟩), .int .i64 n] w fun e w' => e = .returned (.bool (claimB c.N c.M cl n)) ∧ IsP w' c ∧ IsW w' c wt (if claimB c.N c.M cl n then putC cl n else cl) ∧ Chg w w' (· = c.b.cb) := by
 have hu := zeroU;have c4 := hp.c4;have HP := hid hp;have HW := hid hw;have HA := hid (Chg.alloc w (.cells #[] 92) No);have hS := hw.cl;have hSA := hS.keep HA.out (fun e => e);have c4A : (w.alloc (.cells #[] 92)).cell? ⟨c.b.p, 4, none⟩ = some (.map (some c.b.cb)) := (hp.call HA.out).c4;have hID := isData_any (c.N : Int) (c.M : Int) n (w.alloc (.cells #[] 92));have d0 := (hp.call HA.out).c0;have d1 := (hp.call HA.out).c1;have hfew := few_cl hw.ck hp;clear hp hw
 by_cases h1 : cl n = true
 ·have hB : claimB c.N c.M cl n = false := by simp [claimB, h1]
  rw [hB]
  go_enter Tryz.func78, Tryz.ntmps78
  go_wp2_with (first
   | (at_lookup; go_must (refine wp_ok rfl _ _ rfl c.b.cb _ n rfl rfl hS hn ?_; intro r hr; obtain rfl : r = true := hr.2 h1; clear hr))
   | fail)
  go_ret
  exact ⟨rfl, HP.out.call HA.out, HW.out.call HA.out, HA.out.mono fun _ _ e => e.elim⟩
 ·have h1f : cl n = false := by simpa using h1
  cases h2 : dataB c.M c.N n
  ·have hB : claimB c.N c.M cl n = false := by simp [claimB, h2]
   rw [hB];rw [h2] at hID
   go_enter Tryz.func78, Tryz.ntmps78
   go_wp2_with (first
    | (at_lookup; go_must (refine wp_ok rfl _ _ rfl c.b.cb _ n rfl rfl hS hn ?_; intro r hr; obtain rfl : r = false := (by cases r; rfl; exact absurd (hr.1 rfl) h1); clear hr))
    | (go_at_call 115; go_must (refine hID.mono ?_; rintro e w2 ⟨rfl, hb2⟩))
    | fail)
   go_ret
   have hc2 := HA.out.trans (Chg.of_below hb2 No) (c := No) (fun _ _ e => e) (fun _ _ e => e)
   exact ⟨rfl, HP.out.call hc2, HW.out.call hc2, hc2.mono fun _ _ e => e.elim⟩
  ·have hB : claimB c.N c.M cl n = true := by simp [claimB, h2, h1f]
   rw [hB];rw [h2] at hID
   have hd : (c.M : Int) < n ∧ n < c.N := by simpa [dataB] using h2
   go_enter Tryz.func78, Tryz.ntmps78
   go_wp2_with (first
    | (at_lookup; go_must (refine wp_ok rfl _ _ rfl c.b.cb _ n rfl rfl hS hn ?_; intro r hr; obtain rfl : r = false := (by cases r; rfl; exact absurd (hr.1 rfl) h1); clear hr))
    | (go_at_call 115; go_must (refine hID.mono ?_; rintro e w2 ⟨rfl, hb2⟩; have hc2 := HA.out.trans (Chg.of_below hb2 No) (c := No) (fun _ _ e => e) (fun _ _ e => e); have c42 := (HP.out.call hc2).c4; have hS2 := (HW.out.call hc2).cl))
    | (at_mapUpdate; go_must (refine wp_storeS rfl _ _ _ rfl c.b.cb _ n rfl rfl rfl hS2 hn hfew ?_; intro w3 hs3 hc3 hz3))
    | fail)
   go_ret
   have hp2 := HP.out.call hc2;have hw2 := HW.out.call hc2;refine ⟨rfl, hp2.cl hw2 hc3, ⟨hw2.wt.keep hc3 (hp2.ne_cb hw2).2, hw2.wl, hs3.cong fun x => by simp [putC], fun x hx => ?_⟩, hc2.trans hc3 (fun _ _ e => e.elim) (fun _ _ e => e)⟩
   simp only [putC, Bool.or_eq_true, beq_iff_eq] at hx
   rcases hx with rfl | hx
   ·exact hd
   ·exact HW.out.ck x hx

end Go.Proofs.YtpmignilhoihnaaGreat

namespace Go.Proofs.YtpmignilhoihnaaGreat
open Go.RowKit Go.Shelf

def cellsP : List (Int × Int) → List Value
 | [] => []
 | x :: l => .int .i64 x.1 :: .int .i64 x.2 :: cellsP l
theorem cellsP_append : ∀ l m, cellsP (l ++ m) = cellsP l ++ cellsP m
 | [], _ => rfl
 | _ :: l, m => by simp [cellsP, cellsP_append l m]
theorem cellsP_get : ∀ (l : List (Int × Int)) (j : Nat), (cellsP l)[2 * j]? = (l[j]?).map (fun x => Value.int .i64 x.1) ∧ (cellsP l)[2 * j + 1]? = (l[j]?).map (fun x => Value.int .i64 x.2)
 | [], j => by simp [cellsP]
 | x :: l, 0 => by simp [cellsP]
 | x :: l, j + 1 => by
  have := cellsP_get l j;rw [show 2 * (j + 1) = 2 * j + 1 + 1 by omega]
  simp only [cellsP, List.getElem?_cons_succ]
  exact this

structure TE (w : World) (c : LC) (sb : Nat) (s : TS) : Prop where
 p : IsP w c
 k : IsW w c s.wt s.cl
 bs : c.B ≤ sb
 sp : ∃ v, w.heap[sb]? = some (.cells #[v] 111 (0, 0)) ∧ w.ownsRow c.B 116 2 v s.sp.length (cellsP s.sp)
def Kt (c : LC) (sb : Nat) (w : World) (k : Nat) : Prop := c.B ≤ k ∧ (k = c.b.wb ∨ k = c.b.cb ∨ k = sb ∨ ∃ A, w.heap[k]? = some (.cells A 116 (0, 0)))
section
variable {w w1 w2 w' : World} {c : LC} {sb : Nat} {s : TS}
theorem kt_trans (h : Chg w w1 (Kt c sb w)) (k : Chg w1 w2 (Kt c sb w1)) : Chg w w2 (Kt c sb w) :=
 h.trans k (fun _ _ e => e) (fun j hj e => by
  by_cases hn : Kt c sb w j
  ·exact hn
  rcases e with ⟨hB, e | e | e | ⟨A, e⟩⟩
  ·exact ⟨hB, .inl e⟩
  ·exact ⟨hB, .inr (.inl e)⟩
  ·exact ⟨hB, .inr (.inr (.inl e))⟩
  ·rw [h.block j hj hn] at e
   exact ⟨hB, .inr (.inr (.inr ⟨A, e⟩))⟩)
theorem kt_no (h : Chg w w' No) : Chg w w' (Kt c sb w) := h.mono fun _ _ e => e.elim
theorem TE.not (h : TE w c sb s) {g : Nat} {A : Array Value} {t : TypeId} {f : Nat × Nat} (hb : w.heap[g]? = some (.cells A t f)) (h1 : t ≠ 33) (h2 : t ≠ 111) (h3 : t ≠ 116) : ¬ Kt c sb w g := by
 obtain ⟨es, ck, hm⟩ := h.k.cl.isMap;obtain ⟨B, hB⟩ := h.k.wt.isRow;obtain ⟨v, hv, _⟩ := h.sp
 rintro ⟨_, rfl | rfl | rfl | ⟨C, e⟩⟩
 ·rw [hB] at hb; cases hb; exact h1 rfl
 ·rw [hm] at hb; cases hb
 ·rw [hv] at hb; cases hb; exact h2 rfl
 ·rw [e] at hb; cases hb; exact h3 rfl
theorem TE.stay (h : TE w c sb s) {g : Nat} {A : Array Value} {t : TypeId} {f : Nat × Nat} (hb : w.heap[g]? = some (.cells A t f)) (h1 : t ≠ 33) (h2 : t ≠ 111) (h3 : t ≠ 116) (hc : Chg w w' (Kt c sb w)) : w'.heap[g]? = some (.cells A t f) :=
 hc.keep hb (h.not hb h1 h2 h3)
theorem TE.call (h : TE w c sb s) (hc : Chg w w' No) : TE w' c sb s := by
 obtain ⟨v, h1, h2⟩ := h.sp;refine ⟨h.p.call hc, h.k.call hc, h.bs, v, hc.keep h1 (fun e => e), ?_⟩;refine ⟨h2.1, ?_⟩
 rcases h2.2 with k | ⟨g, cap, cur, rfl, hb, hg, r⟩
 ·exact .inl k
 ·exact .inr ⟨g, cap, cur, rfl, hb, hc.keep hg (fun e => e), r⟩
theorem TE.claims (h : TE w c sb s) {cl : Int → Bool} (hp : IsP w' c) (hk : IsW w' c s.wt cl) (hc : Chg w w' (· = c.b.cb)) : TE w' c sb ⟨s.wt, cl, s.sp⟩ := by
 obtain ⟨v, h1, h2⟩ := h.sp;obtain ⟨es, ck, hm⟩ := h.k.cl.isMap;refine ⟨hp, hk, h.bs, v, hc.keep h1 (obj_ne h1 hm (by intro e; cases e)), ?_⟩;refine ⟨h2.1, ?_⟩
 rcases h2.2 with k | ⟨g, cap, cur, rfl, hb, hg, r⟩
 ·exact .inl k
 ·exact .inr ⟨g, cap, cur, rfl, hb, hc.keep hg (obj_ne hg hm (by intro e; cases e)), r⟩
end

def Box (w : World) (g : Nat) (v : Value) (t : TypeId) : Prop := w.heap[g]? = some (.cells #[v] t (0, 0))
theorem Box.cell {w : World} {g : Nat} {v : Value} {t : TypeId} (h : Box w g v t) : w.cell? ⟨g, 0, none⟩ = some v := (cell_of_row _ _ _ _ _ _ h).trans rfl
theorem Box.call {w w' : World} {g : Nat} {v : Value} {t : TypeId} (h : Box w g v t) (hc : Chg w w' No) : Box w' g v t := hc.keep h (fun e => e)
def Stays (w w' : World) : Prop := ∀ k v t, Box w k v t → t = 3 ∨ t = 47 ∨ t = 134 → Box w' k v t
theorem stays_no {w w' : World} (h : Chg w w' No) : Stays w w' := fun _ _ _ hb _ => hb.call h
theorem stays_at {w w' : World} {g : Nat} {A : Array Value} {t : TypeId} {f : Nat × Nat} (hg : w.heap[g]? = some (.cells A t f)) (ht : ¬ (t = 3 ∨ t = 47 ∨ t = 134)) (hc : Chg w w' (· = g)) : Stays w w' := fun k v u hb hu => hc.keep hb (fun e => by
 subst e;unfold Box at hb;rw [hg] at hb
 cases hb
 exact ht hu)

theorem TE.stays {w w' : World} {c : LC} {sb : Nat} {s : TS} (h : TE w c sb s) (hc : Chg w w' (Kt c sb w)) : Stays w w' := fun k v t hb ht => by
 refine h.stay hb ?_ ?_ ?_ hc <;> rcases ht with rfl | rfl | rfl <;> decide
structure Keeper (c : LC) (sb : Nat) (X : World → Prop) (fn : Nat) (caps : Array Value) (U : Int) (D : Nat) (F : KeepF) : Prop where
 en : ∀ args w, (callFunc fn args).run Tryz.prog w = .ok (.enter fn args) w
 st : ∀ w w', X w → Stays w w' → X w'
 le : ∀ s i n, (F s i n).2.sp.length ≤ s.sp.length + D
 run : ∀ s i n w, TE w c sb s → X w → 0 ≤ i → i ≤ U → 0 ≤ n → n ≤ 4294967295 → s.sp.length + D ≤ 1000000 →
  Calls Tryz.prog fn (#[.int .i64 i, .int .i64 n] ++ caps) w fun e w' => e = .returned (.bool (F s i n).1) ∧ TE w' c sb (F s i n).2 ∧ Chg w w' (Kt c sb w)

set_option maxRecDepth 100000 in
set_option maxHeartbeats 1000000 in
theorem left_any {c : LC} {sb : Nat} {X : World → Prop} {fn : Nat} {caps : Array Value} {U : Int} {D : Nat} {F : KeepF} (h : Keeper c sb X fn caps U D F) (s : TS) (i n : Int) (w : World) (ht : TE w c sb s) (hx : X w) (h0 : 0 ≤ i) (h1 : i ≤ U) (hn0 : 0 ≤ n) (hn1 : n ≤ 4294967295) (hl : s.sp.length + D ≤ 1000000) :
  Calls Tryz.prog 83 #[.func (.func fn) #[] caps, .int .i64 i, .int .i64 n] w fun e w' => e = .returned (.int .i64 (leftF (F s i n).1 n)) ∧ TE w' c sb (F s i n).2 ∧ Chg w w' (Kt c sb w) := by
 have hR := h.run s i n w ht hx h0 h1 hn0 hn1 hl;have en := h.en
 generalize F s i n = r at *
 obtain ⟨b, s'⟩ := r;clear h ht hx
 cases b
 ·go_enter Tryz.func83, Tryz.ntmps83
  go_wp2_with (first
   | (go_at_fn fn; go_must (refine hR.mono ?_; rintro e w1 ⟨rfl, hT, hc⟩))
   | fail)
  go_ret
  exact ⟨rfl, hT, hc⟩
 ·go_enter Tryz.func83, Tryz.ntmps83
  go_wp2_with (first
   | (go_at_fn fn; go_must (refine hR.mono ?_; rintro e w1 ⟨rfl, hT, hc⟩))
   | fail)
  go_ret
  exact ⟨rfl, hT, hc⟩

end Go.Proofs.YtpmignilhoihnaaGreat

namespace Go.Proofs.YtpmignilhoihnaaGreat
open Go.RowKit Go.Shelf

theorem row_shapeP {w : World} {base e k n : Nat} {v : Value} {xs : List Value} (h : w.ownsRow base e k v n xs) : ∃ a cap, v = .slice a n cap := by
 rcases h.2 with ⟨rfl, rfl⟩ | ⟨g, cap, cur, rfl, _⟩
 ·exact ⟨none, 0, rfl⟩
 ·exact ⟨_, cap, rfl⟩
theorem infoSp : ∃ i, Tryz.prog.info? 116 = some i ∧ i.zero = some (.agg #[.int .i64 0, .int .i64 0]) ∧ i.size = 2 ∧ i.bytes = 16 := by
 have h : (Tryz.prog.info? 116).map (fun i => (i.zero, i.size, i.bytes)) = some (some (.agg #[.int .i64 0, .int .i64 0]), 2, 16) := by kernel_rfl
 cases hq : Tryz.prog.info? 116 with
 | none => rw [hq] at h; cases h
 | some i =>
  rw [hq] at h
  simp at h
  exact ⟨i, rfl, h.1, h.2.1, h.2.2⟩
section
variable {ops : Array Oper} {rest : List Oper} {o : Oper} {a : Act} {Q : Exit → Act → World → Prop} {w : World}
theorem wp_appSp (hg : o.guard = none) (s x : Operand) (hop : o.op = .call { callee := .builtin .append, args := #[s, x], argTypes := #[111, 111] }) (B g c : Nat) (v : Value) (l : List (Int × Int)) (y : Int × Int) (hs : a.eval s = v) (hx : a.eval x = .slice (some ⟨g, 0, none⟩) 1 c)
  (hown : w.ownsRow B 116 2 v l.length (cellsP l)) (hat : w.cell? ⟨g, 0, none⟩ = some (.int .i64 y.1)) (hat1 : w.cell? ⟨g, 1, none⟩ = some (.int .i64 y.2)) (hl : l.length ≤ 1000000) (hB : B ≤ w.heap.size)
  (hK : ∀ a' c' w', w'.ownsRow B 116 2 (.slice a' (l.length + 1) c') (l ++ [y]).length (cellsP (l ++ [y])) → Chg w w' (fun k => v.ownBlock = some k) → wpList Tryz.prog ops Q rest (a.put o.dst (.slice a' (l.length + 1) c')) w') : wpList Tryz.prog ops Q (o :: rest) a w := by
 obtain ⟨i, hi, hz, hsz, hby⟩ := infoSp;refine wpList_append_own_at w hg s x 111 hop B 116 i _ 2 16 Tryz.underlying111 hi hz hsz hby rfl (by decide) v l.length (cellsP l) hs hown ⟨g, 0, none⟩ 1 c [.int .i64 y.1, .int .i64 y.2] hx rfl (fun j u hj => ?_) (by simp [Value.oneCell']) (by unfold maxLen; omega) (by omega) hB ?_
 ·match j, hj with
  | 0, hj => simp at hj; subst hj; exact hat
  | 1, hj => simp at hj; subst hj; exact hat1
  | j + 2, hj => simp at hj
 ·intro v' w' h1 h2 _ _
  obtain ⟨a', c', rfl⟩ := row_shapeP h1;refine hK a' c' w' ?_ ((Chg.grown h2).mono fun j _ e => e.symm);rw [cellsP_append, List.length_append]
  exact h1
end
def LP (c : LC) : Value := .pointer (some ⟨c.b.p, 0, none⟩)
def XB (c : LC) (kb lb : Nat) (cnt : Int) (w : World) : Prop := Box w kb (.int .i64 cnt) 3 ∧ Box w lb (LP c) 47
theorem XB.stay {w w' : World} {c : LC} {kb lb : Nat} {cnt : Int} (h : XB c kb lb cnt w) (hs : Stays w w') : XB c kb lb cnt w' :=
 ⟨hs _ _ _ h.1 (.inl rfl), hs _ _ _ h.2 (.inr (.inl rfl))⟩
theorem claims_kt {w w' : World} {c : LC} {sb : Nat} {s : TS} (ht : TE w c sb s) (h : Chg w w' (· = c.b.cb)) : Chg w w' (Kt c sb w) := h.mono fun _ _ e => ⟨e ▸ ht.p.b1, .inr (.inl e)⟩
theorem TE.note {w w1 w2 : World} {c : LC} {sb : Nat} {s : TS} {v : Value} {y : Int × Int} {a' : Option Addr} {c' : Nat} (h : TE w c sb s) (hv : w.heap[sb]? = some (.cells #[v] 111 (0, 0))) (ho : w.ownsRow c.B 116 2 v s.sp.length (cellsP s.sp))
  (h1 : w1.ownsRow c.B 116 2 (.slice a' (s.sp.length + 1) c') (s.sp ++ [y]).length (cellsP (s.sp ++ [y]))) (hc : Chg w w1 (fun k => v.ownBlock = some k)) (h2 : w2 = w1.setCell ⟨sb, 0, none⟩ (.slice a' (s.sp.length + 1) c')) :
  TE w2 c sb ⟨s.wt, s.cl, s.sp ++ [y]⟩ ∧ Chg w w2 (Kt c sb w) := by
 subst h2;obtain ⟨es, ck, hm⟩ := h.k.cl.isMap;obtain ⟨B, hB⟩ := h.k.wt.isRow
 have hblk : ∀ k, v.ownBlock = some k → c.B ≤ k ∧ ∃ A, w.heap[k]? = some (.cells A 116 (0, 0)) := fun k e => by
  rcases ho.2 with ⟨rfl, _⟩ | ⟨g, cap, cur, rfl, hb, hg, _⟩
  ·cases e
  ·have : g = k := by simpa [Value.ownBlock] using e
   subst this
   exact ⟨hb, cur, hg⟩
 have hk1 : Chg w w1 (Kt c sb w) := hc.mono fun j _ e => ⟨(hblk j e).1, .inr (.inr (.inr (hblk j e).2))⟩
 have hs1 : w1.heap[sb]? = some (.cells #[v] 111 (0, 0)) := hc.keep hv (fun e => by
  obtain ⟨_, A, e⟩ := hblk _ e
  rw [hv] at e; cases e)
 have hset : Chg w1 (w1.setCell ⟨sb, 0, none⟩ (.slice a' (s.sp.length + 1) c')) (· = sb) := Chg.setCell
 have hk2 : Chg w (w1.setCell ⟨sb, 0, none⟩ (.slice a' (s.sp.length + 1) c')) (Kt c sb w) := hk1.trans hset (fun _ _ e => e) (fun _ _ e => ⟨e ▸ h.bs, .inr (.inr (.inl e))⟩)
 have hcc : Chg w (w1.setCell ⟨sb, 0, none⟩ (.slice a' (s.sp.length + 1) c')) (fun k => k = sb ∨ v.ownBlock = some k) := hc.trans hset (fun _ _ e => .inr e) (fun _ _ e => .inl e)
 have nb : ∀ {g : Nat} {x : Obj}, w.heap[g]? = some x → (∀ A, x ≠ .cells A 116 (0, 0)) → (∀ A, x ≠ .cells A 111 (0, 0)) → ¬ (g = sb ∨ v.ownBlock = some g) := by
  rintro g x hx n1 n2 (rfl | e)
  ·rw [hv] at hx; exact n2 _ (Option.some.inj hx).symm
  ·obtain ⟨_, A, e⟩ := hblk g e
   rw [hx] at e
   exact n1 A (Option.some.inj e)
 refine ⟨⟨?_, ?_, h.bs, .slice a' (s.sp.length + 1) c', ?_, ?_⟩, hk2⟩
 ·exact h.p.keep hcc (nb h.p.me (by intro A e; cases e) (by intro A e; cases e)) (fun k hk => hk.elim (fun e => e ▸ h.bs) (fun e => (hblk k e).1))
 ·exact h.k.keep hcc (nb hB (by intro A e; cases e) (by intro A e; cases e)) (nb hm (by intro A e; cases e) (by intro A e; cases e))
 ·exact (heap_setCell_same w1 sb 0 _ _ _ hs1).trans rfl
 ·refine ⟨h1.1, ?_⟩
  rcases h1.2 with k | ⟨g, cap, cur, e, hb, hg, r⟩
  ·exact .inl k
  ·refine .inr ⟨g, cap, cur, e, hb, ?_, r⟩
   rw [heap_setCell_other w1 ⟨sb, 0, none⟩ g _ (fun e => by subst e; rw [hs1] at hg; cases hg)]
   exact hg

end Go.Proofs.YtpmignilhoihnaaGreat

namespace Go.Proofs.YtpmignilhoihnaaGreat
open Go.RowKit Go.Shelf

theorem blockF_le (N M cnt : Int) (s : TS) (i n : Int) : (blockF N M cnt s i n).2.sp.length ≤ s.sp.length + 1 := by
 unfold blockF
 split
 ·simp
 ·exact Nat.le_succ _

set_option maxRecDepth 100000 in
set_option maxHeartbeats 1000000 in
theorem block_any {c : LC} {sb kb lb : Nat} {cnt : Int} (s : TS) (i n : Int) (w : World) (ht : TE w c sb s) (hx : XB c kb lb cnt w) (hn : I64 n) (hl : s.sp.length + 1 ≤ 1000000) :
  Calls Tryz.prog 77 #[.int .i64 i, .int .i64 n, .pointer (some ⟨kb, 0, none⟩), .pointer (some ⟨lb, 0, none⟩), .pointer (some ⟨sb, 0, none⟩)] w fun e w' => e = .returned (.bool (blockF c.N c.M cnt s i n).1) ∧ TE w' c sb (blockF c.N c.M cnt s i n).2 ∧ Chg w w' (Kt c sb w) := by
 have ck := hx.1.cell;have cl := hx.2.cell;unfold LP at cl;have HT := hid ht;have HX := hid hx
 by_cases hi : i < cnt
 ·have hCL := claim_any n w ht.p ht.k hn
  cases hb : claimB c.N c.M s.cl n
  ·have HF : Hid (blockF c.N c.M cnt s i n = (false, s)) := hid (by simp [blockF, hb])
   rw [hb] at hCL;rw [HF.out];clear ht hx
   go_enter Tryz.func77, Tryz.ntmps77
   go_wp2_with (first
    | (go_at_call 78; go_must (refine hCL.mono ?_; rintro e w1 ⟨rfl, hp1, hk1, hc1⟩))
    | fail)
   go_ret
   exact ⟨rfl, HT.out.claims hp1 hk1 hc1, claims_kt HT.out hc1⟩
  ·have HF : Hid (blockF c.N c.M cnt s i n = (true, ⟨s.wt, Go.Proofs.YtpmignilhoihnaaGreat.putC s.cl n, s.sp ++ [(i, n)]⟩)) := hid (by simp [blockF, hb, hi])
   rw [hb] at hCL;rw [HF.out];clear ht hx
   go_enter Tryz.func77, Tryz.ntmps77
   go_upto_region 3 with (first
    | (go_at_call 78; go_must (refine hCL.mono ?_; rintro e w1 ⟨rfl, hp1, hk1, hc1⟩))
    | fail)
   simp only [if_true] at hk1
   have hT1 := HT.out.claims hp1 hk1 hc1;obtain ⟨v, hv, ho⟩ := hT1.sp;have cv : w1.cell? ⟨sb, 0, none⟩ = some v := Box.cell hv;have HC := hid (Chg.alloc w1 (.cells #[.int .i64 i, .int .i64 n] 116) No);have HT2 := hid (hT1.call HC.out);have HN := heap_alloc_new w1 (.cells #[.int .i64 i, .int .i64 n] 116);have e0 : (w1.alloc (.cells #[.int .i64 i, .int .i64 n] 116)).cell? ⟨w1.heap.size, 0, none⟩ = some (.int .i64 i) := (cell_of_row _ _ _ _ _ _ HN).trans rfl;have e1 : (w1.alloc (.cells #[.int .i64 i, .int .i64 n] 116)).cell? ⟨w1.heap.size, 1, none⟩ = some (.int .i64 n) := (cell_of_row _ _ _ _ _ _ HN).trans rfl;have HV := hid (HC.out.keep hv (fun e => e))
   have HO : Hid ((w1.alloc (.cells #[.int .i64 i, .int .i64 n] 116)).ownsRow c.B 116 2 v s.sp.length (cellsP s.sp)) := hid (by
    refine ⟨ho.1, ?_⟩
    rcases ho.2 with k | ⟨g, cap, cur, rfl, hb, hg, r⟩
    ·exact .inl k
    ·exact .inr ⟨g, cap, cur, rfl, hb, HC.out.keep hg (fun e => e), r⟩)
   have HVK : Hid (∀ W, Chg (w1.alloc (.cells #[.int .i64 i, .int .i64 n] 116)) W (fun k => v.ownBlock = some k) → W.heap[sb]? = some (.cells #[v] 111 (0, 0))) := hid (fun W hW => hW.keep HV.out (fun e => by
    rcases HO.out.2 with ⟨rfl, _⟩ | ⟨g, cap, cur, rfl, _, hg, _⟩
    ·cases e
    ·have : g = sb := by simpa [Value.ownBlock] using e
     subst this;have k := HV.out;rw [hg] at k
     cases k))
   have HBs : Hid (c.B ≤ (w1.alloc (.cells #[.int .i64 i, .int .i64 n] 116)).heap.size) := hid (by have := HT2.out.bs; have := slt HV.out; omega);have HC1 := hid hc1;have HT1 := hid hT1;clear HN hv ho hT1 hp1 hk1 hc1
   go_wp2_with (first
    | (at_builtin; go_must (refine wp_appSp rfl _ _ rfl c.B w1.heap.size 1 v s.sp (i, n) rfl rfl HO.out e0 e1 (by omega) HBs.out ?_; intro a' c' w3 h3 hc3; have hv3 := HVK.out w3 hc3; have hs3 : w3.frozen? ⟨sb, 0, none⟩ = false := frozen_of_row _ _ _ _ _ hv3; have hs4 : w3.cell? ⟨sb, 0, none⟩ = some v := Box.cell hv3; have HV3 := hid hv3; clear hv3))
    | fail)
   go_ret
   obtain ⟨hT, hK⟩ := TE.note HT2.out HV.out HO.out h3 hc3 rfl
   exact ⟨rfl, hT, kt_trans (claims_kt HT.out HC1.out) (kt_trans (kt_no HC.out) hK)⟩
 ·have HF : Hid (blockF c.N c.M cnt s i n = (false, s)) := hid (by simp [blockF, hi])
  rw [HF.out];clear ht hx
  go_enter Tryz.func77, Tryz.ntmps77
  go_wp2_with fail
  go_ret
  exact ⟨rfl, HT.out, Chg.refl _ _⟩

theorem block_keeper {c : LC} {sb kb lb : Nat} {cnt : Int} : Keeper c sb (XB c kb lb cnt) 77 #[.pointer (some ⟨kb, 0, none⟩), .pointer (some ⟨lb, 0, none⟩), .pointer (some ⟨sb, 0, none⟩)] 1000000 1 (blockF c.N c.M cnt) where
 en := enters_of Tryz.func77 (by kernel_rfl) rfl
 st := fun _ _ hx hs => hx.stay hs
 le := blockF_le _ _ _
 run := fun s i n w ht hx _ _ h0 h1 hl => block_any s i n w ht hx ⟨by omega, by omega⟩ hl

end Go.Proofs.YtpmignilhoihnaaGreat

namespace Go.Proofs.YtpmignilhoihnaaGreat
open Go.RowKit Go.Shelf

def XI (X : World → Prop) (gk gf ge : Nat) (fn : Nat) (caps : Array Value) (f each : Int) (w : World) : Prop :=
 Box w gk (.func (.func fn) #[] caps) 134 ∧ Box w gf (.int .i64 f) 3 ∧ Box w ge (.int .i64 each) 3 ∧ X w

set_option maxRecDepth 100000 in
set_option maxHeartbeats 1000000 in
theorem inner_any {c : LC} {sb : Nat} {X : World → Prop} {fn : Nat} {caps : Array Value} {U : Int} {D : Nat} {F : KeepF} {gk gf ge : Nat} {f each : Int} (h : Keeper c sb X fn caps U D F) (he : each = 1 ∨ each = 32) (hf : 0 ≤ f) (hU : f + each * 31 ≤ U) (hU2 : U ≤ 1000000)
  (s : TS) (i n : Int) (w : World) (ht : TE w c sb s) (hx : XI X gk gf ge fn caps f each w) (h0 : 0 ≤ i) (h1 : i ≤ 31) (hn0 : 0 ≤ n) (hn1 : n ≤ 4294967295) (hl : s.sp.length + D ≤ 1000000) :
  Calls Tryz.prog 82 #[.int .i64 i, .int .i64 n, .pointer (some ⟨gk, 0, none⟩), .pointer (some ⟨gf, 0, none⟩), .pointer (some ⟨ge, 0, none⟩)] w fun e w' => e = .returned (.bool (innerF each f F s i n).1) ∧ TE w' c sb (innerF each f F s i n).2 ∧ Chg w w' (Kt c sb w) := by
 obtain ⟨b1, b2, b3, hX⟩ := hx;have k1 := b1.cell;have k2 := b2.cell;have k3 := b3.cell;have en := h.en
 rcases he with rfl | rfl
 ·have hR := h.run s (f + 1 * i) n w ht hX (by omega) (by omega) hn0 hn1 hl
  have HI : Hid (innerF 1 f F s i n = F s (f + 1 * i) n) := hid rfl;rw [HI.out];rw [Int.one_mul] at hR ⊢
  generalize F s (f + i) n = r at *
  clear h b1 b2 b3 hX ht HI
  go_enter Tryz.func82, Tryz.ntmps82
  go_wp2_with (first
   | (go_at_fn fn; go_must (refine hR.mono ?_; rintro e w1 ⟨rfl, hT, hc⟩))
   | fail)
  go_ret
  exact ⟨rfl, hT, hc⟩
 ·have hR := h.run s (f + 32 * i) n w ht hX (by omega) (by omega) hn0 hn1 hl
  have HI : Hid (innerF 32 f F s i n = F s (f + 32 * i) n) := hid rfl;rw [HI.out]
  generalize F s (f + 32 * i) n = r at *
  clear h b1 b2 b3 hX ht HI
  go_enter Tryz.func82, Tryz.ntmps82
  go_wp2_with (first
   | (go_at_fn fn; go_must (refine hR.mono ?_; rintro e w1 ⟨rfl, hT, hc⟩))
   | fail)
  go_ret
  exact ⟨rfl, hT, hc⟩
theorem inner_keeper {c : LC} {sb : Nat} {X : World → Prop} {fn : Nat} {caps : Array Value} {U : Int} {D : Nat} {F : KeepF} {gk gf ge : Nat} {f each : Int} (h : Keeper c sb X fn caps U D F) (he : each = 1 ∨ each = 32) (hf : 0 ≤ f) (hU : f + each * 31 ≤ U) (hU2 : U ≤ 1000000) :
  Keeper c sb (XI X gk gf ge fn caps f each) 82 #[.pointer (some ⟨gk, 0, none⟩), .pointer (some ⟨gf, 0, none⟩), .pointer (some ⟨ge, 0, none⟩)] 31 D (innerF each f F) where
 en := enters_of Tryz.func82 (by kernel_rfl) rfl
 st := fun w w' hx hs => ⟨hs _ _ _ hx.1 (.inr (.inr rfl)), hs _ _ _ hx.2.1 (.inl rfl), hs _ _ _ hx.2.2.1 (.inl rfl), h.st w w' hx.2.2.2 hs⟩
 le := fun s i n => h.le s (f + each * i) n
 run := fun s i n w ht hx h0 h1 hn0 hn1 hl => inner_any h he hf hU hU2 s i n w ht hx h0 h1 hn0 hn1 hl

end Go.Proofs.YtpmignilhoihnaaGreat
