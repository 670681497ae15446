/-
 package plain: to the directory of the last of names.
-/
import Derived.Test.YtmgfilacepnjlaaGreatDoorPM
-- may lack
namespace Go.Proofs.YtmgfilacepnjlaaGreatDoor
open Go.RowKit

section
variable {ops : Array Oper} {rest : List Oper} {o : Oper} {a : Act} {Q : Exit → Act → World → Prop} {w : World}
theorem wp_insVN (hg : o.guard = none) (m x v : Operand) (hop : o.op = Op.insert 80 m x v) (b : Nat) (f : Int → Option Value) (k : Int) (d : Value) (hm : a.eval m = .map (some b)) (hx : a.eval x = .int .i64 k) (hv : a.eval v = d)
  (h : MapV w b f) (hk : I64 k) (hf : ∃ L : List Int, L.length ≤ 5000 ∧ ∀ x, (f x).isSome = true → x ∈ L)
  (hK : ∀ w', MapV w' b (fun y => if y = k then some d else f y) → Chg w w' (· = b) → w'.heap.size = w.heap.size → wpList Tryz.prog ops Q rest (a.put o.dst undef) w') : wpList Tryz.prog ops Q (o :: rest) a w := by
 refine wpList_plain hg fun K' hK' => ?_
 obtain ⟨w', hrun, r1, r2, r3⟩ := h.storeN hk d hf
 unfold Oper.wp
 simp [execOp, hop, hm, hx, hv, hrun, Result.andThen]
 exact hK' _ _ (hK w' r1 r2 r3)
end
def SizeOk (n m : Int) : Prop := 8 ≤ n ∧ n ≤ 4096 ∧ 1 ≤ m ∧ m ≤ 512 ∧ m + 2 ≤ n
def newS (n m : Int) : PSt := ⟨n - 1 - m, m, fun i => if i = 1 then some (newNd 2 0) else none⟩

set_option maxHeartbeats 2000000 in
set_option maxRecDepth 100000 in
theorem new_bad (n m : Int) (w : World) (h : ¬ SizeOk n m) :
  Calls Tryz.prog 18 #[.int .i64 n, .int .i64 m] w fun e w' => e = .returned (.tuple #[.pointer none, .int .i64 160]) ∧ w' = w := by
 unfold SizeOk at h
 by_cases a1 : n < 8
 ·clear h
  go_enter Tryz.func18, Tryz.ntmps18
  go_wp2_with fail
  go_ret2
  exact ⟨rfl, rfl⟩
 by_cases a2 : 4096 < n
 ·clear h
  go_enter Tryz.func18, Tryz.ntmps18
  go_wp2_with fail
  go_ret2
  exact ⟨rfl, rfl⟩
 by_cases a3 : m < 1
 ·clear h
  go_enter Tryz.func18, Tryz.ntmps18
  go_wp2_with fail
  go_ret2
  exact ⟨rfl, rfl⟩
 by_cases a4 : 512 < m
 ·clear h
  go_enter Tryz.func18, Tryz.ntmps18
  go_wp2_with fail
  go_ret2
  exact ⟨rfl, rfl⟩
 have a5 : n < m + 2 := by omega
 have a6 : 1 ≤ m := by omega
 have a7 : m ≤ 512 := by omega
 clear h
 go_enter Tryz.func18, Tryz.ntmps18
 go_wp2_with fail
 go_ret2
 exact ⟨rfl, rfl⟩

set_option maxHeartbeats 2000000 in
set_option maxRecDepth 100000 in
theorem new_good (n m : Int) (w : World) (h : SizeOk n m) :
  Calls Tryz.prog 18 #[.int .i64 n, .int .i64 m] w fun e w' => ∃ q : PC, e = .returned (.tuple #[.pointer (some ⟨q.p, 0, none⟩), .int .i64 0]) ∧ IsPl w' q (newS n m) ∧ Chg w w' No ∧ w.heap.size ≤ q.p ∧ w.heap.size ≤ q.mb ∧ ∀ i c, q.nc i = some c → ∀ k, BlkN c k → w.heap.size ≤ k := by
 obtain ⟨h1, h2, h3, h4, h5⟩ := h
 have a1 : ¬ n < 8 := by omega
 have a2 : ¬ 4096 < n := by omega
 have a3 : ¬ m < 1 := by omega
 have a4 : ¬ 512 < m := by omega
 have a5 : ¬ n < m + 2 := by omega
 have hmm := @run_makeMap Tryz.prog
 have hNw := newNode_any 2 0 w
 go_enter Tryz.func18, Tryz.ntmps18
 go_wp2_with (first
  | (go_at_call 39; go_must (refine hNw.mono ?_; rintro e w1 ⟨c, rfl, hN1, hc1, p1, p2, p3, hv1, hB1⟩; have HN1 := hid hN1; have HC1 := hid hc1; have HPs := hid hB1; have HBl : Hid (∀ k, BlkN c k → w.heap.size ≤ k) := hid (fun k hk => by rcases hk with e | e | e | e; exact e ▸ p1; exact e ▸ p2; exact e ▸ p3; rw [hv1] at e; cases e); clear hN1 hc1 p1 p2 p3 hv1 hB1))
  | (refine wp_insVN rfl _ _ _ rfl w1.heap.size (fun _ => none) 1 _ rfl rfl rfl (MapV.made w1) ⟨by decide, by decide⟩ ⟨[], by simp, by intro x hx; cases hx⟩ ?_; intro w3 hm3 hc3 hz3; have HM3 := hid hm3; have HC3 := hid hc3; have HZ3 := hid hz3; clear hm3 hc3 hz3)
  | fail)
 have hEnd : ∀ W, W = w3.alloc (.cells #[.int .i64 (n - 1 - m), .int .i64 m, .map (some w1.heap.size)] 82) → IsPl W ⟨w3.heap.size, w1.heap.size, fun i => if i = 1 then some c else none⟩ (newS n m) ∧ Chg w W No := fun W hW => by
  have k2 : Chg w1 (w1.alloc (.map #[] 0)) No := Chg.alloc _ _ No
  have k4 : Chg w3 W No := by rw [hW]; exact Chg.alloc _ _ No
  have hsz : w3.heap.size = w1.heap.size + 1 := by rw [HZ3.out]; simp
  have k3 : Chg w1 w3 No := k2.trans HC3.out (fun _ _ e => e) (fun j hj e => by omega)
  have hN : IsN W c (newNd 2 0) := (HN1.out.call k3).call k4
  have hb : c.bb ≠ w1.heap.size := by have := HN1.out.bl.lt; omega
  have hb2 : c.nb ≠ w1.heap.size := by have := HN1.out.nm.lt; omega
  refine ⟨⟨?_, ?_, ?_, ?_, ?_, ?_, ?_, ?_⟩, (HC1.out.tr k3).tr k4⟩
  ·rw [hW]
   exact heap_alloc_new _ _
  ·refine (HM3.out.keep k4 (fun e => e)).cong fun x => ?_
   by_cases e : x = 1
   ·simp only [e, if_pos]; rfl
   ·simp only [if_neg e]; rfl
  ·intro i d hd
   by_cases e : i = 1
   ·have hd : (if i = 1 then some c else none) = some d := hd
    rw [if_pos e] at hd
    cases hd
    refine ⟨newNd 2 0, ?_, hN⟩
    show (if i = 1 then some (newNd 2 0) else none) = _
    rw [if_pos e]
   ·have hd : (if i = 1 then some c else none) = some d := hd
    rw [if_neg e] at hd
    cases hd
  ·intro i hi
   by_cases e : i = 1
   ·have hi : (if i = 1 then some c else none) = none := hi
    rw [if_pos e] at hi
    cases hi
   ·show (if i = 1 then some (newNd 2 0) else none) = none
    rw [if_neg e]
  ·intro i hi
   by_cases e : i = 1
   ·omega
   ·exact absurd (show (if i = 1 then some c else none) = none by rw [if_neg e]) hi
  ·intro i j d1 d2 e1 e2 hij
   have e1 : (if i = 1 then some c else none) = some d1 := e1
   have e2 : (if j = 1 then some c else none) = some d2 := e2
   by_cases e : i = 1
   ·rw [if_neg (by omega)] at e2
    cases e2
   ·rw [if_neg e] at e1
    cases e1
  ·intro i d hd
   have hd : (if i = 1 then some c else none) = some d := hd
   by_cases e : i = 1
   ·rw [if_pos e] at hd
    cases hd
    exact ⟨hb, hb2⟩
   ·rw [if_neg e] at hd
    cases hd
  ·intro i d hd
   have hd : (if i = 1 then some c else none) = some d := hd
   by_cases e : i = 1
   ·rw [if_pos e] at hd
    cases hd
    exact HPs.out
   ·rw [if_neg e] at hd
    cases hd
 have HEnd := hid hEnd
 clear hEnd
 go_ret2
 obtain ⟨q1, q2⟩ := HEnd.out _ rfl
 refine ⟨_, rfl, q1, q2, by have := HC1.out.size; have := HZ3.out; simp at this ⊢; omega, HC1.out.size, ?_⟩
 intro i d hd
 have hd : (if i = 1 then some c else none) = some d := hd
 by_cases e : i = 1
 ·rw [if_pos e] at hd
  cases hd
  exact HBl.out
 ·rw [if_neg e] at hd
  cases hd
end Go.Proofs.YtmgfilacepnjlaaGreatDoor

namespace Go.Proofs.YtmgfilacepnjlaaGreatDoor
open Go.RowKit

def zTree : Array Value := #[.int .i64 0, .int .i64 0, .int .i64 0, .slice none 0 0]

end Go.Proofs.YtmgfilacepnjlaaGreatDoor

namespace Go.Proofs.YtmgfilacepnjlaaGreatDoor
open Go.RowKit

theorem szSp : (Tryz.prog.info? 95).map (·.size) = some 2 := by kernel_rfl
def zSpot : Array Value := #[.pointer none, .string ⟨#[]⟩]
theorem walkL_some {s : PSt} (ho : OkS s) : ∀ (l : List ByteArray) (i : Int), s.nd i ≠ none → (walkL s l i).2 = 0 → s.nd (walkL s l i).1 ≠ none
 | [], i, h, _ => h
 | n :: l, i, h, e => by
  cases hx : s.nd i with
  | none => exact absurd hx h
  | some x =>
   rw [walkL_step hx] at e ⊢
   by_cases hk : x.kind = 2
   ·rw [if_pos hk] at e ⊢
    cases hf : findN x n with
    | none => rw [hf] at e; exact absurd (show (110 : Int) = 0 from e) (by decide)
    | some j =>
     rw [hf] at e
     refine walkL_some ho l j ?_ e
     unfold findN at hf
     cases hn : x.nm n with
     | none => rw [hn] at hf; cases hf
     | some k =>
      rw [hn] at hf
      have e2 : x.sl.getD k.toNat 0 = j := Option.some.inj hf
      rw [← e2]
      exact (ho.nm i x n k hx hn).2.2
   ·rw [if_neg hk] at e
    exact absurd e (by decide)
def lastD (s : PSt) (ls : List ByteArray) : Int := (walkL s ls.dropLast 1).1
def lastE (s : PSt) (ls : List ByteArray) : Int :=
 if ls = [] then 143 else if (walkL s ls.dropLast 1).2 = 0 then (match s.nd (lastD s ls) with | some x => if x.kind = 2 then 0 else 113 | none => 113) else (walkL s ls.dropLast 1).2
def lastN (ls : List ByteArray) : ByteArray := ls.getD (ls.length - 1) ByteArray.empty
theorem LAt.init {w : World} {a : Option Addr} {ls : List ByteArray} (h : LAt w a ls) : LAt w a ls.dropLast := by
 rcases h with rfl | ⟨g, h1, h2, h3⟩
 ·exact .inl rfl
 ·refine .inr ⟨g, h1, h2, fun j x hj => h3 j x ?_⟩
  rw [List.getElem?_dropLast] at hj
  split at hj
  ·exact hj
  ·cases hj
theorem lookN_run {W : World} {o : Oper} {a : Act} (m x : Operand) (hop : o.op = Op.lookup 80 m x false) (b : Nat) (f : Int → Option Value) (k : Int) (c : Value) (hc : (match f k with | some v => v | none => .pointer none) = c) (hm : a.eval m = .map (some b)) (hx : a.eval x = .int .i64 k) (h : MapV W b f) (hk : I64 k) : (execOp a.eval o).run Tryz.prog W = .ok (.value c) W := by
 subst hc
 simp [execOp, hop, hm, hx, h.lookN hk, Result.andThen]
 rfl

set_option maxHeartbeats 2000000 in
set_option maxRecDepth 100000 in
theorem wlast_bad {q : PC} {s : PSt} (ls : List ByteArray) (a : Option Addr) (w : World) (h : IsPl w q s) (ho : OkS s) (hl : LAt w a ls) (hb : ls.length ≤ 1000) (hn : ∀ x ∈ ls, x.size ≤ 1000) (hE : lastE s ls ≠ 0) :
  Calls Tryz.prog 42 #[.pointer (some ⟨q.p, 0, none⟩), .slice a ls.length ls.length] w fun e w' => e = .returned (.tuple #[.agg zSpot, .int .i64 (lastE s ls)]) ∧ Chg w w' No := by
 obtain ⟨w1, hw1⟩ : ∃ y, y = w.alloc (.cells zSpot 95) := ⟨_, rfl⟩
 have hc1 : Chg w w1 No := by rw [hw1]; exact Chg.alloc w _ No
 have HQs : Hid (w1.heap[w.heap.size]? = some (.cells zSpot 95 (0, 0))) := hid (by rw [hw1]; exact heap_alloc_new w _)
 have HC1 := hid hc1
 unfold lastE at hE ⊢
 by_cases he : ls = []
 ·rw [if_pos he]
  subst he
  rw [hw1] at HQs HC1
  clear h ho hl hn hE hw1 hc1 hb
  go_enter Tryz.func42, Tryz.ntmps42
  go_wp2_with (first
   | (refine store_R rfl 95 _ _ rfl w.heap.size zSpot rfl rfl 95 _ HQs.out (by rw [szSp]; rfl) rfl (by simp [zSpot, Value.oneCell']) ?_; intro w6 hw6)
   | fail)
  exact bodyPost_ret (v := .tuple #[.agg zSpot, .int .i64 143]) (results_R Tryz.results42 _ _ w.heap.size _ 95 _ _ Tryz.underlying95 rfl (by rw [szSp]; rfl) rfl rfl hw6.here) rfl ⟨rfl, HC1.out.trans (kt_new hw6) (fun _ _ e => e) (fun j hj e => by omega)⟩
 rw [if_neg he] at hE ⊢
 have hpos : 0 < ls.length := List.length_pos_iff.2 he
 have h1 := h.call hc1
 have hl1 : LAt w1 a ls := by
  rcases hl with e | ⟨g, k1, k2, k3⟩
  ·exact .inl e
  ·exact .inr ⟨g, k1, Nat.lt_of_lt_of_le k2 hc1.size, fun j x hj => by
    have := k3 j x hj
    unfold World.cell? at this ⊢
    rw [hc1.block _ k2 (fun e => e)]
    exact this⟩
 have hWk := walk_any ls.dropLast a ls.length w1 h1 ho hl1.init (by rw [List.length_dropLast]; omega) (fun x hx => hn x (List.dropLast_subset _ hx))
 rw [List.length_dropLast] at hWk
 obtain ⟨n, hnn⟩ : ∃ y, y = ls.length := ⟨_, rfl⟩
 rw [← hnn] at hWk hb hpos ⊢
 obtain ⟨k, rfl⟩ : ∃ k, n = k + 1 := ⟨n - 1, by omega⟩
 rw [show k + 1 - 1 = k by omega] at hWk
 have i1 : (k : Int) ≤ 1000 := by omega
 have i0 : ¬ ((k : Int) + 1 = 0) := by omega
 have i2 : ((k : Int) + 1 == 0) = false := beq_eq_false_iff_ne.2 i0
 by_cases hw0 : (walkL s ls.dropLast 1).2 = 0
 ·rw [if_pos hw0] at hE ⊢
  obtain ⟨c, x, hqc, hsx, hN, r1, r2⟩ := h1.at_ (walkL_some ho _ 1 ho.root hw0)
  have hsx2 : s.nd (lastD s ls) = some x := hsx
  rw [hsx2] at hE ⊢
  simp only at hE ⊢
  have hk : ¬ x.kind = 2 := fun e => hE (if_pos e)
  rw [if_neg hk]
  have hDr := isDirectory_any w1 hN
  rw [decide_eq_false hk] at hDr
  rw [hw0] at hWk
  obtain ⟨fm, hfm⟩ : ∃ y, y = (fun i => (q.nc i).map ptrN) := ⟨_, rfl⟩
  have HM : Hid (MapV w1 q.mb fm) := hid (by rw [hfm]; exact h1.mp)
  have HFi : Hid ((match fm (walkL s ls.dropLast 1).1 with | some v => v | none => Value.pointer none) = .pointer (some ⟨c.p, 0, none⟩)) := hid (by rw [hfm]; simp only [hqc, Option.map_some]; rfl)
  obtain ⟨d, hd⟩ : ∃ y, y = (walkL s ls.dropLast 1).1 := ⟨_, rfl⟩
  rw [← hd] at hWk HFi r1 r2
  have hI : I64 d := ⟨by omega, by omega⟩
  have c2 := h1.c2
  rw [hw1] at HQs HC1 hWk hDr HM c2
  clear h h1 ho hl hl1 hn hE hw1 hc1 hb hnn hpos hqc hsx hsx2 hN r1 r2 hd hfm hw0 hk he
  go_enter Tryz.func42, Tryz.ntmps42
  go_wp2_with (first
   | (at_lookup; go_must (refine wp_lookVN rfl _ _ rfl q.mb fm d _ HFi.out rfl rfl HM.out hI ?_))
   | (go_at_call 26; go_must (refine hWk.mono ?_; rintro e w2 ⟨rfl, rfl⟩))
   | (go_at_call 48; go_must (refine hDr.mono ?_; rintro e w2 ⟨rfl, rfl⟩))
   | (refine store_R rfl 95 _ _ rfl w.heap.size zSpot rfl rfl 95 _ HQs.out (by rw [szSp]; rfl) rfl (by simp [zSpot, Value.oneCell']) ?_; intro w6 hw6)
   | fail)
  exact bodyPost_ret (v := .tuple #[.agg zSpot, .int .i64 113]) (results_R Tryz.results42 _ _ w.heap.size _ 95 _ _ Tryz.underlying95 rfl (by rw [szSp]; rfl) rfl rfl hw6.here) rfl ⟨rfl, HC1.out.trans (kt_new hw6) (fun _ _ e => e) (fun j hj e => by omega)⟩
 ·rw [if_neg hw0]
  obtain ⟨R1, hR1⟩ : ∃ y, y = (walkL s ls.dropLast 1).1 := ⟨_, rfl⟩
  obtain ⟨R2, hR2⟩ : ∃ y, y = (walkL s ls.dropLast 1).2 := ⟨_, rfl⟩
  rw [← hR1, ← hR2] at hWk
  rw [← hR2] at hw0 ⊢
  have b1 : (R2 == 0) = false := beq_eq_false_iff_ne.2 hw0
  rw [hw1] at HQs HC1 hWk
  clear h h1 ho hl hl1 hn hE hw1 hc1 hb hnn hpos hR1 hR2 he
  go_enter Tryz.func42, Tryz.ntmps42
  go_wp2_with (first
   | (go_at_call 26; go_must (refine hWk.mono ?_; rintro e w2 ⟨rfl, rfl⟩))
   | (refine store_R rfl 95 _ _ rfl w.heap.size zSpot rfl rfl 95 _ HQs.out (by rw [szSp]; rfl) rfl (by simp [zSpot, Value.oneCell']) ?_; intro w6 hw6)
   | fail)
  exact bodyPost_ret (v := .tuple #[.agg zSpot, .int .i64 R2]) (results_R Tryz.results42 _ _ w.heap.size _ 95 _ _ Tryz.underlying95 rfl (by rw [szSp]; rfl) rfl rfl hw6.here) rfl ⟨rfl, HC1.out.trans (kt_new hw6) (fun _ _ e => e) (fun j hj e => by omega)⟩

set_option maxHeartbeats 2000000 in
set_option maxRecDepth 100000 in
theorem wlast_good {q : PC} {s : PSt} {c : NC} (ls : List ByteArray) (a : Option Addr) (w : World) (h : IsPl w q s) (ho : OkS s) (hl : LAt w a ls) (hb : ls.length ≤ 1000) (hn : ∀ x ∈ ls, x.size ≤ 1000) (hE : lastE s ls = 0) (hqc : q.nc (lastD s ls) = some c) :
  Calls Tryz.prog 42 #[.pointer (some ⟨q.p, 0, none⟩), .slice a ls.length ls.length] w fun e w' => e = .returned (.tuple #[.agg #[.pointer (some ⟨c.p, 0, none⟩), .string (lastN ls)], .int .i64 0]) ∧ Chg w w' No := by
 obtain ⟨w1, hw1⟩ : ∃ y, y = w.alloc (.cells zSpot 95) := ⟨_, rfl⟩
 have hc1 : Chg w w1 No := by rw [hw1]; exact Chg.alloc w _ No
 have HQs : Hid (w1.heap[w.heap.size]? = some (.cells zSpot 95 (0, 0))) := hid (by rw [hw1]; exact heap_alloc_new w _)
 have HC1 := hid hc1
 unfold lastE at hE
 have he : ¬ ls = [] := fun e => by rw [if_pos e] at hE; exact absurd hE (by decide)
 rw [if_neg he] at hE
 have hpos : 0 < ls.length := List.length_pos_iff.2 he
 have h1 := h.call hc1
 have hcell : ∃ ga, a = some ⟨ga, 0, none⟩ ∧ ∀ W, Chg w W No → W.cell? ⟨ga, ls.length - 1, none⟩ = some (.string (lastN ls)) := by
  rcases hl with e | ⟨g, k1, k2, k3⟩
  ·exact absurd e he
  ·refine ⟨g, k1, fun W hW => ?_⟩
   have := k3 (ls.length - 1) (lastN ls) (getS (by omega))
   unfold World.cell? at this ⊢
   rw [hW.block _ k2 (fun e => e)]
   exact this
 have hl1 : LAt w1 a ls := by
  rcases hl with e | ⟨g, k1, k2, k3⟩
  ·exact .inl e
  ·exact .inr ⟨g, k1, Nat.lt_of_lt_of_le k2 hc1.size, fun j x hj => by
    have := k3 j x hj
    unfold World.cell? at this ⊢
    rw [hc1.block _ k2 (fun e => e)]
    exact this⟩
 have hWk := walk_any ls.dropLast a ls.length w1 h1 ho hl1.init (by rw [List.length_dropLast]; omega) (fun x hx => hn x (List.dropLast_subset _ hx))
 rw [List.length_dropLast] at hWk
 obtain ⟨ga, rfl, hcell⟩ := hcell
 obtain ⟨nm, hnm⟩ : ∃ y, y = lastN ls := ⟨_, rfl⟩
 rw [← hnm] at hcell ⊢
 obtain ⟨n, hnn⟩ : ∃ y, y = ls.length := ⟨_, rfl⟩
 rw [← hnn] at hWk hb hpos hcell ⊢
 obtain ⟨k, rfl⟩ : ∃ k, n = k + 1 := ⟨n - 1, by omega⟩
 rw [show k + 1 - 1 = k by omega] at hWk hcell
 have i1 : (k : Int) ≤ 1000 := by omega
 have i0 : ¬ ((k : Int) + 1 = 0) := by omega
 have i2 : ((k : Int) + 1 == 0) = false := beq_eq_false_iff_ne.2 i0
 have hw0 : (walkL s ls.dropLast 1).2 = 0 := by
  by_cases e : (walkL s ls.dropLast 1).2 = 0
  ·exact e
  ·rw [if_neg e] at hE; exact hE
 rw [if_pos hw0] at hE
 obtain ⟨c', x, hqc', hsx, hN, r1, r2⟩ := h1.at_ (walkL_some ho _ 1 ho.root hw0)
 have hqc2 : q.nc (lastD s ls) = some c' := hqc'
 rw [hqc] at hqc2
 cases hqc2
 have hsx2 : s.nd (lastD s ls) = some x := hsx
 rw [hsx2] at hE
 simp only at hE
 have hk : x.kind = 2 := by
  by_cases e : x.kind = 2
  ·exact e
  ·rw [if_neg e] at hE; exact absurd hE (by decide)
 have hDr := isDirectory_any w1 hN
 rw [decide_eq_true hk] at hDr
 rw [hw0] at hWk
 obtain ⟨fm, hfm⟩ : ∃ y, y = (fun i => (q.nc i).map ptrN) := ⟨_, rfl⟩
 have HM : Hid (∀ W, Chg w W No → MapV W q.mb fm) := hid (fun W hW => by rw [hfm]; exact (h.call hW).mp)
 have HFi : Hid ((match fm (walkL s ls.dropLast 1).1 with | some v => v | none => Value.pointer none) = .pointer (some ⟨c.p, 0, none⟩)) := hid (by rw [hfm]; simp only [hqc', Option.map_some]; rfl)
 obtain ⟨d, hd⟩ : ∃ y, y = (walkL s ls.dropLast 1).1 := ⟨_, rfl⟩
 rw [← hd] at hWk HFi r1 r2
 have hI : I64 d := ⟨by omega, by omega⟩
 have c2 := h1.c2
 have HQ2 : Hid (∀ W, Chg w W No → W.cell? ⟨q.p, 2, none⟩ = some (.map (some q.mb))) := hid (fun W hW => (h.call hW).c2)
 have HCl := hid hcell
 rw [hw1] at HQs HC1 hWk hDr c2
 clear h h1 ho hl hl1 hn hE hw1 hc1 hb hnn hpos hqc hqc' hsx hsx2 hN r1 r2 hd hfm hw0 hk he hcell hnm
 go_enter Tryz.func42, Tryz.ntmps42
 go_upto_region 9 with (first
  | (at_lookup; go_must (refine wp_lookVN rfl _ _ rfl q.mb fm d _ HFi.out rfl rfl (HM.out _ HC1.out) hI ?_))
  | (go_at_call 26; go_must (refine hWk.mono ?_; rintro e w2 ⟨rfl, rfl⟩))
  | (go_at_call 48; go_must (refine hDr.mono ?_; rintro e w2 ⟨rfl, rfl⟩))
  | fail)
 refine wp_region_noPanic ?_
 refine wp_region_held_drew (S := fun w' => Chg w w' No) (by kernel_rfl) HC1.out.drew (fun hHeld => ?_)
 have hQ := HQs.out
 refine tV 0 37 (.pointer (some ⟨q.p, 0, none⟩)) rfl (by kernel_rfl) rfl (by rfl) hHeld (fun W' hw' => rfl) ?_
 simp only [sS]
 refine tV 1 38 (.pointer (some ⟨q.p, 0, none⟩)) rfl (by kernel_rfl) rfl (by rfl) hHeld (fun W' hw' => by go_simp) ?_
 simp only [sS]
 refine tV 2 39 (.pointer (some ⟨q.p, 2, none⟩)) rfl (by kernel_rfl) rfl (by rfl) hHeld (fun W' hw' => by go_simp) ?_
 simp only [sS]
 refine tV 3 40 (.map (some q.mb)) rfl (by kernel_rfl) rfl (by rfl) hHeld (fun W' hw' => by have hc := HQ2.out W' hw'; go_simp) ?_
 simp only [sS]
 refine tV 4 41 (.int .i64 d) rfl (by kernel_rfl) rfl (by rfl) hHeld (fun W' hw' => rfl) ?_
 simp only [sS]
 refine tV 5 42 (.pointer (some ⟨c.p, 0, none⟩)) rfl (by kernel_rfl) rfl (by rfl) hHeld (fun W' hw' => lookN_run (.tmp 40) (.tmp 41) rfl q.mb fm d _ HFi.out rfl rfl (HM.out W' hw') hI) ?_
 simp only [sS]
 refine tV 6 43 (.slice (some ⟨ga, 0, none⟩) (k + 1) (k + 1)) rfl (by kernel_rfl) rfl (by rfl) hHeld (fun W' hw' => rfl) ?_
 simp only [sS]
 refine tV 7 44 (.int .i64 (k : Int)) rfl (by kernel_rfl) rfl (by rfl) hHeld (fun W' hw' => rfl) ?_
 simp only [sS]
 refine tV 8 45 (.pointer (some ⟨ga, k, none⟩)) rfl (by kernel_rfl) rfl (by rfl) hHeld (fun W' hw' => by go_simp; intro hbad; omega) ?_
 simp only [sS]
 refine tV 9 46 (.string nm) rfl (by kernel_rfl) rfl (by rfl) hHeld (fun W' hw' => by have hc := HCl.out W' hw'; go_simp) ?_
 simp only [sS]
 refine tV 10 47 (.agg #[.pointer (some ⟨c.p, 0, none⟩), .string nm]) rfl (by kernel_rfl) rfl (by rfl) hHeld (fun W' hw' => by go_simp) ?_
 simp only [sS]
 refine step1 11 (by kernel_rfl) ?_
 refine stStoreR 11 95 (.tmp 4) (.tmp 47) w.heap.size #[.pointer (some ⟨c.p, 0, none⟩), .string nm] 95 zSpot rfl rfl (by rfl) rfl rfl rfl hQ (by rw [szSp]; rfl) rfl (by simp [Value.oneCell']) ?_
 intro wc hwc
 have hFin : Chg w wc No := hHeld.trans (kt_new hwc) (fun _ _ e => e) (fun j hj e => by omega)
 refine ⟨hFin, ?_⟩
 refine tV 12 5 (.int .i64 0) rfl (by kernel_rfl) rfl (by rfl) hFin (fun W' hw' => by go_simp) ?_
 simp only [sS]
 refine wpAnyH_done (by kernel_rfl) ?_ _
 refine NoPanic.normal ?_
 have HFin := hid (And.intro hFin hwc.here)
 clear hHeld hQ hwc hFin
 go_wp2_with fail
 exact bodyPost_ret (v := .tuple #[.agg #[.pointer (some ⟨c.p, 0, none⟩), .string nm], .int .i64 0]) (results_R Tryz.results42 _ _ w.heap.size _ 95 _ _ Tryz.underlying95 rfl (by rw [szSp]; rfl) rfl rfl HFin.out.2) rfl ⟨rfl, HFin.out.1⟩
end Go.Proofs.YtmgfilacepnjlaaGreatDoor
