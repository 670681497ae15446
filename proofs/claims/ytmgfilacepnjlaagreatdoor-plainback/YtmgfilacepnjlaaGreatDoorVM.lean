/-
 What is asked: bounds.
-/
import Derived.Test.YtmgfilacepnjlaaGreatDoorVI0
import Derived.Test.YtmgfilacepnjlaaGreatDoorVK
namespace Go.Proofs.YtmgfilacepnjlaaGreatDoor
open Go.RowKit

theorem inv_new {n m : Int} (h : SizeOk n m) : Inv (newS n m) := by
 have hnd : ∀ i x, (newS n m).nd i = some x → i = 1 ∧ x = newNd 2 0 := fun i x hx => by
  have hx : (if i = 1 then some (newNd 2 0) else none) = some x := hx
  by_cases e : i = 1
  ·rw [if_pos e] at hx; cases hx; exact ⟨e, rfl⟩
  ·rw [if_neg e] at hx; cases hx
 obtain ⟨h1, h2, h3, h4, h5⟩ := h
 refine ⟨⟨⟨by show 0 ≤ n - 1 - m; omega, by show n - 1 - m ≤ 4096; omega⟩, h3, h4⟩, ⟨newNd 2 0, rfl, rfl, rfl⟩, fun i x hx => ?_, fun i x hx => ?_, fun i x j hx hj h0 => ?_, fun j x hx hj => ?_⟩
 ·rw [(hnd i x hx).1]; exact ⟨by omega, h3⟩
 ·rw [(hnd i x hx).2]
  exact ⟨.inr rfl, ⟨by simp [newNd], by simp [newNd]⟩, ⟨by simp [newNd], by simp [newNd]⟩, ⟨by simp [newNd], by simp [newNd]⟩, (fun _ _ e => by cases e), fun _ => ⟨rfl, fun _ => rfl⟩, fun _ => ⟨rfl, fun _ => rfl⟩, by simp [newNd], (fun _ _ e => by cases e), (fun _ _ _ e _ => by cases e), fun k hk => absurd hk (by simp [newNd]), by simp [newNd], fun _ e => absurd rfl e⟩
 ·rw [(hnd i x hx).2] at hj; cases hj
 ·exact absurd (hnd j x hx).1 hj
def smI (n : Int) : Int := 3 + pickN n 9
def smS (n : Int) : Int := smI n + 10 + pickN (Int.tdiv n 9) 120
theorem sm_ok (n : Int) : SizeOk (smS n) (smI n) := by
 have h1 := pickN_bd n (n := 9) (by omega)
 have h2 := pickN_bd (Int.tdiv n 9) (n := 120) (by omega)
 unfold SizeOk smS smI
 omega
set_option maxHeartbeats 2000000 in
set_option maxRecDepth 100000 in
theorem small_any (n : Int) (w : World) (hn : I64 n) : Calls Tryz.prog 6 #[.int .i64 n] w fun e w' => ∃ q : PC, e = .returned (.tuple #[.pointer (some ⟨q.p, 0, none⟩), .int .i64 (smS n - 1 - smI n), .int .i64 (smI n)]) ∧ IsPl w' q (newS (smS n) (smI n)) ∧ Chg w w' No ∧ w.heap.size ≤ q.p ∧ w.heap.size ≤ q.mb ∧ ∀ i c, q.nc i = some c → ∀ k, BlkN c k → w.heap.size ≤ k := by
 have hN := new_good (smS n) (smI n) w (sm_ok n)
 have hP1 := pick_any n 9 w hn (by omega) (by omega)
 have hd := tdiv_bd n 9 (by omega) hn
 have hP2 := pick_any (Int.tdiv n 9) 120 w hd (by omega) (by omega)
 have h1 := pickN_bd n (n := 9) (by omega)
 have h2 := pickN_bd (Int.tdiv n 9) (n := 120) (by omega)
 unfold smS smI at hN ⊢
 obtain ⟨a, ha⟩ : ∃ y, y = pickN n 9 := ⟨_, rfl⟩
 obtain ⟨b, hb⟩ : ∃ y, y = pickN (Int.tdiv n 9) 120 := ⟨_, rfl⟩
 rw [← ha] at hP1 h1
 rw [← hb] at hP2 h2
 rw [← ha, ← hb] at hN ⊢
 obtain ⟨a0, a1⟩ := h1
 obtain ⟨b0, b1⟩ := h2
 obtain ⟨n0, n1⟩ := hn
 clear ha hb
 go_enter Tryz.func6, Tryz.ntmps6
 go_upto_region 2 with (go_at_call 17; go_must (refine hP1.mono ?_; rintro e w2 ⟨rfl, rfl⟩))
 clear hP1
 go_upto_region 3 with (go_at_call 17; go_must (refine hP2.mono ?_; rintro e w2 ⟨rfl, rfl⟩))
 clear hP2 n0 n1
 go_wp2_with (first
  | (go_at_call 18; go_must (refine hN.mono ?_; rintro e w3 ⟨q, rfl, hq⟩; have HQ := hid hq; clear hq))
  | fail)
 go_ret3
 exact ⟨q, rfl, HQ.out⟩
end Go.Proofs.YtmgfilacepnjlaaGreatDoor

namespace Go.Proofs.YtmgfilacepnjlaaGreatDoor
open Go.RowKit

set_option maxHeartbeats 2000000 in
set_option maxRecDepth 100000 in
theorem number_any (n : Int) (w : World) (h0 : -9223372036854775807 ≤ n) (h1 : n ≤ 9223372036854775807) : Calls Tryz.prog 38 #[.int .i64 n] w fun e w' => e = .returned (.string (numI n)) ∧ Chg w w' No := by
 unfold numI
 by_cases h : n < 0
 ·rw [if_pos h]
  obtain ⟨k, rfl⟩ : ∃ k : Nat, n = -(k : Int) := ⟨(-n).toNat, by omega⟩
  have e : (- -(k : Int)).toNat = k := by omega
  rw [e]
  have hI := number_nat k w (by omega)
  have hsz := numB_size k
  have HSz : Hid ((numB k).size ≤ 9223372036854775806 ∨ True) := hid (.inr trivial)
  have hr : (Op.stringOp .add ⟨#[45]⟩ (numB k)).run Tryz.prog w = .ok (.string (⟨#[45]⟩ ++ numB k)) w ∨ True := .inr trivial
  have wv : IntKind.i64.wrap (- -(k : Int)) = (k : Int) := by rw [IntKind.wrap_i64]; omega
  have wv2 : IntKind.i64.wrap ((k : Int)) = (k : Int) := by rw [IntKind.wrap_i64]; omega
  have hlen : ∃ m, m = (numB k).size ∧ m ≤ 1000000 := ⟨_, rfl, by have := numB_log k (by omega); omega⟩
  obtain ⟨m, hm, hm2⟩ := hlen
  obtain ⟨NB, hNB⟩ : ∃ y, y = numB k := ⟨_, rfl⟩
  rw [← hNB] at hI hm ⊢
  have hm3 : NB.size ≤ 1000000 := by omega
  clear hr HSz hsz hm hm2 hNB e
  go_enter Tryz.func38, Tryz.ntmps38
  go_wp2_with (first
   | (go_at_call 38; go_must (refine hI.mono ?_; rintro e w2 ⟨rfl, hc2⟩; have HC2 := hid hc2; clear hc2))
   | fail)
  go_ret
  exact ⟨rfl, HC2.out⟩
 ·rw [if_neg h]
  obtain ⟨k, rfl⟩ : ∃ k : Nat, n = (k : Int) := ⟨n.toNat, by omega⟩
  rw [Int.toNat_natCast]
  exact number_nat k w (by omega)
def TOw (w : World) (B : Nat) (v : Value) (l : List ByteArray) : Prop := w.ownsRow B 9 1 v l.length (l.map Value.string)
theorem infoT : ∃ i, Tryz.prog.info? 9 = some i ∧ i.zero = some (.string ⟨#[]⟩) ∧ i.size = 1 ∧ i.bytes = 16 := by
 have h : (Tryz.prog.info? 9).map (fun i => (i.zero, i.size, i.bytes)) = some (some (.string ⟨#[]⟩), 1, 16) := by kernel_rfl
 cases hq : Tryz.prog.info? 9 with
 | none => rw [hq] at h; cases h
 | some i =>
  rw [hq] at h
  have h := Option.some.inj h
  simp only [Prod.mk.injEq] at h
  exact ⟨i, rfl, h.1, h.2.1, h.2.2⟩
theorem TOw.keep {w w' : World} {B : Nat} {v : Value} {l : List ByteArray} {ks : Nat → Prop} (h : TOw w B v l) (hc : Chg w w' ks) (hn : ∀ k, v.ownBlock = some k → ¬ ks k) : TOw w' B v l := by
 refine ⟨h.1, ?_⟩
 rcases h.2 with k | ⟨g, cap, cur, rfl, hb, hg, r⟩
 ·exact .inl k
 ·exact .inr ⟨g, cap, cur, rfl, hb, hc.keep hg (hn g rfl), r⟩
theorem TOw.call {w w' : World} {B : Nat} {v : Value} {l : List ByteArray} (h : TOw w B v l) (hc : Chg w w' No) : TOw w' B v l := h.keep hc (fun _ _ e => e)
theorem TOw.blk {w : World} {B : Nat} {v : Value} {l : List ByteArray} (h : TOw w B v l) {k : Nat} (e : v.ownBlock = some k) : B ≤ k ∧ ∃ A, w.heap[k]? = some (.cells A 9 (0, 0)) := by
 rcases h.2 with ⟨e1, _⟩ | ⟨g, cap, cur, e1, h1, h2, _⟩
 ·rw [e1] at e; cases e
 ·rw [e1] at e
  have : g = k := by simpa [Value.ownBlock] using e
  subst this
  exact ⟨h1, cur, h2⟩
theorem TOw.cell {w : World} {B n : Nat} {a : Option Addr} {c : Nat} {l : List ByteArray} (h : TOw w B (.slice a n c) l) {j : Nat} {t : ByteArray} (hj : l[j]? = some t) : ∃ g, a = some ⟨g, 0, none⟩ ∧ g < w.heap.size ∧ ∀ w', Chg w w' No → w'.cell? ⟨g, j, none⟩ = some (.string t) := by
 rcases h.2 with ⟨e, e2⟩ | ⟨g, cap, cur, e, hb, hg, r⟩
 ·have : l = [] := List.length_eq_zero_iff.1 e2
  rw [this] at hj
  cases hj
 ·injection e with e1 e3 e4
  have hlt : g < w.heap.size := (Array.getElem?_eq_some_iff.1 hg).1
  refine ⟨g, e1, hlt, fun w' hc => ?_⟩
  subst e1 e3 e4
  have hx : (l.map Value.string)[j]? = some (.string t) := by rw [List.getElem?_map, hj]; rfl
  have := World.ownsRow.cells h (g := g) rfl j _ hx
  rw [addr_add, Nat.zero_add] at this
  unfold World.cell? at this ⊢
  rw [hc.block _ hlt (fun e => e)]
  exact this
theorem EOw.cell {w : World} {B n : Nat} {a : Option Addr} {c : Nat} {es : List (ByteArray × Int × Int)} (h : EOw w B (.slice a n c) es) {j : Nat} {t : ByteArray × Int × Int} (hj : es[j]? = some t) : ∃ g, a = some ⟨g, 0, none⟩ ∧ g < w.heap.size ∧ ∀ w', Chg w w' No → w'.cell? ⟨g, 3 * j, none⟩ = some (.string t.1) := by
 rcases h.2 with ⟨e, e2⟩ | ⟨g, cap, cur, e, hb, hg, r⟩
 ·have : es = [] := List.length_eq_zero_iff.1 e2
  rw [this] at hj
  cases hj
 ·injection e with e1 e3 e4
  have hlt : g < w.heap.size := (Array.getElem?_eq_some_iff.1 hg).1
  refine ⟨g, e1, hlt, fun w' hc => ?_⟩
  subst e1 e3 e4
  have hx : (es.flatMap entC)[3 * j]? = some (.string t.1) := by
   clear h hb hg r hc
   induction es generalizing j with
   | nil => cases hj
   | cons e es ih =>
    cases j with
    | zero => cases hj; rfl
    | succ j =>
     have := ih (j := j) hj
     rw [List.flatMap_cons, List.getElem?_append_right (by simp [entC]; omega)]
     rw [show 3 * (j + 1) - (entC e).length = 3 * j by simp [entC]; omega]
     exact this
  have := World.ownsRow.cells h (g := g) rfl (3 * j) _ hx
  rw [addr_add, Nat.zero_add] at this
  unfold World.cell? at this ⊢
  rw [hc.block _ hlt (fun e => e)]
  exact this
section
variable {ops : Array Oper} {Q : Exit → Act → World → Prop} {S : World → Prop} {fuel : Nat} {listed : Array Bool} {a : Act} {w : World}
theorem stAppT (i d : Nat) {o : Oper} (hop : ops[i]? = some o) (hd : o.dst = some d) (hw : Region.wanted o (yielded ops a.tmps) = true) (s x : Operand)
  (ho : o.op = .call { callee := .builtin .append, args := #[s, x], argTypes := #[61, 61] }) (B b ca : Nat) (v : Value) (l : List ByteArray) (y : ByteArray) (hs : a.eval s = v) (hx : a.eval x = .slice (some ⟨b, 0, none⟩) 1 ca)
  (hown : TOw w B v l) (hb : w.heap[b]? = some (.cells #[.string y] 9 (0, 0))) (hl : l.length ≤ 1000000000) (hbase : B ≤ w.heap.size)
  (h : ∀ v' w', TOw w' B v' (l ++ [y]) → Chg w w' (fun k => v.ownBlock = some k) →
   S w' ∧ wpAnyH Tryz.prog .any ops Q S fuel (listed.setIfInBounds i true) { a with tmps := a.tmps.setIfInBounds d v' } w') : St ops Q S fuel listed a w i := by
 obtain ⟨inf, hi, hz, hsz, hby⟩ := infoT
 obtain ⟨v', w', hr, h2, h3, _, _⟩ := run_append_own_at (P := Tryz.prog) w B 61 o.type 9 inf _ 1 16 Tryz.underlying61 hi hz hsz hby rfl (by decide) v l.length (l.map Value.string) hown ⟨b, 0, none⟩ 1 ca [.string y] rfl (fun j u hj => by
   rw [addr_add, Nat.zero_add, cell_of_row _ _ _ _ _ _ hb]
   simpa using hj) (by simp [Value.oneCell']) (by unfold maxLen; omega) (by omega) hbase
 have hh := h v' w' (by unfold TOw; rw [List.map_append, List.length_append]; exact h2) ((Chg.grown h3).mono fun j _ e => e.symm)
 refine wpOp_step hop (fun K hK => ?_)
 rw [if_pos hw]
 unfold Oper.wp execOp
 simp only [ho, resolve, invoke, builtin, Sem.run_bind, Sem.run_pure, Result.andThen_ok, List.map_toArray, List.map_cons, List.map_nil, hs, hx, hr]
 refine hK _ _ ⟨hh.1, ?_⟩
 unfold Act.put
 rw [hd]
 exact hh.2
end
noncomputable def stA (a : Ans) (k : Nat) : Int := match a with
 | .stat i x => [i, x.kind, x.links, lenN x, x.made, (cardN x : Int)].getD k 0
 | _ => 0
def datA : Ans → List Int
 | .data ds => ds
 | _ => []
def entA : Ans → List (ByteArray × Int × Int)
 | .list es => es
 | _ => []
theorem AnsIs.one {w : World} {B : Nat} {A : Array Value} {an : Ans} (h : AnsIs w B A an) : A.size = 10 ∧ A.all (·.oneCell') = true := by
 cases an with
 | err e => have h : A = ansE e := h; rw [h]; exact ansE_one e
 | stat i x => have h : A = ansS i x := h; rw [h]; exact ansS_one i x
 | data ds => obtain ⟨g, h, _⟩ := h; rw [h]; exact ansD_one _ _ _ _
 | list es =>
  obtain ⟨v, h, hE⟩ := h
  obtain ⟨a, c, hv⟩ := row_shape hE
  rw [h, hv]
  exact ⟨rfl, by simp [ansL, Value.oneCell']⟩
theorem AnsIs.st {w : World} {B : Nat} {A : Array Value} {an : Ans} (h : AnsIs w B A an) (k : Nat) (hk : k < 6) : A[k + 1]? = some (.int .i64 (stA an k)) := by
 have hcs : k = 0 ∨ k = 1 ∨ k = 2 ∨ k = 3 ∨ k = 4 ∨ k = 5 := by omega
 cases an with
 | err e => have h : A = ansE e := h; rw [h]; rcases hcs with rfl | rfl | rfl | rfl | rfl | rfl <;> rfl
 | stat i x => have h : A = ansS i x := h; rw [h]; rcases hcs with rfl | rfl | rfl | rfl | rfl | rfl <;> rfl
 | data ds => obtain ⟨g, h, _⟩ := h; rw [h]; rcases hcs with rfl | rfl | rfl | rfl | rfl | rfl <;> rfl
 | list es => obtain ⟨v, h, _⟩ := h; rw [h]; rcases hcs with rfl | rfl | rfl | rfl | rfl | rfl <;> rfl
theorem AnsIs.code {w : World} {B : Nat} {A : Array Value} {an : Ans} (h : AnsIs w B A an) : A[0]? = some (.int .i64 (codeA an)) ∧ A[9]? = some (.bool false) := by
 cases an with
 | err e => have h : A = ansE e := h; rw [h]; exact ⟨rfl, rfl⟩
 | stat i x => have h : A = ansS i x := h; rw [h]; exact ⟨rfl, rfl⟩
 | data ds => obtain ⟨g, h, _⟩ := h; rw [h]; exact ⟨rfl, rfl⟩
 | list es => obtain ⟨v, h, _⟩ := h; rw [h]; exact ⟨rfl, rfl⟩
theorem AnsIs.dat {w : World} {B : Nat} {A : Array Value} {an : Ans} (h : AnsIs w B A an) : ∃ a n c, A[7]? = some (.slice a n c) ∧ n = (datA an).length ∧ (∀ w', Chg w w' No → (convert 32 9 (.slice a n c)).run Tryz.prog w' = .ok (.string (strL (datA an))) w') := by
 cases an with
 | err e => have h : A = ansE e := h; rw [h]; exact ⟨none, 0, 0, rfl, rfl, fun w' _ => conv_nil w'⟩
 | stat i x => have h : A = ansS i x := h; rw [h]; exact ⟨none, 0, 0, rfl, rfl, fun w' _ => conv_nil w'⟩
 | data ds =>
  obtain ⟨g, h, h2, _⟩ := h
  rw [h]
  exact ⟨_, _, _, rfl, rfl, fun w' hc => conv_row w' g ds _ (hc.keep h2 (fun e => e))⟩
 | list es => obtain ⟨v, h, _⟩ := h; rw [h]; exact ⟨none, 0, 0, rfl, rfl, fun w' _ => conv_nil w'⟩
theorem AnsIs.ent {w : World} {B : Nat} {A : Array Value} {an : Ans} (h : AnsIs w B A an) : ∃ v, A[8]? = some v ∧ EOw w B v (entA an) := by
 have e0 : EOw w B (.slice none 0 0) [] := ⟨rfl, .inl ⟨rfl, rfl⟩⟩
 cases an with
 | err e => have h : A = ansE e := h; rw [h]; exact ⟨_, rfl, e0⟩
 | stat i x => have h : A = ansS i x := h; rw [h]; exact ⟨_, rfl, e0⟩
 | data ds => obtain ⟨g, h, _⟩ := h; rw [h]; exact ⟨_, rfl, e0⟩
 | list es => obtain ⟨v, h, h2⟩ := h; rw [h]; exact ⟨_, rfl, h2⟩
noncomputable def lineS (s : PSt) (acc p : ByteArray) : ByteArray :=
 acc ++ p ++ numI (stA (askS s 10 p 0) 0) ++ numI (stA (askS s 10 p 0) 1) ++ numI (stA (askS s 10 p 0) 2) ++ numI (stA (askS s 10 p 0) 3) ++ numI (stA (askS s 10 p 0) 4) ++ numI (stA (askS s 10 p 0) 5) ++ strL (datA (askS s 9 p 131072)) ++ ⟨#[10]⟩
noncomputable def toldL (s : PSt) : Nat → List ByteArray → ByteArray → ByteArray
 | 0, _, acc => acc
 | _ + 1, [], acc => acc
 | n + 1, p :: rest, acc => toldL s n (rest ++ (entA (askS s 11 p 0)).map fun e => belN p e.1) (lineS s acc p)
noncomputable def toldS (s : PSt) : ByteArray := toldL s 300 [⟨#[47]⟩] ByteArray.empty ++ numI (s.data - (takenN s : Nat)) ++ numI 0 ++ numI (s.ino - (nodesN s : Nat))
end Go.Proofs.YtmgfilacepnjlaaGreatDoor

namespace Go.Proofs.YtmgfilacepnjlaaGreatDoor
open Go.RowKit

theorem ask_cases (s : PSt) (k : Int) (p : ByteArray) (n : Int) (hk : (k = 10 ∧ n = 0) ∨ (k = 11 ∧ n = 0) ∨ (k = 9 ∧ n = 131072)) : (∃ e, askS s k p n = .err e) ∨ ∃ i, askS s k p n = (atOp s i (askO k p n)).2 := by
 have e0 := ask_ok k p n hk
 unfold askS
 obtain ⟨o, hoo⟩ : ∃ y, y = askO k p n := ⟨_, rfl⟩
 have o1 : o.kind = k := by rw [hoo]; rfl
 have hkk : o.kind = 9 ∨ o.kind = 10 ∨ o.kind = 11 := by omega
 rw [← hoo] at e0 ⊢
 unfold doS
 rw [if_neg (fun c => c e0), if_neg (by omega)]
 by_cases e2 : (splitR o.path.data.toList).2 = 0
 ·rw [if_neg (fun c => c e2), if_neg (by omega), if_neg (by omega), if_neg (by omega), if_neg (by omega), if_neg (by omega), if_neg (by omega), if_neg (by omega)]
  by_cases kw : (walkL s (namesOf o.path) 1).2 = 0
  ·rw [if_neg (fun c => c kw)]
   exact .inr ⟨_, rfl⟩
  ·rw [if_pos kw]
   exact .inl ⟨_, rfl⟩
 ·rw [if_pos e2]
  exact .inl ⟨_, rfl⟩
theorem ask_stat {s : PSt} (hi : Inv s) (p : ByteArray) (k : Nat) : 0 ≤ stA (askS s 10 p 0) k ∧ stA (askS s 10 p 0) k ≤ 1099511627776 := by
 rcases ask_cases s 10 p 0 (.inl ⟨rfl, rfl⟩) with ⟨e, h⟩ | ⟨i, h⟩
 ·rw [h]; exact ⟨Int.le_refl _, by show (0 : Int) ≤ _; omega⟩
 ·rw [h]
  unfold atOp
  cases hx : s.nd i with
  | none => exact ⟨Int.le_refl _, by show (0 : Int) ≤ _; omega⟩
  | some x =>
   simp only
   rw [if_pos (show (askO 10 p 0).kind = 10 from rfl)]
   have hN := InvD.nd hi i x hx
   have hr := InvD.rng hi i x hx
   have hnum := InvD.num hi
   have hc : cardN x ≤ 1102 := card_le _
   have hl : 0 ≤ lenN x ∧ lenN x ≤ 136704 := by
    unfold lenN
    have := hN.len
    have := hN.size
    split <;> omega
   have := hN.kind
   have := hN.links
   have := hN.made
   show 0 ≤ [i, x.kind, x.links, lenN x, x.made, (cardN x : Int)].getD k 0 ∧ [i, x.kind, x.links, lenN x, x.made, (cardN x : Int)].getD k 0 ≤ 1099511627776
   match k with
   | 0 => exact ⟨by show 0 ≤ i; omega, by show i ≤ _; omega⟩
   | 1 => exact ⟨by show 0 ≤ x.kind; omega, by show x.kind ≤ _; omega⟩
   | 2 => exact ⟨by show 0 ≤ x.links; omega, by show x.links ≤ _; omega⟩
   | 3 => exact ⟨hl.1, by show lenN x ≤ _; omega⟩
   | 4 => exact ⟨by show 0 ≤ x.made; omega, by show x.made ≤ _; omega⟩
   | 5 => exact ⟨by show 0 ≤ (cardN x : Int); omega, by show (cardN x : Int) ≤ _; omega⟩
   | n + 6 => exact ⟨Int.le_refl _, by show (0 : Int) ≤ _; omega⟩
theorem ask_data {s : PSt} (p : ByteArray) : (datA (askS s 9 p 131072)).length ≤ 131072 := by
 rcases ask_cases s 9 p 131072 (.inr (.inr ⟨rfl, rfl⟩)) with ⟨e, h⟩ | ⟨i, h⟩
 ·rw [h]; exact Nat.zero_le _
 ·rw [h]
  unfold atOp
  cases hx : s.nd i with
  | none => exact Nat.zero_le _
  | some x =>
   simp only
   rw [if_neg (show ¬ (askO 9 p 131072).kind = 10 from by show ¬ (9 : Int) = 10; omega), if_neg (show ¬ (askO 9 p 131072).kind = 11 from by show ¬ (9 : Int) = 11; omega)]
   split
   ·exact Nat.zero_le _
   ·rw [if_neg (show ¬ (askO 9 p 131072).kind = 7 from by show ¬ (9 : Int) = 7; omega), if_neg (show ¬ (askO 9 p 131072).kind = 8 from by show ¬ (9 : Int) = 8; omega), if_pos (show (askO 9 p 131072).kind = 9 from rfl)]
    show (datA (readOp x 0 131072)).length ≤ 131072
    unfold readOp
    split
    ·exact Nat.zero_le _
    ·split
     ·exact Nat.zero_le _
     ·show (BY _ _ _).length ≤ _
      rw [BY_len]
      omega
theorem names_bd {x : Nd} (h : NdOk x) : (namesL x).length ≤ 1068 ∧ ∀ t ∈ namesL x, t.length ≤ 40 := by
 by_cases hx : ∃ L, NamesIs x L
 ·obtain ⟨L, hL⟩ := hx
  rw [namesL_is hL]
  have hk : ∀ t ∈ L, ∃ k : Nat, x.nm ⟨t.toArray⟩ = some (k : Int) ∧ k < x.sl.length := fun t ht => by
   obtain ⟨k, hk⟩ := Option.ne_none_iff_exists'.1 ((hL.2 t).1 ht)
   have := h.nm _ k hk
   exact ⟨k.toNat, by rw [hk]; congr 1; omega, by omega⟩
  refine ⟨?_, fun t ht => ?_⟩
  ·have hn : (L.map fun t => ((x.nm ⟨t.toArray⟩).getD 0).toNat).Pairwise (· ≠ ·) := by
    rw [List.pairwise_map]
    refine List.Pairwise.imp_of_mem ?_ hL.1
    intro a b ha hb hab e
    obtain ⟨k, k1, _⟩ := hk a ha
    obtain ⟨m, m1, _⟩ := hk b hb
    rw [k1, m1] at e
    have e : k = m := by simpa using e
    rw [e] at k1
    have := h.inj _ _ _ k1 m1
    have e2 := congrArg (fun z : ByteArray => z.data.toList) this
    exact hab.2 (by simpa using e2)
   have hs := nodup_lenA _ (List.range x.sl.length) hn (fun y hy => by
    obtain ⟨t, ht, rfl⟩ := List.mem_map.1 hy
    obtain ⟨k, k1, k2⟩ := hk t ht
    rw [k1]
    exact List.mem_range.2 (by simpa using k2))
   rw [List.length_map, List.length_range] at hs
   have := h.len
   omega
  ·have := h.ok _ ((hL.2 t).1 ht)
   unfold NmOk okName at this
   simp only [Bool.and_eq_true, decide_eq_true_eq] at this
   have h2 := this.1.1.1.2
   simpa using h2
 ·unfold namesL
  rw [dif_neg hx]
  exact ⟨Nat.zero_le _, fun t ht => by cases ht⟩
theorem ask_list {s : PSt} (hi : Inv s) (p : ByteArray) : (entA (askS s 11 p 0)).length ≤ 1068 ∧ ∀ e ∈ entA (askS s 11 p 0), e.1.size ≤ 40 := by
 have h0 : ([] : List (ByteArray × Int × Int)).length ≤ 1068 ∧ ∀ e ∈ ([] : List (ByteArray × Int × Int)), e.1.size ≤ 40 := ⟨Nat.zero_le _, fun t ht => by cases ht⟩
 rcases ask_cases s 11 p 0 (.inr (.inl ⟨rfl, rfl⟩)) with ⟨e, h⟩ | ⟨i, h⟩
 ·rw [h]; exact h0
 ·rw [h]
  unfold atOp
  cases hx : s.nd i with
  | none => exact h0
  | some x =>
   simp only
   rw [if_neg (show ¬ (askO 11 p 0).kind = 10 from by show ¬ (11 : Int) = 10; omega), if_pos (show (askO 11 p 0).kind = 11 from rfl)]
   split
   ·obtain ⟨h1, h2⟩ := names_bd (InvD.nd hi i x hx)
    show (listS s x).length ≤ 1068 ∧ ∀ e ∈ listS s x, e.1.size ≤ 40
    unfold listS
    rw [List.length_map]
    refine ⟨h1, fun e he => ?_⟩
    obtain ⟨t, ht, rfl⟩ := List.mem_map.1 he
    exact h2 t ht
   ·exact h0
theorem strL_size (l : List Int) : (strL l).size = l.length := by
 show ((l.map fun n => UInt8.ofNat n.toNat).toArray).size = l.length
 simp
theorem num_stat {s : PSt} (hi : Inv s) (p : ByteArray) (k : Nat) : (numI (stA (askS s 10 p 0) k)).size ≤ 40 := by
 have := ask_stat hi p k
 exact numI_size _ (by omega) (by omega)
theorem line_size {s : PSt} (hi : Inv s) (acc p : ByteArray) : (lineS s acc p).size ≤ acc.size + p.size + 131400 := by
 unfold lineS
 have h0 := num_stat hi p 0
 have h1 := num_stat hi p 1
 have h2 := num_stat hi p 2
 have h3 := num_stat hi p 3
 have h4 := num_stat hi p 4
 have h5 := num_stat hi p 5
 have h6 := ask_data (s := s) p
 have z : (⟨#[10]⟩ : ByteArray).size = 1 := rfl
 simp only [ByteArray.size_append, strL_size, z]
 omega
end Go.Proofs.YtmgfilacepnjlaaGreatDoor
