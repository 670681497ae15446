/-
 The statements' own helpers number and below; rows of bytes as texts.
-/
import Derived.Test.YtmgfilacepnjlaaGreatDoorVG
import Derived.Laws.Concat
import Derived.Laws.IdiomStrings
namespace Go.Proofs.YtmgfilacepnjlaaGreatDoor
open Go.RowKit

theorem at_ask {q : PC} {s : PSt} (i : Int) (o : OpS) (da : Option Addr) (dc : Nat) (w : World) (h : IsPl w q s) (hi : Inv s) (hx : s.nd i ≠ none) (hk : o.kind = 9 ∨ o.kind = 10 ∨ o.kind = 11) :
  Calls Tryz.prog 27 #[.pointer (some ⟨q.p, 0, none⟩), .int .i64 i, .agg (opA o.kind o.path o.tto o.off o.len da o.data.length dc o.made o.pick)] w fun e w' => ∃ A, e = .returned (.agg A) ∧ A.size = 10 ∧ A.all (·.oneCell') = true ∧ AnsIs w' w.heap.size A (atOp s i o).2 ∧ Chg w w' No := by
 obtain ⟨x, hsx⟩ := Option.ne_none_iff_exists'.1 hx
 obtain ⟨c, hqc, hN⟩ := h.node hsx
 have hOk := InvD.nd hi i x hsx
 unfold atOp
 rw [hsx]
 simp only
 by_cases k10 : o.kind = 10
 ·rw [if_pos k10, k10]
  refine (doAt_stat i o.path o.tto o.off o.len da o.data.length dc o.made o.pick w h hqc hsx).mono ?_
  rintro e w' ⟨rfl, hc⟩
  exact ⟨_, rfl, (ansS_one _ _).1, (ansS_one _ _).2, rfl, hc⟩
 rw [if_neg k10]
 by_cases k11 : o.kind = 11
 ·rw [if_pos k11, k11]
  by_cases hk2 : x.kind = 2
  ·rw [if_pos hk2]
   refine (doAt_listA i o.path o.tto o.off o.len da o.data.length dc o.made o.pick w (listS s x) h hqc hsx hk2 (fun W hW => list_any i W (h.call hW) hi hqc hsx)).mono ?_
   rintro e w' ⟨v, rfl, hE, hc⟩
   obtain ⟨a, cp, hv⟩ := row_shape hE
   exact ⟨_, rfl, rfl, by rw [hv]; simp [ansL, Value.oneCell'], ⟨v, rfl, hE⟩, hc⟩
  ·rw [if_neg hk2]
   refine (doAt_listF i o.path o.tto o.off o.len da o.data.length dc o.made o.pick w h hqc hsx hk2).mono ?_
   rintro e w' ⟨rfl, hc⟩
   exact ⟨_, rfl, (ansE_one _).1, (ansE_one _).2, rfl, hc⟩
 rw [if_neg k11]
 have k9 : o.kind = 9 := by omega
 by_cases hk2 : x.kind = 2
 ·rw [if_pos hk2, k9]
  refine (doAt_dirR i o.path o.tto o.off o.len da o.data.length dc o.made o.pick w h hqc hsx hk2).mono ?_
  rintro e w' ⟨rfl, hc⟩
  exact ⟨_, rfl, (ansE_one _).1, (ansE_one _).2, rfl, hc⟩
 rw [if_neg hk2, if_neg (by omega), if_neg (by omega), if_pos k9, k9]
 have hE : ∀ E (e : Ending) (w' : World), e = .returned (.agg (ansE E)) ∧ Chg w w' No → ∃ A, e = .returned (.agg A) ∧ A.size = 10 ∧ A.all (·.oneCell') = true ∧ AnsIs w' w.heap.size A (.err E) ∧ Chg w w' No := fun E e w' ⟨h1, hc⟩ => ⟨_, h1, (ansE_one _).1, (ansE_one _).2, rfl, hc⟩
 show Calls _ _ _ _ (fun e w' => ∃ A, e = .returned (.agg A) ∧ A.size = 10 ∧ A.all (·.oneCell') = true ∧ AnsIs w' w.heap.size A (readOp x o.off o.len) ∧ Chg w w' No)
 unfold readOp
 by_cases d1 : o.off < 0
 ·rw [if_pos (Or.inl d1)]
  exact (doAt_readE i o.path o.tto o.off o.len da o.data.length dc o.made o.pick w 101 h hqc hsx hk2 (fun W hW => read_neg o.off o.len W d1)).mono (hE 101)
 by_cases d2 : o.len < 0
 ·rw [if_pos (Or.inr (Or.inl d2))]
  exact (doAt_readE i o.path o.tto o.off o.len da o.data.length dc o.made o.pick w 101 h hqc hsx hk2 (fun W hW => read_cnt o.off o.len W (by omega) d2)).mono (hE 101)
 by_cases d3 : 131072 < o.len
 ·rw [if_pos (Or.inr (Or.inr d3))]
  exact (doAt_readE i o.path o.tto o.off o.len da o.data.length dc o.made o.pick w 101 h hqc hsx hk2 (fun W hW => read_long o.off o.len W (by omega) d3)).mono (hE 101)
 rw [if_neg (fun c => c.elim d1 (fun c => c.elim d2 d3))]
 by_cases d4 : x.size ≤ o.off
 ·rw [if_pos d4]
  exact (doAt_readE i o.path o.tto o.off o.len da o.data.length dc o.made o.pick w 0 h hqc hsx hk2 (fun W hW => read_end o.off o.len W (hN.call hW) (by omega) (by omega) (by omega) d4)).mono (hE 0)
 rw [if_neg d4]
 obtain ⟨p, hp⟩ : ∃ p : Nat, o.off = (p : Int) := ⟨o.off.toNat, by omega⟩
 have hsz := hOk.size
 rw [hp, Int.toNat_natCast]
 rw [hp] at d4
 refine (doAt_read i o.path o.tto (p : Int) o.len da o.data.length dc o.made o.pick w (min o.len (x.size - (p : Int))).toNat (SA (BY (rowsN x) p (min o.len (x.size - (p : Int))).toNat)) h hqc hsx hk2 (fun W hW => read_many (rowsN x) p _ o.len W (hN.call hW) (fun b => ⟨(hOk.rows b).1, (hOk.rows b).2.1⟩) (by omega) (by omega) (by omega) (by omega) (by omega))).mono ?_
 rintro e w' ⟨g, rfl, h1, hc, h2⟩
 refine ⟨_, rfl, (ansD_one _ _ _ _).1, (ansD_one _ _ _ _).2, ⟨g, by rw [BY_len], h1, h2⟩, hc⟩
def askO (k : Int) (p : ByteArray) (n : Int) : OpS := ⟨k, p, ByteArray.empty, 0, n, [], 0, 0⟩
theorem giv_ask (p : ByteArray) : bits .andNot .i64 (givF p ByteArray.empty 0 0 0 0 0) 1 = 0 ∧ bits .andNot .i64 (givF p ByteArray.empty 0 131072 0 0 0) 13 = 0 := by
 have e : ∀ b : Bool, bits .andNot .i64 (markV (!decide ((0 : Int) = 0)) (markV (!decide ((0 : Int) = 0)) (markV (decide (0 < 0)) (markV (!decide ((0 : Int) = 0)) (markV (!decide ((0 : Int) = 0)) (markV (!ByteArray.empty.toList.isEmpty) (markV b 0 1) 2) 4) 8) 16) 32) 64) 1 = 0 ∧ bits .andNot .i64 (markV (!decide ((0 : Int) = 0)) (markV (!decide ((0 : Int) = 0)) (markV (decide (0 < 0)) (markV (!decide ((131072 : Int) = 0)) (markV (!decide ((0 : Int) = 0)) (markV (!ByteArray.empty.toList.isEmpty) (markV b 0 1) 2) 4) 8) 16) 32) 64) 13 = 0 := fun b => by
  have h0 : ByteArray.empty.toList.isEmpty = true := by kernel_rfl
  rw [h0]
  cases b <;> exact ⟨by decide, by decide⟩
 exact e _
theorem ask_ok (k : Int) (p : ByteArray) (n : Int) (hk : (k = 10 ∧ n = 0) ∨ (k = 11 ∧ n = 0) ∨ (k = 9 ∧ n = 131072)) : okOp (askO k p n) := by
 have h1 := (giv_ask p).1
 have h2 := (giv_ask p).2
 rcases hk with ⟨rfl, rfl⟩ | ⟨rfl, rfl⟩ | ⟨rfl, rfl⟩
 ·exact ⟨by show (1 : Int) ≤ 10 ∧ (10 : Int) ≤ 14; omega, h1, by show (0 : Int) ≤ 0; omega, by show (0 : Int) ≤ 1099511627776; omega⟩
 ·exact ⟨by show (1 : Int) ≤ 11 ∧ (11 : Int) ≤ 14; omega, h1, by show (0 : Int) ≤ 0; omega, by show (0 : Int) ≤ 1099511627776; omega⟩
 ·exact ⟨by show (1 : Int) ≤ 9 ∧ (9 : Int) ≤ 14; omega, h2, by show (0 : Int) ≤ 0; omega, by show (0 : Int) ≤ 1099511627776; omega⟩
noncomputable def askS (s : PSt) (k : Int) (p : ByteArray) (n : Int) : Ans := (doS s (askO k p n)).2
theorem ask_any {q : PC} {s : PSt} (k : Int) (p : ByteArray) (n : Int) (da : Option Addr) (dc : Nat) (w : World) (h : IsPl w q s) (hi : Inv s) (hu : UB w) (hm : ML w) (hk : (k = 10 ∧ n = 0) ∨ (k = 11 ∧ n = 0) ∨ (k = 9 ∧ n = 131072)) :
  Calls Tryz.prog 9 #[.pointer (some ⟨q.p, 0, none⟩), .agg (opA k p ByteArray.empty 0 n da 0 dc 0 0)] w fun e w' => ∃ A, e = .returned (.agg A) ∧ AnsIs w' w.heap.size A (askS s k p n) ∧ Chg w w' No := by
 have ho := InvD.okS hi
 have e0 := ask_ok k p n hk
 have hE : ∀ E (e : Ending) (w' : World), e = .returned (.agg (ansE E)) ∧ Chg w w' No → ∃ A, e = .returned (.agg A) ∧ AnsIs w' w.heap.size A (.err E) ∧ Chg w w' No := fun E e w' ⟨h1, hc⟩ => ⟨_, h1, rfl, hc⟩
 obtain ⟨o, hoo⟩ : ∃ y, y = askO k p n := ⟨_, rfl⟩
 have o1 : o.kind = k := by rw [hoo]; rfl
 have o2 : o.path = p := by rw [hoo]; rfl
 have hkk : o.kind = 9 ∨ o.kind = 10 ∨ o.kind = 11 := by omega
 unfold askS
 rw [← hoo] at e0 ⊢
 have hop : opA k p ByteArray.empty 0 n da 0 dc 0 0 = opA o.kind o.path o.tto o.off o.len da o.data.length dc o.made o.pick := by rw [hoo]; rfl
 rw [hop]
 have hks : ∀ k, No k → k < w.heap.size := fun k e => e.elim
 unfold doS
 rw [if_neg (fun c => c e0)]
 obtain ⟨⟨r1, r2⟩, hz, hm0, hm1⟩ := e0
 rw [if_neg (by omega)]
 by_cases e2 : (splitR o.path.data.toList).2 = 0
 ·rw [if_neg (fun c => c e2), if_neg (by omega), if_neg (by omega), if_neg (by omega), if_neg (by omega), if_neg (by omega), if_neg (by omega), if_neg (by omega)]
  have hn := namesOf_ok e2
  have hf := names_few e2
  have hnm' : ∀ x ∈ namesOf o.path, x.size ≤ 1000 := fun x hx => nm_size' (hn x hx)
  by_cases kw : (walkL s (namesOf o.path) 1).2 = 0
  ·rw [if_neg (fun c => c kw)]
   have hWk : ∀ W a ls, Chg w W No → datas ls = (splitR o.path.data.toList).1 → LAt W a ls → Calls Tryz.prog 26 #[.pointer (some ⟨q.p, 0, none⟩), .slice a ls.length ls.length] W fun e w' => e = .returned (.tuple #[.int .i64 (walkL s (namesOf o.path) 1).1, .int .i64 0]) ∧ w' = W := fun W a ls hW hl hL => by
    have hls := names_is hl
    subst hls
    have := walk_any (namesOf o.path) a (namesOf o.path).length W (h.call hW) ho hL hf hnm'
    rw [kw] at this
    exact this
   have hx := walkL_some ho (namesOf o.path) 1 ho.root kw
   have hRa : ∀ (A : Array Value) (w1 w2 : World) (r o' : Array Value), AnsIs w1 w.heap.size A (atOp s (walkL s (namesOf o.path) 1).1 o).2 → w1.heap[w.heap.size + 1]? = some (.cells o' 43 (0, 0)) → PutR w1 (w.heap.size + 1) r 43 w2 → AnsIs w2 w.heap.size A (atOp s (walkL s (namesOf o.path) 1).1 o).2 := fun A w1 w2 r o h1 h2 h3 => h1.put h3 h2
   have hM : ∀ (k : Int), o.kind = k → ∀ W, Chg w W No → Calls Tryz.prog 27 #[.pointer (some ⟨q.p, 0, none⟩), .int .i64 (walkL s (namesOf o.path) 1).1, .agg (opA k o.path o.tto o.off o.len da o.data.length dc o.made o.pick)] W fun e w' => ∃ A, e = .returned (.agg A) ∧ A.size = 10 ∧ A.all (·.oneCell') = true ∧ AnsIs w' w.heap.size A (atOp s (walkL s (namesOf o.path) 1).1 o).2 ∧ Chg W w' No := fun k hk W hW => by
    subst hk
    refine (at_ask (walkL s (namesOf o.path) 1).1 o da dc W (h.call hW) hi hx hkk).mono ?_
    rintro e w' ⟨A, rfl, h1, h2, h3, h6⟩
    exact ⟨A, rfl, h1, h2, h3.low hW.size, h6⟩
   rcases hkk with k | k | k
   ·have hM' := hM 9 k
    rw [k] at hz ⊢
    exact do_read (q := q) o.path o.tto o.off o.len da o.data.length dc o.made o.pick (walkL s (namesOf o.path) 1).1 w _ No hks hu hm hz hm0 hm1 e2 hWk hM' hRa
   ·have hM' := hM 10 k
    rw [k] at hz ⊢
    exact do_stat (q := q) o.path o.tto o.off o.len da o.data.length dc o.made o.pick (walkL s (namesOf o.path) 1).1 w _ No hks hu hm hz hm0 hm1 e2 hWk hM' hRa
   ·have hM' := hM 11 k
    rw [k] at hz ⊢
    exact do_list (q := q) o.path o.tto o.off o.len da o.data.length dc o.made o.pick (walkL s (namesOf o.path) 1).1 w _ No hks hu hm hz hm0 hm1 e2 hWk hM' hRa
  ·rw [if_pos kw]
   have hWk : ∀ W a ls, Chg w W No → datas ls = (splitR o.path.data.toList).1 → LAt W a ls → Calls Tryz.prog 26 #[.pointer (some ⟨q.p, 0, none⟩), .slice a ls.length ls.length] W fun e w' => e = .returned (.tuple #[.int .i64 0, .int .i64 (walkL s (namesOf o.path) 1).2]) ∧ w' = W := fun W a ls hW hl hL => by
    have hls := names_is hl
    subst hls
    have := walk_any (namesOf o.path) a (namesOf o.path).length W (h.call hW) ho hL hf hnm'
    rw [walkL_bad _ _ kw] at this
    exact this
   rcases hkk with k | k | k
   ·rw [k] at hz ⊢
    exact (do_bad9 (q := q) o.path o.tto o.off o.len da o.data.length dc o.made o.pick _ w kw hu hm hz hm0 hm1 e2 hWk).mono (hE _)
   ·rw [k] at hz ⊢
    exact (do_bad10 (q := q) o.path o.tto o.off o.len da o.data.length dc o.made o.pick _ w kw hu hm hz hm0 hm1 e2 hWk).mono (hE _)
   ·rw [k] at hz ⊢
    exact (do_bad11 (q := q) o.path o.tto o.off o.len da o.data.length dc o.made o.pick _ w kw hu hm hz hm0 hm1 e2 hWk).mono (hE _)
 ·rw [if_pos e2]
  rcases hkk with k | k | k
  ·rw [k] at hz ⊢
   exact (do_sbad9 (q := q) o.path o.tto o.off o.len da o.data.length dc o.made o.pick w hu hm hz hm0 hm1 _ rfl e2).mono (hE _)
  ·rw [k] at hz ⊢
   exact (do_sbad10 (q := q) o.path o.tto o.off o.len da o.data.length dc o.made o.pick w hu hm hz hm0 hm1 _ rfl e2).mono (hE _)
  ·rw [k] at hz ⊢
   exact (do_sbad11 (q := q) o.path o.tto o.off o.len da o.data.length dc o.made o.pick w hu hm hz hm0 hm1 _ rfl e2).mono (hE _)
end Go.Proofs.YtmgfilacepnjlaaGreatDoor

namespace Go.Proofs.YtmgfilacepnjlaaGreatDoor
open Go.RowKit

def numB (n : Nat) : ByteArray := if n < 10 then ⟨#[32]⟩ ++ ⟨#[UInt8.ofNat (48 + n)]⟩ else numB (n / 10) ++ ⟨#[UInt8.ofNat (48 + n % 10)]⟩
termination_by n
decreasing_by omega
theorem numB_small {n : Nat} (h : n < 10) : numB n = ⟨#[32]⟩ ++ ⟨#[UInt8.ofNat (48 + n)]⟩ := by rw [numB, if_pos h]
theorem numB_big {n : Nat} (h : ¬ n < 10) : numB n = numB (n / 10) ++ ⟨#[UInt8.ofNat (48 + n % 10)]⟩ := by rw [numB, if_neg h]
theorem numB_size (n : Nat) : (numB n).size ≤ n + 2 := by
 induction n using Nat.strongRecOn with
 | ind n ih =>
  by_cases h : n < 10
  ·rw [numB_small h, ByteArray.size_append]
   show 1 + 1 ≤ n + 2
   omega
  ·rw [numB_big h, ByteArray.size_append]
   have := ih (n / 10) (by omega)
   show (numB (n / 10)).size + 1 ≤ n + 2
   omega
theorem numB_log (n : Nat) (h : n ≤ 9223372036854775807) : (numB n).size ≤ 30 := by
 have key : ∀ k n : Nat, n < 10 ^ (k + 1) → (numB n).size ≤ k + 2 := fun k => by
  induction k with
  | zero =>
   intro n hn
   rw [numB_small (by omega), ByteArray.size_append]
   exact Nat.le_refl _
  | succ k ih =>
   intro n hn
   by_cases h : n < 10
   ·rw [numB_small h, ByteArray.size_append]
    show 1 + 1 ≤ _
    omega
   ·rw [numB_big h, ByteArray.size_append]
    have := ih (n / 10) (by rw [Nat.pow_succ] at hn; omega)
    show (numB (n / 10)).size + 1 ≤ _
    omega
 have := key 19 n (by omega)
 omega
def numI (n : Int) : ByteArray := if n < 0 then ⟨#[45]⟩ ++ numB (-n).toNat else numB n.toNat
theorem numI_size (n : Int) (h0 : -9223372036854775807 ≤ n) (h1 : n ≤ 9223372036854775807) : (numI n).size ≤ 40 := by
 unfold numI
 by_cases h : n < 0
 ·rw [if_pos h, ByteArray.size_append]
  have := numB_log (-n).toNat (by omega)
  show 1 + (numB (-n).toNat).size ≤ _
  omega
 ·rw [if_neg h]
  have := numB_log n.toNat (by omega)
  omega
def strL (c : List Int) : ByteArray := ⟨(c.map fun n => UInt8.ofNat n.toNat).toArray⟩
theorem conv_row (w : World) (g : Nat) (l : List Int) (cap : Nat) (h : w.heap[g]? = some (.cells (SA l) 5 (0, 0))) : (convert 32 9 (.slice (some ⟨g, 0, none⟩) l.length cap)).run Tryz.prog w = .ok (.string (strL l)) w := by
 rw [run_convert_bytes_string w 32 9 5 _ _ _ Tryz.underlying32 Tryz.underlying5 Tryz.underlying9]
 have hl := run_loadCells_list (P := Tryz.prog) w ⟨g, 0, none⟩ (l.map (Value.int .u8)) (fun j v hj => by
  rw [addr_add, Nat.zero_add, cell_of_row _ _ _ _ _ _ h]
  show (l.map (Value.int .u8)).toArray[j]? = some v
  simpa using hj)
 rw [List.length_map] at hl
 rw [run_bytesToString w _ l.length cap l hl]
 have hf : ∀ (c : List Int) (r : ByteArray), c.foldl (fun r n => r.push (UInt8.ofNat n.toNat)) r = ⟨r.data ++ (c.map fun n => UInt8.ofNat n.toNat).toArray⟩ := by
  intro c
  induction c with
  | nil => intro r; simp
  | cons x c ih =>
   intro r
   rw [List.foldl_cons, ih]
   congr 1
   simp [ByteArray.push]
 rw [hf]
 simp [strL]
theorem conv_nil (w : World) : (convert 32 9 (.slice none 0 0)).run Tryz.prog w = .ok (.string ByteArray.empty) w := by
 rw [run_convert_bytes_string w 32 9 5 _ _ _ Tryz.underlying32 Tryz.underlying5 Tryz.underlying9]
 simp [Conv.bytesToString]
theorem conv_digit (w : World) (g d : Nat) (cap : Nat) (h : w.heap[g]? = some (.cells #[.int .u8 (48 + (d : Int))] 5 (0, 0))) : (convert 32 9 (.slice (some ⟨g, 0, none⟩) 1 cap)).run Tryz.prog w = .ok (.string ⟨#[UInt8.ofNat (48 + d)]⟩) w := by
 have := conv_row w g [48 + (d : Int)] cap h
 have e : strL [48 + (d : Int)] = ⟨#[UInt8.ofNat (48 + d)]⟩ := by
  unfold strL
  have : (48 + (d : Int)).toNat = 48 + d := by omega
  simp [this]
 rw [e] at this
 exact this
theorem conv_run {o : Oper} {a : Act} {W : World} {v v' : Value} (t1 t2 : TypeId) (x : Operand) (ho : o.op = .convert t1 t2 x) (hx : a.eval x = v) (hr : (convert t1 t2 v).run Tryz.prog W = .ok v' W) : (execOp a.eval o).run Tryz.prog W = .ok (.value v') W := by
 unfold execOp
 simp only [ho, hx, Sem.run_bind, hr, Result.andThen_ok, Sem.run_pure]
theorem add_run {o : Oper} {a : Act} {W : World} {s t : ByteArray} (x y : Operand) (ho : o.op = .binOp .add 9 x y 9) (hx : a.eval x = .string s) (hy : a.eval y = .string t) (hr : (Op.stringOp .add s t).run Tryz.prog W = .ok (.string (s ++ t)) W) : (execOp a.eval o).run Tryz.prog W = .ok (.value (.string (s ++ t))) W := by
 have hg : (eqGuard .add 9 x y (.string s) (.string t)).run Tryz.prog W = .ok () W := rfl
 unfold execOp
 simp only [ho, hx, hy, binOp, Sem.run_bind, hg, hr, Result.andThen_ok, Sem.run_pure]
def belN (d n : ByteArray) : ByteArray := if d = ⟨#[47]⟩ then ⟨#[47]⟩ ++ n else (d ++ ⟨#[47]⟩) ++ n
theorem belN_size (d n : ByteArray) : (belN d n).size ≤ d.size + 1 + n.size := by
 unfold belN
 split
 ·rw [ByteArray.size_append]; show 1 + n.size ≤ _; omega
 ·rw [ByteArray.size_append, ByteArray.size_append]; show d.size + 1 + n.size ≤ _; omega
set_option maxHeartbeats 2000000 in
set_option maxRecDepth 100000 in
theorem below_any (d n : ByteArray) (w : World) (hd : d.size ≤ 100000) (hn : n.size ≤ 100000) : Calls Tryz.prog 37 #[.string d, .string n] w fun e w' => e = .returned (.string (belN d n)) ∧ w' = w := by
 unfold belN
 have z1 : (⟨#[47]⟩ : ByteArray).size = 1 := rfl
 by_cases h : d = ⟨#[47]⟩
 ·rw [if_pos h]
  subst h
  clear hd
  go_enter Tryz.func37, Tryz.ntmps37
  go_wp2_with fail
  go_ret
  exact ⟨rfl, rfl⟩
 ·rw [if_neg h]
  have k1 : (d.toList == [47]) = false := by
   rw [beq_eq_false_iff_ne]
   intro e
   rw [tl] at e
   exact h (data_inj (e.trans rfl))
  clear h
  go_enter Tryz.func37, Tryz.ntmps37
  go_wp2_with fail
  go_ret
  exact ⟨rfl, rfl⟩
set_option maxHeartbeats 2000000 in
set_option maxRecDepth 100000 in
theorem number_nat (n : Nat) : ∀ (w : World), n ≤ 9223372036854775807 → Calls Tryz.prog 38 #[.int .i64 (n : Int)] w fun e w' => e = .returned (.string (numB n)) ∧ Chg w w' No := by
 induction n using Nat.strongRecOn with
 | ind n ih =>
  intro w hn
  by_cases h : n < 10
  ·rw [numB_small h]
   have h0 : ¬ (n : Int) < 0 := by omega
   have h1 : (n : Int) < 10 := by omega
   clear ih hn h
   go_enter Tryz.func38, Tryz.ntmps38
   go_wp2_with (first
    | (refine conv_G rfl 32 9 _ rfl _ _ _ rfl (conv_digit _ _ n 1 (heap_alloc_new _ _)) ?_)
    | fail)
   go_ret
   exact ⟨rfl, Chg.alloc w _ No⟩
  ·rw [numB_big h]
   have h0 : ¬ (n : Int) < 0 := by omega
   have h1 : ¬ (n : Int) < 10 := by omega
   obtain ⟨k, hk⟩ : ∃ k : Nat, k = n / 10 := ⟨_, rfl⟩
   obtain ⟨d, hd⟩ : ∃ d : Nat, d = n % 10 := ⟨_, rfl⟩
   have hd2 : d < 10 := by omega
   have hI := fun W => ih k (by omega) W (by omega)
   have hsz := numB_size k
   rw [← hk, ← hd]
   have e1 : Int.tdiv (n : Int) 10 = (k : Int) := by rw [Int.tdiv_eq_ediv_of_nonneg (by omega)]; omega
   have e2 : Int.tmod (n : Int) 10 = (d : Int) := by rw [Int.tmod_eq_emod_of_nonneg (by omega)]; omega
   have hk3 : k + 3 ≤ 922337203685477583 := by omega
   have wk : IntKind.i64.wrap ((n : Int) / 10) = (n : Int) / 10 := by rw [IntKind.wrap_i64]; omega
   have wd : IntKind.i64.wrap (48 + (d : Int)) = 48 + (d : Int) := by rw [IntKind.wrap_i64]; omega
   have we : IntKind.u8.wrap (48 + (d : Int)) = 48 + (d : Int) := by rw [IntKind.wrap_u8]; omega
   have WK := hid wk
   have WD := hid wd
   have WE := hid we
   have d1 : (d : Int) < 10 := by omega
   have HSz : Hid ((numB k).size ≤ 1000000000000000000) := hid (by omega)
   obtain ⟨NB, hNB⟩ : ∃ y, y = numB k := ⟨_, rfl⟩
   rw [← hNB] at hI HSz ⊢
   have HE1 := hid e1
   have HE2 := hid e2
   clear ih hn h hk hd hd2 hsz e1 e2 hk3 hNB wk wd we
   go_enter Tryz.func38, Tryz.ntmps38
   go_upto_region 5 with fail
   refine wp_region_noPanic ?_
   refine wp_region_held_drew (S := fun w' => Chg w w' No) (by kernel_rfl) ((Chg.refl w No).drew) (fun hH => ?_)
   refine tV 0 17 (.int .i64 (n : Int)) rfl (by kernel_rfl) rfl (by rfl) hH (fun W' hw' => rfl) ?_
   simp only [sS]
   refine tV 1 18 (.int .i64 (k : Int)) rfl (by kernel_rfl) rfl (by rfl) hH (fun W' hw' => by rw [← HE1.out]; go_simp; exact WK.out) ?_
   simp only [sS]
   refine tV 3 20 (.int .i64 (n : Int)) rfl (by kernel_rfl) rfl (by rfl) hH (fun W' hw' => rfl) ?_
   simp only [sS]
   refine tV 4 21 (.int .i64 (d : Int)) rfl (by kernel_rfl) rfl (by rfl) hH (fun W' hw' => by rw [← HE2.out]; go_simp) ?_
   simp only [sS]
   refine tV 5 22 (.int .i64 (48 + (d : Int))) rfl (by kernel_rfl) rfl (by rfl) hH (fun W' hw' => by go_simp; exact WD.out) ?_
   simp only [sS]
   refine tV 6 23 (.int .u8 (48 + (d : Int))) rfl (by kernel_rfl) rfl (by rfl) hH (fun W' hw' => by go_simp; exact WE.out) ?_
   simp only [sS]
   have hHd : Chg w w.drew No := hH
   refine step2 2 7 (by kernel_rfl) ?_ ?_
   ·refine stCall 2 19 38 #[.int .i64 (k : Int)] _ rfl rfl (by rfl) (by go_simp) (hI _) ?_
    rintro e w1 ⟨rfl, hw1⟩
    have cw1 : Chg w w1 No := hHd.tr hw1
    refine ⟨_, rfl, cw1, ?_⟩
    simp only [sS]
    refine step1 7 (by kernel_rfl) ?_
    refine stNew 7 24 (.slice (some ⟨w1.heap.size, 0, none⟩) 1 1) (.cells #[.int .u8 (48 + (d : Int))] 5) rfl rfl (by rfl) (by go_simp) ?_
    have ca : Chg w (w1.alloc (.cells #[.int .u8 (48 + (d : Int))] 5)) No := cw1.tr (Chg.alloc _ _ No)
    have hga := heap_alloc_new w1 (.cells #[.int .u8 (48 + (d : Int))] 5)
    refine ⟨ca, ?_⟩
    simp only [sS]
    refine step1 8 (by kernel_rfl) ?_
    refine stVal 8 25 (.string ⟨#[UInt8.ofNat (48 + d)]⟩) rfl rfl (by rfl) (conv_run 32 9 (.tmp 24) rfl rfl (conv_digit _ _ d 1 hga)) ca ?_
    simp only [sS]
    refine tV 9 26 (.string (NB ++ ⟨#[UInt8.ofNat (48 + d)]⟩)) rfl (by kernel_rfl) rfl (by rfl) ca (fun W' hw' => by have := HSz.out; have z1 : (⟨#[UInt8.ofNat (48 + d)]⟩ : ByteArray).size = 1 := rfl; have hs := run_string_add_sum (P := Tryz.prog) W' NB ⟨#[UInt8.ofNat (48 + d)]⟩ (by omega); exact add_run _ _ rfl rfl rfl hs) ?_
    simp only [sS]
    refine tV 10 2 (.string (NB ++ ⟨#[UInt8.ofNat (48 + d)]⟩)) rfl (by kernel_rfl) rfl (by rfl) ca (fun W' hw' => rfl) ?_
    simp only [sS]
    refine wpAnyH_done (by kernel_rfl) ?_ _
    refine NoPanic.normal ?_
    go_wp2_with fail
    go_ret
    exact ⟨rfl, ca⟩
   ·refine stNew 7 24 (.slice (some ⟨w.drew.heap.size, 0, none⟩) 1 1) (.cells #[.int .u8 (48 + (d : Int))] 5) rfl rfl (by rfl) (by go_simp) ?_
    have ca : Chg w (w.drew.alloc (.cells #[.int .u8 (48 + (d : Int))] 5)) No := hHd.tr (Chg.alloc _ _ No)
    have hga := heap_alloc_new w.drew (.cells #[.int .u8 (48 + (d : Int))] 5)
    refine ⟨ca, ?_⟩
    simp only [sS]
    refine step2 2 8 (by kernel_rfl) ?_ ?_
    ·refine stCall 2 19 38 #[.int .i64 (k : Int)] _ rfl rfl (by rfl) (by go_simp) (hI _) ?_
     rintro e w1 ⟨rfl, hw1⟩
     have cw1 : Chg w w1 No := ca.tr hw1
     refine ⟨_, rfl, cw1, ?_⟩
     simp only [sS]
     refine step1 8 (by kernel_rfl) ?_
     refine stVal 8 25 (.string ⟨#[UInt8.ofNat (48 + d)]⟩) rfl rfl (by rfl) (conv_run 32 9 (.tmp 24) rfl rfl (conv_digit _ _ d 1 (hw1.keep hga (fun e => e)))) cw1 ?_
     simp only [sS]
     refine tV 9 26 (.string (NB ++ ⟨#[UInt8.ofNat (48 + d)]⟩)) rfl (by kernel_rfl) rfl (by rfl) cw1 (fun W' hw' => by have := HSz.out; have z1 : (⟨#[UInt8.ofNat (48 + d)]⟩ : ByteArray).size = 1 := rfl; have hs := run_string_add_sum (P := Tryz.prog) W' NB ⟨#[UInt8.ofNat (48 + d)]⟩ (by omega); exact add_run _ _ rfl rfl rfl hs) ?_
     simp only [sS]
     refine tV 10 2 (.string (NB ++ ⟨#[UInt8.ofNat (48 + d)]⟩)) rfl (by kernel_rfl) rfl (by rfl) cw1 (fun W' hw' => rfl) ?_
     simp only [sS]
     refine wpAnyH_done (by kernel_rfl) ?_ _
     refine NoPanic.normal ?_
     go_wp2_with fail
     go_ret
     exact ⟨rfl, cw1⟩
    ·refine stVal 8 25 (.string ⟨#[UInt8.ofNat (48 + d)]⟩) rfl rfl (by rfl) (conv_run 32 9 (.tmp 24) rfl rfl (conv_digit _ _ d 1 hga)) ca ?_
     simp only [sS]
     refine step1 2 (by kernel_rfl) ?_
     refine stCall 2 19 38 #[.int .i64 (k : Int)] _ rfl rfl (by rfl) (by go_simp) (hI _) ?_
     rintro e w1 ⟨rfl, hw1⟩
     have cw1 : Chg w w1 No := ca.tr hw1
     refine ⟨_, rfl, cw1, ?_⟩
     simp only [sS]
     refine tV 9 26 (.string (NB ++ ⟨#[UInt8.ofNat (48 + d)]⟩)) rfl (by kernel_rfl) rfl (by rfl) cw1 (fun W' hw' => by have := HSz.out; have z1 : (⟨#[UInt8.ofNat (48 + d)]⟩ : ByteArray).size = 1 := rfl; have hs := run_string_add_sum (P := Tryz.prog) W' NB ⟨#[UInt8.ofNat (48 + d)]⟩ (by omega); exact add_run _ _ rfl rfl rfl hs) ?_
     simp only [sS]
     refine tV 10 2 (.string (NB ++ ⟨#[UInt8.ofNat (48 + d)]⟩)) rfl (by kernel_rfl) rfl (by rfl) cw1 (fun W' hw' => rfl) ?_
     simp only [sS]
     refine wpAnyH_done (by kernel_rfl) ?_ _
     refine NoPanic.normal ?_
     go_wp2_with fail
     go_ret
     exact ⟨rfl, cw1⟩
end Go.Proofs.YtmgfilacepnjlaaGreatDoor
