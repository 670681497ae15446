/-
  package plain: the whole in memory; how many sectors all have.
-/
import Derived.Test.YtbkddnibcpjkgaaDoorNT
namespace Go.Proofs.YtbkddnibcpjkgaaDoor
open Go.RowKit

/-- A plain file system, as it is meant. -/
structure PSt where
  data : Int
  ino : Int
  nd : Int → Option Nd
structure PC where
  p : Nat
  mb : Nat
  nc : Int → Option NC
def ptrN (c : NC) : Value := .pointer (some ⟨c.p, 0, none⟩)
def BlkN (c : NC) (k : Nat) : Prop := k = c.p ∨ k = c.bb ∨ k = c.nb ∨ c.v.ownBlock = some k
structure IsPl (w : World) (q : PC) (s : PSt) : Prop where
  me : w.heap[q.p]? = some (.cells #[.int .i64 s.data, .int .i64 s.ino, .map (some q.mb)] 49 (0, 0))
  mp : MapV w q.mb (fun i => (q.nc i).map ptrN)
  nd : ∀ i c, q.nc i = some c → ∃ x, s.nd i = some x ∧ IsN w c x
  dom : ∀ i, q.nc i = none → s.nd i = none
  rng : ∀ i, q.nc i ≠ none → 1 ≤ i ∧ i ≤ 512
  ap : ∀ i j c d, q.nc i = some c → q.nc j = some d → i ≠ j → ∀ k, BlkN c k → ¬ BlkN d k
  mne : ∀ i c, q.nc i = some c → c.bb ≠ q.mb ∧ c.nb ≠ q.mb
  bs : ∀ i c, q.nc i = some c → c.B = 0
section
variable {w w' : World} {q : PC} {s : PSt}
theorem IsPl.call (h : IsPl w q s) (hc : Chg w w' No) : IsPl w' q s :=
  ⟨hc.keep h.me (fun e => e), h.mp.keep hc (fun e => e), fun i c e => by obtain ⟨x, h1, h2⟩ := h.nd i c e; exact ⟨x, h1, h2.call hc⟩, h.dom, h.rng, h.ap, h.mne, h.bs⟩
theorem IsPl.c0 (h : IsPl w q s) : w.cell? ⟨q.p, 0, none⟩ = some (.int .i64 s.data) := (cell_of_row _ _ _ _ _ _ h.me).trans rfl
theorem IsPl.c1 (h : IsPl w q s) : w.cell? ⟨q.p, 1, none⟩ = some (.int .i64 s.ino) := (cell_of_row _ _ _ _ _ _ h.me).trans rfl
theorem IsPl.c2 (h : IsPl w q s) : w.cell? ⟨q.p, 2, none⟩ = some (.map (some q.mb)) := (cell_of_row _ _ _ _ _ _ h.me).trans rfl
end
open Classical in
/-- What is counted of a node, as a function. -/
noncomputable def talB (x : Nd) (i : Nat) : Bool := decide (TalP x i)
/-- How many sectors a node has. -/
noncomputable def cardN (x : Nd) : Nat := cardT (talB x)
open Classical in
theorem cardN_of {x : Nd} {F : Nat → Bool} (h : ∀ i, F i = true ↔ TalP x i) : cardT F = cardN x := by
  have : F = talB x := by
    funext i
    unfold talB
    cases hf : F i with
    | true => exact (decide_eq_true ((h i).1 hf)).symm
    | false => exact (decide_eq_false (fun e => by rw [(h i).2 e] at hf; cases hf)).symm
  unfold cardN
  rw [this]
open Classical in
/-- The sectors of those inodes below n of which something holds. -/
noncomputable def sumN (s : PSt) (P : Int → Prop) : Nat → Nat
  | 0 => 0
  | n + 1 => sumN s P n + if P (n : Int) then (match s.nd (n : Int) with | some x => cardN x | none => 0) else 0
theorem sumN_congr {s : PSt} {P Q : Int → Prop} : ∀ n : Nat, (∀ i : Nat, i < n → (P (i : Int) ↔ Q (i : Int))) → sumN s P n = sumN s Q n
  | 0, _ => rfl
  | n + 1, h => by
    unfold sumN
    rw [sumN_congr n (fun i hi => h i (by omega))]
    have := h n (by omega)
    by_cases e : P (n : Int)
    · rw [if_pos e, if_pos (this.1 e)]
    · rw [if_neg e, if_neg (fun q => e (this.2 q))]
theorem sumN_put {s : PSt} {P : Int → Prop} {m : Nat} {x : Nd} (hx : s.nd (m : Int) = some x) (hP : ¬ P (m : Int)) : ∀ n : Nat, m < n → sumN s (fun i => P i ∨ i = (m : Int)) n = sumN s P n + cardN x
  | 0, h => absurd h (Nat.not_lt_zero _)
  | n + 1, h => by
    unfold sumN
    by_cases e : m = n
    · subst e
      have hs : sumN s (fun i => P i ∨ i = (m : Int)) m = sumN s P m := sumN_congr m (fun i hi => ⟨fun q => q.resolve_right (by omega), .inl⟩)
      rw [hs, if_pos (.inr rfl), if_neg hP]
      simp only [hx]
      omega
    · rw [sumN_put hx hP n (by omega)]
      have : (P (n : Int) ∨ (n : Int) = (m : Int)) ↔ P (n : Int) := ⟨fun q => q.resolve_right (by omega), .inl⟩
      by_cases e2 : P (n : Int)
      · rw [if_pos (this.2 e2), if_pos e2]; omega
      · rw [if_neg (fun q => e2 (this.1 q)), if_neg e2]; omega
theorem sumN_le (s : PSt) (P : Int → Prop) : ∀ n, sumN s P n ≤ 1102 * n
  | 0 => Nat.le_refl _
  | n + 1 => by
    have := sumN_le s P n
    unfold sumN
    split
    · split
      · have := card_le (talB ‹Nd›)
        unfold cardN
        omega
      · omega
    · omega
noncomputable def takenN (s : PSt) : Nat := sumN s (fun i => s.nd i ≠ none) 513
theorem field_tal {A : Array Value} {F : Nat → Bool} (h : TalA A F) (W : World) : (Instr.field 96 (.agg A) 1).run Tryd.prog W = .ok (.int .i64 (cardT F : Nat)) W := by
  have h2 := h.2.2
  unfold Instr.field
  go_simp
  simp only [asAgg, Sem.run_pure, Result.andThen_ok, h2]
section
variable {ops : Array Oper} {rest : List Oper} {o : Oper} {a : Act} {Q : Exit → Act → World → Prop} {w : World}
theorem wp_fieldT (hg : o.guard = none) (x : Operand) (hop : o.op = Op.field 96 x 1) (A : Array Value) (n : Int) (hx : a.eval x = .agg A) (h : ∀ W, (Instr.field 96 (.agg A) 1).run Tryd.prog W = .ok (.int .i64 n) W)
    (hK : wpList Tryd.prog ops Q rest (a.put o.dst (.int .i64 n)) w) : wpList Tryd.prog ops Q (o :: rest) a w := by
  refine wpList_plain hg fun K' hK' => ?_
  unfold Oper.wp
  simp [execOp, hop, hx, h, Result.andThen]
  exact hK' _ _ hK
end

set_option maxHeartbeats 2000000 in
set_option maxRecDepth 100000 in
theorem taken_any {q : PC} {s : PSt} (w : World) (h : IsPl w q s) :
    Calls Tryd.prog 20 #[.pointer (some ⟨q.p, 0, none⟩)] w fun e w' => e = .returned (.int .i64 (takenN s : Nat)) ∧ Chg w w' No := by
  have HP := hid h
  have c2 := h.c2
  obtain ⟨fm, hfm⟩ : ∃ y, y = (fun i => (q.nc i).map ptrN) := ⟨_, rfl⟩
  have HM : Hid (MapV w q.mb fm) := hid (by rw [hfm]; exact h.mp)
  have HFm := hid hfm
  obtain ⟨N, hN⟩ : ∃ y : Nat, y = takenN s := ⟨_, rfl⟩
  have HNn := hid hN
  rw [← hN]
  clear h hN hfm
  go_enter Tryd.func20, Tryd.ntmps20
  go_wp2_with (first
    | (at_range; go_must (refine wp_rangeV 47 45 Tryd.underlying47 rfl _ rfl q.mb _ rfl HM.out ?_; intro w2 cnt0 hr0 hc0 hz0))
    | fail)
  go_frame
  have HR0 := hid hr0
  have HC0 := hid hc0
  obtain ⟨r, hrr⟩ : ∃ y, y = w.heap.size := ⟨_, rfl⟩
  rw [← hrr] at HR0 ⊢
  have HRr := hid hrr
  clear hr0 hc0 hz0 hrr c2
  have HBr : Hid (q.mb ≠ r) := hid (by have := HP.out.mp.lt; have := HRr.out; omega)
  go_loopw [3] (fun x3 wr => ∃ (n : Nat) (left : Int → Prop) (cnt : Nat), x3 = .int .i64 (n : Int) ∧ Hid (RangeV wr q.mb r fm left cnt) ∧ Hid (n = sumN s (fun i => s.nd i ≠ none ∧ ¬ left i) 513) ∧ Hid (Chg w wr No)) (fun _ wr => wr.rangeLeft q.mb r)
  case atStart => exact ⟨0, _, _, rfl, HR0, hid (by
    have hz : ∀ n, sumN s (fun _ => False) n = 0 := by
      intro n
      induction n with
      | zero => rfl
      | succ n ih => unfold sumN; rw [ih, if_neg (fun e => e)]
    rw [← hz 513]
    refine (sumN_congr 513 fun i _ => ⟨fun e => e.elim, fun ⟨e1, e2⟩ => e2 ?_⟩)
    cases hq : q.nc (i : Int) with
    | none => exact absurd (HP.out.dom _ hq) e1
    | some c => rw [HFm.out]; show ((q.nc (i : Int)).map ptrN).isSome = true; rw [hq]; rfl), HC0⟩
  case round =>
    obtain ⟨n, left, cnt, rfl, HR, HS, HC⟩ := hrel
    clear HR0 HC0
    have hcn := HR.out.leftN
    have HCn := hid hcn
    have hnb := sumN_le s (fun i => s.nd i ≠ none ∧ ¬ left i) 513
    rw [← HS.out] at hnb
    have n0 : (0 : Int) ≤ (n : Int) := by omega
    have n1 : (n : Int) ≤ 600000 := by omega
    clear hcn hnb
    go_wp2_with (first
      | (at_next; go_must (refine wp_nextV rfl _ rfl q.mb r _ left cnt rfl HR.out ?_ ?_))
      | fail)
    · intro hl
      have HF : Hid (n = N) := hid (by
        rw [HS.out, HNn.out]
        unfold takenN
        exact sumN_congr 513 fun i _ => ⟨fun e => e.1, fun e => ⟨e, hl _⟩⟩)
      obtain rfl := HF.out
      clear hl HR HS HCn
      go_wp2_with fail
      go_ret
      exact ⟨rfl, HC.out⟩
    · intro y d w3 cnt3 hl hx hIy hr3 hlt hc3 hz3 hen
      have hx2 : (q.nc y).map ptrN = some d := by rw [HFm.out] at hx; exact hx
      obtain ⟨c, hqc, rfl⟩ : ∃ c, q.nc y = some c ∧ ptrN c = d := by
        cases hq : q.nc y with
        | none => rw [hq] at hx2; cases hx2
        | some c => rw [hq] at hx2; exact ⟨c, rfl, Option.some.inj hx2⟩
      have hrg := HP.out.rng y (by rw [hqc]; intro e; cases e)
      obtain ⟨m, rfl⟩ : ∃ m : Nat, y = (m : Int) := ⟨y.toNat, by omega⟩
      obtain ⟨x, hsx, _⟩ := HP.out.nd _ c hqc
      have HC3 : Hid (Chg w w3 No) := hid (HC.out.trans hc3 (fun _ _ e => e) (fun j hj e => by have := HRr.out; omega))
      have hTl : Calls Tryd.prog 40 #[.pointer (some ⟨c.p, 0, none⟩)] w3 fun e w' => (∃ A, e = .returned (.agg A) ∧ ∀ W, (Instr.field 96 (.agg A) 1).run Tryd.prog W = .ok (.int .i64 (cardN x : Nat)) W) ∧ Chg w3 w' No := by
        obtain ⟨x', h1, h2⟩ := HP.out.nd _ c hqc
        rw [hsx] at h1
        cases h1
        refine (tally_any w3 (h2.call HC3.out)).mono ?_
        rintro e w' ⟨⟨A, rfl, F, hA, hF⟩, hc⟩
        refine ⟨⟨A, rfl, fun W => ?_⟩, hc⟩
        rw [field_tal hA, cardN_of hF]
      have hcb : cardN x ≤ 1102 := card_le _
      obtain ⟨cn, hcn⟩ : ∃ z : Nat, z = cardN x := ⟨_, rfl⟩
      rw [← hcn] at hTl hcb
      have HSx := hid hsx
      have HcN := hid hcn
      have HR3 := hid hr3
      have HLt := hid hlt
      have HL := hid hl
      have k1 : (cn : Int) ≤ 1102 := by omega
      have hrg2 := hrg.2
      clear hr3 hlt hc3 hz3 hl hIy hx hx2 hqc hsx hcn hrg
      unfold ptrN at hen ⊢
      go_wp2_with (first
        | (go_at_call 40; go_must (refine hTl.mono ?_; rintro e w4 ⟨⟨A, rfl, hA⟩, hc4⟩))
        | (refine wp_fieldT rfl _ rfl A (cn : Int) rfl hA ?_)
        | fail)
      have hR4 := HR3.out.keep hc4 (fun e => e) (fun e => e)
      refine ⟨⟨n + cn, _, _, by go_num, hid hR4, hid ?_, hid (HC3.out.tr hc4)⟩, ?_⟩
      · rw [HS.out, HcN.out, ← sumN_put (P := fun i => s.nd i ≠ none ∧ ¬ left i) (m := m) HSx.out (fun e => e.2 HL.out) 513 (by omega)]
        refine sumN_congr 513 fun i _ => ⟨?_, ?_⟩
        · rintro (⟨e1, e2⟩ | e)
          · exact ⟨e1, fun q => e2 q.1⟩
          · rw [e]
            exact ⟨(fun e => by rw [HSx.out] at e; cases e), fun q => q.2 rfl⟩
        · rintro ⟨e1, e2⟩
          by_cases e : (i : Int) = (m : Int)
          · exact .inr e
          · exact .inl ⟨e1, fun q => e2 ⟨q, e⟩⟩
      · rw [hR4.leftN, HCn.out]
        exact HLt.out
end Go.Proofs.YtbkddnibcpjkgaaDoor
