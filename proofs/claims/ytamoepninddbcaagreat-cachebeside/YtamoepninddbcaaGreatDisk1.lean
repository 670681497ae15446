/-
  The calls of package disk that make a disk and tell of one: what they answer, for every input.
-/
import Derived.Test.YtamoepninddbcaaGreatDOwnS
import Derived.Deep.CutRange
import Derived.Deep.DeepCutAuto
namespace Go.Proofs.YtamoepninddbcaaGreat.D
open Go.RowKit
-- may lack

def pickN (c n : Int) : Int := (if c < 0 then -(c + 1) else c) % n
theorem pickN_bd (c : Int) {n : Int} (hn : 1 ≤ n) : 0 ≤ pickN c n ∧ pickN c n < n :=
  ⟨Int.emod_nonneg _ (by omega), Int.emod_lt_of_pos _ (by omega)⟩
/-- An int. -/
def I64 (c : Int) : Prop := -9223372036854775808 ≤ c ∧ c ≤ 9223372036854775807
theorem ret_int {k : IntKind} {a b : Int} (h : a = b) : Ending.returned (.int k a) = .returned (.int k b) := by rw [h]

set_option maxHeartbeats 400000 in
theorem pick_any (c n : Int) (w : World) (hc : I64 c) (hn : 1 ≤ n) (hn2 : n ≤ 4611686018427387904) :
    Calls Tryz.prog 26 #[.int .i64 c, .int .i64 n] w fun e w' => e = .returned (.int .i64 (pickN c n)) ∧ w' = w := by
  obtain ⟨h0, h1⟩ := hc
  have hn0 : (n == 0) = false := by simp; omega
  by_cases h : c < 0
  · have HP : Hid (pickN c n = (-(c + 1)) % n) := by show _ = _; rw [pickN, if_pos h]
    go_enter Tryz.func26, Tryz.ntmps26
    go_wp2
    go_ret
    exact ⟨ret_int (by rw [HP.out, ← Int.tmod_eq_emod_of_nonneg (by omega), Int.neg_tmod]), rfl⟩
  · have HP : Hid (pickN c n = c % n) := by show _ = _; rw [pickN, if_neg h]
    have h' : 0 ≤ c := by omega
    go_enter Tryz.func26, Tryz.ntmps26
    go_wp2
    go_ret
    exact ⟨ret_int (by rw [HP.out]), rfl⟩

end Go.Proofs.YtamoepninddbcaaGreat.D

namespace Go.Proofs.YtamoepninddbcaaGreat.D
open Go.RowKit
-- may lack

theorem slt {w : World} {g : Nat} {o : Obj} (h : w.heap[g]? = some o) : g < w.heap.size := by
  rcases Nat.lt_or_ge g w.heap.size with k | k
  · exact k
  · rw [Array.getElem?_eq_none k] at h; cases h

/-- Nothing that was there has turned but these blocks. -/
structure Mod (w w' : World) (ks : List Nat) : Prop where
  os : w'.os = w.os
  tape : w'.tape = w.tape
  output : w'.output = w.output
  size : w.heap.size ≤ w'.heap.size
  block : ∀ k, k < w.heap.size → k ∉ ks → w'.heap[k]? = w.heap[k]?

theorem Mod.refl (w : World) (ks : List Nat) : Mod w w ks := ⟨rfl, rfl, rfl, Nat.le_refl _, fun _ _ _ => rfl⟩
theorem Mod.of_below {w w' : World} (h : Below w.heap.size w w') : Mod w w' [] := ⟨h.os, h.tape, h.output, h.size, fun k hk _ => h.block k hk⟩
theorem Mod.below {w w' : World} (h : Mod w w' []) : Below w.heap.size w w' := ⟨h.os, h.tape, h.output, h.size, fun k hk => h.block k hk (by simp)⟩
theorem Mod.trans {w w1 w2 : World} {a b : List Nat} (h : Mod w w1 a) (k : Mod w1 w2 b) : Mod w w2 (a ++ b) :=
  ⟨k.os.trans h.os, k.tape.trans h.tape, k.output.trans h.output, Nat.le_trans h.size k.size, fun j hj hn => by
    rw [k.block j (Nat.lt_of_lt_of_le hj h.size) (fun e => hn (List.mem_append_right _ e)), h.block j hj (fun e => hn (List.mem_append_left _ e))]⟩
theorem Mod.mono {w w' : World} {a b : List Nat} (h : Mod w w' a) (hs : ∀ k, k ∈ a → k < w.heap.size → k ∈ b) : Mod w w' b :=
  ⟨h.os, h.tape, h.output, h.size, fun k hk hn => h.block k hk (fun e => hn (hs k e hk))⟩
theorem Mod.drew {w w' : World} {a : List Nat} (h : Mod w w' a) : Mod w w'.drew a := ⟨h.os, h.tape, h.output, h.size, h.block⟩
theorem Mod.set {w : World} {g j : Nat} {v : Value} : Mod w (w.setCell ⟨g, j, none⟩ v) [g] :=
  ⟨rfl, rfl, rfl, by simp [World.setCell], fun k _ hn => heap_setCell_other w ⟨g, j, none⟩ k _ (fun e => hn (by simp [e]))⟩
theorem Mod.wrote {w w' : World} {g : Nat} {t : TypeId} {c : List Int} (h : WroteB w g t c w') : Mod w w' [g] :=
  ⟨h.os, h.tape, h.output, Nat.le_of_eq h.size.symm, fun k _ hn => h.other k (fun e => hn (by simp [e]))⟩
theorem Mod.to {w0 w w' : World} {ks : List Nat} {B : Nat} (h : Mod w w' ks) (hb : Below B w0 w) (hB : B ≤ w.heap.size) (hk : ∀ k, k ∈ ks → B ≤ k) : Below B w0 w' :=
  hb.trans ⟨h.os, h.tape, h.output, h.size, fun k hkB => h.block k (Nat.lt_of_lt_of_le hkB hB) (fun e => by have := hk k e; omega)⟩
theorem HB.mod {w0 w w' : World} {bl : List (Nat × Obj)} {ks : List Nat} (h : HB w0 bl w) (hm : Mod w w' ks) (hn : ∀ x, x ∈ bl → x.1 ∉ ks) (hk : ∀ k, k ∈ ks → w0.heap.size ≤ k) : HB w0 bl w' :=
  ⟨fun x hx => by rw [hm.block x.1 (h.low x hx) (hn x hx)]; exact h.at_ x hx, fun x hx => Nat.lt_of_lt_of_le (h.low x hx) hm.size, hm.to h.old h.old.size hk⟩

/-- A disk's own cells. -/
def DC (g n : Nat) (wr : Int) (dn ar : Bool) (lf : Int) : Array Value := #[.slice (some ⟨g, 0, none⟩) n n, .int .i64 wr, .bool dn, .bool ar, .int .i64 lf]
/-- The cells of the document's disk. -/
def RC (g n c : Nat) (wr : Int) (ar : Bool) (lf : Int) (dn : Bool) : Array Value := #[.slice (some ⟨g, 0, none⟩) n c, .int .i64 wr, .bool ar, .int .i64 lf, .bool dn]

/-- What a disk has. -/
structure St8 where
  S : List Int
  wr : Int
  dn : Bool
  ar : Bool
  lf : Int

/-- A disk lies at p, its sectors at g. -/
structure IsD (w : World) (p g n : Nat) (d : St8) : Prop where
  me : w.heap[p]? = some (.cells (DC g n d.wr d.dn d.ar d.lf) 81 (0, 0))
  row : w.heap[g]? = some (.cells (SA d.S) 47 (0, 0))
  len : d.S.length = 128 * n
  pos : 1 ≤ n
  top : n ≤ 4096
theorem IsD.ne {w : World} {p g n : Nat} {d : St8} (h : IsD w p g n d) : p ≠ g := by
  intro e
  have h1 := h.me
  rw [e, h.row] at h1
  injection h1 with h1
  injection h1 with _ h2
  revert h2
  decide
theorem IsD.keep {w w' : World} {p g n : Nat} {d : St8} {ks : List Nat} (h : IsD w p g n d) (hm : Mod w w' ks) (hp : p ∉ ks) (hg : g ∉ ks) : IsD w' p g n d :=
  ⟨by rw [hm.block p (slt h.me) hp]; exact h.me, by rw [hm.block g (slt h.row) hg]; exact h.row, h.len, h.pos, h.top⟩
theorem IsD.call {w w' : World} {p g n : Nat} {d : St8} (h : IsD w p g n d) (hb : Below w.heap.size w w') : IsD w' p g n d := h.keep (Mod.of_below hb) (by simp) (by simp)

theorem IsD.drew {w : World} {p g n : Nat} {d : St8} (h : IsD w p g n d) : IsD w.drew p g n d := ⟨h.me, h.row, h.len, h.pos, h.top⟩

theorem IsD.drewN {w : World} {p g n : Nat} {d : St8} (h : IsD w p g n d) (k : Nat) : IsD (w.drewN k) p g n d := ⟨h.me, h.row, h.len, h.pos, h.top⟩
theorem below_drewN (w : World) (B k : Nat) : Below B w (w.drewN k) := ⟨rfl, rfl, rfl, Nat.le_refl _, fun _ _ => rfl⟩

theorem IsD.c0 {w : World} {p g n : Nat} {d : St8} (h : IsD w p g n d) : w.cell? ⟨p, 0, none⟩ = some (.slice (some ⟨g, 0, none⟩) n n) := by rw [cell_of_row _ _ _ _ _ _ h.me]; rfl
theorem IsD.c1 {w : World} {p g n : Nat} {d : St8} (h : IsD w p g n d) : w.cell? ⟨p, 1, none⟩ = some (.int .i64 d.wr) := by rw [cell_of_row _ _ _ _ _ _ h.me]; rfl
theorem IsD.c2 {w : World} {p g n : Nat} {d : St8} (h : IsD w p g n d) : w.cell? ⟨p, 2, none⟩ = some (.bool d.dn) := by rw [cell_of_row _ _ _ _ _ _ h.me]; rfl
theorem IsD.c3 {w : World} {p g n : Nat} {d : St8} (h : IsD w p g n d) : w.cell? ⟨p, 3, none⟩ = some (.bool d.ar) := by rw [cell_of_row _ _ _ _ _ _ h.me]; rfl
theorem IsD.c4 {w : World} {p g n : Nat} {d : St8} (h : IsD w p g n d) : w.cell? ⟨p, 4, none⟩ = some (.int .i64 d.lf) := by rw [cell_of_row _ _ _ _ _ _ h.me]; rfl
theorem IsD.fz {w : World} {p g n : Nat} {d : St8} (h : IsD w p g n d) (j : Nat) : w.frozen? ⟨p, j, none⟩ = false := frozen_of_row w p j _ _ h.me

/-- copy of a whole row of sectors. -/
theorem run_copy_secs (w : World) (ty : TypeId) (g m c : Nat) (a : Addr) (sc : Nat) (old new : List Int) (hg : w.heap[g]? = some (.cells (SA old) 47 (0, 0))) (ho : old.length = 128 * m) (hl : new.length = 128 * m) (hs : BytesAt w (some a) new) :
    (Builtin.copy_ #[74, 74] ty #[.slice (some ⟨g, 0, none⟩) m c, .slice (some a) m sc]).run Tryz.prog w = .ok (goInt m) (w.setRow g (SA new)) := by
  obtain ⟨i, hi, hz, hsz, hby⟩ := infoS
  have h1 := run_loadCells_list (P := Tryz.prog) w a (new.map (Value.int .u8)) (src_of hs)
  have h2 := run_storeCells_at Tryz.prog g 0 47 (new.map (Value.int .u8)) 0 (SA old) w hg (by rw [SA_size, List.length_map]; omega) (one_cells new)
  rw [List.length_map, hl] at h1
  have e : ((SA old).toList.take (0 + 0) ++ new.map (Value.int .u8) ++ (SA old).toList.drop (0 + 0 + (new.map (Value.int .u8)).length)).toArray = SA new := by
    rw [List.drop_of_length_le (by simp [SA]; omega)]
    simp [SA]
  rw [e] at h2
  have hm : m * 128 = 128 * m := Nat.mul_comm _ _
  simp [Builtin.copy_, run_underlying Tryz.underlying74, Builtin.lenOf, Builtin.firstCells, sizeOf, typeInfo, hi, hsz, hm, h1, h2]
theorem copy_secs {ops : Array Oper} {rest : List Oper} {o : Oper} {a : Act} {w : World} {Q : Exit → Act → World → Prop} (hgd : o.guard = none) (d s : Operand)
    (ho : o.op = .call { callee := .builtin .copy, args := #[d, s], argTypes := #[74, 74] }) (g m c : Nat) (ad : Addr) (sc : Nat) (old new : List Int) (hd : a.eval d = .slice (some ⟨g, 0, none⟩) m c) (hs : a.eval s = .slice (some ad) m sc)
    (hg : w.heap[g]? = some (.cells (SA old) 47 (0, 0))) (hol : old.length = 128 * m) (hl : new.length = 128 * m) (hat : BytesAt w (some ad) new)
    (h : ∀ w', WroteB w g 47 new w' → wpList Tryz.prog ops Q rest (a.put o.dst (goInt m)) w') : wpList Tryz.prog ops Q (o :: rest) a w := by
  refine wpList_plain hgd fun K hK => ?_
  have hrun := run_copy_secs w o.type g m c ad sc old new hg hol hl hat
  unfold Oper.wp
  simp [execOp, ho, resolve, invoke, builtin, hd, hs, hrun, Result.andThen]
  refine hK _ _ (h _ ⟨?_, ?_, ?_, rfl, rfl, rfl⟩)
  · simp [World.setRow, Array.getElem?_modify, hg]
  · intro k hk
    simp only [World.setRow, Array.getElem?_modify]
    rw [if_neg (fun e => hk e.symm)]
  · simp [World.setRow]

theorem wrote_row {w : World} {g : Nat} {t : TypeId} {old : Array Value} (c : List Int) (hg : w.heap[g]? = some (.cells old t (0, 0))) : WroteB w g t c (w.setRow g (SA c)) := by
  refine ⟨?_, ?_, ?_, rfl, rfl, rfl⟩
  · simp [World.setRow, Array.getElem?_modify, hg]
  · intro k hk
    simp only [World.setRow, Array.getElem?_modify]
    rw [if_neg (fun e => hk e.symm)]
  · simp [World.setRow]

end Go.Proofs.YtamoepninddbcaaGreat.D

namespace Go.Proofs.YtamoepninddbcaaGreat.D
open Go.RowKit
-- may lack

def mayB (n : Int) : Bool := decide (1 ≤ n ∧ n ≤ 4096)
theorem mayB_true {n : Int} (h : 1 ≤ n ∧ n ≤ 4096) : mayB n = true := decide_eq_true h
theorem mayB_false {n : Int} (h : ¬ (1 ≤ n ∧ n ≤ 4096)) : mayB n = false := decide_eq_false h

set_option maxHeartbeats 400000 in
theorem maySize_any (n : Int) (w : World) : Calls Tryz.prog 54 #[.int .i64 n] w fun e w' => e = .returned (.bool (mayB n)) ∧ w' = w := by
  by_cases h1 : 1 ≤ n
  · by_cases h2 : n ≤ 4096
    · go_enter Tryz.func54, Tryz.ntmps54
      go_wp2
      go_ret
      exact ⟨ret_bool (mayB_true (by omega)).symm, rfl⟩
    · go_enter Tryz.func54, Tryz.ntmps54
      go_wp2
      go_ret
      exact ⟨ret_bool (mayB_false (by omega)).symm, rfl⟩
  · go_enter Tryz.func54, Tryz.ntmps54
    go_wp2
    go_ret
    exact ⟨ret_bool (mayB_false (by omega)).symm, rfl⟩

def fresh (n : Nat) : St8 := ⟨zl (128 * n), 0, false, false, 0⟩
def D0 (S : List Int) : St8 := ⟨S, 0, false, false, 0⟩

theorem build_disk (v : Value) (a : Option Addr) (n c : Nat) (hv : v = .slice a n c) (w : World) : (Instr.build 81 #[(0, v)]).run Tryz.prog w = .ok (.agg #[v, .int .i64 0, .bool false, .bool false, .int .i64 0]) w := by
  subst hv
  kernel_rfl

set_option maxHeartbeats 400000 in
theorem new_bad (n : Int) (w : World) (h : ¬ (1 ≤ n ∧ n ≤ 4096)) : Calls Tryz.prog 13 #[.int .i64 n] w fun e w' => e = .returned (.tuple #[.pointer none, .int .i64 20]) ∧ w' = w := by
  have hm := fun w => maySize_any n w
  rw [mayB_false h] at hm
  go_enter Tryz.func13, Tryz.ntmps13
  go_wp2_with (go_at_call 54; refine (hm _).mono ?_; rintro e w1 ⟨rfl, rfl⟩)
  go_ret2
  exact ⟨rfl, rfl⟩

set_option maxHeartbeats 400000 in
theorem new_ok (n : Nat) (w : World) (h0 : 1 ≤ n) (h1 : n ≤ 4096) : Calls Tryz.prog 13 #[.int .i64 n] w fun e w' => ∃ p g, e = .returned (.tuple #[.pointer (some ⟨p, 0, none⟩), .int .i64 0]) ∧ w.heap.size ≤ p ∧ w.heap.size ≤ g ∧ IsD w' p g n (D0 (zl (128 * n))) ∧ Below w.heap.size w w' := by
  have hm := fun w => maySize_any n w
  rw [mayB_true (by omega)] at hm
  have hmk := make_secs (n : Int) (by omega) (by omega)
  rw [Int.toNat_natCast] at hmk
  have hbd := fun g w => build_disk (.slice (some ⟨g, 0, none⟩) n n) _ _ _ rfl w
  go_enter Tryz.func13, Tryz.ntmps13
  go_wp2_with (go_at_call 54; refine (hm _).mono ?_; rintro e w1 ⟨rfl, rfl⟩)
  go_ret2
  refine ⟨w1.heap.size + 1, w1.heap.size, rfl, by omega, by omega, ⟨?_, ?_, zl_len _, h0, h1⟩, ((Below.refl _ _).alloc (Nat.le_refl _) _).alloc (by simp) _⟩
  · have := heap_alloc_new (w1.alloc (.cells (SA (zl (128 * n))) 47)) (.cells (DC w1.heap.size n 0 false false 0) 81)
    rw [show (w1.alloc (.cells (SA (zl (128 * n))) 47)).heap.size = w1.heap.size + 1 by simp] at this
    exact this
  · rw [Below.heap_alloc _ _ _ (by simp)]
    exact heap_alloc_new _ _

set_option maxHeartbeats 400000 in
theorem laid_any (m cap : Nat) (ad : Addr) (fl : List Int) (w : World) (h1 : m ≤ 5003) (hl : Hid (fl.length = 128 * m)) (HZ : Hid (BytesAt w (some ad) fl)) :
    Calls Tryz.prog 88 #[.slice (some ad) m cap] w fun e w' => ∃ g, e = .returned (.slice (some ⟨g, 0, none⟩) m m) ∧ w.heap.size ≤ g ∧ w'.heap[g]? = some (.cells (SA fl) 47 (0, 0)) ∧ Below w.heap.size w w' := by
  have hmk := make_secs (m : Int) (by omega) (by omega)
  rw [Int.toNat_natCast] at hmk
  have hb : Below w.heap.size w (w.alloc (.cells (SA (zl (128 * m))) 47)) := Below.refl_call w _
  have hcp := run_copy_secs (w.alloc (.cells (SA (zl (128 * m))) 47)) 3 w.heap.size m m ad cap (zl (128 * m)) fl (heap_alloc_new _ _) (zl_len _) hl.out (bytes_below HZ.out hb)
  have HW := hid (wrote_row fl (heap_alloc_new w (.cells (SA (zl (128 * m))) 47)))
  go_enter Tryz.func88, Tryz.ntmps88
  go_wp2
  go_ret
  exact ⟨_, rfl, Nat.le_refl _, HW.out.here, HW.out.below hb (Nat.le_refl _)⟩

set_option maxHeartbeats 400000 in
theorem writes_any {p g n : Nat} {d : St8} (w : World) (h : IsD w p g n d) : Calls Tryz.prog 43 #[.pointer (some ⟨p, 0, none⟩)] w fun e w' => e = .returned (.int .i64 d.wr) ∧ w' = w := by
  have h0 := h.c1
  go_enter Tryz.func43, Tryz.ntmps43
  go_wp2
  go_ret
  exact ⟨rfl, rfl⟩
set_option maxHeartbeats 400000 in
theorem down_any {p g n : Nat} {d : St8} (w : World) (h : IsD w p g n d) : Calls Tryz.prog 50 #[.pointer (some ⟨p, 0, none⟩)] w fun e w' => e = .returned (.bool d.dn) ∧ w' = w := by
  have h0 := h.c2
  go_enter Tryz.func50, Tryz.ntmps50
  go_wp2
  go_ret
  exact ⟨rfl, rfl⟩

def refE (d : St8) (n : Nat) (i : Int) : Int := if d.dn = true then 22 else if i < 0 ∨ (n : Int) ≤ i then 21 else 0
set_option maxHeartbeats 400000 in
theorem refusal_any {p g n : Nat} {d : St8} (i : Int) (w : World) (h : IsD w p g n d) : Calls Tryz.prog 55 #[.pointer (some ⟨p, 0, none⟩), .int .i64 i] w fun e w' => e = .returned (.int .i64 (refE d n i)) ∧ w' = w := by
  have h0 := h.c0
  have h2 := h.c2
  cases hd : d.dn
  · rw [hd] at h2
    by_cases hi : i < 0
    · have HE : Hid (refE d n i = 21) := by show _ = _; simp [refE, hd, hi]
      clear hd
      go_enter Tryz.func55, Tryz.ntmps55
      go_wp2
      go_ret
      exact ⟨ret_int HE.out.symm, rfl⟩
    · by_cases hn : (n : Int) ≤ i
      · have HE : Hid (refE d n i = 21) := by show _ = _; simp [refE, hd, hn]
        clear hd
        go_enter Tryz.func55, Tryz.ntmps55
        go_wp2
        go_ret
        exact ⟨ret_int HE.out.symm, rfl⟩
      · have HE : Hid (refE d n i = 0) := by show _ = _; simp [refE, hd, hn, hi]
        clear hd
        go_enter Tryz.func55, Tryz.ntmps55
        go_wp2
        go_ret
        exact ⟨ret_int HE.out.symm, rfl⟩
  · have HE : Hid (refE d n i = 22) := by show _ = _; simp [refE, hd]
    rw [hd] at h2
    clear hd
    go_enter Tryz.func55, Tryz.ntmps55
    go_wp2
    go_ret
    exact ⟨ret_int HE.out.symm, rfl⟩

/-- One cell of a disk is written. -/
theorem IsD.put {w : World} {p g n : Nat} {d d' : St8} (h : IsD w p g n d) (j : Nat) (v : Value) (hS : d'.S = d.S) (he : (DC g n d.wr d.dn d.ar d.lf).setIfInBounds j v = DC g n d'.wr d'.dn d'.ar d'.lf) : IsD (w.setCell ⟨p, j, none⟩ v) p g n d' := by
  refine ⟨?_, ?_, by rw [hS]; exact h.len, h.pos, h.top⟩
  · rw [heap_setCell_same w p j _ 81 v h.me, he]
  · rw [heap_setCell_other w ⟨p, j, none⟩ g v (fun e => h.ne e.symm), hS]
    exact h.row

def armE (d : St8) (k : Int) : Int := if k < 0 then 1 else if d.dn = true then 22 else 0
def armD (d : St8) (k : Int) : St8 := if k < 0 then d else if d.dn = true then d else ⟨d.S, d.wr, d.dn, true, k⟩
set_option maxHeartbeats 400000 in
theorem arm_any {p g n : Nat} {d : St8} (k : Int) (w : World) (h : IsD w p g n d) : Calls Tryz.prog 37 #[.pointer (some ⟨p, 0, none⟩), .int .i64 k] w fun e w' => e = .returned (.int .i64 (armE d k)) ∧ IsD w' p g n (armD d k) ∧ Mod w w' [p] := by
  have h2 := h.c2
  have h3 := h.c3
  have h4 := h.c4
  have f3 := h.fz 3
  have f4 := h.fz 4
  by_cases hk : k < 0
  · have HE : Hid (armE d k = 1) := by show _ = _; simp [armE, hk]
    have HD : Hid (armD d k = d) := by show _ = _; simp [armD, hk]
    go_enter Tryz.func37, Tryz.ntmps37
    go_wp2
    go_ret
    exact ⟨ret_int HE.out.symm, by rw [HD.out]; exact h, Mod.refl _ _⟩
  · cases hd : d.dn
    · have HE : Hid (armE d k = 0) := by show _ = _; simp [armE, hk, hd]
      have HD : Hid (armD d k = ⟨d.S, d.wr, d.dn, true, k⟩) := by show _ = _; simp [armD, hk, hd]
      rw [hd] at h2
      clear hd
      go_enter Tryz.func37, Tryz.ntmps37
      go_wp2
      go_ret
      have a1 : IsD (w.setCell ⟨p, 3, none⟩ (.bool true)) p g n ⟨d.S, d.wr, d.dn, true, d.lf⟩ := h.put 3 _ rfl rfl
      exact ⟨ret_int HE.out.symm, by rw [HD.out]; exact a1.put 4 _ rfl rfl, (Mod.set.trans Mod.set).mono (by simp)⟩
    · have HE : Hid (armE d k = 22) := by show _ = _; simp [armE, hk, hd]
      have HD : Hid (armD d k = d) := by show _ = _; simp [armD, hk, hd]
      rw [hd] at h2
      clear hd
      go_enter Tryz.func37, Tryz.ntmps37
      go_wp2
      go_ret
      exact ⟨ret_int HE.out.symm, by rw [HD.out]; exact h, Mod.refl _ _⟩

set_option maxHeartbeats 400000 in
theorem image_any {p g n : Nat} {d : St8} (w : World) (h : IsD w p g n d) : Calls Tryz.prog 42 #[.pointer (some ⟨p, 0, none⟩)] w fun e w' => ∃ q, e = .returned (.slice (some ⟨q, 0, none⟩) n n) ∧ w.heap.size ≤ q ∧ w'.heap[q]? = some (.cells (SA d.S) 47 (0, 0)) ∧ Below w.heap.size w w' := by
  have h0 := h.c0
  have HT := h.top
  have HL := laid_any n n ⟨g, 0, none⟩ d.S w (by omega) h.len (row_bytes h.row)
  clear HT
  go_enter Tryz.func42, Tryz.ntmps42
  go_wp2_with (go_at_call 88; refine HL.mono ?_; rintro e w1 ⟨q, rfl, h1, h2, h3⟩)
  go_ret
  exact ⟨q, rfl, h1, h2, h3⟩

end Go.Proofs.YtamoepninddbcaaGreat.D
