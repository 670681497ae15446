/-
  A disk in memory: its own cells and the row of its sectors; what stands behind a call that writes some blocks.
-/
import Derived.Test.YtgkanfmkohlmcaaGreatDBase
import Derived.Test.YtgkanfmkohlmcaaGreatDOwnS
import Derived.Deep.CutRange
import Derived.Deep.DeepCutAuto
namespace Go.Proofs.YtgkanfmkohlmcaaGreat.D
open Go.RowKit
-- may lack

def pickN (c n : Int) : Int := (if c < 0 then -(c + 1) else c) % n
theorem pickN_bd (c : Int) {n : Int} (hn : 1 ≤ n) : 0 ≤ pickN c n ∧ pickN c n < n :=
  ⟨Int.emod_nonneg _ (by omega), Int.emod_lt_of_pos _ (by omega)⟩
/-- An int. -/
def I64 (c : Int) : Prop := -9223372036854775808 ≤ c ∧ c ≤ 9223372036854775807
theorem ret_int {k : IntKind} {a b : Int} (h : a = b) : Ending.returned (.int k a) = .returned (.int k b) := by rw [h]

set_option maxHeartbeats 400000 in
theorem pick_any (c n : Int) (w : World) (hc : I64 c) (hn : 1 ≤ n) (hn2 : n ≤ 4611686018427387904) :
    Calls Tryz.prog 8 #[.int .i64 c, .int .i64 n] w fun e w' => e = .returned (.int .i64 (pickN c n)) ∧ w' = w := by
  obtain ⟨h0, h1⟩ := hc
  have hn0 : (n == 0) = false := by simp; omega
  by_cases h : c < 0
  · have HP : Hid (pickN c n = (-(c + 1)) % n) := by show _ = _; rw [pickN, if_pos h]
    go_enter Tryz.func8, Tryz.ntmps8
    go_wp2
    go_ret
    exact ⟨ret_int (by rw [HP.out, ← Int.tmod_eq_emod_of_nonneg (by omega), Int.neg_tmod]), rfl⟩
  · have HP : Hid (pickN c n = c % n) := by show _ = _; rw [pickN, if_neg h]
    have h' : 0 ≤ c := by omega
    go_enter Tryz.func8, Tryz.ntmps8
    go_wp2
    go_ret
    exact ⟨ret_int (by rw [HP.out]), rfl⟩

end Go.Proofs.YtgkanfmkohlmcaaGreat.D

namespace Go.Proofs.YtgkanfmkohlmcaaGreat.D
open Go.RowKit
-- may lack

theorem slt {w : World} {g : Nat} {o : Obj} (h : w.heap[g]? = some o) : g < w.heap.size := by
  rcases Nat.lt_or_ge g w.heap.size with k | k
  · exact k
  · rw [Array.getElem?_eq_none k] at h; cases h

/-- Nothing that was there has turned but these blocks. -/
structure Mod (w w' : World) (ks : List Nat) : Prop where
  os : w'.os = w.os
  tape : w'.tape = w.tape
  output : w'.output = w.output
  size : w.heap.size ≤ w'.heap.size
  block : ∀ k, k < w.heap.size → k ∉ ks → w'.heap[k]? = w.heap[k]?

theorem Mod.refl (w : World) (ks : List Nat) : Mod w w ks := ⟨rfl, rfl, rfl, Nat.le_refl _, fun _ _ _ => rfl⟩
theorem Mod.of_below {w w' : World} (h : Below w.heap.size w w') : Mod w w' [] := ⟨h.os, h.tape, h.output, h.size, fun k hk _ => h.block k hk⟩
theorem Mod.below {w w' : World} (h : Mod w w' []) : Below w.heap.size w w' := ⟨h.os, h.tape, h.output, h.size, fun k hk => h.block k hk (by simp)⟩
theorem Mod.trans {w w1 w2 : World} {a b : List Nat} (h : Mod w w1 a) (k : Mod w1 w2 b) : Mod w w2 (a ++ b) :=
  ⟨k.os.trans h.os, k.tape.trans h.tape, k.output.trans h.output, Nat.le_trans h.size k.size, fun j hj hn => by
    rw [k.block j (Nat.lt_of_lt_of_le hj h.size) (fun e => hn (List.mem_append_right _ e)), h.block j hj (fun e => hn (List.mem_append_left _ e))]⟩
theorem Mod.mono {w w' : World} {a b : List Nat} (h : Mod w w' a) (hs : ∀ k, k ∈ a → k < w.heap.size → k ∈ b) : Mod w w' b :=
  ⟨h.os, h.tape, h.output, h.size, fun k hk hn => h.block k hk (fun e => hn (hs k e hk))⟩
theorem Mod.drew {w w' : World} {a : List Nat} (h : Mod w w' a) : Mod w w'.drew a := ⟨h.os, h.tape, h.output, h.size, h.block⟩
theorem Mod.set {w : World} {g j : Nat} {v : Value} : Mod w (w.setCell ⟨g, j, none⟩ v) [g] :=
  ⟨rfl, rfl, rfl, by simp [World.setCell], fun k _ hn => heap_setCell_other w ⟨g, j, none⟩ k _ (fun e => hn (by simp [e]))⟩
theorem Mod.wrote {w w' : World} {g : Nat} {t : TypeId} {c : List Int} (h : WroteB w g t c w') : Mod w w' [g] :=
  ⟨h.os, h.tape, h.output, Nat.le_of_eq h.size.symm, fun k _ hn => h.other k (fun e => hn (by simp [e]))⟩
theorem Mod.to {w0 w w' : World} {ks : List Nat} {B : Nat} (h : Mod w w' ks) (hb : Below B w0 w) (hB : B ≤ w.heap.size) (hk : ∀ k, k ∈ ks → B ≤ k) : Below B w0 w' :=
  hb.trans ⟨h.os, h.tape, h.output, h.size, fun k hkB => h.block k (Nat.lt_of_lt_of_le hkB hB) (fun e => by have := hk k e; omega)⟩
theorem HB.mod {w0 w w' : World} {bl : List (Nat × Obj)} {ks : List Nat} (h : HB w0 bl w) (hm : Mod w w' ks) (hn : ∀ x, x ∈ bl → x.1 ∉ ks) (hk : ∀ k, k ∈ ks → w0.heap.size ≤ k) : HB w0 bl w' :=
  ⟨fun x hx => by rw [hm.block x.1 (h.low x hx) (hn x hx)]; exact h.at_ x hx, fun x hx => Nat.lt_of_lt_of_le (h.low x hx) hm.size, hm.to h.old h.old.size hk⟩

/-- A disk's own cells. -/
def DC (g n : Nat) (wr : Int) (dn ar : Bool) (lf : Int) : Array Value := #[.slice (some ⟨g, 0, none⟩) n n, .int .i64 wr, .bool dn, .bool ar, .int .i64 lf]
/-- The cells of the document's disk. -/
def RC (g n c : Nat) (wr : Int) (ar : Bool) (lf : Int) (dn : Bool) : Array Value := #[.slice (some ⟨g, 0, none⟩) n c, .int .i64 wr, .bool ar, .int .i64 lf, .bool dn]

/-- What a disk has. -/
structure St8 where
  S : List Int
  wr : Int
  dn : Bool
  ar : Bool
  lf : Int

/-- A disk lies at p, its sectors at g. -/
structure IsD (w : World) (p g n : Nat) (d : St8) : Prop where
  me : w.heap[p]? = some (.cells (DC g n d.wr d.dn d.ar d.lf) 94 (0, 0))
  row : w.heap[g]? = some (.cells (SA d.S) 46 (0, 0))
  len : d.S.length = 128 * n
  pos : 1 ≤ n
  top : n ≤ 4096
theorem IsD.ne {w : World} {p g n : Nat} {d : St8} (h : IsD w p g n d) : p ≠ g := by
  intro e
  have h1 := h.me
  rw [e, h.row] at h1
  injection h1 with h1
  injection h1 with _ h2
  revert h2
  decide
theorem IsD.keep {w w' : World} {p g n : Nat} {d : St8} {ks : List Nat} (h : IsD w p g n d) (hm : Mod w w' ks) (hp : p ∉ ks) (hg : g ∉ ks) : IsD w' p g n d :=
  ⟨by rw [hm.block p (slt h.me) hp]; exact h.me, by rw [hm.block g (slt h.row) hg]; exact h.row, h.len, h.pos, h.top⟩
theorem IsD.call {w w' : World} {p g n : Nat} {d : St8} (h : IsD w p g n d) (hb : Below w.heap.size w w') : IsD w' p g n d := h.keep (Mod.of_below hb) (by simp) (by simp)

theorem IsD.drew {w : World} {p g n : Nat} {d : St8} (h : IsD w p g n d) : IsD w.drew p g n d := ⟨h.me, h.row, h.len, h.pos, h.top⟩

theorem IsD.drewN {w : World} {p g n : Nat} {d : St8} (h : IsD w p g n d) (k : Nat) : IsD (w.drewN k) p g n d := ⟨h.me, h.row, h.len, h.pos, h.top⟩
theorem below_drewN (w : World) (B k : Nat) : Below B w (w.drewN k) := ⟨rfl, rfl, rfl, Nat.le_refl _, fun _ _ => rfl⟩

theorem IsD.c0 {w : World} {p g n : Nat} {d : St8} (h : IsD w p g n d) : w.cell? ⟨p, 0, none⟩ = some (.slice (some ⟨g, 0, none⟩) n n) := by rw [cell_of_row _ _ _ _ _ _ h.me]; rfl
theorem IsD.c1 {w : World} {p g n : Nat} {d : St8} (h : IsD w p g n d) : w.cell? ⟨p, 1, none⟩ = some (.int .i64 d.wr) := by rw [cell_of_row _ _ _ _ _ _ h.me]; rfl
theorem IsD.c2 {w : World} {p g n : Nat} {d : St8} (h : IsD w p g n d) : w.cell? ⟨p, 2, none⟩ = some (.bool d.dn) := by rw [cell_of_row _ _ _ _ _ _ h.me]; rfl
theorem IsD.c3 {w : World} {p g n : Nat} {d : St8} (h : IsD w p g n d) : w.cell? ⟨p, 3, none⟩ = some (.bool d.ar) := by rw [cell_of_row _ _ _ _ _ _ h.me]; rfl
theorem IsD.c4 {w : World} {p g n : Nat} {d : St8} (h : IsD w p g n d) : w.cell? ⟨p, 4, none⟩ = some (.int .i64 d.lf) := by rw [cell_of_row _ _ _ _ _ _ h.me]; rfl
theorem IsD.fz {w : World} {p g n : Nat} {d : St8} (h : IsD w p g n d) (j : Nat) : w.frozen? ⟨p, j, none⟩ = false := frozen_of_row w p j _ _ h.me

/-- copy of a whole row of sectors. -/
theorem run_copy_secs (w : World) (ty : TypeId) (g m c : Nat) (a : Addr) (sc : Nat) (old new : List Int) (hg : w.heap[g]? = some (.cells (SA old) 46 (0, 0))) (ho : old.length = 128 * m) (hl : new.length = 128 * m) (hs : BytesAt w (some a) new) :
    (Builtin.copy_ #[58, 58] ty #[.slice (some ⟨g, 0, none⟩) m c, .slice (some a) m sc]).run Tryz.prog w = .ok (goInt m) (w.setRow g (SA new)) := by
  obtain ⟨i, hi, hz, hsz, hby⟩ := infoS
  have h1 := run_loadCells_list (P := Tryz.prog) w a (new.map (Value.int .u8)) (src_of hs)
  have h2 := run_storeCells_at Tryz.prog g 0 46 (new.map (Value.int .u8)) 0 (SA old) w hg (by rw [SA_size, List.length_map]; omega) (one_cells new)
  rw [List.length_map, hl] at h1
  have e : ((SA old).toList.take (0 + 0) ++ new.map (Value.int .u8) ++ (SA old).toList.drop (0 + 0 + (new.map (Value.int .u8)).length)).toArray = SA new := by
    rw [List.drop_of_length_le (by simp [SA]; omega)]
    simp [SA]
  rw [e] at h2
  have hm : m * 128 = 128 * m := Nat.mul_comm _ _
  simp [Builtin.copy_, run_underlying Tryz.underlying58, Builtin.lenOf, Builtin.firstCells, sizeOf, typeInfo, hi, hsz, hm, h1, h2]
theorem copy_secs {ops : Array Oper} {rest : List Oper} {o : Oper} {a : Act} {w : World} {Q : Exit → Act → World → Prop} (hgd : o.guard = none) (d s : Operand)
    (ho : o.op = .call { callee := .builtin .copy, args := #[d, s], argTypes := #[58, 58] }) (g m c : Nat) (ad : Addr) (sc : Nat) (old new : List Int) (hd : a.eval d = .slice (some ⟨g, 0, none⟩) m c) (hs : a.eval s = .slice (some ad) m sc)
    (hg : w.heap[g]? = some (.cells (SA old) 46 (0, 0))) (hol : old.length = 128 * m) (hl : new.length = 128 * m) (hat : BytesAt w (some ad) new)
    (h : ∀ w', WroteB w g 46 new w' → wpList Tryz.prog ops Q rest (a.put o.dst (goInt m)) w') : wpList Tryz.prog ops Q (o :: rest) a w := by
  refine wpList_plain hgd fun K hK => ?_
  have hrun := run_copy_secs w o.type g m c ad sc old new hg hol hl hat
  unfold Oper.wp
  simp [execOp, ho, resolve, invoke, builtin, hd, hs, hrun, Result.andThen]
  refine hK _ _ (h _ ⟨?_, ?_, ?_, rfl, rfl, rfl⟩)
  · simp [World.setRow, Array.getElem?_modify, hg]
  · intro k hk
    simp only [World.setRow, Array.getElem?_modify]
    rw [if_neg (fun e => hk e.symm)]
  · simp [World.setRow]

theorem wrote_row {w : World} {g : Nat} {t : TypeId} {old : Array Value} (c : List Int) (hg : w.heap[g]? = some (.cells old t (0, 0))) : WroteB w g t c (w.setRow g (SA c)) := by
  refine ⟨?_, ?_, ?_, rfl, rfl, rfl⟩
  · simp [World.setRow, Array.getElem?_modify, hg]
  · intro k hk
    simp only [World.setRow, Array.getElem?_modify]
    rw [if_neg (fun e => hk e.symm)]
  · simp [World.setRow]

end Go.Proofs.YtgkanfmkohlmcaaGreat.D
