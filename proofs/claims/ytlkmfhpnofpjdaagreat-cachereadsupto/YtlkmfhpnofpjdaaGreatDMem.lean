/-
  Lists of bytes and of sectors that lie in memory.
-/
import Derived.Test.YtlkmfhpnofpjdaaGreatDHeld
import Derived.Laws.CopyOwn
import Derived.Deep.RegionLaw
import Derived.Deep.MidRow
namespace Go.Proofs.YtlkmfhpnofpjdaaGreat.D
open Go.RowKit
-- may lack

/-- A list of bytes that lies in memory, in blocks that are there. -/
def BytesAt (w : World) (a : Option Addr) (zs : List Int) : Prop :=
  zs = [] ∨ ∃ b o, a = some ⟨b, o, none⟩ ∧ b < w.heap.size ∧ ∀ j, j < zs.length → w.cell? ⟨b, o + j, none⟩ = some (.int .u8 (zs.getD j 0))

theorem one_cells (l : List Int) : ∀ v ∈ l.map (Value.int .u8), v.oneCell' = true := by
  intro v hv
  rw [List.mem_map] at hv
  obtain ⟨x, _, rfl⟩ := hv
  rfl
theorem sz5 : (Tryz.prog.info? 5).map (·.size) = some 1 := by kernel_rfl
theorem addr_add (b o j : Nat) : (⟨b, o, none⟩ : Addr).add j = ⟨b, o + j, none⟩ := by unfold Addr.add; split <;> simp_all

section
variable {ops : Array Oper} {Q : Exit → Act → World → Prop} {S : World → Prop} {fuel : Nat} {listed : Array Bool} {a : Act} {w : World}
/-- A sector in the midst of a block is loaded. -/
theorem takeMidS (i d : Nat) (x : Operand) (g k : Nat) (c : List Int) (hc : c.length = 128) {o : Oper} (hop : ops[i]? = some o) (hs : Region.noSelect ops = true) (hf : Region.free .any ops listed i = true) (hr : (Region.ready .any ops listed).contains i = true)
    (hd : o.dst = some d) (ho : o.op = .load 60 x) (hx : a.eval x = .pointer (some ⟨g, k, none⟩)) (hw : Region.wanted o (yielded ops a.tmps) = true) (hQ : ∀ c a w, ¬ Q (.panic c) a w) (hS : S w)
    (hg : ∀ w, S w → w.rangeAt g k (c.map (Value.int .u8)))
    (h : wpAnyH Tryz.prog .any ops Q S fuel (listed.setIfInBounds i true) { a with tmps := a.tmps.setIfInBounds d (.agg (SA c)) } w) : wpAnyH Tryz.prog .any ops Q S (fuel + 1) listed a w := by
  refine takeVal i d (.agg (SA c)) hop hs hf hr hd hw hQ hS (fun w hw' => ?_) h
  unfold execOp
  simp only [ho, hx, Instr.loadAt, Instr.sureAddr, Sem.run_bind, Sem.run_pure, Result.andThen_ok, run_loadVar_mid w g k 60 (c.map (Value.int .u8)) _ (hg w hw') Tryz.underlying60 rfl (by rw [sz26, List.length_map, hc])]
  rfl
end

/-- The k-th sector of a list of bytes. -/
def secK (fl : List Int) (k : Nat) : List Int := (fl.drop (k * 128)).take 128
theorem secK_len {fl : List Int} {m k : Nat} (hl : fl.length = 128 * m) (hk : k < m) : (secK fl k).length = 128 := by
  unfold secK
  rw [List.length_take, List.length_drop]
  omega
theorem secK_range {w : World} {b o m k : Nat} {fl : List Int} (hl : fl.length = 128 * m) (hk : k < m) (h : ∀ j, j < fl.length → w.cell? ⟨b, o + j, none⟩ = some (.int .u8 (fl.getD j 0))) : w.rangeAt b (o + k * 128) ((secK fl k).map (Value.int .u8)) := by
  intro j x hj
  have hlt : j < 128 := by
    rcases Nat.lt_or_ge j 128 with c | c
    · exact c
    · rw [List.getElem?_eq_none (by rw [List.length_map, secK_len hl hk]; exact c)] at hj; cases hj
  have h1 := h (k * 128 + j) (by omega)
  rw [Nat.add_assoc, h1]
  unfold secK at hj
  simp only [List.getElem?_map, List.getElem?_take, List.getElem?_drop, if_pos hlt] at hj
  rw [List.getElem?_eq_getElem (show k * 128 + j < fl.length by omega)] at hj
  simp only [Option.map_some, Option.some.injEq] at hj
  rw [← hj, List.getD_eq_getElem?_getD, List.getElem?_eq_getElem (show k * 128 + j < fl.length by omega)]
  rfl

theorem bytes_below {w w' : World} {ad : Option Addr} {zs : List Int} (h : BytesAt w ad zs) (hb : Below w.heap.size w w') : BytesAt w' ad zs := by
  rcases h with h | ⟨b, o, rfl, hlt, hc⟩
  · exact .inl h
  · exact .inr ⟨b, o, rfl, by have := hb.size; omega, fun j hj => by rw [hb.cell (p := ⟨b, o + j, none⟩) hlt]; exact hc j hj⟩

theorem bytes_take {w : World} {ad : Option Addr} {zs : List Int} (h : BytesAt w ad zs) (n : Nat) : BytesAt w ad (zs.take n) := by
  rcases h with rfl | ⟨b, o, rfl, hlt, hc⟩
  · exact .inl (by simp)
  · refine .inr ⟨b, o, rfl, hlt, fun j hj => ?_⟩
    rw [List.length_take] at hj
    rw [hc j (by omega)]
    simp [List.getD_eq_getElem?_getD, show j < n by omega]

end Go.Proofs.YtlkmfhpnofpjdaaGreat.D
