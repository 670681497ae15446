/-
 layout.InodeSector returns an inode's sector if it may be, else the error.
-/
import Derived.Test.YtpmignilhoihnabGreatLI1
import Derived.Maps.AppendAt
namespace Go.Proofs.YtpmignilhoihnabGreat
open Go.RowKit

def pls : List (Int × Int) := [(0, 1), (1, 1), (4, 4), (8, 8), (16, 4), (20, 4), (24, 4), (28, 4), (32, 4), (36, 4), (40, 4), (44, 4), (48, 4), (52, 4), (56, 4), (60, 4), (64, 4), (68, 4)]
def numI (z : List Int) (m : Nat) : Num := ((pls.getD m (0, 0)).1, (pls.getD m (0, 0)).2, z.getD m 0)
def numsIno (z : List Int) (n : Nat) : List Num := (List.range n).map (numI z)
theorem numsIno_len (z : List Int) (n : Nat) : (numsIno z n).length = n := by simp [numsIno]
theorem numsIno_succ (z : List Int) (n : Nat) : numsIno z (n + 1) = numsIno z n ++ [numI z n] := by simp [numsIno, List.range_succ]
theorem fld_pls {j : Nat} {f : Fld} (h : flds[j]? = some f) : (∀ i, i < f.ct → pls.getD (base j + i) (0, 0) = (f.pl + (i : Int) * f.wd, f.wd)) ∧ 0 ≤ f.pl ∧ f.pl ≤ 1000 ∧ (∀ i : Nat, i < f.ct → 0 ≤ (i : Int) * f.wd ∧ (i : Int) * f.wd ≤ 1000) := by
 have hj := fld_cases h
 match j, hj, h with
 | 0, _, h | 1, _, h | 2, _, h | 3, _, h | 4, _, h | 5, _, h | 6, _, h => cases h; decide
theorem fld_num {j : Nat} {f : Fld} (h : flds[j]? = some f) (z : List Int) {i : Nat} (hi : i < f.ct) : numI z (base j + i) = (f.pl + (i : Int) * f.wd, f.wd, z.getD (base j + i) 0) := by
 unfold numI;rw [(fld_pls h).1 i hi]
theorem pls_ok : ∀ m, m < 18 → inB (pls.getD m (0, 0)).1 (pls.getD m (0, 0)).2 = true ∧ most.getD m 0 ≤ top ∧ most.getD m 0 < pw (pls.getD m (0, 0)).2 ∧ 0 ≤ most.getD m 0 := by decide
theorem ino_le {z : List Int} (h : inoB z = true) (m : Nat) (hm : m < 18) : 0 ≤ z.getD m 0 ∧ z.getD m 0 ≤ most.getD m 0 := by
 unfold inoB at h
 split at h
 ·have e := of_decide_eq_true h
  subst e
  have e0 : Zi.getD m 0 = 0 := by simp only [Zi, List.getD_eq_getElem?_getD, List.getElem?_replicate]; split <;> rfl
  rw [e0]
  exact ⟨Int.le_refl _, (pls_ok m hm).2.2.2⟩
 ·rw [Bool.and_eq_true] at h
  exact allB_of h.1 m hm
theorem ino_ok {z : List Int} (h : inoB z = true) : ∀ n ∈ numsIno z 18, okN n := by
 intro n hn
 obtain ⟨m, hm, rfl⟩ := List.mem_map.1 hn;have hm' := List.mem_range.1 hm;have hp := pls_ok m hm';have hz := ino_le h m hm'
 exact ⟨hp.1, fitB_true ⟨hz.1, Int.le_trans hz.2 hp.2.1, Int.lt_of_le_of_lt hz.2 hp.2.2.1⟩⟩

def NOwn (w : World) (B : Nat) (v : Value) (l : List Num) : Prop := w.ownsRow B 128 3 v l.length (cellsN l)
theorem NOwn.keep {w w' : World} {B : Nat} {v : Value} {l : List Num} (h : NOwn w B v l) (hk : ∀ g, v.ownBlock = some g → w'.heap[g]? = w.heap[g]?) : NOwn w' B v l := by
 refine ⟨h.1, ?_⟩
 rcases h.2 with h | ⟨g, cap, cur, rfl, r1, r2, r3⟩
 ·exact .inl h
 ·exact .inr ⟨g, cap, cur, rfl, r1, by rw [hk g rfl]; exact r2, r3⟩
theorem NOwn.lt {w : World} {B : Nat} {v : Value} {l : List Num} (h : NOwn w B v l) {g : Nat} (hg : v.ownBlock = some g) : B ≤ g ∧ g < w.heap.size := by
 rcases h.2 with h | ⟨g', cap, cur, rfl, r1, r2, r3⟩
 ·rw [h.1] at hg; cases hg
 ·cases hg; exact ⟨r1, slt r2⟩
theorem NOwn.at {w : World} {B : Nat} {v : Value} {l : List Num} (h : NOwn w B v l) (hl : 0 < l.length) : ∃ g cap, v = .slice (some ⟨g, 0, none⟩) l.length cap ∧ NumsAt w g l := by
 have hc := fun {g} (hg : v.ownBlock = some g) => World.ownsRow.cells h hg
 rcases h.2 with h' | ⟨g', cap, cur, rfl, r1, r2, r3⟩
 ·omega
 ·refine ⟨g', cap, rfl, slt r2, fun j u hj => ?_⟩
  have := hc rfl j u hj;rw [addr_add, Nat.zero_add] at this
  exact this
theorem infoN : ∃ i, Tryz.prog.info? 128 = some i ∧ i.zero = some (.agg #[.int .i64 0, .int .i64 0, .int .i64 0]) ∧ i.size = 3 ∧ i.bytes = 24 := by
 have h : (Tryz.prog.info? 128).map (fun i => (i.zero, i.size, i.bytes)) = some (some (.agg #[.int .i64 0, .int .i64 0, .int .i64 0]), 3, 24) := by kernel_rfl
 cases hq : Tryz.prog.info? 128 with
 | none => rw [hq] at h; cases h
 | some i =>
  rw [hq] at h
  simp at h
  exact ⟨i, rfl, h.1, h.2.1, h.2.2⟩
theorem run_appN {w : World} {B b ca : Nat} {v : Value} {l : List Num} (y : Num) (ty : TypeId) (hown : NOwn w B v l) (hb : w.heap[b]? = some (.cells (cellsN [y]).toArray 128 (0, 0))) (hl : l.length ≤ 1000) (hbase : B ≤ w.heap.size) :
  ∃ v' w', (Builtin.append_ #[126, 126] ty #[v, .slice (some ⟨b, 0, none⟩) 1 ca]).run Tryz.prog w = .ok v' w' ∧ NOwn w' B v' (l ++ [y]) ∧ w.grownBy w' v.ownBlock ∧ (v'.ownBlock = v.ownBlock ∨ v'.ownBlock = some w.heap.size) := by
 obtain ⟨i, hi, hz, hsz, hby⟩ := infoN
 obtain ⟨v', w', hr, h2, h3, _, h5⟩ := run_append_own_at (P := Tryz.prog) w B 126 ty 128 i _ 3 24 Tryz.underlying126 hi hz hsz hby rfl (by decide) v l.length (cellsN l) hown ⟨b, 0, none⟩ 1 ca (cellsN [y]) rfl (fun j u hj => by
   rw [addr_add, Nat.zero_add, cell_of_row _ _ _ _ _ _ hb]
   simpa using hj) (cellsN_one [y]) (by unfold maxLen; omega) (by omega) hbase
 refine ⟨v', w', hr, ?_, h3, h5⟩;unfold NOwn;rw [cellsN_append, List.length_append]
 exact h2
section
variable {ops : Array Oper} {rest : List Oper} {o : Oper} {a : Act} {Q : Exit → Act → World → Prop} {w : World} {S : World → Prop} {fuel : Nat} {listed : Array Bool}
theorem wp_appN (hg : o.guard = none) (s x : Operand) (hop : o.op = .call { callee := .builtin .append, args := #[s, x], argTypes := #[126, 126] }) (B b ca : Nat) (v : Value) (l : List Num) (y : Num) (hs : a.eval s = v) (hx : a.eval x = .slice (some ⟨b, 0, none⟩) 1 ca)
  (hown : NOwn w B v l) (hb : w.heap[b]? = some (.cells (cellsN [y]).toArray 128 (0, 0))) (hl : l.length ≤ 1000) (hbase : B ≤ w.heap.size)
  (hK : ∀ v' w', NOwn w' B v' (l ++ [y]) → w.grownBy w' v.ownBlock → (v'.ownBlock = v.ownBlock ∨ v'.ownBlock = some w.heap.size) → wpList Tryz.prog ops Q rest (a.put o.dst v') w') : wpList Tryz.prog ops Q (o :: rest) a w := by
 obtain ⟨v', w', hr, h2, h3, h4⟩ := run_appN y o.type hown hb hl hbase (ca := ca)
 refine wpList_plain hg fun K' hK' => ?_
 unfold Oper.wp execOp
 simp only [hop, resolve, invoke, builtin, Sem.run_bind, Sem.run_pure, Result.andThen_ok, List.map_toArray, List.map_cons, List.map_nil, hs, hx, hr]
 exact hK' _ _ (hK v' w' h2 h3 h4)
theorem stAppN (i d : Nat) {o : Oper} (hop : ops[i]? = some o) (hd : o.dst = some d) (hw : Region.wanted o (yielded ops a.tmps) = true) (s x : Operand)
  (ho : o.op = .call { callee := .builtin .append, args := #[s, x], argTypes := #[126, 126] }) (B b ca : Nat) (v : Value) (l : List Num) (y : Num) (hs : a.eval s = v) (hx : a.eval x = .slice (some ⟨b, 0, none⟩) 1 ca)
  (hown : NOwn w B v l) (hb : w.heap[b]? = some (.cells (cellsN [y]).toArray 128 (0, 0))) (hl : l.length ≤ 1000) (hbase : B ≤ w.heap.size)
  (h : ∀ v' w', NOwn w' B v' (l ++ [y]) → w.grownBy w' v.ownBlock → (v'.ownBlock = v.ownBlock ∨ v'.ownBlock = some w.heap.size) →
   S w' ∧ wpAnyH Tryz.prog .any ops Q S fuel (listed.setIfInBounds i true) { a with tmps := a.tmps.setIfInBounds d v' } w') : St ops Q S fuel listed a w i := by
 obtain ⟨v', w', hr, h2, h3, h4⟩ := run_appN y o.type hown hb hl hbase (ca := ca);have hh := h v' w' h2 h3 h4;refine wpOp_step hop (fun K hK => ?_);rw [if_pos hw];unfold Oper.wp execOp
 simp only [ho, resolve, invoke, builtin, Sem.run_bind, Sem.run_pure, Result.andThen_ok, List.map_toArray, List.map_cons, List.map_nil, hs, hx, hr]
 refine hK _ _ ⟨hh.1, ?_⟩;unfold Act.put;rw [hd]
 exact hh.2
end
def Z96 : List Int := List.replicate 96 0
theorem make_nums (w : World) : (Instr.makeSlice 126 (.int .i64 0) (.int .i64 32)).run Tryz.prog w = .ok (.slice (some ⟨w.heap.size, 0, none⟩) 0 32) (w.alloc (.cells (NA Z96) 128)) := by kernel_rfl

def inoS (z : List Int) : List Int := if inoB z = true then layS (numsIno z 18) else Zs
def inoE (z : List Int) : Int := if inoB z = true then 0 else 61
theorem inoS_sec (z : List Int) : IsSec (inoS z) := by
 unfold inoS; split
 ·exact layS_sec _
 ·exact Zs_sec

set_option maxRecDepth 100000 in
set_option maxHeartbeats 1000000 in
theorem inodeSector_bad (z : List Int) (hz : z.length = 18) (w : World) (h : inoB z = false) :
  Calls Tryz.prog 38 #[.agg (NA z)] w fun e w' => e = .returned (.tuple #[.agg (SA Zs), .int .i64 61]) ∧ Below w.heap.size w w' := by
 have hm := fun w' => inodeMayBe_any z hz w'
 rw [h] at hm;have hzz := zero_sec;have hbs := build_sec;have HG1 : Hid (((w.alloc (.cells (NA z) 39)).alloc (.cells (SA Zs) 36)).heap[w.heap.size]? = some (.cells (NA z) 39 (0, 0))) := heap_alloc2_old w _ _;have HZ : Hid (((w.alloc (.cells (NA z) 39)).alloc (.cells (SA Zs) 36)).heap[w.heap.size + 1]? = some (.cells (SA Zs) 36 (0, 0))) := heap_alloc2_new w _ _;have hb : Below w.heap.size w ((w.alloc (.cells (NA z) 39)).alloc (.cells (SA Zs) 36)) := ((Below.refl _ _).alloc (Nat.le_refl _) _).alloc (by simp) _
 have hsz : ((w.alloc (.cells (NA z) 39)).alloc (.cells (SA Zs) 36)).heap.size = w.heap.size + 2 := by simp
 go_enter Tryz.func38, Tryz.ntmps38
 go_wp2_with (first | refine load_R rfl 39 (.tmp 1) rfl w.heap.size rfl 39 _ _ HG1.out Tryz.underlying39 rfl (by rw [szI, NA_size, hz]) ?_ | (go_at_call 68; refine (hm _).mono ?_; rintro e w2 ⟨rfl, hb2⟩; have HZ2 : Hid (w2.heap[w.heap.size + 1]? = some (.cells (SA Zs) 36 (0, 0))) := by { show _ = _; rw [hb2.block _ (by omega)]; exact HZ.out }) | (refine store_sec rfl (.tmp 2) _ rfl (w.heap.size + 1) rfl Zs rfl Zs_len Zs Zs_len HZ2.out ?_; intro w3 hw3))
 exact bodyPost_ret (v := .tuple #[.agg (SA Zs), .int .i64 61]) (results_sec Tryz.results38 _ _ (w.heap.size + 1) Zs Zs_len _ rfl rfl hw3.here) rfl ⟨rfl, hw3.below (btr hb hb2 (by omega)) (by omega)⟩

structure IRun (w : World) (z : List Int) (bf n : Nat) (v : Value) (wr : World) : Prop where
 i : wr.heap[w.heap.size]? = some (.cells (NA z) 39 (0, 0))
 a : wr.heap[w.heap.size + 1]? = some (.cells (SA Zs) 36 (0, 0))
 t : FldsAt wr bf
 o : NOwn wr (w.heap.size + 2) v (numsIno z n)
 b : Below w.heap.size w wr
 q : ¬ v.ownBlock = some bf
 l : w.heap.size + 2 ≤ bf
theorem IRun.call {w wr w' : World} {z : List Int} {bf n : Nat} {v : Value} (h : IRun w z bf n v wr) (hb : Below wr.heap.size wr w') : IRun w z bf n v w' := by
 have s1 := slt h.i;have s2 := slt h.a;have s3 := slt h.t;have := h.b.size
 exact ⟨by rw [hb.block _ s1]; exact h.i, by rw [hb.block _ s2]; exact h.a, by show _ = _; rw [hb.block _ s3]; exact h.t, h.o.keep fun g hg => hb.block _ (h.o.lt hg).2, btr h.b hb (by omega), h.q, h.l⟩
theorem IRun.put {w wr w' : World} {z : List Int} {bf n : Nat} {v : Value} {c0 c : Array Value} {t : TypeId} (h : IRun w z bf n v wr) (hp : PutR (wr.alloc (.cells c0 t)) wr.heap.size c t w') : IRun w z bf n v w' :=
 h.call (hp.below ((Below.refl _ _).alloc (Nat.le_refl _) _) (Nat.le_refl _))
theorem IRun.app {w wr w' : World} {z : List Int} {bf n : Nat} {v v' : Value} {y : Num} (h : IRun w z bf n v wr) (hg : wr.grownBy w' v.ownBlock) (ho : NOwn w' (w.heap.size + 2) v' (numsIno z n ++ [y])) (hy : y = numI z n) (hv : v'.ownBlock = v.ownBlock ∨ v'.ownBlock = some wr.heap.size) : IRun w z bf (n + 1) v' w' := by
 have s1 := slt h.i;have s2 := slt h.a;have s3 := slt h.t
 have hne : ∀ k, k < w.heap.size + 2 → some k ≠ v.ownBlock := fun k hk e => by have := (h.o.lt e.symm).1; omega
 refine ⟨by rw [hg.block _ s1 (hne _ (by omega))]; exact h.i, by rw [hg.block _ s2 (hne _ (by omega))]; exact h.a, by show _ = _; rw [hg.block _ s3 (fun e => h.q e.symm)]; exact h.t, ?_, ?_, ?_, h.l⟩
 ·rw [numsIno_succ, ← hy]; exact ho
 ·exact h.b.trans ⟨hg.os, hg.tape, hg.output, hg.size, fun k hk => hg.block k (by have := h.b.size; omega) (hne k (by omega))⟩
 ·intro e
  rcases hv with k | k
  ·exact h.q (by rw [← k]; exact e)
  ·rw [k] at e; cases e; omega

end Go.Proofs.YtpmignilhoihnabGreat
