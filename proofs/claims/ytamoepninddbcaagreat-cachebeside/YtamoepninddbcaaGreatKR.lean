/-
  The document's cache: an item's content stored; what Put's last loop makes of the edges.
-/
import Derived.Test.YtamoepninddbcaaGreatKN
namespace Go.Proofs.YtamoepninddbcaaGreat
open Go.RowKit

theorem build_cacheK (rd : Nat) (w : World) : (Instr.build 91 #[(0, .pointer (some ⟨rd, 0, none⟩))]).run Tryz.prog w = .ok (.agg #[.pointer (some ⟨rd, 0, none⟩), .slice none 0 0, .slice none 0 0, .slice none 0 0, .bool false]) w := by kernel_rfl
theorem secs_none (d : D.St8) : secs (newZ d).dirty = [] := by
  refine List.eq_nil_iff_forall_not_mem.2 fun x hx => ?_
  have := (secs_mem.1 hx).2
  unfold CSt.dirty newZ at this
  cases this
set_option maxHeartbeats 2000000 in
set_option maxRecDepth 100000 in
theorem rnewC_any {w : World} {rd rk n rc : Nat} {X : Array Value} {d : D.St8} (hd : D.IsQ w rd rk n rc X d) (h0 : 0 ≤ d.wr) (hl : 0 ≤ d.lf ∧ d.lf ≤ 9223372036854775807) : Calls Tryz.prog 19 #[.pointer (some ⟨rd, 0, none⟩)] w fun e w' =>
    ∃ r ρ, e = .returned (.tuple #[.pointer (some ⟨r, 0, none⟩), .int .i64 0]) ∧ IsRC w' r rd n ρ (newZ d) ∧ (∀ k, OwnR ρ k → k = rd ∨ k = rk ∨ w.heap.size ≤ k) ∧ w.heap.size ≤ r ∧ Chg w w' No := by
  have hb := build_cacheK rd
  have HD := hid hd
  have HX := hid (And.intro h0 hl)
  clear hd h0 hl
  go_enter Tryz.func19, Tryz.ntmps19
  go_wp2_with fail
  go_ret2
  have hd := HD.out
  have h1 := D.slt hd.me
  have h2 := D.slt hd.row
  have hne : rd ≠ rk := fun e => hd.ne e
  have hc : Chg w (w.alloc (.cells #[.pointer (some ⟨rd, 0, none⟩), .slice none 0 0, .slice none 0 0, .slice none 0 0, .bool false] 91)) No := Chg.alloc _ _ _
  refine ⟨w.heap.size, fun k => if k = w.heap.size then some .me else if k = rd then some .dk else if k = rk then some .sr else none, rfl, ⟨rk, rc, X, .slice none 0 0, .slice none 0 0, .slice none 0 0, fun _ => .slice none 0 0, [], ?_⟩, ?_, Nat.le_refl _, hc⟩
  · refine ⟨heap_alloc_new _ _, isQ_keep hd hc (fun e => e) (fun e => e), by rw [secs_none]; exact World.ownsRow_nil _ _ _ _, World.ownsRow_nil _ _ _ _, fun x q hx => (by cases hx), World.ownsRow_nil _ _ _ _, List.nodup_nil, fun a b => ⟨fun e => (by cases e), fun e => e.elim⟩,
      if_pos rfl, by rw [if_neg (by omega), if_pos rfl], by rw [if_neg (by omega), if_neg (fun e => hne e.symm), if_pos rfl], fun k hk => (by cases hk), fun k hk => (by cases hk), fun x k hx hk => (by cases hk), fun k hk => (by cases hk), fun k q hk => ?_, newZ_inv hd.top HX.out.1 HX.out.2⟩
    simp only [World.size_alloc]
    split at hk
    · omega
    · split at hk
      · omega
      · split at hk
        · omega
        · cases hk
  · rintro k ⟨q, hk⟩
    simp only at hk
    split at hk
    · rename_i e; exact .inr (.inr (by omega))
    · split at hk
      · rename_i e; exact .inl e
      · split at hk
        · rename_i e; exact .inr (.inl e)
        · cases hk
end Go.Proofs.YtamoepninddbcaaGreat

namespace Go.Proofs.YtamoepninddbcaaGreat
open Go.RowKit

/-- A sector that is dirty from now on, with nothing. -/
def CSt.ins (z : CSt) (x : Int) : CSt := ⟨z.d, z.E, fun y => if y = x then some (D.Zs, []) else z.P y, z.ld, z.lost⟩
theorem ins_dirty {z : CSt} {x : Int} (y : Int) : (z.ins x).dirty y ↔ z.dirty y ∨ y = x := by
  unfold CSt.dirty CSt.ins
  simp only
  by_cases h : y = x
  · rw [if_pos h]; simp [h]
  · rw [if_neg h]; simp [h]
theorem ins_re {z : CSt} {x : Int} {s : List Int} (hx : z.P x = none) : (z.ins x).re x (s, []) = layC z x s [] := by
  unfold CSt.ins CSt.re layC
  simp only
  congr 1
  · funext a b
    simp
  · funext y
    by_cases h : y = x
    · rw [if_pos h, if_pos h, hx]
    · rw [if_neg h, if_neg h, if_neg h]
theorem re_lay {z : CSt} {x : Int} {q : List Int × List Int} {s : List Int} (hx : z.P x = some q) : z.re x (s, q.2) = layC z x s [] := by
  unfold CSt.re layC
  congr 1
  · funext a b
    simp
  · funext y
    by_cases h : y = x
    · rw [if_pos h, if_pos h, hx]
    · rw [if_neg h, if_neg h]
theorem re_twice {z : CSt} {x : Int} {q q' : List Int × List Int} : (z.re x q).re x q' = z.re x q' := by
  unfold CSt.re
  congr 1
  funext y
  simp only
  by_cases h : y = x
  · rw [if_pos h, if_pos h]
  · rw [if_neg h, if_neg h, if_neg h]
section
variable {n : Nat} {z : CSt}
theorem clear_hit {x : Int} {l : List Int} (h : ∃ a, a ∈ l ∧ z.dirty a ∧ a ≠ x ∧ Reach z.E x a) : clearC n z x l = drainC n z x := by unfold clearC; rw [if_pos h]
theorem clear_no {x : Int} {l : List Int} (h : ¬ ∃ a, a ∈ l ∧ z.dirty a ∧ a ≠ x ∧ Reach z.E x a) : clearC n z x l = (z, 0) := by unfold clearC; rw [if_neg h]
/-- One more of those that it is to land behind. -/
theorem clear_step (hi : CInv n z) (x : Int) (L : List Int) (a : Int) (ht : TB z) (hw : z.d.wr < 4611686018427380000) (h0 : (clearC n z x L).2 = 0) :
    (a ≠ x ∧ (clearC n z x L).1.dirty a ∧ Reach (clearC n z x L).1.E x a → (clearC n z x L).1 = z ∧ clearC n z x (L ++ [a]) = drainC n z x) ∧
    (¬ (a ≠ x ∧ (clearC n z x L).1.dirty a ∧ Reach (clearC n z x L).1.E x a) → clearC n z x (L ++ [a]) = ((clearC n z x L).1, 0)) := by
  by_cases hh : ∃ a, a ∈ L ∧ z.dirty a ∧ a ≠ x ∧ Reach z.E x a
  · have hh2 : ∃ b, b ∈ L ++ [a] ∧ z.dirty b ∧ b ≠ x ∧ Reach z.E x b := by
      obtain ⟨b, h1, h2⟩ := hh
      exact ⟨b, List.mem_append_left _ h1, h2⟩
    have hx : z.dirty x := by
      obtain ⟨b, _, _, h1, h2⟩ := hh
      exact reach_dirty hi h2 h1
    have hW := clearC_wrote hi x L ht hw
    have hno : ¬ (a ≠ x ∧ (clearC n z x L).1.dirty a ∧ Reach (clearC n z x L).1.E x a) := by
      rintro ⟨e1, _, e3⟩
      have hL : clearL z x L = befC z x ++ [x] := by unfold clearL; rw [if_pos ⟨hh, hx⟩]
      have hdx := reach_dirty hW.inv e3 e1
      have := ((hW.ok h0).2 x).1 hdx
      rw [hL] at this
      exact this.2 (by simp)
    refine ⟨fun e => absurd e hno, fun _ => ?_⟩
    rw [clear_hit hh2, ← clear_hit hh]
    exact Prod.ext rfl h0
  · rw [clear_no hh]
    refine ⟨fun ⟨e1, e2, e3⟩ => ⟨rfl, clear_hit ⟨a, by simp, e2, e1, e3⟩⟩, fun hn => clear_no ?_⟩
    rintro ⟨b, hb, h1, h2, h3⟩
    rcases List.mem_append.1 hb with hb | hb
    · exact hh ⟨b, hb, h1, h2, h3⟩
    · rw [List.mem_singleton.1 hb] at h1 h2 h3
      exact hn ⟨h2, h1, h3⟩
end
section
variable {w w' : World} {r rd rk n rc : Nat} {X : Array Value} {v0 v1 lv : Value} {tv : Int → Value} {W : List (Int × Int)} {ρ ρ1 : Nat → Option RRole} {z : CSt}
theorem IsRC0.insert (h : IsRC0 w r rd rk n rc X v0 v1 lv tv W ρ z) {x : Int} (hok : 0 ≤ x ∧ x < n) {u0 : Value} (hc : Chg w w' No)
    (hit : w'.ownsRow w.heap.size 109 130 u0 (secs (z.ins x).dirty).length ((secs (z.ins x).dirty).flatMap (itC (z.ins x) fun y => if y = x then .slice none 0 0 else tv y))) : RPost w (w'.setCell ⟨r, 1, none⟩ u0) r rd n ρ (z.ins x) := by
  have hcs : Chg w' (w'.setCell ⟨r, 1, none⟩ u0) (· = r) := Chg.setCell
  have hcb : Chg w (w'.setCell ⟨r, 1, none⟩ u0) (· = r) := hc.trans hcs (fun _ _ e => e.elim) (fun _ _ e => e)
  have hn : ∀ {k : Nat} {q : RRole}, ρ k = some q → q ≠ .me → ¬ k = r := fun hk hq e => ownR_not hk h.rm hq e
  have hb0 : ∀ k, u0.ownBlock = some k → w.heap.size ≤ k ∧ k < w'.heap.size := fun k hk => row_ge hit hk
  have hold : ∀ {k : Nat} {q : RRole}, ρ k = some q → (if u0.ownBlock = some k then some RRole.it else ρ k) = some q := fun {k q} hk => by
    have := h.lt _ _ hk
    rw [if_neg (fun e => by have := (hb0 k e).1; omega)]
    exact hk
  have hlr := h.lt _ _ h.rm
  refine ⟨fun k => if u0.ownBlock = some k then some .it else ρ k, ⟨rk, rc, X, u0, v1, lv, fun y => if y = x then .slice none 0 0 else tv y, W, ?_⟩, ?_, hcb.mono fun k _ e => ⟨.me, by rw [e]; exact h.rm⟩⟩
  · refine ⟨heap_setCell_same w' r 1 _ 91 u0 (hc.keep h.me (fun e => e)), isQ_keep h.dk hcb (hn h.rd_ (by intro e; cases e)) (hn h.rs (by intro e; cases e)), row_low (row_keep hit hcs fun k hk e => by have := (hb0 k hk).1; omega) (Nat.zero_le _), row_keep h.wy hcb fun k hk => hn (h.rw_ k hk) (by intro e; cases e), fun y q hy => ?_, row_keep h.ld hcb fun k hk => hn (h.rl k hk) (by intro e; cases e),
      h.wd, h.we, hold h.rm, hold h.rd_, hold h.rs, fun k hk => if_pos hk, fun k hk => hold (h.rw_ k hk), fun y k hy hk => ?_, fun k hk => hold (h.rl k hk), fun k q hk => ?_, ⟨fun a b e => ?_, fun y hy => ?_, fun y q hy => ?_, h.inv.ring, h.inv.top, h.inv.w0, h.inv.lf⟩⟩
    · unfold CSt.ins at hy
      simp only at hy
      show Ints _ 0 (if y = x then .slice none 0 0 else tv y) q.2
      by_cases e : y = x
      · rw [if_pos e] at hy ⊢
        cases hy
        exact World.ownsRow_nil _ _ _ _
      · rw [if_neg e] at hy ⊢
        exact row_keep (h.tg y q hy) hcb fun k hk => hn (h.rt y k (by unfold CSt.dirty; rw [hy]; rfl) hk) (by intro e; cases e)
    · have hk : (if y = x then Value.slice none 0 0 else tv y).ownBlock = some k := hk
      by_cases e : y = x
      · rw [if_pos e] at hk; cases hk
      · rw [if_neg e] at hk
        exact hold (h.rt y k (((ins_dirty y).1 hy).resolve_right e) hk)
    · by_cases e : u0.ownBlock = some k
      · have := (hb0 k e).2
        have := hcs.size
        omega
      · simp only [if_neg e] at hk
        exact Nat.lt_of_lt_of_le (h.lt _ _ hk) hcb.size
    · have := h.inv.ed a b e
      exact ⟨(ins_dirty a).2 (.inl this.1), (ins_dirty b).2 (.inl this.2)⟩
    · rcases (ins_dirty y).1 hy with e | e
      · exact h.inv.ok y e
      · rw [e]; exact hok
    · unfold CSt.ins at hy
      simp only at hy
      by_cases e : y = x
      · rw [if_pos e] at hy
        cases hy
        exact D.Zs_len
      · rw [if_neg e] at hy
        exact h.inv.ln y q hy
  · rintro k ⟨q, hk⟩
    by_cases e : u0.ownBlock = some k
    · exact .inr (hb0 k e).1
    · simp only [if_neg e] at hk
      exact .inl ⟨q, hk⟩
theorem IsRC0.edged (h : IsRC0 w r rd rk n rc X v0 v1 lv tv W ρ z) {a x : Int} (hne : (a, x) ∉ W) (hinv : CInv n ⟨z.d, addE z.E a x, z.P, z.ld, z.lost⟩) {u1 : Value} (hc : Chg w w' (fun k => v1.ownBlock = some k)) (hi : Edgs w' 0 u1 (W ++ [(a, x)])) (hb : u1.ownBlock = v1.ownBlock ∨ ∀ k, u1.ownBlock = some k → w.heap.size ≤ k) :
    RPost w (w'.setCell ⟨r, 2, none⟩ u1) r rd n ρ ⟨z.d, addE z.E a x, z.P, z.ld, z.lost⟩ := by
  have hcs : Chg w' (w'.setCell ⟨r, 2, none⟩ u1) (· = r) := Chg.setCell
  have hcb : Chg w (w'.setCell ⟨r, 2, none⟩ u1) (fun k => v1.ownBlock = some k ∨ k = r) := hc.trans hcs (fun _ _ e => .inl e) (fun _ _ e => .inr e)
  have hn : ∀ {k : Nat} {q : RRole}, ρ k = some q → q ≠ .wy → q ≠ .me → ¬ (v1.ownBlock = some k ∨ k = r) := fun hk hq hq2 e => e.elim (fun e => by
    have := h.rw_ _ e
    rw [hk] at this
    cases this
    exact hq rfl) (fun e => ownR_not hk h.rm hq2 e)
  have hrw : ¬ v1.ownBlock = some r := fun e => by
    have := h.rw_ _ e
    rw [h.rm] at this
    cases this
  have hold : ∀ {k : Nat} {q : RRole}, ρ k = some q → (if u1.ownBlock = some k then some RRole.wy else ρ k) = some q := fun {k q} hk => by
    by_cases e : u1.ownBlock = some k
    · rw [if_pos e]
      rcases hb with e2 | e2
      · rw [e2] at e
        rw [← h.rw_ k e, hk]
      · have := e2 k e
        have := h.lt _ _ hk
        omega
    · rw [if_neg e]; exact hk
  have hlr := h.lt _ _ h.rm
  have hur : ∀ k, u1.ownBlock = some k → ¬ k = r := fun k hk e => by
    rcases hb with e2 | e2
    · rw [e2, e] at hk; exact hrw hk
    · have := e2 k hk; omega
  refine ⟨fun k => if u1.ownBlock = some k then some .wy else ρ k, ⟨rk, rc, X, v0, u1, lv, tv, W ++ [(a, x)], ?_⟩, ?_, hcb.mono fun k _ e => ?_⟩
  · refine ⟨heap_setCell_same w' r 2 _ 91 u1 (hc.keep h.me hrw), isQ_keep h.dk hcb (hn h.rd_ (by intro e; cases e) (by intro e; cases e)) (hn h.rs (by intro e; cases e) (by intro e; cases e)), row_keep h.it hcb fun k hk => hn (h.ri k hk) (by intro e; cases e) (by intro e; cases e), row_keep hi hcs hur, fun y q hy => row_keep (h.tg y q hy) hcb fun k hk => hn (h.rt y k (by unfold CSt.dirty; rw [show z.P y = some q from hy]; rfl) hk) (by intro e; cases e) (by intro e; cases e), row_keep h.ld hcb fun k hk => hn (h.rl k hk) (by intro e; cases e) (by intro e; cases e),
      ?_, fun p q => ?_, hold h.rm, hold h.rd_, hold h.rs, fun k hk => hold (h.ri k hk), fun k hk => if_pos hk, fun y k hy hk => hold (h.rt y k hy hk), fun k hk => hold (h.rl k hk), fun k q hk => ?_, hinv⟩
    · rw [List.nodup_append]
      exact ⟨h.wd, by simp, fun e he f hf e2 => hne (by rw [List.mem_singleton.1 hf] at e2; rw [← e2]; exact he)⟩
    · rw [List.mem_append, h.we, List.mem_singleton]
      unfold addE
      constructor
      · rintro (e | e)
        · exact .inr e
        · cases e; exact .inl ⟨rfl, rfl⟩
      · rintro (⟨e1, e2⟩ | e)
        · exact .inr (by rw [e1, e2])
        · exact .inl e
    · by_cases e : u1.ownBlock = some k
      · have := (row_ge hi e).2
        have := hcs.size
        omega
      · simp only [if_neg e] at hk
        exact Nat.lt_of_lt_of_le (h.lt _ _ hk) hcb.size
  · rintro k ⟨q, hk⟩
    by_cases e : u1.ownBlock = some k
    · rcases hb with e2 | e2
      · rw [e2] at e
        exact .inl ⟨_, h.rw_ k e⟩
      · exact .inr (e2 k e)
    · simp only [if_neg e] at hk
      exact .inl ⟨q, hk⟩
  · rcases e with e | e
    · exact ⟨_, h.rw_ k e⟩
    · rw [e]; exact ⟨_, h.rm⟩
end
end Go.Proofs.YtamoepninddbcaaGreat

namespace Go.Proofs.YtamoepninddbcaaGreat
open Go.RowKit

theorem Chg.setCells {g : Nat} : ∀ (vs : List Value) (o : Nat) (w : World), Chg w (w.setCells g o vs) (· = g)
  | [], _, _ => Chg.refl _ _
  | v :: vs, o, _ => Chg.trans (Chg.setCell (g := g) (j := o) (v := v)) (Chg.setCells vs (o + 1) _) (fun _ _ e => e) (fun _ _ e => e)
section
variable {ops : Array Oper} {Q : Exit → Act → World → Prop} {S : World → Prop} {fuel : Nat} {listed : Array Bool} {a : Act} {w : World}
theorem stStoreCs (i : Nat) {o : Oper} (hop : ops[i]? = some o) (hd : o.dst = none) (hw : Region.wanted o (yielded ops a.tmps) = true) (x y : Operand) (ho : o.op = .store 47 x y)
    (g off : Nat) (hx : a.eval x = .pointer (some ⟨g, off, none⟩)) (c : List Int) (hy : a.eval y = .agg (D.SA c)) (hc : c.length = 128) (ht : w.there g off 128)
    (h : S (w.setCells g off (c.map (Value.int .u8))) ∧ wpAnyH Tryz.prog .any ops Q S fuel (listed.setIfInBounds i true) a (w.setCells g off (c.map (Value.int .u8)))) : St ops Q S fuel listed a w i := by
  refine wpOp_step hop (fun K hK => ?_)
  rw [if_pos hw]
  refine wp_store_mid 47 x y ho g off (D.SA c) hx hy (by rw [D.SA_size, hc]; exact ht) (by rw [D.sz26, D.SA_size, hc]) (D.SA_one c) ?_
  have e : (D.SA c).toList = c.map (Value.int .u8) := by simp [D.SA]
  rw [e]
  refine hK _ _ ⟨h.1, ?_⟩
  unfold Act.put
  rw [hd]
  exact h.2
end
section
variable {w w' : World} {r rd rk n rc : Nat} {X : Array Value} {v0 v1 lv : Value} {tv : Int → Value} {W : List (Int × Int)} {ρ : Nat → Option RRole} {z : CSt}
theorem IsRC0.there (h : IsRC0 w r rd rk n rc X v0 v1 lv tv W ρ z) {x : Int} {j : Nat} (hj : (secs z.dirty)[j]? = some x) {g m cp : Nat} (hv : v0 = .slice (some ⟨g, 0, none⟩) m cp) : w.there g (j * 130 + 1) 128 := by
  obtain ⟨g9, cp9, e1, ⟨A, hA⟩, _, e3⟩ := h.item hj
  rw [hv] at e1
  cases e1
  intro i hi
  refine ⟨?_, frozen_of_row _ _ _ _ _ hA⟩
  rw [show j * 130 + 1 + i = j * 130 + (1 + i) by omega, e3 (1 + i) (by omega), List.getElem?_eq_getElem (by rw [itC_len h.inv]; omega)]
  rfl
theorem IsRC0.resec (h : IsRC0 w r rd rk n rc X v0 v1 lv tv W ρ z) {x : Int} {j : Nat} (hj : (secs z.dirty)[j]? = some x) {q : List Int × List Int} (hq : z.P x = some q) {s : List Int} (hs : s.length = 128) {g m cp : Nat} (hv : v0 = .slice (some ⟨g, 0, none⟩) m cp) :
    RPost w (w.setCells g (j * 130 + 1) (s.map (Value.int .u8))) r rd n ρ (z.re x (s, q.2)) := by
  have hq1 := h.inv.ln x q hq
  have hcg : Chg w (w.setCells g (j * 130 + 1) (s.map (Value.int .u8))) (· = g) := Chg.setCells _ _ _
  have hvb : v0.ownBlock = some g := by rw [hv]; rfl
  refine h.reitem hq (v6 := tv x) (hcg.mono fun k _ e => .inr (by rw [e]; exact hvb)) ?_ (row_keep (h.tg x q hq) hcg fun k hk e => ?_) (.inl rfl) hs
  · have hit := h.it
    obtain ⟨a9, c9, h9⟩ := row_shK hit
    rw [hv] at h9
    have e2 : m = (secs z.dirty).length := (Value.slice.inj h9).2.1
    rw [hv, e2] at hit
    rw [hv, e2]
    have h1 := row_cellsK (s.map (Value.int .u8)) (j * 130 + 1) _ w hit
    rw [flat_ovrK 130 (secs_nodup _) hj _ _ 1 (itC_len h.inv) (by rw [List.length_map, hs]; decide)] at h1
    have e : ((secs z.dirty).flatMap fun y => if y = x then ovrK (itC z tv y) 1 (s.map (Value.int .u8)) else itC z tv y) = (secs z.dirty).flatMap (itC (z.re x (s, q.2)) fun y => if y = x then tv x else tv y) := by
      rw [List.flatMap_def, List.flatMap_def]
      refine congrArg List.flatten (List.map_congr_left fun y _ => ?_)
      by_cases hy : y = x
      · subst hy
        rw [if_pos rfl, itC_is hq]
        have h2 := ovrK_at (s.map (Value.int .u8)) [.int .i64 y] (q.1.map (Value.int .u8)) [tv y] (by rw [List.length_map, List.length_map, hq1, hs])
        unfold itC CSt.re
        simp only [if_true]
        exact h2
      · rw [if_neg hy]
        unfold itC CSt.re
        simp only [if_neg hy]
    rw [e] at h1
    exact h1
  · have h1 := h.rt x k (by unfold CSt.dirty; rw [hq]; rfl) hk
    rw [e, h.ri g hvb] at h1
    cases h1
end
theorem lat_at {w : World} {a : Option Addr} {l : List Int} (h : LAt w a l) {i : Nat} (hi : i < l.length) : ∃ g, a = some ⟨g, 0, none⟩ ∧ g < w.heap.size ∧ w.cell? ⟨g, i, none⟩ = some (.int .i64 (l.getD i 0)) := by
  rcases h with e | ⟨g, e, hg, hc⟩
  · rw [e] at hi; exact absurd hi (Nat.not_lt_zero _)
  · exact ⟨g, e, hg, hc i hi⟩
noncomputable def layS (z : CSt) (x : Int) (s : List Int) (L : List Int) : CSt := layC z x s (dofC z L x)
theorem layC_ext {z : CSt} {x : Int} {s m m' : List Int} (h : ∀ a b, ((b = x ∧ a ∈ m) ∨ z.E a b) ↔ ((b = x ∧ a ∈ m') ∨ z.E a b)) : layC z x s m = layC z x s m' := by
  unfold layC
  rw [show (fun a b => (b = x ∧ a ∈ m) ∨ z.E a b) = fun a b => (b = x ∧ a ∈ m') ∨ z.E a b from funext fun a => funext fun b => propext (h a b)]
theorem layC_add {z : CSt} {x y : Int} {s m m' : List Int} (h : ∀ a b, ((b = x ∧ a ∈ m) ∨ z.E a b) ↔ ((a = y ∧ b = x) ∨ ((b = x ∧ a ∈ m') ∨ z.E a b))) : layC z x s m = ⟨(layC z x s m').d, addE (layC z x s m').E y x, (layC z x s m').P, (layC z x s m').ld, (layC z x s m').lost⟩ := by
  unfold layC addE
  simp only
  rw [show (fun a b => (b = x ∧ a ∈ m) ∨ z.E a b) = fun a b => (a = y ∧ b = x) ∨ ((b = x ∧ a ∈ m') ∨ z.E a b) from funext fun a => funext fun b => propext (h a b)]
theorem layS_nil {n : Nat} {z : CSt} (hi : CInv n z) (x : Int) (s : List Int) : layS z x s [] = layC z x s [] :=
  layC_ext fun a b => by
    simp only [dofC_mem hi, List.not_mem_nil, false_and, and_false]
theorem layS_same {n : Nat} {z : CSt} (hi : CInv n z) {x y : Int} {s L : List Int} (h : ¬ (y ≠ x ∧ z.dirty y) ∨ (layS z x s L).E y x) : layS z x s (L ++ [y]) = layS z x s L := by
  have h' : ¬ (y ≠ x ∧ z.dirty y) ∨ ((x = x ∧ y ∈ dofC z L x) ∨ z.E y x) := h
  rw [dofC_mem hi] at h'
  refine layC_ext fun a b => ?_
  simp only [dofC_mem hi, List.mem_append, List.mem_singleton]
  constructor
  · rintro (⟨e1, (e2 | e2), e3⟩ | e)
    · exact .inl ⟨e1, e2, e3⟩
    · subst e1 e2
      rcases h' with c | ⟨_, c⟩ | c
      · exact absurd ⟨e3.2, e3.1⟩ c
      · exact .inl ⟨rfl, c⟩
      · exact .inr c
    · exact .inr e
  · rintro (⟨e1, e2, e3⟩ | e)
    · exact .inl ⟨e1, .inl e2, e3⟩
    · exact .inr e
theorem layS_more {n : Nat} {z : CSt} (hi : CInv n z) {x y : Int} {s L : List Int} (h : y ≠ x ∧ z.dirty y) : layS z x s (L ++ [y]) = ⟨(layS z x s L).d, addE (layS z x s L).E y x, (layS z x s L).P, (layS z x s L).ld, (layS z x s L).lost⟩ := by
  refine layC_add fun a b => ?_
  simp only [dofC_mem hi, List.mem_append, List.mem_singleton]
  constructor
  · rintro (⟨e1, (e2 | e2), e3⟩ | e)
    · exact .inr (.inl ⟨e1, e2, e3⟩)
    · exact .inl ⟨e2, e1⟩
    · exact .inr (.inr e)
  · rintro (⟨e1, e2⟩ | ⟨e1, e2, e3⟩ | e)
    · subst e1 e2
      exact .inl ⟨rfl, .inr rfl, h.2, h.1⟩
    · exact .inl ⟨e1, .inl e2, e3⟩
    · exact .inr e
theorem layS_inv {n : Nat} {z : CSt} (hi : CInv n z) {x : Int} {s l L : List Int} (hx : 0 ≤ x ∧ x < n) (hs : s.length = 128) (hl : Lay n z x (dofC z l x)) (hL : ∀ a, a ∈ L → a ∈ l) : CInv n (layS z x s L) := by
  refine layC_inv hi hx hs ⟨fun a ha => ?_, fun a ha => ?_⟩
  · exact ((dofC_mem hi).1 ha).2
  · have := (dofC_mem hi).1 ha
    exact hl.no a ((dofC_mem hi).2 ⟨hL a this.1, this.2⟩)
theorem layS_dirty {z : CSt} {x y : Int} {s L : List Int} (h : y ≠ x) : (layS z x s L).dirty y ↔ z.dirty y := by
  unfold layS
  rw [layC_dirty]
  exact ⟨fun e => e.resolve_right h, .inl⟩
end Go.Proofs.YtamoepninddbcaaGreat
