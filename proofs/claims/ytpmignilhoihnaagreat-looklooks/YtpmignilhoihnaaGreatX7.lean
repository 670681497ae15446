/-
 The sectors that are to be others: looking.write.
-/
import Derived.Test.YtpmignilhoihnaaGreatX1
import Derived.Test.YtpmignilhoihnaaGreatShelfG
namespace Go.Proofs.YtpmignilhoihnaaGreat
open Go.RowKit Go.Shelf

theorem IsL.laid {w w' : World} {c : LC} {s : LS} {T : Img} (h : IsL w c s) (hw : WtAt w' c.b.wb T) (hl : T.length = c.N) (hc : Chg w w' (· = c.b.wb)) : IsL w' c { s with wt := T } ∧ Chg w w' (Kl c w) := by
 obtain ⟨es, ck, hm⟩ := h.v.k.cl.isMap;obtain ⟨es2, ck2, hm2⟩ := h.v.v.isMap;obtain ⟨B, hB⟩ := h.v.k.wt.isRow;have n1 : ¬ c.b.p = c.b.wb := obj_ne h.v.p.me hB (by intro e; cases e);have n2 : ¬ c.b.cb = c.b.wb := obj_ne hm hB (by intro e; cases e);have n3 : ¬ c.b.vb = c.b.wb := obj_ne hm2 hB (by intro e; cases e)
 have hP := h.v.p.keep hc n1 (fun _ e => e ▸ h.v.p.b0)
 exact h.wipes ⟨hP, ⟨hw, hl, h.v.k.cl.keep hc n2, h.v.k.ck⟩, h.v.v.keep hc n3, h.v.vk⟩ (hc.mono fun _ _ e => .inl e)
theorem layK_len (tk : Int → Option (List Int)) (wt : Img) : ∀ k, (layK tk wt k).length = wt.length
 | 0 => rfl
 | k + 1 => by rw [layK, List.length_set]; exact layK_len tk wt k

set_option maxRecDepth 100000 in
set_option maxHeartbeats 1000000 in
theorem layInodes_any {c : LC} {s : LS} (w : World) (h : IsL w c s) (hk : TkOk c s.tk) :
  Calls Tryz.prog 26 #[LP c] w fun e w' => e = .returned (.tuple #[]) ∧ IsL w' c { s with wt := layK s.tk s.wt c.M } ∧ Chg w w' (Kl c w) := by
 have HK := hid hk;have HM2 := hid h.v.p.m2;have HN2 := hid h.v.p.n2;have HM1 := hid h.v.p.m1;have G0 : Hid (IsL w c { s with wt := layK s.tk s.wt 0 }) := hid h;obtain ⟨m, hm⟩ : ∃ y, y = c.M := ⟨_, rfl⟩;have HMm := hid hm;rw [← hm] at HM2 HM1 ⊢;clear h hk hm;unfold LP
 go_enter Tryz.func26, Tryz.ntmps26
 go_wp2_with fail
 go_loopw [2] (fun i wr => ∃ k : Nat, k ≤ m ∧ i = .int .i64 ((k : Int) + 1) ∧ Hid (IsL wr c { s with wt := layK s.tk s.wt k }) ∧ Hid (Chg w wr (Kl c w))) (fun i _ => m + 1 - (intOf i).toNat)
 case atStart => exact ⟨0, by omega, rfl, G0, hid (Chg.refl _ _)⟩
 case round =>
  obtain ⟨k, hk, rfl, HL, HC⟩ := hrel;have c1 := HL.out.v.p.c1;rw [← HMm.out] at c1;have hN := HN2.out;have hM := HM2.out
  by_cases hlt : k < m
  ·have i0 : (0 : Int) ≤ (k : Int) + 1 := by omega
   have i1 : (k : Int) + 1 ≤ (m : Int) := by omega
   have i2 : (k : Int) + 1 < (c.N : Int) := by omega
   go_upto_region 3 with fail
   obtain ⟨z, hz⟩ : ∃ y, y = (s.tk ((k : Int) + 1)).getD Zi := ⟨_, rfl⟩;have HZ := hid hz
   have HZL : Hid (z.length = 18) := hid (by
    rw [hz]
    cases ht : s.tk ((k : Int) + 1) with
    | none => exact Zi_len
    | some y => exact (HK.out _ y ht).2.2.1)
   clear hz;obtain ⟨B, hB⟩ := HL.out.v.k.wt.isRow;have n1 : ¬ c.b.p = c.b.wb := obj_ne HL.out.v.p.me hB (by intro e; cases e);obtain ⟨es, ck, hmt⟩ := HL.out.t.isMap;have n2 : ¬ c.b.tb = c.b.wb := obj_ne hmt hB (by intro e; cases e)
   have hP3 := fun (W : World) (hW : Chg wr W (· = c.b.wb)) => (HL.out.v.p.keep hW n1 (fun _ e => e ▸ HL.out.v.p.b0)).c3
   have hP6 := fun (W : World) (hW : Chg wr W (· = c.b.wb)) => (HL.out.v.p.keep hW n1 (fun _ e => e ▸ HL.out.v.p.b0)).c6
   have hLk := fun (W : World) (hW : Chg wr W (· = c.b.wb)) => (HL.out.t.keep hW n2).look (x := (k : Int) + 1) ⟨by omega, by omega⟩
   have hLz : (match ((s.tk ((k : Int) + 1)).map fun z => Value.agg (NA z)) with | some v => v | none => .agg (NA Zi)) = .agg (NA z) := by
    rw [HZ.out]
    cases s.tk ((k : Int) + 1) <;> rfl
   refine wp_region_noPanic ?_;refine wp_region_held_drew (S := fun w' => Chg wr w' (· = c.b.wb)) (by kernel_rfl) (Chg.refl _ _).drew (fun hH => ?_);refine tV 0 13 (.pointer (some ⟨c.b.p, 0, none⟩)) rfl (by kernel_rfl) rfl (by rfl) hH (fun W' hw' => rfl) ?_;simp only [sS];refine tV 1 14 (.pointer (some ⟨c.b.p, 0, none⟩)) rfl (by kernel_rfl) rfl (by rfl) hH (fun W' hw' => by go_simp) ?_;simp only [sS];refine tV 2 15 (.pointer (some ⟨c.b.p, 3, none⟩)) rfl (by kernel_rfl) rfl (by rfl) hH (fun W' hw' => by go_simp) ?_;simp only [sS];refine tV 3 16 (.slice (some ⟨c.b.wb, 0, none⟩) c.N c.wc) rfl (by kernel_rfl) rfl (by rfl) hH (fun W' hw' => by have hc := hP3 W' hw'; clear hP3 hP6 hLk; go_simp) ?_;simp only [sS];refine tV 4 17 (.int .i64 ((k : Int) + 1)) rfl (by kernel_rfl) rfl (by rfl) hH (fun W' hw' => rfl) ?_;simp only [sS];refine tV 5 18 (.pointer (some ⟨c.b.p, 0, none⟩)) rfl (by kernel_rfl) rfl (by rfl) hH (fun W' hw' => rfl) ?_;simp only [sS];refine tV 6 19 (.pointer (some ⟨c.b.p, 0, none⟩)) rfl (by kernel_rfl) rfl (by rfl) hH (fun W' hw' => by go_simp) ?_;simp only [sS];refine tV 7 20 (.pointer (some ⟨c.b.p, 6, none⟩)) rfl (by kernel_rfl) rfl (by rfl) hH (fun W' hw' => by go_simp) ?_;simp only [sS];refine tV 8 21 (.map (some c.b.tb)) rfl (by kernel_rfl) rfl (by rfl) hH (fun W' hw' => by have hc := hP6 W' hw'; clear hP3 hP6 hLk; go_simp) ?_;simp only [sS];refine tV 9 22 (.int .i64 ((k : Int) + 1)) rfl (by kernel_rfl) rfl (by rfl) hH (fun W' hw' => rfl) ?_;simp only [sS];refine tV 10 23 (.agg (NA z)) rfl (by kernel_rfl) rfl (by rfl) hH (fun W' hw' => by have hc := (hLk W' hw').trans (congrArg (Result.ok · W') hLz); simp [execOp, Act.eval, hc, Result.andThen]) ?_;simp only [sS];refine step1 11 (by kernel_rfl) ?_;refine stCall 11 24 47 #[.agg (NA z)] _ rfl rfl (by rfl) (by clear hP3 hP6 hLk; go_simp) (inodeSector_any z HZL.out _) ?_
   rintro e w5 ⟨rfl, hb5⟩
   have hc5n : Chg wr w5 No := ((Chg.refl wr No).drew).trans (Chg.of_below hb5 No) (fun _ _ e => e) (fun _ _ e => e)
   have hc5 : Chg wr w5 (· = c.b.wb) := hc5n.mono fun _ _ e => e.elim
   have HL5 := hid (HL.out.call hc5n);clear hP3 hP6 hLk hLz hb5;refine ⟨_, rfl, hc5, ?_⟩;simp only [sS];refine tV 12 12 (.tuple #[.agg (SA (inoS z)), .int .i64 (inoE z)]) rfl (by kernel_rfl) rfl (by rfl) hc5 (fun W' hw' => rfl) ?_;simp only [sS];refine tV 13 25 (.agg (SA (inoS z))) rfl (by kernel_rfl) rfl (by rfl) hc5 (fun W' hw' => by go_simp) ?_;simp only [sS];refine tV 14 26 (.int .i64 (inoE z)) rfl (by kernel_rfl) rfl (by rfl) hc5 (fun W' hw' => by go_simp) ?_;simp only [sS];refine tV 15 27 (.pointer (some ⟨c.b.wb, (k + 1) * 128, none⟩)) rfl (by kernel_rfl) rfl (by rfl) hc5 (fun W' hw' => by go_simp) ?_;simp only [sS];refine step1 16 (by kernel_rfl) ?_;refine stStoreW 16 (.tmp 27) (.tmp 25) c.b.wb (k + 1) (inoS z) (layK s.tk s.wt k) rfl rfl (by rfl) rfl rfl rfl (inoS_sec z) HL5.out.v.k.wt (by rw [HL5.out.v.k.wl]; omega) ?_
   intro w6 hw6 hc6 hz6
   refine ⟨hc5.trans hc6 (fun _ _ e => e) (fun _ _ e => e), ?_⟩;refine wpAnyH_done (by kernel_rfl) ?_ _;refine NoPanic.normal ?_;obtain ⟨hL6, hK6⟩ := HL5.out.laid hw6 (by rw [List.length_set]; exact HL5.out.v.k.wl) hc6
   have HL6 : Hid (IsL w6 c { s with wt := layK s.tk s.wt (k + 1) }) := hid (by
    have e : layK s.tk s.wt (k + 1) = (layK s.tk s.wt k).set (k + 1) (inoS z) := by rw [layK, inodeW, HZ.out]
    rw [e]; exact hL6)
   have HK6 : Hid (Chg w w6 (Kl c w)) := hid (kl_trans HC.out (kl_trans (kl_no hc5n) hK6));clear hw6 hc6 hz6 hL6 hK6 hc5 hc5n hH
   go_wp2_with fail
   exact ⟨⟨k + 1, by omega, by go_num, HL6, HK6⟩, by simp [intOf]; omega⟩
  ·have i1 : ¬ (k : Int) + 1 ≤ (m : Int) := by omega
   obtain rfl : k = m := by omega
   go_wp2_with fail
   go_end0
   exact ⟨rfl, HL.out, HC.out⟩

end Go.Proofs.YtpmignilhoihnaaGreat

namespace Go.Proofs.YtpmignilhoihnaaGreat
open Go.RowKit Go.Shelf

section
variable {ops : Array Oper} {rest : List Oper} {o : Oper} {a : Act} {Q : Exit → Act → World → Prop} {w : World}
theorem run_app_nil {B : Nat} {v : Value} {l : List Int} (t ty : TypeId) (ht : Tryz.prog.underlying t = some (.slice 3)) (h : IOwn w B v l) : (Builtin.append_ #[t, t] ty #[v, .slice none 0 0]).run Tryz.prog w = .ok v w := by
 obtain ⟨i, hi, hz, hsz, hby⟩ := infoI
 rcases h.2 with ⟨rfl, _⟩ | ⟨g, cap, cur, rfl, hb, hg, hc, _⟩
 ·simp [Builtin.append_, run_underlying ht, sizeOf, typeInfo, hi, Builtin.lenOf, Builtin.firstCells]
 ·simp [Builtin.append_, run_underlying ht, sizeOf, typeInfo, hi, Builtin.lenOf, Builtin.firstCells, storeCells, hc]
theorem wp_appLs (hg : o.guard = none) (s x : Operand) (hop : o.op = .call { callee := .builtin .append, args := #[s, x], argTypes := #[24, 24] }) (B B' : Nat) (v u : Value) (l m : List Int) (hs : a.eval s = v) (hx : a.eval x = u)
  (hown : IOwn w B v l) (hat : IOwn w B' u m) (hl : l.length ≤ 1000000) (hm : m.length ≤ 1000000) (hB : B ≤ w.heap.size)
  (hK : ∀ v' w', IOwn w' B v' (l ++ m) → Chg w w' (fun k => v.ownBlock = some k) → wpList Tryz.prog ops Q rest (a.put o.dst v') w') : wpList Tryz.prog ops Q (o :: rest) a w := by
 obtain ⟨i, hi, hz, hsz, hby⟩ := infoI
 rcases hat.2 with ⟨rfl, e⟩ | ⟨g, cap, cur, rfl, hb, hgg, hc, hr⟩
 ·obtain rfl : m = [] := List.eq_nil_of_length_eq_zero e
  have hrun := run_app_nil (w := w) 24 o.type Tryz.underlying24 hown
  refine wpList_plain hg fun K' hK' => ?_
  unfold Oper.wp execOp
  simp only [hop, resolve, invoke, builtin, Sem.run_bind, Sem.run_pure, Result.andThen_ok, List.map_toArray, List.map_cons, List.map_nil, hs, hx, hrun]
  exact hK' _ _ (hK v w (by rw [List.append_nil]; exact hown) (Chg.refl _ _))
 ·refine wpList_append_own_at w hg s x 24 hop B 3 i _ 1 8 Tryz.underlying24 hi hz hsz hby rfl (by decide) v l.length (l.map (Value.int .i64)) hs hown ⟨g, 0, none⟩ m.length cap (m.map (Value.int .i64)) hx (by simp) (fun j u hj => World.ownsRow.cells hat (g := g) rfl j u hj) (fun u hu => by obtain ⟨y, _, rfl⟩ := List.mem_map.1 hu; rfl) (by unfold maxLen; omega) (by omega) hB ?_
  intro v' w' h1 h2 _ _
  refine hK v' w' ?_ ((Chg.grown h2).mono fun j _ e => e.symm);unfold IOwn;rw [List.map_append, List.length_append]
  exact h1
end

theorem grow_any (n : Nat) (hn : n ≤ 1000000) (w : World) : Calls Tryz.prog 122 #[.slice none 0 0, .int .i64 n] w fun e w' => ∃ v, e = .returned v ∧ IOwn w' w.heap.size v [] ∧ Chg w w' No := by
 rcases Nat.eq_zero_or_pos n with rfl | hp
 ·refine (Any8.slices_Grow_room (ρ := layGrow_ren) layGrow none 0 0 0 w (by omega) (by omega) (by omega) (by omega)).mono ?_
  rintro e w' ⟨rfl, rfl⟩
  exact ⟨_, rfl, World.ownsRow_nil _ _ _ _, Chg.refl _ _⟩
 ·obtain ⟨i, hi, hz, hsz, hby⟩ := infoI
  refine (Any8.slices_Grow_grow (ρ := layGrow_ren) layGrow i _ hi hz (by omega) none 0 0 n [] w (by omega) (by omega) (by rw [hby]; omega) (by omega) (by simp) (fun _ => rfl) (fun a ha => by cases ha)).mono ?_
  rintro e w' ⟨rfl, rfl⟩
  have hge := grownCap_ge w (0 + n) 0 (layGrow_ren.t 25);have hle := grownCap_le_maxLen w (0 + n) 0 (layGrow_ren.t 25) (by unfold maxLen; omega);refine ⟨_, rfl, ⟨rfl, .inr ⟨w.heap.size, _, _, rfl, Nat.le_refl _, heap_alloc_new w.drew _, Nat.zero_le _, hle, ?_, ?_⟩⟩, (Chg.refl w No).drew.trans (Chg.alloc _ _ No) (fun _ _ e => e) (fun _ _ e => e)⟩
  ·simp only [Array.size_append, List.size_toArray, List.length_nil, size_zeroCells]
   show 0 + (0 + n - 0) * 1 + _ * 1 = _ * 1
   omega
  ·simp

def catK (xs : Nat → List Int) : Nat → List Int
 | 0 => []
 | k + 1 => catK xs k ++ xs k
theorem catK_le {xs : Nat → List Int} {b : Nat} (h : ∀ k, (xs k).length ≤ b) : ∀ k, (catK xs k).length ≤ k * b
 | 0 => by simp [catK]
 | k + 1 => by
  have := catK_le h k;have := h k;rw [catK, List.length_append, Nat.succ_mul]
  omega

set_option maxRecDepth 100000 in
set_option maxHeartbeats 1000000 in
theorem concat_any (g : Nat) (B : Nat) (vs : Nat → Value) (xs : Nat → List Int) (w : World) (hc : ∀ k, k < 3 → w.cell? ⟨g, k, none⟩ = some (vs k)) (hg : g < w.heap.size) (ho : ∀ k, k < 3 → IOwn w B (vs k) (xs k)) (hl : ∀ k, (xs k).length ≤ 5000) :
  Calls Tryz.prog 89 #[.slice (some ⟨g, 0, none⟩) 3 3] w fun e w' => ∃ v, e = .returned v ∧ IOwn w' w.heap.size v (catK xs 3) ∧ Chg w w' No := by
 have HC := hid hc;have HO := hid ho;have HL := hid hl;have HCL := hid (fun k => catK_le hl k);have HG := hid hg;clear hc ho hl hg
 go_enter Tryz.func89, Tryz.ntmps89
 go_wp2_with fail
 go_loopw [3, 11] (fun z i wr => ∃ k : Nat, k ≤ 3 ∧ i = .int .i64 k ∧ z = .int .i64 ((catK xs k).length : Nat) ∧ w = wr) (fun _ i _ => 3 - (intOf i).toNat)
 case atStart => exact ⟨0, by omega, rfl, rfl, rfl⟩
 case round =>
  obtain ⟨k, hk, rfl, rfl, rfl⟩ := hrel;have hcl := HCL.out k
  by_cases hlt : k < 3
  ·have i0 : (0 : Int) ≤ (k : Int) := by omega
   have i1 : (k : Int) < 3 := by omega
   have c0 := HC.out k hlt;have hlk := HL.out k;obtain ⟨a', c', he, _⟩ := (HO.out k hlt).lat;rw [he] at c0;have HS : Hid ((catK xs (k + 1)).length = (catK xs k).length + (xs k).length) := hid (by rw [catK, List.length_append])
   generalize (catK xs k).length = n at *
   generalize (xs k).length = m at *
   clear he
   have i2 : ¬ ((n : Int) + (m : Int) < 0) := by omega
   go_wp2_with fail
   exact ⟨⟨k + 1, by omega, by go_num, by rw [HS.out]; go_num, trivial⟩, by simp [intOf]; omega⟩
  ·have i1 : ¬ (k : Int) < 3 := by omega
   obtain rfl : k = 3 := by omega
   have HGr := grow_any (catK xs 3).length (by omega) w
   generalize (catK xs 3).length = n at *
   go_wp2_with (first
    | (go_at_call 122; go_must (refine HGr.mono ?_; rintro e w1 ⟨v1, rfl, hI1, hc1⟩))
    | fail)
   have HI1 := hid hI1;have HC1 := hid hc1;clear hI1 hc1 HGr
   go_loopw [6, 27] (fun v i wx => ∃ (k : Nat) (vv : Value), vv = v ∧ k ≤ 3 ∧ i = .int .i64 k ∧ Hid (IOwn wx w.heap.size vv (catK xs k)) ∧ Hid (Chg w wx No)) (fun _ i _ => 3 - (intOf i).toNat)
   case atStart => exact ⟨0, _, rfl, by omega, rfl, HI1, HC1⟩
   case round =>
    obtain ⟨k, vv, rfl, hk, rfl, HI, HCw⟩ := hrel
    by_cases hlt : k < 3
    ·have i0 : (0 : Int) ≤ (k : Int) := by omega
     have i1 : (k : Int) < 3 := by omega
     have c0 := cell_keep (HC.out k hlt) HCw.out HG.out (fun e => e);have HOk := hid ((HO.out k hlt).keep HCw.out (fun _ _ e => e));have HLk : Hid ((xs k).length ≤ 1000000) := hid (by have := HL.out k; omega);have HLc : Hid ((catK xs k).length ≤ 1000000) := hid (by have := HCL.out k; omega);have HZ : Hid (w.heap.size ≤ wr.heap.size) := hid HCw.out.size;obtain ⟨uk, huk⟩ : ∃ y, y = vs k := ⟨_, rfl⟩;rw [← huk] at c0 HOk;clear huk
     go_wp2_with (first
      | (at_builtin; go_must (refine wp_appLs rfl _ _ rfl w.heap.size B vv uk _ _ rfl rfl HI.out HOk.out HLc.out HLk.out HZ.out ?_; intro v' w7 hI7 hc7))
      | fail)
     have hch : Chg w w7 No := HCw.out.trans hc7 (fun _ _ e => e) (fun j hj e => by have := (HI.out.blk e).1; omega)
     exact ⟨⟨k + 1, v', rfl, by omega, by go_num, hid hI7, hid hch⟩, by simp [intOf]; omega⟩
    ·have i1 : ¬ (k : Int) < 3 := by omega
     obtain rfl : k = 3 := by omega
     go_wp2_with fail
     go_ret
     exact ⟨_, rfl, HI.out, HCw.out⟩

end Go.Proofs.YtpmignilhoihnaaGreat

namespace Go.Proofs.YtpmignilhoihnaaGreat
open Go.RowKit Go.Shelf

def wrKind (M : Int) (im T : Img) (wp : Int → Bool) (x : Int) : Nat :=
 if secI T x = secI im x then 3 else if x ≤ M then 1 else if wp x then 2 else 0
def wrP (c : LC) (s : LS) (j : Nat) (x : Int) : Bool := decide (wrKind c.M c.im s.wt s.wp x = j)
def writeL (c : LC) (s : LS) : List Int := catK (fun j => keysL c.N (wrP c s j)) 3
theorem keysL_succ (k : Nat) (p : Int → Bool) : keysL (k + 1) p = keysL k p ++ (if p k then [(k : Int)] else []) := by
 unfold keysL;rw [List.range_succ, List.map_append, List.filter_append]
 congr 1
 simp only [List.map_cons, List.map_nil, List.filter_cons, List.filter_nil]
 rfl
theorem keysL_len (k : Nat) (p : Int → Bool) : (keysL k p).length ≤ k := by
 unfold keysL;have := List.length_filter_le p ((List.range k).map Int.ofNat)
 simpa using this
def Apart (a b : Value) : Prop := ∀ j, a.ownBlock = some j → b.ownBlock ≠ some j
structure WR (w0 w : World) (c : LC) (s : LS) (k : Nat) (v3 v4 v5 : Value) : Prop where
 ch : Chg w0 w No
 o3 : IOwn w w0.heap.size v3 (keysL k (wrP c s 0))
 o4 : IOwn w w0.heap.size v4 (keysL k (wrP c s 1))
 o5 : IOwn w w0.heap.size v5 (keysL k (wrP c s 2))
 a34 : Apart v3 v4
 a35 : Apart v3 v5
 a45 : Apart v4 v5
section
variable {w0 w w' : World} {c : LC} {s : LS} {k : Nat} {v3 v4 v5 v' : Value}
theorem Apart.symm {a b : Value} (h : Apart a b) : Apart b a := fun j h1 h2 => h j h2 h1
theorem WR.call (h : WR w0 w c s k v3 v4 v5) (hc : Chg w w' No) : WR w0 w' c s k v3 v4 v5 :=
 ⟨h.ch.trans hc (fun _ _ e => e) (fun _ _ e => e), h.o3.keep hc (fun _ _ e => e), h.o4.keep hc (fun _ _ e => e), h.o5.keep hc (fun _ _ e => e), h.a34, h.a35, h.a45⟩
theorem IOwn.below {B : Nat} {v : Value} {l : List Int} (h : IOwn w B v l) {j : Nat} (e : v.ownBlock = some j) : j < w.heap.size := by
 obtain ⟨_, A, hA⟩ := h.blk e
 exact slt hA
theorem apart_new {B : Nat} {v v' u : Value} {l : List Int} (h : Apart v u) (hu : IOwn w B u l) (hn : v'.ownBlock = v.ownBlock ∨ v'.ownBlock = some w.heap.size) : Apart v' u := fun j h1 h2 => by
 rcases hn with e | e
 ·exact h j (e ▸ h1) h2
 ·rw [e] at h1
  cases h1
  have := hu.below h2
  omega
theorem keep_apart {B : Nat} {v u : Value} {l : List Int} (h : Apart v u) (hu : IOwn w B u l) (hc : Chg w w' (fun k => v.ownBlock = some k)) : IOwn w' B u l := hu.keep hc fun j e1 e2 => h j e2 e1
theorem own_no {v : Value} {l : List Int} (h : IOwn w w0.heap.size v l) (h0 : Chg w0 w No) (hc : Chg w w' (fun k => v.ownBlock = some k)) : Chg w0 w' No :=
 h0.trans hc (fun _ _ e => e) (fun j hj e => by have := (h.blk e).1; omega)
theorem keysL_in {p : Int → Bool} (h : p k = true) : keysL (k + 1) p = keysL k p ++ [(k : Int)] := by rw [keysL_succ, if_pos h]
theorem keysL_out {p : Int → Bool} (h : p k = false) : keysL (k + 1) p = keysL k p := by rw [keysL_succ, if_neg (by simp [h]), List.append_nil]
theorem wrP_of {j i : Nat} (h : wrKind c.M c.im s.wt s.wp k = i) : wrP c s j k = decide (i = j) := by unfold wrP; rw [h]
theorem WR.skip (h : WR w0 w c s k v3 v4 v5) (hk : wrKind c.M c.im s.wt s.wp k = 3) : WR w0 w c s (k + 1) v3 v4 v5 :=
 ⟨h.ch, by rw [keysL_out (by rw [wrP_of hk]; rfl)]; exact h.o3, by rw [keysL_out (by rw [wrP_of hk]; rfl)]; exact h.o4, by rw [keysL_out (by rw [wrP_of hk]; rfl)]; exact h.o5, h.a34, h.a35, h.a45⟩
theorem WR.put3 (h : WR w0 w c s k v3 v4 v5) (hk : wrKind c.M c.im s.wt s.wp k = 0) (hi : IOwn w' w0.heap.size v' (keysL k (wrP c s 0) ++ [(k : Int)])) (hc : Chg w w' (fun j => v3.ownBlock = some j)) (hn : v'.ownBlock = v3.ownBlock ∨ v'.ownBlock = some w.heap.size) : WR w0 w' c s (k + 1) v' v4 v5 :=
 ⟨own_no h.o3 h.ch hc, by rw [keysL_in (by rw [wrP_of hk]; rfl)]; exact hi, by rw [keysL_out (by rw [wrP_of hk]; rfl)]; exact keep_apart h.a34 h.o4 hc, by rw [keysL_out (by rw [wrP_of hk]; rfl)]; exact keep_apart h.a35 h.o5 hc, apart_new h.a34 h.o4 hn, apart_new h.a35 h.o5 hn, h.a45⟩
theorem WR.put4 (h : WR w0 w c s k v3 v4 v5) (hk : wrKind c.M c.im s.wt s.wp k = 1) (hi : IOwn w' w0.heap.size v' (keysL k (wrP c s 1) ++ [(k : Int)])) (hc : Chg w w' (fun j => v4.ownBlock = some j)) (hn : v'.ownBlock = v4.ownBlock ∨ v'.ownBlock = some w.heap.size) : WR w0 w' c s (k + 1) v3 v' v5 :=
 ⟨own_no h.o4 h.ch hc, by rw [keysL_out (by rw [wrP_of hk]; rfl)]; exact keep_apart h.a34.symm h.o3 hc, by rw [keysL_in (by rw [wrP_of hk]; rfl)]; exact hi, by rw [keysL_out (by rw [wrP_of hk]; rfl)]; exact keep_apart h.a45 h.o5 hc, (apart_new h.a34.symm h.o3 hn).symm, h.a35, apart_new h.a45 h.o5 hn⟩
theorem WR.put5 (h : WR w0 w c s k v3 v4 v5) (hk : wrKind c.M c.im s.wt s.wp k = 2) (hi : IOwn w' w0.heap.size v' (keysL k (wrP c s 2) ++ [(k : Int)])) (hc : Chg w w' (fun j => v5.ownBlock = some j)) (hn : v'.ownBlock = v5.ownBlock ∨ v'.ownBlock = some w.heap.size) : WR w0 w' c s (k + 1) v3 v4 v' :=
 ⟨own_no h.o5 h.ch hc, by rw [keysL_out (by rw [wrP_of hk]; rfl)]; exact keep_apart h.a35.symm h.o3 hc, by rw [keysL_out (by rw [wrP_of hk]; rfl)]; exact keep_apart h.a45.symm h.o4 hc, by rw [keysL_in (by rw [wrP_of hk]; rfl)]; exact hi, h.a34, (apart_new h.a35.symm h.o3 hn).symm, (apart_new h.a45.symm h.o4 hn).symm⟩
end
section
variable {ops : Array Oper} {rest : List Oper} {o : Oper} {a : Act} {Q : Exit → Act → World → Prop} {w : World}
theorem wp_appI2 (hg : o.guard = none) (s x : Operand) (hop : o.op = .call { callee := .builtin .append, args := #[s, x], argTypes := #[24, 24] }) (B g c : Nat) (v : Value) (l : List Int) (y : Int) (hs : a.eval s = v) (hx : a.eval x = .slice (some ⟨g, 0, none⟩) 1 c)
  (hown : IOwn w B v l) (hat : w.cell? ⟨g, 0, none⟩ = some (.int .i64 y)) (hl : l.length ≤ 1000000000000) (hB : B ≤ w.heap.size)
  (hK : ∀ v' w', IOwn w' B v' (l ++ [y]) → Chg w w' (fun k => v.ownBlock = some k) → (v'.ownBlock = v.ownBlock ∨ v'.ownBlock = some w.heap.size) → wpList Tryz.prog ops Q rest (a.put o.dst v') w') : wpList Tryz.prog ops Q (o :: rest) a w := by
 obtain ⟨i, hi, hz, hsz, hby⟩ := infoI;refine wpList_append_own_at w hg s x 24 hop B 3 i _ 1 8 Tryz.underlying24 hi hz hsz hby rfl (by decide) v l.length (l.map (Value.int .i64)) hs hown ⟨g, 0, none⟩ 1 c [.int .i64 y] hx rfl (fun j u hj => ?_) (by simp [Value.oneCell']) (by unfold maxLen; omega) (by omega) hB ?_
 ·cases j with
  | zero => simp at hj; subst hj; exact hat
  | succ j => simp at hj
 ·intro v' w' h1 h2 _ h3
  refine hK v' w' ?_ ((Chg.grown h2).mono fun j _ e => e.symm) h3;unfold IOwn;rw [List.map_append, List.length_append]
  exact h1
end
section
variable {ops : Array Oper} {Q : Exit → Act → World → Prop} {S : World → Prop} {fuel : Nat} {listed : Array Bool} {a : Act} {w : World}
theorem takeMid (i d : Nat) (x : Operand) (g off : Nat) (c : List Int) (hc : c.length = 128) {o : Oper} (hop : ops[i]? = some o) (hs : Region.noSelect ops = true) (hf : Region.free .any ops listed i = true) (hr : (Region.ready .any ops listed).contains i = true)
  (hd : o.dst = some d) (ho : o.op = .load 33 x) (hx : a.eval x = .pointer (some ⟨g, off, none⟩)) (hw : Region.wanted o (yielded ops a.tmps) = true) (hQ : ∀ c a w, ¬ Q (.panic c) a w) (hS : S w)
  (hg : ∀ w, S w → w.rangeAt g off (c.map (Value.int .u8)))
  (h : wpAnyH Tryz.prog .any ops Q S fuel (listed.setIfInBounds i true) { a with tmps := a.tmps.setIfInBounds d (.agg (SA c)) } w) : wpAnyH Tryz.prog .any ops Q S (fuel + 1) listed a w := by
 refine takeVal i d _ hop hs hf hr hd hw hQ hS (fun w hw' => ?_) h;have hl := run_loadVar_mid w g off 33 (c.map (Value.int .u8)) _ (hg w hw') Tryz.underlying33 rfl (by rw [sz26, List.length_map, hc])
 have e : (c.map (Value.int .u8)).toArray = SA c := by simp [SA]
 rw [e] at hl;unfold execOp
 simp only [ho, hx, Instr.loadAt, Instr.sureAddr, Sem.run_bind, Sem.run_pure, Result.andThen_ok, hl]
theorem takeEq (i d : Nat) (x y : Operand) (c c' : List Int) (b : Bool) (hc : c.length = 128) (hc' : c'.length = 128) (hb : decide (c = c') = b) {o : Oper} (hop : ops[i]? = some o) (hs : Region.noSelect ops = true) (hf : Region.free .any ops listed i = true) (hr : (Region.ready .any ops listed).contains i = true)
  (hd : o.dst = some d) (ho : o.op = .binOp .eql 33 x y 33) (hx : a.eval x = .agg (SA c)) (hy : a.eval y = .agg (SA c')) (hw : Region.wanted o (yielded ops a.tmps) = true) (hQ : ∀ c a w, ¬ Q (.panic c) a w) (hS : S w)
  (h : wpAnyH Tryz.prog .any ops Q S fuel (listed.setIfInBounds i true) { a with tmps := a.tmps.setIfInBounds d (.bool b) } w) : wpAnyH Tryz.prog .any ops Q S (fuel + 1) listed a w := by
 refine takeVal i d _ hop hs hf hr hd hw hQ hS (fun w hw' => ?_) h
 have hq : (Op.equalIn 10000 33 (.agg (SA c)) (.agg (SA c'))).run Tryz.prog w = .ok b w := by rw [eq_sec _ _ hc hc', hb]
 unfold execOp
 simp only [ho, hx, hy, Sem.run_bind, run_eqGuard_agg _ _ _ _ _ _ _ guard_sec, run_eql_struct, hq, Result.andThen_ok, Sem.run_pure]
end

set_option maxRecDepth 100000 in
set_option maxHeartbeats 4000000 in
theorem write_any {c : LC} {s : LS} (w : World) (h : IsL w c s) :
  Calls Tryz.prog 48 #[LP c] w fun e w' => ∃ v, e = .returned v ∧ IOwn w' w.heap.size v (writeL c s) ∧ Chg w w' No := by
 have hzz := zero_sec;have hu := zeroU;have c3 := h.v.p.c3;have HH := hid h;have hn2 := h.v.p.n2
 obtain ⟨b, o, hia, hb, hr⟩ : ∃ b o, c.ia = some ⟨b, o, none⟩ ∧ b < w.heap.size ∧ ∀ (j : Nat) s, c.im[j]? = some s → w.rangeAt b (o + j * 128) (s.map (Value.int .u8)) := by
  rcases h.v.p.ci.2 with e | e
  ·have h1 := h.v.p.il; have h2 := h.v.p.n1; rw [e] at h1; simp at h1; omega
  ·exact e
 have HR := hid hr;have HIA := hid hia;have HB := hid hb;clear h hr hia hb;unfold LP
 go_enter Tryz.func48, Tryz.ntmps48
 go_wp2_with fail
 go_loopw [3, 4, 5, 15] (fun x3 x4 x5 i wr => ∃ (k : Nat) (v3 v4 v5 : Value), v3 = x3 ∧ v4 = x4 ∧ v5 = x5 ∧ k ≤ c.N ∧ i = .int .i64 k ∧ Hid (WR w wr c s k v3 v4 v5)) (fun _ _ _ i _ => c.N - (intOf i).toNat)
 case atStart => exact ⟨0, _, _, _, rfl, rfl, rfl, by omega, rfl, hid ⟨Chg.refl _ _, World.ownsRow_nil _ _ _ _, World.ownsRow_nil _ _ _ _, World.ownsRow_nil _ _ _ _, fun j e => by simp [Value.ownBlock] at e, fun j e => by simp [Value.ownBlock] at e, fun j e => by simp [Value.ownBlock] at e⟩⟩
 case round =>
  obtain ⟨k, v3, v4, v5, rfl, rfl, rfl, hk, rfl, HI⟩ := hrel;clear c3
  by_cases hlt : k < c.N
  ·have i0 : (0 : Int) ≤ (k : Int) := by omega
   have i1 : (k : Int) < (c.N : Int) := by omega
   have hLr := HH.out.call HI.out.ch;have HWt := hid hLr.v.k.wt;have HTl : Hid (k < s.wt.length) := hid (by rw [hLr.v.k.wl]; exact hlt);obtain ⟨tk, htk⟩ : ∃ y, y = secI s.wt (k : Int) := ⟨_, rfl⟩;obtain ⟨mk, hmk⟩ : ∃ y, y = secI c.im (k : Int) := ⟨_, rfl⟩;have HT := hid htk;have HM := hid hmk;have HTs : Hid (IsSec tk) := hid (by rw [htk]; exact hLr.v.k.wt.sec _);have HMs : Hid (IsSec mk) := hid (by rw [hmk]; exact hLr.v.p.ci.secI _)
   have HRg : Hid (∀ W, Chg w W No → W.rangeAt b (o + k * 128) (mk.map (Value.int .u8))) := hid (fun W hW => by
    have h0 := HR.out k _ (getD_at (by rw [hLr.v.p.il]; exact hlt))
    intro i x hx
    rw [hmk] at hx;have := h0 i x hx
    exact cell_keep this hW HB.out (fun e => e))
   clear htk hmk
   -- the world behind the variable of the round
   obtain ⟨w1, hw1⟩ : ∃ y, y = wr.alloc (.cells (SA Zs) 33) := ⟨_, rfl⟩;have HA1 : Hid (Chg wr w1 No) := hid (by rw [hw1]; exact Chg.alloc _ _ _);have HN1 : Hid (w1.heap[wr.heap.size]? = some (.cells (SA Zs) 33 (0, 0))) := hid (by rw [hw1]; exact heap_alloc_new _ _)
   go_upto_region 5 with (first
    | (refine load_wtL rfl _ rfl c.b.wb k rfl s.wt HWt.out HTl.out ?_)
    | (refine store_R rfl 33 _ _ rfl wr.heap.size (SA tk) rfl (by rw [HT.out]; rfl) 33 _ (by rw [← hw1]; exact HN1.out) (by rw [sz26, SA_size, HTs.out.1]) (by rw [SA_size, SA_size, HTs.out.1, Zs_sec.1]) (SA_one _) ?_; intro w2 hw2)
    | fail)
   rw [← hw1] at hw2;have hc2 : Chg wr w2 No := HA1.out.trans (kt_new hw2) (fun _ _ e => e) (fun j hj e => by omega);have HC2 := hid hc2;have HG2 := hid hw2.here;have hL2 := hLr.call hc2;have d5 := hL2.v.p.c5;have HV := hid hL2.v.v;have HIk : Hid (I64 (k : Int)) := hid ⟨by omega, by omega⟩;obtain ⟨wv, hwv⟩ : ∃ y, y = s.wp (k : Int) := ⟨_, rfl⟩;have HWV := hid hwv;clear hwv hL2 hc2 hw2 hw1 HA1 HN1 hLr
   go_upto_region 7 with (first
    | (at_lookup; go_must (refine wp_ok rfl _ _ rfl c.b.vb _ (k : Int) rfl rfl HV.out HIk.out ?_; intro r hr; obtain rfl : wv = r := (by rw [Bool.eq_iff_iff, hr, HWV.out]); clear hr))
    | fail)
   obtain ⟨w3, hw3⟩ : ∃ y, y = w2.alloc (.cells #[] 92) := ⟨_, rfl⟩;rw [← hw3];have HC3 : Hid (Chg wr w3 No) := hid (HC2.out.trans (by rw [hw3]; exact Chg.alloc _ _ _) (fun _ _ e => e) (fun _ _ e => e));have HG3 : Hid (w3.heap[wr.heap.size]? = some (.cells (SA tk) 33 (0, 0))) := hid (by rw [hw3]; exact (Chg.alloc w2 _ No).keep HG2.out (fun e => e));clear hw3 d5 HV
   have hP2 := fun (W : World) (hW : Chg w3 W No) => ((HH.out.call HI.out.ch).call (HC3.out.trans hW (c := No) (fun _ _ e => e) (fun _ _ e => e))).v.p.c2
   rw [HIA.out] at hP2
   have hRG := fun (W : World) (hW : Chg w3 W No) => HRg.out W ((HI.out.ch.trans HC3.out (c := No) (fun _ _ e => e) (fun _ _ e => e)).trans hW (fun _ _ e => e) (fun _ _ e => e))
   refine wp_region_noPanic ?_;refine wp_region_held_drew (S := fun w' => Chg w3 w' No) (by kernel_rfl) (Chg.refl _ _).drew (fun hH => ?_);obtain ⟨w4, hw4⟩ : ∃ y, y = w3.drew := ⟨_, rfl⟩;rw [← hw4] at hH ⊢;clear hw4;refine takeSec 0 34 (.tmp 7) wr.heap.size tk HTs.out.1 rfl (by kernel_rfl) (by kernel_rfl) (by kernel_rfl) rfl rfl rfl (by rfl) (fun _ _ _ h => h) hH (fun W' hw' => hw'.keep HG3.out (fun e => e)) ?_;simp only [sS];refine tV 1 35 (.pointer (some ⟨c.b.p, 0, none⟩)) rfl (by kernel_rfl) rfl (by rfl) hH (fun W' hw' => rfl) ?_;simp only [sS];refine tV 2 36 (.pointer (some ⟨c.b.p, 0, none⟩)) rfl (by kernel_rfl) rfl (by rfl) hH (fun W' hw' => by clear hP2 hRG; go_simp) ?_;simp only [sS];refine tV 3 37 (.pointer (some ⟨c.b.p, 2, none⟩)) rfl (by kernel_rfl) rfl (by rfl) hH (fun W' hw' => by clear hP2 hRG; go_simp) ?_;simp only [sS];refine tV 4 38 (.slice (some ⟨b, o, none⟩) c.N c.ic) rfl (by kernel_rfl) rfl (by rfl) hH (fun W' hw' => by have hc := hP2 W' hw'; clear hP2 hRG; go_simp) ?_;simp only [sS];refine tV 5 39 (.int .i64 (k : Int)) rfl (by kernel_rfl) rfl (by rfl) hH (fun W' hw' => rfl) ?_;simp only [sS];refine tV 6 40 (.pointer (some ⟨b, o + k * 128, none⟩)) rfl (by kernel_rfl) rfl (by rfl) hH (fun W' hw' => by clear hP2 hRG; go_simp) ?_;simp only [sS];refine takeMid 7 41 (.tmp 40) b (o + k * 128) mk HMs.out.1 rfl (by kernel_rfl) (by kernel_rfl) (by kernel_rfl) rfl rfl rfl (by rfl) (fun _ _ _ h => h) hH (fun W' hw' => hRG W' hw') ?_;simp only [sS];have HL4 := hid ((HH.out.call HI.out.ch).call (HC3.out.trans hH (c := No) (fun _ _ e => e) (fun _ _ e => e)));have HW4 := hid (HI.out.call (HC3.out.trans hH (c := No) (fun _ _ e => e) (fun _ _ e => e)));have HZ4 : Hid (w.heap.size ≤ w4.heap.size) := hid HW4.out.ch.size;clear hP2 hRG
   by_cases he : tk = mk
   ·have HKd : Hid (wrKind c.M c.im s.wt s.wp (k : Int) = 3) := hid (by unfold wrKind; rw [← HT.out, ← HM.out, if_pos he])
    refine takeEq 8 42 (.tmp 34) (.tmp 41) tk mk true HTs.out.1 HMs.out.1 (decide_eq_true he) rfl (by kernel_rfl) (by kernel_rfl) (by kernel_rfl) rfl rfl rfl rfl (by rfl) (fun _ _ _ h => h) hH ?_;simp only [sS];refine tV 9 33 (.bool true) rfl (by kernel_rfl) rfl (by rfl) hH (fun W' hw' => rfl) ?_;simp only [sS];refine wpAnyH_done (by kernel_rfl) ?_ _;refine NoPanic.normal ?_;clear hH
    go_wp2_with fail
    exact ⟨⟨k + 1, v3, v4, v5, rfl, rfl, rfl, by omega, by go_num, hid (HW4.out.skip HKd.out)⟩, by simp [intOf]; omega⟩
   ·have d1 := HL4.out.v.p.c1
    refine takeEq 8 42 (.tmp 34) (.tmp 41) tk mk false HTs.out.1 HMs.out.1 (decide_eq_false he) rfl (by kernel_rfl) (by kernel_rfl) (by kernel_rfl) rfl rfl rfl rfl (by rfl) (fun _ _ _ h => h) hH ?_;simp only [sS];refine tV 9 33 (.bool false) rfl (by kernel_rfl) rfl (by rfl) hH (fun W' hw' => rfl) ?_;simp only [sS];refine wpAnyH_done (by kernel_rfl) ?_ _;refine NoPanic.normal ?_;clear hH
    by_cases hm : (k : Int) ≤ (c.M : Int)
    ·skip
     have HKd : Hid (wrKind c.M c.im s.wt s.wp (k : Int) = 1) := hid (by unfold wrKind; rw [← HT.out, ← HM.out, if_neg he, if_pos hm]);obtain ⟨w5, hw5⟩ : ∃ y, y = w4.alloc (.cells #[.int .i64 (k : Int)] 3) := ⟨_, rfl⟩
     have e2 : w5.cell? ⟨w4.heap.size, 0, none⟩ = some (.int .i64 (k : Int)) := by rw [hw5]; exact (cell_of_row _ _ _ _ _ _ (heap_alloc_new w4 _)).trans rfl
     have HW5 := hid (HW4.out.call (show Chg w4 w5 No by rw [hw5]; exact Chg.alloc _ _ _));have HZ5 : Hid (w.heap.size ≤ w5.heap.size) := hid HW5.out.ch.size;have HLn : Hid ((keysL k (wrP c s 1)).length ≤ 1000000000000) := hid (by have := keysL_len k (wrP c s 1); omega);rw [hw5] at e2 HW5 HZ5;clear hw5
     go_wp2_with (first
      | (at_builtin; go_must (refine wp_appI2 rfl _ _ rfl w.heap.size w4.heap.size 1 v4 _ (k : Int) rfl rfl HW5.out.o4 e2 HLn.out HZ5.out ?_; intro v' w7 hI7 hc7 hn7))
      | fail)
     exact ⟨⟨k + 1, v3, v', v5, rfl, rfl, rfl, by omega, by go_num, hid (HW5.out.put4 HKd.out hI7 hc7 hn7)⟩, by simp [intOf]; omega⟩
    ·cases wv with
     | true =>
      have HKd : Hid (wrKind c.M c.im s.wt s.wp (k : Int) = 2) := hid (by unfold wrKind; rw [← HT.out, ← HM.out, if_neg he, if_neg hm, ← HWV.out]; rfl);obtain ⟨w5, hw5⟩ : ∃ y, y = w4.alloc (.cells #[.int .i64 (k : Int)] 3) := ⟨_, rfl⟩
      have e2 : w5.cell? ⟨w4.heap.size, 0, none⟩ = some (.int .i64 (k : Int)) := by rw [hw5]; exact (cell_of_row _ _ _ _ _ _ (heap_alloc_new w4 _)).trans rfl
      have HW5 := hid (HW4.out.call (show Chg w4 w5 No by rw [hw5]; exact Chg.alloc _ _ _));have HZ5 : Hid (w.heap.size ≤ w5.heap.size) := hid HW5.out.ch.size;have HLn : Hid ((keysL k (wrP c s 2)).length ≤ 1000000000000) := hid (by have := keysL_len k (wrP c s 2); omega);rw [hw5] at e2 HW5 HZ5;clear hw5
      go_wp2_with (first
       | (at_builtin; go_must (refine wp_appI2 rfl _ _ rfl w.heap.size w4.heap.size 1 v5 _ (k : Int) rfl rfl HW5.out.o5 e2 HLn.out HZ5.out ?_; intro v' w7 hI7 hc7 hn7))
       | fail)
      exact ⟨⟨k + 1, v3, v4, v', rfl, rfl, rfl, by omega, by go_num, hid (HW5.out.put5 HKd.out hI7 hc7 hn7)⟩, by simp [intOf]; omega⟩
     | false =>
      have HKd : Hid (wrKind c.M c.im s.wt s.wp (k : Int) = 0) := hid (by unfold wrKind; rw [← HT.out, ← HM.out, if_neg he, if_neg hm, ← HWV.out]; rfl);obtain ⟨w5, hw5⟩ : ∃ y, y = w4.alloc (.cells #[.int .i64 (k : Int)] 3) := ⟨_, rfl⟩
      have e2 : w5.cell? ⟨w4.heap.size, 0, none⟩ = some (.int .i64 (k : Int)) := by rw [hw5]; exact (cell_of_row _ _ _ _ _ _ (heap_alloc_new w4 _)).trans rfl
      have HW5 := hid (HW4.out.call (show Chg w4 w5 No by rw [hw5]; exact Chg.alloc _ _ _));have HZ5 : Hid (w.heap.size ≤ w5.heap.size) := hid HW5.out.ch.size;have HLn : Hid ((keysL k (wrP c s 0)).length ≤ 1000000000000) := hid (by have := keysL_len k (wrP c s 0); omega);rw [hw5] at e2 HW5 HZ5;clear hw5
      go_wp2_with (first
       | (at_builtin; go_must (refine wp_appI2 rfl _ _ rfl w.heap.size w4.heap.size 1 v3 _ (k : Int) rfl rfl HW5.out.o3 e2 HLn.out HZ5.out ?_; intro v' w7 hI7 hc7 hn7))
       | fail)
      exact ⟨⟨k + 1, v', v4, v5, rfl, rfl, rfl, by omega, by go_num, hid (HW5.out.put3 HKd.out hI7 hc7 hn7)⟩, by simp [intOf]; omega⟩
  ·have i1 : ¬ (k : Int) < (c.N : Int) := by omega
   obtain rfl : k = c.N := by omega
   have hWR := HI.out;obtain ⟨w5, hw5⟩ : ∃ y, y = wr.alloc (.cells #[v3, v4, v5] 24) := ⟨_, rfl⟩
   have hc5 : Chg wr w5 No := by rw [hw5]; exact Chg.alloc _ _ _
   have hb5 : w5.heap[wr.heap.size]? = some (.cells #[v3, v4, v5] 24 (0, 0)) := by rw [hw5]; exact heap_alloc_new _ _
   have hW5 := hWR.call hc5;have HCt := concat_any wr.heap.size w.heap.size (fun j => #[v3, v4, v5].getD j undef) (fun j => keysL c.N (wrP c s j)) w5
    (fun j hj => by
     rw [cell_of_row _ _ _ _ _ _ hb5]
     match j, hj with
     | 0, _ => rfl
     | 1, _ => rfl
     | 2, _ => rfl)
    (slt hb5)
    (fun j hj => by
     match j, hj with
     | 0, _ => exact hW5.o3
     | 1, _ => exact hW5.o4
     | 2, _ => exact hW5.o5)
    (fun j => by have := keysL_len c.N (wrP c s j); omega)
   have HC5 : Hid (Chg w w5 No) := hid hW5.ch;obtain ⟨a3, s3, e3, _⟩ := hWR.o3.lat;obtain ⟨a4, s4, e4, _⟩ := hWR.o4.lat;obtain ⟨a5, s5, e5, _⟩ := hWR.o5.lat;rw [e3, e4, e5] at hw5;clear hc5 hb5 hW5 hWR HI;subst hw5;rw [e3, e4, e5]
   go_wp2_with (first
    | (go_at_call 89; go_must (refine HCt.mono ?_; rintro e w6 ⟨v6, rfl, hI6, hc6⟩))
    | fail)
   go_ret
   exact ⟨_, rfl, hI6.base HC5.out.size, HC5.out.trans hc6 (fun _ _ e => e) (fun _ _ e => e)⟩

end Go.Proofs.YtpmignilhoihnaaGreat
