/-
 The document's row, Tables.
-/
import Derived.Test.YtpmignilhoihnaaGreatN1
import Derived.Maps.AppendAt
namespace Go.Proofs.YtpmignilhoihnaaGreat
open Go.RowKit Go.Shelf

def nz (ns : List Int) (j : Nat) : Bool := decide (ns.getD j 0 ≠ 0)
def plc (ns : List Int) (k : Nat) : List Nat := (List.range k).filter (nz ns)
def thereL (ns : List Int) : List (Nat × Int) := (plc ns ns.length).map fun j => (j, ns.getD j 0)
theorem plc_succ (ns : List Int) (k : Nat) : plc ns (k + 1) = plc ns k ++ (if nz ns k then [k] else []) := by
 unfold plc;rw [List.range_succ, List.filter_append]
 congr 1
 by_cases h : nz ns k <;> simp [h]
structure Row9 where
 first : Int
 ps : List Int
 err : Int
structure Sp9 where
 idx : Int
 sec : Int
 err : Int
def spotRow (x : Row9) : List Sp9 := (thereL x.ps).map fun y => ⟨x.first + (y.1 : Int), y.2, 0⟩
theorem plc_le (ns : List Int) (k : Nat) : (plc ns k).length ≤ k := by
 unfold plc;have := List.length_filter_le (nz ns) (List.range k)
 simpa using this
def flatS (L : List Sp9) : List Value := L.flatMap fun x => [.int .i64 x.idx, .int .i64 x.sec]
theorem flatS_one (L : List Sp9) (x : Sp9) : flatS (L ++ [x]) = flatS L ++ [.int .i64 x.idx, .int .i64 x.sec] := by simp [flatS]
theorem row_shape9 {w : World} {base e k n : Nat} {v : Value} {xs : List Value} (h : w.ownsRow base e k v n xs) : ∃ a cap, v = .slice a n cap ∧ n ≤ cap ∧ (∀ ad, a = some ad → ∃ g, ad = ⟨g, 0, none⟩ ∧ base ≤ g) := by
 obtain ⟨_, h2⟩ := h
 rcases h2 with ⟨rfl, rfl⟩ | ⟨g, cap, cur, rfl, hb, _, hc, _⟩
 ·exact ⟨none, 0, rfl, Nat.le_refl _, fun _ h => by cases h⟩
 ·exact ⟨_, cap, rfl, hc, fun ad h => by cases h; exact ⟨g, rfl, hb⟩⟩
theorem ownsRow_alloc9 {w : World} {base e k n : Nat} {v : Value} {xs : List Value} (h : w.ownsRow base e k v n xs) (o : Obj) : (w.alloc o).ownsRow base e k v n xs := h.kept (World.grownBy_alloc w o none) (by
 rcases h.2 with ⟨rfl, _⟩ | ⟨g, cap, cur, rfl, _, hgb, _⟩
 ·exact .inl rfl
 ·exact .inr (by simp [Value.ownBlock]))
theorem there_le (ns : List Int) : (thereL ns).length ≤ ns.length := by unfold thereL; rw [List.length_map]; exact plc_le _ _
def SOwn (w : World) (B : Nat) (v : Value) (l : List Sp9) : Prop := w.ownsRow B 116 2 v l.length (flatS l)
theorem flatS_len (l : List Sp9) : (flatS l).length = l.length * 2 := by
 induction l with
 | nil => rfl
 | cons x l ih => unfold flatS at *; rw [List.flatMap_cons, List.length_append, ih]; simp; omega
theorem flatS_app (l m : List Sp9) : flatS (l ++ m) = flatS l ++ flatS m := by simp [flatS]
theorem flatS_cell1 (l : List Sp9) : ∀ u ∈ flatS l, u.oneCell' = true := by
 intro u hu
 unfold flatS at hu;obtain ⟨x, _, hx⟩ := List.mem_flatMap.1 hu
 simp at hx
 rcases hx with rfl | rfl <;> rfl
structure Grow (e : TypeId) (B : Nat) (w w' : World) : Prop where
 low : Below B w w'
 keep : ∀ (k : Nat) cs t f, w.heap[k]? = some (.cells cs t f) → t ≠ e → w'.heap[k]? = some (.cells cs t f)
 size : w.heap.size ≤ w'.heap.size
theorem grow_of {w w' : World} {B e k n : Nat} {v : Value} {xs : List Value} (h : w.ownsRow B e k v n xs) (hB : B ≤ w.heap.size) (hg : w.grownBy w' v.ownBlock) : Grow e B w w' := by
 have hne : ∀ (j : Nat), some j = v.ownBlock → B ≤ j ∧ ∃ cur, w.heap[j]? = some (.cells cur e (0, 0)) := by
  intro j hj
  rcases h.2 with ⟨rfl, _⟩ | ⟨g, cap, cur, rfl, hb, hgb, _⟩
  ·cases hj
  ·have : j = g := by simpa [Value.ownBlock] using hj
   subst this
   exact ⟨hb, cur, hgb⟩
 refine ⟨(Below.refl B w).grown hg hB (fun j hj => (hne j hj.symm).1), fun j cs t f hj ht => ?_, hg.size⟩;rw [hg.block j (slt hj) (fun e' => ?_)]
 ·exact hj
 ·obtain ⟨_, cur, hc⟩ := hne j e'
  rw [hj] at hc
  cases hc
  exact ht rfl
section
variable {ops : Array Oper} {rest : List Oper} {o : Oper} {a : Act} {Q : Exit → Act → World → Prop} {w : World}
theorem wp_appI9 (hg : o.guard = none) (s x : Operand) (hop : o.op = .call { callee := .builtin .append, args := #[s, x], argTypes := #[24, 24] }) (B g c : Nat) (v : Value) (l : List Int) (y : Int) (hs : a.eval s = v) (hx : a.eval x = .slice (some ⟨g, 0, none⟩) 1 c)
  (hown : IOwn w B v l) (hat : w.cell? ⟨g, 0, none⟩ = some (.int .i64 y)) (hl : l.length ≤ 1000000000000) (hB : B ≤ w.heap.size)
  (hK : ∀ v' w', IOwn w' B v' (l ++ [y]) → Grow 3 B w w' → wpList Tryz.prog ops Q rest (a.put o.dst v') w') : wpList Tryz.prog ops Q (o :: rest) a w := by
 obtain ⟨i, hi, hz, hsz, hby⟩ := infoI;refine wpList_append_own_at w hg s x 24 hop B 3 i _ 1 8 Tryz.underlying24 hi hz hsz hby rfl (by decide) v l.length (l.map (Value.int .i64)) hs hown ⟨g, 0, none⟩ 1 c [.int .i64 y] hx rfl (fun j u hj => ?_) (by simp [Value.oneCell']) (by unfold maxLen; omega) (by omega) hB ?_
 ·cases j with
  | zero => simp at hj; subst hj; exact hat
  | succ j => simp at hj
 ·intro v' w' h1 h2 _ _
  refine hK v' w' ?_ (grow_of hown hB h2);unfold IOwn;rw [List.map_append, List.length_append]
  exact h1
theorem wp_appP (hg : o.guard = none) (s x : Operand) (hop : o.op = .call { callee := .builtin .append, args := #[s, x], argTypes := #[111, 111] }) (B g c : Nat) (v : Value) (l : List Sp9) (y : Sp9) (hs : a.eval s = v) (hx : a.eval x = .slice (some ⟨g, 0, none⟩) 1 c)
  (hown : SOwn w B v l) (hat : w.cell? ⟨g, 0, none⟩ = some (.int .i64 y.idx)) (hat1 : w.cell? ⟨g, 1, none⟩ = some (.int .i64 y.sec)) (hl : l.length ≤ 1000000000) (hB : B ≤ w.heap.size)
  (hK : ∀ v' w', SOwn w' B v' (l ++ [y]) → Grow 116 B w w' → wpList Tryz.prog ops Q rest (a.put o.dst v') w') : wpList Tryz.prog ops Q (o :: rest) a w := by
 obtain ⟨i, hi, hz, hsz, hby⟩ := infoSp;refine wpList_append_own_at w hg s x 111 hop B 116 i _ 2 16 Tryz.underlying111 hi hz hsz hby rfl (by decide) v l.length (flatS l) hs hown ⟨g, 0, none⟩ 1 c [.int .i64 y.idx, .int .i64 y.sec] hx rfl (fun j u hj => ?_) (by simp [Value.oneCell']) (by unfold maxLen; omega) (by omega) hB ?_
 ·match j, hj with
  | 0, hj => simp at hj; subst hj; exact hat
  | 1, hj => simp at hj; subst hj; exact hat1
  | j + 2, hj => simp at hj
 ·intro v' w' h1 h2 _ _
  refine hK v' w' ?_ (grow_of hown hB h2);unfold SOwn;rw [flatS_one, List.length_append]
  exact h1
theorem wp_appPs (hg : o.guard = none) (s x : Operand) (hop : o.op = .call { callee := .builtin .append, args := #[s, x], argTypes := #[111, 111] }) (B B2 : Nat) (v v2 : Value) (l m : List Sp9) (hs : a.eval s = v) (hx : a.eval x = v2)
  (hown : SOwn w B v l) (hat : SOwn w B2 v2 m) (hl : l.length ≤ 1000000000) (hm : m.length ≤ 1000000000) (hB : B ≤ w.heap.size)
  (hK : ∀ v' w', SOwn w' B v' (l ++ m) → Grow 116 B w w' → wpList Tryz.prog ops Q rest (a.put o.dst v') w') : wpList Tryz.prog ops Q (o :: rest) a w := by
 obtain ⟨i, hi, hz, hsz, hby⟩ := infoSp
 rcases hat.2 with ⟨rfl, h0⟩ | ⟨g, cap, cur, rfl, _⟩
 ·obtain rfl : m = [] := List.eq_nil_of_length_eq_zero h0
  obtain ⟨a1, c1, rfl, hlen, _⟩ := row_shape9 hown
  refine wpList_plain hg fun K hK' => ?_
  unfold Oper.wp execOp
  have hr : (Builtin.append_ #[111, 111] o.type #[.slice a1 l.length c1, .slice none 0 0]).run Tryz.prog w = .ok (.slice a1 l.length c1) w := by
   simp [Builtin.append_, run_underlying Tryz.underlying111, sizeOf, typeInfo, hi, Builtin.lenOf, Builtin.firstCells, hlen]
   cases a1 <;> simp [storeCells]
  simp only [hop, resolve, invoke, builtin, Sem.run_bind, Sem.run_pure, Result.andThen_ok, List.map_toArray, List.map_cons, List.map_nil, hs, hx, hr]
  exact hK' _ _ (hK _ _ (by rw [List.append_nil]; exact hown) ⟨Below.refl _ _, fun _ _ _ _ h _ => h, Nat.le_refl _⟩)
 ·refine wpList_append_own_at w hg s x 111 hop B 116 i _ 2 16 Tryz.underlying111 hi hz hsz hby rfl (by decide) v l.length (flatS l) hs hown ⟨g, 0, none⟩ m.length cap (flatS m) hx (flatS_len m) (fun j u hj => World.ownsRow.cells hat rfl j u hj) (flatS_cell1 m) (by unfold maxLen; omega) (by omega) hB ?_
  intro v' w' h1 h2 _ _
  refine hK v' w' ?_ (grow_of hown hB h2);unfold SOwn;rw [flatS_app, List.length_append]
  exact h1
end
def rowsAns : List Row9 → List Sp9 × Int
 | [] => ([], 0)
 | x :: xs => if x.err = 0 then (if (rowsAns xs).2 = 0 then (spotRow x ++ (rowsAns xs).1, 0) else ([], (rowsAns xs).2)) else ([], x.err)
theorem ans_ok : ∀ (rs : List Row9), (∀ x ∈ rs, x.err = 0) → rowsAns rs = (rs.flatMap spotRow, 0)
 | [], _ => rfl
 | x :: xs, h => by
  have ih := ans_ok xs (fun y hy => h y (by simp [hy]));unfold rowsAns;rw [if_pos (h x (by simp)), ih]
  simp
theorem ans_bad : ∀ (rs : List Row9) (k : Nat) (x : Row9), rs[k]? = some x → (∀ j y, j < k → rs[j]? = some y → y.err = 0) → x.err ≠ 0 → rowsAns rs = ([], x.err)
 | [], k, x, h, _, _ => by simp at h
 | y :: rs, 0, x, h, _, hx => by simp at h; subst h; unfold rowsAns; rw [if_neg hx]
 | y :: rs, k + 1, x, h, ho, hx => by
  have ih := ans_bad rs k x (by simpa using h) (fun j z hj hz => ho (j + 1) z (by omega) (by simpa using hz)) hx;unfold rowsAns;rw [if_pos (ho 0 y (by omega) rfl), ih]
  simp [hx]

end Go.Proofs.YtpmignilhoihnaaGreat

namespace Go.Proofs.YtpmignilhoihnaaGreat
open Go.RowKit Go.Shelf

theorem iown_below {A B : World} {n : Nat} {v : Value} {l : List Int} (h : IOwn A n v l) (hb : Below A.heap.size A B) : IOwn B n v l := h.keep (Chg.of_below hb No) (fun _ _ e => e)
def tblR (s : Src9) (z : List Int) : List Int × Int :=
 if z.getD 17 0 = 0 then ((if z.getD 16 0 = 0 then [] else [z.getD 16 0]), 0)
 else if (tab9 s (z.getD 17 0)).2 = 0 then ((if z.getD 16 0 = 0 then [] else [z.getD 16 0]) ++ [z.getD 17 0] ++ (thereL (tab9 s (z.getD 17 0)).1).map (·.2), 0)
 else ([], (tab9 s (z.getD 17 0)).2)
theorem tblR_none {s : Src9} {z : List Int} (h : z.getD 17 0 = 0) : tblR s z = ((if z.getD 16 0 = 0 then [] else [z.getD 16 0]), 0) := if_pos h
theorem tblR_bad {s : Src9} {z : List Int} (h : ¬ z.getD 17 0 = 0) (he : ¬ (tab9 s (z.getD 17 0)).2 = 0) : tblR s z = ([], (tab9 s (z.getD 17 0)).2) := by
 unfold tblR; rw [if_neg h, if_neg he]
theorem tblR_ok {s : Src9} {z : List Int} (h : ¬ z.getD 17 0 = 0) (he : (tab9 s (z.getD 17 0)).2 = 0) : tblR s z = ((if z.getD 16 0 = 0 then [] else [z.getD 16 0]) ++ [z.getD 17 0] ++ (thereL (tab9 s (z.getD 17 0)).1).map (fun y : Nat × Int => y.2), 0) := by
 unfold tblR; rw [if_neg h, if_pos he]
def spK (fr : Int) (T : List Int) (k : Nat) : List Sp9 := (plc T k).map fun (j : Nat) => (⟨fr + (j : Int), T.getD j 0, 0⟩ : Sp9)
theorem spK_zero {fr : Int} {T : List Int} {k : Nat} (h : T.getD k 0 = 0) : spK fr T (k + 1) = spK fr T k := by
 unfold spK;rw [plc_succ]
 have : nz T k = false := by simp only [nz, h]; decide
 simp [this]
theorem spK_some {fr : Int} {T : List Int} {k : Nat} (h : T.getD k 0 ≠ 0) : spK fr T (k + 1) = spK fr T k ++ [⟨fr + (k : Int), T.getD k 0, 0⟩] := by
 unfold spK;rw [plc_succ]
 have : nz T k = true := by simp only [nz]; exact decide_eq_true h
 simp [this]
theorem spK_le (fr : Int) (T : List Int) (k : Nat) : (spK fr T k).length ≤ k := by unfold spK; rw [List.length_map]; exact plc_le T k
theorem spK_row (fr : Int) (T : List Int) (e : Int) : spK fr T T.length = spotRow ⟨fr, T, e⟩ := by
 unfold spK spotRow thereL;rw [List.map_map]
 rfl
set_option maxRecDepth 100000 in
set_option maxHeartbeats 1000000 in
theorem rrow_any (T : List Int) (fr : Int) (w : World) (hT : T.length = 32) (h0 : 0 ≤ fr) (h1 : fr ≤ 100000) :
  Calls Tryz.prog 98 #[.agg (NA T), .int .i64 fr] w fun e w' => ∃ v, e = .returned v ∧ SOwn w' w.heap.size v (spotRow ⟨fr, T, 0⟩) ∧ Below w.heap.size w w' := by
 obtain ⟨W, hW⟩ : ∃ y, y = w.alloc (.cells (NA T) 103) := ⟨_, rfl⟩
 have HB : Hid (Below w.heap.size w W) := by rw [hW]; exact (Below.refl _ _).alloc (Nat.le_refl _) _
 have H0 : Hid (W.heap[w.heap.size]? = some (.cells (NA T) 103 (0, 0))) := by rw [hW]; exact heap_alloc_new _ _
 have HR := hid (spK_row fr T 0);rw [hT] at HR
 go_enter Tryz.func98, Tryz.ntmps98
 go_upto_region 1 with fail
 rw [← hW];clear hW
 go_upto_region 3 with fail
 go_loopw [5, 6] (fun v i wr => ∃ (k : Nat), k ≤ 32 ∧ i = .int .i64 k ∧ Hid (SOwn wr w.heap.size v (spK fr T k)) ∧ Hid (Below w.heap.size w wr) ∧ Hid (wr.heap[w.heap.size]? = some (.cells (NA T) 103 (0, 0)))) (fun _ i _ => 32 - (intOf i).toNat)
 case atStart => exact ⟨0, by omega, rfl, hid (World.ownsRow_nil _ _ _ _), HB, H0⟩
 case round =>
  obtain ⟨k, hk, rfl, HO, HBr, HTr⟩ := hrel
  by_cases hlt : k < 32
  ·have hcx := row_cell HTr.out k (by omega)
   have hz0 : Hid (T.getD k 0 = 0 → spK fr T (k + 1) = spK fr T k) := hid spK_zero;have hs0 : Hid (T.getD k 0 ≠ 0 → spK fr T (k + 1) = spK fr T k ++ [⟨fr + (k : Int), T.getD k 0, 0⟩]) := hid spK_some
   generalize T.getD k 0 = x at *
   have j0 : (0 : Int) ≤ (k : Int) := by omega
   have j1 : (k : Int) < 32 := by omega
   by_cases hx : x = 0
   ·have HE := hid (hz0.out hx)
    subst hx;clear hs0 hz0
    go_wp2_with fail
    exact ⟨⟨k + 1, by omega, by go_num, by rw [HE.out]; exact HO, HBr, HTr⟩, by simp [intOf]; omega⟩
   ·have HE := hid (hs0.out hx)
    clear hs0 hz0;obtain ⟨av, cv, hv, _, _⟩ := row_shape9 HO.out;subst hv;have hl := spK_le fr T k;have hcx2 : (wr.alloc (.cells #[.int .i64 (fr + (k : Int)), .int .i64 x] 116)).heap[wr.heap.size]? = some (.cells #[.int .i64 (fr + (k : Int)), .int .i64 x] 116 (0, 0)) := heap_alloc_new _ _;have HN := hid hcx2;clear hcx2
    have hbnd1 : fr + (k : Int) ≤ 100040 := by omega
    have hbnd2 : 0 ≤ fr + (k : Int) := by omega
    go_wp2_with (first
     | (at_builtin; refine wp_appP rfl _ _ rfl w.heap.size wr.heap.size 1 _ (spK fr T k) ⟨fr + (k : Int), x, 0⟩ rfl rfl (ownsRow_alloc9 HO.out _) (by rw [cell_of_row _ _ _ _ _ _ HN.out]; rfl) (by rw [cell_of_row _ _ _ _ _ _ HN.out]; rfl) (by omega) (by have := HBr.out.size; simp; omega) ?_; intro v2 w2 ho2 hg2))
    obtain ⟨av2, cv2, hv2, _, _⟩ := row_shape9 ho2
    have hTa : (wr.alloc (.cells #[.int .i64 (fr + (k : Int)), .int .i64 x] 116)).heap[w.heap.size]? = some (.cells (NA T) 103 (0, 0)) := by rw [Below.heap_alloc _ _ _ (slt HTr.out)]; exact HTr.out
    exact ⟨⟨k + 1, by omega, by go_num, by rw [HE.out]; exact ho2, hid ((HBr.out.alloc HBr.out.size _).trans hg2.low), hid (hg2.keep _ _ _ _ hTa (by decide))⟩, by simp [intOf]; omega⟩
  ·obtain rfl : k = 32 := by omega
   have HO2 : Hid (SOwn wr w.heap.size u5 (spotRow ⟨fr, T, 0⟩)) := by rw [← HR.out]; exact HO
   go_wp2_with fail
   go_ret
   exact ⟨_, rfl, HO2.out, HBr.out⟩
def nzK (T : List Int) (k : Nat) : List Int := (plc T k).map fun (j : Nat) => T.getD j 0
theorem nzK_zero {T : List Int} {k : Nat} (h : T.getD k 0 = 0) : nzK T (k + 1) = nzK T k := by
 unfold nzK;rw [plc_succ]
 have : nz T k = false := by simp only [nz, h]; decide
 simp [this]
theorem nzK_some {T : List Int} {k : Nat} (h : T.getD k 0 ≠ 0) : nzK T (k + 1) = nzK T k ++ [T.getD k 0] := by
 unfold nzK;rw [plc_succ]
 have : nz T k = true := by simp only [nz]; exact decide_eq_true h
 simp [this]
theorem nzK_le (T : List Int) (k : Nat) : (nzK T k).length ≤ k := by unfold nzK; rw [List.length_map]; exact plc_le T k
theorem nzK_row (T : List Int) : nzK T T.length = (thereL T).map (fun y : Nat × Int => y.2) := by
 unfold nzK thereL;rw [List.map_map]
 rfl
set_option maxRecDepth 100000 in
set_option maxHeartbeats 2000000 in
theorem rTables_any (a : Option Addr) (c : Nat) (s : Src9) (z : List Int) (w : World) (hz : z.length = 18) (hi : ImgAt w a s.im) :
  Calls Tryz.prog 64 #[.agg (srcV a c s), .agg (NA z)] w fun e w' => ∃ v, e = .returned (.tuple #[v, .int .i64 (tblR s z).2]) ∧ IOwn w' w.heap.size v (tblR s z).1 ∧ Below w.heap.size w w' := by
 have hzp := zero_ptr;obtain ⟨SV, hSV⟩ : ∃ y, y = srcV a c s := ⟨_, rfl⟩;have HSV := hid hSV
 have hS3 : SV.size = 3 := by rw [hSV]; rfl
 rw [← hSV];clear hSV;obtain ⟨W, hW⟩ : ∃ y, y = (w.alloc (.cells SV 109)).alloc (.cells (NA z) 51) := ⟨_, rfl⟩
 have H0 : Hid (W.heap[w.heap.size]? = some (.cells SV 109 (0, 0))) := by rw [hW]; exact heap_alloc2_old w _ _
 have H1 : Hid (W.heap[w.heap.size + 1]? = some (.cells (NA z) 51 (0, 0))) := by rw [hW]; exact heap_alloc2_new w _ _
 have HB : Hid (Below w.heap.size w W) := by rw [hW]; exact ((Below.refl _ _).alloc (Nat.le_refl _) _).alloc (by simp) _
 have HT := hid (fun (n : Int) (X : World) (hX : Below w.heap.size w X) => show Calls Tryz.prog 97 #[.agg SV, .int .i64 n] X (fun e w' => e = .returned (.tuple #[.agg (NA (rtab9 s n).1), .int .i64 (rtab9 s n).2]) ∧ Below X.heap.size X w') from by
  have := rtable_any a c s n X (hi.below hX);rw [← HSV.out] at this
  exact this)
 obtain ⟨S1, hS1⟩ : ∃ y, y = z.getD 16 0 := ⟨_, rfl⟩;obtain ⟨D1, hD1⟩ : ∃ y, y = z.getD 17 0 := ⟨_, rfl⟩
 have cS : W.cell? ⟨w.heap.size + 1, 16, none⟩ = some (.int .i64 S1) := by rw [hS1]; exact row_cell H1.out 16 (by omega)
 have cD : W.cell? ⟨w.heap.size + 1, 17, none⟩ = some (.int .i64 D1) := by rw [hD1]; exact row_cell H1.out 17 (by omega)
 have HD1 := hid hD1;have TN := hid (@tblR_none s z);have TB := hid (@tblR_bad s z);have TO := hid (@tblR_ok s z);rw [← hS1, ← hD1] at TN;rw [← hD1] at TB;rw [← hS1, ← hD1] at TO;clear hS1 hD1
 go_enter Tryz.func64, Tryz.ntmps64
 go_upto_region 1 with fail
 rw [← hW];clear hW
 by_cases h16 : S1 = 0
 ·have L0e : Hid ((if S1 = 0 then [] else [S1]) = ([] : List Int)) := if_pos h16
  subst h16
  go_upto_region 4 with fail
  have X1 := H1;have X0 := H0;have XB := HB;have XO : Hid (IOwn W w.heap.size (.slice none 0 0) []) := hid (World.ownsRow_nil _ _ _ _);have xD := cD
  by_cases h17 : D1 = 0
  ·have HE := hid ((TN.out h17).trans (by rw [L0e.out]))
   subst h17
   go_wp2_with fail
   exact bodyPost_ret (results_2t Tryz.results64 _ _) rfl ⟨_, by rw [HE.out]; rfl, by rw [HE.out]; exact XO.out, XB.out⟩
  have hrt : rtab9 s D1 = tab9 s D1 := if_neg h17;have HNy : Hid ((W.alloc (.cells #[.int .i64 D1] 3)).heap[W.heap.size]? = some (.cells #[.int .i64 D1] 3 (0, 0))) := heap_alloc_new _ _;have hTl := tab9_len s D1;have HTD := hid (HT.out D1);rw [hrt] at HTD
  go_upto_region 8 with (first
   | (at_builtin; go_must (refine wp_appI9 rfl _ _ rfl w.heap.size W.heap.size 1 (.slice none 0 0) [] D1 rfl rfl (ownsRow_alloc9 XO.out _) (by rw [cell_of_row _ _ _ _ _ _ HNy.out]; rfl) (by simp) (by have := XB.out.size; simp; omega) ?_; intro v2 Y ho2 hg2; have YO := hid ho2; obtain ⟨a2, c2, hv2, _, _⟩ := row_shape9 ho2; subst hv2; have Y0 := hid (hg2.keep _ _ _ _ (by rw [Below.heap_alloc _ _ _ (slt X0.out)]; exact X0.out) (by decide)); have Y1 := hid (hg2.keep _ _ _ _ (by rw [Below.heap_alloc _ _ _ (slt X1.out)]; exact X1.out) (by decide)); have YB : Hid (Below w.heap.size w Y) := hid ((XB.out.alloc XB.out.size _).trans hg2.low); have yD : Y.cell? ⟨w.heap.size + 1, 17, none⟩ = some (.int .i64 D1) := (by rw [HD1.out]; exact row_cell Y1.out 17 (by omega)); clear ho2 hg2))
   | (refine load_R rfl 109 (.tmp 2) rfl w.heap.size rfl 109 SV _ Y0.out Tryz.underlying109 rfl (by rw [szSrc, hS3]) ?_)
   | (go_at_call 97; go_must (refine (HTD.out Y YB.out).mono ?_; rintro e w5 ⟨rfl, hb5⟩; have HB5 := hid hb5; clear hb5))
   | (refine store_R rfl 103 (.tmp 7) (.tmp 32) rfl w5.heap.size (NA (tab9 s D1).1) rfl rfl 103 (NA Zp) (heap_alloc_new _ _) (by rw [szP, NA_size, hTl]) (by rw [NA_size, NA_size, Zp_len, hTl]) (NA_one _) ?_; go_must (intro w6 p6; have P6 := hid p6.here; have B6 : Hid (Below Y.heap.size Y w6) := hid (p6.below (HB5.out.alloc HB5.out.size _) HB5.out.size); clear p6)))
  have W6 : Hid (Below w.heap.size w w6) := hid (btr YB.out B6.out YB.out.size);have O6 := hid (iown_below YO.out B6.out)
  by_cases he : ¬ (tab9 s D1).2 = 0
  ·have HE := hid (TB.out h17 he)
   go_wp2_with fail
   exact bodyPost_ret (results_2t Tryz.results64 _ _) rfl ⟨_, by rw [HE.out]; rfl, by rw [HE.out]; exact World.ownsRow_nil _ _ _ _, W6.out⟩
  have he2 : (tab9 s D1).2 = 0 := Decidable.not_not.1 he;have HE := hid ((TO.out h17 he2).trans (by rw [L0e.out, ← nzK_row, hTl]));rw [he2];clear he he2;obtain ⟨T, hT⟩ : ∃ y, y = (tab9 s D1).1 := ⟨_, rfl⟩;rw [← hT] at HE P6 hTl;clear hT;obtain ⟨PL, hPL⟩ : ∃ y, y = [] ++ [D1] := ⟨_, rfl⟩
  have hPn : PL.length ≤ 2 := by rw [hPL]; simp
  rw [← hPL] at HE
  have O6' : Hid (IOwn w6 w.heap.size (.slice a2 PL.length c2) PL) := by rw [hPL]; exact O6
  have hPLl : PL.length = ([] ++ [D1]).length := by rw [hPL]
  clear hPL
  go_upto_region 11 with fail
  go_loopw [6, 9] (fun v i wr => ∃ (k : Nat), k ≤ 32 ∧ i = .int .i64 k ∧ Hid (IOwn wr w.heap.size v (PL ++ nzK T k)) ∧ Hid (Below w.heap.size w wr) ∧ Hid (wr.heap[w5.heap.size]? = some (.cells (NA T) 103 (0, 0)))) (fun _ i _ => 32 - (intOf i).toNat)
  case atStart => exact ⟨0, by omega, rfl, hid (by have := O6'.out; rw [hPLl] at this; simpa [nzK, plc] using this), W6, P6⟩
  case round =>
   obtain ⟨k, hk, rfl, HO, HBr, HTr⟩ := hrel
   by_cases hlt : k < 32
   ·have hcx := row_cell HTr.out k (by omega)
    have hz0 : Hid (T.getD k 0 = 0 → nzK T (k + 1) = nzK T k) := hid nzK_zero;have hs0 : Hid (T.getD k 0 ≠ 0 → nzK T (k + 1) = nzK T k ++ [T.getD k 0]) := hid nzK_some
    generalize T.getD k 0 = x at *
    have j0 : (0 : Int) ≤ (k : Int) := by omega
    have j1 : (k : Int) < 32 := by omega
    by_cases hx : x = 0
    ·have HE1 := hid (hz0.out hx)
     subst hx;clear hs0 hz0
     go_wp2_with fail
     exact ⟨⟨k + 1, by omega, by go_num, by rw [HE1.out]; exact HO, HBr, HTr⟩, by simp [intOf]; omega⟩
    ·have HE1 := hid (hs0.out hx)
     clear hs0 hz0;obtain ⟨LK, hLK⟩ : ∃ y, y = PL ++ nzK T k := ⟨_, rfl⟩
     have hl : LK.length ≤ 100 := by have := nzK_le T k; rw [hLK, List.length_append]; omega
     have HE2 : Hid (PL ++ nzK T (k + 1) = LK ++ [x]) := by rw [HE1.out, hLK]; exact hid (by simp)
     rw [← hLK] at HO;clear hLK HE1;obtain ⟨av, cv, hv, _, _⟩ := row_shape9 HO.out;subst hv;have HN : Hid ((wr.alloc (.cells #[.int .i64 x] 3)).heap[wr.heap.size]? = some (.cells #[.int .i64 x] 3 (0, 0))) := heap_alloc_new _ _
     go_wp2_with (first
      | (at_builtin; refine wp_appI9 rfl _ _ rfl w.heap.size wr.heap.size 1 _ LK x rfl rfl (ownsRow_alloc9 HO.out _) (by rw [cell_of_row _ _ _ _ _ _ HN.out]; rfl) (by omega) (by have := HBr.out.size; simp; omega) ?_; intro v2 w2 ho2 hg2))
     have hTa : (wr.alloc (.cells #[.int .i64 x] 3)).heap[w5.heap.size]? = some (.cells (NA T) 103 (0, 0)) := by rw [Below.heap_alloc _ _ _ (slt HTr.out)]; exact HTr.out
     exact ⟨⟨k + 1, by omega, by go_num, by rw [HE2.out]; exact hid ho2, hid ((HBr.out.alloc HBr.out.size _).trans hg2.low), hid (hg2.keep _ _ _ _ hTa (by decide))⟩, by simp [intOf]; omega⟩
   ·obtain rfl : k = 32 := by omega
    go_wp2_with fail
    exact bodyPost_ret (results_2t Tryz.results64 _ _) rfl ⟨_, by rw [HE.out]; rfl, by rw [HE.out]; exact HO.out, HBr.out⟩
 ·have L0e : Hid ((if S1 = 0 then [] else [S1]) = [S1]) := if_neg h16
  obtain ⟨n0, hn0⟩ : ∃ y : Option Addr, y = none := ⟨_, rfl⟩;have HNw : Hid ((W.alloc (.cells #[.int .i64 S1] 3)).heap[W.heap.size]? = some (.cells #[.int .i64 S1] 3 (0, 0))) := heap_alloc_new _ _;have HWO : Hid (IOwn W w.heap.size (.slice none 0 0) []) := hid (World.ownsRow_nil _ _ _ _)
  go_upto_region 4 with (first
   | (at_builtin; go_must (refine wp_appI9 rfl _ _ rfl w.heap.size W.heap.size 1 (.slice none 0 0) [] S1 rfl rfl (ownsRow_alloc9 HWO.out _) (by rw [cell_of_row _ _ _ _ _ _ HNw.out]; rfl) (by simp) (by have := HB.out.size; simp; omega) ?_; intro v1 X ho1 hg1; have XO := hid ho1; obtain ⟨a1, c1, hv1, _, _⟩ := row_shape9 ho1; subst hv1; have X0 := hid (hg1.keep _ _ _ _ (by rw [Below.heap_alloc _ _ _ (slt H0.out)]; exact H0.out) (by decide)); have X1 := hid (hg1.keep _ _ _ _ (by rw [Below.heap_alloc _ _ _ (slt H1.out)]; exact H1.out) (by decide)); have XB : Hid (Below w.heap.size w X) := hid ((HB.out.alloc HB.out.size _).trans hg1.low); clear ho1 hg1)))
  have xD : X.cell? ⟨w.heap.size + 1, 17, none⟩ = some (.int .i64 D1) := by rw [HD1.out]; exact row_cell X1.out 17 (by omega)
  clear hn0
  by_cases h17 : D1 = 0
  ·have HE := hid ((TN.out h17).trans (by rw [L0e.out]))
   subst h17
   go_wp2_with fail
   exact bodyPost_ret (results_2t Tryz.results64 _ _) rfl ⟨_, by rw [HE.out]; rfl, by rw [HE.out]; exact XO.out, XB.out⟩
  have hrt : rtab9 s D1 = tab9 s D1 := if_neg h17;have HNy : Hid ((X.alloc (.cells #[.int .i64 D1] 3)).heap[X.heap.size]? = some (.cells #[.int .i64 D1] 3 (0, 0))) := heap_alloc_new _ _;have hTl := tab9_len s D1;have HTD := hid (HT.out D1);rw [hrt] at HTD
  go_upto_region 8 with (first
   | (at_builtin; go_must (refine wp_appI9 rfl _ _ rfl w.heap.size X.heap.size 1 (.slice a1 1 c1) [S1] D1 rfl rfl (ownsRow_alloc9 XO.out _) (by rw [cell_of_row _ _ _ _ _ _ HNy.out]; rfl) (by simp) (by have := XB.out.size; simp; omega) ?_; intro v2 Y ho2 hg2; have YO := hid ho2; obtain ⟨a2, c2, hv2, _, _⟩ := row_shape9 ho2; subst hv2; have Y0 := hid (hg2.keep _ _ _ _ (by rw [Below.heap_alloc _ _ _ (slt X0.out)]; exact X0.out) (by decide)); have Y1 := hid (hg2.keep _ _ _ _ (by rw [Below.heap_alloc _ _ _ (slt X1.out)]; exact X1.out) (by decide)); have YB : Hid (Below w.heap.size w Y) := hid ((XB.out.alloc XB.out.size _).trans hg2.low); have yD : Y.cell? ⟨w.heap.size + 1, 17, none⟩ = some (.int .i64 D1) := (by rw [HD1.out]; exact row_cell Y1.out 17 (by omega)); clear ho2 hg2))
   | (refine load_R rfl 109 (.tmp 2) rfl w.heap.size rfl 109 SV _ Y0.out Tryz.underlying109 rfl (by rw [szSrc, hS3]) ?_)
   | (go_at_call 97; go_must (refine (HTD.out Y YB.out).mono ?_; rintro e w5 ⟨rfl, hb5⟩; have HB5 := hid hb5; clear hb5))
   | (refine store_R rfl 103 (.tmp 7) (.tmp 32) rfl w5.heap.size (NA (tab9 s D1).1) rfl rfl 103 (NA Zp) (heap_alloc_new _ _) (by rw [szP, NA_size, hTl]) (by rw [NA_size, NA_size, Zp_len, hTl]) (NA_one _) ?_; go_must (intro w6 p6; have P6 := hid p6.here; have B6 : Hid (Below Y.heap.size Y w6) := hid (p6.below (HB5.out.alloc HB5.out.size _) HB5.out.size); clear p6)))
  have W6 : Hid (Below w.heap.size w w6) := hid (btr YB.out B6.out YB.out.size);have O6 := hid (iown_below YO.out B6.out)
  by_cases he : ¬ (tab9 s D1).2 = 0
  ·have HE := hid (TB.out h17 he)
   go_wp2_with fail
   exact bodyPost_ret (results_2t Tryz.results64 _ _) rfl ⟨_, by rw [HE.out]; rfl, by rw [HE.out]; exact World.ownsRow_nil _ _ _ _, W6.out⟩
  have he2 : (tab9 s D1).2 = 0 := Decidable.not_not.1 he;have HE := hid ((TO.out h17 he2).trans (by rw [L0e.out, ← nzK_row, hTl]));rw [he2];clear he he2;obtain ⟨T, hT⟩ : ∃ y, y = (tab9 s D1).1 := ⟨_, rfl⟩;rw [← hT] at HE P6 hTl;clear hT;obtain ⟨PL, hPL⟩ : ∃ y, y = [S1] ++ [D1] := ⟨_, rfl⟩
  have hPn : PL.length ≤ 2 := by rw [hPL]; simp
  rw [← hPL] at HE
  have O6' : Hid (IOwn w6 w.heap.size (.slice a2 PL.length c2) PL) := by rw [hPL]; exact O6
  have hPLl : PL.length = ([S1] ++ [D1]).length := by rw [hPL]
  clear hPL
  go_upto_region 11 with fail
  go_loopw [6, 9] (fun v i wr => ∃ (k : Nat), k ≤ 32 ∧ i = .int .i64 k ∧ Hid (IOwn wr w.heap.size v (PL ++ nzK T k)) ∧ Hid (Below w.heap.size w wr) ∧ Hid (wr.heap[w5.heap.size]? = some (.cells (NA T) 103 (0, 0)))) (fun _ i _ => 32 - (intOf i).toNat)
  case atStart => exact ⟨0, by omega, rfl, hid (by have := O6'.out; rw [hPLl] at this; simpa [nzK, plc] using this), W6, P6⟩
  case round =>
   obtain ⟨k, hk, rfl, HO, HBr, HTr⟩ := hrel
   by_cases hlt : k < 32
   ·have hcx := row_cell HTr.out k (by omega)
    have hz0 : Hid (T.getD k 0 = 0 → nzK T (k + 1) = nzK T k) := hid nzK_zero;have hs0 : Hid (T.getD k 0 ≠ 0 → nzK T (k + 1) = nzK T k ++ [T.getD k 0]) := hid nzK_some
    generalize T.getD k 0 = x at *
    have j0 : (0 : Int) ≤ (k : Int) := by omega
    have j1 : (k : Int) < 32 := by omega
    by_cases hx : x = 0
    ·have HE1 := hid (hz0.out hx)
     subst hx;clear hs0 hz0
     go_wp2_with fail
     exact ⟨⟨k + 1, by omega, by go_num, by rw [HE1.out]; exact HO, HBr, HTr⟩, by simp [intOf]; omega⟩
    ·have HE1 := hid (hs0.out hx)
     clear hs0 hz0;obtain ⟨LK, hLK⟩ : ∃ y, y = PL ++ nzK T k := ⟨_, rfl⟩
     have hl : LK.length ≤ 100 := by have := nzK_le T k; rw [hLK, List.length_append]; omega
     have HE2 : Hid (PL ++ nzK T (k + 1) = LK ++ [x]) := by rw [HE1.out, hLK]; exact hid (by simp)
     rw [← hLK] at HO;clear hLK HE1;obtain ⟨av, cv, hv, _, _⟩ := row_shape9 HO.out;subst hv;have HN : Hid ((wr.alloc (.cells #[.int .i64 x] 3)).heap[wr.heap.size]? = some (.cells #[.int .i64 x] 3 (0, 0))) := heap_alloc_new _ _
     go_wp2_with (first
      | (at_builtin; refine wp_appI9 rfl _ _ rfl w.heap.size wr.heap.size 1 _ LK x rfl rfl (ownsRow_alloc9 HO.out _) (by rw [cell_of_row _ _ _ _ _ _ HN.out]; rfl) (by omega) (by have := HBr.out.size; simp; omega) ?_; intro v2 w2 ho2 hg2))
     have hTa : (wr.alloc (.cells #[.int .i64 x] 3)).heap[w5.heap.size]? = some (.cells (NA T) 103 (0, 0)) := by rw [Below.heap_alloc _ _ _ (slt HTr.out)]; exact HTr.out
     exact ⟨⟨k + 1, by omega, by go_num, by rw [HE2.out]; exact hid ho2, hid ((HBr.out.alloc HBr.out.size _).trans hg2.low), hid (hg2.keep _ _ _ _ hTa (by decide))⟩, by simp [intOf]; omega⟩
   ·obtain rfl : k = 32 := by omega
    go_wp2_with fail
    exact bodyPost_ret (results_2t Tryz.results64 _ _) rfl ⟨_, by rw [HE.out]; rfl, by rw [HE.out]; exact HO.out, HBr.out⟩

end Go.Proofs.YtpmignilhoihnaaGreat
