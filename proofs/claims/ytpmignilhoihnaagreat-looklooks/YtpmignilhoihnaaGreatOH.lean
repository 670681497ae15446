/-
 The document's isEntry, walked.
-/
import Derived.Test.YtpmignilhoihnaaGreatOC1
namespace Go.Proofs.YtpmignilhoihnaaGreat
open Go.RowKit Go.Shelf

theorem rinode_b (s : List Int) (hs : IsSec s) (w : World) : Calls Tryz.prog 33 #[.agg (SA s)] w fun e w' => e = .returned (.tuple #[.agg (NA (rdIno (zTo s 18) s).1), .int .i64 (rdIno (zTo s 18) s).2]) ∧ Below w.heap.size w w' := by
 refine (rreadInode_any s hs w).mono ?_
 rintro e w' ⟨rfl, hb⟩
 rw [rd_same hs]
 exact ⟨rfl, hb⟩

set_option maxRecDepth 100000 in
set_option maxHeartbeats 1000000 in
theorem rsound_any {c : KC} {s : KT} (i : Int) (w : World) (h : IsK w c s) :
  Calls Tryz.prog 28 #[.pointer (some ⟨c.p, 0, none⟩), .int .i64 i] w fun e w' => e = .returned (.tuple #[.agg (NA (soundZ c.M c.im i).1), .bool (soundZ c.M c.im i).2]) ∧ Chg w w' No := by
 have hzi := zero_inode;have hbi := build_inode;have hA := Chg.alloc w (.cells (NA Zi) 51) No;have HA := hid hA;have HN := hid (heap_alloc_new w (.cells (NA Zi) 51));have hPA := h.call hA;have c1 := hPA.cM;have c2 := hPA.cI;have HH := hid h;have HPA := hid hPA;clear h hPA hA
 by_cases h1 : 1 ≤ i
 ·by_cases h2 : i ≤ c.M
  ·have HS : Hid (soundZ c.M c.im i = ((rdIno (zTo (secI c.im i) 18) (secI c.im i)).1, decide ((rdIno (zTo (secI c.im i) 18) (secI c.im i)).2 = 0) && decide ((rdIno (zTo (secI c.im i) 18) (secI c.im i)).1.getD 0 0 ≠ 0))) := hid (by unfold soundZ; rw [if_pos ⟨h1, h2⟩])
   obtain ⟨k, rfl⟩ : ∃ k : Nat, i = (k : Int) := ⟨i.toNat, by omega⟩
   have hkN : k < c.N := by have := HH.out.m2; omega
   have i1 : (k : Int) < (c.N : Int) := by omega
   have i0 : (0 : Int) ≤ (k : Int) := by omega
   obtain ⟨b, o, hia, hb, hr⟩ : ∃ b o, c.ia = some ⟨b, o, none⟩ ∧ b < (w.alloc (.cells (NA Zi) 51)).heap.size ∧ ∀ (j : Nat) s, c.im[j]? = some s → (w.alloc (.cells (NA Zi) 51)).rangeAt b (o + j * 128) (s.map (Value.int .u8)) := by
    rcases HPA.out.ci.2 with e | e
    ·have h1 := HPA.out.il; have h2 := HPA.out.n1; rw [e] at h1; simp at h1; omega
    ·exact e
   rw [hia] at c2;have hrk := hr k _ (getD_at (by rw [HPA.out.il]; exact hkN));have hsec := HPA.out.ci.secI (k : Int);have HRK := hid hrk;have HSL := hid hsec.1;have hRI := rinode_b (secI c.im (k : Int)) hsec (w.alloc (.cells (NA Zi) 51));have HRL : Hid ((rdIno (zTo (secI c.im (k : Int)) 18) (secI c.im (k : Int))).1.length = 18) := hid (rdIno_len (zTo_len _ _));rw [HS.out]
   generalize rdIno (zTo (secI c.im (k : Int)) 18) (secI c.im (k : Int)) = r at *
   generalize secI c.im (k : Int) = sk at *
   clear hr hrk hsec hia HS
   go_enter Tryz.func28, Tryz.ntmps28
   go_upto_region 4 with (first
    | (refine load_mid 33 _ rfl b (o + k * 128) rfl _ _ HRK.out Tryz.underlying33 rfl (by rw [sz26, List.length_map, HSL.out]) (by rfl) ?_)
    | (go_at_call 33; go_must (refine hRI.mono ?_; rintro e w1 ⟨rfl, hb1⟩))
    | (refine store_R rfl 51 _ _ rfl w1.heap.size (NA r.1) rfl rfl 51 _ (heap_alloc_new _ _) (by rw [szI, NA_size, HRL.out]) (by rw [NA_size, NA_size, Zi_len, HRL.out]) (NA_one _) ?_; intro w2 hw2)
    | fail)
   have hg6 := hw2.here;have hA1 : Chg (w.alloc (.cells (NA Zi) 51)) w2 No := ((Chg.of_below hb1 No).trans (Chg.alloc w1 (.cells (NA Zi) 51) No) (c := No) (fun _ _ e => e) (fun _ _ e => e)).trans (kt_new hw2) (fun _ _ e => e) (fun j hj e => by have := hb1.size; omega);have HN2 := hid (hA1.keep HN.out (fun e => e));have HC2 := hid (HA.out.trans hA1 (c := No) (fun _ _ e => e) (fun _ _ e => e));have HG6 := hid hg6;have HNE : Hid (w1.heap.size ≠ w.heap.size) := hid (by have := hb1.size; simp at this; omega);obtain ⟨g6, hg6e⟩ : ∃ y, y = w1.heap.size := ⟨_, rfl⟩;rw [← hg6e] at HG6 HNE;rw [← hg6e];clear hg6 hw2 hb1 hA1 hg6e hRI c1 c2;have HK := hid (row_cell HG6.out 0 (by rw [HRL.out]; decide));obtain ⟨rz, re⟩ := r
   simp only at *
   obtain ⟨K, hkk⟩ : ∃ y, y = rz.getD 0 0 := ⟨_, rfl⟩;rw [← hkk] at HK;have HKK := hid hkk;clear hkk;refine wp_region_noPanic ?_;refine wp_region_held_drew (S := fun w' => Chg w2 w' (· = w.heap.size)) (by kernel_rfl) (Chg.refl _ _).drew (fun hH => ?_)
   have hK6 := fun (W : World) (hW : Chg w2 W (· = w.heap.size)) => cell_keep HK.out hW (slt HG6.out) HNE.out
   by_cases he : re = 0
   ·have hre : re = 0 := he
    subst hre;refine takeR 0 31 51 (.tmp 6) g6 51 (NA rz) _ rfl (by kernel_rfl) (by kernel_rfl) (by kernel_rfl) rfl rfl rfl Tryz.underlying51 rfl (by rw [szI, NA_size, HRL.out]) (by rfl) (fun _ _ _ h => h) hH (fun W' hw' => hw'.keep HG6.out HNE.out) ?_;simp only [sS];refine tV 1 32 (.int .i64 0) rfl (by kernel_rfl) rfl (by rfl) hH (fun W' hw' => rfl) ?_;simp only [sS];refine tV 2 33 (.bool true) rfl (by kernel_rfl) rfl (by rfl) hH (fun W' hw' => by go_simp) ?_;simp only [sS];refine tV 3 34 (.bool true) rfl (by kernel_rfl) rfl (by rfl) hH (fun W' hw' => rfl) ?_;simp only [sS];refine tV 4 35 (.pointer (some ⟨g6, 0, none⟩)) rfl (by kernel_rfl) rfl (by rfl) hH (fun W' hw' => by go_simp) ?_;simp only [sS];refine tV 5 36 (.int .i64 K) rfl (by kernel_rfl) rfl (by rfl) hH (fun W' hw' => by have hc := hK6 W' hw'; go_simp) ?_;simp only [sS];refine tV 6 37 (.bool (K != 0)) rfl (by kernel_rfl) rfl (by rfl) hH (fun W' hw' => by go_simp) ?_;simp only [sS];refine tV 7 38 (.bool (K != 0)) rfl (by kernel_rfl) rfl (by rfl) hH (fun W' hw' => rfl) ?_;simp only [sS];refine step1 8 (by kernel_rfl) ?_;refine stStoreR 8 51 (.tmp 4) (.tmp 31) w.heap.size (NA rz) 51 (NA Zi) rfl rfl (by rfl) rfl rfl rfl (HN2.out) (by rw [szI, NA_size, HRL.out]) (by rw [NA_size, NA_size, Zi_len, HRL.out]) (NA_one _) ?_
    intro w5 hw5
    have h5 := hH.trans (kt_new hw5) (c := (· = w.heap.size)) (fun _ _ e => e) (fun _ _ e => e);refine ⟨h5, ?_⟩;refine tV 9 5 (.bool (K != 0)) rfl (by kernel_rfl) rfl (by rfl) h5 (fun W' hw' => rfl) ?_;simp only [sS];refine wpAnyH_done (by kernel_rfl) ?_ _;refine NoPanic.normal ?_
    go_wp2_with fail
    refine bodyPost_ret (v := .tuple #[.agg (NA rz), .bool (K != 0)]) (results_R Tryz.results28 _ _ w.heap.size _ 51 _ _ Tryz.underlying51 rfl (by rw [szI, NA_size, HRL.out]) rfl rfl hw5.here) rfl ⟨by rw [HKK.out, List.getD_eq_getElem?_getD]; by_cases hk : rz[0]?.getD 0 = 0 <;> simp [hk], (HC2.out.trans (Chg.refl w2 No).drew (c := No) (fun _ _ e => e) (fun _ _ e => e)).trans (kt_new hw5) (fun _ _ e => e) (fun j hj e => by omega)⟩
   ·have hre : (re == 0) = false := by simpa using he
    refine takeR 0 31 51 (.tmp 6) g6 51 (NA rz) _ rfl (by kernel_rfl) (by kernel_rfl) (by kernel_rfl) rfl rfl rfl Tryz.underlying51 rfl (by rw [szI, NA_size, HRL.out]) (by rfl) (fun _ _ _ h => h) hH (fun W' hw' => hw'.keep HG6.out HNE.out) ?_;simp only [sS];refine tV 1 32 (.int .i64 re) rfl (by kernel_rfl) rfl (by rfl) hH (fun W' hw' => rfl) ?_;simp only [sS];refine tV 2 33 (.bool false) rfl (by kernel_rfl) rfl (by rfl) hH (fun W' hw' => by go_simp) ?_;simp only [sS];refine tV 3 34 (.bool false) rfl (by kernel_rfl) rfl (by rfl) hH (fun W' hw' => rfl) ?_;simp only [sS];refine takeNot 4 35 rfl (by kernel_rfl) (by kernel_rfl) (by kernel_rfl) rfl (by rfl) (fun _ _ _ h => h) hH ?_;simp only [sS];refine takeNot 5 36 rfl (by kernel_rfl) (by kernel_rfl) (by kernel_rfl) rfl (by rfl) (fun _ _ _ h => h) hH ?_;simp only [sS];refine takeNot 6 37 rfl (by kernel_rfl) (by kernel_rfl) (by kernel_rfl) rfl (by rfl) (fun _ _ _ h => h) hH ?_;simp only [sS];refine tV 7 38 (.bool false) rfl (by kernel_rfl) rfl (by rfl) hH (fun W' hw' => rfl) ?_;simp only [sS];refine step1 8 (by kernel_rfl) ?_;refine stStoreR 8 51 (.tmp 4) (.tmp 31) w.heap.size (NA rz) 51 (NA Zi) rfl rfl (by rfl) rfl rfl rfl (HN2.out) (by rw [szI, NA_size, HRL.out]) (by rw [NA_size, NA_size, Zi_len, HRL.out]) (NA_one _) ?_
    intro w5 hw5
    have h5 := hH.trans (kt_new hw5) (c := (· = w.heap.size)) (fun _ _ e => e) (fun _ _ e => e);refine ⟨h5, ?_⟩;refine tV 9 5 (.bool false) rfl (by kernel_rfl) rfl (by rfl) h5 (fun W' hw' => rfl) ?_;simp only [sS];refine wpAnyH_done (by kernel_rfl) ?_ _;refine NoPanic.normal ?_
    go_wp2_with fail
    refine bodyPost_ret (v := .tuple #[.agg (NA rz), .bool false]) (results_R Tryz.results28 _ _ w.heap.size _ 51 _ _ Tryz.underlying51 rfl (by rw [szI, NA_size, HRL.out]) rfl rfl hw5.here) rfl ⟨by simp, (HC2.out.trans (Chg.refl w2 No).drew (c := No) (fun _ _ e => e) (fun _ _ e => e)).trans (kt_new hw5) (fun _ _ e => e) (fun j hj e => by omega)⟩
  ·have HS : Hid (soundZ c.M c.im i = (Zi, false)) := hid (by unfold soundZ; rw [if_neg (by omega)])
   rw [HS.out]
   go_enter Tryz.func28, Tryz.ntmps28
   go_wp2_with (first
    | (refine store_R rfl 51 _ _ rfl w.heap.size (NA Zi) rfl rfl 51 _ HN.out (by rw [szI, NA_size, Zi_len]) rfl (NA_one _) ?_; intro w2 hw2)
    | fail)
   refine bodyPost_ret (v := .tuple #[.agg (NA Zi), .bool false]) (results_R Tryz.results28 _ _ w.heap.size _ 51 _ _ Tryz.underlying51 rfl (by rw [szI, NA_size, Zi_len]) rfl rfl hw2.here) rfl ⟨rfl, HA.out.trans (kt_new hw2) (fun _ _ e => e) (fun j hj e => by omega)⟩
 ·have HS : Hid (soundZ c.M c.im i = (Zi, false)) := hid (by unfold soundZ; rw [if_neg (by omega)])
  rw [HS.out]
  go_enter Tryz.func28, Tryz.ntmps28
  go_wp2_with (first
   | (refine store_R rfl 51 _ _ rfl w.heap.size (NA Zi) rfl rfl 51 _ HN.out (by rw [szI, NA_size, Zi_len]) rfl (NA_one _) ?_; intro w2 hw2)
   | fail)
  refine bodyPost_ret (v := .tuple #[.agg (NA Zi), .bool false]) (results_R Tryz.results28 _ _ w.heap.size _ 51 _ _ Tryz.underlying51 rfl (by rw [szI, NA_size, Zi_len]) rfl rfl hw2.here) rfl ⟨rfl, HA.out.trans (kt_new hw2) (fun _ _ e => e) (fun j hj e => by omega)⟩
end Go.Proofs.YtpmignilhoihnaaGreat

namespace Go.Proofs.YtpmignilhoihnaaGreat
open Go.RowKit Go.Shelf

def TOwn (w : World) (B : Nat) (v : Value) (l : List ByteArray) : Prop := w.ownsRow B 9 1 v l.length (l.map Value.string)
theorem infoT : ∃ i, Tryz.prog.info? 9 = some i ∧ i.zero = some (.string ⟨#[]⟩) ∧ i.size = 1 ∧ i.bytes = 16 := by
 have h : (Tryz.prog.info? 9).map (fun i => (i.zero, i.size, i.bytes)) = some (some (.string ⟨#[]⟩), 1, 16) := by kernel_rfl
 cases hq : Tryz.prog.info? 9 with
 | none => rw [hq] at h; cases h
 | some i =>
  rw [hq] at h
  simp at h
  exact ⟨i, rfl, h.1, h.2.1, h.2.2⟩
theorem TOwn.blk {w : World} {B : Nat} {v : Value} {l : List ByteArray} (h : TOwn w B v l) {k : Nat} (e : v.ownBlock = some k) : B ≤ k ∧ ∃ A, w.heap[k]? = some (.cells A 9 (0, 0)) := by
 rcases h.2 with ⟨rfl, _⟩ | ⟨g, cap, cur, rfl, hb, hg, _⟩
 ·cases e
 ·have : g = k := by simpa [Value.ownBlock] using e
  subst this
  exact ⟨hb, cur, hg⟩
theorem TOwn.keep {w w' : World} {B : Nat} {v : Value} {l : List ByteArray} {ks : Nat → Prop} (h : TOwn w B v l) (hc : Chg w w' ks) (hn : ∀ k, v.ownBlock = some k → ¬ ks k) : TOwn w' B v l := by
 refine ⟨h.1, ?_⟩
 rcases h.2 with k | ⟨g, cap, cur, rfl, hb, hg, r⟩
 ·exact .inl k
 ·exact .inr ⟨g, cap, cur, rfl, hb, hc.keep hg (hn g rfl), r⟩
theorem TOwn.nil (w : World) (B : Nat) : TOwn w B (.slice none 0 0) [] := ⟨rfl, .inl ⟨rfl, rfl⟩⟩
theorem TOwn.cell {w : World} {B : Nat} {a : Option Addr} {n c : Nat} {l : List ByteArray} (h : TOwn w B (.slice a n c) l) : n = l.length ∧ ∀ k, k < l.length → ∃ g, a = some ⟨g, 0, none⟩ ∧ w.cell? ⟨g, k, none⟩ = some (.string (l.getD k ⟨#[]⟩)) := by
 rcases h.2 with ⟨e, e2⟩ | ⟨g, cap, cur, e, hb, hg, r⟩
 ·injection e with e1 e3 e4
  exact ⟨by omega, fun k hk => by omega⟩
 ·injection e with e1 e3 e4
  refine ⟨e3, fun k hk => ⟨g, e1, ?_⟩⟩;subst e1 e3 e4;have := World.ownsRow.cells h (g := g) rfl k (.string (l.getD k ⟨#[]⟩)) (by simp [hk])
  have hadd : (⟨g, 0, none⟩ : Addr).add k = ⟨g, k, none⟩ := by unfold Addr.add; split <;> simp_all
  rw [hadd] at this
  exact this
theorem TOwn.shape {w : World} {B : Nat} {v : Value} {l : List ByteArray} (h : TOwn w B v l) : ∃ a c, v = .slice a l.length c := by
 rcases h.2 with ⟨e, e2⟩ | ⟨g, cap, cur, e, _⟩
 ·exact ⟨none, 0, by rw [e, e2]⟩
 ·exact ⟨_, _, e⟩
section
variable {ops : Array Oper} {rest : List Oper} {o : Oper} {a : Act} {Q : Exit → Act → World → Prop} {w : World}
theorem wp_appT (hg : o.guard = none) (s x : Operand) (hop : o.op = .call { callee := .builtin .append, args := #[s, x], argTypes := #[114, 114] }) (B g c : Nat) (v : Value) (l : List ByteArray) (y : ByteArray) (hs : a.eval s = v) (hx : a.eval x = .slice (some ⟨g, 0, none⟩) 1 c)
  (hown : TOwn w B v l) (hat : w.cell? ⟨g, 0, none⟩ = some (.string y)) (hl : l.length ≤ 1000000000000) (hB : B ≤ w.heap.size)
  (hK : ∀ v' w', TOwn w' B v' (l ++ [y]) → Chg w w' (fun k => v.ownBlock = some k) → wpList Tryz.prog ops Q rest (a.put o.dst v') w') : wpList Tryz.prog ops Q (o :: rest) a w := by
 obtain ⟨i, hi, hz, hsz, hby⟩ := infoT;refine wpList_append_own_at w hg s x 114 hop B 9 i _ 1 16 Tryz.underlying114 hi hz hsz hby rfl (by decide) v l.length (l.map Value.string) hs hown ⟨g, 0, none⟩ 1 c [.string y] hx rfl (fun j u hj => ?_) (by simp [Value.oneCell']) (by unfold maxLen; omega) (by omega) hB ?_
 ·cases j with
  | zero => simp at hj; subst hj; exact hat
  | succ j => simp at hj
 ·intro v' w' h1 h2 _ _
  refine hK v' w' ?_ ((Chg.grown h2).mono fun j _ e => e.symm);unfold TOwn;rw [List.map_append, List.length_append]
  exact h1
end
theorem hasN_take {l : List ByteArray} {s : ByteArray} {k : Nat} (hk : k < l.length) : hasN (l.take (k + 1)) s = (hasN (l.take k) s || decide ((l.getD k ⟨#[]⟩).data = s.data)) := by
 unfold hasN;rw [List.take_add_one, List.any_append, List.getD_eq_getElem?_getD, List.getElem?_eq_getElem hk]
 simp
end Go.Proofs.YtpmignilhoihnaaGreat

namespace Go.Proofs.YtpmignilhoihnaaGreat
open Go.RowKit Go.Shelf

def eB (M : Int) (im : Img) (s : KT) (n : Int) (there : Bool) : Bool :=
 if n > M ∨ n = 1 then false else if there = true then false else if s.tk n = true then decide ((s.ino n.toNat).getD 0 0 = 1) && decide (s.en n < 100) else (soundZ M im n).2

set_option maxHeartbeats 2000000 in
set_option maxRecDepth 100000 in
theorem risEntry_any {c : KC} {s : KT} {B : Nat} (n : Int) (nm : ByteArray) (a : Option Addr) (cap : Nat) (l : List ByteArray) (w : World) (h : IsK w c s) (hT : TOwn w B (.slice a l.length cap) l) (n0 : 0 ≤ n) (n1 : n ≤ 4294967295) (hl : l.length ≤ 1000000) :
  Calls Tryz.prog 61 #[.pointer (some ⟨c.p, 0, none⟩), .agg (SLA n nm), .slice a l.length cap] w fun e w' => e = .returned (.bool (eB c.M c.im s n (hasN l nm))) ∧ Chg w w' No := by
 have hA := Chg.alloc w (.cells (SLA n nm) 83) No;have hN := heap_alloc_new w (.cells (SLA n nm) 83);obtain ⟨w1, hw1⟩ : ∃ y, y = w.alloc (.cells (SLA n nm) 83) := ⟨_, rfl⟩;obtain ⟨gs, hgs⟩ : ∃ y, y = w.heap.size := ⟨_, rfl⟩;have HK1 := hid (h.call hA);have HT1 := hid (hT.keep hA (fun _ _ e => e));rw [← hw1] at hA hN HK1 HT1;rw [← hgs] at hN;have HA := hid hA;have HC : Hid (∀ W', Chg w1 W' No → W'.cell? ⟨gs, 0, none⟩ = some (.int .i64 n) ∧ W'.cell? ⟨gs, 1, none⟩ = some (.string nm)) := hid (fun W' hW => ⟨(cell_of_row _ _ _ _ _ _ (hW.keep hN (fun e => e))).trans rfl, (cell_of_row _ _ _ _ _ _ (hW.keep hN (fun e => e))).trans rfl⟩);have HM2 := hid HK1.out.m2;have HN2 := hid HK1.out.n2
 have hM1 : (1 : Int) ≤ (c.M : Int) := by have := HK1.out.m1; omega
 obtain ⟨eb, heb⟩ : ∃ y, y = eB c.M c.im s n (hasN l nm) := ⟨_, rfl⟩;have HEb := hid heb;rw [← heb];clear h hT hA hN heb
 go_enter Tryz.func61, Tryz.ntmps61
 go_upto_region 1 with fail
 rw [← hw1, ← hgs];clear hw1 hgs
 by_cases hM : n > (c.M : Int)
 ·have HE : Hid (eb = false) := hid (by rw [HEb.out]; unfold eB; rw [if_pos (.inl hM)])
  have hMd : decide (n > (c.M : Int)) = true := decide_eq_true hM;refine wp_region_noPanic ?_;refine wp_region_held_drew (S := fun w' => Chg w1 w' No) (by kernel_rfl) (Chg.refl _ _).drew (fun hH => ?_);refine tV 0 10 (.pointer (some ⟨gs, 0, none⟩)) rfl (by kernel_rfl) rfl (by rfl) hH (fun W' hw' => by go_simp) ?_;simp only [sS];refine tV 1 11 (.int .i64 n) rfl (by kernel_rfl) rfl (by rfl) hH (fun W' hw' => by have hc := (HC.out W' hw').1; go_simp) ?_;simp only [sS];refine tV 2 12 (.pointer (some ⟨c.p, 0, none⟩)) rfl (by kernel_rfl) rfl (by rfl) hH (fun W' hw' => rfl) ?_;simp only [sS];refine tV 3 13 (.pointer (some ⟨c.p, 0, none⟩)) rfl (by kernel_rfl) rfl (by rfl) hH (fun W' hw' => by go_simp) ?_;simp only [sS];refine tV 4 14 (.pointer (some ⟨c.p, 0, none⟩)) rfl (by kernel_rfl) rfl (by rfl) hH (fun W' hw' => by go_simp) ?_;simp only [sS];refine tV 5 15 (.pointer (some ⟨c.p, 1, none⟩)) rfl (by kernel_rfl) rfl (by rfl) hH (fun W' hw' => by go_simp) ?_;simp only [sS];refine tV 6 16 (.int .i64 (c.M : Int)) rfl (by kernel_rfl) rfl (by rfl) hH (fun W' hw' => by have hc := (HK1.out.call hw').cM; go_simp) ?_;simp only [sS]
  refine tV 7 17 (.bool true) rfl (by kernel_rfl) rfl (by rfl) hH (fun W' hw' => by go_simp <;> omega) ?_
  simp only [sS];refine tV 8 18 (.bool true) rfl (by kernel_rfl) rfl (by rfl) hH (fun W' hw' => rfl) ?_;simp only [sS];refine takeNot 9 19 rfl (by kernel_rfl) (by kernel_rfl) (by kernel_rfl) rfl (by rfl) (fun _ _ _ h => h) hH ?_;simp only [sS];refine takeNot 10 20 rfl (by kernel_rfl) (by kernel_rfl) (by kernel_rfl) rfl (by rfl) (fun _ _ _ h => h) hH ?_;simp only [sS];refine takeNot 11 21 rfl (by kernel_rfl) (by kernel_rfl) (by kernel_rfl) rfl (by rfl) (fun _ _ _ h => h) hH ?_;simp only [sS];refine tV 12 22 (.bool true) rfl (by kernel_rfl) rfl (by rfl) hH (fun W' hw' => rfl) ?_;simp only [sS];refine wpAnyH_done (by kernel_rfl) ?_ _;refine NoPanic.normal ?_;clear hH
  go_wp2_with fail
  go_ret
  exact ⟨by rw [HE.out]; rfl, HA.out.trans (Chg.refl w1 No).drew (fun _ _ e => e) (fun _ _ e => e)⟩
 ·have hMd : decide (n > (c.M : Int)) = false := decide_eq_false hM
  by_cases h1 : n = 1
  ·have HE : Hid (eb = false) := hid (by rw [HEb.out]; unfold eB; rw [if_pos (.inr h1)])
   have hb1 : (n == 1) = true := by simpa using h1
   have hb2 : decide (n = 1) = true := decide_eq_true h1;refine wp_region_noPanic ?_;refine wp_region_held_drew (S := fun w' => Chg w1 w' No) (by kernel_rfl) (Chg.refl _ _).drew (fun hH => ?_);refine tV 0 10 (.pointer (some ⟨gs, 0, none⟩)) rfl (by kernel_rfl) rfl (by rfl) hH (fun W' hw' => by go_simp) ?_;simp only [sS];refine tV 1 11 (.int .i64 n) rfl (by kernel_rfl) rfl (by rfl) hH (fun W' hw' => by have hc := (HC.out W' hw').1; go_simp) ?_;simp only [sS];refine tV 2 12 (.pointer (some ⟨c.p, 0, none⟩)) rfl (by kernel_rfl) rfl (by rfl) hH (fun W' hw' => rfl) ?_;simp only [sS];refine tV 3 13 (.pointer (some ⟨c.p, 0, none⟩)) rfl (by kernel_rfl) rfl (by rfl) hH (fun W' hw' => by go_simp) ?_;simp only [sS];refine tV 4 14 (.pointer (some ⟨c.p, 0, none⟩)) rfl (by kernel_rfl) rfl (by rfl) hH (fun W' hw' => by go_simp) ?_;simp only [sS];refine tV 5 15 (.pointer (some ⟨c.p, 1, none⟩)) rfl (by kernel_rfl) rfl (by rfl) hH (fun W' hw' => by go_simp) ?_;simp only [sS];refine tV 6 16 (.int .i64 (c.M : Int)) rfl (by kernel_rfl) rfl (by rfl) hH (fun W' hw' => by have hc := (HK1.out.call hw').cM; go_simp) ?_;simp only [sS]
   refine tV 7 17 (.bool false) rfl (by kernel_rfl) rfl (by rfl) hH (fun W' hw' => by go_simp <;> omega) ?_
   simp only [sS];refine tV 8 18 (.bool false) rfl (by kernel_rfl) rfl (by rfl) hH (fun W' hw' => rfl) ?_;simp only [sS];refine tV 9 19 (.pointer (some ⟨gs, 0, none⟩)) rfl (by kernel_rfl) rfl (by rfl) hH (fun W' hw' => by go_simp) ?_;simp only [sS];refine tV 10 20 (.int .i64 n) rfl (by kernel_rfl) rfl (by rfl) hH (fun W' hw' => by have hc := (HC.out W' hw').1; go_simp) ?_;simp only [sS];refine tV 11 21 (.bool true) rfl (by kernel_rfl) rfl (by rfl) hH (fun W' hw' => by go_simp) ?_;simp only [sS];refine tV 12 22 (.bool true) rfl (by kernel_rfl) rfl (by rfl) hH (fun W' hw' => rfl) ?_;simp only [sS];refine wpAnyH_done (by kernel_rfl) ?_ _;refine NoPanic.normal ?_;clear hH
   go_wp2_with fail
   go_ret
   exact ⟨by rw [HE.out]; rfl, HA.out.trans (Chg.refl w1 No).drew (fun _ _ e => e) (fun _ _ e => e)⟩
  ·have hb1 : (n == 1) = false := by simpa using h1
   have hb2 : decide (n = 1) = false := decide_eq_false h1;have HEc : Hid (eb = if hasN l nm = true then false else if s.tk n = true then decide ((s.ino n.toNat).getD 0 0 = 1) && decide (s.en n < 100) else (soundZ c.M c.im n).2) := hid (by rw [HEb.out]; unfold eB; rw [if_neg (by omega)]);refine wp_region_noPanic ?_;refine wp_region_held_drew (S := fun w' => Chg w1 w' No) (by kernel_rfl) (Chg.refl _ _).drew (fun hH => ?_);refine tV 0 10 (.pointer (some ⟨gs, 0, none⟩)) rfl (by kernel_rfl) rfl (by rfl) hH (fun W' hw' => by go_simp) ?_;simp only [sS];refine tV 1 11 (.int .i64 n) rfl (by kernel_rfl) rfl (by rfl) hH (fun W' hw' => by have hc := (HC.out W' hw').1; go_simp) ?_;simp only [sS];refine tV 2 12 (.pointer (some ⟨c.p, 0, none⟩)) rfl (by kernel_rfl) rfl (by rfl) hH (fun W' hw' => rfl) ?_;simp only [sS];refine tV 3 13 (.pointer (some ⟨c.p, 0, none⟩)) rfl (by kernel_rfl) rfl (by rfl) hH (fun W' hw' => by go_simp) ?_;simp only [sS];refine tV 4 14 (.pointer (some ⟨c.p, 0, none⟩)) rfl (by kernel_rfl) rfl (by rfl) hH (fun W' hw' => by go_simp) ?_;simp only [sS];refine tV 5 15 (.pointer (some ⟨c.p, 1, none⟩)) rfl (by kernel_rfl) rfl (by rfl) hH (fun W' hw' => by go_simp) ?_;simp only [sS];refine tV 6 16 (.int .i64 (c.M : Int)) rfl (by kernel_rfl) rfl (by rfl) hH (fun W' hw' => by have hc := (HK1.out.call hw').cM; go_simp) ?_;simp only [sS]
   refine tV 7 17 (.bool false) rfl (by kernel_rfl) rfl (by rfl) hH (fun W' hw' => by go_simp <;> omega) ?_
   simp only [sS];refine tV 8 18 (.bool false) rfl (by kernel_rfl) rfl (by rfl) hH (fun W' hw' => rfl) ?_;simp only [sS];refine tV 9 19 (.pointer (some ⟨gs, 0, none⟩)) rfl (by kernel_rfl) rfl (by rfl) hH (fun W' hw' => by go_simp) ?_;simp only [sS];refine tV 10 20 (.int .i64 n) rfl (by kernel_rfl) rfl (by rfl) hH (fun W' hw' => by have hc := (HC.out W' hw').1; go_simp) ?_;simp only [sS];refine tV 11 21 (.bool false) rfl (by kernel_rfl) rfl (by rfl) hH (fun W' hw' => by go_simp) ?_;simp only [sS];refine tV 12 22 (.bool false) rfl (by kernel_rfl) rfl (by rfl) hH (fun W' hw' => rfl) ?_;simp only [sS];refine wpAnyH_done (by kernel_rfl) ?_ _;refine NoPanic.normal ?_;have HC2 : Hid (Chg w1 w1.drew No) := hid (Chg.refl w1 No).drew;clear hH HEb;obtain ⟨w2, hw2⟩ : ∃ y, y = w1.drew := ⟨_, rfl⟩;rw [← hw2] at HC2 ⊢;clear hw2
   go_wp2_with fail
   go_loopw [7] (fun x7 wr => ∃ k : Nat, k ≤ l.length ∧ x7 = .int .i64 k ∧ Hid (hasN (l.take k) nm = false ∧ Chg w1 wr No)) (fun x7 _ => l.length - (intOf x7).toNat)
   case atStart => exact ⟨0, by omega, rfl, hid ⟨by rw [List.take_zero]; rfl, HC2.out⟩⟩
   case round =>
    obtain ⟨k, hk, rfl, HJ⟩ := hrel;clear HC2
    by_cases hlt : k < l.length
    ·have j0 : (0 : Int) ≤ (k : Int) := by omega
     have j1 : (k : Int) < (l.length : Int) := by omega
     obtain ⟨g, ha, _⟩ := HT1.out.cell.2 k hlt;subst ha;obtain ⟨x, hx⟩ : ∃ y, y = l.getD k ⟨#[]⟩ := ⟨_, rfl⟩
     have HX : Hid (∀ W', Chg w1 W' No → W'.cell? ⟨g, k, none⟩ = some (.string x)) := hid (fun W' hW => by
      obtain ⟨g', e1, e2⟩ := (HT1.out.keep hW (fun _ _ e => e)).cell.2 k hlt
      cases e1
      rw [hx]
      exact e2)
     have HTk := hid (hasN_take (s := nm) hlt);rw [← hx] at HTk;clear hx
     go_upto_region 6 with fail
     refine wp_region_noPanic ?_;refine wp_region_held_drew (S := fun w' => Chg w1 w' No) (by kernel_rfl) (HJ.out.2.drew) (fun hH => ?_);refine tV 0 29 (.slice (some ⟨g, 0, none⟩) l.length cap) rfl (by kernel_rfl) rfl (by rfl) hH (fun W' hw' => rfl) ?_;simp only [sS];refine tV 1 30 (.int .i64 (k : Int)) rfl (by kernel_rfl) rfl (by rfl) hH (fun W' hw' => rfl) ?_;simp only [sS];refine tV 2 31 (.pointer (some ⟨g, k, none⟩)) rfl (by kernel_rfl) rfl (by rfl) hH (fun W' hw' => by go_simp) ?_;simp only [sS];refine tV 3 32 (.string x) rfl (by kernel_rfl) rfl (by rfl) hH (fun W' hw' => by have hc := HX.out W' hw'; go_simp) ?_;simp only [sS];refine tV 4 33 (.pointer (some ⟨gs, 1, none⟩)) rfl (by kernel_rfl) rfl (by rfl) hH (fun W' hw' => by go_simp) ?_;simp only [sS];refine tV 5 34 (.string nm) rfl (by kernel_rfl) rfl (by rfl) hH (fun W' hw' => by have hc := (HC.out W' hw').2; go_simp) ?_;simp only [sS]
     by_cases hq : x = nm
     ·have hq2 : x.data = nm.data := by rw [hq]
      have HE : Hid (eb = false) := hid (by
       rw [HEc.out, if_pos]
       have : hasN (l.take (k + 1)) nm = true := by rw [HTk.out, decide_eq_true hq2, Bool.or_true]
       unfold hasN at this ⊢;rw [List.any_eq_true] at this ⊢;obtain ⟨y, h1, h2⟩ := this
       exact ⟨y, List.mem_of_mem_take h1, h2⟩)
      have hq3 : x.toList = nm.toList := by rw [hq]
      have hq4 : decide (x = nm) = true := decide_eq_true hq;refine tV 6 35 (.bool true) rfl (by kernel_rfl) rfl (by rfl) hH (fun W' hw' => by go_simp) ?_;simp only [sS];refine wpAnyH_done (by kernel_rfl) ?_ _;refine NoPanic.normal ?_;clear hH
      go_wp2_with fail
      go_ret
      exact ⟨by rw [HE.out]; rfl, HA.out.trans HJ.out.2.drew (fun _ _ e => e) (fun _ _ e => e)⟩
     ·have hq2 : ¬ x.data = nm.data := fun e => hq (ByteArray.ext e)
      have HNx : Hid (hasN (l.take (k + 1)) nm = false ∧ Chg w1 wr.drew No) := hid ⟨by rw [HTk.out, HJ.out.1, decide_eq_false hq2]; rfl, HJ.out.2.drew⟩
      have hq3 : ¬ x.toList = nm.toList := fun e => hq2 (by rw [ByteArray.toList_eq, ByteArray.toList_eq] at e; exact Array.toList_inj.1 e)
      have hq4 : decide (x = nm) = false := decide_eq_false hq;refine tV 6 35 (.bool false) rfl (by kernel_rfl) rfl (by rfl) hH (fun W' hw' => by go_simp) ?_;simp only [sS];refine wpAnyH_done (by kernel_rfl) ?_ _;refine NoPanic.normal ?_;clear hH
      go_wp2_with fail
      exact ⟨⟨k + 1, by omega, by go_num, HNx⟩, by simp [intOf]; omega⟩
    ·have j1 : ¬ (k : Int) < (l.length : Int) := by omega
     obtain rfl : k = l.length := by omega
     have HEd : Hid (eb = if s.tk n = true then decide ((s.ino n.toNat).getD 0 0 = 1) && decide (s.en n < 100) else (soundZ c.M c.im n).2) := hid (by
      have := HJ.out.1;rw [List.take_length] at this
      rw [HEc.out, if_neg (by rw [this]; exact Bool.false_ne_true)])
     have HCr := hid HJ.out.2;obtain ⟨m, hm⟩ : ∃ m : Nat, n = (m : Int) := ⟨n.toNat, by omega⟩;subst hm
     have i3 : (m : Int) < ((c.M + 1 : Nat) : Int) := by omega
     have i4 : (m : Int) < (c.M : Int) + 1 := by omega
     have HKr : Hid (∀ W', Chg w1 W' No → IsK W' c s) := hid (fun W' hW => HK1.out.call hW);clear HEc HJ
     go_upto_region 8 with fail
     refine wp_region_noPanic ?_;refine wp_region_held_drew (S := fun w' => Chg w1 w' No) (by kernel_rfl) (HCr.out.drew) (fun hH => ?_);refine tV 0 36 (.pointer (some ⟨c.p, 0, none⟩)) rfl (by kernel_rfl) rfl (by rfl) hH (fun W' hw' => rfl) ?_;simp only [sS];refine tV 1 37 (.pointer (some ⟨c.p, 0, none⟩)) rfl (by kernel_rfl) rfl (by rfl) hH (fun W' hw' => by go_simp) ?_;simp only [sS];refine tV 2 38 (.pointer (some ⟨c.p, 5, none⟩)) rfl (by kernel_rfl) rfl (by rfl) hH (fun W' hw' => by go_simp) ?_;simp only [sS];refine tV 3 39 (.slice (some ⟨c.tb, 0, none⟩) (c.M + 1) (c.M + 1)) rfl (by kernel_rfl) rfl (by rfl) hH (fun W' hw' => by have hc := (HKr.out W' hw').cT; go_simp) ?_;simp only [sS];refine tV 4 40 (.pointer (some ⟨gs, 0, none⟩)) rfl (by kernel_rfl) rfl (by rfl) hH (fun W' hw' => by go_simp) ?_;simp only [sS];refine tV 5 41 (.int .i64 (m : Int)) rfl (by kernel_rfl) rfl (by rfl) hH (fun W' hw' => by have hc := (HC.out W' hw').1; go_simp) ?_;simp only [sS];refine tV 6 42 (.pointer (some ⟨c.tb, m, none⟩)) rfl (by kernel_rfl) rfl (by rfl) hH (fun W' hw' => by go_simp) ?_;simp only [sS];refine tV 7 43 (.bool (s.tk (m : Int))) rfl (by kernel_rfl) rfl (by rfl) hH (fun W' hw' => by have hc := ((HKr.out W' hw').tk.cell (k := m) (by omega)).1; go_simp) ?_;simp only [sS];refine wpAnyH_done (by kernel_rfl) ?_ _;refine NoPanic.normal ?_;clear hH;have HC3 : Hid (Chg w1 wr.drew No) := hid HCr.out.drew;obtain ⟨w3, hw3⟩ : ∃ y, y = wr.drew := ⟨_, rfl⟩;rw [← hw3] at HC3 ⊢;clear hw3 HCr
     cases ht : s.tk (m : Int) with
     | false =>
      have HE : Hid (eb = (soundZ c.M c.im (m : Int)).2) := hid (by rw [HEd.out, ht, if_neg Bool.false_ne_true]);have HS := hid (rsound_any (m : Int) w3 (HKr.out w3 HC3.out));have HSl : Hid ((soundZ c.M c.im (m : Int)).1.length = 18) := hid (soundZ_len _ _ _);obtain ⟨sz, hsz⟩ : ∃ y, y = soundZ c.M c.im (m : Int) := ⟨_, rfl⟩;rw [← hsz] at HS HE HSl;have q0 := (HC.out w3 HC3.out).1;have hzi := zero_inode;clear hsz ht HEd
      go_wp2_with (first
       | (go_at_call 28; go_must (refine HS.out.mono ?_; rintro e w4 ⟨rfl, hc4⟩))
       | (refine store_R rfl 51 _ _ rfl w4.heap.size (NA sz.1) rfl rfl 51 _ (heap_alloc_new _ _) (by rw [szI, NA_size, HSl.out]) (by rw [NA_size, NA_size, Zi_len, HSl.out]) (NA_one _) ?_; intro w5 hw5)
       | fail)
      go_ret
      exact ⟨by rw [HE.out]; rfl, (HA.out.trans HC3.out (fun _ _ e => e) (fun _ _ e => e)).trans ((hc4.trans (Chg.alloc w4 _ No) (c := No) (fun _ _ e => e) (fun _ _ e => e)).trans (putR_chg hw5) (c := No) (fun _ _ e => e) (fun j hj e => by have := hc4.size; omega)) (fun _ _ e => e) (fun _ _ e => e)⟩
     | true =>
      have HE : Hid (eb = (decide ((s.ino m).getD 0 0 = 1) && decide (s.en (m : Int) < 100))) := hid (by rw [HEd.out, ht, if_pos rfl, Int.toNat_natCast]);clear HEd
      go_upto_region 9 with fail
      refine wp_region_noPanic ?_;refine wp_region_held_drew (S := fun w' => Chg w1 w' No) (by kernel_rfl) (HC3.out.drew) (fun hH => ?_);obtain ⟨kd_, hkd⟩ : ∃ y, y = (s.ino m).getD 0 0 := ⟨_, rfl⟩;have HKd : Hid (∀ W', Chg w1 W' No → W'.cell? ⟨c.ib, m * 18, none⟩ = some (.int .i64 kd_)) := hid (fun W' hW => by rw [hkd]; exact (HKr.out W' hW).inn.cell0 (by omega));rw [← hkd] at HE;obtain ⟨en_, hen⟩ : ∃ y, y = s.en (m : Int) := ⟨_, rfl⟩;have HEn : Hid (∀ W', Chg w1 W' No → W'.cell? ⟨c.eb, m, none⟩ = some (.int .i64 en_)) := hid (fun W' hW => by rw [hen]; exact ((HKr.out W' hW).en.cell (k := m) (by omega)).1);rw [← hen] at HE;clear hkd hen ht;refine tV 0 44 (.pointer (some ⟨c.p, 0, none⟩)) rfl (by kernel_rfl) rfl (by rfl) hH (fun W' hw' => rfl) ?_;simp only [sS];refine tV 1 45 (.pointer (some ⟨c.p, 0, none⟩)) rfl (by kernel_rfl) rfl (by rfl) hH (fun W' hw' => by go_simp) ?_;simp only [sS];refine tV 2 46 (.pointer (some ⟨c.p, 6, none⟩)) rfl (by kernel_rfl) rfl (by rfl) hH (fun W' hw' => by go_simp) ?_;simp only [sS];refine tV 3 47 (.slice (some ⟨c.ib, 0, none⟩) (c.M + 1) (c.M + 1)) rfl (by kernel_rfl) rfl (by rfl) hH (fun W' hw' => by have hc := (HKr.out W' hw').cN6; go_simp) ?_;simp only [sS];refine tV 4 48 (.pointer (some ⟨gs, 0, none⟩)) rfl (by kernel_rfl) rfl (by rfl) hH (fun W' hw' => by go_simp) ?_;simp only [sS];refine tV 5 49 (.int .i64 (m : Int)) rfl (by kernel_rfl) rfl (by rfl) hH (fun W' hw' => by have hc := (HC.out W' hw').1; go_simp) ?_;simp only [sS];refine tV 6 50 (.pointer (some ⟨c.ib, m * 18, none⟩)) rfl (by kernel_rfl) rfl (by rfl) hH (fun W' hw' => by go_simp) ?_;simp only [sS];refine tV 7 51 (.pointer (some ⟨c.ib, m * 18, none⟩)) rfl (by kernel_rfl) rfl (by rfl) hH (fun W' hw' => by go_simp) ?_;simp only [sS];refine tV 8 52 (.int .i64 kd_) rfl (by kernel_rfl) rfl (by rfl) hH (fun W' hw' => by have hc := HKd.out W' hw'; go_simp) ?_;simp only [sS]
      by_cases hk1 : kd_ = 1
      ·have hk2 : (kd_ == 1) = true := by simpa using hk1
       have hk3 : decide (kd_ = 1) = true := decide_eq_true hk1;refine tV 9 53 (.bool true) rfl (by kernel_rfl) rfl (by rfl) hH (fun W' hw' => by go_simp) ?_;simp only [sS];refine tV 10 54 (.bool true) rfl (by kernel_rfl) rfl (by rfl) hH (fun W' hw' => rfl) ?_;simp only [sS];refine tV 11 55 (.pointer (some ⟨c.p, 0, none⟩)) rfl (by kernel_rfl) rfl (by rfl) hH (fun W' hw' => rfl) ?_;simp only [sS];refine tV 12 56 (.pointer (some ⟨c.p, 0, none⟩)) rfl (by kernel_rfl) rfl (by rfl) hH (fun W' hw' => by go_simp) ?_;simp only [sS];refine tV 13 57 (.pointer (some ⟨c.p, 7, none⟩)) rfl (by kernel_rfl) rfl (by rfl) hH (fun W' hw' => by go_simp) ?_;simp only [sS];refine tV 14 58 (.slice (some ⟨c.eb, 0, none⟩) (c.M + 1) (c.M + 1)) rfl (by kernel_rfl) rfl (by rfl) hH (fun W' hw' => by have hc := (HKr.out W' hw').cE; go_simp) ?_;simp only [sS];refine tV 15 59 (.pointer (some ⟨gs, 0, none⟩)) rfl (by kernel_rfl) rfl (by rfl) hH (fun W' hw' => by go_simp) ?_;simp only [sS];refine tV 16 60 (.int .i64 (m : Int)) rfl (by kernel_rfl) rfl (by rfl) hH (fun W' hw' => by have hc := (HC.out W' hw').1; go_simp) ?_;simp only [sS];refine tV 17 61 (.pointer (some ⟨c.eb, m, none⟩)) rfl (by kernel_rfl) rfl (by rfl) hH (fun W' hw' => by go_simp) ?_;simp only [sS];refine tV 18 62 (.int .i64 en_) rfl (by kernel_rfl) rfl (by rfl) hH (fun W' hw' => by have hc := HEn.out W' hw'; go_simp) ?_;simp only [sS];refine tV 19 63 (.bool (decide (en_ < 100))) rfl (by kernel_rfl) rfl (by rfl) hH (fun W' hw' => by go_simp) ?_;simp only [sS];refine tV 20 64 (.bool (decide (en_ < 100))) rfl (by kernel_rfl) rfl (by rfl) hH (fun W' hw' => rfl) ?_;simp only [sS];refine tV 21 6 (.bool (decide (en_ < 100))) rfl (by kernel_rfl) rfl (by rfl) hH (fun W' hw' => rfl) ?_;simp only [sS];refine wpAnyH_done (by kernel_rfl) ?_ _;refine NoPanic.normal ?_;clear hH
       go_wp2_with fail
       go_ret
       exact ⟨by rw [HE.out, hk3, Bool.true_and]; rfl, HA.out.trans HC3.out.drew (fun _ _ e => e) (fun _ _ e => e)⟩
      ·have hk2 : (kd_ == 1) = false := by simpa using hk1
       have hk3 : decide (kd_ = 1) = false := decide_eq_false hk1;refine tV 9 53 (.bool false) rfl (by kernel_rfl) rfl (by rfl) hH (fun W' hw' => by go_simp) ?_;simp only [sS];refine tV 10 54 (.bool false) rfl (by kernel_rfl) rfl (by rfl) hH (fun W' hw' => rfl) ?_;simp only [sS];refine takeNot 11 55 rfl (by kernel_rfl) (by kernel_rfl) (by kernel_rfl) rfl (by rfl) (fun _ _ _ h => h) hH ?_;simp only [sS];refine takeNot 12 56 rfl (by kernel_rfl) (by kernel_rfl) (by kernel_rfl) rfl (by rfl) (fun _ _ _ h => h) hH ?_;simp only [sS];refine takeNot 13 57 rfl (by kernel_rfl) (by kernel_rfl) (by kernel_rfl) rfl (by rfl) (fun _ _ _ h => h) hH ?_;simp only [sS];refine takeNot 14 58 rfl (by kernel_rfl) (by kernel_rfl) (by kernel_rfl) rfl (by rfl) (fun _ _ _ h => h) hH ?_;simp only [sS];refine takeNot 15 59 rfl (by kernel_rfl) (by kernel_rfl) (by kernel_rfl) rfl (by rfl) (fun _ _ _ h => h) hH ?_;simp only [sS];refine takeNot 16 60 rfl (by kernel_rfl) (by kernel_rfl) (by kernel_rfl) rfl (by rfl) (fun _ _ _ h => h) hH ?_;simp only [sS];refine takeNot 17 61 rfl (by kernel_rfl) (by kernel_rfl) (by kernel_rfl) rfl (by rfl) (fun _ _ _ h => h) hH ?_;simp only [sS];refine takeNot 18 62 rfl (by kernel_rfl) (by kernel_rfl) (by kernel_rfl) rfl (by rfl) (fun _ _ _ h => h) hH ?_;simp only [sS];refine takeNot 19 63 rfl (by kernel_rfl) (by kernel_rfl) (by kernel_rfl) rfl (by rfl) (fun _ _ _ h => h) hH ?_;simp only [sS];refine tV 20 64 (.bool false) rfl (by kernel_rfl) rfl (by rfl) hH (fun W' hw' => rfl) ?_;simp only [sS];refine tV 21 6 (.bool false) rfl (by kernel_rfl) rfl (by rfl) hH (fun W' hw' => rfl) ?_;simp only [sS];refine wpAnyH_done (by kernel_rfl) ?_ _;refine NoPanic.normal ?_;clear hH
       go_wp2_with fail
       go_ret
       exact ⟨by rw [HE.out, hk3, Bool.false_and]; rfl, HA.out.trans HC3.out.drew (fun _ _ e => e) (fun _ _ e => e)⟩
end Go.Proofs.YtpmignilhoihnaaGreat
