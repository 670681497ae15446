/-
 What the first sector says of the image.
-/
import Derived.Test.YtpmignilhoihnabGreatX1
namespace Go.Proofs.YtpmignilhoihnabGreat
open Go.RowKit Go.Shelf

def supOf (im : Img) : Int × Int × Int :=
 if 8 ≤ im.length ∧ im.length ≤ 4096 then
  let r := rdSup (getV (secI im 0) 4 4) (getV (secI im 0) 8 4) (secI im 0)
  if r.2.2 = 0 ∧ r.1 = im.length then r else (0, 0, 120)
 else (0, 0, 120)
theorem supOf_ok {im : Img} (h : (supOf im).2.2 = 0) : (supOf im).1 = im.length ∧ 8 ≤ im.length ∧ im.length ≤ 4096 ∧ 1 ≤ (supOf im).2.1 ∧ (supOf im).2.1 + 2 ≤ im.length := by
 unfold supOf at h ⊢
 by_cases hl : 8 ≤ im.length ∧ im.length ≤ 4096
 ·rw [if_pos hl] at h ⊢
  simp only at h ⊢
  by_cases hr : (rdSup (getV (secI im 0) 4 4) (getV (secI im 0) 8 4) (secI im 0)).2.2 = 0 ∧ (rdSup (getV (secI im 0) 4 4) (getV (secI im 0) 8 4) (secI im 0)).1 = im.length
  ·rw [if_pos hr]
   obtain ⟨h1, h2⟩ := hr
   revert h1 h2
   unfold rdSup
   split
   ·rename_i hb
    intro _ h2
    have := of_decide_eq_true hb.1
    simp only at h2 ⊢
    exact ⟨h2, hl.1, hl.2, this.2.2.1, by omega⟩
   ·intro h1; cases h1
  ·rw [if_neg hr] at h
   cases h
 ·rw [if_neg hl] at h
  cases h
theorem szSU : (Tryz.prog.info? 32).map (·.size) = some 2 := by kernel_rfl
theorem SUA_one (a b : Int) : (SUA a b).all (·.oneCell') = true := by simp [SUA, Value.oneCell']

set_option maxRecDepth 100000 in
set_option maxHeartbeats 1000000 in
theorem superOf_any (ia : Option Addr) (ic : Nat) (im : Img) (w : World) (h : ImgAt w ia im) :
  Calls Tryz.prog 15 #[.slice ia im.length ic] w fun e w' => e = .returned (.tuple #[.agg (SUA (supOf im).1 (supOf im).2.1), .int .i64 (supOf im).2.2]) ∧ Chg w w' No := by
 have hzs : ∀ w', (zeroValue 32).run Tryz.prog w' = .ok (.agg #[.int .i64 0, .int .i64 0]) w' := fun w' => by kernel_rfl
 have hbs : ∀ w', (Instr.build 32 #[]).run Tryz.prog w' = .ok (.agg #[.int .i64 0, .int .i64 0]) w' := fun w' => by kernel_rfl
 have hA := Chg.alloc w (.cells #[.int .i64 0, .int .i64 0] 32) No;have HA := hid hA;have HN := hid (heap_alloc_new w (.cells #[.int .i64 0, .int .i64 0] 32));have hc0 := (cell_of_row _ _ 0 _ _ _ HN.out).trans rfl;have HI := hid (h.keep hA (fun _ _ e => e));clear h hA
 by_cases hl : 8 ≤ im.length ∧ im.length ≤ 4096
 ·have HS : Hid (supOf im = if (rdSup (getV (secI im 0) 4 4) (getV (secI im 0) 8 4) (secI im 0)).2.2 = 0 ∧ (rdSup (getV (secI im 0) 4 4) (getV (secI im 0) 8 4) (secI im 0)).1 = im.length then rdSup (getV (secI im 0) 4 4) (getV (secI im 0) 8 4) (secI im 0) else (0, 0, 120)) := hid (by unfold supOf; rw [if_pos hl])
  obtain ⟨b, o, hia, hb, hr⟩ : ∃ b o, ia = some ⟨b, o, none⟩ ∧ b < (w.alloc (.cells #[.int .i64 0, .int .i64 0] 32)).heap.size ∧ ∀ (j : Nat) s, im[j]? = some s → (w.alloc (.cells #[.int .i64 0, .int .i64 0] 32)).rangeAt b (o + j * 128) (s.map (Value.int .u8)) := by
   rcases HI.out.2 with e | e
   ·rw [e] at hl; simp at hl
   ·exact e
  subst hia;have hrk := hr 0 _ (getD_at (by omega));have hsec := HI.out.secI 0;have HRK : Hid ((w.alloc (.cells #[.int .i64 0, .int .i64 0] 32)).rangeAt b (o + 0 * 128) ((secI im 0).map (Value.int .u8))) := hid hrk;have HSL := hid hsec.1;have hRI := readSuper_any (secI im 0) hsec (w.alloc (.cells #[.int .i64 0, .int .i64 0] 32));obtain ⟨n, hn⟩ : ∃ y, y = im.length := ⟨_, rfl⟩;rw [← hn] at hl HS ⊢;rw [HS.out];obtain ⟨r, hre⟩ : ∃ y, y = rdSup (getV (secI im 0) 4 4) (getV (secI im 0) 8 4) (secI im 0) := ⟨_, rfl⟩;rw [← hre] at hRI ⊢
  have i1 : ¬ ((n : Int) < 8) := by omega
  have i2 : ¬ ((n : Int) > 4096) := by omega
  have i3 : (0 : Int) < (n : Int) := by omega
  generalize secI im 0 = sk at *
  obtain ⟨ra, rb, re⟩ := r
  simp only at *
  clear hr hrk hsec HS hn hre HI
  go_enter Tryz.func15, Tryz.ntmps15
  go_upto_region 4 with (first
   | (refine load_mid 36 _ rfl b (o + 0 * 128) rfl _ _ HRK.out Tryz.underlying36 rfl (by rw [sz26, List.length_map, HSL.out]) (by rfl) ?_)
   | (go_at_call 31; go_must (refine hRI.mono ?_; rintro e w1 ⟨rfl, hb1⟩))
   | (refine store_R rfl 32 _ _ rfl w1.heap.size (SUA ra rb) rfl rfl 32 _ (heap_alloc_new _ _) szSU rfl (SUA_one _ _) ?_; intro w2 hw2)
   | fail)
  have hg6 := hw2.here;have hA1 : Chg (w.alloc (.cells #[.int .i64 0, .int .i64 0] 32)) w2 No := ((Chg.of_below hb1 No).trans (Chg.alloc w1 (.cells #[.int .i64 0, .int .i64 0] 32) No) (c := No) (fun _ _ e => e) (fun _ _ e => e)).trans (kt_new hw2) (fun _ _ e => e) (fun j hj e => by have := hb1.size; omega);have HN2 := hid (hA1.keep HN.out (fun e => e));have HC2 := hid (HA.out.trans hA1 (c := No) (fun _ _ e => e) (fun _ _ e => e));have HG6 := hid hg6;have hcr : w2.cell? ⟨w1.heap.size, 0, none⟩ = some (.int .i64 ra) := (cell_of_row _ _ _ _ _ _ hg6).trans rfl;clear hg6 hw2 hb1 hA1 hRI
  by_cases he : re = 0
  ·by_cases hn : ra = (n : Int)
   ·subst he hn
    go_wp2_with (first
     | (refine load_R rfl 32 _ rfl w1.heap.size rfl 32 _ _ HG6.out Tryz.underlying32 rfl szSU ?_)
     | (refine store_R rfl 32 _ _ rfl w.heap.size (SUA n rb) rfl rfl 32 _ HN2.out szSU rfl (SUA_one _ _) ?_; intro w5 hw5)
     | fail)
    refine bodyPost_ret (v := .tuple #[.agg (SUA n rb), .int .i64 0]) (results_R Tryz.results15 _ _ w.heap.size _ 32 _ _ Tryz.underlying32 rfl szSU rfl rfl hw5.here) rfl ⟨by first | rfl | simp_all, HC2.out.trans (kt_new hw5) (fun _ _ e => e) (fun j hj e => by omega)⟩
   ·subst he
    go_wp2_with (first
     | (refine load_R rfl 32 _ rfl w1.heap.size rfl 32 _ _ HG6.out Tryz.underlying32 rfl szSU ?_)
     | (refine store_R rfl 32 _ _ rfl w.heap.size (SUA 0 0) rfl rfl 32 _ HN2.out szSU rfl (SUA_one _ _) ?_; intro w5 hw5)
     | fail)
    refine bodyPost_ret (v := .tuple #[.agg (SUA 0 0), .int .i64 120]) (results_R Tryz.results15 _ _ w.heap.size _ 32 _ _ Tryz.underlying32 rfl szSU rfl rfl hw5.here) rfl ⟨by first | rfl | simp_all, HC2.out.trans (kt_new hw5) (fun _ _ e => e) (fun j hj e => by omega)⟩
  ·have hre : (re == 0) = false := by simpa using he
   go_wp2_with (first
    | (refine load_R rfl 32 _ rfl w1.heap.size rfl 32 _ _ HG6.out Tryz.underlying32 rfl szSU ?_)
    | (refine store_R rfl 32 _ _ rfl w.heap.size (SUA 0 0) rfl rfl 32 _ HN2.out szSU rfl (SUA_one _ _) ?_; intro w5 hw5)
    | fail)
   refine bodyPost_ret (v := .tuple #[.agg (SUA 0 0), .int .i64 120]) (results_R Tryz.results15 _ _ w.heap.size _ 32 _ _ Tryz.underlying32 rfl szSU rfl rfl hw5.here) rfl ⟨by first | rfl | simp_all, HC2.out.trans (kt_new hw5) (fun _ _ e => e) (fun j hj e => by omega)⟩
 ·have HS : Hid (supOf im = (0, 0, 120)) := hid (by unfold supOf; rw [if_neg hl])
  rw [HS.out];obtain ⟨n, hn⟩ : ∃ y, y = im.length := ⟨_, rfl⟩;rw [← hn] at hl ⊢;clear hn HI
  by_cases h8 : (n : Int) < 8
  ·go_enter Tryz.func15, Tryz.ntmps15
   go_wp2_with (first
    | (refine store_R rfl 32 _ _ rfl w.heap.size (SUA 0 0) rfl rfl 32 _ HN.out szSU rfl (SUA_one _ _) ?_; intro w5 hw5)
    | fail)
   refine bodyPost_ret (v := .tuple #[.agg (SUA 0 0), .int .i64 120]) (results_R Tryz.results15 _ _ w.heap.size _ 32 _ _ Tryz.underlying32 rfl szSU rfl rfl hw5.here) rfl ⟨rfl, HA.out.trans (kt_new hw5) (fun _ _ e => e) (fun j hj e => by omega)⟩
  ·have h9 : (n : Int) > 4096 := by omega
   go_enter Tryz.func15, Tryz.ntmps15
   go_wp2_with (first
    | (refine store_R rfl 32 _ _ rfl w.heap.size (SUA 0 0) rfl rfl 32 _ HN.out szSU rfl (SUA_one _ _) ?_; intro w5 hw5)
    | fail)
   refine bodyPost_ret (v := .tuple #[.agg (SUA 0 0), .int .i64 120]) (results_R Tryz.results15 _ _ w.heap.size _ 32 _ _ Tryz.underlying32 rfl szSU rfl rfl hw5.here) rfl ⟨rfl, HA.out.trans (kt_new hw5) (fun _ _ e => e) (fun j hj e => by omega)⟩

end Go.Proofs.YtpmignilhoihnabGreat
