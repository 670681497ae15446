/-
 slices.Clone of the image: a row of sectors of its own.
-/
import Derived.Test.YtpmignilhoihnaaGreatX1
import Derived.Shelf.SlicesE.Clone
namespace Go.Proofs.YtpmignilhoihnaaGreat
open Go.RowKit Go.Shelf

def supOf (im : Img) : Int × Int × Int :=
 if 8 ≤ im.length ∧ im.length ≤ 4096 then
  let r := rdSup (getV (secI im 0) 4 4) (getV (secI im 0) 8 4) (secI im 0)
  if r.2.2 = 0 ∧ r.1 = im.length then r else (0, 0, 120)
 else (0, 0, 120)
theorem supOf_ok {im : Img} (h : (supOf im).2.2 = 0) : (supOf im).1 = im.length ∧ 8 ≤ im.length ∧ im.length ≤ 4096 ∧ 1 ≤ (supOf im).2.1 ∧ (supOf im).2.1 + 2 ≤ im.length := by
 unfold supOf at h ⊢
 by_cases hl : 8 ≤ im.length ∧ im.length ≤ 4096
 ·rw [if_pos hl] at h ⊢
  simp only at h ⊢
  by_cases hr : (rdSup (getV (secI im 0) 4 4) (getV (secI im 0) 8 4) (secI im 0)).2.2 = 0 ∧ (rdSup (getV (secI im 0) 4 4) (getV (secI im 0) 8 4) (secI im 0)).1 = im.length
  ·rw [if_pos hr]
   obtain ⟨h1, h2⟩ := hr
   revert h1 h2
   unfold rdSup
   split
   ·rename_i hb
    intro _ h2
    have := of_decide_eq_true hb.1
    simp only at h2 ⊢
    exact ⟨h2, hl.1, hl.2, this.2.2.1, by omega⟩
   ·intro h1; cases h1
  ·rw [if_neg hr] at h
   cases h
 ·rw [if_neg hl] at h
  cases h
theorem szSU : (Tryz.prog.info? 42).map (·.size) = some 2 := by kernel_rfl
theorem SUA_one (a b : Int) : (SUA a b).all (·.oneCell') = true := by simp [SUA, Value.oneCell']

set_option maxRecDepth 100000 in
set_option maxHeartbeats 1000000 in
theorem superOf_any (ia : Option Addr) (ic : Nat) (im : Img) (w : World) (h : ImgAt w ia im) :
  Calls Tryz.prog 21 #[.slice ia im.length ic] w fun e w' => e = .returned (.tuple #[.agg (SUA (supOf im).1 (supOf im).2.1), .int .i64 (supOf im).2.2]) ∧ Chg w w' No := by
 have hzs : ∀ w', (zeroValue 42).run Tryz.prog w' = .ok (.agg #[.int .i64 0, .int .i64 0]) w' := fun w' => by kernel_rfl
 have hbs : ∀ w', (Instr.build 42 #[]).run Tryz.prog w' = .ok (.agg #[.int .i64 0, .int .i64 0]) w' := fun w' => by kernel_rfl
 have hA := Chg.alloc w (.cells #[.int .i64 0, .int .i64 0] 42) No;have HA := hid hA;have HN := hid (heap_alloc_new w (.cells #[.int .i64 0, .int .i64 0] 42));have hc0 := (cell_of_row _ _ 0 _ _ _ HN.out).trans rfl;have HI := hid (h.keep hA (fun _ _ e => e));clear h hA
 by_cases hl : 8 ≤ im.length ∧ im.length ≤ 4096
 ·have HS : Hid (supOf im = if (rdSup (getV (secI im 0) 4 4) (getV (secI im 0) 8 4) (secI im 0)).2.2 = 0 ∧ (rdSup (getV (secI im 0) 4 4) (getV (secI im 0) 8 4) (secI im 0)).1 = im.length then rdSup (getV (secI im 0) 4 4) (getV (secI im 0) 8 4) (secI im 0) else (0, 0, 120)) := hid (by unfold supOf; rw [if_pos hl])
  obtain ⟨b, o, hia, hb, hr⟩ : ∃ b o, ia = some ⟨b, o, none⟩ ∧ b < (w.alloc (.cells #[.int .i64 0, .int .i64 0] 42)).heap.size ∧ ∀ (j : Nat) s, im[j]? = some s → (w.alloc (.cells #[.int .i64 0, .int .i64 0] 42)).rangeAt b (o + j * 128) (s.map (Value.int .u8)) := by
   rcases HI.out.2 with e | e
   ·rw [e] at hl; simp at hl
   ·exact e
  subst hia;have hrk := hr 0 _ (getD_at (by omega));have hsec := HI.out.secI 0;have HRK : Hid ((w.alloc (.cells #[.int .i64 0, .int .i64 0] 42)).rangeAt b (o + 0 * 128) ((secI im 0).map (Value.int .u8))) := hid hrk;have HSL := hid hsec.1;have hRI := readSuper_any (secI im 0) hsec (w.alloc (.cells #[.int .i64 0, .int .i64 0] 42));obtain ⟨n, hn⟩ : ∃ y, y = im.length := ⟨_, rfl⟩;rw [← hn] at hl HS ⊢;rw [HS.out];obtain ⟨r, hre⟩ : ∃ y, y = rdSup (getV (secI im 0) 4 4) (getV (secI im 0) 8 4) (secI im 0) := ⟨_, rfl⟩;rw [← hre] at hRI ⊢
  have i1 : ¬ ((n : Int) < 8) := by omega
  have i2 : ¬ ((n : Int) > 4096) := by omega
  have i3 : (0 : Int) < (n : Int) := by omega
  generalize secI im 0 = sk at *
  obtain ⟨ra, rb, re⟩ := r
  simp only at *
  clear hr hrk hsec HS hn hre HI
  go_enter Tryz.func21, Tryz.ntmps21
  go_upto_region 4 with (first
   | (refine load_mid 33 _ rfl b (o + 0 * 128) rfl _ _ HRK.out Tryz.underlying33 rfl (by rw [sz26, List.length_map, HSL.out]) (by rfl) ?_)
   | (go_at_call 40; go_must (refine hRI.mono ?_; rintro e w1 ⟨rfl, hb1⟩))
   | (refine store_R rfl 42 _ _ rfl w1.heap.size (SUA ra rb) rfl rfl 42 _ (heap_alloc_new _ _) szSU rfl (SUA_one _ _) ?_; intro w2 hw2)
   | fail)
  have hg6 := hw2.here;have hA1 : Chg (w.alloc (.cells #[.int .i64 0, .int .i64 0] 42)) w2 No := ((Chg.of_below hb1 No).trans (Chg.alloc w1 (.cells #[.int .i64 0, .int .i64 0] 42) No) (c := No) (fun _ _ e => e) (fun _ _ e => e)).trans (kt_new hw2) (fun _ _ e => e) (fun j hj e => by have := hb1.size; omega);have HN2 := hid (hA1.keep HN.out (fun e => e));have HC2 := hid (HA.out.trans hA1 (c := No) (fun _ _ e => e) (fun _ _ e => e));have HG6 := hid hg6;have hcr : w2.cell? ⟨w1.heap.size, 0, none⟩ = some (.int .i64 ra) := (cell_of_row _ _ _ _ _ _ hg6).trans rfl;clear hg6 hw2 hb1 hA1 hRI
  by_cases he : re = 0
  ·by_cases hn : ra = (n : Int)
   ·subst he hn
    go_wp2_with (first
     | (refine load_R rfl 42 _ rfl w1.heap.size rfl 42 _ _ HG6.out Tryz.underlying42 rfl szSU ?_)
     | (refine store_R rfl 42 _ _ rfl w.heap.size (SUA n rb) rfl rfl 42 _ HN2.out szSU rfl (SUA_one _ _) ?_; intro w5 hw5)
     | fail)
    refine bodyPost_ret (v := .tuple #[.agg (SUA n rb), .int .i64 0]) (results_R Tryz.results21 _ _ w.heap.size _ 42 _ _ Tryz.underlying42 rfl szSU rfl rfl hw5.here) rfl ⟨by first | rfl | simp_all, HC2.out.trans (kt_new hw5) (fun _ _ e => e) (fun j hj e => by omega)⟩
   ·subst he
    go_wp2_with (first
     | (refine load_R rfl 42 _ rfl w1.heap.size rfl 42 _ _ HG6.out Tryz.underlying42 rfl szSU ?_)
     | (refine store_R rfl 42 _ _ rfl w.heap.size (SUA 0 0) rfl rfl 42 _ HN2.out szSU rfl (SUA_one _ _) ?_; intro w5 hw5)
     | fail)
    refine bodyPost_ret (v := .tuple #[.agg (SUA 0 0), .int .i64 120]) (results_R Tryz.results21 _ _ w.heap.size _ 42 _ _ Tryz.underlying42 rfl szSU rfl rfl hw5.here) rfl ⟨by first | rfl | simp_all, HC2.out.trans (kt_new hw5) (fun _ _ e => e) (fun j hj e => by omega)⟩
  ·have hre : (re == 0) = false := by simpa using he
   go_wp2_with (first
    | (refine load_R rfl 42 _ rfl w1.heap.size rfl 42 _ _ HG6.out Tryz.underlying42 rfl szSU ?_)
    | (refine store_R rfl 42 _ _ rfl w.heap.size (SUA 0 0) rfl rfl 42 _ HN2.out szSU rfl (SUA_one _ _) ?_; intro w5 hw5)
    | fail)
   refine bodyPost_ret (v := .tuple #[.agg (SUA 0 0), .int .i64 120]) (results_R Tryz.results21 _ _ w.heap.size _ 42 _ _ Tryz.underlying42 rfl szSU rfl rfl hw5.here) rfl ⟨by first | rfl | simp_all, HC2.out.trans (kt_new hw5) (fun _ _ e => e) (fun j hj e => by omega)⟩
 ·have HS : Hid (supOf im = (0, 0, 120)) := hid (by unfold supOf; rw [if_neg hl])
  rw [HS.out];obtain ⟨n, hn⟩ : ∃ y, y = im.length := ⟨_, rfl⟩;rw [← hn] at hl ⊢;clear hn HI
  by_cases h8 : (n : Int) < 8
  ·go_enter Tryz.func21, Tryz.ntmps21
   go_wp2_with (first
    | (refine store_R rfl 42 _ _ rfl w.heap.size (SUA 0 0) rfl rfl 42 _ HN.out szSU rfl (SUA_one _ _) ?_; intro w5 hw5)
    | fail)
   refine bodyPost_ret (v := .tuple #[.agg (SUA 0 0), .int .i64 120]) (results_R Tryz.results21 _ _ w.heap.size _ 42 _ _ Tryz.underlying42 rfl szSU rfl rfl hw5.here) rfl ⟨rfl, HA.out.trans (kt_new hw5) (fun _ _ e => e) (fun j hj e => by omega)⟩
  ·have h9 : (n : Int) > 4096 := by omega
   go_enter Tryz.func21, Tryz.ntmps21
   go_wp2_with (first
    | (refine store_R rfl 42 _ _ rfl w.heap.size (SUA 0 0) rfl rfl 42 _ HN.out szSU rfl (SUA_one _ _) ?_; intro w5 hw5)
    | fail)
   refine bodyPost_ret (v := .tuple #[.agg (SUA 0 0), .int .i64 120]) (results_R Tryz.results21 _ _ w.heap.size _ 42 _ _ Tryz.underlying42 rfl szSU rfl rfl hw5.here) rfl ⟨rfl, HA.out.trans (kt_new hw5) (fun _ _ e => e) (fun j hj e => by omega)⟩

end Go.Proofs.YtpmignilhoihnaaGreat

namespace Go.Proofs.YtpmignilhoihnaaGreat
open Go.RowKit Go.Shelf

theorem flat_len : ∀ (im : Img), (∀ s ∈ im, s.length = 128) → (im.flatten).length = im.length * 128
 | [], _ => rfl
 | s :: im, h => by
  have ih := flat_len im fun x hx => h x (List.mem_cons_of_mem _ hx)
  have := h s (by simp);rw [List.flatten_cons, List.length_append, List.length_cons]
  omega
theorem flat_get : ∀ (im : Img), (∀ s ∈ im, s.length = 128) → ∀ (j : Nat) s, im[j]? = some s → ∀ i, i < 128 → (im.flatten)[j * 128 + i]? = s[i]?
 | [], _, j, s, h, _, _ => by simp at h
 | a :: im, hh, 0, s, h, i, hi => by
  simp at h
  subst h;have := hh a (by simp);rw [List.flatten_cons, List.getElem?_append_left (by omega), show 0 * 128 + i = i by omega]
 | a :: im, hh, j + 1, s, h, i, hi => by
  have ih := flat_get im (fun x hx => hh x (List.mem_cons_of_mem _ hx)) j s (by simpa using h) i hi;have := hh a (by simp);rw [List.flatten_cons, List.getElem?_append_right (by omega), ← ih]
  congr 1
  omega
theorem flat_at {im : Img} (hh : ∀ s ∈ im, s.length = 128) {j : Nat} {x : Int} (h : (im.flatten)[j]? = some x) : ∃ s, im[j / 128]? = some s ∧ s[j % 128]? = some x := by
 have hl := flat_len im hh
 have hj : j < im.length * 128 := by rw [← hl]; exact (List.getElem?_eq_some_iff.1 h).1
 have hq : j / 128 < im.length := by omega
 refine ⟨im[j / 128], List.getElem?_eq_getElem hq, ?_⟩;rw [← flat_get im hh (j / 128) _ (List.getElem?_eq_getElem hq) (j % 128) (by omega), show j / 128 * 128 + j % 128 = j by omega]
 exact h

theorem clone_any {b o ic : Nat} {im : Img} {w : World} (h : ImgAt w (some ⟨b, o, none⟩) im) (hn : 1 ≤ im.length) (hm : im.length ≤ 4096) :
  Calls Tryz.prog 41 #[.slice (some ⟨b, o, none⟩) im.length ic] w fun e w' => ∃ g wc, e = .returned (.slice (some ⟨g, 0, none⟩) im.length wc) ∧ w.heap.size ≤ g ∧ WtAt w' g im ∧ Chg w w' No := by
 have hl : ∀ s ∈ im, s.length = 128 := fun s hs => (h.1 s hs).1
 have hfl := flat_len im hl
 obtain ⟨b', o', e, hb, hr⟩ : ∃ b' o', some (⟨b, o, none⟩ : Addr) = some ⟨b', o', none⟩ ∧ b' < w.heap.size ∧ ∀ (j : Nat) s, im[j]? = some s → w.rangeAt b' (o' + j * 128) (s.map (Value.int .u8)) := by
  rcases h.2 with e | e
  ·rw [e] at hn; simp at hn
  ·exact e
 cases e
 have hi : (Tryz.prog.info? 33).map (fun i => (i.zero, i.size, i.bytes)) = some (some (.agg (SA Zs)), 128, 128) := by kernel_rfl
 obtain ⟨i0, hi0, hi1⟩ : ∃ i0, Tryz.prog.info? 33 = some i0 ∧ (i0.zero, i0.size, i0.bytes) = (some (.agg (SA Zs)), 128, 128) := by
  cases hq : Tryz.prog.info? 33 with
  | none => rw [hq] at hi; cases hi
  | some i0 => rw [hq] at hi; exact ⟨i0, rfl, Option.some.inj hi⟩
 simp only [Prod.mk.injEq] at hi1
 refine (AnyE.slices_Clone (ρ := layClone_ren) layClone i0 (.agg (SA Zs)) 128 128 hi0 hi1.1 hi1.2.1 hi1.2.2 (by kernel_rfl) (by decide) (fun w => by kernel_rfl) b o im.length ic (im.flatten.map (Value.int .u8)) w (by rw [List.length_map, hfl]) (by unfold maxLen; omega) (by omega) (fun j u hj => ?_) (fun u hu => ?_)).mono ?_
 ·rw [List.getElem?_map] at hj
  cases hq : im.flatten[j]? with
  | none => rw [hq] at hj; cases hj
  | some x =>
   rw [hq] at hj;have := Option.some.inj hj;subst this;obtain ⟨s, h1, h2⟩ := flat_at hl hq;have := hr (j / 128) s h1 (j % 128) (.int .u8 x) (by rw [List.getElem?_map, h2]; rfl);rw [show o + j = o + j / 128 * 128 + j % 128 by omega]
   exact this
 ·obtain ⟨x, _, rfl⟩ := List.mem_map.1 hu
  rfl
 ·rintro e w' ⟨v', rfl, ⟨_, ho⟩, hne, hb'⟩
  rcases ho with ⟨e, _⟩ | ⟨g, cap, cur, rfl, hg, hh, h1, h2, h3, h4⟩
  ·exact absurd e hne
  ·refine ⟨g, cap, rfl, hg, ⟨h.1, cur, hh, fun j s hj i x hx => ?_⟩, Chg.of_below hb' _⟩
   have hi := (List.getElem?_eq_some_iff.1 hx).1;have hjl := (List.getElem?_eq_some_iff.1 hj).1;rw [hl s (List.mem_of_getElem? hj)] at hi
   have e1 : (cur.toList.take (im.length * 128))[j * 128 + i]? = some (.int .u8 x) := by
    rw [h4, List.getElem?_map, flat_get im hl j s hj i hi, hx]
    rfl
   rw [List.getElem?_take_of_lt (by omega)] at e1
   simpa using e1

end Go.Proofs.YtpmignilhoihnaaGreat
