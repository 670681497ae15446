/-
 Two lists of sectors that are the same are told so.
-/
import Derived.Test.YtpmignilhoihnaaGreatX3
import Derived.Test.YtpmignilhoihnaaGreatX7
namespace Go.Proofs.YtpmignilhoihnaaGreat
open Go.RowKit Go.Shelf

theorem infoSec : ∃ i, Tryz.prog.info? 33 = some i ∧ i.zero = some (.agg (SA Zs)) ∧ i.size = 128 ∧ i.bytes = 128 := by
 have h : (Tryz.prog.info? 33).map (fun i => (i.zero, i.size, i.bytes)) = some (some (.agg (SA Zs)), 128, 128) := by kernel_rfl
 cases hq : Tryz.prog.info? 33 with
 | none => rw [hq] at h; cases h
 | some i =>
  rw [hq] at h;have h := Option.some.inj h
  simp only [Prod.mk.injEq] at h
  exact ⟨i, rfl, h.1, h.2.1, h.2.2⟩
theorem img_src {b o : Nat} {im : Img} {w : World} (h : ImgAt w (some ⟨b, o, none⟩) im) (hn : 1 ≤ im.length) : ∀ (j : Nat) u, (im.flatten.map (Value.int .u8))[j]? = some u → w.cell? ((⟨b, o, none⟩ : Addr).add j) = some u := fun j u hj => by
 have hl : ∀ s ∈ im, s.length = 128 := fun s hs => (h.1 s hs).1
 obtain ⟨b', o', e, hb, hr⟩ : ∃ b' o', some (⟨b, o, none⟩ : Addr) = some ⟨b', o', none⟩ ∧ b' < w.heap.size ∧ ∀ (j : Nat) s, im[j]? = some s → w.rangeAt b' (o' + j * 128) (s.map (Value.int .u8)) := by
  rcases h.2 with e | e
  ·rw [e] at hn; simp at hn
  ·exact e
 cases e
 rw [List.getElem?_map] at hj
 cases hq : im.flatten[j]? with
 | none => rw [hq] at hj; cases hj
 | some x =>
  rw [hq] at hj;have := Option.some.inj hj;subst this;obtain ⟨s, h1, h2⟩ := flat_at hl hq;have := hr (j / 128) s h1 (j % 128) (.int .u8 x) (by rw [List.getElem?_map, h2]; rfl);rw [addr_add, show o + j = o + j / 128 * 128 + j % 128 by omega]
  exact this
theorem wt_of_row {w : World} {B : Nat} {v : Value} {im : Img} (hs : ∀ s ∈ im, IsSec s) (hn : 1 ≤ im.length) (h : w.ownsRow B 33 128 v im.length (im.flatten.map (Value.int .u8))) : ∃ g cap, v = .slice (some ⟨g, 0, none⟩) im.length cap ∧ B ≤ g ∧ WtAt w g im := by
 have hl : ∀ s ∈ im, s.length = 128 := fun s hx => (hs s hx).1
 rcases h.2 with ⟨e, hz⟩ | ⟨g, cap, cur, rfl, hg, hh, h1, h2, h3, h4⟩
 ·have hz : im.length = 0 := by
   rcases hz with hz
   simpa using hz
  omega
 ·refine ⟨g, cap, rfl, hg, hs, cur, hh, fun j s hj i x hx => ?_⟩
  have hi := (List.getElem?_eq_some_iff.1 hx).1;have hjl := (List.getElem?_eq_some_iff.1 hj).1;rw [hl s (List.mem_of_getElem? hj)] at hi
  have e1 : (cur.toList.take (im.length * 128))[j * 128 + i]? = some (.int .u8 x) := by
   rw [h4, List.getElem?_map, flat_get im hl j s hj i hi, hx]
   rfl
  rw [List.getElem?_take_of_lt (by omega)] at e1
  simpa using e1
section
variable {ops : Array Oper} {rest : List Oper} {o : Oper} {a : Act} {Q : Exit → Act → World → Prop} {w : World}
end
end Go.Proofs.YtpmignilhoihnaaGreat

namespace Go.Proofs.YtpmignilhoihnaaGreat
open Go.RowKit Go.Shelf
-- may lack

theorem chg_drewN (w : World) (n : Nat) : Chg w (w.drewN n) No := ⟨rfl, rfl, rfl, Nat.le_refl _, fun _ _ _ => rfl⟩
theorem Chg.tr {w w1 w2 : World} (h : Chg w w1 No) (k : Chg w1 w2 No) : Chg w w2 No := h.trans k (fun _ _ e => e) (fun _ _ e => e)
theorem ImgAt.of_wt {w : World} {g : Nat} {im : Img} (h : WtAt w g im) : ImgAt w (some ⟨g, 0, none⟩) im := by
 refine ⟨h.1, .inr ⟨g, 0, rfl, h.lt, fun j s hj => ?_⟩⟩;have hl := (List.getElem?_eq_some_iff.1 hj).1;have := h.range hl;rw [getD_at hl] at hj;rw [← Option.some.inj hj, Nat.zero_add]
 exact this
section
variable {ops : Array Oper} {Q : Exit → Act → World → Prop} {S : World → Prop} {fuel : Nat} {listed : Array Bool} {a : Act} {w : World}
theorem takeNe (i d : Nat) (x y : Operand) (c c' : List Int) (b : Bool) (hc : c.length = 128) (hc' : c'.length = 128) (hb : decide (c = c') = b) {o : Oper} (hop : ops[i]? = some o) (hs : Region.noSelect ops = true) (hf : Region.free .any ops listed i = true) (hr : (Region.ready .any ops listed).contains i = true)
  (hd : o.dst = some d) (ho : o.op = .binOp .neq 33 x y 33) (hx : a.eval x = .agg (SA c)) (hy : a.eval y = .agg (SA c')) (hw : Region.wanted o (yielded ops a.tmps) = true) (hQ : ∀ c a w, ¬ Q (.panic c) a w) (hS : S w)
  (h : wpAnyH Tryz.prog .any ops Q S fuel (listed.setIfInBounds i true) { a with tmps := a.tmps.setIfInBounds d (.bool (!b)) } w) : wpAnyH Tryz.prog .any ops Q S (fuel + 1) listed a w := by
 refine takeVal i d _ hop hs hf hr hd hw hQ hS (fun w hw' => ?_) h
 have hq : (Op.equalIn 10000 33 (.agg (SA c)) (.agg (SA c'))).run Tryz.prog w = .ok b w := by rw [eq_sec _ _ hc hc', hb]
 unfold execOp
 simp only [ho, hx, hy, Sem.run_bind, run_eqGuard_agg _ _ _ _ _ _ _ guard_sec, run_neq_struct, hq, Result.andThen_ok, Sem.run_pure]
end
theorem img_range {w : World} {a : Option Addr} {im : Img} (h : ImgAt w a im) (hn : 1 ≤ im.length) : ∃ b o, a = some ⟨b, o, none⟩ ∧ b < w.heap.size ∧ ∀ (w' : World), Chg w w' No → ∀ j : Nat, j < im.length → w'.rangeAt b (o + j * 128) ((secI im (j : Int)).map (Value.int .u8)) := by
 rcases h.2 with e | ⟨b, o, e, hb, hr⟩
 ·rw [e] at hn; simp at hn
 ·exact ⟨b, o, e, hb, fun w' hc j hj i x hx => cell_keep (hr j _ (getD_at hj) i x hx) hc hb (fun e => e)⟩

set_option maxHeartbeats 1000000 in
set_option maxRecDepth 100000 in
theorem secs_same (im : Img) (a b : Option Addr) (ca cb : Nat) (w : World) (hl : im.length ≤ 5000) (hA : ImgAt w a im) (hB : ImgAt w b im) : Calls Tryz.prog 13 #[.slice a im.length ca, .slice b im.length cb] w fun e w' => e = .returned (.bool true) ∧ Chg w w' No := by
 have HS : Hid (∀ j, IsSec (secI im j)) := hid hA.secI;have HA : Hid (1 ≤ im.length → ∃ b o, a = some ⟨b, o, none⟩ ∧ b < w.heap.size ∧ ∀ (w' : World), Chg w w' No → ∀ j : Nat, j < im.length → w'.rangeAt b (o + j * 128) ((secI im (j : Int)).map (Value.int .u8))) := hid (img_range hA);have HB : Hid (1 ≤ im.length → ∃ b' o, b = some ⟨b', o, none⟩ ∧ b' < w.heap.size ∧ ∀ (w' : World), Chg w w' No → ∀ j : Nat, j < im.length → w'.rangeAt b' (o + j * 128) ((secI im (j : Int)).map (Value.int .u8))) := hid (img_range hB);clear hA hB;obtain ⟨m, hm⟩ : ∃ y, y = im.length := ⟨_, rfl⟩;rw [← hm] at hl HA HB ⊢;clear hm
 go_enter Tryz.func13, Tryz.ntmps13
 go_wp2_with fail
 go_loopw [5] (fun i wr => ∃ (k : Nat) (wq : World), wq = wr ∧ i = .int .i64 k ∧ k ≤ m ∧ Hid (Chg w wq No)) (fun i _ => m - (intOf i).toNat)
 case atStart => exact ⟨0, w, rfl, rfl, by omega, hid (Chg.refl _ _)⟩
 case round =>
  obtain ⟨k, wq, rfl, rfl, hk, HC⟩ := hrel
  by_cases hlt : k < m
  ·have hki : (k : Int) < (m : Int) := by omega
   have hk0 : (0 : Int) ≤ (k : Int) := by omega
   obtain ⟨ga, oa, rfl, _, ra⟩ := HA.out (by omega);obtain ⟨gb, ob, rfl, _, rb⟩ := HB.out (by omega);obtain ⟨ik, hik⟩ : ∃ y, y = secI im (k : Int) := ⟨_, rfl⟩
   have hR1 := fun W' (hW : Chg wq W' No) => ra W' (HC.out.tr hW) k hlt
   have hR2 := fun W' (hW : Chg wq W' No) => rb W' (HC.out.tr hW) k hlt
   rw [← hik] at hR1 hR2;have HIS : Hid (ik.length = 128) := hid (by rw [hik]; exact (HS.out _).1);clear ra rb hik hlt
   go_upto_region 6 with fail
   refine wp_region_noPanic ?_;refine wp_region_held_drew (S := fun w' => Chg wq w' No) (by kernel_rfl) (Chg.refl _ _).drew (fun hH => ?_);obtain ⟨w6, hw6⟩ : ∃ y, y = wq.drew := ⟨_, rfl⟩;rw [← hw6] at hH ⊢;clear hw6;refine tV 0 17 (.slice (some ⟨ga, oa, none⟩) m ca) rfl (by kernel_rfl) rfl (by rfl) hH (fun W' hw' => rfl) ?_;simp only [sS];refine tV 1 18 (.int .i64 (k : Int)) rfl (by kernel_rfl) rfl (by rfl) hH (fun W' hw' => rfl) ?_;simp only [sS];refine tV 2 19 (.pointer (some ⟨ga, oa + k * 128, none⟩)) rfl (by kernel_rfl) rfl (by rfl) hH (fun W' hw' => by clear hR1 hR2; go_simp) ?_;simp only [sS];refine takeMid 3 20 (.tmp 19) ga (oa + k * 128) ik HIS.out rfl (by kernel_rfl) (by kernel_rfl) (by kernel_rfl) rfl rfl rfl (by rfl) (fun _ _ _ h => h) hH (fun W' hw' => hR1 W' hw') ?_;simp only [sS];refine tV 4 21 (.slice (some ⟨gb, ob, none⟩) m cb) rfl (by kernel_rfl) rfl (by rfl) hH (fun W' hw' => rfl) ?_;simp only [sS];refine tV 5 22 (.int .i64 (k : Int)) rfl (by kernel_rfl) rfl (by rfl) hH (fun W' hw' => rfl) ?_;simp only [sS];refine tV 6 23 (.pointer (some ⟨gb, ob + k * 128, none⟩)) rfl (by kernel_rfl) rfl (by rfl) hH (fun W' hw' => by clear hR1 hR2; go_simp) ?_;simp only [sS];refine takeMid 7 24 (.tmp 23) gb (ob + k * 128) ik HIS.out rfl (by kernel_rfl) (by kernel_rfl) (by kernel_rfl) rfl rfl rfl (by rfl) (fun _ _ _ h => h) hH (fun W' hw' => hR2 W' hw') ?_;simp only [sS];refine takeNe 8 25 (.tmp 20) (.tmp 24) ik ik true HIS.out HIS.out (decide_eq_true rfl) rfl (by kernel_rfl) (by kernel_rfl) (by kernel_rfl) rfl rfl rfl rfl (by rfl) (fun _ _ _ h => h) hH ?_;simp only [sS];refine wpAnyH_done (by kernel_rfl) ?_ _;refine NoPanic.normal ?_;have HC6 : Hid (Chg w w6 No) := hid (HC.out.tr hH);clear hH hR1 hR2
   go_wp2_with fail
   exact ⟨⟨k + 1, _, rfl, by go_num, by omega, HC6⟩, by simp [intOf]; omega⟩
  ·have hki : ¬ (k : Int) < (m : Int) := by omega
   clear hk
   go_wp2_with fail
   go_ret
   exact ⟨rfl, HC.out⟩
end Go.Proofs.YtpmignilhoihnaaGreat
