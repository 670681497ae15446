/-
 Lists of numbers that are the same, wherever they lie; what a look leaves, with its lists.
-/
import Derived.Test.YtboammbcoleicabGreatJA
import Derived.Test.YtboammbcoleicabGreatX7
import Derived.Test.YtboammbcoleicabGreatHA
import Derived.BigQuiet
namespace Go.Proofs.YtboammbcoleicabGreat
open Go.RowKit Go.Shelf

theorem Chg.tr {w w1 w2 : World} (h : Chg w w1 No) (k : Chg w1 w2 No) : Chg w w2 No := h.trans k (fun _ _ e => e) (fun _ _ e => e)
theorem ImgAt.of_wt {w : World} {g : Nat} {im : Img} (h : WtAt w g im) : ImgAt w (some ⟨g, 0, none⟩) im := by
 refine ⟨h.1, .inr ⟨g, 0, rfl, h.lt, fun j s hj => ?_⟩⟩;have hl := (List.getElem?_eq_some_iff.1 hj).1;have := h.range hl;rw [getD_at hl] at hj;rw [← Option.some.inj hj, Nat.zero_add]
 exact this
section
variable {ops : Array Oper} {Q : Exit → Act → World → Prop} {S : World → Prop} {fuel : Nat} {listed : Array Bool} {a : Act} {w : World}
theorem takeNe (i d : Nat) (x y : Operand) (c c' : List Int) (b : Bool) (hc : c.length = 128) (hc' : c'.length = 128) (hb : decide (c = c') = b) {o : Oper} (hop : ops[i]? = some o) (hs : Region.noSelect ops = true) (hf : Region.free .any ops listed i = true) (hr : (Region.ready .any ops listed).contains i = true)
  (hd : o.dst = some d) (ho : o.op = .binOp .neq 46 x y 46) (hx : a.eval x = .agg (SA c)) (hy : a.eval y = .agg (SA c')) (hw : Region.wanted o (yielded ops a.tmps) = true) (hQ : ∀ c a w, ¬ Q (.panic c) a w) (hS : S w)
  (h : wpAnyH Tryz.prog .any ops Q S fuel (listed.setIfInBounds i true) { a with tmps := a.tmps.setIfInBounds d (.bool (!b)) } w) : wpAnyH Tryz.prog .any ops Q S (fuel + 1) listed a w := by
 refine takeVal i d _ hop hs hf hr hd hw hQ hS (fun w hw' => ?_) h
 have hq : (Op.equalIn 10000 46 (.agg (SA c)) (.agg (SA c'))).run Tryz.prog w = .ok b w := by rw [eq_sec _ _ hc hc', hb]
 unfold execOp
 simp only [ho, hx, hy, Sem.run_bind, run_eqGuard_agg _ _ _ _ _ _ _ guard_sec, run_neq_struct, hq, Result.andThen_ok, Sem.run_pure]
end
theorem img_range {w : World} {a : Option Addr} {im : Img} (h : ImgAt w a im) (hn : 1 ≤ im.length) : ∃ b o, a = some ⟨b, o, none⟩ ∧ b < w.heap.size ∧ ∀ (w' : World), Chg w w' No → ∀ j : Nat, j < im.length → w'.rangeAt b (o + j * 128) ((secI im (j : Int)).map (Value.int .u8)) := by
 rcases h.2 with e | ⟨b, o, e, hb, hr⟩
 ·rw [e] at hn; simp at hn
 ·exact ⟨b, o, e, hb, fun w' hc j hj i x hx => cell_keep (hr j _ (getD_at hj) i x hx) hc hb (fun e => e)⟩

set_option maxHeartbeats 1000000 in
set_option maxRecDepth 100000 in
theorem secs_same (im : Img) (a b : Option Addr) (ca cb : Nat) (w : World) (hl : im.length ≤ 5000) (hA : ImgAt w a im) (hB : ImgAt w b im) : Calls Tryz.prog 11 #[.slice a im.length ca, .slice b im.length cb] w fun e w' => e = .returned (.bool true) ∧ Chg w w' No := by
 have HS : Hid (∀ j, IsSec (secI im j)) := hid hA.secI;have HA : Hid (1 ≤ im.length → ∃ b o, a = some ⟨b, o, none⟩ ∧ b < w.heap.size ∧ ∀ (w' : World), Chg w w' No → ∀ j : Nat, j < im.length → w'.rangeAt b (o + j * 128) ((secI im (j : Int)).map (Value.int .u8))) := hid (img_range hA);have HB : Hid (1 ≤ im.length → ∃ b' o, b = some ⟨b', o, none⟩ ∧ b' < w.heap.size ∧ ∀ (w' : World), Chg w w' No → ∀ j : Nat, j < im.length → w'.rangeAt b' (o + j * 128) ((secI im (j : Int)).map (Value.int .u8))) := hid (img_range hB);clear hA hB;obtain ⟨m, hm⟩ : ∃ y, y = im.length := ⟨_, rfl⟩;rw [← hm] at hl HA HB ⊢;clear hm
 go_enter Tryz.func11, Tryz.ntmps11
 go_wp2_with fail
 go_loopw [5] (fun i wr => ∃ (k : Nat) (wq : World), wq = wr ∧ i = .int .i64 k ∧ k ≤ m ∧ Hid (Chg w wq No)) (fun i _ => m - (intOf i).toNat)
 case atStart => exact ⟨0, w, rfl, rfl, by omega, hid (Chg.refl _ _)⟩
 case round =>
  obtain ⟨k, wq, rfl, rfl, hk, HC⟩ := hrel
  by_cases hlt : k < m
  ·have hki : (k : Int) < (m : Int) := by omega
   have hk0 : (0 : Int) ≤ (k : Int) := by omega
   obtain ⟨ga, oa, rfl, _, ra⟩ := HA.out (by omega);obtain ⟨gb, ob, rfl, _, rb⟩ := HB.out (by omega);obtain ⟨ik, hik⟩ : ∃ y, y = secI im (k : Int) := ⟨_, rfl⟩
   have hR1 := fun W' (hW : Chg wq W' No) => ra W' (HC.out.tr hW) k hlt
   have hR2 := fun W' (hW : Chg wq W' No) => rb W' (HC.out.tr hW) k hlt
   rw [← hik] at hR1 hR2;have HIS : Hid (ik.length = 128) := hid (by rw [hik]; exact (HS.out _).1);clear ra rb hik hlt
   go_upto_region 6 with fail
   refine wp_region_noPanic ?_;refine wp_region_held_drew (S := fun w' => Chg wq w' No) (by kernel_rfl) (Chg.refl _ _).drew (fun hH => ?_);obtain ⟨w6, hw6⟩ : ∃ y, y = wq.drew := ⟨_, rfl⟩;rw [← hw6] at hH ⊢;clear hw6;refine tV 0 17 (.slice (some ⟨ga, oa, none⟩) m ca) rfl (by kernel_rfl) rfl (by rfl) hH (fun W' hw' => rfl) ?_;simp only [sS];refine tV 1 18 (.int .i64 (k : Int)) rfl (by kernel_rfl) rfl (by rfl) hH (fun W' hw' => rfl) ?_;simp only [sS];refine tV 2 19 (.pointer (some ⟨ga, oa + k * 128, none⟩)) rfl (by kernel_rfl) rfl (by rfl) hH (fun W' hw' => by clear hR1 hR2; go_simp) ?_;simp only [sS];refine takeMid 3 20 (.tmp 19) ga (oa + k * 128) ik HIS.out rfl (by kernel_rfl) (by kernel_rfl) (by kernel_rfl) rfl rfl rfl (by rfl) (fun _ _ _ h => h) hH (fun W' hw' => hR1 W' hw') ?_;simp only [sS];refine tV 4 21 (.slice (some ⟨gb, ob, none⟩) m cb) rfl (by kernel_rfl) rfl (by rfl) hH (fun W' hw' => rfl) ?_;simp only [sS];refine tV 5 22 (.int .i64 (k : Int)) rfl (by kernel_rfl) rfl (by rfl) hH (fun W' hw' => rfl) ?_;simp only [sS];refine tV 6 23 (.pointer (some ⟨gb, ob + k * 128, none⟩)) rfl (by kernel_rfl) rfl (by rfl) hH (fun W' hw' => by clear hR1 hR2; go_simp) ?_;simp only [sS];refine takeMid 7 24 (.tmp 23) gb (ob + k * 128) ik HIS.out rfl (by kernel_rfl) (by kernel_rfl) (by kernel_rfl) rfl rfl rfl (by rfl) (fun _ _ _ h => h) hH (fun W' hw' => hR2 W' hw') ?_;simp only [sS];refine takeNe 8 25 (.tmp 20) (.tmp 24) ik ik true HIS.out HIS.out (decide_eq_true rfl) rfl (by kernel_rfl) (by kernel_rfl) (by kernel_rfl) rfl rfl rfl rfl (by rfl) (fun _ _ _ h => h) hH ?_;simp only [sS];refine wpAnyH_done (by kernel_rfl) ?_ _;refine NoPanic.normal ?_;have HC6 : Hid (Chg w w6 No) := hid (HC.out.tr hH);clear hH hR1 hR2
   go_wp2_with fail
   exact ⟨⟨k + 1, _, rfl, by go_num, by omega, HC6⟩, by simp [intOf]; omega⟩
  ·have hki : ¬ (k : Int) < (m : Int) := by omega
   clear hk
   go_wp2_with fail
   go_ret
   exact ⟨rfl, HC.out⟩
end Go.Proofs.YtboammbcoleicabGreat

namespace Go.Proofs.YtboammbcoleicabGreat
open Go.RowKit Go.Shelf
-- may lack

theorem IOwn.cap {w : World} {B : Nat} {a : Option Addr} {n c : Nat} {l : List Int} (h : IOwn w B (.slice a n c) l) : l.length ≤ c := by
 rcases h.2 with ⟨e, hz⟩ | ⟨g, cap, cur, e, _, _, h1, _⟩
 ·injection e with _ e2 e3
  omega
 ·injection e with _ _ e3
  omega
structure LkC (w0 w : World) (im : Img) (M : Nat) (gw s1 : Nat) (a1 a2 a3 : Option Addr) : Prop where
 sup : (supOf im).2.2 = 0
 hM : M = (supOf im).2.1.toNat
 ml : M + 2 ≤ im.length
 root : rootB M im = true
 sec : AllSec im
 n1 : 8 ≤ im.length
 n2 : im.length ≤ 4096
 wt : WtAt w gw (lookL M im).wt
 new : w0.heap.size ≤ gw
 tl : (lookL M im).wt.length = im.length
 c1 : (writeI M im (lookL M im)).length ≤ s1
 l1 : LAt w a1 (writeI M im (lookL M im))
 l2 : LAt w a2 (inodesI M (lookL M im))
 l3 : LAt w a3 (blocksI im (lookL M im))
theorem look_c (ia : Option Addr) (ic : Nat) (im : Img) (w : World) (h : ImgAt w ia im) :
  Calls Tryz.prog 18 #[.slice ia im.length ic] w fun e w' => Chg w w' No ∧ ((((supOf im).2.2 = 0 → rootB (supOf im).2.1.toNat im = false) ∧ ∃ E, (E = lookE im ∧ (E = 120 ∨ E = 121)) ∧ e = .returned (.tuple #[.agg nil4, .int .i64 E])) ∨
   ∃ M gw wc s1 s2 s3 a1 a2 a3, e = .returned (.tuple #[.agg #[.slice (some ⟨gw, 0, none⟩) im.length wc, .slice a1 (writeI M im (lookL M im)).length s1, .slice a2 (inodesI M (lookL M im)).length s2, .slice a3 (blocksI im (lookL M im)).length s3], .int .i64 0]) ∧ LkC w w' im M gw s1 a1 a2 a3) := by
 by_cases he : (supOf im).2.2 = 0
 ·refine (look_good ia ic im (supOf im).2.1.toNat w h he rfl).mono ?_
  rintro e w' ⟨r, rfl, hc, h1, h2⟩
  refine ⟨hc, ?_⟩;obtain ⟨s1, s2, s3, s4, s5⟩ := supOf_ok he
  cases hb : rootB (supOf im).2.1.toNat im with
  | false => exact .inl ⟨fun _ => rfl, 121, ⟨by unfold lookE; rw [if_neg (by simp [he]), hb]; rfl, .inr rfl⟩, by rw [h1 hb]; rfl⟩
  | true =>
   obtain ⟨g, wc, v1, v2, v3, rfl, hnw, hwt, hR⟩ := h2 hb;have hkp := lookL_kp hb;obtain ⟨M, hM⟩ : ∃ y, y = (supOf im).2.1.toNat := ⟨_, rfl⟩;rw [← hM] at hR hwt hkp hb;obtain ⟨a1, c1, rfl, hl1⟩ := hR.o1.lat;obtain ⟨a2, c2, rfl, hl2⟩ := hR.o2.lat;obtain ⟨a3, c3, rfl, hl3⟩ := hR.o3.lat
   exact .inr ⟨M, g, wc, c1, c2, c3, a1, a2, a3, by rw [← hM, hkp.1]; rfl, he, hM, by omega, hb, h.secI, s2, s3, hwt, hnw, hkp.1, hR.o1.cap, hl1, hl2, hl3⟩
 ·refine (look_bad ia ic im w h he).mono ?_
  rintro e w' ⟨rfl, hc⟩
  exact ⟨hc, .inl ⟨fun e => absurd e he, 120, ⟨by unfold lookE; rw [if_pos he], .inl rfl⟩, rfl⟩⟩
end Go.Proofs.YtboammbcoleicabGreat
