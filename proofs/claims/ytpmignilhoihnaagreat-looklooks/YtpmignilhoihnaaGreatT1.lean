/-
 An inode is taken up.
-/
import Derived.Test.YtpmignilhoihnaaGreatR1
namespace Go.Proofs.YtpmignilhoihnaaGreat
open Go.RowKit Go.Shelf

structure IsV (w : World) (c : LC) (wt : Img) (cl wp : Int → Bool) : Prop where
 p : IsP w c
 k : IsW w c wt cl
 v : SetAt w c.b.vb (fun x => wp x = true)
 vk : ClOk c wp
theorem IsV.call {w w' : World} {c : LC} {wt : Img} {cl wp : Int → Bool} (h : IsV w c wt cl wp) (hc : Chg w w' No) : IsV w' c wt cl wp :=
 ⟨h.p.call hc, h.k.call hc, h.v.keep hc (fun e => e), h.vk⟩
theorem lastB_none {size : Int} {sp : List (Int × Int)} (h : size % 128 = 0 ∨ sp = []) : lastB size sp = none := by
 unfold lastB
 rcases h with h | rfl
 ·cases sp.getLast? with
  | none => rfl
  | some l => simp [h]
 ·rfl
theorem wip_last {sp : List (Int × Int)} {y : Int × Int} {n : Nat} (hn : sp.length = n + 1) (hy : sp[n]? = some y) : sp.getLast? = some y := by
 rw [List.getLast?_eq_getElem?, hn]
 exact hy

section
variable {ops : Array Oper} {Q : Exit → Act → World → Prop} {S : World → Prop} {fuel : Nat} {listed : Array Bool} {a : Act} {w : World}
theorem stSet (i : Nat) (m x v : Operand) (b : Nat) (T : Int → Prop) (k : Int) {o : Oper} (hop : ops[i]? = some o) (hd : o.dst = none) (hw : Region.wanted o (yielded ops a.tmps) = true) (ho : o.op = Op.mapUpdate 56 m x v)
  (hm : a.eval m = .map (some b)) (hx : a.eval x = .int .i64 k) (hv : a.eval v = .agg #[]) (h : SetAt w b T) (hk : I64 k) (hf : ∃ L : List Int, L.length ≤ 5000 ∧ ∀ x, T x → x ∈ L)
  (hK : ∀ w', SetAt w' b (fun y => y = k ∨ T y) → Chg w w' (· = b) → w'.heap.size = w.heap.size → S w' ∧ wpAnyH Tryz.prog .any ops Q S fuel (listed.setIfInBounds i true) a w') : St ops Q S fuel listed a w i := by
 refine wpOp_step hop (fun K hK' => ?_);rw [if_pos hw];obtain ⟨w', hrun, r1, r2, r3⟩ := h.store hk hf
 have hr : (execOp a.eval o).run Tryz.prog w = .ok .skip w' := by simp [execOp, ho, hm, hx, hv, hrun, Result.andThen]
 unfold Oper.wp;rw [hr];refine hK' _ _ ?_;unfold Act.put;rw [hd]
 exact hK w' r1 r2 r3
end

set_option maxRecDepth 100000 in
set_option maxHeartbeats 2000000 in
theorem wipe_any2 {c : LC} {wt : Img} {cl wp : Int → Bool} (size : Int) (sp : List (Int × Int)) (a : Option Addr) (cap : Nat) (w : World) (h : IsV w c wt cl wp) (hs : SpAt w a sp) (h0 : 0 ≤ size) (h1 : size ≤ 136704) (hl : sp.length ≤ 1000000)
  (hd : ∀ x ∈ sp, (c.M : Int) < x.2 ∧ x.2 < c.N) :
  Calls Tryz.prog 85 #[LP c, .int .i64 size, .slice a sp.length cap] w fun e w' => e = .returned (.tuple #[]) ∧ IsV w' c (wipeW size sp wt) cl (wipeP size sp wp) ∧ Chg w w' (fun k => k = c.b.wb ∨ k = c.b.vb) := by
 have HV := hid h;have hm : size.tmod 128 = size % 128 := Int.tmod_eq_emod_of_nonneg h0;have hq : size.tdiv 128 = size / 128 := Int.tdiv_eq_ediv_of_nonneg h0;unfold LP
 by_cases hz : size % 128 = 0
 ·have HL : Hid (lastB size sp = none) := hid (lastB_none (.inl hz))
  have HW : Hid (wipeW size sp wt = wt ∧ wipeP size sp wp = wp) := hid ⟨by unfold wipeW; rw [HL.out], by unfold wipeP; rw [HL.out]⟩
  have hbq : (size % 128 == 0) = true := by simpa using hz
  rw [HW.out.1, HW.out.2];clear h hs hd
  go_enter Tryz.func85, Tryz.ntmps85
  go_wp2_with fail
  exact bodyPost_ret (results_none rfl _ _ _) rfl ⟨rfl, HV.out, Chg.refl _ _⟩
 ·have hbq : (size % 128 == 0) = false := by simpa using hz
  cases hsp : sp.length with
  | zero =>
   obtain rfl : sp = [] := List.eq_nil_of_length_eq_zero hsp;have HL : Hid (lastB size [] = none) := hid (lastB_none (.inr rfl));have HW : Hid (wipeW size [] wt = wt ∧ wipeP size [] wp = wp) := hid ⟨by unfold wipeW; rw [HL.out], by unfold wipeP; rw [HL.out]⟩;rw [HW.out.1, HW.out.2];clear h hs hd hsp
   go_enter Tryz.func85, Tryz.ntmps85
   go_wp2_with fail
   exact bodyPost_ret (results_none rfl _ _ _) rfl ⟨rfl, HV.out, Chg.refl _ _⟩
  | succ n =>
   obtain ⟨y, hy⟩ : ∃ y, sp[n]? = some y := ⟨_, List.getElem?_eq_getElem (by omega)⟩
   obtain ⟨g, rfl, hg, hc⟩ : ∃ g, a = some ⟨g, 0, none⟩ ∧ g < w.heap.size ∧ ∀ (k : Nat) x, sp[k]? = some x → w.cell? ⟨g, k * 2, none⟩ = some (.int .i64 x.1) ∧ w.cell? ⟨g, k * 2 + 1, none⟩ = some (.int .i64 x.2) := by
    rcases hs with h | h
    ·rw [h] at hsp; simp at hsp
    ·exact h
   obtain ⟨c0, c1⟩ := hc n y hy;have hyd := hd y (List.mem_of_getElem? hy);have hlast := wip_last hsp hy
   have n0 : (0 : Int) < (n : Int) + 1 := by omega
   have n1 : (n : Int) ≤ 1000000 := by omega
   have hne : (((n : Int) + 1) == 0) = false := by simp; omega
   by_cases hyi : y.1 = size / 128
   ·obtain ⟨k, hk⟩ : ∃ k : Nat, y.2 = (k : Int) := ⟨y.2.toNat, by omega⟩
    have HL : Hid (lastB size sp = some y) := hid (by unfold lastB; rw [hlast]; simp [hyi, hz]);have HW : Hid (wipeW size sp wt = wt.set k (wip (secI wt (k : Int)) (size % 128)) ∧ wipeP size sp wp = Go.Proofs.YtpmignilhoihnaaGreat.putC wp (k : Int)) := hid ⟨by unfold wipeW; rw [HL.out]; simp only; rw [hk]; rfl, by unfold wipeP; rw [HL.out]; simp only; rw [hk]⟩;rw [HW.out.1, HW.out.2];rw [hk] at hyd c1
    have hkN : k < c.N := by omega
    have k0 : (0 : Int) ≤ (k : Int) := by omega
    have k1 : (k : Int) < (c.N : Int) := by omega
    have HkI : Hid (I64 (k : Int)) := hid (by have := h.p.n2; constructor <;> omega)
    have hyb : (y.1 == size / 128) = true := by simpa using hyi
    have hA := Chg.alloc w (.cells #[.int .i64 y.1, .int .i64 (k : Int)] 116) No;have HA := hid hA;have HY := hid (heap_alloc_new w (.cells #[.int .i64 y.1, .int .i64 (k : Int)] 116));have HVA := hid (h.call hA);have HWP := hid (fun (W : World) => Go.Proofs.YtpmignilhoihnaaGreat.wipe_any (secI wt (k : Int)) (size % 128) W (h.k.wt.sec (k : Int)).1);have HSE := hid (wip_sec (h.k.wt.sec (k : Int)) (size % 128));clear h hs hd hsp hlast hy hc hyi hz hA
    go_enter Tryz.func85, Tryz.ntmps85
    go_upto_region 4 with fail
    have HPW : Hid (c.b.p ≠ c.b.wb) := hid (by
     obtain ⟨A, hA⟩ := HV.out.k.wt.isRow
     exact obj_ne HV.out.p.me hA (by intro e; cases e))
    have HYW : Hid (w.heap.size ≠ c.b.wb) := hid (by have := HV.out.k.wt.lt; omega)
    have HVW : Hid (c.b.vb ≠ c.b.wb) := hid (by
     obtain ⟨A, hA⟩ := HV.out.k.wt.isRow;obtain ⟨es, ck, hm⟩ := HV.out.v.isMap
     exact obj_ne hm hA (by intro e; cases e))
    generalize (w.alloc (.cells #[.int .i64 y.1, .int .i64 (k : Int)] 116)) = W0 at *
    have hP := fun (W : World) (hW : Chg W0 W (· = c.b.wb)) => (HVA.out.p.keep hW HPW.out (fun _ e => e ▸ HVA.out.p.b0)).c3
    have hY : ∀ (W : World), Chg W0 W (· = c.b.wb) → W.cell? ⟨w.heap.size, 1, none⟩ = some (.int .i64 (k : Int)) := fun W hW => by
     have h := hW.keep HY.out HYW.out
     exact (cell_of_row _ _ _ _ _ _ h).trans rfl
    refine wp_region_noPanic ?_;refine wp_region_held_drew (S := fun w' => Chg W0 w' (· = c.b.wb)) (by kernel_rfl) (Chg.refl _ _).drew (fun hH => ?_);refine tV 0 28 (.pointer (some ⟨c.b.p, 0, none⟩)) rfl (by kernel_rfl) rfl (by rfl) hH (fun W' hw' => rfl) ?_;simp only [sS];refine tV 1 29 (.pointer (some ⟨c.b.p, 0, none⟩)) rfl (by kernel_rfl) rfl (by rfl) hH (fun W' hw' => by go_simp) ?_;simp only [sS];refine tV 2 30 (.pointer (some ⟨c.b.p, 3, none⟩)) rfl (by kernel_rfl) rfl (by rfl) hH (fun W' hw' => by go_simp) ?_;simp only [sS];refine tV 3 31 (.slice (some ⟨c.b.wb, 0, none⟩) c.N c.wc) rfl (by kernel_rfl) rfl (by rfl) hH (fun W' hw' => by have hc := hP W' hw'; go_simp) ?_;simp only [sS];refine tV 4 32 (.pointer (some ⟨w.heap.size, 1, none⟩)) rfl (by kernel_rfl) rfl (by rfl) hH (fun W' hw' => by go_simp) ?_;simp only [sS];refine tV 5 33 (.int .i64 (k : Int)) rfl (by kernel_rfl) rfl (by rfl) hH (fun W' hw' => by have hc := hY W' hw'; go_simp) ?_;simp only [sS];refine tV 6 34 (.pointer (some ⟨c.b.p, 0, none⟩)) rfl (by kernel_rfl) rfl (by rfl) hH (fun W' hw' => rfl) ?_;simp only [sS];refine tV 7 35 (.pointer (some ⟨c.b.p, 0, none⟩)) rfl (by kernel_rfl) rfl (by rfl) hH (fun W' hw' => by go_simp) ?_;simp only [sS];refine tV 8 36 (.pointer (some ⟨c.b.p, 3, none⟩)) rfl (by kernel_rfl) rfl (by rfl) hH (fun W' hw' => by go_simp) ?_;simp only [sS];refine tV 9 37 (.slice (some ⟨c.b.wb, 0, none⟩) c.N c.wc) rfl (by kernel_rfl) rfl (by rfl) hH (fun W' hw' => by have hc := hP W' hw'; go_simp) ?_;simp only [sS];refine tV 10 38 (.pointer (some ⟨w.heap.size, 1, none⟩)) rfl (by kernel_rfl) rfl (by rfl) hH (fun W' hw' => by go_simp) ?_;simp only [sS];refine tV 11 39 (.int .i64 (k : Int)) rfl (by kernel_rfl) rfl (by rfl) hH (fun W' hw' => by have hc := hY W' hw'; go_simp) ?_;simp only [sS];refine tV 12 40 (.pointer (some ⟨c.b.wb, k * 128, none⟩)) rfl (by kernel_rfl) rfl (by rfl) hH (fun W' hw' => by go_simp) ?_;simp only [sS];refine tV 14 42 (.int .i64 (size % 128)) rfl (by kernel_rfl) rfl (by rfl) hH (fun W' hw' => rfl) ?_;simp only [sS]
    have hkl : k < wt.length := by rw [HVA.out.k.wl]; exact hkN
    refine step1 13 (by kernel_rfl) ?_;refine stVal 13 41 (.agg (SA (secI wt (k : Int)))) rfl rfl (by rfl) ?_ hH ?_
    ·have hl := load_wt (HVA.out.k.call (Chg.refl W0 No).drew).wt hkl
     have hx : ∀ (f : Operand → Value) (x : Operand), f x = .pointer (some ⟨c.b.wb, k * 128, none⟩) → (execOp f { dst := some 41, op := Op.load 33 x, type := 33, pos := "", after := #[], guard := none }).run Tryz.prog W0.drew = .ok (.value (.agg (SA (secI wt (k : Int))))) W0.drew := fun f x hf => by
      simp only [execOp, hf, Instr.loadAt, Instr.sureAddr, Sem.run_bind, Sem.run_pure, Result.andThen_ok, hl]
     exact hx _ (.tmp 40) rfl
    simp only [sS];refine step1 15 (by kernel_rfl) ?_;refine stCall 15 43 118 #[.agg (SA (secI wt (k : Int))), .int .i64 (size % 128)] _ rfl rfl (by rfl) (by go_simp) (HWP.out _) ?_
    rintro e w5 ⟨rfl, hb5⟩
    have hc5n : Chg W0 w5 No := ((Chg.refl W0 No).drew).trans (Chg.of_below hb5 No) (fun _ _ e => e) (fun _ _ e => e)
    have hc5 : Chg W0 w5 (· = c.b.wb) := hc5n.mono fun _ _ e => e.elim
    refine ⟨_, rfl, hc5, ?_⟩;simp only [sS];refine tV 16 44 (.pointer (some ⟨c.b.wb, k * 128, none⟩)) rfl (by kernel_rfl) rfl (by rfl) hc5 (fun W' hw' => by go_simp) ?_;simp only [sS];refine step1 17 (by kernel_rfl) ?_;refine stStoreW 17 (.tmp 44) (.tmp 43) c.b.wb k (wip (secI wt (k : Int)) (size % 128)) wt rfl rfl (by rfl) rfl rfl rfl HSE.out (HVA.out.k.call hc5n).wt hkl ?_
    intro w6 hw6 hc6 hz6
    have hc06 : Chg W0 w6 (· = c.b.wb) := hc5.trans hc6 (fun _ _ e => e) (fun _ _ e => e);refine ⟨hc06, ?_⟩;refine wpAnyH_done (by kernel_rfl) ?_ _;refine NoPanic.normal ?_;have H6 := hid hw6;have HC6 := hid hc06;clear hH hb5 hc5n hc5 hw6 hc6 hz6 hc06 hP hY
    go_upto_region 5 with fail
    have hp6 := HVA.out.p.keep HC6.out HPW.out (fun _ e => e ▸ HVA.out.p.b0)
    have hv6 := HVA.out.v.keep HC6.out HVW.out;have HYV : Hid (w.heap.size ≠ c.b.vb) := hid (by have := HV.out.v.lt; omega)
    have HPV : Hid (c.b.p ≠ c.b.vb) := hid (by
     obtain ⟨es, ck, hm⟩ := HV.out.v.isMap
     exact obj_ne HV.out.p.me hm (by intro e; cases e))
    have HP6 := hid hp6;have HV6 := hid hv6;have HY6 := hid (HC6.out.keep HY.out HYW.out)
    have hP := fun (W : World) (hW : Chg w6 W (· = c.b.vb)) => (HP6.out.keep hW HPV.out (fun _ e => e ▸ HP6.out.b2)).c5
    have hY : ∀ (W : World), Chg w6 W (· = c.b.vb) → W.cell? ⟨w.heap.size, 1, none⟩ = some (.int .i64 (k : Int)) := fun W hW => by
     have h := hW.keep HY6.out HYV.out
     exact (cell_of_row _ _ _ _ _ _ h).trans rfl
    have hbu : ∀ w', (Instr.build 92 #[]).run Tryz.prog w' = .ok (.agg #[]) w' := fun w' => by kernel_rfl
    refine wp_region_noPanic ?_;refine wp_region_held_drew (S := fun w' => Chg w6 w' (· = c.b.vb)) (by kernel_rfl) (Chg.refl _ _).drew (fun hH => ?_);refine tV 0 45 (.pointer (some ⟨c.b.p, 0, none⟩)) rfl (by kernel_rfl) rfl (by rfl) hH (fun W' hw' => rfl) ?_;simp only [sS];refine tV 1 46 (.pointer (some ⟨c.b.p, 0, none⟩)) rfl (by kernel_rfl) rfl (by rfl) hH (fun W' hw' => by go_simp) ?_;simp only [sS];refine tV 2 47 (.pointer (some ⟨c.b.p, 5, none⟩)) rfl (by kernel_rfl) rfl (by rfl) hH (fun W' hw' => by go_simp) ?_;simp only [sS];refine tV 3 48 (.map (some c.b.vb)) rfl (by kernel_rfl) rfl (by rfl) hH (fun W' hw' => by have hc := hP W' hw'; go_simp) ?_;simp only [sS];refine tV 4 49 (.pointer (some ⟨w.heap.size, 1, none⟩)) rfl (by kernel_rfl) rfl (by rfl) hH (fun W' hw' => by go_simp) ?_;simp only [sS];refine tV 5 50 (.int .i64 (k : Int)) rfl (by kernel_rfl) rfl (by rfl) hH (fun W' hw' => by have hc := hY W' hw'; go_simp) ?_;simp only [sS];refine tV 6 51 (.agg #[]) rfl (by kernel_rfl) rfl (by rfl) hH (fun W' hw' => by go_simp) ?_;simp only [sS];refine step1 7 (by kernel_rfl) ?_;refine stSet 7 (.tmp 48) (.tmp 50) (.tmp 51) c.b.vb (fun x => wp x = true) (k : Int) rfl rfl (by rfl) rfl rfl rfl rfl (HV6.out.keep (Chg.refl w6 No).drew (fun e => e)) HkI.out (few_cl HV.out.vk HV.out.p) ?_
    intro w7 hs7 hc7 hz7
    have hc67 : Chg w6 w7 (· = c.b.vb) := hH.trans hc7 (fun _ _ e => e) (fun _ _ e => e);refine ⟨hc67, ?_⟩;refine wpAnyH_done (by kernel_rfl) ?_ _;refine NoPanic.normal ?_
    go_wp2_with fail
    go_end0
    obtain ⟨es, ck, hm⟩ := HVA.out.k.cl.isMap;obtain ⟨A, hA⟩ := HVA.out.k.wt.isRow
    refine ⟨rfl, ⟨HP6.out.keep hc67 HPV.out (fun _ e => e ▸ HP6.out.b2), ⟨H6.out.keep hc67 (fun e => HVW.out e.symm), by rw [List.length_set]; exact HVA.out.k.wl, (HVA.out.k.cl.keep HC6.out (obj_ne hm hA (by intro e; cases e))).keep hc67 HP6.out.cv, HVA.out.k.ck⟩, hs7.cong fun x => by simp [Go.Proofs.YtpmignilhoihnaaGreat.putC], fun x hx => ?_⟩, ?_⟩
    ·simp only [Go.Proofs.YtpmignilhoihnaaGreat.putC, Bool.or_eq_true, beq_iff_eq] at hx
     rcases hx with rfl | hx
     ·exact hyd
     ·exact HVA.out.vk x hx
    ·exact (HA.out.trans HC6.out (fun _ _ e => e.elim) (fun _ _ e => .inl e)).trans hc67 (fun _ _ e => e) (fun _ _ e => .inr e)
   ·have HL : Hid (lastB size sp = none) := hid (by unfold lastB; rw [hlast]; simp [hyi])
    have HW : Hid (wipeW size sp wt = wt ∧ wipeP size sp wp = wp) := hid ⟨by unfold wipeW; rw [HL.out], by unfold wipeP; rw [HL.out]⟩
    have hyb : (y.1 == size / 128) = false := by simpa using hyi
    rw [HW.out.1, HW.out.2];clear h hs hd hsp hlast hy hc
    go_enter Tryz.func85, Tryz.ntmps85
    go_wp2_with fail
    refine bodyPost_ret (results_none rfl _ _ _) rfl ⟨rfl, HV.out.call (Chg.alloc _ _ No), (Chg.alloc _ _ No).mono fun _ _ e => e.elim⟩

end Go.Proofs.YtpmignilhoihnaaGreat

namespace Go.Proofs.YtpmignilhoihnaaGreat
open Go.RowKit Go.Shelf

structure IsL (w : World) (c : LC) (s : LS) : Prop where
 v : IsV w c s.wt s.cl s.wp
 t : MapV w c.b.tb (fun x => (s.tk x).map fun z => Value.agg (NA z))
 q : QAt w c.B c.b.qb s.q
def Kl (c : LC) (w : World) (k : Nat) : Prop := c.B ≤ k ∧ (k = c.b.wb ∨ k = c.b.cb ∨ k = c.b.vb ∨ k = c.b.tb ∨ k = c.b.qb ∨ ∃ A t, w.heap[k]? = some (.cells A t (0, 0)) ∧ (t = 116 ∨ t = 24))
section
variable {w w1 w2 w' : World} {c : LC} {s : LS}
theorem kl_trans (h : Chg w w1 (Kl c w)) (k : Chg w1 w2 (Kl c w1)) : Chg w w2 (Kl c w) :=
 h.trans k (fun _ _ e => e) (fun j hj e => by
  by_cases hn : Kl c w j
  ·exact hn
  rcases e with ⟨hB, e | e | e | e | e | ⟨A, t, e, ht⟩⟩
  ·exact ⟨hB, .inl e⟩
  ·exact ⟨hB, .inr (.inl e)⟩
  ·exact ⟨hB, .inr (.inr (.inl e))⟩
  ·exact ⟨hB, .inr (.inr (.inr (.inl e)))⟩
  ·exact ⟨hB, .inr (.inr (.inr (.inr (.inl e))))⟩
  ·rw [h.block j hj hn] at e
   exact ⟨hB, .inr (.inr (.inr (.inr (.inr ⟨A, t, e, ht⟩))))⟩)
theorem kl_no (h : Chg w w' No) : Chg w w' (Kl c w) := h.mono fun _ _ e => e.elim
theorem IsL.call (h : IsL w c s) (hc : Chg w w' No) : IsL w' c s := ⟨h.v.call hc, h.t.keep hc (fun e => e), h.q.call hc⟩
theorem QAt.isBox {B qb : Nat} {q : List (List Int)} (h : QAt w B qb q) : ∃ v, w.heap[qb]? = some (.cells #[v] 126 (0, 0)) := by
 obtain ⟨_, v, xs, k, _⟩ := h
 exact ⟨v, k⟩
theorem IsL.not (h : IsL w c s) {g : Nat} {A : Array Value} {t : TypeId} {f : Nat × Nat} (hb : w.heap[g]? = some (.cells A t f)) (h1 : t ≠ 33) (h2 : t ≠ 126) (h3 : t ≠ 116) (h4 : t ≠ 24) : ¬ Kl c w g := by
 obtain ⟨es, ck, hm⟩ := h.v.k.cl.isMap;obtain ⟨es2, ck2, hm2⟩ := h.v.v.isMap;obtain ⟨es3, ck3, hm3⟩ := h.t.isMap;obtain ⟨B, hB⟩ := h.v.k.wt.isRow;obtain ⟨v, hv⟩ := h.q.isBox
 rintro ⟨_, rfl | rfl | rfl | rfl | rfl | ⟨C, u, e, hu⟩⟩
 ·rw [hB] at hb; cases hb; exact h1 rfl
 ·rw [hm] at hb; cases hb
 ·rw [hm2] at hb; cases hb
 ·rw [hm3] at hb; cases hb
 ·rw [hv] at hb; cases hb; exact h2 rfl
 ·rw [e] at hb
  cases hb
  rcases hu with rfl | rfl
  ·exact h3 rfl
  ·exact h4 rfl
end

theorem IsL.queued {w w' : World} {c : LC} {s : LS} {q : List (List Int)} (h : IsL w c s) (hq : QAt w' c.B c.b.qb q) (hc : Chg w w' (Kq w c.B c.b.qb)) : IsL w' c { s with q := q } ∧ Chg w w' (Kl c w) := by
 obtain ⟨es, ck, hm⟩ := h.v.k.cl.isMap;obtain ⟨es2, ck2, hm2⟩ := h.v.v.isMap;obtain ⟨es3, ck3, hm3⟩ := h.t.isMap;obtain ⟨B, hB⟩ := h.v.k.wt.isRow;obtain ⟨u, hu⟩ := h.q.isBox
 have ne : ∀ {g : Nat} {x : Obj}, w.heap[g]? = some x → (∀ A, x ≠ .cells A 126 (0, 0)) → (∀ A, x ≠ .cells A 24 (0, 0)) → ¬ Kq w c.B c.b.qb g := by
  rintro g x hx n1 n2 (rfl | ⟨_, A, e⟩)
  ·rw [hu] at hx; exact n1 _ (Option.some.inj hx).symm
  ·rw [hx] at e; exact n2 A (Option.some.inj e)
 refine ⟨⟨⟨h.v.p.keep hc (ne h.v.p.me (by intro A e; cases e) (by intro A e; cases e)) (fun k hk => ?_), h.v.k.keep hc (ne hB (by intro A e; cases e) (by intro A e; cases e)) (ne hm (by intro A e; cases e) (by intro A e; cases e)), h.v.v.keep hc (ne hm2 (by intro A e; cases e) (by intro A e; cases e)), h.v.vk⟩, h.t.keep hc (ne hm3 (by intro A e; cases e) (by intro A e; cases e)), hq⟩, hc.mono fun j _ e => ?_⟩
 ·rcases hk with rfl | hk
  ·exact h.v.p.b4
  ·exact hk.1
 ·rcases e with rfl | ⟨e1, A, e2⟩
  ·exact ⟨h.v.p.b4, .inr (.inr (.inr (.inr (.inl rfl))))⟩
  ·exact ⟨e1, .inr (.inr (.inr (.inr (.inr ⟨A, 24, e2, .inr rfl⟩))))⟩
theorem IsL.wipes {w w' : World} {c : LC} {s : LS} {wt : Img} {cl wp : Int → Bool} (h : IsL w c s) (hv : IsV w' c wt cl wp) (hc : Chg w w' (fun k => k = c.b.wb ∨ k = c.b.vb)) : IsL w' c ⟨wt, cl, wp, s.tk, s.q⟩ ∧ Chg w w' (Kl c w) := by
 obtain ⟨es2, ck2, hm2⟩ := h.v.v.isMap;obtain ⟨es3, ck3, hm3⟩ := h.t.isMap;obtain ⟨B, hB⟩ := h.v.k.wt.isRow;obtain ⟨u, hu⟩ := h.q.isBox
 have ne : ∀ {g : Nat} {A : Array Value} {t : TypeId} {f : Nat × Nat}, w.heap[g]? = some (.cells A t f) → t ≠ 33 → ¬ (g = c.b.wb ∨ g = c.b.vb) := by
  rintro g A t f hg ht (rfl | rfl)
  ·rw [hB] at hg; cases hg; exact ht rfl
  ·rw [hm2] at hg; cases hg
 refine ⟨⟨hv, h.t.keep hc ?_, h.q.keep hc (ne hu (by decide)) (fun g A hg => ne hg (by decide)) (fun g A hg => ne hg (by decide))⟩, hc.mono fun j _ e => ?_⟩
 ·rintro (e | e)
  ·rw [e, hB] at hm3; cases hm3
  ·exact h.v.p.vt e.symm
 ·rcases e with rfl | rfl
  ·exact ⟨h.v.p.b0, .inl rfl⟩
  ·exact ⟨h.v.p.b2, .inr (.inr (.inl rfl))⟩

def SpOk (N M : Int) (s : TS) : Prop := ∀ x ∈ s.sp, M < x.2 ∧ x.2 < N
theorem blockF_ok (N M cnt : Int) (s : TS) (i n : Int) (h : SpOk N M s) : SpOk N M (blockF N M cnt s i n).2 := by
 unfold blockF
 split
 ·rename_i hc
  intro x hx
  rcases List.mem_append.1 hx with e | e
  ·exact h x e
  ·obtain rfl : x = (i, n) := by simpa using e
   simp [claimB, dataB] at hc
   exact hc.2.2
 ·exact h
theorem goK_ok {N M : Int} {F : KeepF} (hF : ∀ s i n, SpOk N M s → SpOk N M (F s i n).2) (t : List Int) (s : TS) (h : SpOk N M s) : ∀ k, SpOk N M (goK F t s k).2
 | 0 => h
 | k + 1 => hF _ _ _ (goK_ok hF t s h k)
theorem tableF_ok {N M : Int} {F : KeepF} (cnt each : Int) (hF : ∀ s i n, SpOk N M s → SpOk N M (F s i n).2) (s : TS) (i n : Int) (h : SpOk N M s) : SpOk N M (tableF N M cnt each F s i n).2 := by
 unfold tableF
 split
 ·unfold goF
  simp only
  have := goK_ok (F := innerF each i F) (fun s k p hs => hF s _ p hs) (ptrsTo (secI s.wt n) 32) ⟨s.wt, Go.Proofs.YtpmignilhoihnaaGreat.putC s.cl n, s.sp⟩ h 32
  split <;> exact this
 ·exact h
theorem dblT_ok (N M : Int) (z : List Int) (wt : Img) (cl : Int → Bool) : SpOk N M (dblT N M z wt cl).2 :=
 tableF_ok _ _ (fun s i n h => tableF_ok _ _ (blockF_ok N M (cntZ z)) s i n h) _ _ _ (tableF_ok _ _ (blockF_ok N M (cntZ z)) _ _ _ (goK_ok (blockF_ok N M (cntZ z)) _ _ (fun x hx => by cases hx) 12))
theorem dirT_le (N M : Int) (z : List Int) (wt : Img) (cl : Int → Bool) (k : Nat) : (goK (blockF N M (cntZ z)) ((z.drop 4).take 12) ⟨wt, cl, []⟩ k).2.sp.length ≤ k := by
 have := goK_le (D := 1) (blockF_le N M (cntZ z)) ((z.drop 4).take 12) ⟨wt, cl, []⟩ k
 simp at this
 exact this
theorem sinT_le (N M : Int) (z : List Int) (wt : Img) (cl : Int → Bool) : (sinT N M z wt cl).2.sp.length ≤ 44 := by
 have h1 := dirT_le N M z wt cl 12;have h2 := tableF_le (D := 1) N M (cntZ z) 1 (blockF_le N M (cntZ z)) (dirT N M z wt cl).2 12 (z.getD 16 0);unfold sinT singleF;unfold dirT at h2 ⊢
 omega
theorem dblT_le (N M : Int) (z : List Int) (wt : Img) (cl : Int → Bool) : (dblT N M z wt cl).2.sp.length ≤ 1068 := by
 have h1 := sinT_le N M z wt cl;have h2 := tableF_le (D := 32) N M (cntZ z) 32 (tableF_le (D := 1) N M (cntZ z) 1 (blockF_le N M (cntZ z))) (sinT N M z wt cl).2 44 (z.getD 17 0);unfold dblT doubleF singleF
 omega

end Go.Proofs.YtpmignilhoihnaaGreat

namespace Go.Proofs.YtpmignilhoihnaaGreat
open Go.RowKit Go.Shelf

def setD (z d : List Int) : List Int := z.take 4 ++ d ++ z.drop 16
theorem setD_len {z d : List Int} (hz : z.length = 18) (hd : d.length = 12) : (setD z d).length = 18 := by simp [setD, hz, hd]
theorem setD_set {z d : List Int} (hz : z.length = 18) (hd : d.length = 12) (k : Nat) (hk : k < 12) (v : Int) : (setD z d).set (4 + k) v = setD z (d.set k v) := by
 unfold setD;rw [List.append_assoc, List.append_assoc, List.set_append_right _ _ (by simp [hz]), List.set_append_left _ _ (by simp [hz, hd]; omega)]
 simp [hz]
theorem setD_self {z : List Int} (hz : z.length = 18) : setD z ((z.drop 4).take 12) = z := by
 unfold setD
 apply List.ext_getElem
 ·simp [hz]
 ·intro i h1 h2
  simp only [List.getElem_append, List.length_append, List.length_take, List.length_drop, hz]
  split
  ·split
   ·simp
   ·rename_i h3 h4
    simp at h4
    simp
    congr 1
    omega
  ·rename_i h3
   simp at h3
   simp
   congr 1
   omega
theorem setD_lo {z d : List Int} (hz : z.length = 18) (j : Nat) (hj : j < 4) : (setD z d).getD j 0 = z.getD j 0 := by
 unfold setD
 simp only [List.getD_eq_getElem?_getD]
 rw [List.append_assoc, List.getElem?_append_left (by simp [hz]; omega), List.getElem?_take, if_pos hj]
theorem setD_hi {z d : List Int} (hz : z.length = 18) (hd : d.length = 12) (j : Nat) (hj : 16 ≤ j) : (setD z d).getD j 0 = z.getD j 0 := by
 unfold setD
 simp only [List.getD_eq_getElem?_getD]
 rw [List.getElem?_append_right (by simp [hz, hd]; omega)]
 simp [hz, hd]
 congr 2
 omega
theorem szArr : (Tryz.prog.info? 49).map (·.size) = some 12 := by kernel_rfl
theorem undArr : Tryz.prog.underlying 49 = some (.array 12 3) := by kernel_rfl
theorem index_arr (x : List Int) (n : Nat) (hx : x.length = 12) (hn : n < 12) (w : World) : (Instr.index 49 (.agg (NA x)) (.int .i64 (n : Int))).run Tryz.prog w = .ok (.int .i64 (x.getD n 0)) w := by
 have hsz : (sizeOf 3).run Tryz.prog w = .ok 1 w := by kernel_rfl
 have hlt : (0 : Int) ≤ (n : Int) ∧ (n : Int) < ((12 : Nat) : Int) := by omega
 have hp := part_int x n (by omega) w
 simp only [Instr.index, asIntOf, Sem.run_bind, Sem.run_pure, Result.andThen_ok, run_underlying undArr, hlt, and_self, if_true, Sem.run_ite, hsz, Int.toNat_natCast, Nat.mul_one, hp]

theorem inoT_is {z d : List Int} (hz : z.length = 18) (hd : d.length = 12) (a b : Int) : ((setD (z.set 1 0) d).set 16 a).set 17 b = [z.getD 0 0, 0, z.getD 2 0, z.getD 3 0] ++ d ++ [a, b] := by
 obtain ⟨a0, a1, a2, a3, a4, a5, a6, a7, a8, a9, a10, a11, a12, a13, a14, a15, a16, a17, rfl⟩ := list18 hz;have e : setD ([a0, a1, a2, a3, a4, a5, a6, a7, a8, a9, a10, a11, a12, a13, a14, a15, a16, a17].set 1 0) d = [a0, 0, a2, a3] ++ d ++ [a16, a17] := rfl;rw [e, List.set_append_right _ _ (by simp [hd]), List.set_append_right _ _ (by simp [hd])]
 simp [hd]

end Go.Proofs.YtpmignilhoihnaaGreat
