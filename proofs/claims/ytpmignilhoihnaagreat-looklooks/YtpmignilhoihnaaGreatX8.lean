/-
 What was found: looking.report.
-/
import Derived.Test.YtpmignilhoihnaaGreatX7
namespace Go.Proofs.YtpmignilhoihnaaGreat
open Go.RowKit Go.Shelf

def inodesL (c : LC) (s : LS) : List Int := keysL (c.M + 1) fun x => (s.tk x).isSome
def blocksL (c : LC) (s : LS) : List Int := keysL c.N s.cl
structure Rep (w0 w : World) (v1 v2 v3 : Value) (l1 l2 l3 : List Int) : Prop where
 o1 : IOwn w w0.heap.size v1 l1
 o2 : IOwn w w0.heap.size v2 l2
 o3 : IOwn w w0.heap.size v3 l3
 a12 : Apart v1 v2
 a13 : Apart v1 v3
 a23 : Apart v2 v3
theorem apart_of {w w' : World} {B B' : Nat} {u v : Value} {l m : List Int} (hu : IOwn w B u l) (hv : IOwn w' B' v m) (h : w.heap.size ≤ B') : Apart u v := fun j h1 h2 => by
 have := hu.below h1;have := (hv.blk h2).1
 omega
def nil4 : Array Value := #[.slice none 0 0, .slice none 0 0, .slice none 0 0, .slice none 0 0]
theorem zero_rep (w : World) : (zeroValue 26).run Tryz.prog w = .ok (.agg nil4) w := by kernel_rfl
theorem szRep : (Tryz.prog.info? 26).map (·.size) = some 4 := by kernel_rfl
theorem IOwn.one {w : World} {B : Nat} {v : Value} {l : List Int} (h : IOwn w B v l) : v.oneCell' = true := by
 rcases h.2 with ⟨rfl, _⟩ | ⟨g, cap, cur, rfl, _⟩ <;> rfl

set_option maxRecDepth 100000 in
set_option maxHeartbeats 4000000 in
theorem report_any {c : LC} {s : LS} (w : World) (h : IsL w c s) (hk : TkOk c s.tk) :
  Calls Tryz.prog 27 #[LP c] w fun e w' => ∃ v1 v2 v3, e = .returned (.agg #[.slice (some ⟨c.b.wb, 0, none⟩) c.N c.wc, v1, v2, v3]) ∧ Rep w w' v1 v2 v3 (writeL c s) (inodesL c s) (blocksL c s) ∧ Chg w w' No := by
 have hz := zero_rep;have HK := hid hk;have hA := Chg.alloc w (.cells nil4 26) No;have HA := hid hA;have HN := hid (heap_alloc_new w (.cells nil4 26));have HL := hid (h.call hA);have HBw : Hid (c.B ≤ w.heap.size) := hid (by have := h.v.p.b0; have := h.v.k.wt.lt; omega);clear h hk hA;unfold LP
 go_enter Tryz.func27, Tryz.ntmps27
 go_upto_region 1 with fail
 obtain ⟨w0, hw0⟩ : ∃ y, y = w.alloc (.cells nil4 26) := ⟨_, rfl⟩;rw [← hw0] at HA HN HL ⊢;have HZ : Hid (w.heap.size < w0.heap.size) := hid (slt HN.out);clear hw0;have n1 : ¬ c.b.p = w.heap.size := obj_ne HL.out.v.p.me HN.out (by intro e; cases e)
 have hIB : ∀ k, k = w.heap.size → c.B ≤ k := fun k e => by have := HBw.out; omega
 have hP3 := fun (W : World) (hW : Chg w0 W (· = w.heap.size)) => (HL.out.v.p.keep hW n1 hIB).c3
 have hP4 := fun (W : World) (hW : Chg w0 W (· = w.heap.size)) => (HL.out.v.p.keep hW n1 hIB).c4
 have hP6 := fun (W : World) (hW : Chg w0 W (· = w.heap.size)) => (HL.out.v.p.keep hW n1 hIB).c6
 refine wp_region_noPanic ?_;refine wp_region_held_drew (S := fun w' => Chg w0 w' (· = w.heap.size)) (by kernel_rfl) (Chg.refl _ _).drew (fun hH => ?_);obtain ⟨u, hu⟩ : ∃ y, y = w0.drew := ⟨_, rfl⟩;have HU : Hid (Chg w0 u No) := hid (by rw [hu]; exact (Chg.refl _ _).drew);rw [← hu] at hH ⊢;clear hu;refine tV 0 3 (.pointer (some ⟨c.b.p, 0, none⟩)) rfl (by kernel_rfl) rfl (by rfl) hH (fun W' hw' => rfl) ?_;simp only [sS];refine tV 1 4 (.pointer (some ⟨c.b.p, 0, none⟩)) rfl (by kernel_rfl) rfl (by rfl) hH (fun W' hw' => by clear hP3 hP4 hP6; go_simp) ?_;simp only [sS];refine tV 2 5 (.pointer (some ⟨c.b.p, 3, none⟩)) rfl (by kernel_rfl) rfl (by rfl) hH (fun W' hw' => by clear hP3 hP4 hP6; go_simp) ?_;simp only [sS];refine tV 3 6 (.slice (some ⟨c.b.wb, 0, none⟩) c.N c.wc) rfl (by kernel_rfl) rfl (by rfl) hH (fun W' hw' => by have hc := hP3 W' hw'; clear hP3 hP4 hP6; go_simp) ?_;simp only [sS];refine tV 4 7 (.pointer (some ⟨c.b.p, 0, none⟩)) rfl (by kernel_rfl) rfl (by rfl) hH (fun W' hw' => rfl) ?_;simp only [sS];refine tV 6 9 (.pointer (some ⟨c.b.p, 0, none⟩)) rfl (by kernel_rfl) rfl (by rfl) hH (fun W' hw' => rfl) ?_;simp only [sS];refine tV 7 10 (.pointer (some ⟨c.b.p, 0, none⟩)) rfl (by kernel_rfl) rfl (by rfl) hH (fun W' hw' => by clear hP3 hP4 hP6; go_simp) ?_;simp only [sS];refine tV 8 11 (.pointer (some ⟨c.b.p, 6, none⟩)) rfl (by kernel_rfl) rfl (by rfl) hH (fun W' hw' => by clear hP3 hP4 hP6; go_simp) ?_;simp only [sS];refine tV 9 12 (.map (some c.b.tb)) rfl (by kernel_rfl) rfl (by rfl) hH (fun W' hw' => by have hc := hP6 W' hw'; clear hP3 hP4 hP6; go_simp) ?_;simp only [sS];refine tV 12 15 (.pointer (some ⟨c.b.p, 0, none⟩)) rfl (by kernel_rfl) rfl (by rfl) hH (fun W' hw' => rfl) ?_;simp only [sS];refine tV 13 16 (.pointer (some ⟨c.b.p, 0, none⟩)) rfl (by kernel_rfl) rfl (by rfl) hH (fun W' hw' => by clear hP3 hP4 hP6; go_simp) ?_;simp only [sS];refine tV 14 17 (.pointer (some ⟨c.b.p, 4, none⟩)) rfl (by kernel_rfl) rfl (by rfl) hH (fun W' hw' => by clear hP3 hP4 hP6; go_simp) ?_;simp only [sS];refine tV 15 18 (.map (some c.b.cb)) rfl (by kernel_rfl) rfl (by rfl) hH (fun W' hw' => by have hc := hP4 W' hw'; clear hP3 hP4 hP6; go_simp) ?_;simp only [sS];clear hP3 hP4 hP6;have HLu := hid (HL.out.call HU.out);refine step1 5 (by kernel_rfl) ?_;refine stCall 5 8 48 #[LP c] _ rfl rfl (by rfl) (by unfold LP; go_simp) (write_any u HLu.out) ?_
 rintro e u1 ⟨v1, rfl, hI1, hc1⟩
 have HI1 := hid hI1;have HC1 := hid hc1;have HL1 := hid (HLu.out.call hc1);clear hI1;replace hH : Chg w0 u1 (· = w.heap.size) := hH.trans hc1 (fun _ _ e => e) (fun _ _ e => e.elim);refine ⟨_, rfl, hH, ?_⟩;simp only [sS];refine step1 10 (by kernel_rfl) ?_;refine stCall 10 13 50 #[.map (some c.b.tb)] _ rfl rfl (by rfl) (by go_simp) (keysT_any (some c.b.tb) u1) ?_
 rintro e u2 ⟨rfl, hu2⟩
 have hc2 : Chg u1 u2 No := by rw [hu2]; exact Chg.alloc _ _ _
 have HS2 := sortedT_any (n := c.M + 1) HL1.out.t (fun x hx => by
  cases ht : s.tk x with
  | none => rw [ht] at hx; cases hx
  | some z =>
   obtain ⟨t1, t2, _⟩ := HK.out x z ht
   omega) (by have := HL1.out.v.p.m2; have := HL1.out.v.p.n2; omega)
 rw [← hu2] at HS2;have HC2 := hid hc2;replace hH : Chg w0 u2 (· = w.heap.size) := hH.trans hc2 (fun _ _ e => e) (fun _ _ e => e.elim);clear hu2 hc1;refine ⟨_, rfl, hH, ?_⟩;simp only [sS];refine step1 11 (by kernel_rfl) ?_;refine stCall 11 14 49 #[.func (.func 92) #[] #[PV u1.heap.size]] _ rfl rfl (by rfl) (by go_simp) HS2 ?_
 rintro e u3 ⟨v2, rfl, hI3, hc3⟩
 simp only [Option.isSome_map] at hI3
 have HI3 := hid hI3;have HC3 := hid hc3;have HL3 := hid ((HL1.out.call HC2.out).call hc3);replace hH : Chg w0 u3 (· = w.heap.size) := hH.trans hc3 (fun _ _ e => e) (fun _ _ e => e.elim);clear hI3 HS2 hc2 hc3;refine ⟨_, rfl, hH, ?_⟩;simp only [sS];refine step1 16 (by kernel_rfl) ?_;refine stCall 16 19 51 #[.map (some c.b.cb)] _ rfl rfl (by rfl) (by go_simp) (keysC_any (some c.b.cb) u3) ?_
 rintro e u4 ⟨rfl, hu4⟩
 have hc4 : Chg u3 u4 No := by rw [hu4]; exact Chg.alloc _ _ _
 have HS4 := sortedC_any (n := c.N) HL3.out.v.k.cl (fun x hx => by have := HL3.out.v.k.ck x hx; omega) (by have := HL3.out.v.p.n2; omega);rw [← hu4] at HS4;have HC4 := hid hc4;replace hH : Chg w0 u4 (· = w.heap.size) := hH.trans hc4 (fun _ _ e => e) (fun _ _ e => e.elim);clear hu4;refine ⟨_, rfl, hH, ?_⟩;simp only [sS];refine step1 17 (by kernel_rfl) ?_;refine stCall 17 20 49 #[.func (.func 93) #[] #[PV u3.heap.size]] _ rfl rfl (by rfl) (by go_simp) HS4 ?_
 rintro e u5 ⟨v3, rfl, hI5, hc5⟩
 have HI5 := hid hI5;have HC5 := hid hc5;replace hH : Chg w0 u5 (· = w.heap.size) := hH.trans hc5 (fun _ _ e => e) (fun _ _ e => e.elim);clear hI5 HS4 hc4 hc5;refine ⟨_, rfl, hH, ?_⟩;simp only [sS];obtain ⟨a1, s1, e1, _⟩ := HI1.out.lat;obtain ⟨a2, s2, e2, _⟩ := HI3.out.lat;obtain ⟨a3, s3, e3, _⟩ := HI5.out.lat;refine tV 18 21 (.agg #[.slice (some ⟨c.b.wb, 0, none⟩) c.N c.wc, v1, v2, v3]) rfl (by kernel_rfl) rfl (by rfl) hH (fun W' hw' => by rw [e1, e2, e3]; unfold nil4 at hz; go_simp) ?_;simp only [sS];have HN5 : Hid (u5.heap[w.heap.size]? = some (.cells nil4 26 (0, 0))) := hid (HC5.out.keep (HC4.out.keep (HC3.out.keep (HC2.out.keep (HC1.out.keep (HU.out.keep HN.out (fun e => e)) (fun e => e)) (fun e => e)) (fun e => e)) (fun e => e)) (fun e => e));refine step1 19 (by kernel_rfl) ?_;refine stStoreR 19 26 (.tmp 2) (.tmp 21) w.heap.size #[.slice (some ⟨c.b.wb, 0, none⟩) c.N c.wc, v1, v2, v3] 26 nil4 rfl rfl (by rfl) rfl rfl rfl HN5.out szRep rfl (by rw [e1, e2, e3]; simp [Value.oneCell']) ?_
 intro w6 hw6
 have hc6 := kt_new hw6;refine ⟨hH.trans hc6 (fun _ _ e => e) (fun _ _ e => e), ?_⟩;refine wpAnyH_done (by kernel_rfl) ?_ _;refine NoPanic.normal ?_;clear hH
 go_wp2_with fail
 refine bodyPost_ret (v := .agg #[.slice (some ⟨c.b.wb, 0, none⟩) c.N c.wc, v1, v2, v3]) (results_R1 Tryz.results27 _ _ w.heap.size _ 26 _ Tryz.underlying26 rfl szRep rfl hw6.here) rfl ⟨v1, v2, v3, rfl, ?_, ?_⟩
 ·have z1 := HC1.out.size
  have z2 := HC2.out.size;have z3 := HC3.out.size;have z4 := HC4.out.size;have z5 := HC5.out.size;have z0 := HU.out.size;have zz := HZ.out;have k1 : IOwn u5 u.heap.size v1 _ := (((HI1.out.keep HC2.out (fun _ _ e => e)).keep HC3.out (fun _ _ e => e)).keep HC4.out (fun _ _ e => e)).keep HC5.out (fun _ _ e => e);have k2 : IOwn u5 u1.heap.size v2 _ := (HI3.out.keep HC4.out (fun _ _ e => e)).keep HC5.out (fun _ _ e => e);refine ⟨(k1.keep hc6 (fun j e1 e2 => ?_)).base (by omega), (k2.keep hc6 (fun j e1 e2 => ?_)).base (by omega), (HI5.out.keep hc6 (fun j e1 e2 => ?_)).base (by omega), apart_of HI1.out HI3.out (Nat.le_refl _), apart_of HI1.out HI5.out (by omega), apart_of HI3.out HI5.out (Nat.le_refl _)⟩
  ·have := (k1.blk e1).1; omega
  ·have := (k2.blk e1).1; omega
  ·have := (HI5.out.blk e1).1; omega
 ·have t : Chg w u5 No := ((((HA.out.trans HU.out (c := No) (fun _ _ e => e) (fun _ _ e => e)).trans HC1.out (c := No) (fun _ _ e => e) (fun _ _ e => e)).trans HC2.out (c := No) (fun _ _ e => e) (fun _ _ e => e)).trans HC3.out (c := No) (fun _ _ e => e) (fun _ _ e => e) |>.trans HC4.out (c := No) (fun _ _ e => e) (fun _ _ e => e)).trans HC5.out (c := No) (fun _ _ e => e) (fun _ _ e => e)
  exact t.trans hc6 (fun _ _ e => e) (fun j hj e => by omega)

end Go.Proofs.YtpmignilhoihnaaGreat
