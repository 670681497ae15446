/-
 look.Look of an image whose first sector speaks of it.
-/
import Derived.Test.YtpmignilhoihnabGreatX7
import Derived.Test.YtpmignilhoihnabGreatX4
namespace Go.Proofs.YtpmignilhoihnabGreat
open Go.RowKit Go.Shelf

def inodesL (c : LC) (s : LS) : List Int := keysL (c.M + 1) fun x => (s.tk x).isSome
def blocksL (c : LC) (s : LS) : List Int := keysL c.N s.cl
structure Rep (w0 w : World) (v1 v2 v3 : Value) (l1 l2 l3 : List Int) : Prop where
 o1 : IOwn w w0.heap.size v1 l1
 o2 : IOwn w w0.heap.size v2 l2
 o3 : IOwn w w0.heap.size v3 l3
 a12 : Apart v1 v2
 a13 : Apart v1 v3
 a23 : Apart v2 v3
theorem apart_of {w w' : World} {B B' : Nat} {u v : Value} {l m : List Int} (hu : IOwn w B u l) (hv : IOwn w' B' v m) (h : w.heap.size ≤ B') : Apart u v := fun j h1 h2 => by
 have := hu.below h1;have := (hv.blk h2).1
 omega
def nil4 : Array Value := #[.slice none 0 0, .slice none 0 0, .slice none 0 0, .slice none 0 0]
theorem zero_rep (w : World) : (zeroValue 26).run Tryz.prog w = .ok (.agg nil4) w := by kernel_rfl
theorem szRep : (Tryz.prog.info? 26).map (·.size) = some 4 := by kernel_rfl
theorem IOwn.one {w : World} {B : Nat} {v : Value} {l : List Int} (h : IOwn w B v l) : v.oneCell' = true := by
 rcases h.2 with ⟨rfl, _⟩ | ⟨g, cap, cur, rfl, _⟩ <;> rfl

set_option maxRecDepth 100000 in
set_option maxHeartbeats 4000000 in
theorem report_any {c : LC} {s : LS} (w : World) (h : IsL w c s) (hk : TkOk c s.tk) :
  Calls Tryz.prog 21 #[LP c] w fun e w' => ∃ v1 v2 v3, e = .returned (.agg #[.slice (some ⟨c.b.wb, 0, none⟩) c.N c.wc, v1, v2, v3]) ∧ Rep w w' v1 v2 v3 (writeL c s) (inodesL c s) (blocksL c s) ∧ Chg w w' No := by
 have hz := zero_rep;have HK := hid hk;have hA := Chg.alloc w (.cells nil4 26) No;have HA := hid hA;have HN := hid (heap_alloc_new w (.cells nil4 26));have HL := hid (h.call hA);have HBw : Hid (c.B ≤ w.heap.size) := hid (by have := h.v.p.b0; have := h.v.k.wt.lt; omega);clear h hk hA;unfold LP
 go_enter Tryz.func21, Tryz.ntmps21
 go_upto_region 1 with fail
 obtain ⟨w0, hw0⟩ : ∃ y, y = w.alloc (.cells nil4 26) := ⟨_, rfl⟩;rw [← hw0] at HA HN HL ⊢;have HZ : Hid (w.heap.size < w0.heap.size) := hid (slt HN.out);clear hw0;have n1 : ¬ c.b.p = w.heap.size := obj_ne HL.out.v.p.me HN.out (by intro e; cases e)
 have hIB : ∀ k, k = w.heap.size → c.B ≤ k := fun k e => by have := HBw.out; omega
 have hP3 := fun (W : World) (hW : Chg w0 W (· = w.heap.size)) => (HL.out.v.p.keep hW n1 hIB).c3
 have hP4 := fun (W : World) (hW : Chg w0 W (· = w.heap.size)) => (HL.out.v.p.keep hW n1 hIB).c4
 have hP6 := fun (W : World) (hW : Chg w0 W (· = w.heap.size)) => (HL.out.v.p.keep hW n1 hIB).c6
 refine wp_region_noPanic ?_;refine wp_region_held_drew (S := fun w' => Chg w0 w' (· = w.heap.size)) (by kernel_rfl) (Chg.refl _ _).drew (fun hH => ?_);obtain ⟨u, hu⟩ : ∃ y, y = w0.drew := ⟨_, rfl⟩;have HU : Hid (Chg w0 u No) := hid (by rw [hu]; exact (Chg.refl _ _).drew);rw [← hu] at hH ⊢;clear hu;refine tV 0 3 (.pointer (some ⟨c.b.p, 0, none⟩)) rfl (by kernel_rfl) rfl (by rfl) hH (fun W' hw' => rfl) ?_;simp only [sS];refine tV 1 4 (.pointer (some ⟨c.b.p, 0, none⟩)) rfl (by kernel_rfl) rfl (by rfl) hH (fun W' hw' => by clear hP3 hP4 hP6; go_simp) ?_;simp only [sS];refine tV 2 5 (.pointer (some ⟨c.b.p, 3, none⟩)) rfl (by kernel_rfl) rfl (by rfl) hH (fun W' hw' => by clear hP3 hP4 hP6; go_simp) ?_;simp only [sS];refine tV 3 6 (.slice (some ⟨c.b.wb, 0, none⟩) c.N c.wc) rfl (by kernel_rfl) rfl (by rfl) hH (fun W' hw' => by have hc := hP3 W' hw'; clear hP3 hP4 hP6; go_simp) ?_;simp only [sS];refine tV 4 7 (.pointer (some ⟨c.b.p, 0, none⟩)) rfl (by kernel_rfl) rfl (by rfl) hH (fun W' hw' => rfl) ?_;simp only [sS];refine tV 6 9 (.pointer (some ⟨c.b.p, 0, none⟩)) rfl (by kernel_rfl) rfl (by rfl) hH (fun W' hw' => rfl) ?_;simp only [sS];refine tV 7 10 (.pointer (some ⟨c.b.p, 0, none⟩)) rfl (by kernel_rfl) rfl (by rfl) hH (fun W' hw' => by clear hP3 hP4 hP6; go_simp) ?_;simp only [sS];refine tV 8 11 (.pointer (some ⟨c.b.p, 6, none⟩)) rfl (by kernel_rfl) rfl (by rfl) hH (fun W' hw' => by clear hP3 hP4 hP6; go_simp) ?_;simp only [sS];refine tV 9 12 (.map (some c.b.tb)) rfl (by kernel_rfl) rfl (by rfl) hH (fun W' hw' => by have hc := hP6 W' hw'; clear hP3 hP4 hP6; go_simp) ?_;simp only [sS];refine tV 12 15 (.pointer (some ⟨c.b.p, 0, none⟩)) rfl (by kernel_rfl) rfl (by rfl) hH (fun W' hw' => rfl) ?_;simp only [sS];refine tV 13 16 (.pointer (some ⟨c.b.p, 0, none⟩)) rfl (by kernel_rfl) rfl (by rfl) hH (fun W' hw' => by clear hP3 hP4 hP6; go_simp) ?_;simp only [sS];refine tV 14 17 (.pointer (some ⟨c.b.p, 4, none⟩)) rfl (by kernel_rfl) rfl (by rfl) hH (fun W' hw' => by clear hP3 hP4 hP6; go_simp) ?_;simp only [sS];refine tV 15 18 (.map (some c.b.cb)) rfl (by kernel_rfl) rfl (by rfl) hH (fun W' hw' => by have hc := hP4 W' hw'; clear hP3 hP4 hP6; go_simp) ?_;simp only [sS];clear hP3 hP4 hP6;have HLu := hid (HL.out.call HU.out);refine step1 5 (by kernel_rfl) ?_;refine stCall 5 8 39 #[LP c] _ rfl rfl (by rfl) (by unfold LP; go_simp) (write_any u HLu.out) ?_
 rintro e u1 ⟨v1, rfl, hI1, hc1⟩
 have HI1 := hid hI1;have HC1 := hid hc1;have HL1 := hid (HLu.out.call hc1);clear hI1;replace hH : Chg w0 u1 (· = w.heap.size) := hH.trans hc1 (fun _ _ e => e) (fun _ _ e => e.elim);refine ⟨_, rfl, hH, ?_⟩;simp only [sS];refine step1 10 (by kernel_rfl) ?_;refine stCall 10 13 41 #[.map (some c.b.tb)] _ rfl rfl (by rfl) (by go_simp) (keysT_any (some c.b.tb) u1) ?_
 rintro e u2 ⟨rfl, hu2⟩
 have hc2 : Chg u1 u2 No := by rw [hu2]; exact Chg.alloc _ _ _
 have HS2 := sortedT_any (n := c.M + 1) HL1.out.t (fun x hx => by
  cases ht : s.tk x with
  | none => rw [ht] at hx; cases hx
  | some z =>
   obtain ⟨t1, t2, _⟩ := HK.out x z ht
   omega) (by have := HL1.out.v.p.m2; have := HL1.out.v.p.n2; omega)
 rw [← hu2] at HS2;have HC2 := hid hc2;replace hH : Chg w0 u2 (· = w.heap.size) := hH.trans hc2 (fun _ _ e => e) (fun _ _ e => e.elim);clear hu2 hc1;refine ⟨_, rfl, hH, ?_⟩;simp only [sS];refine step1 11 (by kernel_rfl) ?_;refine stCall 11 14 40 #[.func (.func 73) #[] #[PV u1.heap.size]] _ rfl rfl (by rfl) (by go_simp) HS2 ?_
 rintro e u3 ⟨v2, rfl, hI3, hc3⟩
 simp only [Option.isSome_map] at hI3
 have HI3 := hid hI3;have HC3 := hid hc3;have HL3 := hid ((HL1.out.call HC2.out).call hc3);replace hH : Chg w0 u3 (· = w.heap.size) := hH.trans hc3 (fun _ _ e => e) (fun _ _ e => e.elim);clear hI3 HS2 hc2 hc3;refine ⟨_, rfl, hH, ?_⟩;simp only [sS];refine step1 16 (by kernel_rfl) ?_;refine stCall 16 19 42 #[.map (some c.b.cb)] _ rfl rfl (by rfl) (by go_simp) (keysC_any (some c.b.cb) u3) ?_
 rintro e u4 ⟨rfl, hu4⟩
 have hc4 : Chg u3 u4 No := by rw [hu4]; exact Chg.alloc _ _ _
 have HS4 := sortedC_any (n := c.N) HL3.out.v.k.cl (fun x hx => by have := HL3.out.v.k.ck x hx; omega) (by have := HL3.out.v.p.n2; omega);rw [← hu4] at HS4;have HC4 := hid hc4;replace hH : Chg w0 u4 (· = w.heap.size) := hH.trans hc4 (fun _ _ e => e) (fun _ _ e => e.elim);clear hu4;refine ⟨_, rfl, hH, ?_⟩;simp only [sS];refine step1 17 (by kernel_rfl) ?_;refine stCall 17 20 40 #[.func (.func 74) #[] #[PV u3.heap.size]] _ rfl rfl (by rfl) (by go_simp) HS4 ?_
 rintro e u5 ⟨v3, rfl, hI5, hc5⟩
 have HI5 := hid hI5;have HC5 := hid hc5;replace hH : Chg w0 u5 (· = w.heap.size) := hH.trans hc5 (fun _ _ e => e) (fun _ _ e => e.elim);clear hI5 HS4 hc4 hc5;refine ⟨_, rfl, hH, ?_⟩;simp only [sS];obtain ⟨a1, s1, e1, _⟩ := HI1.out.lat;obtain ⟨a2, s2, e2, _⟩ := HI3.out.lat;obtain ⟨a3, s3, e3, _⟩ := HI5.out.lat;refine tV 18 21 (.agg #[.slice (some ⟨c.b.wb, 0, none⟩) c.N c.wc, v1, v2, v3]) rfl (by kernel_rfl) rfl (by rfl) hH (fun W' hw' => by rw [e1, e2, e3]; unfold nil4 at hz; go_simp) ?_;simp only [sS];have HN5 : Hid (u5.heap[w.heap.size]? = some (.cells nil4 26 (0, 0))) := hid (HC5.out.keep (HC4.out.keep (HC3.out.keep (HC2.out.keep (HC1.out.keep (HU.out.keep HN.out (fun e => e)) (fun e => e)) (fun e => e)) (fun e => e)) (fun e => e)) (fun e => e));refine step1 19 (by kernel_rfl) ?_;refine stStoreR 19 26 (.tmp 2) (.tmp 21) w.heap.size #[.slice (some ⟨c.b.wb, 0, none⟩) c.N c.wc, v1, v2, v3] 26 nil4 rfl rfl (by rfl) rfl rfl rfl HN5.out szRep rfl (by rw [e1, e2, e3]; simp [Value.oneCell']) ?_
 intro w6 hw6
 have hc6 := kt_new hw6;refine ⟨hH.trans hc6 (fun _ _ e => e) (fun _ _ e => e), ?_⟩;refine wpAnyH_done (by kernel_rfl) ?_ _;refine NoPanic.normal ?_;clear hH
 go_wp2_with fail
 refine bodyPost_ret (v := .agg #[.slice (some ⟨c.b.wb, 0, none⟩) c.N c.wc, v1, v2, v3]) (results_R1 Tryz.results21 _ _ w.heap.size _ 26 _ Tryz.underlying26 rfl szRep rfl hw6.here) rfl ⟨v1, v2, v3, rfl, ?_, ?_⟩
 ·have z1 := HC1.out.size
  have z2 := HC2.out.size;have z3 := HC3.out.size;have z4 := HC4.out.size;have z5 := HC5.out.size;have z0 := HU.out.size;have zz := HZ.out;have k1 : IOwn u5 u.heap.size v1 _ := (((HI1.out.keep HC2.out (fun _ _ e => e)).keep HC3.out (fun _ _ e => e)).keep HC4.out (fun _ _ e => e)).keep HC5.out (fun _ _ e => e);have k2 : IOwn u5 u1.heap.size v2 _ := (HI3.out.keep HC4.out (fun _ _ e => e)).keep HC5.out (fun _ _ e => e);refine ⟨(k1.keep hc6 (fun j e1 e2 => ?_)).base (by omega), (k2.keep hc6 (fun j e1 e2 => ?_)).base (by omega), (HI5.out.keep hc6 (fun j e1 e2 => ?_)).base (by omega), apart_of HI1.out HI3.out (Nat.le_refl _), apart_of HI1.out HI5.out (by omega), apart_of HI3.out HI5.out (Nat.le_refl _)⟩
  ·have := (k1.blk e1).1; omega
  ·have := (k2.blk e1).1; omega
  ·have := (HI5.out.blk e1).1; omega
 ·have t : Chg w u5 No := ((((HA.out.trans HU.out (c := No) (fun _ _ e => e) (fun _ _ e => e)).trans HC1.out (c := No) (fun _ _ e => e) (fun _ _ e => e)).trans HC2.out (c := No) (fun _ _ e => e) (fun _ _ e => e)).trans HC3.out (c := No) (fun _ _ e => e) (fun _ _ e => e) |>.trans HC4.out (c := No) (fun _ _ e => e) (fun _ _ e => e)).trans HC5.out (c := No) (fun _ _ e => e) (fun _ _ e => e)
  exact t.trans hc6 (fun _ _ e => e) (fun j hj e => by omega)

end Go.Proofs.YtpmignilhoihnabGreat

namespace Go.Proofs.YtpmignilhoihnabGreat
open Go.RowKit Go.Shelf

def loadE (M : Nat) (s : LS) : Nat := s.q.length + freeN M s.tk
theorem enterL_E {c : LC} {s : LS} {i : Int} (hi : May c s i) : loadE c.M (enterL c.N c.M c.im i s) ≤ loadE c.M s := by
 unfold May at hi;unfold enterL
 cases ht : s.tk i with
 | some z =>
  simp only
  unfold loadE
  simp only
  rw [freeN_same ht]
  exact Nat.le_refl _
 | none =>
  rw [ht] at hi
  simp only at hi ⊢
  obtain ⟨b1, b2, _, _⟩ := sound_bd hi;have hfr := freeN_put (z := moreZ (inoT c.N c.M (soundZ c.M c.im i).1 s.wt s.cl)) b1 b2 ht;unfold loadE
  simp only [takeL_tk]
  rcases takeL_q c.N c.M (soundZ c.M c.im i).1 s with e | e <;> rw [e]
  ·omega
  ·rw [List.length_append]
   simp only [List.length_singleton]
   omega
theorem slotL_E {c : LC} (n : Int) (r : List ByteArray × LS) : loadE c.M (slotL c.N c.M c.im n r).2 ≤ loadE c.M r.2 := by
 unfold slotL
 simp only
 split
 ·exact Nat.le_refl _
 ·split
  ·rename_i hh
   exact enterL_E (may_of hh.2)
  ·exact Nat.le_refl _
theorem dirK_E {c : LC} : ∀ (l : List Int) (r : List ByteArray × LS), loadE c.M (dirK c.N c.M c.im l r).2 ≤ loadE c.M r.2
 | [], _ => Nat.le_refl _
 | n :: l, r => Nat.le_trans (dirK_E l _) (slotL_E n r)
theorem dirL_E {c : LC} (l : List Int) (s : LS) : loadE c.M (dirL c.N c.M c.im l s) ≤ loadE c.M s := dirK_E l ([], s)
theorem dirL_ok {c : LC} {l : List Int} {s : LS} (h : LOk c s) : LOk c (dirL c.N c.M c.im l s) := dirK_ok l ([], s) h
theorem allL_nil {N M : Int} {im : Img} {s : LS} (h : s.q = []) : ∀ f, allL N M im f s = s
 | 0 => rfl
 | f + 1 => by simp [allL, h]
theorem allL_cons {N M : Int} {im : Img} {s : LS} {l : List Int} {q : List (List Int)} (h : s.q = l :: q) (f : Nat) : allL N M im (f + 1) s = allL N M im f (dirL N M im l { s with q := q }) := by simp [allL, h]
theorem load_pop {M : Nat} {s : LS} {l : List Int} {q : List (List Int)} (h : s.q = l :: q) : loadE M { s with q := q } + 1 = loadE M s := by
 unfold loadE
 simp only [h, List.length_cons]
 omega
theorem LOk.pop {c : LC} {s : LS} {l : List Int} {q : List (List Int)} (h : LOk c s) (e : s.q = l :: q) : LOk c { s with q := q } :=
 ⟨h.tk, fun m hm => h.qd m (by rw [e]; exact List.mem_cons_of_mem _ hm), fun m hm => h.ql m (by rw [e]; exact List.mem_cons_of_mem _ hm), by have h1 := h.fr; rw [e] at h1; simp only [List.length_cons] at h1; show q.length + freeN c.M s.tk ≤ c.M; omega⟩
theorem allL_ok {c : LC} : ∀ (f : Nat) (s : LS), LOk c s → LOk c (allL c.N c.M c.im f s)
 | 0, _, h => h
 | f + 1, s, h => by
  cases hq : s.q with
  | nil => rw [allL_nil hq]; exact h
  | cons l q => rw [allL_cons hq]; exact allL_ok f _ (dirL_ok (h.pop hq))
def startL (im : Img) : LS := ⟨im, fun _ => false, fun _ => false, fun _ => none, []⟩
theorem startL_ok (c : LC) (im : Img) : LOk c (startL im) where
 tk := fun i z h => by cases h
 qd := fun l hl => by cases hl
 ql := fun l hl => by cases hl
 fr := by
  show 0 + freeN c.M (startL im).tk ≤ c.M
  have := freeN_le c.M (startL im).tk
  omega
def goneL (M : Nat) (im : Img) : LS := allL im.length M im M (enterL im.length M im 1 (startL im))
def lookL (M : Nat) (im : Img) : LS := { goneL M im with wt := layK (goneL M im).tk (goneL M im).wt M }
def rootB (M : Nat) (im : Img) : Bool := (soundZ M im 1).2 && decide ((soundZ M im 1).1.getD 0 0 = 2)
theorem ex_least (P : Nat → Prop) : ∀ n, P n → ∃ m, P m ∧ ∀ k, k < m → ¬ P k := by
 intro n
 induction n using Nat.strongRecOn with
 | ind n ih =>
  intro hn
  by_cases h : ∃ k, k < n ∧ P k
  ·obtain ⟨k, hk, hp⟩ := h
   exact ih k hk hp
  ·exact ⟨n, hn, fun k hk hp => h ⟨k, hk, hp⟩⟩
open Classical in
noncomputable def leastN (P : Nat → Prop) : Nat := if h : ∃ n, P n then Classical.choose (ex_least P (Classical.choose h) (Classical.choose_spec h)) else 0
theorem leastN_spec {P : Nat → Prop} (h : ∃ n, P n) : P (leastN P) := by
 unfold leastN;rw [dif_pos h]
 exact (Classical.choose_spec (ex_least P (Classical.choose h) (Classical.choose_spec h))).1
theorem leastN_le {P : Nat → Prop} {n : Nat} (h : P n) : leastN P ≤ n := by
 unfold leastN;rw [dif_pos ⟨n, h⟩];have := (Classical.choose_spec (ex_least P (Classical.choose ⟨n, h⟩) (Classical.choose_spec ⟨n, h⟩))).2
 rcases Nat.lt_or_ge n (Classical.choose (ex_least P (Classical.choose ⟨n, h⟩) (Classical.choose_spec ⟨n, h⟩))) with k | k
 ·exact absurd h (this n k)
 ·exact k

end Go.Proofs.YtpmignilhoihnabGreat

namespace Go.Proofs.YtpmignilhoihnabGreat
open Go.RowKit Go.Shelf

theorem begin_any2 {b o ic N M : Nat} {im : Img} {w : World} (h : ImgAt w (some ⟨b, o, none⟩) im) (hl : im.length = N) (n1 : 8 ≤ N) (n2 : N ≤ 4096) (m1 : 1 ≤ M) (m2 : M + 2 ≤ N) :
  Calls Tryz.prog 16 #[.agg (SUA N M), .slice (some ⟨b, o, none⟩) N ic] w fun e w' => ∃ c : LC, e = .returned (LP c) ∧ c.B = w.heap.size ∧ c.N = N ∧ c.M = M ∧ c.im = im ∧ IsL w' c (startL im) ∧ Chg w w' No ∧ w.heap.size ≤ c.b.p := by
 refine (begin_any h hl n1 n2 m1 m2).mono ?_
 rintro e w' ⟨lb, wc, rfl, h1, h2, h3⟩
 exact ⟨⟨w.heap.size, lb, N, M, some ⟨b, o, none⟩, ic, wc, im⟩, rfl, rfl, rfl, rfl, rfl, h1, h2, h3⟩
theorem kl_new {w0 w w' : World} {c : LC} (h0 : Chg w0 w No) (h : Chg w w' (Kl c w)) (hB : w0.heap.size ≤ c.B) : Chg w0 w' No :=
 h0.trans h (fun _ _ e => e) (fun j hj e => by have := e.1; omega)
def LkI (w0 w : World) (c : LC) (F : LS) (f : Nat) (x : Value) (b : Bool) : Prop :=
 Chg w0 w No ∧ ((b = false ∧ IsL w c F) ∨ (b = true ∧ ∃ g l s a cap, f = g + 1 ∧ x = .slice a l.length cap ∧ LAt w a l ∧ IsL w c s ∧ LOk c s ∧ (∀ y ∈ l, (c.M : Int) < y ∧ y < c.N) ∧ l.length ≤ 1068 ∧ loadE c.M (dirL c.N c.M c.im l s) ≤ g ∧ F = allL c.N c.M c.im g (dirL c.N c.M c.im l s)))
theorem next_any {w0 w : World} {c : LC} {s F : LS} {f : Nat} (h : IsL w c s) (hk : LOk c s) (hf : loadE c.M s ≤ f) (hF : F = allL c.N c.M c.im f s) (h0 : Chg w0 w No) (hB : w0.heap.size ≤ c.B) :
  Calls Tryz.prog 55 #[.pointer (some ⟨c.b.qb, 0, none⟩)] w fun e w' => ∃ x b, e = .returned (.tuple #[x, .bool b]) ∧ LkI w0 w' c F f x b := by
 have hM := h.v.p.m2;have hN := h.v.p.n2;have hfr := hk.fr
 cases hq : s.q with
 | nil =>
  have hQ := h.q;rw [hq] at hQ;refine (empty_none c.B c.b.qb w hQ).mono ?_
  rintro e w' ⟨rfl, rfl⟩
  exact ⟨_, false, rfl, h0, .inl ⟨rfl, by rw [hF, allL_nil hq]; exact h⟩⟩
 | cons l q =>
  have hQ := h.q;rw [hq] at hQ hfr
  simp only [List.length_cons] at hfr
  refine (empty_some c.B c.b.qb l q w hQ (by omega)).mono ?_
  rintro e w' ⟨a, cap, rfl, hl, hq', hc⟩
  obtain ⟨h1, h2⟩ := h.queued hq' (hc.mono fun _ _ e => .inl e);have e1 := load_pop (M := c.M) hq;have e2 := dirL_E (c := c) l { s with q := q };obtain ⟨g, rfl⟩ : ∃ g, f = g + 1 := ⟨f - 1, by omega⟩
  exact ⟨_, true, rfl, kl_new h0 h2 hB, .inr ⟨rfl, g, l, { s with q := q }, a, cap, rfl, rfl, hl, h1, hk.pop hq, hk.qd l (by rw [hq]; exact List.mem_cons_self), hk.ql l (by rw [hq]; exact List.mem_cons_self), by omega, by rw [hF, allL_cons hq]⟩⟩
theorem rootB_parts {M : Nat} {im : Img} : rootB M im = true ↔ (soundZ M im 1).2 = true ∧ (soundZ M im 1).1.getD 0 0 = 2 := by simp [rootB]

end Go.Proofs.YtpmignilhoihnabGreat

namespace Go.Proofs.YtpmignilhoihnabGreat
open Go.RowKit Go.Shelf

def writeI (M : Nat) (im : Img) (s : LS) : List Int := catK (fun j => keysL im.length fun x => decide (wrKind M im s.wt s.wp x = j)) 3
def inodesI (M : Nat) (s : LS) : List Int := keysL (M + 1) fun x => (s.tk x).isSome
def blocksI (im : Img) (s : LS) : List Int := keysL im.length s.cl
def RepAt (w0 w : World) (r : Array Value) (T : Img) (l1 l2 l3 : List Int) : Prop :=
 ∃ g wc v1 v2 v3, r = #[.slice (some ⟨g, 0, none⟩) T.length wc, v1, v2, v3] ∧ w0.heap.size ≤ g ∧ WtAt w g T ∧ Rep w0 w v1 v2 v3 l1 l2 l3
theorem build_rep (w : World) : (Instr.build 26 #[]).run Tryz.prog w = .ok (.agg nil4) w := by kernel_rfl
theorem nil4_one : nil4.all (·.oneCell') = true := by simp [nil4, Value.oneCell']

set_option maxRecDepth 100000 in
set_option maxHeartbeats 4000000 in
theorem look_bad (ia : Option Addr) (ic : Nat) (im : Img) (w : World) (h : ImgAt w ia im) (he : (supOf im).2.2 ≠ 0) :
  Calls Tryz.prog 7 #[.slice ia im.length ic] w fun e w' => e = .returned (.tuple #[.agg nil4, .int .i64 120]) ∧ Chg w w' No := by
 have hzr := zero_rep;have hbr := build_rep
 have hzs : ∀ w', (zeroValue 32).run Tryz.prog w' = .ok (.agg #[.int .i64 0, .int .i64 0]) w' := fun w' => by kernel_rfl
 have hA := Chg.alloc w (.cells nil4 26) No;have HA := hid hA;have HN := hid (heap_alloc_new w (.cells nil4 26));have hSO := superOf_any ia ic im (w.alloc (.cells nil4 26)) (h.keep hA (fun _ _ e => e))
 have e120 : (supOf im).2.2 = 120 := by
  unfold supOf at he ⊢
  split
  ·rename_i h1
   rw [if_pos h1] at he
   simp only at he ⊢
   split
   ·rename_i h2
    rw [if_pos h2] at he
    exact absurd h2.1 he
   ·rfl
  ·rfl
 rw [e120] at hSO
 generalize (supOf im).1 = sa at *
 generalize (supOf im).2.1 = sb at *
 generalize im.length = n at *
 clear h hA he e120
 go_enter Tryz.func7, Tryz.ntmps7
 go_wp2_with (first
  | (go_at_call 15; go_must (refine hSO.mono ?_; rintro e w1 ⟨rfl, hc1⟩))
  | (refine store_R rfl 32 _ _ rfl w1.heap.size (SUA sa sb) rfl rfl 32 _ (heap_alloc_new _ _) szSU rfl (SUA_one _ _) ?_; intro w2 hw2; have hcA : Chg w w2 No := ((HA.out.trans hc1 (c := No) (fun _ _ e => e) (fun _ _ e => e)).trans (Chg.alloc w1 (.cells #[.int .i64 0, .int .i64 0] 32) No) (c := No) (fun _ _ e => e) (fun _ _ e => e)).trans (kt_new hw2) (fun _ _ e => e) (fun j hj e => by have := hc1.size; simp at this; omega); have hN2 : w2.heap[w.heap.size]? = some (.cells nil4 26 (0, 0)) := ((hc1.trans (Chg.alloc w1 (.cells #[.int .i64 0, .int .i64 0] 32) No) (c := No) (fun _ _ e => e) (fun _ _ e => e)).trans (kt_new hw2) (c := (· = w1.heap.size)) (fun _ _ e => e.elim) (fun _ _ e => e)).keep HN.out (fun e => by have := hc1.size; simp at this; omega))
  | (refine store_R rfl 26 _ _ rfl w.heap.size nil4 rfl rfl 26 _ hN2 szRep rfl nil4_one ?_; intro w5 hw5)
  | fail)
 refine bodyPost_ret (v := .tuple #[.agg nil4, .int .i64 120]) (results_R Tryz.results7 _ _ w.heap.size _ 26 _ _ Tryz.underlying26 rfl szRep rfl rfl hw5.here) rfl ⟨rfl, hcA.trans (kt_new hw5) (fun _ _ e => e) (fun j hj e => by omega)⟩

end Go.Proofs.YtpmignilhoihnabGreat

namespace Go.Proofs.YtpmignilhoihnabGreat
open Go.RowKit Go.Shelf

theorem Rep.keep {w0 w w' : World} {v1 v2 v3 : Value} {l1 l2 l3 : List Int} {k : Nat} (h : Rep w0 w v1 v2 v3 l1 l2 l3) (hc : Chg w w' (· = k)) (hk : k < w0.heap.size) : Rep w0 w' v1 v2 v3 l1 l2 l3 :=
 ⟨h.o1.keep hc (fun j e1 e2 => by have := (h.o1.blk e1).1; omega), h.o2.keep hc (fun j e1 e2 => by have := (h.o2.blk e1).1; omega), h.o3.keep hc (fun j e1 e2 => by have := (h.o3.blk e1).1; omega), h.a12, h.a13, h.a23⟩
theorem Rep.base {w0 w1 w : World} {v1 v2 v3 : Value} {l1 l2 l3 : List Int} (h : Rep w1 w v1 v2 v3 l1 l2 l3) (hb : w0.heap.size ≤ w1.heap.size) : Rep w0 w v1 v2 v3 l1 l2 l3 :=
 ⟨h.o1.base hb, h.o2.base hb, h.o3.base hb, h.a12, h.a13, h.a23⟩

theorem rep_one (a : Option Addr) (n c : Nat) {v1 v2 v3 : Value} (h1 : v1.oneCell' = true) (h2 : v2.oneCell' = true) (h3 : v3.oneCell' = true) : (#[Value.slice a n c, v1, v2, v3]).all (·.oneCell') = true := by
 have h0 : (Value.slice a n c).oneCell' = true := rfl
 simp [h0, h1, h2, h3]
def LookPost (M : Nat) (im : Img) (w : World) (e : Ending) (w' : World) : Prop :=
 ∃ r, e = .returned (.tuple #[.agg r, .int .i64 (if rootB M im = true then 0 else 121)]) ∧ Chg w w' No ∧ (rootB M im = false → r = nil4) ∧ (rootB M im = true → RepAt w w' r (lookL M im).wt (writeI M im (lookL M im)) (inodesI M (lookL M im)) (blocksI im (lookL M im)))

set_option maxRecDepth 100000 in
set_option maxHeartbeats 4000000 in
theorem look_good (ia : Option Addr) (ic : Nat) (im : Img) (M : Nat) (w : World) (h : ImgAt w ia im) (he : (supOf im).2.2 = 0) (hM : M = (supOf im).2.1.toNat) :
  Calls Tryz.prog 7 #[.slice ia im.length ic] w fun e w' => LookPost M im w e w' := by
 have hzr := zero_rep;have hbr := build_rep;have hzi := zero_inode
 have hzs : ∀ w', (zeroValue 32).run Tryz.prog w' = .ok (.agg #[.int .i64 0, .int .i64 0]) w' := fun w' => by kernel_rfl
 have hA := Chg.alloc w (.cells nil4 26) No;have HA := hid hA;have HN := hid (heap_alloc_new w (.cells nil4 26));have hI0 := h.keep hA (fun _ _ e => e);have hSO := superOf_any ia ic im (w.alloc (.cells nil4 26)) hI0;obtain ⟨s1, s2, s3, s4, s5⟩ := supOf_ok he;rw [he, s1, show (supOf im).2.1 = ((M : Nat) : Int) by omega] at hSO
 have m1 : 1 ≤ M := by omega
 have m2 : M + 2 ≤ im.length := by omega
 obtain ⟨b, o, hia⟩ : ∃ b o, ia = some ⟨b, o, none⟩ := by
  rcases h.2 with e | ⟨b, o, e, _⟩
  ·rw [e] at s2; simp at s2
  ·exact ⟨b, o, e⟩
 subst hia;have HI0 := hid hI0;have HS := hid (And.intro s2 (And.intro s3 (And.intro m1 m2)));obtain ⟨n, hn⟩ : ∃ y, y = im.length := ⟨_, rfl⟩;have HLn := hid hn;rw [← hn] at hSO HS ⊢;have HBG : Hid (∀ W, ImgAt W (some ⟨b, o, none⟩) im → Calls Tryz.prog 16 #[.agg (SUA n M), .slice (some ⟨b, o, none⟩) n ic] W fun e w' => ∃ c : LC, e = .returned (LP c) ∧ c.B = W.heap.size ∧ c.N = n ∧ c.M = M ∧ c.im = im ∧ IsL w' c (startL im) ∧ Chg W w' No ∧ W.heap.size ≤ c.b.p) := hid (fun W hW => begin_any2 hW HLn.out.symm HS.out.1 HS.out.2.1 HS.out.2.2.1 HS.out.2.2.2);clear h hA hI0 he hM s1 s2 s3 s4 s5 m1 m2 hn
 go_enter Tryz.func7, Tryz.ntmps7
 go_upto_region 2 with (first
  | (go_at_call 15; go_must (refine hSO.mono ?_; rintro e w1 ⟨rfl, hc1⟩))
  | (refine store_R rfl 32 _ _ rfl w1.heap.size (SUA n M) rfl rfl 32 _ (heap_alloc_new _ _) szSU rfl (SUA_one _ _) ?_; intro w2 hw2)
  | fail)
 have h12 : Chg (w.alloc (.cells nil4 26)) w2 No := (hc1.trans (Chg.alloc w1 (.cells #[.int .i64 0, .int .i64 0] 32) No) (c := No) (fun _ _ e => e) (fun _ _ e => e)).trans (kt_new hw2) (fun _ _ e => e) (fun j hj e => by have := hc1.size; omega);have HC2 : Hid (Chg w w2 No) := hid (HA.out.trans h12 (fun _ _ e => e) (fun _ _ e => e));have HN2 : Hid (w2.heap[w.heap.size]? = some (.cells nil4 26 (0, 0))) := hid (h12.keep HN.out (fun e => e));have HG2 := hid hw2.here;have HI2 := hid (HI0.out.keep h12 (fun _ _ e => e));have hBG := HBG.out w2 HI2.out;have HZ2 : Hid (w.heap.size < w2.heap.size) := hid (slt HN2.out);clear h12 hw2 hc1 hSO HI0 HN HA;obtain ⟨g4, hg4⟩ : ∃ y, y = w1.heap.size := ⟨_, rfl⟩;rw [← hg4] at HG2 ⊢;clear hg4
 go_upto_region 5 with (first
  | (refine load_R rfl 32 _ rfl g4 rfl 32 _ _ HG2.out Tryz.underlying32 rfl szSU ?_)
  | (go_at_call 16; go_must (refine hBG.mono ?_; rintro e w3 ⟨c, rfl, hB3, hN3, hM3, hi3, hL3, hc3, hp3⟩))
  | fail)
 have HB3 := hid hB3;have HNM := hid (And.intro hN3 (And.intro hM3 hi3));have HL3 := hid hL3;have HC3 := hid hc3;have hSD := sound_any 1 w3 hL3.v.p;rw [hM3, hi3] at hSD;have HRL := hid (soundZ_len M im 1);clear hBG hB3 hN3 hM3 hi3 hL3 hc3 hp3;have HRB := hid (rootB_parts (M := M) (im := im));obtain ⟨rz, hrz⟩ : ∃ y, y = soundZ M im 1 := ⟨_, rfl⟩;rw [← hrz] at hSD HRL HRB;have HRZ := hid hrz;obtain ⟨z, is⟩ := rz
 simp only at hSD HRL HRB
 clear hrz;unfold LP at hSD ⊢
 go_upto_region 6 with (first
  | (go_at_call 17; go_must (refine hSD.mono ?_; rintro e w4 ⟨rfl, hc4⟩))
  | (refine store_R rfl 39 _ _ rfl w4.heap.size (NA z) rfl rfl 39 _ (heap_alloc_new _ _) (by rw [szI, NA_size, HRL.out]) (by rw [NA_size, NA_size, Zi_len, HRL.out]) (NA_one _) ?_; intro w5 hw5)
  | fail)
 have h35 : Chg w3 w5 No := (hc4.trans (Chg.alloc w4 (.cells (NA Zi) 39) No) (c := No) (fun _ _ e => e) (fun _ _ e => e)).trans (kt_new hw5) (fun _ _ e => e) (fun j hj e => by have := hc4.size; omega);have HL5 := hid (HL3.out.call h35);have H25 : Hid (Chg w2 w5 No) := hid (HC3.out.trans h35 (fun _ _ e => e) (fun _ _ e => e));have HC5 : Hid (Chg w w5 No) := hid (HC2.out.trans H25.out (fun _ _ e => e) (fun _ _ e => e));have HN5 : Hid (w5.heap[w.heap.size]? = some (.cells nil4 26 (0, 0))) := hid (H25.out.keep HN2.out (fun e => e));have q0 := row_cell hw5.here 0 (by rw [HRL.out]; decide);obtain ⟨K, hKz⟩ : ∃ y, y = z.getD 0 0 := ⟨_, rfl⟩;rw [← hKz] at q0 HRB;obtain ⟨g7, hg7⟩ : ∃ y, y = w4.heap.size := ⟨_, rfl⟩;rw [← hg7] at q0 ⊢;clear hg7 hw5 hc4 h35 hSD HG2 hKz
 cases is with
 | false =>
  have HRf : Hid (rootB M im = false) := hid (by
   cases hq : rootB M im with
   | false => rfl
   | true => have := (HRB.out.1 hq).1; cases this)
  clear HRB
  go_wp2_with (first
   | (refine store_R rfl 26 _ _ rfl w.heap.size nil4 rfl rfl 26 _ HN5.out szRep rfl nil4_one ?_; intro w6 hw6)
   | fail)
  refine bodyPost_ret (v := .tuple #[.agg nil4, .int .i64 121]) (results_R Tryz.results7 _ _ w.heap.size _ 26 _ _ Tryz.underlying26 rfl szRep rfl rfl hw6.here) rfl ⟨nil4, by rw [HRf.out]; rfl, HC5.out.trans (kt_new hw6) (fun _ _ e => e) (fun j hj e => by omega), fun _ => rfl, fun e => by rw [HRf.out] at e; cases e⟩
 | true =>
  by_cases hK : K = 2
  ·have HRt : Hid (rootB M im = true) := hid (HRB.out.2 ⟨rfl, hK⟩)
   have HSt : Hid ((soundZ M im 1).2 = true) := hid (by rw [← HRZ.out])
   have hKb : (K == 2) = true := by simpa using hK
   clear HRB HRZ HRL;obtain ⟨s1, hs1⟩ : ∃ y, y = enterL im.length M im 1 (startL im) := ⟨_, rfl⟩
   have hMay : May c (startL im) 1 := by
    show (soundZ c.M c.im 1).2 = true
    rw [HNM.out.2.1, HNM.out.2.2]
    exact HSt.out
   have hEN := enter_any 1 w5 HL5.out (startL_ok c im).tk (by simp [startL]) hMay ⟨by decide, by decide⟩;have hOk := enterL_ok (startL_ok c im) hMay
   have eN : (c.N : Int) = (im.length : Nat) := by rw [HNM.out.1, HLn.out]
   rw [eN, HNM.out.2.1, HNM.out.2.2, ← hs1] at hEN hOk;have HOk := hid hOk
   have hld : loadE c.M s1 ≤ M := by have := hOk.fr; rw [HNM.out.2.1] at this ⊢; exact this
   have HF : Hid (goneL M im = allL c.N c.M c.im M s1) := hid (by unfold goneL; rw [eN, HNM.out.2.1, HNM.out.2.2, hs1]);have HLd := hid hld;have HFo : Hid (LOk c (goneL M im)) := hid (by rw [HF.out]; exact allL_ok M s1 hOk);clear hs1 hMay hOk hld eN;obtain ⟨F, hF⟩ : ∃ y, y = goneL M im := ⟨_, rfl⟩;rw [← hF] at HF HFo;have HFF := hid hF;have HB2 : Hid (w2.heap.size ≤ c.B) := hid (by rw [HB3.out]; exact Nat.le_refl _);clear hF;unfold LP at hEN
   go_wp2_with (first
    | (go_at_call 18; go_must (refine hEN.mono ?_; rintro e w6 ⟨rfl, hL6, hk6⟩; have d8 := hL6.v.p.c8; have hNX := next_any hL6 HOk.out HLd.out HF.out (kl_new H25.out hk6 HB2.out) HB2.out))
    | (go_at_call 55; go_must (refine hNX.mono ?_; rintro e w7 ⟨x7, b7, rfl, hI7⟩))
    | fail)
   have HI7 := hid hI7;clear hI7 hNX d8 hL6 hk6 hEN q0
   go_loopw [9, 10] (fun x9 x10 wr => ∃ (vv : Value) (bb : Bool), vv = x9 ∧ x10 = .bool bb ∧ Hid (∃ f, LkI w2 wr c F f vv bb)) (fun x9 x10 wr => leastN (fun f => ∃ bb, x10 = .bool bb ∧ LkI w2 wr c F f x9 bb))
   case atStart => exact ⟨_, _, rfl, rfl, hid ⟨_, HI7.out⟩⟩
   case round =>
    obtain ⟨vv, bb, rfl, rfl, HI⟩ := hrel
    cases bb with
    | true =>
     obtain ⟨g, hgl, l, s, a, cap, rfl, hLA, hLs, hOs, hd, hl, hle, hFe, hcw⟩ : ∃ g, leastN (fun f => ∃ bb, Value.bool true = .bool bb ∧ LkI w2 wr c F f vv bb) = g + 1 ∧ ∃ l s a cap, vv = .slice a l.length cap ∧ LAt wr a l ∧ IsL wr c s ∧ LOk c s ∧ (∀ y ∈ l, (c.M : Int) < y ∧ y < c.N) ∧ l.length ≤ 1068 ∧ loadE c.M (dirL c.N c.M c.im l s) ≤ g ∧ F = allL c.N c.M c.im g (dirL c.N c.M c.im l s) ∧ Chg w2 wr No := by
      obtain ⟨f, hf⟩ := HI.out;obtain ⟨bb, e, hI⟩ := leastN_spec (P := fun f => ∃ bb, Value.bool true = .bool bb ∧ LkI w2 wr c F f vv bb) ⟨f, true, rfl, hf⟩
      cases e
      obtain ⟨hcw, ⟨e, _⟩ | ⟨_, g, l, s, a, cap, h1, h2, h3, h4, h5, h6, h7, h8, h9⟩⟩ := hI
      ·cases e
      ·exact ⟨g, h1, l, s, a, cap, h2, h3, h4, h5, h6, h7, h8, h9, hcw⟩
     have hDR := directory_any l a cap wr hLs hOs hLA hd hl;have HGL := hid hgl;have HOd := hid (dirL_ok (l := l) hOs);have HLe := hid hle;have HFe := hid hFe;have HCw := hid hcw;unfold LP at hDR;clear hgl hLA hLs hOs hd hl hle hFe hcw HI
     go_wp2_with (first
      | (go_at_call 19; go_must (refine hDR.mono ?_; rintro e w8 ⟨rfl, hL8, hk8⟩; have d8 := hL8.v.p.c8; have hNX := next_any hL8 HOd.out HLe.out HFe.out (kl_new HCw.out hk8 HB2.out) HB2.out))
      | (go_at_call 55; go_must (refine hNX.mono ?_; rintro e w9 ⟨x9, b9, rfl, hI9⟩))
      | fail)
     exact ⟨⟨x9, b9, rfl, rfl, hid ⟨g, hI9⟩⟩, Nat.lt_of_le_of_lt (leastN_le (n := g) ⟨b9, rfl, hI9⟩) (by rw [HGL.out]; exact Nat.lt_succ_self g)⟩
    | false =>
     obtain ⟨hLs, hcw⟩ : IsL wr c F ∧ Chg w2 wr No := by
      obtain ⟨f, hcw, ⟨_, h1⟩ | ⟨e, _⟩⟩ := HI.out
      ·exact ⟨h1, hcw⟩
      ·cases e
     have hLI := layInodes_any wr hLs HFo.out.tk;have HCw := hid hcw;have HW : Hid (∀ W, IsL W c { F with wt := layK F.tk F.wt c.M } → Calls Tryz.prog 21 #[LP c] W fun e w' => ∃ v1 v2 v3, e = .returned (.agg #[.slice (some ⟨c.b.wb, 0, none⟩) c.N c.wc, v1, v2, v3]) ∧ Rep W w' v1 v2 v3 (writeL c { F with wt := layK F.tk F.wt c.M }) (inodesL c { F with wt := layK F.tk F.wt c.M }) (blocksL c { F with wt := layK F.tk F.wt c.M }) ∧ Chg W w' No) := hid (fun W hW => report_any W hW HFo.out.tk);have HLk : Hid (lookL M im = { F with wt := layK F.tk F.wt c.M }) := hid (by unfold lookL; rw [HFF.out, HNM.out.2.1]);obtain ⟨T, hT⟩ : ∃ y, y = ({ F with wt := layK F.tk F.wt c.M } : LS) := ⟨_, rfl⟩;rw [← hT] at hLI HW HLk;unfold LP at hLI HW;clear hT hLs hcw HI
     go_upto_region 14 with (first
      | (go_at_call 20; go_must (refine hLI.mono ?_; rintro e w8 ⟨rfl, hL8, hk8⟩))
      | fail)
     have hRP := HW.out w8 hL8;have HL8 := hid hL8;have HC8 : Hid (Chg w2 w8 No) := hid (kl_new HCw.out hk8 HB2.out);have HN8 : Hid (w8.heap[w.heap.size]? = some (.cells nil4 26 (0, 0))) := hid (HC8.out.keep HN2.out (fun e => e));clear hL8 hk8 hLI HW
     go_wp2_with (first
      | (go_at_call 21; go_must (refine hRP.mono ?_; rintro e w9 ⟨v1, v2, v3, rfl, hR9, hc9⟩; have hN9 := hc9.keep HN8.out (fun e => e)))
      | (refine store_R rfl 26 _ _ rfl w.heap.size #[.slice (some ⟨c.b.wb, 0, none⟩) c.N c.wc, v1, v2, v3] rfl rfl 26 _ hN9 szRep rfl (rep_one _ _ _ hR9.o1.one hR9.o2.one hR9.o3.one) ?_; intro w10 hw10)
      | fail)
     have hcA := kt_new hw10;have h29 : Chg w2 w9 No := HC8.out.trans hc9 (fun _ _ e => e) (fun _ _ e => e);have hz2 := HZ2.out;have hz8 := HC8.out.size;have hzB := HB2.out;have hb0 := HL8.out.v.p.b0
     have eN : c.N = im.length := by rw [HNM.out.1, HLn.out]
     refine bodyPost_ret (v := .tuple #[.agg #[.slice (some ⟨c.b.wb, 0, none⟩) c.N c.wc, v1, v2, v3], .int .i64 0]) (results_R Tryz.results7 _ _ w.heap.size _ 26 _ _ Tryz.underlying26 rfl szRep rfl rfl hw10.here) rfl ⟨_, by rw [HRt.out]; rfl, (HC2.out.trans h29 (c := No) (fun _ _ e => e) (fun _ _ e => e)).trans hcA (fun _ _ e => e) (fun j hj e => by omega), fun e => (by rw [HRt.out] at e; cases e), fun _ => ?_⟩;rw [HLk.out];have hwl := HL8.out.v.k.wl;have hrep := (hR9.keep hcA (by omega)).base (w0 := w) (by omega);refine ⟨c.b.wb, c.wc, v1, v2, v3, by rw [hwl], by omega, (HL8.out.v.k.wt.keep hc9 (fun e => e)).keep hcA (by omega), ?_⟩
     have e1 : writeL c T = writeI M im T := by unfold writeL writeI wrP; rw [eN, HNM.out.2.1, HNM.out.2.2]
     have e2 : inodesL c T = inodesI M T := by unfold inodesL inodesI; rw [HNM.out.2.1]
     have e3 : blocksL c T = blocksI im T := by unfold blocksL blocksI; rw [eN]
     rw [← e1, ← e2, ← e3]
     exact hrep
  ·have HRf : Hid (rootB M im = false) := hid (by
    cases hq : rootB M im with
    | false => rfl
    | true => exact absurd (HRB.out.1 hq).2 hK)
   have hKb : (K == 2) = false := by simpa using hK
   clear HRB
   go_wp2_with (first
    | (refine store_R rfl 26 _ _ rfl w.heap.size nil4 rfl rfl 26 _ HN5.out szRep rfl nil4_one ?_; intro w6 hw6)
    | fail)
   refine bodyPost_ret (v := .tuple #[.agg nil4, .int .i64 121]) (results_R Tryz.results7 _ _ w.heap.size _ 26 _ _ Tryz.underlying26 rfl szRep rfl rfl hw6.here) rfl ⟨nil4, by rw [HRf.out]; rfl, HC5.out.trans (kt_new hw6) (fun _ _ e => e) (fun j hj e => by omega), fun _ => rfl, fun e => by rw [HRf.out] at e; cases e⟩

end Go.Proofs.YtpmignilhoihnabGreat
