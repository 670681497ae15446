/-
 An inode is taken up: the walk.
-/
import Derived.Test.YtpmignilhoihnaaGreatT1
namespace Go.Proofs.YtpmignilhoihnaaGreat
open Go.RowKit Go.Shelf

theorem dir_range {w : World} {g : Nat} {z : List Int} (hz : z.length = 18) (h : w.heap[g]? = some (.cells (NA z) 51 (0, 0))) : w.rangeAt g 4 (((z.drop 4).take 12).map (Value.int .i64)) := by
 intro j v hv
 rw [List.getElem?_map, List.getElem?_take] at hv
 split at hv
 ·rename_i hj
  rw [List.getElem?_drop] at hv;rw [row_cell h (4 + j) (by omega)]
  cases hx : z[4 + j]? with
  | none => rw [hx] at hv; cases hv
  | some x =>
   rw [hx] at hv
   simp at hv
   subst hv;rw [List.getD_eq_getElem?_getD, hx]
   rfl
 ·cases hv
theorem kq_kl {w : World} {c : LC} {s : LS} (h : IsL w c s) {k : Nat} (e : Kq w c.B c.b.qb k) : Kl c w k := by
 rcases e with rfl | ⟨e1, A, e2⟩
 ·exact ⟨h.v.p.b4, .inr (.inr (.inr (.inr (.inl rfl))))⟩
 ·exact ⟨e1, .inr (.inr (.inr (.inr (.inr ⟨A, 24, e2, .inr rfl⟩))))⟩
theorem IsL.aside {w w' : World} {c : LC} {s : LS} {g : Nat} {A : Array Value} {t : TypeId} {f : Nat × Nat} (h : IsL w c s) (hg : w.heap[g]? = some (.cells A t f)) (h0 : t ≠ 61) (h1 : t ≠ 33) (h2 : t ≠ 126) (h3 : t ≠ 24) (h4 : t ≠ 3) (_h5 : t ≠ 116) (hB : c.B ≤ g) (hc : Chg w w' (· = g)) : IsL w' c s := by
 obtain ⟨es, ck, hm⟩ := h.v.k.cl.isMap;obtain ⟨es2, ck2, hm2⟩ := h.v.v.isMap;obtain ⟨es3, ck3, hm3⟩ := h.t.isMap;obtain ⟨B, hb⟩ := h.v.k.wt.isRow;obtain ⟨u, hu⟩ := h.q.isBox
 have ne : ∀ {j : Nat} {x : Obj}, w.heap[j]? = some x → x ≠ .cells A t f → ¬ j = g := fun hj hn e => by
  subst e;rw [hg] at hj
  exact hn (Option.some.inj hj).symm
 exact ⟨⟨h.v.p.keep hc (ne h.v.p.me (by intro e; cases e; exact h0 rfl)) (fun k e => e ▸ hB), h.v.k.keep hc (ne hb (by intro e; cases e; exact h1 rfl)) (ne hm (by intro e; cases e)), h.v.v.keep hc (ne hm2 (by intro e; cases e)), h.v.vk⟩, h.t.keep hc (ne hm3 (by intro e; cases e)), h.q.keep hc (ne hu (by intro e; cases e; exact h2 rfl)) (fun j A' hj => ne hj (by intro e; cases e; exact h3 rfl)) (fun j A' hj => ne hj (by intro e; cases e; exact h4 rfl))⟩

def Kx (c : LC) (sb gx : Nat) (w : World) (k : Nat) : Prop := Kt c sb w k ∨ k = gx
theorem kx_kt {w w1 w2 : World} {c : LC} {sb gx : Nat} (h : Chg w w1 (Kx c sb gx w)) (k : Chg w1 w2 (Kt c sb w1)) : Chg w w2 (Kx c sb gx w) :=
 h.trans k (fun _ _ e => e) (fun j hj e => by
  by_cases hn : Kx c sb gx w j
  ·exact hn
  rcases e with ⟨hB, e | e | e | ⟨A, e⟩⟩
  ·exact .inl ⟨hB, .inl e⟩
  ·exact .inl ⟨hB, .inr (.inl e)⟩
  ·exact .inl ⟨hB, .inr (.inr (.inl e))⟩
  ·rw [h.block j hj hn] at e
   exact .inl ⟨hB, .inr (.inr (.inr ⟨A, e⟩))⟩)
theorem IsL.throughX {w w' : World} {c : LC} {s : LS} {sb gx : Nat} {a b : TS} {A : Array Value} {f : Nat × Nat} (h : IsL w c s) (ht : TE w c sb a) (hg : w.heap[gx]? = some (.cells A 51 f)) (hc : Chg w w' (Kx c sb gx w)) (ht' : TE w' c sb b) : IsL w' c ⟨b.wt, b.cl, s.wp, s.tk, s.q⟩ := by
 obtain ⟨es, ck, hm⟩ := h.v.k.cl.isMap;obtain ⟨es2, ck2, hm2⟩ := h.v.v.isMap;obtain ⟨es3, ck3, hm3⟩ := h.t.isMap;obtain ⟨B, hB⟩ := ht.k.wt.isRow;obtain ⟨v, hv, _⟩ := ht.sp;obtain ⟨u, hu⟩ := h.q.isBox
 have nm : ∀ {g : Nat} {es : _} {ck : _}, w.heap[g]? = some (.map es ck) → g ≠ c.b.cb → ¬ Kx c sb gx w g := by
  rintro g es ck hg' hne (⟨_, rfl | e | rfl | ⟨A, e⟩⟩ | rfl)
  ·rw [hB] at hg'; cases hg'
  ·exact hne e
  ·rw [hv] at hg'; cases hg'
  ·rw [hg'] at e; cases e
  ·rw [hg] at hg'; cases hg'
 have nc : ∀ {g : Nat} {A' : Array Value} {t : TypeId} {f' : Nat × Nat}, w.heap[g]? = some (.cells A' t f') → t ≠ 33 → t ≠ 111 → t ≠ 116 → t ≠ 51 → ¬ Kx c sb gx w g := by
  rintro g A' t f' hg' h1 h2 h3 h4 (e | rfl)
  ·exact ht.not hg' h1 h2 h3 e
  ·rw [hg] at hg'; cases hg'; exact h4 rfl
 exact ⟨⟨ht'.p, ht'.k, h.v.v.keep hc (nm hm2 (fun e => h.v.p.cv e.symm)), h.v.vk⟩, h.t.keep hc (nm hm3 (fun e => h.v.p.ct e.symm)), h.q.keep hc (nc hu (by decide) (by decide) (by decide) (by decide)) (fun g A hg => nc hg (by decide) (by decide) (by decide) (by decide)) (fun g A hg => nc hg (by decide) (by decide) (by decide) (by decide))⟩
theorem kx_kl {w w' w0 : World} {c : LC} {sb gx : Nat} (h : Chg w w' (Kx c sb gx w)) (h0 : Chg w0 w No) (hs : w0.heap.size ≤ sb) (hg : w0.heap.size ≤ gx) : Chg w0 w' (Kl c w0) :=
 h0.trans h (fun _ _ e => e.elim) (fun j hj e => by
  rcases e with ⟨hB, e | e | e | ⟨A, e⟩⟩ | e
  ·exact ⟨hB, .inl e⟩
  ·exact ⟨hB, .inr (.inl e)⟩
  ·omega
  ·rw [h0.block j hj (fun e => e)] at e
   exact ⟨hB, .inr (.inr (.inr (.inr (.inr ⟨A, 116, e, .inl rfl⟩))))⟩
  ·omega)
structure TL (w6 w : World) (c : LC) (sb gx gr : Nat) (X : World → Prop) (z : List Int) (t : TS) : Prop where
 t : TE w c sb t
 x : X w
 g : w.heap[gx]? = some (.cells (NA z) 51 (0, 0))
 r : w.heap[gr]? = some (.cells (NA Zi) 51 (0, 0))
 c : Chg w6 w (Kx c sb gx w6)
theorem TL.next {w6 w w1 w2 : World} {c : LC} {sb gx gr : Nat} {X : World → Prop} {z : List Int} {t t' : TS} {j : Nat} {x : Int} (h : TL w6 w c sb gx gr X z t) (hX : ∀ w w', X w → Stays w w' → X w') (hne : gx ≠ gr) (hB : c.B ≤ gx) (ht : TE w1 c sb t') (hc : Chg w w1 (Kt c sb w)) (h2 : w2 = w1.setCell ⟨gx, j, none⟩ (.int .i64 x)) : TL w6 w2 c sb gx gr X (z.set j x) t' := by
 subst h2;have hg := h.t.stay h.g (by decide) (by decide) (by decide) hc;have hr := h.t.stay h.r (by decide) (by decide) (by decide) hc;have hs : Chg w1 (w1.setCell ⟨gx, j, none⟩ (.int .i64 x)) (· = gx) := Chg.setCell
 exact ⟨ht.aside hg (by decide) (by decide) (by decide) (by decide) hB hs, hX _ _ (hX _ _ h.x (h.t.stays hc)) (stays_at hg (by decide) hs), (row_setCell hg j x).here, hs.keep hr (fun e => hne e.symm), (kx_kt h.c hc).trans hs (fun _ _ e => e) (fun _ _ e => .inr e)⟩

abbrev X2 (c : LC) (sb kb gl gk1 ge1 : Nat) (cnt : Int) : World → Prop := XT c (XB c kb gl cnt) kb gl gk1 ge1 77 #[PV kb, PV gl, PV sb] cnt 1
abbrev X3 (c : LC) (sb kb gl gk1 ge1 gk2 ge2 : Nat) (cnt : Int) : World → Prop := XT c (X2 c sb kb gl gk1 ge1 cnt) kb gl gk2 ge2 80 #[PV kb, PV gl, PV gk1, PV ge1] cnt 32
structure TV (w0 w : World) (c : LC) (gl gx gr sb kb : Nat) (cnt : Int) (z : List Int) : Prop where
 l : Box w gl (LP c) 47
 x : w.heap[gx]? = some (.cells (NA z) 51 (0, 0))
 r : w.heap[gr]? = some (.cells (NA Zi) 51 (0, 0))
 s : w.heap[sb]? = some (.cells #[.slice none 0 0] 111 (0, 0))
 k : Box w kb (.int .i64 cnt) 3
 c : Chg w0 w No
 n1 : w0.heap.size ≤ gx
 n2 : w0.heap.size ≤ gr
 n3 : w0.heap.size ≤ sb
 n4 : w0.heap.size ≤ kb
 ne : gx ≠ gr

set_option maxRecDepth 100000 in
set_option maxHeartbeats 1000000 in
theorem takeUp_any {c : LC} {s : LS} (z : List Int) (w : World) (h : IsL w c s) (hz : z.length = 18) (h0 : 0 ≤ z.getD 2 0) (h1 : z.getD 2 0 ≤ 136704) (hp : ∀ j, 4 ≤ j → j < 18 → 0 ≤ z.getD j 0 ∧ z.getD j 0 ≤ 4294967295) (hq : s.q.length ≤ 5000) :
  Calls Tryz.prog 44 #[LP c, .agg (NA z)] w fun e w' => e = .returned (.agg (NA (inoT c.N c.M z s.wt s.cl))) ∧ IsL w' c (takeL c.N c.M z s) ∧ Chg w w' (Kl c w) := by
 have hzi := zero_inode;obtain ⟨W1, hW1⟩ : ∃ y, y = ((w.alloc (.cells #[.pointer (some ⟨c.b.p, 0, none⟩)] 47)).alloc (.cells (NA z) 51)).alloc (.cells (NA Zi) 51) := ⟨_, rfl⟩
 have A0 : W1.heap[w.heap.size]? = some (.cells #[LP c] 47 (0, 0)) := by
  rw [hW1]
  exact (Chg.alloc _ _ No).keep ((Chg.alloc _ _ No).keep (heap_alloc_new w _) (fun e => e)) (fun e => e)
 have A1 : W1.heap[w.heap.size + 1]? = some (.cells (NA z) 51 (0, 0)) := by
  rw [hW1];refine (Chg.alloc _ _ No).keep ?_ (fun e => e);have := heap_alloc_new (w.alloc (.cells #[.pointer (some ⟨c.b.p, 0, none⟩)] 47)) (.cells (NA z) 51);rw [World.size_alloc] at this
  exact this
 have A2 : W1.heap[w.heap.size + 1 + 1]? = some (.cells (NA Zi) 51 (0, 0)) := by
  rw [hW1];have := heap_alloc_new ((w.alloc (.cells #[.pointer (some ⟨c.b.p, 0, none⟩)] 47)).alloc (.cells (NA z) 51)) (.cells (NA Zi) 51);rw [World.size_alloc, World.size_alloc] at this
  exact this
 have AC : Chg w W1 No := by rw [hW1]; exact ((Chg.alloc w _ No).trans (Chg.alloc _ _ No) (c := No) (fun _ _ e => e) (fun _ _ e => e)).trans (Chg.alloc _ _ No) (fun _ _ e => e) (fun _ _ e => e)
 have AS : W1.heap.size = w.heap.size + 3 := by rw [hW1]; simp
 have HH := hid h;have HZ := hid hz;have HP := hid hp
 have hm : (z.getD 2 0 + 128 - 1).tdiv 128 = cntZ z := by rw [Int.tdiv_eq_ediv_of_nonneg (by omega)]; unfold cntZ; congr 1; omega
 have hcb : 0 ≤ cntZ z ∧ cntZ z ≤ 1068 := by unfold cntZ; omega
 have c1 := row_cell A1 1 (by rw [hz]; decide);have c1f := row_free A1 1;have HA0 := hid A0;have HA1 := hid A1;have HA2 := hid A2;have HAC := hid AC;have HAS := hid AS;have HM := hid hm;have HCB := hid hcb;clear h hz hp hm hcb A0 A1 A2 AC AS;unfold LP
 go_enter Tryz.func44, Tryz.ntmps44
 go_upto_region 1 with fail
 rw [← hW1];clear hW1
 go_upto_region 2 with fail
 have hp2 := row_setCell HA1.out 1 0;have hc2 : Chg W1 (W1.setCell ⟨w.heap.size + 1, 1, none⟩ (.int .i64 0)) (· = w.heap.size + 1) := Chg.setCell;have HX := hid hp2.here;have HL := hid (hc2.keep HA0.out (by omega));have HR := hid (hc2.keep HA2.out (by omega));have HC := hid (HAC.out.trans hc2 (c := No) (fun _ _ e => e) (fun j hj e => by omega));have HS := hid (hp2.size.trans HAS.out)
 generalize W1.setCell ⟨w.heap.size + 1, 1, none⟩ (.int .i64 0) = W2 at *
 clear hp2 hc2 c1 c1f HA0 HA1 HA2 HAC HAS
 go_upto_region 3 with fail
 have HC3 := hid (Chg.alloc W2 (.cells #[.slice none 0 0] 111) No);have HS3 := hid (heap_alloc_new W2 (.cells #[.slice none 0 0] 111));have HX3 := hid (HC3.out.keep HX.out (fun e => e));have HL3 := hid (HC3.out.keep HL.out (fun e => e));have HR3 := hid (HC3.out.keep HR.out (fun e => e));have HC30 := hid (HC.out.trans HC3.out (c := No) (fun _ _ e => e) (fun _ _ e => e));have HSz : Hid (W2.heap.size = w.heap.size + 3 ∧ (W2.alloc (.cells #[.slice none 0 0] 111)).heap.size = w.heap.size + 4) := hid ⟨HS.out, by rw [World.size_alloc, HS.out]⟩
 generalize hW3 : W2.alloc (.cells #[.slice none 0 0] 111) = W3 at *
 clear hW3 HX HL HR HC HS HC3
 have c2 : W3.cell? ⟨w.heap.size + 1, 2, none⟩ = some (.int .i64 (z.getD 2 0)) := by
  have := row_cell HX3.out 2 (by rw [List.length_set, HZ.out]; decide);rw [this, List.getD_eq_getElem?_getD, List.getElem?_set_ne (by decide), ← List.getD_eq_getElem?_getD]
 have hc0 : (0 : Int) ≤ z.getD 2 0 + 127 := by omega
 obtain ⟨Z2, hZ2⟩ : ∃ y, y = z.getD 2 0 := ⟨_, rfl⟩;have HZ2 := hid hZ2;rw [← hZ2] at c2 h0 h1 hc0;clear hZ2
 go_upto_region 4 with fail
 have hcnt : (Z2 + 128 - 1) / 128 = cntZ z := by rw [HZ2.out]; unfold cntZ; congr 1; omega
 rw [hcnt]
 have HV : Hid (TV w (W3.alloc (.cells #[.int .i64 (cntZ z)] 3)) c w.heap.size (w.heap.size + 1) (w.heap.size + 1 + 1) W2.heap.size W3.heap.size (cntZ z) (z.set 1 0)) := hid (by
  have hk := Chg.alloc W3 (.cells #[.int .i64 (cntZ z)] 3) No;have hS := HSz.out
  exact ⟨hk.keep HL3.out (fun e => e), hk.keep HX3.out (fun e => e), hk.keep HR3.out (fun e => e), hk.keep HS3.out (fun e => e), heap_alloc_new W3 _, HC30.out.trans hk (fun _ _ e => e) (fun _ _ e => e), by omega, by omega, by omega, by omega, by omega⟩)
 generalize W3.alloc (.cells #[.int .i64 (cntZ z)] 3) = W4 at *
 generalize w.heap.size + 1 + 1 = gr at *
 generalize w.heap.size + 1 = gx at *
 generalize W2.heap.size = sb at *
 generalize W3.heap.size = kb at *
 obtain ⟨gl, hgl⟩ : ∃ y, y = w.heap.size := ⟨_, rfl⟩;rw [← hgl] at HV;rw [← hgl];have HCB' := HCB
 generalize hcc : cntZ z = cnt at *
 have HCC := hid hcc;clear hcnt hgl hcc HL3 HX3 HR3 HS3 HC30 HSz c2 HM HCB';have HM1 := hid (table_make 1 77 #[PV kb, PV gl, PV sb] kb gl W4)
 go_upto_region 7 with (first
  | (go_at_call 79; go_must (refine HM1.out.mono ?_; rintro e W5 ⟨ge1, gk1, rfl, b1, b2, hc5⟩; clear HM1))
  | fail)
 have B1 := hid b1;have B2 := hid b2;have HC5 := hid hc5;clear b1 b2 hc5;have HM2 := hid (table_make 32 80 #[PV kb, PV gl, PV gk1, PV ge1] kb gl W5)
 go_upto_region 8 with (first
  | (go_at_call 79; go_must (refine HM2.out.mono ?_; rintro e W6 ⟨ge2, gk2, rfl, b3, b4, hc6⟩; clear HM2))
  | fail)
 have HC6 := hid hc6;have K1 : Keeper c sb (XB c kb gl cnt) 77 #[PV kb, PV gl, PV sb] 1000000 1 (blockF c.N c.M cnt) := block_keeper;have K2 : Keeper c sb (X2 c sb kb gl gk1 ge1 cnt) 80 #[PV kb, PV gl, PV gk1, PV ge1] 10000 (32 * 1) (singleF c.N c.M cnt) := table_keeper K1 (.inl rfl) (by decide) (by decide);have K3 : Keeper c sb (X3 c sb kb gl gk1 ge1 gk2 ge2 cnt) 80 #[PV kb, PV gl, PV gk2, PV ge2] 5000 (32 * (32 * 1)) (doubleF c.N c.M cnt) := table_keeper K2 (.inr rfl) (by decide) (by decide);have HC46 := hid (HC5.out.trans HC6.out (c := No) (fun _ _ e => e) (fun _ _ e => e));have hXB : XB c kb gl cnt W6 := ⟨HV.out.k.call HC46.out, HV.out.l.call HC46.out⟩;have hX2 : X2 c sb kb gl gk1 ge1 cnt W6 := ⟨hXB, B2.out.call HC6.out, B1.out.call HC6.out, hXB⟩;have hX3 : X3 c sb kb gl gk1 ge1 gk2 ge2 cnt W6 := ⟨hXB, b4, b3, hX2⟩;have HC06 := hid (HV.out.c.trans HC46.out (c := No) (fun _ _ e => e) (fun _ _ e => e));have HBg : Hid (c.B ≤ gx ∧ c.B ≤ sb) := hid (by have := HH.out.v.p.b0; have := HH.out.v.k.wt.lt; have := HV.out.n1; have := HV.out.n3; omega);have hL6 := HH.out.call HC06.out;have hTE : TE W6 c sb ⟨s.wt, s.cl, []⟩ := ⟨hL6.v.p, hL6.v.k, HBg.out.2, .slice none 0 0, HC46.out.keep HV.out.s (fun e => e), World.ownsRow_nil _ _ _ _⟩;have HL6 := hid hL6;have HK1 := hid K1;have HK2 := hid K2;have HK3 := hid K3;have HN := hid HV.out.ne;obtain ⟨d0, hd0⟩ : ∃ y, y = (z.drop 4).take 12 := ⟨_, rfl⟩
 have hdl : d0.length = 12 := by rw [hd0]; simp [HZ.out]
 have hdr : ((z.set 1 0).drop 4).take 12 = d0 := by rw [hd0, List.drop_set_of_lt (by decide)]
 have HZ1 : Hid ((z.set 1 0).length = 18) := hid (by rw [List.length_set]; exact HZ.out);have hx6 := HC46.out.keep HV.out.x (fun e => e);have G0 : Hid (TL W6 W6 c sb gx gr (X3 c sb kb gl gk1 ge1 gk2 ge2 cnt) (setD (z.set 1 0) d0) ⟨s.wt, s.cl, []⟩) := hid ⟨hTE, hX3, by rw [← hdr, setD_self HZ1.out]; exact hx6, HC46.out.keep HV.out.r (fun e => e), Chg.refl _ _⟩;have HTE := hid hTE;have HX6 := hid hx6;have hrg := dir_range HZ1.out hx6;rw [hdr] at hrg;have HRG := hid hrg;have HDL := hid hdl;have HD0 := hid hd0;have HV2 : Hid (w.heap.size ≤ gx ∧ w.heap.size ≤ gr ∧ w.heap.size ≤ sb) := hid ⟨HV.out.n1, HV.out.n2, HV.out.n3⟩;clear K1 K2 K3 hXB hX2 hX3 hL6 hTE hx6 hrg hdl hdr hd0 b3 b4 hc6 B1 B2 HC5 HC46 HV
 go_wp2_with (first
  | (refine load_mid 49 _ rfl gx 4 rfl _ _ HRG.out undArr rfl (by rw [szArr, List.length_map, HDL.out]) (by rfl) ?_)
  | fail)
 clear HRG hzi
 have HDT : Hid (∀ k, (goK (blockF c.N c.M cnt) d0 ⟨s.wt, s.cl, []⟩ k).2.sp.length ≤ k) := hid (fun k => by
  have := goK_le (D := 1) (blockF_le c.N c.M cnt) d0 ⟨s.wt, s.cl, []⟩ k
  simp at this
  exact this)
 have HDP : Hid (∀ k, k < 12 → 0 ≤ d0.getD k 0 ∧ d0.getD k 0 ≤ 4294967295) := hid (fun k hk => by
  have := HP.out (4 + k) (by omega) (by omega);rw [HD0.out, List.getD_eq_getElem?_getD, List.getElem?_take, if_pos hk, List.getElem?_drop, ← List.getD_eq_getElem?_getD]
  exact this)
 go_loopw [29] (fun i wr => ∃ j : Nat, j ≤ 12 ∧ i = .int .i64 j ∧ Hid (TL W6 wr c sb gx gr (X3 c sb kb gl gk1 ge1 gk2 ge2 cnt) (setD (z.set 1 0) (goK (blockF c.N c.M cnt) d0 ⟨s.wt, s.cl, []⟩ j).1) (goK (blockF c.N c.M cnt) d0 ⟨s.wt, s.cl, []⟩ j).2)) (fun i _ => 12 - (intOf i).toNat)
 case atStart => exact ⟨0, by omega, rfl, G0⟩
 case round =>
  clear G0;obtain ⟨j, hj, rfl, HGj⟩ := hrel;have HS : Hid (goK (blockF c.N c.M cnt) d0 ⟨s.wt, s.cl, []⟩ (j + 1) = ((goK (blockF c.N c.M cnt) d0 ⟨s.wt, s.cl, []⟩ j).1.set j (leftF (blockF c.N c.M cnt (goK (blockF c.N c.M cnt) d0 ⟨s.wt, s.cl, []⟩ j).2 j (d0.getD j 0)).1 (d0.getD j 0)), (blockF c.N c.M cnt (goK (blockF c.N c.M cnt) d0 ⟨s.wt, s.cl, []⟩ j).2 j (d0.getD j 0)).2)) := hid rfl;have HLe := hid (HDT.out j);have HLn : Hid ((goK (blockF c.N c.M cnt) d0 ⟨s.wt, s.cl, []⟩ j).1.length = 12) := hid (by rw [goK_len]; exact HDL.out)
  by_cases hj12 : j < 12
  ·have a0 : (0 : Int) ≤ (j : Int) := by omega
   have a1 : (j : Int) < 12 := by omega
   have hix := index_arr d0 j HDL.out hj12;unfold NA at hix;obtain ⟨n0, n1⟩ := HDP.out j hj12;have hLF := left_any HK1.out (goK (blockF c.N c.M cnt) d0 ⟨s.wt, s.cl, []⟩ j).2 j (d0.getD j 0) wr HGj.out.t HGj.out.x.1 (by omega) (by omega) n0 n1 (by have := HLe.out; omega)
   generalize goK (blockF c.N c.M cnt) d0 ⟨s.wt, s.cl, []⟩ j = r at *
   generalize d0.getD j 0 = x at *
   generalize blockF c.N c.M cnt r.2 j x = q at *
   clear n0 n1
   go_upto_region 12 with (first
    | (go_at_call 83; go_must (refine hLF.mono ?_; rintro e w4 ⟨rfl, hT4, hc4⟩; have hg4 := HGj.out.t.stay HGj.out.g (by decide) (by decide) (by decide) hc4; have hc := row_cell hg4 (4 + j) (by rw [setD_len HZ1.out HLn.out]; omega); have hf := row_free hg4 (4 + j); have HT4 := hid hT4; clear hg4))
    | fail)
   have HN2 : Hid (TL W6 (w4.setCell ⟨gx, 4 + j, none⟩ (.int .i64 (leftF q.1 x))) c sb gx gr (X3 c sb kb gl gk1 ge1 gk2 ge2 cnt) (setD (z.set 1 0) (goK (blockF c.N c.M cnt) d0 ⟨s.wt, s.cl, []⟩ (j + 1)).1) (goK (blockF c.N c.M cnt) d0 ⟨s.wt, s.cl, []⟩ (j + 1)).2) := hid (by
    rw [HS.out, ← setD_set HZ1.out HLn.out j hj12]
    exact HGj.out.next HK3.out.st HN.out HBg.out.1 HT4.out hc4 rfl)
   generalize (w4.setCell ⟨gx, 4 + j, none⟩ (.int .i64 (leftF q.1 x))) = w5 at *
   clear hc hf HT4 hT4 hc4 HGj HS hLF hix
   go_wp2_with fail
   exact ⟨⟨j + 1, by omega, by go_num, HN2⟩, by simp [intOf]; omega⟩
  ·have a1 : ¬ ((j : Int) < 12) := by omega
   obtain rfl : j = 12 := by omega
   have HDir : Hid (goK (blockF c.N c.M cnt) d0 ⟨s.wt, s.cl, []⟩ 12 = dirT c.N c.M z s.wt s.cl) := hid (by unfold dirT; rw [HCC.out, HD0.out]);have HSl := hid (sinT_le c.N c.M z s.wt s.cl);have HDl := hid (dblT_le c.N c.M z s.wt s.cl);have HDo := hid (dblT_ok c.N c.M z s.wt s.cl);have HSi : Hid (sinT c.N c.M z s.wt s.cl = singleF c.N c.M cnt (dirT c.N c.M z s.wt s.cl).2 12 (z.getD 16 0)) := hid (by unfold sinT; rw [HCC.out]);have HDb : Hid (dblT c.N c.M z s.wt s.cl = doubleF c.N c.M cnt (sinT c.N c.M z s.wt s.cl).2 44 (z.getD 17 0)) := hid (by unfold dblT; rw [HCC.out]);have HIn : Hid (inoT c.N c.M z s.wt s.cl = ((setD (z.set 1 0) (dirT c.N c.M z s.wt s.cl).1).set 16 (leftF (sinT c.N c.M z s.wt s.cl).1 (z.getD 16 0))).set 17 (leftF (dblT c.N c.M z s.wt s.cl).1 (z.getD 17 0))) := hid (by rw [inoT_is HZ.out (by rw [← HDir.out]; exact HLn.out)]; rfl);have HTk : Hid (takeL c.N c.M z s = if z.getD 0 0 = 2 then ⟨(dblT c.N c.M z s.wt s.cl).2.wt, (dblT c.N c.M z s.wt s.cl).2.cl, s.wp, s.tk, s.q ++ [(dblT c.N c.M z s.wt s.cl).2.sp.map Prod.snd]⟩ else ⟨wipeW (z.getD 2 0) (dblT c.N c.M z s.wt s.cl).2.sp (dblT c.N c.M z s.wt s.cl).2.wt, (dblT c.N c.M z s.wt s.cl).2.cl, wipeP (z.getD 2 0) (dblT c.N c.M z s.wt s.cl).2.sp s.wp, s.tk, s.q⟩) := hid rfl
   have HZs : Hid (∀ j, (j < 4 ∨ 16 ≤ j) → j ≠ 1 → (setD (z.set 1 0) (dirT c.N c.M z s.wt s.cl).1).getD j 0 = z.getD j 0) := hid (fun j hj hj1 => by
    have e : (z.set 1 0).getD j 0 = z.getD j 0 := by rw [List.getD_eq_getElem?_getD, List.getElem?_set_ne (by omega), ← List.getD_eq_getElem?_getD]
    rcases hj with hj | hj
    ·rw [setD_lo HZ1.out j hj, e]
    ·rw [setD_hi HZ1.out (by rw [← HDir.out]; exact HLn.out) j hj, e])
   have HLx : Hid ((setD (z.set 1 0) (dirT c.N c.M z s.wt s.cl).1).length = 18) := hid (setD_len HZ1.out (by rw [← HDir.out]; exact HLn.out));have HLe2 := hid HLe.out;rw [HDir.out] at HGj HLe2;obtain ⟨p0, p1⟩ := HP.out 16 (by omega) (by omega);obtain ⟨r0, r1⟩ := HP.out 17 (by omega) (by omega);have hLS := left_any HK2.out (dirT c.N c.M z s.wt s.cl).2 12 (z.getD 16 0) wr HGj.out.t HGj.out.x.2.2.2 (by omega) (by omega) p0 p1 (by have := HLe2.out; omega);rw [← HSi.out] at hLS;have c16 := row_cell HGj.out.g 16 (by rw [HLx.out]; decide);rw [HZs.out 16 (.inr (by omega)) (by decide)] at c16
   generalize dirT c.N c.M z s.wt s.cl = r at *
   generalize hqs : sinT c.N c.M z s.wt s.cl = q1 at *
   have HQS := hid hqs;clear hqs HS HLe HLn HDir HDT HDP HSi;obtain ⟨S1, hS1⟩ : ∃ y, y = z.getD 16 0 := ⟨_, rfl⟩;rw [← hS1] at hLS c16 p0 p1;have HS1 := hid hS1;clear hS1
   go_upto_region 14 with (first
    | (go_at_call 83; go_must (refine hLS.mono ?_; rintro e w4 ⟨rfl, hT4, hc4⟩; have hg4 := HGj.out.t.stay HGj.out.g (by decide) (by decide) (by decide) hc4; have hc := row_cell hg4 16 (by rw [HLx.out]; decide); have hf := row_free hg4 16; have HT4 := hid hT4; have HC4 := hid hc4; clear hg4 hT4 hc4))
    | fail)
   have G2 : Hid (TL W6 (w4.setCell ⟨gx, 16, none⟩ (.int .i64 (leftF q1.1 S1))) c sb gx gr (X3 c sb kb gl gk1 ge1 gk2 ge2 cnt) ((setD (z.set 1 0) r.1).set 16 (leftF q1.1 S1)) q1.2) := hid (HGj.out.next HK3.out.st HN.out HBg.out.1 HT4.out HC4.out rfl)
   generalize (w4.setCell ⟨gx, 16, none⟩ (.int .i64 (leftF q1.1 S1))) = w5 at *
   clear hc hf HT4 HC4 HGj hLS c16;have hLD := left_any HK3.out q1.2 44 (z.getD 17 0) w5 G2.out.t G2.out.x (by omega) (by omega) r0 r1 (by have := HSl.out; omega);rw [← HDb.out] at hLD;have c17 := row_cell G2.out.g 17 (by rw [List.length_set, HLx.out]; decide);rw [List.getD_eq_getElem?_getD, List.getElem?_set_ne (by decide), ← List.getD_eq_getElem?_getD, HZs.out 17 (.inr (by omega)) (by decide)] at c17
   generalize dblT c.N c.M z s.wt s.cl = q2 at *
   obtain ⟨S2, hS2⟩ : ∃ y, y = z.getD 17 0 := ⟨_, rfl⟩;rw [← hS2] at hLD c17 r0 r1;have HS2 := hid hS2;clear hS2 HDb
   go_upto_region 15 with (first
    | (go_at_call 83; go_must (refine hLD.mono ?_; rintro e w6 ⟨rfl, hT4, hc4⟩; have hg4 := G2.out.t.stay G2.out.g (by decide) (by decide) (by decide) hc4; have hc := row_cell hg4 17 (by rw [List.length_set, HLx.out]; decide); have hf := row_free hg4 17; have HT4 := hid hT4; have HC4 := hid hc4; clear hg4 hT4 hc4))
    | fail)
   have G3 : Hid (TL W6 (w6.setCell ⟨gx, 17, none⟩ (.int .i64 (leftF q2.1 S2))) c sb gx gr (X3 c sb kb gl gk1 ge1 gk2 ge2 cnt) (inoT c.N c.M z s.wt s.cl) q2.2) := hid (by
    rw [HIn.out, ← HS1.out, ← HS2.out]
    exact G2.out.next HK3.out.st HN.out HBg.out.1 HT4.out HC4.out rfl)
   generalize (w6.setCell ⟨gx, 17, none⟩ (.int .i64 (leftF q2.1 S2))) = w7 at *
   clear hc hf HT4 HC4 G2 hLD c17;have HIl : Hid ((inoT c.N c.M z s.wt s.cl).length = 18) := hid (by rw [HIn.out, List.length_set, List.length_set]; exact HLx.out)
   have HIg : Hid (∀ j, j < 4 → j ≠ 1 → (inoT c.N c.M z s.wt s.cl).getD j 0 = z.getD j 0) := hid (fun j hj hj1 => by
    rw [HIn.out, List.getD_eq_getElem?_getD, List.getElem?_set_ne (by omega), List.getElem?_set_ne (by omega), ← List.getD_eq_getElem?_getD]
    exact HZs.out j (.inl hj) hj1)
   have k0 := row_cell G3.out.g 0 (by rw [HIl.out]; decide);rw [HIg.out 0 (by decide) (by decide)] at k0;have k2 := row_cell G3.out.g 2 (by rw [HIl.out]; decide);rw [HIg.out 2 (by decide) (by decide), ← HZ2.out] at k2;obtain ⟨vs, hvs, hos⟩ := G3.out.t.sp;obtain ⟨sa, sc, rfl, hsp⟩ := spAt_of hos;have ks : w7.cell? ⟨sb, 0, none⟩ = some (.slice sa q2.2.sp.length sc) := Box.cell hvs;have kl : w7.cell? ⟨gl, 0, none⟩ = some (.pointer (some ⟨c.b.p, 0, none⟩)) := G3.out.x.1.2.cell;have HL7 := hid (HL6.out.throughX HTE.out HX6.out G3.out.c G3.out.t);have HK7 := hid (kx_kl G3.out.c HC06.out HV2.out.2.2 HV2.out.1);have HSP := hid hsp;have HVS := hid hvs;have HBl := hid G3.out.x.1.2;obtain ⟨zf, hzf⟩ : ∃ y, y = inoT c.N c.M z s.wt s.cl := ⟨_, rfl⟩;have HZF := hid hzf;rw [← hzf] at G3 HIl;clear hzf HIg HIn;obtain ⟨K0, hK0⟩ : ∃ y, y = z.getD 0 0 := ⟨_, rfl⟩;rw [← hK0] at k0 HTk;clear hvs hos hsp hK0
   by_cases hkd : K0 = 2
   ·have HT2 := hid (HTk.out.trans (if_pos hkd))
    have hkb : (K0 == 2) = true := by simpa using hkd
    clear HTk
    go_upto_region 16 with fail
    refine wp_region_noPanic ?_;refine wp_region_held_drew (S := fun w' => Box w' gl (LP c) 47 ∧ w'.cell? ⟨c.b.p, 7, none⟩ = some (.func (.func 73) #[] #[.pointer (some ⟨c.b.qb, 0, none⟩)]) ∧ w'.heap[sb]? = some (.cells #[.slice sa q2.2.sp.length sc] 111 (0, 0))) (by kernel_rfl) ⟨HBl.out, HL7.out.v.p.c7, HVS.out⟩ (fun hH => ?_);refine tV 0 54 (.pointer (some ⟨c.b.p, 0, none⟩)) rfl (by kernel_rfl) rfl (by rfl) hH (fun W' hw' => by have hc := hw'.1.cell; unfold LP at hc; go_simp) ?_;simp only [sS];refine tV 1 55 (.pointer (some ⟨c.b.p, 0, none⟩)) rfl (by kernel_rfl) rfl (by rfl) hH (fun W' hw' => by go_simp) ?_;simp only [sS];refine tV 2 56 (.pointer (some ⟨c.b.p, 7, none⟩)) rfl (by kernel_rfl) rfl (by rfl) hH (fun W' hw' => by go_simp) ?_;simp only [sS];refine tV 3 57 (.func (.func 73) #[] #[.pointer (some ⟨c.b.qb, 0, none⟩)]) rfl (by kernel_rfl) rfl (by rfl) hH (fun W' hw' => by have hc := hw'.2.1; go_simp) ?_;simp only [sS];refine tV 4 58 (.slice sa q2.2.sp.length sc) rfl (by kernel_rfl) rfl (by rfl) hH (fun W' hw' => by have hc : W'.cell? ⟨sb, 0, none⟩ = some (.slice sa q2.2.sp.length sc) := Box.cell hw'.2.2; go_simp) ?_;simp only [sS];have hSO := sectorsOf_any q2.2.sp sa sc w7.drew (HSP.out.call (Chg.refl w7 No).drew) (by have := HDl.out; omega);refine step1 5 (by kernel_rfl) ?_;refine stCall 5 59 84 #[.slice sa q2.2.sp.length sc] _ rfl rfl (by rfl) (by go_simp) hSO ?_
    rintro e w8 ⟨a8, c8, rfl, hL8, hc8⟩
    have hc78 : Chg w7 w8 No := ((Chg.refl w7 No).drew).trans hc8 (fun _ _ e => e) (fun _ _ e => e);have hI8 := HL7.out.call hc78;have h8 := And.intro (HBl.out.call hc78) (And.intro hI8.v.p.c7 (hc78.keep HVS.out (fun e => e)));refine ⟨_, rfl, h8, ?_⟩;simp only [sS];have hFI := fill_any c.B c.b.qb s.q a8 c8 (q2.2.sp.map Prod.snd) w8 hI8.q hL8 hq;rw [List.length_map] at hFI;refine step1 6 (by kernel_rfl) ?_;refine stCall 6 60 73 #[.slice a8 q2.2.sp.length c8, .pointer (some ⟨c.b.qb, 0, none⟩)] _ rfl rfl (by rfl) (by go_simp) hFI ?_
    rintro e w9 ⟨rfl, hQ9, hc9⟩
    obtain ⟨hL9, hK9⟩ := hI8.queued hQ9 hc9;have h9 := And.intro (hc9.keep h8.1 (fun e => hI8.not h8.1 (by decide) (by decide) (by decide) (by decide) (kq_kl hI8 e))) (And.intro hL9.v.p.c7 (hc9.keep h8.2.2 (fun e => hI8.not h8.2.2 (by decide) (by decide) (by decide) (by decide) (kq_kl hI8 e))));refine ⟨_, rfl, h9, ?_⟩;simp only [sS];refine wpAnyH_done (by kernel_rfl) ?_ _;refine NoPanic.normal ?_;have HLF := hL9;have HCF := kl_trans HK7.out (kl_trans (kl_no hc78) hK9);have HF := hid (And.intro HLF HCF);have hgx : w9.heap[gx]? = some (.cells (NA zf) 51 (0, 0)) := hc9.keep (hc78.keep G3.out.g (fun e => e)) (fun e => hI8.not (hc78.keep G3.out.g (fun e => e)) (by decide) (by decide) (by decide) (by decide) (kq_kl hI8 e));have hgr : w9.heap[gr]? = some (.cells (NA Zi) 51 (0, 0)) := hc9.keep (hc78.keep G3.out.r (fun e => e)) (fun e => hI8.not (hc78.keep G3.out.r (fun e => e)) (by decide) (by decide) (by decide) (by decide) (kq_kl hI8 e));have HGX := hid hgx;have HGR := hid hgr;clear h9 h8 hL9 hK9 hI8 hc78 hc8 hL8 hQ9 hc9 hH hSO hFI hgx hgr HLF HCF
    go_wp2_with (first
     | (refine load_R rfl 51 _ rfl gx rfl 51 (NA zf) _ HGX.out Tryz.underlying51 rfl (by rw [szI, NA_size, HIl.out]) ?_)
     | (refine store_R rfl 51 _ _ rfl gr (NA zf) rfl rfl 51 _ HGR.out (by rw [szI, NA_size, HIl.out]) (by rw [NA_size, NA_size, Zi_len, HIl.out]) (NA_one _) ?_; intro w11 hw11)
     | fail)
    have hcf : Chg w9 w11 (· = gr) := kt_new hw11;refine bodyPost_ret (v := .agg (NA zf)) (results_R1 Tryz.results44 _ _ gr _ 51 _ Tryz.underlying51 rfl (by rw [szI, NA_size, HIl.out]) rfl hw11.here) rfl ⟨by rw [HZF.out], ?_, ?_⟩
    ·rw [HT2.out]
     exact HF.out.1.aside HGR.out (by decide) (by decide) (by decide) (by decide) (by decide) (by decide) (by have := HV2.out; have := HH.out.v.p.b0; have := HH.out.v.k.wt.lt; omega) hcf
    ·exact HF.out.2.trans hcf (fun _ _ e => e) (fun j hj e => by have := HV2.out; omega)
   ·have HT2 := hid (HTk.out.trans (if_neg hkd))
    have hkb : (K0 == 2) = false := by simpa using hkd
    have HWI := hid (wipe_any2 Z2 q2.2.sp sa sc w7 HL7.out.v HSP.out h0 h1 (by have := HDl.out; omega) HDo.out);clear HTk;unfold LP at HWI
    go_upto_region 18 with (first
     | (go_at_call 85; go_must (refine HWI.out.mono ?_; rintro e w8 ⟨rfl, hV8, hc8⟩))
     | fail)
    obtain ⟨HLF, hK8⟩ := HL7.out.wipes hV8 hc8;rw [HZ2.out] at HLF;have HCF := kl_trans HK7.out hK8
    have hnw : ∀ {g : Nat} {A : Array Value} {f : Nat × Nat}, w7.heap[g]? = some (.cells A 51 f) → ¬ (g = c.b.wb ∨ g = c.b.vb) := fun hg e => HL7.out.not hg (by decide) (by decide) (by decide) (by decide) (e.elim (fun e => ⟨e ▸ HL7.out.v.p.b0, .inl e⟩) (fun e => ⟨e ▸ HL7.out.v.p.b2, .inr (.inr (.inl e))⟩))
    have HF := hid (And.intro HLF HCF);have hgx : w8.heap[gx]? = some (.cells (NA zf) 51 (0, 0)) := hc8.keep G3.out.g (hnw G3.out.g);have hgr : w8.heap[gr]? = some (.cells (NA Zi) 51 (0, 0)) := hc8.keep G3.out.r (hnw G3.out.r);have HGX := hid hgx;have HGR := hid hgr;clear hV8 hc8 hK8 hnw hgx hgr HLF HCF
    go_wp2_with (first
     | (refine load_R rfl 51 _ rfl gx rfl 51 (NA zf) _ HGX.out Tryz.underlying51 rfl (by rw [szI, NA_size, HIl.out]) ?_)
     | (refine store_R rfl 51 _ _ rfl gr (NA zf) rfl rfl 51 _ HGR.out (by rw [szI, NA_size, HIl.out]) (by rw [NA_size, NA_size, Zi_len, HIl.out]) (NA_one _) ?_; intro w11 hw11)
     | fail)
    have hcf : Chg w8 w11 (· = gr) := kt_new hw11;refine bodyPost_ret (v := .agg (NA zf)) (results_R1 Tryz.results44 _ _ gr _ 51 _ Tryz.underlying51 rfl (by rw [szI, NA_size, HIl.out]) rfl hw11.here) rfl ⟨by rw [HZF.out], ?_, ?_⟩
    ·rw [HT2.out]
     exact HF.out.1.aside HGR.out (by decide) (by decide) (by decide) (by decide) (by decide) (by decide) (by have := HV2.out; have := HH.out.v.p.b0; have := HH.out.v.k.wt.lt; omega) hcf
    ·exact HF.out.2.trans hcf (fun _ _ e => e) (fun j hj e => by have := HV2.out; omega)

end Go.Proofs.YtpmignilhoihnaaGreat
