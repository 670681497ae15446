/-
 The document's directory, walked.
-/
import Derived.Test.YtpmignilhoihnaaGreatOK1
namespace Go.Proofs.YtpmignilhoihnaaGreat
open Go.RowKit Go.Shelf

section
variable {ops : Array Oper} {Q : Exit → Act → World → Prop} {S : World → Prop} {fuel : Nat} {listed : Array Bool} {a : Act} {w : World}
theorem stPutK (i : Nat) (w' : World) {o : Oper} (hop : ops[i]? = some o) (hd : o.dst = none) (hw : Region.wanted o (yielded ops a.tmps) = true)
  (hrun : (execOp a.eval o).run Tryz.prog w = .ok .skip w')
  (h : S w' ∧ wpAnyH Tryz.prog .any ops Q S fuel (listed.setIfInBounds i true) a w') : St ops Q S fuel listed a w i := by
 refine wpOp_step hop (fun K hK => ?_);rw [if_pos hw];unfold Oper.wp;rw [hrun];refine hK _ _ ⟨h.1, ?_⟩;unfold Act.put;rw [hd]
 exact h.2
theorem takeIno (i d : Nat) (x : Operand) (g off : Nat) (z : List Int) (hz : z.length = 18) {o : Oper} (hop : ops[i]? = some o) (hs : Region.noSelect ops = true) (hf : Region.free .any ops listed i = true) (hr : (Region.ready .any ops listed).contains i = true)
  (hd : o.dst = some d) (ho : o.op = .load 51 x) (hx : a.eval x = .pointer (some ⟨g, off, none⟩)) (hw : Region.wanted o (yielded ops a.tmps) = true) (hQ : ∀ c a w, ¬ Q (.panic c) a w) (hS : S w)
  (hg : ∀ w, S w → w.rangeAt g off (z.map (Value.int .i64)))
  (h : wpAnyH Tryz.prog .any ops Q S fuel (listed.setIfInBounds i true) { a with tmps := a.tmps.setIfInBounds d (.agg (NA z)) } w) : wpAnyH Tryz.prog .any ops Q S (fuel + 1) listed a w := by
 refine takeVal i d _ hop hs hf hr hd hw hQ hS (fun w hw' => ?_) h;have hl := run_loadVar_mid w g off 51 (z.map (Value.int .i64)) _ (hg w hw') Tryz.underlying51 rfl (by rw [szI, List.length_map, hz])
 have e : (z.map (Value.int .i64)).toArray = NA z := by simp [NA]
 rw [e] at hl;unfold execOp
 simp only [ho, hx, Instr.loadAt, Instr.sureAddr, Sem.run_bind, Sem.run_pure, Result.andThen_ok, hl]
end
def KC2 (c : KC) (b : Nat) : Prop := b = c.p ∨ b = c.g ∨ b = c.cb ∨ b = c.tb ∨ b = c.ib ∨ b = c.eb ∨ c.B ≤ b
theorem SOwn.keep {w w' : World} {B : Nat} {v : Value} {l : List Sp9} {ks : Nat → Prop} (h : SOwn w B v l) (hc : Chg w w' ks) (hn : ∀ k, v.ownBlock = some k → ¬ ks k) : SOwn w' B v l := by
 refine ⟨h.1, ?_⟩
 rcases h.2 with k | ⟨g, cap, cur, rfl, hb, hg, r⟩
 ·exact .inl k
 ·exact .inr ⟨g, cap, cur, rfl, hb, hc.keep hg (hn g rfl), r⟩
theorem SOwn.blk {w : World} {B : Nat} {v : Value} {l : List Sp9} (h : SOwn w B v l) {k : Nat} (e : v.ownBlock = some k) : B ≤ k ∧ ∃ A, w.heap[k]? = some (.cells A 116 (0, 0)) := by
 rcases h.2 with ⟨rfl, _⟩ | ⟨g, cap, cur, rfl, hb, hg, _⟩
 ·cases e
 ·have : g = k := by simpa [Value.ownBlock] using e
  subst this
  exact ⟨hb, cur, hg⟩
theorem SOwn.shape {w : World} {B : Nat} {v : Value} {l : List Sp9} (h : SOwn w B v l) : ∃ a c, v = .slice a l.length c := by
 rcases h.2 with ⟨e, e2⟩ | ⟨g, cap, cur, e, _⟩
 ·exact ⟨none, 0, by rw [e, e2]⟩
 ·exact ⟨_, _, e⟩

theorem flatS_sec : ∀ (l : List Sp9) (j : Nat), j < l.length → (flatS l)[j * 2 + 1]? = some (.int .i64 (l.getD j ⟨0, 0, 0⟩).sec)
 | [], j, h => absurd h (Nat.not_lt_zero _)
 | x :: l, 0, _ => rfl
 | x :: l, j + 1, h => by
  have ih := flatS_sec l j (by simpa using h)
  show ([Value.int .i64 x.idx, .int .i64 x.sec] ++ flatS l)[(j + 1) * 2 + 1]? = _
  rw [show (j + 1) * 2 + 1 = (j * 2 + 1) + 2 by omega, List.getElem?_append_right (by simp)]
  simpa using ih
theorem SOwn.sec {w : World} {B : Nat} {a : Option Addr} {n c : Nat} {l : List Sp9} (h : SOwn w B (.slice a n c) l) {j : Nat} (hj : j < l.length) : ∃ g, a = some ⟨g, 0, none⟩ ∧ w.cell? ⟨g, j * 2 + 1, none⟩ = some (.int .i64 (l.getD j ⟨0, 0, 0⟩).sec) := by
 rcases h.2 with ⟨e, e2⟩ | ⟨g, cap, cur, e, hb, hg, r⟩
 ·omega
 ·injection e with e1 e3 e4
  refine ⟨g, e1, ?_⟩;subst e1 e3 e4;have := World.ownsRow.cells h (g := g) rfl (j * 2 + 1) _ (flatS_sec l j hj)
  have hadd : (⟨g, 0, none⟩ : Addr).add (j * 2 + 1) = ⟨g, j * 2 + 1, none⟩ := by unfold Addr.add; split <;> simp_all
  rw [hadd] at this
  exact this
theorem dirK_snoc (N M : Int) (im : Img) (n : Int) : ∀ (l : List Int) (r : List ByteArray × LS), dirK N M im (l ++ [n]) r = slotL N M im n (dirK N M im l r)
 | [], _ => rfl
 | _ :: l, _ => dirK_snoc N M im n l _
theorem dirK_take (N M : Int) (im : Img) {l : List Int} {j : Nat} (hj : j < l.length) (r : List ByteArray × LS) : dirK N M im (l.take (j + 1)) r = slotL N M im (l.getD j 0) (dirK N M im (l.take j) r) := by
 rw [← dirK_snoc, List.take_add_one, List.getD_eq_getElem?_getD, List.getElem?_eq_getElem hj]
 rfl
def DW (w wr : World) (c : KC) (vs : Value) (L : List Sp9) (pre l : List Int) (s : LS) (j : Nat) (vn : Value) : Prop :=
 ∃ k' nms ds', IsK wr c k' ∧ DS c.N c.M c.im pre l j k' nms (dirK c.N c.M c.im (l.take j) ([], s)) ds' ∧ TOwn wr w.heap.size vn nms ∧ SOwn wr w.heap.size vs L ∧ Chg w wr (KC2 c)
theorem own_aside {w w' : World} {c : KC} {k : KT} {B : Nat} {vn vs : Value} {nms : List ByteArray} {L : List Sp9} {ks : Nat → Prop} (hk : IsK w c k) (hT : TOwn w B vn nms) (hS : SOwn w B vs L) (hc : Chg w w' ks) (hks : ∀ b, ks b → b = c.p ∨ b = c.g ∨ b = c.cb ∨ b = c.tb ∨ b = c.ib ∨ b = c.eb ∨ k.v.ownBlock = some b) : TOwn w' B vn nms ∧ SOwn w' B vs L := by
 obtain ⟨A1, e1⟩ := hk.wt.isRow;obtain ⟨A2, e2, _⟩ := hk.cl;obtain ⟨A3, e3, _⟩ := hk.tk;obtain ⟨A4, e4, _⟩ := hk.inn;obtain ⟨A5, e5, _⟩ := hk.en
 have hall : ∀ b, ks b → ∃ A t, w.heap[b]? = some (.cells A t (0, 0)) ∧ t ≠ 9 ∧ t ≠ 116 := fun b hb => by
  rcases hks b hb with rfl | rfl | rfl | rfl | rfl | rfl | e
  ·exact ⟨_, _, hk.me, by decide, by decide⟩
  ·exact ⟨_, _, e1, by decide, by decide⟩
  ·exact ⟨_, _, e2, by decide, by decide⟩
  ·exact ⟨_, _, e3, by decide, by decide⟩
  ·exact ⟨_, _, e4, by decide, by decide⟩
  ·exact ⟨_, _, e5, by decide, by decide⟩
  ·obtain ⟨_, A, hA⟩ := hk.row.blk e
   exact ⟨_, _, hA, by decide, by decide⟩
 refine ⟨hT.keep hc fun b e hb => ?_, hS.keep hc fun b e hb => ?_⟩
 ·obtain ⟨A, t, h1, h2, _⟩ := hall b hb
  obtain ⟨_, A', h3⟩ := hT.blk e;rw [h1] at h3
  cases h3
  exact h2 rfl
 ·obtain ⟨A, t, h1, _, h2⟩ := hall b hb
  obtain ⟨_, A', h3⟩ := hS.blk e;rw [h1] at h3
  cases h3
  exact h2 rfl
theorem slot_rng (s : List Int) : 0 ≤ (slotOf s).1 ∧ (slotOf s).1 ≤ 512 := by
 unfold slotOf rdSlot
 split
 ·rename_i e
  exact ⟨(slot_bd e.2.1).1, (slot_bd e.2.1).2.1⟩
 ·exact ⟨by decide, by decide⟩
theorem IsK.names {w w' : World} {c : KC} {k : KT} {B : Nat} {vn : Value} {nms : List ByteArray} (h : IsK w c k) (hT : TOwn w B vn nms) (hB : c.B ≤ B) (hc : Chg w w' (fun b => vn.ownBlock = some b)) : IsK w' c k := by
 cases e : vn.ownBlock with
 | none => exact h.call (hc.mono fun b _ hb => by rw [e] at hb; cases hb)
 | some b =>
  obtain ⟨hb, A, hA⟩ := hT.blk e
  exact h.aside hA (by decide) (by decide) (by decide) (by decide) (by decide) (fun k hk e2 => by have := (h.d3 k hk).2.2.2.2.2.2; omega) (hc.mono fun b' _ hb' => by rw [e] at hb'; exact (Option.some.inj hb').symm)
theorem entry_rng {M : Nat} {im : Img} {s : LS} {n : Int} {b : Bool} (h : isEntryB M im s n b = true) (ho : ∀ i : Int, s.tk i ≠ none → 1 ≤ i ∧ i ≤ M) : 1 ≤ n ∧ n ≤ M := by
 have hm := mayE_of h;unfold MayE at hm
 cases ht : s.tk n with
 | some z => exact ho n (by rw [ht]; intro e; cases e)
 | none =>
  rw [ht] at hm;have := sound_parts hm
  exact ⟨this.1, this.2.1⟩
theorem entry_en {N M : Nat} {im : Img} {pre l ds : List Int} {j : Nat} {k : KT} {nms : List ByteArray} {r : List ByteArray × LS} (h : DS N M im pre l j k nms r ds) {n : Nat} {b : Bool} (hn : n ≤ M) (he : isEntryB M im r.2 (n : Int) b = true) : 0 ≤ k.en (n : Int) ∧ k.en (n : Int) ≤ 99 := by
 have hm := mayE_of he;unfold MayE at hm
 cases ht : r.2.tk (n : Int) with
 | some z =>
  rw [ht] at hm;have hz := h.kl.ino n z ht
  have e1 : z.getD 1 0 = k.en (n : Int) := by rw [hz, getD_set_eq (by rw [h.i18]; omega)]
  obtain ⟨h1, _, h3, h4, _⟩ := h.iv.tk _ z ht
  have h0 : z.getD 0 0 ≠ 0 := by rw [h4]; exact (sound_parts h1).2.2.2.1
  have := ((inoB_parts h0 h3).1 1 (by omega)).1;have hm : z.getD 1 0 < 100 := hm
  omega
 | none => rw [h.kl.un n hn ht]; exact ⟨by decide, by decide⟩
theorem zero_slotK (w : World) : (zeroValue 83).run Tryz.prog w = .ok (.agg #[.int .i64 0, .string ⟨#[]⟩]) w := by kernel_rfl

set_option maxHeartbeats 4000000 in
set_option maxRecDepth 100000 in
theorem directory_k {c : KC} {k : KT} {s : LS} {pre ds : List Int} (i : Nat) (l : List Int) (w : World) (h : IsK w c k) (hB : c.B ≤ w.heap.size) (i2 : i ≤ c.M) (hd : DS c.N c.M c.im pre l 0 k [] ([], s) ds) (hl : l = (spI k.wt (k.ino i)).map Prod.snd) (htab : ∀ q ∈ tabsZ k.wt (k.ino i), 0 ≤ q ∧ q < k.wt.length) :
  Calls Tryz.prog 30 #[.pointer (some ⟨c.p, 0, none⟩), .int .i64 (i : Int)] w fun e w' => e = .returned (.tuple #[]) ∧ (∃ k', IsK w' c k' ∧ ∃ nms ds', DS c.N c.M c.im pre l l.length k' nms (dirK c.N c.M c.im l ([], s)) ds') ∧ Chg w w' (KC2 c) := by
 obtain ⟨L, hL1, hL2⟩ := spots_in (h.i18 i) htab
 have HLn : Hid (L.length = l.length ∧ ∀ j, j < l.length → (L.getD j ⟨0, 0, 0⟩).sec = l.getD j 0) := hid (by
  have h1 : L.map Sp9.sec = l := by rw [hl, ← hL2, List.map_map]; rfl
  refine ⟨by rw [← h1, List.length_map], fun j hj => ?_⟩;rw [← h1, List.length_map] at hj;rw [← h1, List.getD_eq_getElem?_getD, List.getD_eq_getElem?_getD, List.getElem?_map, List.getElem?_eq_getElem hj]
  rfl)
 have HD0 := hid hd
 have HLb : Hid (l.length ≤ 4096) := hid (by
  have hn := hd.iv.nod;have hr := hd.iv.raw;rw [List.drop_zero] at hn hr
  have h1 := nodup_m c.N l (List.nodup_append.1 hn).1 (fun x hx => by
   have := hr x (List.mem_append_left _ hx)
   omega)
  have := h.n2
  omega)
 have HB := hid hB
 have i0 : (0 : Int) ≤ (i : Int) := by omega
 have i3 : (i : Int) < ((c.M + 1 : Nat) : Int) := by omega
 have i4 : (i : Int) < (c.M : Int) + 1 := by omega
 have HK : Hid (∀ W, Chg w W No → IsK W c k) := hid (fun W hW => h.call hW);have HZl := hid (h.i18 i);obtain ⟨zi, hzi⟩ : ∃ y, y = k.ino i := ⟨_, rfl⟩
 have HRg : Hid (∀ W, Chg w W No → W.rangeAt c.ib (i * 18) (zi.map (Value.int .i64))) := hid (fun W hW => by
  rw [hzi]
  exact (h.call hW).inn.range (by omega) (h.i18 i))
 rw [← hzi] at HZl hL1;have HSr : Hid (∀ W, Chg w W No → Calls Tryz.prog 58 #[.pointer (some ⟨c.p, 0, none⟩)] W fun e w' => e = .returned (.agg (srcV (some ⟨c.g, 0, none⟩) c.wc ⟨k.wt, -1, 0⟩)) ∧ Chg W w' No) := hid (fun W hW => source_any W (h.call hW))
 have HSp : Hid (∀ W, Chg w W No → Calls Tryz.prog 59 #[.agg (srcV (some ⟨c.g, 0, none⟩) c.wc ⟨k.wt, -1, 0⟩), .agg (NA zi)] W fun e w' => ∃ v, e = .returned (.tuple #[v, .int .i64 0]) ∧ SOwn w' w.heap.size v L ∧ Chg W w' No) := hid (fun W hW => by
  have hi := ImgAt.of_wt (h.call hW).wt;refine (rSpots_any (some ⟨c.g, 0, none⟩) c.wc ⟨k.wt, -1, 0⟩ zi W HZl.out hi).mono ?_
  rintro e w' ⟨v, rfl, h2, hb⟩
  rw [hL1] at h2 ⊢;refine ⟨v, rfl, ?_, Chg.of_below hb No⟩;refine ⟨h2.1, ?_⟩
  rcases h2.2 with e | ⟨g, cap, cur, e1, hbb, r⟩
  ·exact .inl e
  ·exact .inr ⟨g, cap, cur, e1, Nat.le_trans hW.size hbb, r⟩)
 obtain ⟨SV, hSV⟩ : ∃ y, y = srcV (some ⟨c.g, 0, none⟩) c.wc ⟨k.wt, -1, 0⟩ := ⟨_, rfl⟩;rw [← hSV] at HSr HSp;have HN2 := hid h.n2;clear h hd hB hl htab hL1 hL2 hzi hSV
 go_enter Tryz.func30, Tryz.ntmps30
 go_upto_region 0 with fail
 refine wp_region_noPanic ?_;refine wp_region_held_drew (S := fun w' => Chg w w' No) (by kernel_rfl) (Chg.refl _ _).drew (fun hH => ?_);refine tV 0 14 (.pointer (some ⟨c.p, 0, none⟩)) rfl (by kernel_rfl) rfl (by rfl) hH (fun W' hw' => rfl) ?_;simp only [sS];refine tV 2 16 (.pointer (some ⟨c.p, 0, none⟩)) rfl (by kernel_rfl) rfl (by rfl) hH (fun W' hw' => rfl) ?_;simp only [sS];refine tV 3 17 (.pointer (some ⟨c.p, 0, none⟩)) rfl (by kernel_rfl) rfl (by rfl) hH (fun W' hw' => by go_simp) ?_;simp only [sS];refine tV 4 18 (.pointer (some ⟨c.p, 6, none⟩)) rfl (by kernel_rfl) rfl (by rfl) hH (fun W' hw' => by go_simp) ?_;simp only [sS];refine tV 5 19 (.slice (some ⟨c.ib, 0, none⟩) (c.M + 1) (c.M + 1)) rfl (by kernel_rfl) rfl (by rfl) hH (fun W' hw' => by have hc := (HK.out W' hw').cN6; go_simp) ?_;simp only [sS];refine tV 6 20 (.int .i64 (i : Int)) rfl (by kernel_rfl) rfl (by rfl) hH (fun W' hw' => rfl) ?_;simp only [sS];refine tV 7 21 (.pointer (some ⟨c.ib, i * 18, none⟩)) rfl (by kernel_rfl) rfl (by rfl) hH (fun W' hw' => by go_simp) ?_;simp only [sS];refine takeIno 8 22 (.tmp 21) c.ib (i * 18) zi HZl.out rfl (by kernel_rfl) (by kernel_rfl) (by kernel_rfl) rfl rfl rfl (by rfl) (fun _ _ _ h => h) hH (fun _ hw' => HRg.out _ hw') ?_;simp only [sS];refine step1 1 (by kernel_rfl) ?_;refine stCall 1 15 58 #[.pointer (some ⟨c.p, 0, none⟩)] _ rfl rfl (by rfl) (by go_simp) (HSr.out _ hH) ?_
 rintro e w1 ⟨rfl, hb1⟩
 have hH1 : Chg w w1 No := hH.trans hb1 (fun _ _ e => e) (fun _ _ e => e);refine ⟨_, rfl, hH1, ?_⟩;simp only [sS];refine step1 9 (by kernel_rfl) ?_;refine stCall 9 23 59 #[.agg SV, .agg (NA zi)] _ rfl rfl (by rfl) (by go_simp) (HSp.out _ hH1) ?_
 rintro e w2 ⟨vs, rfl, hS2, hb2⟩
 have hH2 : Chg w w2 No := hH1.trans hb2 (fun _ _ e => e) (fun _ _ e => e);refine ⟨_, rfl, hH2, ?_⟩;simp only [sS];refine tV 10 13 (.tuple #[vs, .int .i64 0]) rfl (by kernel_rfl) rfl (by rfl) hH2 (fun W' hw' => rfl) ?_;simp only [sS];refine tV 11 24 (vs) rfl (by kernel_rfl) rfl (by rfl) hH2 (fun W' hw' => rfl) ?_;simp only [sS];refine tV 12 25 (.int .i64 0) rfl (by kernel_rfl) rfl (by rfl) hH2 (fun W' hw' => rfl) ?_;simp only [sS];refine tV 13 4 (vs) rfl (by kernel_rfl) rfl (by rfl) hH2 (fun W' hw' => rfl) ?_;simp only [sS];refine tV 14 5 (.int .i64 0) rfl (by kernel_rfl) rfl (by rfl) hH2 (fun W' hw' => rfl) ?_;simp only [sS];refine wpAnyH_done (by kernel_rfl) ?_ _;refine NoPanic.normal ?_;have HS2 := hid hS2;have HC2 := hid hH2;have HK2 := hid (HK.out w2 hH2);obtain ⟨sa, sc, hvs⟩ := hS2.shape;clear hS2 hH2 hH1 hb1 hb2 hH HSr HSp HRg HK;have G0 : Hid (DW w w2 c vs L pre l s 0 (.slice none 0 0)) := hid ⟨k, [], ds, HK2.out, HD0.out, TOwn.nil _ _, HS2.out, HC2.out.mono fun _ _ e => e.elim⟩;clear HS2 HC2 HK2 HD0;subst hvs;have HzS := hid zero_slotK
 go_wp2_with fail
 go_loopw [6, 7] (fun x6 x7 wr => ∃ j : Nat, j ≤ l.length ∧ x7 = .int .i64 j ∧ Hid (DW w wr c (.slice sa L.length sc) L pre l s j x6)) (fun _ x7 _ => l.length - (intOf x7).toNat)
 case atStart => exact ⟨0, by omega, rfl, G0⟩
 case round =>
  obtain ⟨j, hj, rfl, HW⟩ := hrel;clear G0;obtain ⟨k1, nms, ds1, hk1, hds, hT, hS, hc⟩ := HW.out;have hLl := HLn.out.1
  by_cases hlt : j < l.length
  ·have j0 : (0 : Int) ≤ (j : Int) := by omega
   have j1 : (j : Int) < (L.length : Int) := by omega
   have j2 : j < L.length := by omega
   have jb : (j : Int) ≤ 4096 := by have := HLb.out; omega
   clear hLl;obtain ⟨na, nc, rfl⟩ := hT.shape;obtain ⟨gS, hsa, q5⟩ := hS.sec (j := j) j2;rw [HLn.out.2 j hlt] at q5;obtain ⟨m, hm⟩ : ∃ m : Nat, l.getD j 0 = (m : Int) := ⟨(l.getD j 0).toNat, by have := (hds.at_ hlt).1; omega⟩
   have hmN : m < c.N := by have := (hds.at_ hlt).2; omega
   have hmM : c.M < m := by have := (hds.at_ hlt).1; omega
   rw [hm] at q5;have HT := hid hT;have HS := hid hS;have HC := hid hc;have HK1 := hid hk1;have HDS := hid hds;have c3 := hk1.cW
   have k0 : (0 : Int) ≤ (m : Int) := by omega
   have k1_ : (m : Int) < (c.N : Int) := by omega
   have HRd := hid (hk1.wt.range (k := m) (by rw [hk1.wl]; exact hmN));have hsec := hk1.wt.sec (m : Int);have HSl := hid hsec.1
   have hRS := fun W => rslot_c (secI k1.wt (m : Int)) hsec W
   have HRS := hid hRS;obtain ⟨r, hr⟩ : ∃ y, y = dirK c.N c.M c.im (l.take j) ([], s) := ⟨_, rfl⟩;rw [← hr] at HDS;have HRe : Hid (dirK c.N c.M c.im (l.take (j + 1)) ([], s) = slotL c.N c.M c.im (l.getD j 0) r) := hid (by rw [hr]; exact dirK_take _ _ _ hlt _);have hwt : k1.wt = r.2.wt := HDS.out.kl.wt;obtain ⟨x, hx⟩ : ∃ y, y = slotOf (secI k1.wt (m : Int)) := ⟨_, rfl⟩;have HX : Hid (slotOf (secI r.2.wt (l.getD j 0)) = x) := hid (by rw [hx, hm, hwt]);have HXr : Hid (0 ≤ x.1 ∧ x.1 ≤ 512) := hid (by rw [hx]; exact slot_rng _);rw [← hx] at HRS;obtain ⟨sk, hsk⟩ : ∃ y, y = secI k1.wt (m : Int) := ⟨_, rfl⟩;rw [← hsk] at HRd HSl HRS;obtain ⟨xi, xn, xe⟩ := x;subst hsa;have HM := hid hm;clear hT hS hc hk1 hds hRS hsec HW hwt hx hsk hr hm;have hzs := HzS.out
   go_upto_region 7 with (first
    | (refine load_mid 33 _ rfl c.g (m * 128) rfl _ _ HRd.out Tryz.underlying33 rfl (by rw [sz26, List.length_map, HSl.out]) (by rfl) ?_)
    | (go_at_call 60; go_must (refine (HRS.out _).mono ?_; rintro e w3 ⟨rfl, hc3⟩))
    | fail)
   obtain ⟨w4, hw4⟩ : ∃ y, y = w3.alloc (.cells #[.int .i64 xi, .string xn] 83) := ⟨_, rfl⟩;have hn4 := heap_alloc_new w3 (.cells #[.int .i64 xi, .string xn] 83)
   have hch4 : Chg wr w4 No := by rw [hw4]; exact hc3.trans (Chg.alloc w3 _ No) (fun _ _ e => e) (fun _ _ e => e)
   obtain ⟨gs, hgs⟩ : ∃ y, y = w3.heap.size := ⟨_, rfl⟩;rw [← hw4, ← hgs] at hn4;have HK4 : Hid (∀ W, Chg w4 W No → IsK W c k1) := hid (fun W hW => HK1.out.call (hch4.trans hW (fun _ _ e => e) (fun _ _ e => e)));have HT4 : Hid (∀ W, Chg w4 W No → TOwn W w.heap.size (.slice na nms.length nc) nms ∧ SOwn W w.heap.size (.slice (some ⟨gS, 0, none⟩) L.length sc) L) := hid (fun W hW => ⟨HT.out.keep (hch4.trans hW (c := No) (fun _ _ e => e) (fun _ _ e => e)) (fun _ _ e => e), HS.out.keep (hch4.trans hW (c := No) (fun _ _ e => e) (fun _ _ e => e)) (fun _ _ e => e)⟩);have HC4 : Hid (∀ W, Chg w4 W No → Chg w W (KC2 c)) := hid (fun W hW => HC.out.trans (hch4.trans hW (c := No) (fun _ _ e => e) (fun _ _ e => e)) (fun _ _ e => e) (fun _ _ e => e.elim));have HSc : Hid (∀ W, Chg w4 W No → W.cell? ⟨gs, 0, none⟩ = some (.int .i64 xi) ∧ W.heap[gs]? = some (.cells (SLA xi xn) 83 (0, 0))) := hid (fun W hW => ⟨(cell_of_row _ _ _ _ _ _ (hW.keep hn4 (fun e => e))).trans rfl, hW.keep hn4 (fun e => e)⟩)
   -- a slot that is wiped
   have HWp : Hid (¬ (xe = 0 ∧ xi = 0) → ¬ (xe = 0 ∧ isEntryB c.M c.im r.2 xi (hasN r.1 xn) = true) → ∀ W W', Chg w4 W No → WtAt W' c.g (k1.wt.set m Zs) → Chg W W' (· = c.g) → DW w W' c (.slice (some ⟨gS, 0, none⟩) L.length sc) L pre l s (j + 1) (.slice na nms.length nc)) := hid (fun e1 e2 W W' hW hwt hcw => by
    have hkW := HK4.out W hW;obtain ⟨t1, t2⟩ := own_aside hkW (HT4.out W hW).1 (HT4.out W hW).2 hcw (fun b hb => .inr (.inl hb));have hd2 := HDS.out.wipe hlt (by rw [HX.out]; exact e1) (by rw [HX.out]; exact e2);rw [← HRe.out, HM.out, Int.toNat_natCast] at hd2
    exact ⟨_, nms, ds1, hkW.setW hwt (by rw [List.length_set]; exact hkW.wl) hcw, hd2, t1, t2, (HC4.out W hW).trans hcw (fun _ _ e => e) (fun _ _ e => .inr (.inl e))⟩)
   have hq0 := (HSc.out w4 (Chg.refl _ _)).1;have HWl : Hid (m < k1.wt.length) := hid (by rw [HK1.out.wl]; exact hmN)
   have hbz : ∀ W, (Instr.build 33 #[]).run Tryz.prog W = .ok (.agg (SA Zs)) W := fun W => by kernel_rfl
   rw [← hw4, ← hgs];clear hw4 hgs hn4 hch4 hc3 q5 HRd HSl HRS hzs c3
   by_cases he : xe = 0
   ·subst he
    by_cases hx0 : xi = 0
    ·subst hx0
     have HNx : Hid (DW w w4 c (.slice (some ⟨gS, 0, none⟩) L.length sc) L pre l s (j + 1) (.slice na nms.length nc)) := hid (by
      have hd2 := HDS.out.free hlt (by rw [HX.out]) (by rw [HX.out]);rw [← HRe.out] at hd2
      exact ⟨k1, nms, ds1, HK4.out w4 (Chg.refl _ _), hd2, (HT4.out w4 (Chg.refl _ _)).1, (HT4.out w4 (Chg.refl _ _)).2, HC4.out w4 (Chg.refl _ _)⟩)
     clear hbz HWp
     go_wp2_with fail
     exact ⟨⟨j + 1, by omega, by go_num, HNx⟩, by simp [intOf]; omega⟩
    ·have hxb : (xi == 0) = false := beq_eq_false_iff_ne.2 hx0
     have hxc : decide (xi = 0) = false := decide_eq_false hx0;have x0 := HXr.out.1;have x1 := HXr.out.2;have HNl : Hid (nms.length ≤ 1000000) := hid (by have := HDS.out.nl; have := HLb.out; omega);have HIe := hid (risEntry_any xi xn na nc nms w4 (HK4.out w4 (Chg.refl _ _)) (HT4.out w4 (Chg.refl _ _)).1 x0 (by have : xi ≤ 512 := x1; omega) HNl.out);have HEe : Hid (eB c.M c.im k1 xi (hasN nms xn) = isEntryB c.M c.im r.2 xi (hasN r.1 xn)) := hid (by rw [HDS.out.kl.entry HDS.out.i18 c.im x0, HDS.out.nm]);rw [HEe.out] at HIe
     have HRs : Hid (w4.rangeAt gs 0 [.int .i64 xi, .string xn]) := hid (by
      intro q v hv
      have hrow := (HSc.out w4 (Chg.refl _ _)).2
      match q, hv with
      | 0, hv => simp at hv; subst hv; exact (cell_of_row _ _ _ _ _ _ hrow).trans rfl
      | 1, hv => simp at hv; subst hv; exact (cell_of_row _ _ _ _ _ _ hrow).trans rfl)
     obtain ⟨b, hb⟩ : ∃ y, y = isEntryB c.M c.im r.2 xi (hasN r.1 xn) := ⟨_, rfl⟩;have HBb := hid hb;rw [← hb] at HIe;clear HEe hb
     cases b with
     | false =>
      have HWq := hid (HWp.out (fun e => hx0 e.2) (fun e => by rw [← HBb.out] at e; exact Bool.false_ne_true e.2));have HCW : Hid (∀ W, Chg w4 W No → W.cell? ⟨c.p, 3, none⟩ = some (.slice (some ⟨c.g, 0, none⟩) c.N c.wc) ∧ WtAt W c.g k1.wt) := hid (fun W hW => ⟨(HK4.out W hW).cW, (HK4.out W hW).wt⟩);clear HWp hx0
      go_wp2_with (first
       | (refine load_mid 83 _ rfl gs 0 rfl _ _ HRs.out Tryz.underlying83 rfl (by kernel_rfl) (by first | rfl | go_simp) ?_)
       | (go_at_call 61; go_must (refine HIe.out.mono ?_; rintro e w5 ⟨rfl, hc5⟩; obtain ⟨c35, hw5⟩ := HCW.out w5 hc5))
       | (refine store_wt rfl _ _ rfl c.g m rfl Zs rfl Zs_sec k1.wt hw5 HWl.out ?_; intro w6 hw6 hc6 hz6; have HN6 := hid (HWq.out w5 w6 hc5 hw6 hc6); clear hw6 hc6 hz6)
       | fail)
      exact ⟨⟨j + 1, by omega, by go_num, HN6⟩, by simp [intOf]; omega⟩
     | true =>
      have x0' : 0 ≤ xi := x0;obtain ⟨n, hn⟩ : ∃ n : Nat, xi = (n : Int) := ⟨xi.toNat, by omega⟩;subst hn;have hnr := entry_rng HBb.out.symm HDS.out.kl.out
      have n1 : 1 ≤ n := by omega
      have n2 : n ≤ c.M := by omega
      have HEn := hid (entry_en HDS.out n2 HBb.out.symm)
      have HAp : Hid (∀ W, Chg w4 W No → (TOwn (W.alloc (.cells #[.string xn] 9)) w.heap.size (.slice na nms.length nc) nms ∧ (W.alloc (.cells #[.string xn] 9)).cell? ⟨W.heap.size, 0, none⟩ = some (.string xn) ∧ w.heap.size ≤ (W.alloc (.cells #[.string xn] 9)).heap.size) ∧ ∀ v' w', TOwn w' w.heap.size v' (nms ++ [xn]) → Chg (W.alloc (.cells #[.string xn] 9)) w' (fun b => (Value.ownBlock (.slice na nms.length nc)) = some b) → IsK w' c k1 ∧ SOwn w' w.heap.size (.slice (some ⟨gS, 0, none⟩) L.length sc) L ∧ w'.heap[gs]? = some (.cells (SLA (n : Int) xn) 83 (0, 0)) ∧ Chg w w' (KC2 c)) := hid (fun W hW => by
       have hA := Chg.alloc W (.cells #[.string xn] 9) No;have hWA : Chg w4 (W.alloc (.cells #[.string xn] 9)) No := hW.trans hA (fun _ _ e => e) (fun _ _ e => e);have hT := (HT4.out _ hWA).1;have hS := (HT4.out _ hWA).2;have hK := HK4.out _ hWA;have hcw := HC4.out _ hWA;have hrow := (HSc.out _ hWA).2;refine ⟨⟨hT, (cell_of_row _ _ _ _ _ _ (heap_alloc_new W (.cells #[.string xn] 9))).trans rfl, hcw.size⟩, fun v' w' h1 h2 => ⟨hK.names hT HB.out h2, hS.keep h2 fun b e hb => ?_, h2.keep hrow (fun hb => ?_), hcw.trans h2 (fun _ _ e => e) (fun b _ hb => ?_)⟩⟩
       ·obtain ⟨_, A, h3⟩ := hS.blk e
        obtain ⟨_, A', h4⟩ := hT.blk hb;rw [h3] at h4
        cases h4
       ·obtain ⟨_, A', h4⟩ := hT.blk hb
        rw [hrow] at h4
        cases h4
       ·have := (hT.blk hb).1
        have := HB.out
        exact .inr (.inr (.inr (.inr (.inr (.inr (by omega)))))))
      have HSn : Hid (∀ W, Chg w4 W No → W.cell? ⟨gs, 1, none⟩ = some (.string xn)) := hid (fun W hW => (cell_of_row _ _ _ _ _ _ (HSc.out W hW).2).trans rfl);have HLn2 : Hid (nms.length ≤ 1000000000000) := hid (by have := HNl.out; omega);clear HWp hbz
      go_upto_region 11 with (first
       | (refine load_mid 83 _ rfl gs 0 rfl _ _ HRs.out Tryz.underlying83 rfl (by kernel_rfl) (by first | rfl | go_simp) ?_)
       | (go_at_call 61; go_must (refine HIe.out.mono ?_; rintro e w5 ⟨rfl, hc5⟩; have q51 := HSn.out w5 hc5; obtain ⟨⟨hT5, e5, hs5⟩, hA5⟩ := HAp.out w5 hc5; have HT5 := hid hT5; have HA5 := hid hA5; clear hT5 hA5))
       | (at_builtin; go_must (refine wp_appT rfl _ _ rfl w.heap.size w5.heap.size 1 _ nms xn rfl rfl HT5.out e5 HLn2.out hs5 ?_; intro v6 w6 hT6 hc6; have H6 := hid (HA5.out v6 w6 hT6 hc6); have HT6 := hid hT6; clear hT6 hc6 e5 q51 hs5))
       | fail)
      clear HT5 HA5 HAp HIe HRs HSn hc5 HSc HT4 HC4 HK4 hq0
      have n0 : (0 : Int) ≤ (n : Int) := by omega
      have n3 : (n : Int) < ((c.M + 1 : Nat) : Int) := by omega
      have n4 : (n : Int) < (c.M : Int) + 1 := by omega
      obtain ⟨en, hen⟩ : ∃ y, y = k1.en (n : Int) := ⟨_, rfl⟩;have HEe := hid hen
      have e0 : 0 ≤ en := by rw [hen]; exact HEn.out.1
      have e1 : en ≤ 99 := by rw [hen]; exact HEn.out.2
      have wE : IntKind.i64.wrap (en + 1) = en + 1 := by rw [IntKind.wrap_i64] <;> omega
      have HP6 : Hid (∀ W', Chg w6 W' (· = c.eb) → W'.cell? ⟨c.p, 7, none⟩ = some (.slice (some ⟨c.eb, 0, none⟩) (c.M + 1) (c.M + 1)) ∧ W'.heap[gs]? = some (.cells (SLA (n : Int) xn) 83 (0, 0))) := hid (fun W' hW => by
       obtain ⟨A5, q5, _⟩ := H6.out.1.en
       exact ⟨(cell_of_row _ _ _ _ _ _ (hW.keep H6.out.1.me H6.out.1.ne.2.2.2.2.1)).trans rfl, hW.keep H6.out.2.2.1 (obj_ne H6.out.2.2.1 q5 (by intro e; cases e))⟩)
      have HK6 : Hid (IsK w6.drew c k1) := hid (H6.out.1.call ((Chg.refl w6 No).drew));have HCe : Hid (w6.drew.cell? ⟨c.eb, n, none⟩ = some (.int .i64 en) ∧ w6.drew.frozen? ⟨c.eb, n, none⟩ = false) := hid (by rw [hen]; exact HK6.out.en.cell (by omega));clear hen;refine wp_region_noPanic ?_;refine wp_region_held_drew (S := fun w' => Chg w6 w' (· = c.eb)) (by kernel_rfl) (Chg.refl _ _).drew (fun hH => ?_);refine tV 0 76 (.pointer (some ⟨c.p, 0, none⟩)) rfl (by kernel_rfl) rfl (by rfl) hH (fun W' hw' => rfl) ?_;simp only [sS];refine tV 1 77 (.pointer (some ⟨c.p, 0, none⟩)) rfl (by kernel_rfl) rfl (by rfl) hH (fun W' hw' => by go_simp) ?_;simp only [sS];refine tV 2 78 (.pointer (some ⟨c.p, 7, none⟩)) rfl (by kernel_rfl) rfl (by rfl) hH (fun W' hw' => by go_simp) ?_;simp only [sS];refine tV 3 79 (.slice (some ⟨c.eb, 0, none⟩) (c.M + 1) (c.M + 1)) rfl (by kernel_rfl) rfl (by rfl) hH (fun W' hw' => by have hc := (HP6.out W' hw').1; go_simp) ?_;simp only [sS];refine tV 4 80 (.pointer (some ⟨gs, 0, none⟩)) rfl (by kernel_rfl) rfl (by rfl) hH (fun W' hw' => by go_simp) ?_;simp only [sS];refine tV 5 81 (.int .i64 (n : Int)) rfl (by kernel_rfl) rfl (by rfl) hH (fun W' hw' => by have hc : W'.cell? ⟨gs, 0, none⟩ = some (.int .i64 (n : Int)) := (cell_of_row _ _ _ _ _ _ (HP6.out W' hw').2).trans rfl; go_simp) ?_;simp only [sS];refine tV 6 82 (.pointer (some ⟨c.eb, n, none⟩)) rfl (by kernel_rfl) rfl (by rfl) hH (fun W' hw' => by go_simp) ?_;simp only [sS];refine step1 7 (by kernel_rfl) ?_;refine stVal 7 83 (.int .i64 en) rfl rfl (by rfl) (by have hc := HCe.out.1; go_simp) hH ?_;simp only [sS]
      refine tV 8 84 (.int .i64 (en + 1)) rfl (by kernel_rfl) rfl (by rfl) hH (fun W' hw' => by go_simp <;> exact wE) ?_
      simp only [sS];refine tV 9 85 (.pointer (some ⟨c.eb, n, none⟩)) rfl (by kernel_rfl) rfl (by rfl) hH (fun W' hw' => by go_simp) ?_;simp only [sS];refine step1 10 (by kernel_rfl) ?_;refine stPutK 10 (w6.drew.setCell ⟨c.eb, n, none⟩ (.int .i64 (en + 1))) rfl rfl (by rfl) (by have hc := HCe.out.1; have hf := HCe.out.2; go_simp) ?_;have hS7 : Chg w6 (w6.drew.setCell ⟨c.eb, n, none⟩ (.int .i64 (en + 1))) (· = c.eb) := ((Chg.refl w6 _).drew).trans Chg.setCell (fun _ _ e => e) (fun _ _ e => e);have hK7 := HK6.out.setE (k := n) (by omega) (en + 1);obtain ⟨w7, hw7⟩ : ∃ y, y = w6.drew.setCell ⟨c.eb, n, none⟩ (.int .i64 (en + 1)) := ⟨_, rfl⟩;rw [← hw7] at hS7 hK7 ⊢;refine ⟨hS7, ?_⟩;refine wpAnyH_done (by kernel_rfl) ?_ _;refine NoPanic.normal ?_;have HG7 : Hid (w7.heap[gs]? = some (.cells (SLA (n : Int) xn) 83 (0, 0))) := hid (HP6.out w7 hS7).2;have HTS7 := hid (own_aside H6.out.1 HT6.out H6.out.2.1 hS7 (fun b hb => .inr (.inr (.inr (.inr (.inr (.inl hb)))))));have HC7 : Hid (Chg w w7 (KC2 c)) := hid (H6.out.2.2.2.trans hS7 (fun _ _ e => e) (fun _ _ hb => .inr (.inr (.inr (.inr (.inr (.inl hb)))))));obtain ⟨k2, hk2⟩ : ∃ y : KT, y = { k1 with en := putI k1.en (n : Int) (k1.en (n : Int) + 1) } := ⟨_, rfl⟩;have HK2 := hid hk2;have HK7 : Hid (IsK w7 c k2) := hid (by rw [hk2, ← HEe.out]; exact hK7);clear hw7 hS7 hK7 hH HP6 HK6 HCe H6 HT6 hk2 wE e0 e1
      have HS12 : Hid (∀ W', Chg w7 W' No → W'.cell? ⟨c.p, 5, none⟩ = some (.slice (some ⟨c.tb, 0, none⟩) (c.M + 1) (c.M + 1)) ∧ W'.cell? ⟨gs, 0, none⟩ = some (.int .i64 (n : Int)) ∧ W'.cell? ⟨c.tb, n, none⟩ = some (.bool (k1.tk (n : Int)))) := hid (fun W' hW => by
       have hk := HK7.out.call hW;have ht := (hk.tk.cell (k := n) (by omega)).1;rw [HK2.out] at ht
       exact ⟨hk.cT, (cell_of_row _ _ _ _ _ _ (hW.keep HG7.out (fun e => e))).trans rfl, ht⟩)
      go_upto_region 12 with fail
      obtain ⟨tb_, htb⟩ : ∃ y, y = k1.tk (n : Int) := ⟨_, rfl⟩;have HTb := hid htb;rw [← htb] at HS12;clear htb;refine wp_region_noPanic ?_;refine wp_region_held_drew (S := fun w' => Chg w7 w' No) (by kernel_rfl) (Chg.refl _ _).drew (fun hH => ?_);refine tV 0 86 (.pointer (some ⟨c.p, 0, none⟩)) rfl (by kernel_rfl) rfl (by rfl) hH (fun W' hw' => rfl) ?_;simp only [sS];refine tV 1 87 (.pointer (some ⟨c.p, 0, none⟩)) rfl (by kernel_rfl) rfl (by rfl) hH (fun W' hw' => by go_simp) ?_;simp only [sS];refine tV 2 88 (.pointer (some ⟨c.p, 5, none⟩)) rfl (by kernel_rfl) rfl (by rfl) hH (fun W' hw' => by go_simp) ?_;simp only [sS];refine tV 3 89 (.slice (some ⟨c.tb, 0, none⟩) (c.M + 1) (c.M + 1)) rfl (by kernel_rfl) rfl (by rfl) hH (fun W' hw' => by have hc := (HS12.out W' hw').1; go_simp) ?_;simp only [sS];refine tV 4 90 (.pointer (some ⟨gs, 0, none⟩)) rfl (by kernel_rfl) rfl (by rfl) hH (fun W' hw' => by go_simp) ?_;simp only [sS];refine tV 5 91 (.int .i64 (n : Int)) rfl (by kernel_rfl) rfl (by rfl) hH (fun W' hw' => by have hc := (HS12.out W' hw').2.1; go_simp) ?_;simp only [sS];refine tV 6 92 (.pointer (some ⟨c.tb, n, none⟩)) rfl (by kernel_rfl) rfl (by rfl) hH (fun W' hw' => by go_simp) ?_;simp only [sS];refine tV 7 93 (.bool tb_) rfl (by kernel_rfl) rfl (by rfl) hH (fun W' hw' => by have hc := (HS12.out W' hw').2.2; go_simp) ?_;simp only [sS];refine tV 8 94 (.bool (!tb_)) rfl (by kernel_rfl) rfl (by rfl) hH (fun W' hw' => by go_simp) ?_;simp only [sS];refine wpAnyH_done (by kernel_rfl) ?_ _;refine NoPanic.normal ?_;obtain ⟨w8, hw8⟩ : ∃ y, y = w7.drew := ⟨_, rfl⟩
      have hc8 : Chg w7 w8 No := by rw [hw8]; exact (Chg.refl w7 No).drew
      rw [← hw8];clear hw8 hH;have HC8 := hid hc8;have HTk : Hid (tb_ = (r.2.tk (n : Int)).isSome) := hid (by rw [HTb.out]; exact HDS.out.kl.tk n n2);have HXa : Hid ((slotOf (secI r.2.wt (l.getD j 0))).1 = (n : Int) ∧ (slotOf (secI r.2.wt (l.getD j 0))).2.2 = 0 ∧ (slotOf (secI r.2.wt (l.getD j 0))).2.1 = xn) := hid (by rw [HX.out]; exact ⟨rfl, rfl, rfl⟩)
      cases tb_ with
      | true =>
       have HNx : Hid (DW w w8 c (.slice (some ⟨gS, 0, none⟩) L.length sc) L pre l s (j + 1) v6) := hid (by
        have hd2 := HDS.out.old hlt HXa.out.1 HXa.out.2.1 (by omega) (by rw [HXa.out.2.2]; exact HBb.out.symm) (by intro e; have := HTk.out; rw [e] at this; cases this);rw [← HRe.out, HXa.out.2.2, ← HK2.out] at hd2
        exact ⟨k2, _, ds1, HK7.out.call HC8.out, hd2, HTS7.out.1.keep HC8.out (fun _ _ e => e), HTS7.out.2.keep HC8.out (fun _ _ e => e), HC7.out.trans HC8.out (fun _ _ e => e) (fun _ _ e => e.elim)⟩)
       clear hc8
       go_wp2_with fail
       exact ⟨⟨j + 1, by omega, by go_num, HNx⟩, by simp [intOf]; omega⟩
      | false =>
       have HTn : Hid (r.2.tk (n : Int) = none) := hid (by
        have := HTk.out
        cases hq : r.2.tk (n : Int) with
        | none => rfl
        | some z => rw [hq] at this; cases this)
       have HSd : Hid ((soundZ c.M c.im (n : Int)).2 = true) := hid (by
        have := mayE_of HBb.out.symm;unfold MayE at this;rw [HTn.out] at this
        exact this)
       have HSnd := hid (rsound_any (n : Int) w8 (HK7.out.call HC8.out));have HSzl : Hid ((soundZ c.M c.im (n : Int)).1.length = 18) := hid (soundZ_len _ _ _)
       have HSzb : Hid (0 ≤ (soundZ c.M c.im (n : Int)).1.getD 2 0 ∧ (soundZ c.M c.im (n : Int)).1.getD 2 0 ≤ 136704) := hid (by
        obtain ⟨_, _, _, z0, zb, _⟩ := sound_parts HSd.out
        exact (inoB_parts z0 zb).1 2 (by omega))
       have HRw : Hid (k2.row.length ≤ 5000) := hid (by rw [HK2.out]; have := HDS.out.rlen; have := HN2.out; have := HK7.out.m2; show k1.row.length ≤ 5000; omega)
       have HFr : Hid (∀ W W' v', Chg w8 W No → IsK W' c (takeKT c k2 n (soundZ c.M c.im (n : Int)).1 v') → Chg W W' (KBl c k2.v) → DW w W' c (.slice (some ⟨gS, 0, none⟩) L.length sc) L pre l s (j + 1) v6) := hid (fun W W' v' hW hk hcw => by
        have hd2 := HDS.out.fresh hlt (c := c) rfl rfl HXa.out.1 HXa.out.2.1 n1 n2 (by rw [HXa.out.2.2]; exact HBb.out.symm) HTn.out v';rw [← HRe.out, HXa.out.2.2, ← HK2.out] at hd2;have h7W : Chg w7 W No := HC8.out.trans hW (fun _ _ e => e) (fun _ _ e => e);have hkW := HK7.out.call h7W
        obtain ⟨t1, t2⟩ := own_aside hkW (HTS7.out.1.keep h7W (fun _ _ e => e)) (HTS7.out.2.keep h7W (fun _ _ e => e)) hcw (fun b hb => by
         rcases hb with e | e | e | e | e | e
         ·exact .inl e
         ·exact .inr (.inl e)
         ·exact .inr (.inr (.inl e))
         ·exact .inr (.inr (.inr (.inl e)))
         ·exact .inr (.inr (.inr (.inr (.inl e))))
         ·exact .inr (.inr (.inr (.inr (.inr (.inr e))))))
        refine ⟨_, _, _, hk, hd2, t1, t2, (HC7.out.trans h7W (fun _ _ e => e) (fun _ _ e => e.elim)).trans hcw (fun _ _ e => e) (fun b _ hb => ?_)⟩
        rcases hb with e | e | e | e | e | e
        ·exact .inl e
        ·exact .inr (.inl e)
        ·exact .inr (.inr (.inl e))
        ·exact .inr (.inr (.inr (.inl e)))
        ·exact .inr (.inr (.inr (.inr (.inl e))))
        ·exact .inr (.inr (.inr (.inr (.inr (.inr (hkW.row.blk e).1))))))
       have HTks : Hid (∀ W, Chg w8 W No → Calls Tryz.prog 29 #[.pointer (some ⟨c.p, 0, none⟩), .int .i64 (n : Int), .agg (NA (soundZ c.M c.im (n : Int)).1)] W fun e w' => e = .returned (.tuple #[]) ∧ DW w w' c (.slice (some ⟨gS, 0, none⟩) L.length sc) L pre l s (j + 1) v6) := hid (fun W hW => by
        have h7W : Chg w7 W No := HC8.out.trans hW (fun _ _ e => e) (fun _ _ e => e);refine (takes_k n _ W (HK7.out.call h7W) HSzl.out n1 n2 HSzb.out.1 HSzb.out.2 HRw.out (by have h1 := HB.out; have h2 := HC7.out.size; have h3 := h7W.size; omega)).mono ?_
        rintro e w' ⟨rfl, ⟨v', hk'⟩, hc'⟩
        exact ⟨rfl, HFr.out W w' v' hW hk' hc'⟩)
       obtain ⟨sz, hsz⟩ : ∃ y, y = soundZ c.M c.im (n : Int) := ⟨_, rfl⟩;rw [← hsz] at HSnd HSzl HTks;have q80 := (HS12.out w8 HC8.out).2.1;have HG8 : Hid (∀ W, Chg w8 W No → W.cell? ⟨gs, 0, none⟩ = some (.int .i64 (n : Int))) := hid (fun W hW => (HS12.out W (HC8.out.trans hW (fun _ _ e => e) (fun _ _ e => e))).2.1);have hzi := zero_inode;clear hsz HFr HSd HSzb HRw HS12 hc8
       go_wp2_with (first
        | (go_at_call 28; go_must (refine HSnd.out.mono ?_; rintro e w9 ⟨rfl, hc9⟩; have q90 := HG8.out w9 hc9))
        | (refine store_R rfl 51 _ _ rfl w9.heap.size (NA sz.1) rfl rfl 51 _ (heap_alloc_new _ _) (by rw [szI, NA_size, HSzl.out]) (by rw [NA_size, NA_size, Zi_len, HSzl.out]) (NA_one _) ?_; intro w10 hw10; have hc10 : Chg w8 w10 No := (hc9.trans (Chg.alloc w9 _ No) (c := No) (fun _ _ e => e) (fun _ _ e => e)).trans (putR_chg hw10) (fun _ _ e => e) (fun j hj e => by have := hc9.size; omega); have q100 := HG8.out w10 hc10; have HI10 := hid hw10.here; have HTq := hid (HTks.out w10 hc10); clear hw10 hc10)
        | (refine load_R rfl 51 _ rfl w9.heap.size rfl 51 _ _ HI10.out Tryz.underlying51 rfl (by rw [szI, NA_size, HSzl.out]) ?_)
        | (go_at_call 29; go_must (refine HTq.out.mono ?_; rintro e w11 ⟨rfl, hD11⟩; have HD11 := hid hD11; clear hD11))
        | fail)
       exact ⟨⟨j + 1, by omega, by go_num, HD11⟩, by simp [intOf]; omega⟩
   ·have heb : (xe == 0) = false := beq_eq_false_iff_ne.2 he
    have hec : decide (xe = 0) = false := decide_eq_false he
    have hed : (xe != 0) = true := by simpa using he
    have c3 := (HK4.out w4 (Chg.refl _ _)).cW;have HW4 := hid ((HK4.out w4 (Chg.refl _ _)).wt);have HWq := hid (HWp.out (fun e => he e.1) (fun e => he e.1) w4);clear HWp he
    go_wp2_with (first
     | (refine store_wt rfl _ _ rfl c.g m rfl Zs rfl Zs_sec k1.wt HW4.out HWl.out ?_; intro w5 hw5 hc5 hz5; have HN5 := hid (HWq.out w5 (Chg.refl _ _) hw5 hc5); clear hw5 hc5 hz5)
     | fail)
    exact ⟨⟨j + 1, by omega, by go_num, HN5⟩, by simp [intOf]; omega⟩
  ·have j1 : ¬ (j : Int) < (L.length : Int) := by omega
   obtain rfl : j = l.length := by omega
   clear hLl;have HF : Hid (∃ k', IsK wr c k' ∧ ∃ nms ds', DS c.N c.M c.im pre l l.length k' nms (dirK c.N c.M c.im l ([], s)) ds') := hid ⟨k1, hk1, nms, ds1, by rw [List.take_length] at hds; exact hds⟩;have HC := hid hc;clear hk1 hds hT hS hc HW
   go_wp2_with fail
   go_end0
   exact ⟨rfl, HF.out, HC.out⟩
end Go.Proofs.YtpmignilhoihnaaGreat
