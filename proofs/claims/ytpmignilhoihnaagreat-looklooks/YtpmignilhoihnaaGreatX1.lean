/-
 The keys of a map of numbers, sorted by the library.
-/
import Derived.Test.YtpmignilhoihnaaGreatU3
import Derived.Shelf.AbstractIn
import Derived.Shelf.Slices.In.SortNone
namespace Go.Proofs.YtpmignilhoihnaaGreat
open Go.RowKit Go.Shelf

def freeN (M : Nat) (tk : Int → Option (List Int)) : Nat := ((List.range M).filter fun (k : Nat) => (tk ((k : Int) + 1)).isNone).length
theorem freeN_le (M : Nat) (tk : Int → Option (List Int)) : freeN M tk ≤ M := by
 unfold freeN;have := List.length_filter_le (fun (k : Nat) => (tk ((k : Int) + 1)).isNone) (List.range M)
 simpa using this
theorem filter_one {α : Type} [DecidableEq α] (p q : α → Bool) (a : α) : ∀ (l : List α), l.Nodup → a ∈ l → p a = true → q a = false → (∀ x, x ≠ a → q x = p x) → (l.filter q).length + 1 = (l.filter p).length
 | [], _, h, _, _, _ => by cases h
 | x :: l, hn, ha, hp, hq, he => by
  obtain ⟨h1, h2⟩ := List.nodup_cons.1 hn
  by_cases e : x = a
  ·subst e
   rw [List.filter_cons_of_pos hp, List.filter_cons_of_neg (by simp [hq])]
   have : l.filter q = l.filter p := List.filter_congr fun y hy => he y (fun e => h1 (e ▸ hy))
   rw [this]
   rfl
  ·have ha' : a ∈ l := (List.mem_cons.1 ha).resolve_left (fun e' => e e'.symm)
   have ih := filter_one p q a l h2 ha' hp hq he;rw [List.filter_cons, List.filter_cons, he x e]
   split
   ·simp; omega
   ·exact ih
theorem freeN_put {M : Nat} {tk : Int → Option (List Int)} {i : Int} {z : List Int} (h1 : 1 ≤ i) (h2 : i ≤ M) (ht : tk i = none) : freeN M (putT tk i z) + 1 = freeN M tk := by
 unfold freeN;refine filter_one _ _ (i - 1).toNat _ List.nodup_range (List.mem_range.2 (by omega)) ?_ ?_ (fun x hx => ?_)
 ·rw [show (((i - 1).toNat : Nat) : Int) + 1 = i by omega, ht]
  rfl
 ·rw [show (((i - 1).toNat : Nat) : Int) + 1 = i by omega]
  simp [putT]
 ·simp only [putT]
  rw [if_neg (by omega)]
theorem freeN_same {M : Nat} {tk : Int → Option (List Int)} {i : Int} {z y : List Int} (ht : tk i = some y) : freeN M (putT tk i z) = freeN M tk := by
 unfold freeN
 congr 1
 refine List.filter_congr fun x _ => ?_
 simp only [putT]
 split
 ·rename_i e
  rw [e, ht]
  rfl
 ·rfl
structure LOk (c : LC) (s : LS) : Prop where
 tk : TkOk c s.tk
 qd : ∀ l ∈ s.q, ∀ x ∈ l, (c.M : Int) < x ∧ x < c.N
 ql : ∀ l ∈ s.q, l.length ≤ 1068
 fr : s.q.length + freeN c.M s.tk ≤ c.M
theorem takeL_q (N M : Int) (z : List Int) (s : LS) : (takeL N M z s).q = s.q ∨ (takeL N M z s).q = s.q ++ [(dblT N M z s.wt s.cl).2.sp.map Prod.snd] := by
 unfold takeL
 simp only
 split
 ·exact .inr rfl
 ·exact .inl rfl
theorem inoT_links (N M : Int) (z : List Int) (wt : Img) (cl : Int → Bool) : (moreZ (inoT N M z wt cl)).getD 1 0 = 1 := rfl
theorem moreZ_links {z : List Int} (h : 1 < z.length) : (moreZ z).getD 1 0 = z.getD 1 0 + 1 := by
 unfold moreZ;rw [List.getD_eq_getElem?_getD, List.getElem?_set_self (by omega)]
 rfl
def May (c : LC) (s : LS) (i : Int) : Prop := match s.tk i with | some z => z.getD 1 0 ≤ 99 | none => (soundZ c.M c.im i).2 = true
theorem enterL_ok {c : LC} {s : LS} {i : Int} (h : LOk c s) (hi : May c s i) : LOk c (enterL c.N c.M c.im i s) := by
 unfold May at hi;unfold enterL
 cases ht : s.tk i with
 | some z =>
  rw [ht] at hi
  simp only at hi ⊢
  obtain ⟨a1, a2, a3, a4, a5⟩ := h.tk i z ht;refine ⟨fun j y hj => ?_, h.qd, h.ql, by show _ + freeN c.M (putT s.tk i (moreZ z)) ≤ _; rw [freeN_same ht]; exact h.fr⟩
  simp only [putT] at hj
  split at hj
  ·rename_i e
   subst e;have := Option.some.inj hj;subst this;rw [moreZ_len, moreZ_links (by omega)]
   exact ⟨a1, a2, a3, by omega, by omega⟩
  ·exact h.tk j y hj
 | none =>
  rw [ht] at hi
  simp only at hi ⊢
  obtain ⟨b1, b2, _, _⟩ := sound_bd hi;have hfr := freeN_put (z := moreZ (inoT c.N c.M (soundZ c.M c.im i).1 s.wt s.cl)) b1 b2 ht;refine ⟨fun j y hj => ?_, fun l hl => ?_, fun l hl => ?_, ?_⟩
  ·simp only [takeL_tk, putT] at hj
   split at hj
   ·rename_i e
    subst e;have := Option.some.inj hj;subst this;rw [moreZ_len, inoT_len _ _ _ _ _ (soundZ_len _ _ _), inoT_links]
    exact ⟨b1, b2, rfl, by omega, by omega⟩
   ·exact h.tk j y hj
  ·simp only at hl
   rcases takeL_q c.N c.M (soundZ c.M c.im i).1 s with e | e <;> rw [e] at hl
   ·exact h.qd l hl
   ·rcases List.mem_append.1 hl with e1 | e1
    ·exact h.qd l e1
    ·obtain rfl := List.mem_singleton.1 e1
     intro x hx
     obtain ⟨y, hy, rfl⟩ := List.mem_map.1 hx
     exact dblT_ok c.N c.M _ s.wt s.cl y hy
  ·simp only at hl
   rcases takeL_q c.N c.M (soundZ c.M c.im i).1 s with e | e <;> rw [e] at hl
   ·exact h.ql l hl
   ·rcases List.mem_append.1 hl with e1 | e1
    ·exact h.ql l e1
    ·obtain rfl := List.mem_singleton.1 e1
     rw [List.length_map]
     exact dblT_le c.N c.M _ s.wt s.cl
  ·have h0 := h.fr
   simp only [takeL_tk]
   rcases takeL_q c.N c.M (soundZ c.M c.im i).1 s with e | e <;> rw [e]
   ·omega
   ·rw [List.length_append]
    simp only [List.length_singleton]
    omega
theorem may_of {c : LC} {s : LS} {i : Int} {b : Bool} (h : isEntryB c.M c.im s i b = true) : May c s i := by
 unfold isEntryB at h;unfold May
 split at h
 ·cases h
 ·cases ht : s.tk i with
  | some z =>
   rw [ht] at h
   simp at h ⊢
   omega
  | none => rw [ht] at h; exact h
theorem slot_like (s : List Int) : 0 ≤ (slotOf s).1 ∧ (slotOf s).1 ≤ 512 ∧ (slotOf s).2.1.size ≤ 40 := by
 unfold slotOf rdSlot
 split
 ·rename_i h
  exact slot_bd h.2.1
 ·exact ⟨by decide, by decide, by decide⟩
theorem dirK_append (N M : Int) (im : Img) : ∀ (a b : List Int) (r : List ByteArray × LS), dirK N M im (a ++ b) r = dirK N M im b (dirK N M im a r)
 | [], _, _ => rfl
 | x :: a, b, r => dirK_append N M im a b (slotL N M im x r)
theorem slotL_ok {c : LC} {r : List ByteArray × LS} (n : Int) (h : LOk c r.2) : LOk c (slotL c.N c.M c.im n r).2 := by
 unfold slotL
 simp only
 split
 ·exact h
 ·split
  ·rename_i hh
   exact enterL_ok h (may_of hh.2)
  ·exact ⟨h.tk, h.qd, h.ql, h.fr⟩
theorem dirK_ok {c : LC} : ∀ (l : List Int) (r : List ByteArray × LS), LOk c r.2 → LOk c (dirK c.N c.M c.im l r).2
 | [], _, h => h
 | n :: l, _, h => dirK_ok l _ (slotL_ok n h)
theorem slotL_names (N M : Int) (im : Img) (n : Int) (r : List ByteArray × LS) : (slotL N M im n r).1.length ≤ r.1.length + 1 := by
 unfold slotL
 simp only
 split
 ·exact Nat.le_succ _
 ·split
  ·simp
  ·exact Nat.le_succ _
theorem dirK_names (N M : Int) (im : Img) : ∀ (l : List Int) (r : List ByteArray × LS), (dirK N M im l r).1.length ≤ r.1.length + l.length
 | [], _ => Nat.le_refl _
 | n :: l, r => by
  have h1 := dirK_names N M im l (slotL N M im n r);have h2 := slotL_names N M im n r
  simp only [dirK, List.length_cons]
  omega

end Go.Proofs.YtpmignilhoihnaaGreat

namespace Go.Proofs.YtpmignilhoihnaaGreat
open Go.RowKit Go.Shelf

theorem ba_nil (s : ByteArray) : s.toList = [] ↔ s.size = 0 := by
 rw [← size_eq s]
 exact ⟨fun h => by rw [h]; rfl, fun h => List.eq_nil_of_length_eq_zero h⟩
theorem eq_slot0 (n : Int) (s : ByteArray) (w : World) (b : Bool) (hb : b = decide (n = 0 ∧ s.size = 0)) : (Op.equalIn 10000 83 (.agg #[.int .i64 n, .string s]) (.agg #[.int .i64 0, .string ⟨#[]⟩])).run Tryz.prog w = .ok b w := by
 have h := ba_nil s
 by_cases h1 : n = 0
 ·by_cases h2 : s.size = 0
  ·have h3 := h.2 h2
   obtain rfl : b = true := by rw [hb]; simp only [h1, h2, and_self, decide_true]
   clear h hb h2
   go_simp
  ·have h3 : ¬ s.toList = [] := fun e => h2 (h.1 e)
   obtain rfl : b = false := by rw [hb]; exact decide_eq_false (fun e => h2 e.2)
   clear h hb h2
   go_simp
 ·obtain rfl : b = false := by rw [hb]; exact decide_eq_false (fun e => h1 e.1)
  clear h hb
  go_simp
theorem build_slot (w : World) : (Instr.build 83 #[]).run Tryz.prog w = .ok (.agg #[.int .i64 0, .string ⟨#[]⟩]) w := by kernel_rfl
theorem guardL : Tryz.prog.eqGuardType Tryz.prog.depth 83 = false := by kernel_rfl

end Go.Proofs.YtpmignilhoihnaaGreat

namespace Go.Proofs.YtpmignilhoihnaaGreat
open Go.RowKit Go.Shelf

structure DL (w0 w : World) (c : LC) (nb : Nat) (r : List ByteArray × LS) : Prop where
 l : IsL w c r.2
 n : NSet w nb r.1
 c : Chg w0 w (Kl c w0)
theorem NSet.kl {w w' : World} {c : LC} {s : LS} {nb : Nat} {l : List ByteArray} (h : NSet w nb l) (hL : IsL w c s) (h1 : nb ≠ c.b.cb) (h2 : nb ≠ c.b.vb) (h3 : nb ≠ c.b.tb) (hc : Chg w w' (Kl c w)) : NSet w' nb l := by
 obtain ⟨es, ck, hm⟩ := h.isMap;obtain ⟨B, hB⟩ := hL.v.k.wt.isRow;obtain ⟨v, hv⟩ := hL.q.isBox;refine h.keep hc ?_
 rintro ⟨_, e | e | e | e | e | ⟨C, u, e, hu⟩⟩
 ·rw [e, hB] at hm; cases hm
 ·exact h1 e
 ·exact h2 e
 ·exact h3 e
 ·rw [e, hv] at hm; cases hm
 ·rw [hm] at e; cases e
theorem IsL.wants {w w' : World} {c : LC} {s : LS} {wt : Img} (h : IsL w c s) (hw : WtAt w' c.b.wb wt) (hl : wt.length = c.N) (hc : Chg w w' (· = c.b.wb)) : IsL w' c { s with wt := wt } ∧ Chg w w' (Kl c w) := by
 obtain ⟨es, ck, hm⟩ := h.v.k.cl.isMap;obtain ⟨es2, ck2, hm2⟩ := h.v.v.isMap;obtain ⟨es3, ck3, hm3⟩ := h.t.isMap;obtain ⟨B, hB⟩ := h.v.k.wt.isRow;obtain ⟨u, hu⟩ := h.q.isBox
 have ne : ∀ {g : Nat} {x : Obj}, w.heap[g]? = some x → (∀ A, x ≠ .cells A 33 (0, 0)) → ¬ g = c.b.wb := fun hg hn e => by
  rw [e, hB] at hg
  exact hn _ (Option.some.inj hg).symm
 exact ⟨⟨⟨h.v.p.keep hc (ne h.v.p.me (by intro A e; cases e)) (fun k e => e ▸ h.v.p.b0), ⟨hw, hl, h.v.k.cl.keep hc (ne hm (by intro A e; cases e)), h.v.k.ck⟩, h.v.v.keep hc (ne hm2 (by intro A e; cases e)), h.v.vk⟩, h.t.keep hc (ne hm3 (by intro A e; cases e)), h.q.keep hc (ne hu (by intro A e; cases e)) (fun g A hg => ne hg (by intro A e; cases e)) (fun g A hg => ne hg (by intro A e; cases e))⟩, hc.mono fun j _ e => ⟨e ▸ h.v.p.b0, .inl e⟩⟩

theorem IsL.names {w w' : World} {c : LC} {s : LS} {nb : Nat} {l : List ByteArray} (h : IsL w c s) (h1 : nb ≠ c.b.cb) (h2 : nb ≠ c.b.vb) (h3 : nb ≠ c.b.tb) (hn : NSet w nb l) (hB : c.B ≤ nb) (hc : Chg w w' (· = nb)) : IsL w' c s := by
 obtain ⟨es, ck, hm⟩ := hn.isMap;obtain ⟨B, hb⟩ := h.v.k.wt.isRow;obtain ⟨u, hu⟩ := h.q.isBox
 have ne : ∀ {g : Nat} {A : Array Value} {t : TypeId} {f : Nat × Nat}, w.heap[g]? = some (.cells A t f) → ¬ g = nb := fun hg e => by
  rw [e, hm] at hg; cases hg
 exact ⟨⟨h.v.p.keep hc (ne h.v.p.me) (fun k e => e ▸ hB), h.v.k.keep hc (ne hb) (fun e => h1 e.symm), h.v.v.keep hc (fun e => h2 e.symm), h.v.vk⟩, h.t.keep hc (fun e => h3 e.symm), h.q.keep hc (ne hu) (fun g A hg => ne hg) (fun g A hg => ne hg)⟩
theorem kl_back {w w1 w2 : World} {c : LC} {nb j : Nat} (h : Chg w w1 (Kl c w)) (k : Chg w1 w2 (· = nb)) (hn : w.heap.size ≤ nb) (hj : j < w.heap.size) (e : Kl c w2 j) : Kl c w j := by
 by_cases hk : Kl c w j
 ·exact hk
 rcases e with ⟨hB, e | e | e | e | e | ⟨A, t, e, ht⟩⟩
 ·exact ⟨hB, .inl e⟩
 ·exact ⟨hB, .inr (.inl e)⟩
 ·exact ⟨hB, .inr (.inr (.inl e))⟩
 ·exact ⟨hB, .inr (.inr (.inr (.inl e)))⟩
 ·exact ⟨hB, .inr (.inr (.inr (.inr (.inl e))))⟩
 ·rw [k.block j (Nat.lt_of_lt_of_le hj h.size) (by omega), h.block j hj hk] at e
  exact ⟨hB, .inr (.inr (.inr (.inr (.inr ⟨A, t, e, ht⟩))))⟩

set_option maxRecDepth 100000 in
set_option maxHeartbeats 2000000 in
theorem directory_any {c : LC} {s : LS} (l : List Int) (a : Option Addr) (cap : Nat) (w : World) (h : IsL w c s) (hk : LOk c s) (hl : LAt w a l) (hd : ∀ x ∈ l, (c.M : Int) < x ∧ x < c.N) (hn : l.length ≤ 1068) :
  Calls Tryz.prog 25 #[LP c, .slice a l.length cap] w fun e w' => e = .returned (.tuple #[]) ∧ IsL w' c (dirL c.N c.M c.im l s) ∧ Chg w w' (Kl c w) := by
 have HLA := hid hl;have HD := hid hd;have hA := Chg.alloc w (.map #[] 0) No;have G0 : Hid (DL w (w.alloc (.map #[] 0)) c w.heap.size (dirK c.N c.M c.im (l.take 0) ([], s))) := hid ⟨h.call hA, NSet.made w, kl_no hA⟩;have HOk : Hid (∀ k, LOk c (dirK c.N c.M c.im (l.take k) ([], s)).2) := hid (fun k => dirK_ok _ _ hk)
 have HNm : Hid (∀ k, (dirK c.N c.M c.im (l.take k) ([], s)).1.length ≤ 1068) := hid (fun k => by
  have := dirK_names c.N c.M c.im (l.take k) ([], s)
  simp at this
  omega)
 have HNb : Hid (w.heap.size ≠ c.b.cb ∧ w.heap.size ≠ c.b.vb ∧ w.heap.size ≠ c.b.tb) := hid ⟨by have := h.v.k.cl.lt; omega, by have := h.v.v.lt; omega, by have := h.t.lt; omega⟩;have HH := hid h
 generalize hm : l.length = m at *
 have HM := hid hm;have HAl := hid (hl.keep hA (fun _ _ _ e => e));obtain ⟨nb, hnb⟩ : ∃ y, y = w.heap.size := ⟨_, rfl⟩;have HNB := hid hnb;have HnbB : Hid (c.B ≤ nb) := hid (by have := HH.out.v.p.b0; have := HH.out.v.k.wt.lt; omega);rw [← hnb] at G0 HNb
 have hmk : ∀ W, (Instr.makeMap 88 none).run Tryz.prog W = .ok (.map (some W.heap.size)) (W.alloc (.map #[] 0)) := fun W => by
  first | exact run_makeMap_none W _ _ _ Tryz.underlying88 | rfl | kernel_rfl
 clear h hk hl hd hA hm;unfold LP
 go_enter Tryz.func25, Tryz.ntmps25
 go_wp2_with fail
 rw [← hnb];clear hnb
 go_loopw [12] (fun i wr => ∃ k : Nat, k ≤ m ∧ i = .int .i64 k ∧ Hid (DL w wr c nb (dirK c.N c.M c.im (l.take k) ([], s)))) (fun i _ => m - (intOf i).toNat)
 case atStart => exact ⟨0, by omega, rfl, G0⟩
 case round =>
  clear G0;obtain ⟨k, hk, rfl, HG⟩ := hrel
  by_cases hlt : k < m
  ·have i0 : (0 : Int) ≤ (k : Int) := by omega
   have i1 : (k : Int) < (m : Int) := by omega
   obtain ⟨x, hx⟩ : ∃ x, l[k]? = some x := ⟨_, List.getElem?_eq_getElem (by rw [HM.out]; exact hlt)⟩
   have HS : Hid (dirK c.N c.M c.im (l.take (k + 1)) ([], s) = slotL c.N c.M c.im x (dirK c.N c.M c.im (l.take k) ([], s))) := hid (by
    rw [List.take_add_one, hx, dirK_append]
    rfl)
   have hxd := HD.out x (List.mem_of_getElem? hx);obtain ⟨n, rfl⟩ : ∃ n : Nat, x = (n : Int) := ⟨x.toNat, by omega⟩
   have hnN : n < c.N := by omega
   have j0 : (0 : Int) ≤ (n : Int) := by omega
   have j1 : (n : Int) < (c.N : Int) := by omega
   have HOk1 := hid (HOk.out k);have HNm1 := hid (HNm.out k)
   obtain ⟨g, rfl, hgA, hcl⟩ : ∃ g, a = some ⟨g, 0, none⟩ ∧ (∃ A, w.heap[g]? = some (.cells A 3 (0, 0))) ∧ ∀ k, k < l.length → w.cell? ⟨g, k, none⟩ = some (.int .i64 (l.getD k 0)) := by
    rcases HLA.out with e | e
    ·rw [e] at hx; simp at hx
    ·exact e
   obtain ⟨Ag, hAg⟩ := hgA;have hck := hcl k (by rw [HM.out]; exact hlt);rw [List.getD_eq_getElem?_getD, hx] at hck
   simp only [Option.getD_some] at hck
   have hcx := cell_keep hck HG.out.c (slt hAg) (HH.out.not hAg (by decide) (by decide) (by decide) (by decide))
   generalize dirK c.N c.M c.im (l.take k) ([], s) = r at *
   obtain ⟨nl, s1⟩ := r;have hsec := HG.out.l.v.k.wt.sec (n : Int);have hRS := readSlot_all (secI s1.wt (n : Int)) hsec wr;have c3 := HG.out.l.v.p.c3;have HWt := hid HG.out.l.v.k.wt
   have hwk : n < s1.wt.length := by rw [HG.out.l.v.k.wl]; exact hnN
   obtain ⟨y1, y2, y3⟩ := slot_like (secI s1.wt (n : Int));have HSL : Hid (slotL c.N c.M c.im (n : Int) (nl, s1) = if (slotOf (secI s1.wt (n : Int))).2.2 = 0 ∧ (slotOf (secI s1.wt (n : Int))).1 = 0 ∧ (slotOf (secI s1.wt (n : Int))).2.1.size = 0 then (nl, s1) else if (slotOf (secI s1.wt (n : Int))).2.2 = 0 ∧ isEntryB c.M c.im s1 (slotOf (secI s1.wt (n : Int))).1 (hasN nl (slotOf (secI s1.wt (n : Int))).2.1) = true then ((slotOf (secI s1.wt (n : Int))).2.1 :: nl, enterL c.N c.M c.im (slotOf (secI s1.wt (n : Int))).1 s1) else (nl, { s1 with wt := s1.wt.set n Zs })) := hid rfl
   have hRS2 : Calls Tryz.prog 45 #[.agg (SA (secI s1.wt (n : Int)))] wr fun e w' => e = .returned (.tuple #[.agg (SLA (slotOf (secI s1.wt (n : Int))).1 (slotOf (secI s1.wt (n : Int))).2.1), .int .i64 (slotOf (secI s1.wt (n : Int))).2.2]) ∧ Below wr.heap.size wr w' := hRS
   generalize slotOf (secI s1.wt (n : Int)) = q at *
   obtain ⟨ino, nm, er⟩ := q
   simp only at y1 y2 y3 HSL hRS2
   unfold SLA at hRS2;clear hRS hsec hck hcl hxd hx
   go_upto_region 6 with (first
    | (refine load_wtL rfl _ rfl c.b.wb n rfl s1.wt HWt.out hwk ?_)
    | (go_at_call 45; go_must (refine hRS2.mono ?_; rintro e w1 ⟨rfl, hb1⟩))
    | fail)
   have hAl := (Chg.of_below hb1 No).trans (Chg.alloc w1 (.cells #[.int .i64 ino, .string nm] 83) No) (c := No) (fun _ _ e => e) (fun _ _ e => e);have hgs := heap_alloc_new w1 (.cells #[.int .i64 ino, .string nm] 83);have D2 : Hid (DL w (w1.alloc (.cells #[.int .i64 ino, .string nm] 83)) c nb (nl, s1)) := hid ⟨HG.out.l.call hAl, HG.out.n.keep hAl (fun e => e), kl_trans HG.out.c (kl_no hAl)⟩;obtain ⟨gs, hgse⟩ : ∃ y, y = w1.heap.size := ⟨_, rfl⟩;rw [← hgse] at hgs;rw [← hgse]
   generalize w1.alloc (.cells #[.int .i64 ino, .string nm] 83) = w2 at *
   have HGS := hid hgs;have p0 : w2.cell? ⟨gs, 0, none⟩ = some (.int .i64 ino) := (cell_of_row _ _ _ _ _ _ hgs).trans rfl;have p1 : w2.cell? ⟨gs, 1, none⟩ = some (.string nm) := (cell_of_row _ _ _ _ _ _ hgs).trans rfl;clear hAl hgs hgse hb1 HG hRS2 c3 HWt hcx;have c3 := D2.out.l.v.p.c3;have hbl := build_slot;have hbz := build_sec;have HWt := hid D2.out.l.v.k.wt;have HIno : Hid (I64 ino) := hid ⟨by omega, by omega⟩
   by_cases he : er = 0
   ·have heb : (er == 0) = true := by simpa using he
    have HEr := hid he;clear he
    by_cases hz : ino = 0 ∧ nm.size = 0
    ·have HQ := hid (fun W => eq_slot0 ino nm W true (by rw [decide_eq_true hz]))
     have HN : Hid (DL w w2 c nb (dirK c.N c.M c.im (l.take (k + 1)) ([], s))) := hid (by rw [HS.out, HSL.out, if_pos ⟨HEr.out, hz.1, hz.2⟩]; exact D2.out);clear hz
     go_wp2_with (first
      | (refine eql_R (by rfl) 83 _ _ rfl #[.int .i64 ino, .string nm] #[.int .i64 0, .string ⟨#[]⟩] true rfl rfl HQ.out guardL ?_)
      | fail)
     exact ⟨⟨k + 1, by omega, by go_num, HN⟩, by simp [intOf]; omega⟩
    ·have HQ := hid (fun W => eq_slot0 ino nm W false (by rw [decide_eq_false hz]))
     have HIE := isEntry_any ino nm w2 D2.out.l HOk1.out.tk D2.out.n HIno.out (by omega);unfold SLA LP at HIE
     cases hb : isEntryB c.M c.im s1 ino (hasN nl nm) with
     | true =>
      rw [hb] at HIE;have HN : Hid (slotL c.N c.M c.im (n : Int) (nl, s1) = (nm :: nl, enterL c.N c.M c.im ino s1)) := hid (by rw [HSL.out, if_neg (fun e => hz e.2), if_pos ⟨HEr.out, hb⟩]);have HMay := hid (may_of hb);have HEn := hid (fun (W : World) (hL : IsL W c s1) => enter_any ino W hL HOk1.out.tk (by have := HOk1.out.fr; have := D2.out.l.v.p.m2; have := D2.out.l.v.p.n2; simp only at *; omega) HMay.out HIno.out);unfold LP at HEn;clear hz hb
      go_wp2_with (first
       | (refine eql_R (by rfl) 83 _ _ rfl #[.int .i64 ino, .string nm] #[.int .i64 0, .string ⟨#[]⟩] false rfl rfl HQ.out guardL ?_)
       | (go_at_call 46; go_must (refine HIE.mono ?_; rintro e w3 ⟨rfl, hc3⟩; have hn3 := D2.out.n.keep hc3 (fun e => e); have hl3 := D2.out.l.call hc3; have hg3 := hc3.keep HGS.out (fun e => e); have p13 : w3.cell? ⟨gs, 1, none⟩ = some (.string nm) := (cell_of_row _ _ _ _ _ _ hg3).trans rfl; have HN3 := hid hn3; have HL3 := hid hl3; have HG3 := hid hg3; have HC3 := hid hc3; clear hn3 hl3 hg3 hc3))
       | (at_mapUpdate; go_must (refine wp_storeN rfl _ _ _ rfl nb nl nm rfl rfl rfl HN3.out (by omega) (Nat.le_trans HNm1.out (by decide)) ?_; intro w4 hn4 hc4 hz4; have hl4 := HL3.out.names HNb.out.1 HNb.out.2.1 HNb.out.2.2 HN3.out HnbB.out hc4; have hg4 := hc4.keep HG3.out (fun e => by obtain ⟨es, ck, hm⟩ := HN3.out.isMap; have k := HG3.out; rw [e, hm] at k; cases k); have p04 : w4.cell? ⟨gs, 0, none⟩ = some (.int .i64 ino) := (cell_of_row _ _ _ _ _ _ hg4).trans rfl; have hE := HEn.out w4 hl4; have HN4 := hid hn4; have HL4 := hid hl4; have HC4 := hid hc4; clear hn4 hl4 hg4 hc4 hz4))
       | (go_at_call 24; go_must (refine hE.mono ?_; rintro e w5 ⟨rfl, hL5, hc5⟩))
       | fail)
      have hN5 := HN4.out.kl HL4.out HNb.out.1 HNb.out.2.1 HNb.out.2.2 hc5
      have hC : Chg w w5 (Kl c w) := (kl_trans D2.out.c (kl_no HC3.out)).trans ((HC4.out.trans hc5 (c := fun j => j = nb ∨ Kl c w4 j) (fun _ _ e => .inl e) (fun _ _ e => .inr e))) (fun _ _ e => e) (fun j hj e => by
       rcases e with e | e
       ·have := HNB.out; omega
       ·exact kl_back (kl_trans D2.out.c (kl_no HC3.out)) HC4.out (by have := HNB.out; omega) hj e)
      exact ⟨⟨k + 1, by omega, by go_num, hid (by rw [HS.out, HN.out]; exact ⟨hL5, hN5, hC⟩)⟩, by simp [intOf]; omega⟩
     | false =>
      rw [hb] at HIE;have HN : Hid (slotL c.N c.M c.im (n : Int) (nl, s1) = (nl, { s1 with wt := s1.wt.set n Zs })) := hid (by rw [HSL.out, if_neg (fun e => hz e.2), if_neg (fun e => by rw [hb] at e; cases e.2)]);clear hz hb
      go_wp2_with (first
       | (refine eql_R (by rfl) 83 _ _ rfl #[.int .i64 ino, .string nm] #[.int .i64 0, .string ⟨#[]⟩] false rfl rfl HQ.out guardL ?_)
       | (go_at_call 46; go_must (refine HIE.mono ?_; rintro e w3 ⟨rfl, hc3⟩; have hl3 := D2.out.l.call hc3; have c33 := hl3.v.p.c3; have HN3 := hid (D2.out.n.keep hc3 (fun e => e)); have HL3 := hid hl3; have HC3 := hid hc3; clear hl3 hc3))
       | (refine store_wt rfl _ _ rfl c.b.wb n rfl Zs rfl Zs_sec s1.wt HL3.out.v.k.wt hwk ?_; intro w4 hw4 hc4 hz4)
       | fail)
      obtain ⟨hL4, hK4⟩ := HL3.out.wants hw4 (by rw [List.length_set]; exact D2.out.l.v.k.wl) hc4
      exact ⟨⟨k + 1, by omega, by go_num, hid (by rw [HS.out, HN.out]; exact ⟨hL4, HN3.out.kl HL3.out HNb.out.1 HNb.out.2.1 HNb.out.2.2 hK4, kl_trans (kl_trans D2.out.c (kl_no HC3.out)) hK4⟩)⟩, by simp [intOf]; omega⟩
   ·have heb : (er == 0) = false := by simpa using he
    have HN : Hid (slotL c.N c.M c.im (n : Int) (nl, s1) = (nl, { s1 with wt := s1.wt.set n Zs })) := hid (by rw [HSL.out, if_neg (fun e => he e.1), if_neg (fun e => he e.1)]);clear he
    go_wp2_with (first
     | (refine store_wt rfl _ _ rfl c.b.wb n rfl Zs rfl Zs_sec s1.wt HWt.out hwk ?_; intro w4 hw4 hc4 hz4)
     | fail)
    obtain ⟨hL4, hK4⟩ := D2.out.l.wants hw4 (by rw [List.length_set]; exact D2.out.l.v.k.wl) hc4
    exact ⟨⟨k + 1, by omega, by go_num, hid (by rw [HS.out, HN.out]; exact ⟨hL4, D2.out.n.kl D2.out.l HNb.out.1 HNb.out.2.1 HNb.out.2.2 hK4, kl_trans D2.out.c hK4⟩)⟩, by simp [intOf]; omega⟩
  ·have i1 : ¬ (k : Int) < (m : Int) := by omega
   obtain rfl : k = m := by omega
   have HF : Hid (IsL wr c (dirL c.N c.M c.im l s) ∧ Chg w wr (Kl c w)) := hid ⟨by
    have := HG.out.l;rw [List.take_of_length_le (by rw [HM.out]; exact Nat.le_refl _)] at this
    exact this, HG.out.c⟩
   clear HG
   go_wp2_with fail
   go_end0
   exact ⟨rfl, HF.out.1, HF.out.2⟩

end Go.Proofs.YtpmignilhoihnaaGreat

namespace Go.Proofs.YtpmignilhoihnaaGreat
open Go.RowKit Go.Sort Go.Lib Go.Maps Go.Shelf

def sortI (l : List Int) : List Int := l.mergeSort fun x y => decide (x ≤ y)
theorem sortI_len (l : List Int) : (sortI l).length = l.length := by simp [sortI]
theorem sortI_up (l : List Int) (h : l.Pairwise (· ≠ ·)) : (sortI l).Pairwise (· < ·) := by
 have h1 : (sortI l).Pairwise (fun x y => decide (x ≤ y) = true) := List.pairwise_mergeSort (fun a b c h1 h2 => by simp at *; omega) (fun a b => by simp; omega) l;have h2 : (sortI l).Pairwise (· ≠ ·) := ((List.mergeSort_perm l _).pairwise_iff (fun {_ _} hne => Ne.symm hne)).2 h
 exact (h1.and h2).imp fun {a b} hh => by
  obtain ⟨k1, k2⟩ := hh
  simp at k1
  omega
theorem sortI_mem (l : List Int) (x : Int) : x ∈ sortI l ↔ x ∈ l := (List.mergeSort_perm l _).mem_iff
def keysL (n : Nat) (p : Int → Bool) : List Int := ((List.range n).map Int.ofNat).filter p
theorem keysL_mem {n : Nat} {p : Int → Bool} {x : Int} : x ∈ keysL n p ↔ 0 ≤ x ∧ x < n ∧ p x = true := by
 unfold keysL;rw [List.mem_filter, List.mem_map]
 constructor
 ·rintro ⟨⟨k, hk, rfl⟩, h⟩
  have := List.mem_range.1 hk
  exact ⟨by simp, by show (k : Int) < n; omega, h⟩
 ·rintro ⟨h0, h1, h2⟩
  exact ⟨⟨x.toNat, List.mem_range.2 (by omega), by show ((x.toNat : Nat) : Int) = x; omega⟩, h2⟩
theorem keysL_up (n : Nat) (p : Int → Bool) : (keysL n p).Pairwise (· < ·) := by
 unfold keysL;refine List.Pairwise.filter _ ?_;rw [List.pairwise_map]
 exact List.pairwise_lt_range.imp fun {a b} h => by show (a : Int) < b; omega
theorem eq_of_up : ∀ (l m : List Int), l.Pairwise (· < ·) → m.Pairwise (· < ·) → (∀ x, x ∈ l ↔ x ∈ m) → l = m
 | [], [], _, _, _ => rfl
 | [], y :: m, _, _, h => absurd ((h y).2 (by simp)) (by simp)
 | x :: l, [], _, _, h => absurd ((h x).1 (by simp)) (by simp)
 | x :: l, y :: m, hl, hm, h => by
  obtain ⟨l1, l2⟩ := List.pairwise_cons.1 hl;obtain ⟨m1, m2⟩ := List.pairwise_cons.1 hm
  have e : x = y := by
   rcases List.mem_cons.1 ((h x).1 (by simp)) with e | e
   ·exact e
   ·rcases List.mem_cons.1 ((h y).2 (by simp)) with k | k
    ·exact k.symm
    ·have := l1 y k
     have := m1 x e
     omega
  subst e
  congr 1
  refine eq_of_up l m l2 m2 fun z => ?_
  constructor
  ·intro hz
   rcases List.mem_cons.1 ((h z).1 (by simp [hz])) with e | e
   ·subst e; have := l1 z hz; omega
   ·exact e
  ·intro hz
   rcases List.mem_cons.1 ((h z).2 (by simp [hz])) with e | e
   ·subst e; have := m1 z hz; omega
   ·exact e
theorem keysD {H : Type} {w : World} {R : Value → Option (DataW H × List MemPlace)} {b m : Nat} {D : DataW H} (h : w.ownsMap Tryz.prog 3 R b m D) : (intKeys D).Pairwise (· ≠ ·) ∧ ∀ x, x ∈ intKeys D ↔ Maps.has D (.int .i64 x) = true := by
 obtain ⟨es, hD, hp, hk⟩ := h.entries keyI
 have hint : ∀ p ∈ es, ∃ x, p.1 = .int .i64 x ∧ I64 x := by
  obtain ⟨es', clock, _, F, _, hD'⟩ := h;rw [hD] at hD'
  cases hD'
  intro p hp
  obtain ⟨x, hx, rfl⟩ := List.mem_map.1 (mem_sorted.1 hp);obtain ⟨y, hy⟩ := F.reads x hx;obtain ⟨k, _, hk, hw⟩ := Maps.keyOf_int_inv Tryz.underlying3 (WideElems.rd_key hy);rw [WideElems.rg_of hy]
  exact ⟨k, hk, wfI hw⟩
 subst hD;unfold intKeys;refine ⟨?_, fun x => ?_⟩
 ·rw [List.pairwise_map]
  refine List.Pairwise.imp_of_mem ?_ hp
  intro p q hp hq hne
  obtain ⟨x, hx, _⟩ := hint p hp;obtain ⟨y, hy, _⟩ := hint q hq;rw [hx, hy] at hne;rw [hx, hy]
  simpa [Go.intOf] using hne
 ·rw [Maps.has_eq, List.any_eq_true]
  constructor
  ·intro hx
   obtain ⟨p, hp, e⟩ := List.mem_map.1 hx;obtain ⟨y, hy, _⟩ := hint p hp;rw [hy] at e
   simp [Go.intOf] at e
   subst e
   exact ⟨p, hp, by rw [hy]; exact WideAt.sameKey_self (keyLit _)⟩
  ·rintro ⟨p, hp, hs⟩
   have := WideAt.sameKey_eq hs
   exact List.mem_map.2 ⟨p, hp, by rw [this]; rfl⟩
theorem sortsI (m : Nat) : AnyZI.SortsIn Tryz.prog laySorted_ren Fence.wide m :=
 ⟨fun blk off cap ss W hH hblk hsz => callsIn_wide.2 (Any.slices_Sort_int laySort blk off cap ss W hH hblk hsz),
  fun p cap W => callsIn_wide.2 (Any.slices_Sort_int_none laySort p cap W)⟩
theorem keysT_any (mb : Option Nat) (W : World) : Calls Tryz.prog 50 #[.map mb] W fun e w' => e = .returned (.func (.func 92) #[] #[PV W.heap.size]) ∧ w' = W.alloc (.cells #[.map mb] 57) :=
 (callsIn_wide (n := 5)).1 (AnyZI.keys_in layKeys Fence.wide 5 trivial rfl mb W)
theorem keysC_any (mb : Option Nat) (W : World) : Calls Tryz.prog 51 #[.map mb] W fun e w' => e = .returned (.func (.func 93) #[] #[PV W.heap.size]) ∧ w' = W.alloc (.cells #[.map mb] 56) :=
 (callsIn_wide (n := 5)).1 (AnyZI.keys_in layKeysb Fence.wide 5 trivial rfl mb W)

theorem sorted_is {w : World} {H : Type} {R : Value → Option (DataW H × List MemPlace)} {b m : Nat} {D : DataW H} {n : Nat} {p : Int → Bool} {ss : List Int} (h : w.ownsMap Tryz.prog 3 R b m D) (hS : ss.Perm (intKeys D)) (hp : ∀ x, Maps.has D (.int .i64 x) = p x) (hn : ∀ x, p x = true → 0 ≤ x ∧ x < n) : sortI ss = keysL n p := by
 obtain ⟨k1, k2⟩ := keysD h;have hnd : ss.Pairwise (· ≠ ·) := (hS.pairwise_iff (fun {_ _} hne => Ne.symm hne)).2 k1
 refine eq_of_up _ _ (sortI_up ss hnd) (keysL_up n p) fun x => ?_
 rw [sortI_mem, hS.mem_iff, k2, hp, keysL_mem]
 exact ⟨fun e => ⟨(hn x e).1, (hn x e).2, e⟩, fun e => e.2.2⟩
theorem IOwn.base {w : World} {B B' : Nat} {v : Value} {l : List Int} (h : IOwn w B v l) (hb : B' ≤ B) : IOwn w B' v l := by
 refine ⟨h.1, ?_⟩
 rcases h.2 with k | ⟨g, cap, cur, rfl, hg, r⟩
 ·exact .inl k
 ·exact .inr ⟨g, cap, cur, rfl, by omega, r⟩

set_option maxRecDepth 100000 in
set_option maxHeartbeats 1000000 in
theorem sortedT_any {W : World} {b n : Nat} {f : Int → Option Value} (h : MapV W b f) (hn : ∀ x, (f x).isSome = true → 0 ≤ x ∧ x < n) (hb : n ≤ 5000) :
  Calls Tryz.prog 49 #[.func (.func 92) #[] #[PV W.heap.size]] (W.alloc (.cells #[.map (some b)] 57)) fun e w' => ∃ v, e = .returned v ∧ IOwn w' W.heap.size v (keysL n fun x => (f x).isSome) ∧ Chg (W.alloc (.cells #[.map (some b)] 57)) w' No := by
 obtain ⟨D0, hown, hh, _⟩ := h;have hbl := hown.lt
 have hsz : Maps.size D0 ≤ 5000 := Nat.le_trans (size_leV hown ((List.range n).map Int.ofNat) (fun y hy => by
  have := hn y ((hh y).symm.trans hy)
  exact List.mem_map.2 ⟨y.toNat, List.mem_range.2 (by omega), by show ((y.toNat : Nat) : Int) = y; omega⟩)) (by simpa using hb)
 have hsz1 : Maps.size D0 ≤ maxLen := by unfold maxLen; omega
 have hseq : SeqGives Fence.wide 2 Tryz.prog 92 #[.pointer (some ⟨W.heap.size, 0, none⟩)] encZ (fun ss => ss.Perm (intKeys D0)) (Maps.size D0) (W.alloc (.cells #[.map (some b)] 57)) :=
  AnyZI.keys_gives (ρ := layKeys_ren) { layKeys with } Fence.wide _ trivial rfl (by omega) W.heap.size b _ D0 _ (by simp) (by simp) (by
   obtain ⟨es, clock, hb, Ft, hs, hD⟩ := hown
   exact ⟨es, clock, (Below.heap_alloc _ _ b hbl).trans hb, Ft, hs, hD⟩)
 have cS := AnyZI.sorted_in laySorted Fence.wide 5 trivial trivial trivial trivial rfl (by omega) (sortsI _) (enters_of Tryz.func91 (by kernel_rfl) rfl) 92 #[.pointer (some ⟨W.heap.size, 0, none⟩)] trivial (enters_of Tryz.func92 (by kernel_rfl) rfl) _ _ hsz1 (by omega) _ hseq
 change CallsIn _ _ Tryz.prog 49 _ _ _ at cS
 refine ((callsIn_wide (n := 5)).1 cS).mono ?_
 rintro e w' ⟨v, ss, rfl, hS, hrow, hnil, hbw⟩
 have hs := sorted_is hown hS hh hn;refine ⟨v, rfl, ?_, Chg.of_below hbw No⟩;have hrow2 : w'.ownsRow (W.alloc (.cells #[.map (some b)] 57)).heap.size 3 1 v ss.length ((sortI ss).map (Value.int .i64)) := hrow;rw [← hs]
 have : IOwn w' (W.alloc (.cells #[.map (some b)] 57)).heap.size v (sortI ss) := by unfold IOwn; rw [sortI_len]; exact hrow2
 exact this.base (by simp)

set_option maxRecDepth 100000 in
set_option maxHeartbeats 1000000 in
theorem sortedC_any {W : World} {b n : Nat} {p : Int → Bool} (h : SetAt W b (fun x => p x = true)) (hn : ∀ x, p x = true → 0 ≤ x ∧ x < n) (hb : n ≤ 5000) :
  Calls Tryz.prog 49 #[.func (.func 93) #[] #[PV W.heap.size]] (W.alloc (.cells #[.map (some b)] 56)) fun e w' => ∃ v, e = .returned v ∧ IOwn w' W.heap.size v (keysL n p) ∧ Chg (W.alloc (.cells #[.map (some b)] 56)) w' No := by
 obtain ⟨D0, hown, hh0⟩ := h
 have hh : ∀ x, Maps.has D0 (.int .i64 x) = p x := fun x => by rw [Bool.eq_iff_iff]; exact hh0 x
 have hbl := hown.lt
 have hsz : Maps.size D0 ≤ 5000 := Nat.le_trans (size_le_of hown ((List.range n).map Int.ofNat) (fun y hy => by
  have := hn y ((hh y).symm.trans hy)
  exact List.mem_map.2 ⟨y.toNat, List.mem_range.2 (by omega), by show ((y.toNat : Nat) : Int) = y; omega⟩)) (by simpa using hb)
 have hsz1 : Maps.size D0 ≤ maxLen := by unfold maxLen; omega
 have hseq : SeqGives Fence.wide 2 Tryz.prog 93 #[.pointer (some ⟨W.heap.size, 0, none⟩)] encZ (fun ss => ss.Perm (intKeys D0)) (Maps.size D0) (W.alloc (.cells #[.map (some b)] 56)) :=
  AnyZI.keys_gives (ρ := layKeysb_ren) { layKeysb with } Fence.wide _ trivial rfl (by omega) W.heap.size b _ D0 _ (by simp) (by simp) (by
   obtain ⟨es, clock, hb, Ft, hs, hD⟩ := hown
   exact ⟨es, clock, (Below.heap_alloc _ _ b hbl).trans hb, Ft, hs, hD⟩)
 have cS := AnyZI.sorted_in laySorted Fence.wide 5 trivial trivial trivial trivial rfl (by omega) (sortsI _) (enters_of Tryz.func91 (by kernel_rfl) rfl) 93 #[.pointer (some ⟨W.heap.size, 0, none⟩)] trivial (enters_of Tryz.func93 (by kernel_rfl) rfl) _ _ hsz1 (by omega) _ hseq
 change CallsIn _ _ Tryz.prog 49 _ _ _ at cS
 refine ((callsIn_wide (n := 5)).1 cS).mono ?_
 rintro e w' ⟨v, ss, rfl, hS, hrow, hnil, hbw⟩
 have hs := sorted_is hown hS hh hn;refine ⟨v, rfl, ?_, Chg.of_below hbw No⟩;have hrow2 : w'.ownsRow (W.alloc (.cells #[.map (some b)] 56)).heap.size 3 1 v ss.length ((sortI ss).map (Value.int .i64)) := hrow;rw [← hs]
 have : IOwn w' (W.alloc (.cells #[.map (some b)] 56)).heap.size v (sortI ss) := by unfold IOwn; rw [sortI_len]; exact hrow2
 exact this.base (by simp)

end Go.Proofs.YtpmignilhoihnaaGreat
