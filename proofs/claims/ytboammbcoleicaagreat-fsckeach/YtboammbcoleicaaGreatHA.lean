/-
  A look behind some of the writes.
-/
import Derived.Test.YtboammbcoleicaaGreatH7
namespace Go.Proofs.YtboammbcoleicaaGreat

theorem enter_lk {full : Prop} {N M : Int} {im J : Img} {tkf : Int → Option (List Int)} (ho : Oth full N M im J tkf) {i : Int} {s t : LS} {rest : List Int} (hi : LInv N M im s rest) (h : LRel im J s t rest) (hm : MayE M im s i)
    (hg : GG full N M im J (enterL N M im i s) (rest ++ (enterL N M im i s).q.flatten)) (ht : GTk tkf (enterL N M im i s)) : LRel im J (enterL N M im i s) (enterL N M J i t) rest := by
  cases hk : s.tk i with
  | some z =>
    rw [enter_some hk, enter_some (s := t) (z := z) (by rw [h.tk]; exact hk)]
    exact ⟨h.cl, h.wp, by simp only [h.tk], h.q, h.len, h.wt, h.un, h.raw⟩
  | none =>
    have hk' : t.tk i = none := by rw [h.tk]; exact hk
    unfold MayE at hm
    rw [hk] at hm
    simp only at hm
    rw [enter_none hk] at hg ht ⊢
    rw [enter_none hk']
    obtain ⟨L, hL⟩ := ht i (moreZ (inoT N M (soundZ M im i).1 s.wt s.cl)) (by show putT _ i _ i = _; unfold putT; rw [if_pos rfl])
    obtain ⟨_, _, a3, a4, a5, _⟩ := sound_parts hm
    obtain ⟨e0, e1, e2, e3⟩ := inoT_0 N M (soundZ M im i).1 s.wt s.cl
    obtain ⟨sJ, sE⟩ := sound_J2 ho hm hL
    have hget : ∀ m, m ≠ 1 → ((moreZ (inoT N M (soundZ M im i).1 s.wt s.cl)).set 1 L).getD m 0 = (inoT N M (soundZ M im i).1 s.wt s.cl).getD m 0 := fun m hm1 => by
      unfold moreZ
      rw [getD_set_ne (fun e => hm1 e.symm), getD_set_ne (fun e => hm1 e.symm)]
    have hfld : ∀ m, m ≠ 1 → (inoT N M (soundZ M im i).1 s.wt s.cl).getD m 0 = (soundZ M im i).1.getD m 0 → (soundZ M J i).1.getD m 0 = (soundZ M im i).1.getD m 0 := fun m hm1 he => by
      rcases sE with e | e
      · rw [e.2]
      · rw [e, hget m hm1, he]
    obtain ⟨r1, r2⟩ := take_lk (rest := rest) ho a3 (sound_parts sJ).2.2.1 (hfld 0 (by omega) e0) (hfld 2 (by omega) e2) (hfld 3 (by omega) e3) hi h (fun m h4 h18 => by
      rcases sE with e | e
      · right; rw [e.2]; exact ⟨e.1, rfl⟩
      · left; rw [e]; exact hget m (by omega)) hg
    exact ⟨r2.cl, r2.wp, by simp only [r1, r2.tk], r2.q, r2.len, r2.wt, r2.un, r2.raw⟩
theorem isEntry_lk {full : Prop} {N M : Int} {im J : Img} {tkf : Int → Option (List Int)} (ho : Oth full N M im J tkf) {s t : LS} (hT : t.tk = s.tk) (i : Int) (b : Bool) (hs : s.tk i = none → (soundZ M im i).2 = true → ¬ (b || decide (i = 1)) = true → ∃ z, tkf i = some z) : isEntryB M J t i b = isEntryB M im s i b := by
  unfold isEntryB
  by_cases hb : (b || decide (i = 1)) = true
  · rw [if_pos hb, if_pos hb]
  · rw [if_neg hb, if_neg hb, hT]
    cases hk : s.tk i with
    | some z => rfl
    | none =>
      simp only
      cases hx : (soundZ M im i).2 with
      | false => exact sound_J ho hx
      | true =>
        obtain ⟨z, hz⟩ := hs hk hx hb
        exact (sound_J2 ho hx hz).1
theorem LRel.next {im J : Img} {s t : LS} {n : Int} {l : List Int} (h : LRel im J s t (n :: l)) : LRel im J s t l := ⟨h.cl, h.wp, h.tk, h.q, h.len, h.wt, h.un, fun m hm => h.raw m (List.mem_cons_of_mem _ hm)⟩
theorem slotOf_Zs : slotOf Zs = (0, ⟨#[]⟩, 0) := Zs_rdSlot
/-- One slot, in both. -/
theorem slot_lk {full : Prop} {N M : Int} {im J : Img} {tkf : Int → Option (List Int)} (ho : Oth full N M im J tkf) {n : Int} {l : List Int} {r r' : List ByteArray × LS} (hi : LInv N M im r.2 (n :: l)) (h : LRel im J r.2 r'.2 (n :: l)) (hn : r'.1 = r.1)
    (hg : GG full N M im J (slotL N M im n r).2 (l ++ (slotL N M im n r).2.q.flatten)) (ht : GTk tkf (slotL N M im n r).2) :
    (slotL N M J n r').1 = (slotL N M im n r).1 ∧ LRel im J (slotL N M im n r).2 (slotL N M J n r').2 l := by
  obtain ⟨c1, c2, c3, c4⟩ := hi.raw n List.mem_cons_self
  have hJ := h.raw n List.mem_cons_self
  obtain ⟨i1, i2, e, q1, q2, q3⟩ := slot_inv ho.M0 hi
  have hnd := (List.nodup_cons.1 hi.nod).1
  have hgn := (hg n c3 c4 (i2.cl n c1) (fun k => by
    rcases List.mem_append.1 k with k | k
    · exact hnd (List.mem_append_left _ k)
    · rw [q1, List.flatten_append] at k
      rcases List.mem_append.1 k with k | k
      · exact hnd (List.mem_append_right _ k)
      · have := (q2 n k).1
        rw [c1] at this
        cases this)).1
  by_cases h1 : (slotOf (secI r.2.wt n)).2.2 = 0 ∧ (slotOf (secI r.2.wt n)).1 = 0 ∧ (slotOf (secI r.2.wt n)).2.1.size = 0
  · rw [slot_empty h1] at hgn ⊢
    have hs : secI r'.2.wt n = secI r.2.wt n := by
      rw [hJ, c2]
      rcases hgn with k | k
      · exact k
      · rw [k, c2]
    rw [slot_empty (by rw [hs]; exact h1)]
    exact ⟨hn, h.next⟩
  · by_cases h2 : (slotOf (secI r.2.wt n)).2.2 = 0 ∧ isEntryB M im r.2 (slotOf (secI r.2.wt n)).1 (hasN r.1 (slotOf (secI r.2.wt n)).2.1) = true
    · rw [slot_entry h1 h2] at hgn hg ht ⊢
      have hmo := (enter_mo (im := im) (i := (slotOf (secI r.2.wt n)).1) ho.M0 hi.len).1
      have hs : secI r'.2.wt n = secI r.2.wt n := by
        rw [hJ, c2]
        rcases hgn with k | k
        · exact k
        · rw [k, hmo.wt n c1 (fun e => e), c2]
      have hmay := mayE_of h2.2
      have hent : isEntryB M J r'.2 (slotOf (secI r.2.wt n)).1 (hasN r'.1 (slotOf (secI r.2.wt n)).2.1) = true := by
        rw [hn, isEntry_lk ho h.tk]
        · exact h2.2
        · intro k1 _ _
          obtain ⟨L, hL⟩ := ht (slotOf (secI r.2.wt n)).1 (moreZ (inoT N M (soundZ M im (slotOf (secI r.2.wt n)).1).1 r.2.wt r.2.cl)) (by
            rw [enter_none k1]
            show putT _ _ _ _ = _
            unfold putT
            rw [if_pos rfl])
          exact ⟨_, hL⟩
      rw [slot_entry (r := r') (by rw [hs]; exact h1) (by rw [hs]; exact ⟨h2.1, hent⟩), hs]
      exact ⟨by simp only [hn], enter_lk ho hi.next h.next hmay hg ht⟩
    · rw [slot_none h1 h2] at hgn ht ⊢
      have hin : n < (r.2.wt.length : Int) := by rw [hi.len]; exact c4
      have hM := ho.M0
      have hin' : n < (r'.2.wt.length : Int) := by rw [h.len]; exact hin
      replace hgn : secI J n = secI im n ∨ secI J n = secI (r.2.wt.set n.toNat Zs) n := hgn
      rw [secI_set (by omega) hin] at hgn
      -- what comes of it
      have fin : ∀ T : Img, T.length = r'.2.wt.length → secI T n = Zs → (∀ m, m ≠ n → secI T m = secI r'.2.wt m) → LRel im J { r.2 with wt := r.2.wt.set n.toNat Zs } { r'.2 with wt := T } l := fun T t1 t2 t3 => by
        refine ⟨h.cl, h.wp, h.tk, h.q, by simp only [List.length_set, t1, h.len], fun m => ?_, fun m hm => ?_, fun m hm => ?_⟩
        · by_cases e : m = n
          · subst e
            left
            show secI T m = secI (r.2.wt.set m.toNat Zs) m
            rw [t2, secI_set (by omega) hin]
          · show secI T m = secI (r.2.wt.set n.toNat Zs) m ∨ (secI T m = _ ∧ secI (r.2.wt.set n.toNat Zs) m = _)
            rw [t3 m e, secI_set_ne (by omega) e]
            exact h.wt m
        · replace hm : r.2.cl m = false := hm
          show secI T m = _
          rw [t3 m (fun e => by rw [e, c1] at hm; cases hm)]
          exact h.un m hm
        · show secI T m = _
          rw [t3 m (fun e => hnd (by rw [← e]; exact hm))]
          exact h.next.raw m hm
      by_cases hz : secI J n = secI im n
      · have hs : secI r'.2.wt n = secI r.2.wt n := by rw [hJ, c2]; exact hz
        have hent : ¬ ((slotOf (secI r.2.wt n)).2.2 = 0 ∧ isEntryB M J r'.2 (slotOf (secI r.2.wt n)).1 (hasN r'.1 (slotOf (secI r.2.wt n)).2.1) = true) := by
          intro k
          refine h2 ⟨k.1, ?_⟩
          rw [hn, isEntry_lk ho h.tk] at k
          · exact k.2
          · intro k1 k2 k3
            refine absurd ⟨k.1, ?_⟩ h2
            unfold isEntryB
            rw [if_neg k3, k1]
            exact k2
        rw [slot_none (r := r') (by rw [hs]; exact h1) (by rw [hs]; exact hent)]
        exact ⟨hn, fin _ (by simp) (secI_set (by omega) hin') (fun m e => secI_set_ne (by omega) e)⟩
      · have hs : secI r'.2.wt n = Zs := by rw [hJ]; exact hgn.resolve_left hz
        rw [slot_empty (r := r') (by rw [hs, slotOf_Zs]; exact ⟨rfl, rfl, rfl⟩)]
        exact ⟨hn, fin r'.2.wt rfl hs (fun _ _ => rfl)⟩
/-- A directory's slots, in both. -/
theorem dirK_lk {full : Prop} {N M : Int} {im J : Img} {tkf : Int → Option (List Int)} (ho : Oth full N M im J tkf) : ∀ (l : List Int) (r r' : List ByteArray × LS), LInv N M im r.2 l → LRel im J r.2 r'.2 l → r'.1 = r.1 →
    GG full N M im J (dirK N M im l r).2 (dirK N M im l r).2.q.flatten → GTk tkf (dirK N M im l r).2 → LRel im J (dirK N M im l r).2 (dirK N M J l r').2 []
  | [], r, r', _, h, _, _, _ => h
  | n :: l, r, r', hi, h, hn, hg, ht => by
    obtain ⟨a1, a2, a3⟩ := slot_inv ho.M0 hi
    obtain ⟨b1, b2, ⟨e, q1, q2, q3⟩⟩ := dirK_inv ho.M0 l (slotL N M im n r) a1
    have hg' : GG full N M im J (slotL N M im n r).2 (l ++ (slotL N M im n r).2.q.flatten) := GG.back hg b2 (fun m hm => List.mem_append_left _ hm) (fun m hm => by
      replace hm : m ∈ (dirK N M im l (slotL N M im n r)).2.q.flatten := hm
      rw [q1, List.flatten_append] at hm
      rcases List.mem_append.1 hm with k | k
      · exact .inl (List.mem_append_right _ k)
      · exact .inr (q2 m k).1)
    have ht' : GTk tkf (slotL N M im n r).2 := GTk.back ht b2
    obtain ⟨c1, c2⟩ := slot_lk ho hi h hn hg' ht'
    exact dirK_lk ho l (slotL N M im n r) (slotL N M J n r') a1 c2 c1 hg ht
theorem LRel.pop {im J : Img} {s t : LS} {l : List Int} {q : List (List Int)} (h : LRel im J s t []) (e : s.q = l :: q) : LRel im J { s with q := q } { t with q := q } l := ⟨h.cl, h.wp, h.tk, rfl, h.len, h.wt, h.un, fun m hm => h.raw m (by rw [e]; exact hm)⟩
theorem allL_lk {full : Prop} {N M : Int} {im J : Img} {tkf : Int → Option (List Int)} (ho : Oth full N M im J tkf) : ∀ (f : Nat) (s t : LS), LInv N M im s [] → LRel im J s t [] →
    GG full N M im J (allL N M im f s) [] → GTk tkf (allL N M im f s) → LRel im J (allL N M im f s) (allL N M J f t) []
  | 0, s, t, _, h, _, _ => h
  | f + 1, s, t, hi, h, hg, ht => by
    cases hq : s.q with
    | nil => rw [allL_nil hq, allL_nil (by rw [h.q]; exact hq)]; exact h
    | cons l q =>
      rw [allL_cons hq] at hg ht ⊢
      rw [allL_cons (s := t) (l := l) (q := q) (by rw [h.q]; exact hq)]
      obtain ⟨a1, a2, _⟩ := dirK_inv ho.M0 l ([], { s with q := q }) (hi.pop hq)
      obtain ⟨b1, b2⟩ := allL_inv ho.M0 f (dirL N M im l { s with q := q }) a1
      refine allL_lk ho f _ _ a1 ?_ hg ht
      exact dirK_lk ho l ([], { s with q := q }) ([], { t with q := q }) (hi.pop hq) (h.pop hq) rfl (GG.back hg b2 (fun m hm => hm) (fun m hm => by cases hm)) (GTk.back ht b2)
end Go.Proofs.YtboammbcoleicaaGreat

namespace Go.Proofs.YtboammbcoleicaaGreat

theorem secI_nat_set (wt : Img) (k : Nat) (n : Int) (x : List Int) (hn : n.toNat ≠ k) : secI (wt.set k x) n = secI wt n := by
  unfold secI
  rw [List.getD_eq_getElem?_getD, List.getElem?_set_ne (fun e => hn e.symm), ← List.getD_eq_getElem?_getD]
theorem layK_size (tk : Int → Option (List Int)) (wt : Img) : ∀ k, (layK tk wt k).length = wt.length
  | 0 => rfl
  | k + 1 => by simp only [layK, List.length_set]; exact layK_size tk wt k
/-- What stands where behind the laying of the inodes. -/
theorem layK_at (tk : Int → Option (List Int)) (wt : Img) (n : Int) : ∀ k : Nat, k < wt.length → secI (layK tk wt k) n = if 1 ≤ n ∧ n ≤ k then inodeW tk n else secI wt n
  | 0, _ => by rw [if_neg (by omega)]; rfl
  | k + 1, hk => by
    have ih := layK_at tk wt n k (by omega)
    simp only [layK]
    by_cases e : n = (k : Int) + 1
    · subst e
      rw [if_pos (by omega)]
      have : (k + 1 : Nat) = ((k : Int) + 1).toNat := by omega
      rw [show (layK tk wt k).set (k + 1) (inodeW tk (↑k + 1)) = (layK tk wt k).set ((k : Int) + 1).toNat (inodeW tk (↑k + 1)) by rw [← this], secI_set (by omega) (by rw [layK_size]; omega)]
    · by_cases h1 : 1 ≤ n ∧ n ≤ (k : Int)
      · rw [secI_nat_set _ _ _ _ (by omega), ih, if_pos h1, if_pos (by omega)]
      · by_cases h2 : n.toNat = k + 1
        · omega
        · rw [secI_nat_set _ _ _ _ h2, ih, if_neg h1, if_neg (by omega)]
theorem img_ext {a b : Img} (hl : a.length = b.length) (h : ∀ n : Int, secI a n = secI b n) : a = b := by
  refine List.ext_getElem hl fun k h1 h2 => ?_
  have := h (k : Int)
  unfold secI at this
  rw [List.getD_eq_getElem?_getD, List.getD_eq_getElem?_getD] at this
  simp only [Int.toNat_natCast] at this
  rw [List.getElem?_eq_getElem h1, List.getElem?_eq_getElem h2] at this
  exact this
theorem putT_same (tk : Int → Option (List Int)) (i : Int) (z : List Int) : putT tk i z i = some z := by
  unfold putT
  rw [if_pos rfl]
theorem enter_tk {N M : Int} {im : Img} {i : Int} {s : LS} (h : s.tk i = none) : (enterL N M im i s).tk i = some (moreZ (inoT N M (soundZ M im i).1 s.wt s.cl)) := by
  rw [enter_none h]
  exact putT_same _ _ _
theorem start_inv {N M : Int} {im : Img} (hl : im.length = N) (hs : AllSec im) : LInv N M im (startL im) [] :=
  ⟨hl, fun _ _ => ⟨rfl, rfl⟩, (fun n hn => by cases hn), List.nodup_nil, hs, fun n _ => SubP.refl _, (fun i z hz => by cases hz)⟩
theorem start_lk {im J : Img} (hl : J.length = im.length) : LRel im J (startL im) (startL J) [] :=
  ⟨rfl, rfl, rfl, rfl, hl, fun n => .inr ⟨rfl, rfl⟩, fun _ _ => rfl, fun n hn => by cases hn⟩
theorem root_may {M : Nat} {im : Img} (hr : rootB M im = true) : MayE M im (startL im) 1 := by
  unfold rootB at hr
  rw [Bool.and_eq_true] at hr
  exact hr.1
theorem gone_inv {M : Nat} {im : Img} (hs : AllSec im) (hr : rootB M im = true) : LInv im.length M im (goneL M im) [] ∧ MoL (fun m => m ∈ (enterL im.length M im 1 (startL im)).q.flatten) (enterL im.length M im 1 (startL im)) (goneL M im) :=
  allL_inv (Int.natCast_nonneg M) M _ (enter_inv (Int.natCast_nonneg M) (start_inv rfl hs) (root_may hr))
/-- A look over an image that is partly as it should be: it comes to the same. -/
theorem look_lk {full : Prop} {M : Nat} {im J : Img} (hl : J.length = im.length) (hMl : M < im.length) (hs : AllSec im) (hr : rootB M im = true)
    (h0 : secI J 0 = secI im 0)
    (hI : ∀ i : Int, 1 ≤ i → i ≤ M → (¬ full ∧ secI J i = secI im i) ∨ secI J i = secI (lookL M im).wt i)
    (hD : ∀ n : Int, M < n → n < im.length → secI J n = secI im n ∨ secI J n = secI (lookL M im).wt n)
    (hT : full → ∀ n : Int, M < n → n < im.length → (lookL M im).wp n = false → secI J n = secI (lookL M im).wt n)
    (hS : ¬ full → ∀ n : Int, M < n → n < im.length → (lookL M im).wp n = true → secI J n = secI im n) :
    rootB M J = true ∧ lookL M J = lookL M im := by
  obtain ⟨gi, gm⟩ := gone_inv hs hr
  have hwl : (goneL M im).wt.length = im.length := by have := gi.len; omega
  have wI : ∀ i : Int, 1 ≤ i → i ≤ M → secI (lookL M im).wt i = inodeW (goneL M im).tk i := fun i h1 h2 => by
    show secI (layK _ _ M) i = _
    rw [layK_at _ _ _ M (by omega), if_pos ⟨h1, h2⟩]
  have wD : ∀ n : Int, M < n → secI (lookL M im).wt n = secI (goneL M im).wt n := fun n h1 => by
    show secI (layK _ _ M) n = _
    rw [layK_at _ _ _ M (by omega), if_neg (by omega)]
  have ho : Oth full im.length M im J (goneL M im).tk := by
    refine ⟨Int.natCast_nonneg M, hs, fun hf n h1 h2 => ?_, fun i h1 h2 => ?_, fun i z hz => ?_⟩
    · cases hw : (goneL M im).wp n with
      | true =>
        intro k
        rw [hS hf n h1 h2 hw]
        exact .inl rfl
      | false =>
        rcases hD n h1 h2 with e | e
        · intro k; rw [e]; exact .inl rfl
        · intro k; rw [e, wD n h1]
          exact gi.sub n hw k
    · rw [← wI i h1 h2]; exact hI i h1 h2
    · obtain ⟨a, b, c, d, _⟩ := gi.tk i z hz
      exact ⟨a, b, c, d⟩
  have hg : GG full im.length M im J (goneL M im) [] := fun n h1 h2 h3 _ => by
    refine ⟨?_, fun hf hw => ?_⟩
    · rw [← wD n h1]; exact hD n h1 h2
    · rw [← wD n h1]; exact hT hf n h1 h2 hw
  have ht : GTk (goneL M im).tk (goneL M im) := fun i z hz => by
    obtain ⟨L, e⟩ := set_self z
    exact ⟨L, by rw [← e]; exact hz⟩
  have e1 : LRel im J (enterL im.length M im 1 (startL im)) (enterL im.length M J 1 (startL J)) [] :=
    enter_lk ho (start_inv rfl hs) (start_lk hl) (root_may hr) (GG.back hg gm (fun m hm => hm) (fun m hm => by cases hm)) (GTk.back ht gm)
  have e2 : LRel im J (goneL M im) (goneL M J) [] := by
    have := allL_lk ho M _ _ (enter_inv (Int.natCast_nonneg M) (start_inv rfl hs) (root_may hr)) e1 hg ht
    have hj : goneL M J = allL im.length M J M (enterL im.length M J 1 (startL J)) := by
      unfold goneL
      rw [hl]
    rw [hj]
    exact this
  have hwl' : (goneL M J).wt.length = im.length := by rw [e2.len]; exact hwl
  refine ⟨?_, ?_⟩
  · have hrp : (soundZ M im 1).2 = true ∧ (soundZ M im 1).1.getD 0 0 = 2 := by
      unfold rootB at hr
      rw [Bool.and_eq_true, decide_eq_true_eq] at hr
      exact hr
    have hk : (startL im).tk 1 = none := rfl
    obtain ⟨L, hL⟩ := gm.tk 1 (moreZ (inoT im.length M (soundZ M im 1).1 (startL im).wt (startL im).cl)) (enter_tk hk)
    obtain ⟨s1, s2⟩ := sound_J2 ho hrp.1 hL
    unfold rootB
    rw [s1, Bool.true_and]
    refine decide_eq_true ?_
    rcases s2 with e | e
    · rw [e.2]; exact hrp.2
    · rw [e, (ho.tk 1 _ hL).2.2.2]
      exact hrp.2
  · have hw : layK (goneL M J).tk (goneL M J).wt M = layK (goneL M im).tk (goneL M im).wt M := by
      refine img_ext (by rw [layK_size, layK_size, hwl, hwl']) fun n => ?_
      rw [layK_at _ _ _ M (by omega), layK_at _ _ _ M (by omega), e2.tk]
      by_cases hn : 1 ≤ n ∧ n ≤ (M : Int)
      · rw [if_pos hn, if_pos hn]
      · rw [if_neg hn, if_neg hn]
        rcases e2.wt n with k | k
        · exact k
        · rw [k.1, k.2]
          by_cases hp : (M : Int) < n ∧ n < im.length
          · rcases hD n hp.1 hp.2 with e | e
            · exact e
            · rw [e, wD n hp.1, k.2]
          · by_cases hp0 : n ≤ 0
            · have : n.toNat = (0 : Int).toNat := by omega
              rw [secI_nat this, secI_nat this]
              exact h0
            · unfold secI
              rw [List.getD_eq_getElem?_getD, List.getD_eq_getElem?_getD, List.getElem?_eq_none (by omega), List.getElem?_eq_none (by omega)]
    show LS.mk (layK (goneL M J).tk (goneL M J).wt M) (goneL M J).cl (goneL M J).wp (goneL M J).tk (goneL M J).q = LS.mk (layK (goneL M im).tk (goneL M im).wt M) (goneL M im).cl (goneL M im).wp (goneL M im).tk (goneL M im).q
    rw [hw, e2.cl, e2.wp, e2.tk, e2.q]
end Go.Proofs.YtboammbcoleicaaGreat

namespace Go.Proofs.YtboammbcoleicaaGreat

/-- Some sectors written, one behind the other, as another image has them. -/
def wroteI (W : Img) : List Int → Img → Img
  | [], im => im
  | n :: l, im => wroteI W l (im.set n.toNat (secI W n))
theorem wroteI_len (W : Img) : ∀ (l : List Int) (im : Img), (wroteI W l im).length = im.length
  | [], _ => rfl
  | n :: l, im => by simp only [wroteI]; rw [wroteI_len W l]; simp
theorem wroteI_append (W : Img) : ∀ (l m : List Int) (im : Img), wroteI W (l ++ m) im = wroteI W m (wroteI W l im)
  | [], _, _ => rfl
  | _ :: l, m, _ => wroteI_append W l m _
theorem wroteI_at (W : Img) (x : Int) (hx : 0 ≤ x) : ∀ (l : List Int) (im : Img), (∀ n ∈ l, 0 ≤ n ∧ n < im.length) → secI (wroteI W l im) x = if x ∈ l then secI W x else secI im x
  | [], im, _ => by rw [if_neg (by simp)]; rfl
  | n :: l, im, h => by
    obtain ⟨h0, h1⟩ := h n List.mem_cons_self
    have ih := wroteI_at W x hx l (im.set n.toNat (secI W n)) (fun m hm => by rw [List.length_set]; exact h m (List.mem_cons_of_mem _ hm))
    simp only [wroteI]
    rw [ih]
    by_cases e : x ∈ l
    · rw [if_pos e, if_pos (List.mem_cons_of_mem _ e)]
    · rw [if_neg e]
      by_cases e2 : x = n
      · subst e2
        rw [if_pos List.mem_cons_self, secI_set h0 h1]
      · rw [if_neg (by simp [e, e2]), secI_nat_set _ _ _ _ (by omega)]
theorem filter_take {l : List Int} (h : l.Nodup) (k : Nat) : l.filter (fun x => decide (x ∉ l.take k)) = l.drop k := by
  have e : l = l.take k ++ l.drop k := (List.take_append_drop k l).symm
  have hn : (l.take k ++ l.drop k).Nodup := by rw [← e]; exact h
  obtain ⟨_, _, h3⟩ := List.nodup_append.1 hn
  have : ∀ (a b : List Int), (∀ x ∈ a, ∀ y ∈ b, x ≠ y) → (a ++ b).filter (fun x => decide (x ∉ a)) = b := fun a b hab => by
    rw [List.filter_append, List.filter_eq_nil_iff.2 (fun x hx => by simp [hx]), List.nil_append]
    exact List.filter_eq_self.2 fun x hx => decide_eq_true (fun k => hab x k x hx rfl)
  have h4 := this (l.take k) (l.drop k) h3
  rw [← e] at h4
  exact h4
theorem keysL_filter (n : Nat) (p q : Int → Bool) : (keysL n p).filter q = keysL n fun x => p x && q x := by
  unfold keysL
  rw [List.filter_filter]
  refine List.filter_congr fun x _ => ?_
  rw [Bool.and_comm]
theorem keysL_congr {n : Nat} {p q : Int → Bool} (h : ∀ x : Int, 0 ≤ x → x < n → p x = q x) : keysL n p = keysL n q := by
  unfold keysL
  refine List.filter_congr fun x hx => ?_
  obtain ⟨k, hk, rfl⟩ := List.mem_map.1 hx
  have := List.mem_range.1 hk
  exact h _ (Int.natCast_nonneg k) (Int.ofNat_lt.2 this)
theorem row_mem {M : Nat} {im : Img} {s : LS} {j : Nat} {x : Int} : x ∈ rowL M im s j ↔ 0 ≤ x ∧ x < im.length ∧ wrKind M im s.wt s.wp x = j := by
  unfold rowL
  rw [keysL_mem, decide_eq_true_eq]
theorem row_nodup (M : Nat) (im : Img) (s : LS) (j : Nat) : (rowL M im s j).Nodup :=
  (keysL_up im.length _).imp (fun h e => by omega)
theorem write_nodup (M : Nat) (im : Img) (s : LS) : (writeI M im s).Nodup := by
  rw [writeI_rows]
  have ap : ∀ i j, i ≠ j → ∀ x ∈ rowL M im s i, ∀ y ∈ rowL M im s j, x ≠ y := fun i j hij x hx y hy e => by
    have a := (row_mem.1 hx).2.2
    have b := (row_mem.1 hy).2.2
    rw [e, b] at a
    exact hij a.symm
  refine List.nodup_append.2 ⟨List.nodup_append.2 ⟨row_nodup M im s 0, row_nodup M im s 1, ap 0 1 (by omega)⟩, row_nodup M im s 2, fun x hx y hy => ?_⟩
  rcases List.mem_append.1 hx with k | k
  · exact ap 0 2 (by omega) x k y hy
  · exact ap 1 2 (by omega) x k y hy
theorem write_in {M : Nat} {im : Img} {s : LS} {x : Int} : x ∈ writeI M im s ↔ 0 ≤ x ∧ x < im.length ∧ secI s.wt x ≠ secI im x := by
  rw [writeI_rows, List.mem_append, List.mem_append, row_mem, row_mem, row_mem]
  unfold wrKind
  by_cases e : secI s.wt x = secI im x
  · rw [if_pos e]
    constructor
    · rintro ((⟨_, _, h⟩ | ⟨_, _, h⟩) | ⟨_, _, h⟩) <;> omega
    · rintro ⟨_, _, h⟩; exact absurd e h
  · rw [if_neg e]
    constructor
    · rintro ((⟨a, b, _⟩ | ⟨a, b, _⟩) | ⟨a, b, _⟩) <;> exact ⟨a, b, e⟩
    · rintro ⟨a, b, _⟩
      by_cases h1 : x ≤ M
      · exact .inl (.inr ⟨a, b, by rw [if_pos h1]⟩)
      · by_cases h2 : s.wp x = true
        · exact .inr ⟨a, b, by rw [if_neg h1, if_pos h2]⟩
        · exact .inl (.inl ⟨a, b, by rw [if_neg h1, if_neg h2]⟩)
/-- The image behind some of the writes. -/
def cutI (M : Nat) (im : Img) (k : Nat) : Img := wroteI (lookL M im).wt ((writeI M im (lookL M im)).take k) im
theorem cutI_len (M : Nat) (im : Img) (k : Nat) : (cutI M im k).length = im.length := wroteI_len _ _ _
theorem cutI_at {M : Nat} {im : Img} {k : Nat} {x : Int} (hx : 0 ≤ x) : secI (cutI M im k) x = if x ∈ (writeI M im (lookL M im)).take k then secI (lookL M im).wt x else secI im x :=
  wroteI_at _ x hx _ _ fun n hn => by
    have := write_in.1 (List.mem_of_mem_take hn)
    exact ⟨this.1, this.2.1⟩
theorem cut_look {M : Nat} {im : Img} (hMl : M < im.length) (hs : AllSec im) (hr : rootB M im = true) (k : Nat) :
    rootB M (cutI M im k) = true ∧ lookL M (cutI M im k) = lookL M im := by
  obtain ⟨r0, h0⟩ : ∃ r, r = rowL M im (lookL M im) 0 := ⟨_, rfl⟩
  obtain ⟨r1, h1⟩ : ∃ r, r = rowL M im (lookL M im) 1 := ⟨_, rfl⟩
  obtain ⟨r2, h2⟩ : ∃ r, r = rowL M im (lookL M im) 2 := ⟨_, rfl⟩
  have hw : writeI M im (lookL M im) = (r0 ++ r1) ++ r2 := by rw [writeI_rows, h0, h1, h2]
  have hz := (lookL_kp hr).sec
  have hat := fun (x : Int) (hx : 0 ≤ x) => cutI_at (M := M) (im := im) (k := k) hx
  rw [hw] at hat
  have m0 : ∀ x, x ∈ r0 ↔ 0 ≤ x ∧ x < im.length ∧ wrKind M im (lookL M im).wt (lookL M im).wp x = 0 := fun x => by rw [h0]; exact row_mem
  have m1 : ∀ x, x ∈ r1 ↔ 0 ≤ x ∧ x < im.length ∧ wrKind M im (lookL M im).wt (lookL M im).wp x = 1 := fun x => by rw [h1]; exact row_mem
  have hfew : ¬ (r0 ++ r1).length ≤ k → ∀ x, x ∈ ((r0 ++ r1) ++ r2).take k → x ∈ r0 ++ r1 := fun hk x hx => by
    rw [List.take_append_of_le_length (by omega)] at hx
    exact List.mem_of_mem_take hx
  have hmany : (r0 ++ r1).length ≤ k → ∀ x, x ∈ r0 ++ r1 → x ∈ ((r0 ++ r1) ++ r2).take k := fun hk x hx => by
    rw [List.take_append, List.take_of_length_le hk]
    exact List.mem_append_left _ hx
  refine look_lk (full := (r0 ++ r1).length ≤ k) (cutI_len M im k) hMl hs hr ?_ ?_ ?_ ?_ ?_
  · rw [hat 0 (by omega)]
    split
    · exact hz
    · rfl
  · intro i i1 i2
    rw [hat i (by omega)]
    by_cases hx : i ∈ ((r0 ++ r1) ++ r2).take k
    · rw [if_pos hx]; exact .inr rfl
    · rw [if_neg hx]
      by_cases hf : (r0 ++ r1).length ≤ k
      · right
        have hn : i ∉ r1 := fun e => hx (hmany hf i (List.mem_append_right _ e))
        by_cases he : secI (lookL M im).wt i = secI im i
        · exact he.symm
        · exact absurd ((m1 i).2 ⟨by omega, by omega, by unfold wrKind; rw [if_neg he, if_pos i2]⟩) hn
      · exact .inl ⟨hf, rfl⟩
  · intro n n1 n2
    rw [hat n (by omega)]
    split
    · exact .inr rfl
    · exact .inl rfl
  · intro hf n n1 n2 hwp
    rw [hat n (by omega)]
    by_cases hx : n ∈ ((r0 ++ r1) ++ r2).take k
    · rw [if_pos hx]
    · rw [if_neg hx]
      have hn : n ∉ r0 := fun e => hx (hmany hf n (List.mem_append_left _ e))
      by_cases he : secI (lookL M im).wt n = secI im n
      · exact he.symm
      · exact absurd ((m0 n).2 ⟨by omega, n2, by unfold wrKind; rw [if_neg he, if_neg (by omega), hwp]; rfl⟩) hn
  · intro hf n n1 n2 hwp
    rw [hat n (by omega)]
    by_cases hx : n ∈ ((r0 ++ r1) ++ r2).take k
    · exfalso
      rcases List.mem_append.1 (hfew hf n hx) with e | e
      · have := ((m0 n).1 e).2.2
        unfold wrKind at this
        rw [if_neg (show ¬ n ≤ (M : Int) by omega), hwp] at this
        split at this
        · omega
        · simp at this
      · have := ((m1 n).1 e).2.2
        unfold wrKind at this
        rw [if_neg (show ¬ n ≤ (M : Int) by omega), hwp] at this
        split at this
        · omega
        · simp at this
    · rw [if_neg hx]
theorem cut_write {M : Nat} {im : Img} (k : Nat) : writeI M (cutI M im k) (lookL M im) = (writeI M im (lookL M im)).drop k := by
  rw [← filter_take (write_nodup M im (lookL M im)) k, writeI_rows, writeI_rows]
  have hk : ∀ x : Int, 0 ≤ x → x < im.length → ∀ j, j < 3 → decide (wrKind M (cutI M im k) (lookL M im).wt (lookL M im).wp x = j) = (decide (wrKind M im (lookL M im).wt (lookL M im).wp x = j) && decide (x ∉ (writeI M im (lookL M im)).take k)) := fun x h0 h1 j hj => by
    unfold wrKind
    rw [cutI_at h0]
    by_cases hx : x ∈ (writeI M im (lookL M im)).take k
    · rw [if_pos hx, if_pos rfl]
      simp only [hx, not_true_eq_false, decide_false, Bool.and_false, decide_eq_false_iff_not]
      omega
    · rw [if_neg hx]
      simp only [hx, not_false_eq_true, decide_true, Bool.and_true]
  have hr : ∀ j, j < 3 → rowL M (cutI M im k) (lookL M im) j = (rowL M im (lookL M im) j).filter (fun x => decide (x ∉ (writeI M im (lookL M im)).take k)) := fun j hj => by
    unfold rowL
    rw [keysL_filter, cutI_len]
    exact keysL_congr fun x a b => hk x a b j hj
  rw [hr 0 (by omega), hr 1 (by omega), hr 2 (by omega), List.filter_append, List.filter_append, ← writeI_rows]
theorem cut_sup {M : Nat} {im : Img} (hr : rootB M im = true) (k : Nat) : supOf (cutI M im k) = supOf im := by
  have h0 : secI (cutI M im k) 0 = secI im 0 := by
    rw [cutI_at (by omega)]
    split
    · exact (lookL_kp hr).sec
    · rfl
  unfold supOf
  rw [cutI_len, h0]
/-- All of the writes done: the image is as it should be. -/
theorem cut_all {M : Nat} {im : Img} (hr : rootB M im = true) : cutI M im (writeI M im (lookL M im)).length = (lookL M im).wt := by
  have hlen : (lookL M im).wt.length = im.length := (lookL_kp hr).1
  refine img_ext (by rw [cutI_len, hlen]) fun n => ?_
  by_cases hn : 0 ≤ n
  · rw [cutI_at hn, List.take_of_length_le (Nat.le_refl _)]
    split
    · rfl
    · rename_i h
      by_cases e : secI (lookL M im).wt n = secI im n
      · exact e.symm
      · by_cases hl : n < im.length
        · exact absurd (write_in.2 ⟨hn, hl, e⟩) h
        · unfold secI
          rw [List.getD_eq_getElem?_getD, List.getD_eq_getElem?_getD, List.getElem?_eq_none (by omega), List.getElem?_eq_none (by omega)]
  · have : n.toNat = (0 : Int).toNat := by omega
    rw [secI_nat this, secI_nat (wt := (lookL M im).wt) this, cutI_at (by omega)]
    split
    · rfl
    · exact (lookL_kp hr).sec.symm
end Go.Proofs.YtboammbcoleicaaGreat
