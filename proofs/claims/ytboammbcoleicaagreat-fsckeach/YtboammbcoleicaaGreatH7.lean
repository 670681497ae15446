/-
  Two looks side by side: an inode is taken up.
-/
import Derived.Test.YtboammbcoleicaaGreatH5
namespace Go.Proofs.YtboammbcoleicaaGreat

theorem slot_empty {N M : Int} {im : Img} {n : Int} {r : List ByteArray × LS} (h : (slotOf (secI r.2.wt n)).2.2 = 0 ∧ (slotOf (secI r.2.wt n)).1 = 0 ∧ (slotOf (secI r.2.wt n)).2.1.size = 0) : slotL N M im n r = r := by
  unfold slotL
  simp only
  rw [if_pos h]
theorem slot_entry {N M : Int} {im : Img} {n : Int} {r : List ByteArray × LS} (h : ¬ ((slotOf (secI r.2.wt n)).2.2 = 0 ∧ (slotOf (secI r.2.wt n)).1 = 0 ∧ (slotOf (secI r.2.wt n)).2.1.size = 0))
    (h2 : (slotOf (secI r.2.wt n)).2.2 = 0 ∧ isEntryB M im r.2 (slotOf (secI r.2.wt n)).1 (hasN r.1 (slotOf (secI r.2.wt n)).2.1) = true) :
    slotL N M im n r = ((slotOf (secI r.2.wt n)).2.1 :: r.1, enterL N M im (slotOf (secI r.2.wt n)).1 r.2) := by
  unfold slotL
  simp only
  rw [if_neg h, if_pos h2]
theorem slot_none {N M : Int} {im : Img} {n : Int} {r : List ByteArray × LS} (h : ¬ ((slotOf (secI r.2.wt n)).2.2 = 0 ∧ (slotOf (secI r.2.wt n)).1 = 0 ∧ (slotOf (secI r.2.wt n)).2.1.size = 0))
    (h2 : ¬ ((slotOf (secI r.2.wt n)).2.2 = 0 ∧ isEntryB M im r.2 (slotOf (secI r.2.wt n)).1 (hasN r.1 (slotOf (secI r.2.wt n)).2.1) = true)) :
    slotL N M im n r = (r.1, { r.2 with wt := r.2.wt.set n.toNat Zs }) := by
  unfold slotL
  simp only
  rw [if_neg h, if_neg h2]
theorem Zs_sec' : IsSec Zs := ⟨by simp [Zs], fun x hx => by have := List.eq_of_mem_replicate hx; omega⟩
theorem sub_Zs (a : List Int) : SubP a Zs := fun k => .inr (by rw [ptrs_Zs, Zp_get])
theorem LInv.next {N M : Int} {im : Img} {s : LS} {n : Int} {l : List Int} (h : LInv N M im s (n :: l)) : LInv N M im s l :=
  ⟨h.len, h.un, fun m hm => h.raw m (List.mem_cons_of_mem _ hm), (List.nodup_cons.1 h.nod).2, h.sec, h.sub, h.tk⟩
/-- One slot. -/
theorem slot_inv {N M : Int} {im : Img} (hM : 0 ≤ M) {n : Int} {l : List Int} {r : List ByteArray × LS} (h : LInv N M im r.2 (n :: l)) :
    LInv N M im (slotL N M im n r).2 l ∧ MoL (fun m => m = n) r.2 (slotL N M im n r).2 ∧ MoQ N M r.2 (slotL N M im n r).2 := by
  obtain ⟨c1, c2, c3, c4⟩ := h.raw n List.mem_cons_self
  by_cases h1 : (slotOf (secI r.2.wt n)).2.2 = 0 ∧ (slotOf (secI r.2.wt n)).1 = 0 ∧ (slotOf (secI r.2.wt n)).2.1.size = 0
  · rw [slot_empty h1]
    exact ⟨h.next, MoL.refl _ _, [], by simp, by simp, by simp⟩
  · by_cases h2 : (slotOf (secI r.2.wt n)).2.2 = 0 ∧ isEntryB M im r.2 (slotOf (secI r.2.wt n)).1 (hasN r.1 (slotOf (secI r.2.wt n)).2.1) = true
    · rw [slot_entry h1 h2]
      obtain ⟨a, b⟩ := enter_mo (im := im) (i := (slotOf (secI r.2.wt n)).1) hM h.len
      exact ⟨enter_inv hM h.next (mayE_of h2.2), ⟨a.len, a.cl, fun m hm _ => a.wt m hm (fun e => e), a.wp, a.tk⟩, b⟩
    · rw [slot_none h1 h2]
      have hn : n ∉ l ++ r.2.q.flatten := (List.nodup_cons.1 h.nod).1
      refine ⟨⟨by rw [List.length_set]; exact h.len, fun m hm => ?_, fun m hm => ?_, h.next.nod, h.sec.set n Zs_sec', fun m hm => ?_, h.tk⟩, ⟨by simp, fun _ k => k, fun m hm e => ?_, fun _ _ => rfl, (MoL.refl r.2 (fun _ => False)).tk⟩, ⟨[], by simp, by simp, by simp⟩⟩
      · have hm : r.2.cl m = false := hm
        show secI (r.2.wt.set n.toNat Zs) m = _ ∧ _
        rw [secI_set_ne (by omega) (fun e => by rw [e, c1] at hm; cases hm)]
        exact h.un m hm
      · obtain ⟨a, b, c, d⟩ := h.next.raw m hm
        refine ⟨a, ?_, c, d⟩
        show secI (r.2.wt.set n.toNat Zs) m = _
        rw [secI_set_ne (p := n) (n := m) (by omega) (fun e => hn (by rw [← e]; exact hm))]
        exact b
      · show SubP _ (secI (r.2.wt.set n.toNat Zs) m)
        rcases secI_set_cases r.2.wt n m Zs with k | k
        · rw [k.2]; exact sub_Zs _
        · rw [k]; exact h.sub m hm
      · show secI (r.2.wt.set n.toNat Zs) m = _
        exact secI_set_ne (by omega) e
theorem MoQ.trans {N M : Int} {D : Int → Prop} {a b c : LS} (h : MoQ N M a b) (k : MoQ N M b c) (m : MoL (fun _ => True) a b) (m2 : MoL D b c) (hD : ∀ n, D n → a.cl n = true) (hu : ∀ n, b.cl n = false → secI b.wt n = secI a.wt n) : MoQ N M a c := by
  obtain ⟨e, p1, p2, p3⟩ := h
  obtain ⟨f, q1, q2, q3⟩ := k
  have off : ∀ n, b.cl n = false → a.cl n = false := fun n hn => by
    cases e : a.cl n with
    | false => rfl
    | true => rw [m.cl n e] at hn; cases hn
  refine ⟨e ++ f, by rw [q1, p1, List.append_assoc], fun n hn => ?_, ?_⟩
  · rw [List.flatten_append] at hn
    rcases List.mem_append.1 hn with k | k
    · obtain ⟨a1, a2, a3, a4, a5⟩ := p2 n k
      exact ⟨a1, m2.cl n a2, (m2.wt n a2 (fun e => by have := hD n e; rw [a1] at this; cases this)).trans a3, a4, a5⟩
    · obtain ⟨a1, a2, a3, a4, a5⟩ := q2 n k
      exact ⟨off n a1, a2, a3.trans (hu n a1), a4, a5⟩
  · rw [List.flatten_append]
    refine List.nodup_append.2 ⟨p3, q3, fun x hx y hy e1 => ?_⟩
    have a1 := (p2 x hx).2.1
    have a2 := (q2 y hy).1
    rw [e1, a2] at a1
    cases a1
theorem dirK_inv {N M : Int} {im : Img} (hM : 0 ≤ M) : ∀ (l : List Int) (r : List ByteArray × LS), LInv N M im r.2 l → LInv N M im (dirK N M im l r).2 [] ∧ MoL (fun m => m ∈ l) r.2 (dirK N M im l r).2 ∧ MoQ N M r.2 (dirK N M im l r).2
  | [], r, h => ⟨h, MoL.refl _ _, [], by simp [dirK], by simp, by simp⟩
  | n :: l, r, h => by
    obtain ⟨a1, a2, a3⟩ := slot_inv hM h
    obtain ⟨b1, b2, b3⟩ := dirK_inv hM l (slotL N M im n r) a1
    refine ⟨b1, a2.trans b2 (fun m e => by subst e; exact List.mem_cons_self) (fun m _ e => List.mem_cons_of_mem _ e), ?_⟩
    refine a3.trans b3 ⟨a2.len, a2.cl, fun m _ e => absurd trivial e, a2.wp, a2.tk⟩ b2 (fun m hm => (h.raw m (List.mem_append_left _ (List.mem_cons_of_mem _ hm))).1) (fun m hm => ?_)
    have h1 := (a1.un m hm).1
    have h2 : r.2.cl m = false := by
      cases e : r.2.cl m with
      | false => rfl
      | true => rw [a2.cl m e] at hm; cases hm
    exact h1.trans (h.un m h2).1.symm
theorem LInv.pop {N M : Int} {im : Img} {s : LS} {l : List Int} {q : List (List Int)} (h : LInv N M im s []) (e : s.q = l :: q) : LInv N M im { s with q := q } l :=
  ⟨h.len, h.un, fun m hm => h.raw m (by rw [e]; exact hm), by have := h.nod; rw [e] at this; exact this, h.sec, h.sub, h.tk⟩
theorem allL_inv {N M : Int} {im : Img} (hM : 0 ≤ M) : ∀ (f : Nat) (s : LS), LInv N M im s [] → LInv N M im (allL N M im f s) [] ∧ MoL (fun m => m ∈ s.q.flatten) s (allL N M im f s)
  | 0, s, h => ⟨h, MoL.refl _ _⟩
  | f + 1, s, h => by
    cases hq : s.q with
    | nil => rw [allL_nil hq]; exact ⟨h, MoL.refl _ _⟩
    | cons l q =>
      rw [allL_cons hq]
      obtain ⟨a1, a2, ⟨e, p1, p2, p3⟩⟩ := dirK_inv hM l ([], { s with q := q }) (h.pop hq)
      obtain ⟨b1, b2⟩ := allL_inv hM f (dirL N M im l { s with q := q }) a1
      refine ⟨b1, ?_⟩
      have a2' : MoL (fun m => m ∈ l) s (dirL N M im l { s with q := q }) := ⟨a2.len, a2.cl, a2.wt, a2.wp, a2.tk⟩
      refine a2'.trans b2 (fun m hm => by rw [List.flatten_cons]; exact List.mem_append_left _ hm) (fun m hm hm2 => ?_)
      have p1 : (dirL N M im l { s with q := q }).q = q ++ e := p1
      rw [p1, List.flatten_append] at hm2
      rcases List.mem_append.1 hm2 with k | k
      · rw [List.flatten_cons]; exact List.mem_append_right _ k
      · have := (p2 m k).1
        have hm' : s.cl m = false := this
        rw [hm] at hm'
        cases hm'
end Go.Proofs.YtboammbcoleicaaGreat

namespace Go.Proofs.YtboammbcoleicaaGreat

/-- Two looks side by side. -/
structure LRel (im J : Img) (s t : LS) (rest : List Int) : Prop where
  cl : t.cl = s.cl
  wp : t.wp = s.wp
  tk : t.tk = s.tk
  q : t.q = s.q
  len : t.wt.length = s.wt.length
  wt : ∀ n, secI t.wt n = secI s.wt n ∨ (secI t.wt n = secI J n ∧ secI s.wt n = secI im n)
  un : ∀ n, s.cl n = false → secI t.wt n = secI J n
  raw : ∀ n ∈ rest ++ s.q.flatten, secI t.wt n = secI J n
/-- What the other image has of what is done. -/
def GG (full : Prop) (N M : Int) (im J : Img) (u : LS) (D : List Int) : Prop := ∀ n, M < n → n < N → u.cl n = true → n ∉ D → (secI J n = secI im n ∨ secI J n = secI u.wt n) ∧ (full → u.wp n = false → secI J n = secI u.wt n)
theorem GG.back {full : Prop} {N M : Int} {im J : Img} {u v : LS} {D D' : List Int} {E : Int → Prop} (h : GG full N M im J v D') (m : MoL E u v) (hE : ∀ n, E n → n ∈ D) (hD : ∀ n, n ∈ D' → n ∈ D ∨ u.cl n = false) : GG full N M im J u D := fun n h1 h2 h3 h4 => by
  have := h n h1 h2 (m.cl n h3) (fun e => by
    rcases hD n e with k | k
    · exact h4 k
    · rw [h3] at k; cases k)
  rw [m.wt n h3 (fun e => h4 (hE n e)), m.wp n h3] at this
  exact this
def GTk (tkf : Int → Option (List Int)) (u : LS) : Prop := ∀ i z, u.tk i = some z → ∃ L, tkf i = some (z.set 1 L)
theorem GTk.back {tkf : Int → Option (List Int)} {u v : LS} {E : Int → Prop} (h : GTk tkf v) (m : MoL E u v) : GTk tkf u := fun i z hz => by
  obtain ⟨L, e⟩ := m.tk i z hz
  obtain ⟨L', e'⟩ := h i _ e
  rw [List.set_set] at e'
  exact ⟨L', e'⟩
/-- What is known of the other image. -/
structure Oth (full : Prop) (N M : Int) (im J : Img) (tkf : Int → Option (List Int)) : Prop where
  M0 : 0 ≤ M
  sec : ∀ n, IsSec (secI im n)
  sub : ¬ full → ∀ n, M < n → n < N → SubI im J n
  ino : ∀ i, 1 ≤ i → i ≤ M → (¬ full ∧ secI J i = secI im i) ∨ secI J i = inodeW tkf i
  tk : ∀ i z, tkf i = some z → (soundZ M im i).2 = true ∧ z.length = 18 ∧ inoB z = true ∧ z.getD 0 0 = (soundZ M im i).1.getD 0 0
theorem Zi_ino : inoB Zi = true := rfl
theorem sound_J {full : Prop} {N M : Int} {im J : Img} {tkf : Int → Option (List Int)} (h : Oth full N M im J tkf) {i : Int} (hi : (soundZ M im i).2 = false) : (soundZ M J i).2 = false := by
  by_cases hr : 1 ≤ i ∧ i ≤ M
  · have ht : tkf i = none := by
      cases e : tkf i with
      | none => rfl
      | some z => rw [(h.tk i z e).1] at hi; cases hi
    rcases h.ino i hr.1 hr.2 with k | k
    · unfold soundZ at *
      rw [if_pos hr] at hi ⊢
      rw [k.2]
      exact hi
    · unfold inodeW at k
      rw [ht] at k
      replace k : secI J i = inoS Zi := k
      unfold soundZ
      rw [if_pos hr, k, ino_back (by simp [Zi]) Zi_ino]
      rfl
  · unfold soundZ
    rw [if_neg hr]
theorem sound_J2 {full : Prop} {N M : Int} {im J : Img} {tkf : Int → Option (List Int)} (h : Oth full N M im J tkf) {i : Int} (hi : (soundZ M im i).2 = true) {z : List Int} (hz : tkf i = some z) : (soundZ M J i).2 = true ∧ ((¬ full ∧ (soundZ M J i).1 = (soundZ M im i).1) ∨ (soundZ M J i).1 = z) := by
  obtain ⟨h1, h2, _⟩ := sound_parts hi
  obtain ⟨t1, t2, t3, t4⟩ := h.tk i z hz
  rcases h.ino i h1 h2 with k | k
  · have : soundZ M J i = soundZ M im i := by
      unfold soundZ
      rw [if_pos ⟨h1, h2⟩, if_pos ⟨h1, h2⟩, k.2]
    rw [this]
    exact ⟨hi, .inl ⟨k.1, rfl⟩⟩
  · unfold inodeW at k
    rw [hz] at k
    replace k : secI J i = inoS z := k
    have : soundZ M J i = (z, decide (z.getD 0 0 ≠ 0)) := by
      unfold soundZ
      rw [if_pos ⟨h1, h2⟩, k, ino_back t2 t3]
      simp
    rw [this]
    refine ⟨decide_eq_true ?_, .inr rfl⟩
    rw [t4]
    exact (sound_parts hi).2.2.2.1
/-- An inode that is taken up, in both. -/
theorem take_lk {full : Prop} {N M : Int} {im J : Img} {tkf : Int → Option (List Int)} (ho : Oth full N M im J tkf) {z y : List Int} (hz : z.length = 18) (hy : y.length = 18) (h0 : y.getD 0 0 = z.getD 0 0) (h2 : y.getD 2 0 = z.getD 2 0) (h3 : y.getD 3 0 = z.getD 3 0)
    {s t : LS} {rest : List Int} (hi : LInv N M im s rest) (h : LRel im J s t rest)
    (hp : ∀ m, 4 ≤ m → m < 18 → y.getD m 0 = (inoT N M z s.wt s.cl).getD m 0 ∨ (¬ full ∧ y.getD m 0 = z.getD m 0)) (hg : GG full N M im J (takeL N M z s) (rest ++ (takeL N M z s).q.flatten)) :
    inoT N M y t.wt t.cl = inoT N M z s.wt s.cl ∧ LRel im J (takeL N M z s) (takeL N M y t) rest := by
  have hM := ho.M0
  have hw := hi.len
  have hw' : t.wt.length = N := by rw [h.len]; exact hw
  have hm := dbl_mo (N := N) (M := M) hM z s.wt s.cl hw
  have hm' := dbl_mo (N := N) (M := M) hM y t.wt t.cl hw'
  have hok := dblT_ok N M z s.wt s.cl
  obtain ⟨new, e, p, d⟩ := hm.sp
  replace e : (dblT N M z s.wt s.cl).2.sp = new := e
  rw [← e] at p d
  obtain ⟨new', e', p', d'⟩ := hm'.sp
  replace e' : (dblT N M y t.wt t.cl).2.sp = new' := e'
  rw [← e'] at p' d'
  have htr : TR im J ⟨s.wt, s.cl, []⟩ ⟨t.wt, t.cl, []⟩ := ⟨h.cl, rfl, h.len, h.wt, fun n hn => ⟨(hi.un n hn).1, h.un n hn⟩, fun x hx => by cases hx⟩
  have hne : ∀ n, s.cl n = true → ∀ x ∈ (dblT N M z s.wt s.cl).2.sp, x.2 ≠ n := fun n hn x hx e1 => by
    have := (p x hx).1
    rw [e1] at this
    replace this : s.cl n = false := this
    rw [hn] at this
    cases this
  have hpos : ∀ x ∈ (dblT N M z s.wt s.cl).2.sp, 0 < x.2 := fun x hx => by have := (hok x hx).1; omega
  have hfin : FinT full N M im J ⟨s.wt, s.cl, []⟩ (dblT N M z s.wt s.cl).2 := by
    intro n n1 n2 c1 c2 c3
    replace c1 : s.cl n = false := c1
    have hwp := (hi.un n c1).2
    have hold : n ∉ rest ++ s.q.flatten := fun e => by
      have := (hi.raw n e).1
      rw [c1] at this
      cases this
    by_cases hk : z.getD 0 0 = 2
    · rw [takeL_dir hk] at hg
      have := hg n n1 n2 c2 (fun e => by
        simp only [List.flatten_append, List.flatten_cons, List.flatten_nil, List.append_nil] at e
        rw [← List.append_assoc] at e
        rcases List.mem_append.1 e with k | k
        · exact hold k
        · obtain ⟨x, hx, e1⟩ := List.mem_map.1 k
          exact c3 x hx e1)
      by_cases hfl : full
      · exact .inr (this.2 hfl hwp)
      · rcases this.1 with k | k
        · exact .inl ⟨hfl, k⟩
        · exact .inr k
    · rw [takeL_file hk] at hg
      have := hg n n1 n2 c2 hold
      have q1 : secI (wipeW (z.getD 2 0) (dblT N M z s.wt s.cl).2.sp (dblT N M z s.wt s.cl).2.wt) n = secI (dblT N M z s.wt s.cl).2.wt n := wipe_ne hpos c3
      have q2 : wipeP (z.getD 2 0) (dblT N M z s.wt s.cl).2.sp s.wp n = s.wp n := wipeP_ne c3
      simp only at this
      rw [q1, q2] at this
      by_cases hfl : full
      · exact .inr (this.2 hfl hwp)
      · rcases this.1 with k | k
        · exact .inl ⟨hfl, k⟩
        · exact .inr k
  obtain ⟨r1, r2⟩ := ino_lk hM (fun n _ _ => ho.sec n) ho.sub hz hy h0 h2 h3 hw htr hp hfin
  refine ⟨r1, ?_⟩
  have spw : ∀ x ∈ (dblT N M z s.wt s.cl).2.sp, secI (dblT N M y t.wt t.cl).2.wt x.2 = secI J x.2 ∧ secI (dblT N M z s.wt s.cl).2.wt x.2 = secI im x.2 := fun x hx => by
    have a := (p' x (by rw [r2.sp]; exact hx)).2.2
    have b := p x hx
    exact ⟨a.trans (h.un x.2 b.1), b.2.2.trans (hi.un x.2 b.1).1⟩
  by_cases hk : z.getD 0 0 = 2
  · rw [takeL_dir hk, takeL_dir (h0.trans hk)]
    refine ⟨r2.cl, h.wp, h.tk, by rw [h.q, r2.sp], r2.len, r2.wt, fun n hn => (r2.un n hn).2, fun n hn => ?_⟩
    simp only [List.flatten_append, List.flatten_cons, List.flatten_nil, List.append_nil] at hn
    rw [← List.append_assoc] at hn
    rcases List.mem_append.1 hn with k | k
    · have c := (hi.raw n k).1
      exact (hm'.wt n (by rw [show (⟨t.wt, t.cl, []⟩ : TS).cl = s.cl from h.cl]; exact c)).trans (h.raw n k)
    · obtain ⟨x, hx, rfl⟩ := List.mem_map.1 k
      exact (spw x hx).1
  · have hk' : y.getD 0 0 ≠ 2 := by rw [h0]; exact hk
    rw [takeL_file hk] at hg
    rw [takeL_file hk, takeL_file hk', h2, r2.sp]
    have hlen' : (dblT N M y t.wt t.cl).2.wt.length = (dblT N M z s.wt s.cl).2.wt.length := r2.len
    refine ⟨r2.cl, by simp only [h.wp], h.tk, h.q, by simp only [wipe_len]; exact hlen', fun n => ?_, fun n hn => ?_, fun n hn => ?_⟩
    · show secI (wipeW _ _ (dblT N M y t.wt t.cl).2.wt) n = secI (wipeW _ _ (dblT N M z s.wt s.cl).2.wt) n ∨ (secI (wipeW _ _ (dblT N M y t.wt t.cl).2.wt) n = _ ∧ secI (wipeW _ _ (dblT N M z s.wt s.cl).2.wt) n = _)
      by_cases hl : ∃ l, lastB (z.getD 2 0) (dblT N M z s.wt s.cl).2.sp = some l ∧ l.2 = n
      · obtain ⟨l, hl, rfl⟩ := hl
        left
        have hmem := lastB_mem hl
        have g := (hg l.2 (hok l hmem).1 (hok l hmem).2 (p l hmem).2.1 (fun e => by
          have := (hi.raw l.2 e).1
          have k := (p l hmem).1
          replace k : s.cl l.2 = false := k
          rw [k] at this
          cases this)).1
        simp only at g
        unfold wipeW at g ⊢
        rw [hl] at g ⊢
        simp only at g ⊢
        have hin : l.2 < (dblT N M z s.wt s.cl).2.wt.length := by
          have := (hok l hmem).2
          rw [hm.len]
          show l.2 < (s.wt.length : Int)
          rw [hw]; exact this
        have h0' : 0 ≤ l.2 := by have := hpos l hmem; omega
        rw [secI_set h0' hin] at g ⊢
        rw [secI_set h0' (by rw [hlen']; exact hin), (spw l hmem).1, (spw l hmem).2]
        rw [(spw l hmem).2] at g
        rcases g with e1 | e1
        · rw [e1]
        · rw [e1, wip_wip (ho.sec l.2).1]
      · have q : ∀ wt : Img, secI (wipeW (z.getD 2 0) (dblT N M z s.wt s.cl).2.sp wt) n = secI wt n := fun wt => by
          unfold wipeW
          cases e1 : lastB (z.getD 2 0) (dblT N M z s.wt s.cl).2.sp with
          | none => rfl
          | some l => exact secI_set_ne (hpos l (lastB_mem e1)) (fun e2 => hl ⟨l, e1, e2.symm⟩)
        rw [q, q]
        exact r2.wt n
    · have hn' : ∀ x ∈ (dblT N M z s.wt s.cl).2.sp, x.2 ≠ n := fun x hx e1 => by
        have := (p x hx).2.1
        rw [e1] at this
        replace hn : (dblT N M z s.wt s.cl).2.cl n = false := hn
        rw [hn] at this
        cases this
      show secI (wipeW _ _ (dblT N M y t.wt t.cl).2.wt) n = _
      rw [wipe_ne hpos hn']
      exact (r2.un n hn).2
    · have c := (hi.raw n hn).1
      show secI (wipeW _ _ (dblT N M y t.wt t.cl).2.wt) n = _
      rw [wipe_ne hpos (hne n c)]
      exact (hm'.wt n (by rw [show (⟨t.wt, t.cl, []⟩ : TS).cl = s.cl from h.cl]; exact c)).trans (h.raw n hn)
end Go.Proofs.YtboammbcoleicaaGreat
