/-
 slices.Clone of the image: a row of sectors of its own.
-/
import Derived.Test.YtpmignilhoihnabGreatX2
import Derived.Shelf.SlicesE.Clone
namespace Go.Proofs.YtpmignilhoihnabGreat
open Go.RowKit Go.Shelf

theorem flat_len : ∀ (im : Img), (∀ s ∈ im, s.length = 128) → (im.flatten).length = im.length * 128
 | [], _ => rfl
 | s :: im, h => by
  have ih := flat_len im fun x hx => h x (List.mem_cons_of_mem _ hx)
  have := h s (by simp);rw [List.flatten_cons, List.length_append, List.length_cons]
  omega
theorem flat_get : ∀ (im : Img), (∀ s ∈ im, s.length = 128) → ∀ (j : Nat) s, im[j]? = some s → ∀ i, i < 128 → (im.flatten)[j * 128 + i]? = s[i]?
 | [], _, j, s, h, _, _ => by simp at h
 | a :: im, hh, 0, s, h, i, hi => by
  simp at h
  subst h;have := hh a (by simp);rw [List.flatten_cons, List.getElem?_append_left (by omega), show 0 * 128 + i = i by omega]
 | a :: im, hh, j + 1, s, h, i, hi => by
  have ih := flat_get im (fun x hx => hh x (List.mem_cons_of_mem _ hx)) j s (by simpa using h) i hi;have := hh a (by simp);rw [List.flatten_cons, List.getElem?_append_right (by omega), ← ih]
  congr 1
  omega
theorem flat_at {im : Img} (hh : ∀ s ∈ im, s.length = 128) {j : Nat} {x : Int} (h : (im.flatten)[j]? = some x) : ∃ s, im[j / 128]? = some s ∧ s[j % 128]? = some x := by
 have hl := flat_len im hh
 have hj : j < im.length * 128 := by rw [← hl]; exact (List.getElem?_eq_some_iff.1 h).1
 have hq : j / 128 < im.length := by omega
 refine ⟨im[j / 128], List.getElem?_eq_getElem hq, ?_⟩;rw [← flat_get im hh (j / 128) _ (List.getElem?_eq_getElem hq) (j % 128) (by omega), show j / 128 * 128 + j % 128 = j by omega]
 exact h

theorem clone_any {b o ic : Nat} {im : Img} {w : World} (h : ImgAt w (some ⟨b, o, none⟩) im) (hn : 1 ≤ im.length) (hm : im.length ≤ 4096) :
  Calls Tryz.prog 32 #[.slice (some ⟨b, o, none⟩) im.length ic] w fun e w' => ∃ g wc, e = .returned (.slice (some ⟨g, 0, none⟩) im.length wc) ∧ w.heap.size ≤ g ∧ WtAt w' g im ∧ Chg w w' No := by
 have hl : ∀ s ∈ im, s.length = 128 := fun s hs => (h.1 s hs).1
 have hfl := flat_len im hl
 obtain ⟨b', o', e, hb, hr⟩ : ∃ b' o', some (⟨b, o, none⟩ : Addr) = some ⟨b', o', none⟩ ∧ b' < w.heap.size ∧ ∀ (j : Nat) s, im[j]? = some s → w.rangeAt b' (o' + j * 128) (s.map (Value.int .u8)) := by
  rcases h.2 with e | e
  ·rw [e] at hn; simp at hn
  ·exact e
 cases e
 have hi : (Tryz.prog.info? 36).map (fun i => (i.zero, i.size, i.bytes)) = some (some (.agg (SA Zs)), 128, 128) := by kernel_rfl
 obtain ⟨i0, hi0, hi1⟩ : ∃ i0, Tryz.prog.info? 36 = some i0 ∧ (i0.zero, i0.size, i0.bytes) = (some (.agg (SA Zs)), 128, 128) := by
  cases hq : Tryz.prog.info? 36 with
  | none => rw [hq] at hi; cases hi
  | some i0 => rw [hq] at hi; exact ⟨i0, rfl, Option.some.inj hi⟩
 simp only [Prod.mk.injEq] at hi1
 refine (AnyE.slices_Clone (ρ := layClone_ren) layClone i0 (.agg (SA Zs)) 128 128 hi0 hi1.1 hi1.2.1 hi1.2.2 (by kernel_rfl) (by decide) (fun w => by kernel_rfl) b o im.length ic (im.flatten.map (Value.int .u8)) w (by rw [List.length_map, hfl]) (by unfold maxLen; omega) (by omega) (fun j u hj => ?_) (fun u hu => ?_)).mono ?_
 ·rw [List.getElem?_map] at hj
  cases hq : im.flatten[j]? with
  | none => rw [hq] at hj; cases hj
  | some x =>
   rw [hq] at hj;have := Option.some.inj hj;subst this;obtain ⟨s, h1, h2⟩ := flat_at hl hq;have := hr (j / 128) s h1 (j % 128) (.int .u8 x) (by rw [List.getElem?_map, h2]; rfl);rw [show o + j = o + j / 128 * 128 + j % 128 by omega]
   exact this
 ·obtain ⟨x, _, rfl⟩ := List.mem_map.1 hu
  rfl
 ·rintro e w' ⟨v', rfl, ⟨_, ho⟩, hne, hb'⟩
  rcases ho with ⟨e, _⟩ | ⟨g, cap, cur, rfl, hg, hh, h1, h2, h3, h4⟩
  ·exact absurd e hne
  ·refine ⟨g, cap, rfl, hg, ⟨h.1, cur, hh, fun j s hj i x hx => ?_⟩, Chg.of_below hb' _⟩
   have hi := (List.getElem?_eq_some_iff.1 hx).1;have hjl := (List.getElem?_eq_some_iff.1 hj).1;rw [hl s (List.mem_of_getElem? hj)] at hi
   have e1 : (cur.toList.take (im.length * 128))[j * 128 + i]? = some (.int .u8 x) := by
    rw [h4, List.getElem?_map, flat_get im hl j s hj i hi, hx]
    rfl
   rw [List.getElem?_take_of_lt (by omega)] at e1
   simpa using e1

end Go.Proofs.YtpmignilhoihnabGreat
