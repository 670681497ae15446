/-
  append of an image onto an empty list of the call's own.
-/
import Derived.Test.YtboammbcoleicaaGreatX3
import Derived.Test.YtboammbcoleicaaGreatR1
namespace Go.Proofs.YtboammbcoleicaaGreat
open Go.RowKit Go.Shelf

theorem infoSec : ∃ i, Tryz.prog.info? 40 = some i ∧ i.zero = some (.agg (SA Zs)) ∧ i.size = 128 ∧ i.bytes = 128 := by
  have h : (Tryz.prog.info? 40).map (fun i => (i.zero, i.size, i.bytes)) = some (some (.agg (SA Zs)), 128, 128) := by kernel_rfl
  cases hq : Tryz.prog.info? 40 with
  | none => rw [hq] at h; cases h
  | some i =>
    rw [hq] at h
    have h := Option.some.inj h
    simp only [Prod.mk.injEq] at h
    exact ⟨i, rfl, h.1, h.2.1, h.2.2⟩
theorem img_src {b o : Nat} {im : Img} {w : World} (h : ImgAt w (some ⟨b, o, none⟩) im) (hn : 1 ≤ im.length) : ∀ (j : Nat) u, (im.flatten.map (Value.int .u8))[j]? = some u → w.cell? ((⟨b, o, none⟩ : Addr).add j) = some u := fun j u hj => by
  have hl : ∀ s ∈ im, s.length = 128 := fun s hs => (h.1 s hs).1
  obtain ⟨b', o', e, hb, hr⟩ : ∃ b' o', some (⟨b, o, none⟩ : Addr) = some ⟨b', o', none⟩ ∧ b' < w.heap.size ∧ ∀ (j : Nat) s, im[j]? = some s → w.rangeAt b' (o' + j * 128) (s.map (Value.int .u8)) := by
    rcases h.2 with e | e
    · rw [e] at hn; simp at hn
    · exact e
  cases e
  rw [List.getElem?_map] at hj
  cases hq : im.flatten[j]? with
  | none => rw [hq] at hj; cases hj
  | some x =>
    rw [hq] at hj
    have := Option.some.inj hj
    subst this
    obtain ⟨s, h1, h2⟩ := flat_at hl hq
    have := hr (j / 128) s h1 (j % 128) (.int .u8 x) (by rw [List.getElem?_map, h2]; rfl)
    rw [addr_add, show o + j = o + j / 128 * 128 + j % 128 by omega]
    exact this
theorem wt_of_row {w : World} {B : Nat} {v : Value} {im : Img} (hs : ∀ s ∈ im, IsSec s) (hn : 1 ≤ im.length) (h : w.ownsRow B 40 128 v im.length (im.flatten.map (Value.int .u8))) : ∃ g cap, v = .slice (some ⟨g, 0, none⟩) im.length cap ∧ B ≤ g ∧ WtAt w g im := by
  have hl : ∀ s ∈ im, s.length = 128 := fun s hx => (hs s hx).1
  rcases h.2 with ⟨e, hz⟩ | ⟨g, cap, cur, rfl, hg, hh, h1, h2, h3, h4⟩
  · have hz : im.length = 0 := by
      rcases hz with hz
      simpa using hz
    omega
  · refine ⟨g, cap, rfl, hg, hs, cur, hh, fun j s hj i x hx => ?_⟩
    have hi := (List.getElem?_eq_some_iff.1 hx).1
    have hjl := (List.getElem?_eq_some_iff.1 hj).1
    rw [hl s (List.mem_of_getElem? hj)] at hi
    have e1 : (cur.toList.take (im.length * 128))[j * 128 + i]? = some (.int .u8 x) := by
      rw [h4, List.getElem?_map, flat_get im hl j s hj i hi, hx]
      rfl
    rw [List.getElem?_take_of_lt (by omega)] at e1
    simpa using e1
section
variable {ops : Array Oper} {rest : List Oper} {o : Oper} {a : Act} {Q : Exit → Act → World → Prop} {w : World}
theorem wp_appImg (hg : o.guard = none) (s x : Operand) (hop : o.op = .call { callee := .builtin .append, args := #[s, x], argTypes := #[26, 26] }) (B g b off c : Nat) (im : Img) (hs : a.eval s = .slice (some ⟨g, 0, none⟩) 0 0) (hx : a.eval x = .slice (some ⟨b, off, none⟩) im.length c)
    (h0 : w.heap[g]? = some (.cells #[] 40 (0, 0))) (hBg : B ≤ g) (hI : ImgAt w (some ⟨b, off, none⟩) im) (hn : 1 ≤ im.length) (hl : im.length ≤ 4096)
    (hK : ∀ g' c' w', B ≤ g' → WtAt w' g' im → Chg w w' (fun k => k = g) → wpList Tryz.prog ops Q rest (a.put o.dst (.slice (some ⟨g', 0, none⟩) im.length c')) w') : wpList Tryz.prog ops Q (o :: rest) a w := by
  obtain ⟨i, hi, hz, hsz, hby⟩ := infoSec
  have hfl := flat_len im (fun s hx => (hI.1 s hx).1)
  have hown : w.ownsRow B 40 128 (.slice (some ⟨g, 0, none⟩) 0 0) 0 ([] : List Value) := ⟨rfl, .inr ⟨g, 0, #[], rfl, hBg, h0, Nat.le_refl _, by unfold maxLen; omega, rfl, rfl⟩⟩
  refine wpList_append_own_at w hg s x 26 hop B 40 i _ 128 128 Tryz.underlying26 hi hz hsz hby (by rw [show Value.cells (.agg (SA Zs)) = SA Zs from rfl, SA_size, Zs_len]) (by decide) _ 0 [] hs hown ⟨b, off, none⟩ im.length c (im.flatten.map (Value.int .u8)) hx (by rw [List.length_map, hfl]) (img_src hI hn) (fun u hu => ?_) (by unfold maxLen; omega) (by omega) (by have := slt h0; omega) ?_
  · obtain ⟨y, _, rfl⟩ := List.mem_map.1 hu
    rfl
  · intro v' w' h1 h2 _ _
    rw [Nat.zero_add, List.nil_append] at h1
    obtain ⟨g', c', rfl, hB', hwt⟩ := wt_of_row hI.1 hn h1
    refine hK g' c' w' hB' hwt ((Chg.grown h2).mono fun j _ e => ?_)
    have e := e.symm
    simp [Value.ownBlock] at e
    exact e.symm
end
end Go.Proofs.YtboammbcoleicaaGreat
