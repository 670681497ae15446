/-
  What SpaceGives keeps of sectors, without a program; and what is known of memory while it plays.
-/
import Derived.Test.YtdddcllakjeplaaU0
namespace Go.Proofs.Ytdddcllakjeplaa
open Go.RowKit

theorem count_split (L : List Bool) (k : Nat) (h : ∀ j : Nat, j < k → hasL L j = false) : L.count true = (L.drop k).count true := by
  have e : (L.take k).count true = 0 := by
    rw [List.count_eq_zero]
    intro hm
    obtain ⟨j, hj, e⟩ := List.mem_iff_getElem.1 hm
    rw [List.length_take] at hj
    rw [List.getElem_take] at e
    have := h j (by omega)
    rw [hasL_get L j (by omega), e] at this
    cases this
  have := congrArg (List.count true) (List.take_append_drop k L)
  rw [List.count_append, e] at this
  omega
/-- There is a first one just if not all are taken. -/
theorem gives_room {s : SS} (h : s.Ok) {y : Int} {bb : Bool} (hF : FirstIs (bt s.T) ((s.ni : Int) + 1) y bb) : (bb = true → s.T.count 1 + s.T.count 2 + s.ni + 1 < s.ns) ∧ (bb = false → s.T.count 1 + s.T.count 2 + s.ni + 1 = s.ns) := by
  have hl : (bt s.T).length = s.ns := by rw [bt_len, h.lT]
  have e := count_split (bt s.T) (s.ni + 1) (fun j hj => by rw [bt_has, atT_nat, h.t0 j (by omega)]; rfl)
  rw [bt_count _ h.t2] at e
  have hd : ((bt s.T).drop (s.ni + 1)).length = s.ns - (s.ni + 1) := by rw [List.length_drop, hl]
  have h3 := h.i3
  constructor
  · intro hb
    obtain ⟨e1, e2, e3, e4, _⟩ := hF.yes hb
    obtain ⟨Y, rfl⟩ := Int.eq_ofNat_of_zero_le e2
    rw [hl] at e3
    have hc := count_top ((bt s.T).drop (s.ni + 1))
    rcases Nat.lt_or_ge (((bt s.T).drop (s.ni + 1)).count true) ((bt s.T).drop (s.ni + 1)).length with c | c
    · omega
    · have hf := count_full _ (Nat.le_antisymm hc c) ((Y - (s.ni + 1) : Nat) : Int) ⟨by omega, by omega⟩
      rw [hasL_nat, List.getD_eq_getElem?_getD, List.getElem?_drop, show s.ni + 1 + (Y - (s.ni + 1)) = Y by omega, ← List.getD_eq_getElem?_getD, ← hasL_nat, e4] at hf
      cases hf
  · intro hb
    have hn := (hF.no hb).2
    rw [hl] at hn
    have hf := full_count ((bt s.T).drop (s.ni + 1)) (fun i h1 h2 => by
      obtain ⟨J, rfl⟩ := Int.eq_ofNat_of_zero_le h1
      rw [hd] at h2
      rw [hasL_nat, List.getD_eq_getElem?_getD, List.getElem?_drop, ← List.getD_eq_getElem?_getD, ← hasL_nat]
      exact hn _ (by omega) (by omega) (by omega))
    omega
theorem block_least {s : SS} (h : s.Ok) {y : Int} {bb : Bool} (hF : FirstIs (bt s.T) ((s.ni : Int) + 1) y bb) : (bb = true → ∃ E : Nat, y = (E : Int) ∧ s.ni < E ∧ E < s.ns ∧ s.T.getD E 0 = 0 ∧ ∀ j : Nat, s.ni < j → j < E → s.T.getD j 0 ≠ 0) ∧ (bb = false → y = 0) := by
  have hl : (bt s.T).length = s.ns := by rw [bt_len, h.lT]
  constructor
  · intro hb
    obtain ⟨e1, e2, e3, e4, e5⟩ := hF.yes hb
    obtain ⟨Y, rfl⟩ := Int.eq_ofNat_of_zero_le e2
    rw [hl] at e3
    refine ⟨Y, rfl, by omega, by omega, ?_, fun j h1 h2 hz => ?_⟩
    · rw [bt_has, atT_nat] at e4; simpa using e4
    · have := e5 j (by omega) (by omega) (by omega)
      rw [bt_has, atT_nat, hz] at this
      cases this
  · intro hb
    exact (hF.no hb).1
def InG (w wr : World) (X lo hi p a b U : Nat) (s : SS) : Prop := Kit w wr X lo hi p a b s ∧ wr.heap[U]? = some (.cells (IA s.T) 3 (0, 0)) ∧ (s.ni = b ∧ s.ns = a) ∧ s.ri = (b : Int) - 1
section
variable {w wr wr' : World} {X lo hi p a b U : Nat} {s : SS}
theorem InG.at (h : InG w wr X lo hi p a b U s) (k : Nat) (hk : k < a) : wr.cell? ⟨U, k, none⟩ = some (.int .i64 (s.T.getD k 0 : Nat)) := by
  rw [cell_of_row _ _ _ _ _ _ h.2.1, IA_get _ _ (by rw [h.1.s.ok.lT, h.2.2.1.2]; omega)]
theorem InG.chg (h : InG w wr X lo hi p a b U s) (hs : IsS wr' lo hi p s) (hc : Chg wr wr' (Rg lo hi)) (hU : hi ≤ U) : InG w wr' X lo hi p a b U s := ⟨h.1.chg hs hc, hc.new h.2.1 hU, h.2.2⟩
theorem InG.call (h : InG w wr X lo hi p a b U s) (hb : Below wr.heap.size wr wr') : InG w wr' X lo hi p a b U s := ⟨h.1.call hb, (Chg.of_below hb No).keep h.2.1 (fun e => e), h.2.2⟩
theorem InG.drewN (h : InG w wr X lo hi p a b U s) (n : Nat) : InG w (wr.drewN n) X lo hi p a b U s := ⟨h.1.drewN n, h.2.1, h.2.2⟩
theorem InG.set (h : InG w wr X lo hi p a b U s) (i v : Nat) (hs : IsS wr' lo hi p (s.setT i v)) (hc : Chg wr wr' (Rg lo hi)) (hU : hi ≤ U) : InG w (wr'.setCell ⟨U, i, none⟩ (.int .i64 (v : Int))) X lo hi p a b U (s.setT i v) :=
  ⟨(h.1.chg hs hc).set hU i _, by
    have := IA_put (hc.new h.2.1 hU) i v
    rw [show (s.setT i v).T = s.T.set i v by show putT s.T i v = _; unfold putT; rw [Int.toNat_natCast]]
    exact this, h.2.2⟩
end
theorem setT_count {s : SS} (h : s.Ok) (i v : Nat) (hi : i < s.ns) (x : Nat) (hx : s.T.getD i 0 = x) (c : Nat) : (s.setT i v).T.count c + (if x = c then 1 else 0) = s.T.count c + (if v = c then 1 else 0) := by
  have := count_putT s.T i v c ⟨by omega, by rw [h.lT]; omega⟩
  rw [atT_nat, hx] at this
  exact this
theorem counts_le {s : SS} (h : s.Ok) : s.T.count 1 + s.T.count 2 ≤ 4096 := by
  have := count_top (bt s.T)
  rw [bt_count _ h.t2, bt_len, h.lT] at this
  have := h.n2
  omega
theorem nil_counts (a b : Nat) : (nil0 a b).T.count 1 = 0 ∧ (nil0 a b).T.count 2 = 0 := by
  unfold nil0
  simp [List.count_replicate]

end Go.Proofs.Ytdddcllakjeplaa
