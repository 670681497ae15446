/-
  Two tellers side by side, and a block of one's own: Stands, Flush, Eligible; what CacheReads' walk stands on.
-/
import Derived.Test.YtgkanfmkohlmcaaGreatCTwo
namespace Go.Proofs.YtgkanfmkohlmcaaGreat
open Go.RowKit

theorem ScAt.call {w w' : World} {ad : Option Addr} {l : List SV} (h : ScAt w ad l) (hc : Chg w w' No) : ScAt w' ad l := by
  rcases h with h | ⟨b, o, rfl, hb, h⟩
  · exact .inl h
  · refine .inr ⟨b, o, rfl, Nat.lt_of_lt_of_le hb hc.size, fun j hj => ?_⟩
    obtain ⟨a, ca, h1, h2⟩ := h j hj
    exact ⟨a, ca, fun i v hv => cell_keep (h1 i v hv) hc hb (fun e => e), h2.call hc⟩
open Classical in
theorem secs_le {n : Nat} {z : CSt} (h : CInv n z) : (secs z.dirty).length ≤ n := by
  have hn := h.top
  have e : (4096 : Nat) = n + (4096 - n) := by omega
  unfold secs
  rw [e, List.range_add, List.map_append, List.filter_append, List.length_append]
  have h2 : (((List.range (4096 - n)).map (n + ·)).map Int.ofNat).filter (fun x => decide (z.dirty x)) = [] := by
    refine List.filter_eq_nil_iff.2 fun x hx hd => ?_
    obtain ⟨a, ha, rfl⟩ := List.mem_map.1 hx
    obtain ⟨b, _, rfl⟩ := List.mem_map.1 ha
    have := (h.ok _ (of_decide_eq_true hd)).2
    have e2 : Int.ofNat (n + b) = (n : Int) + b := by simp
    rw [e2] at this
    omega
  rw [h2]
  have := List.length_filter_le (fun x => decide (z.dirty x)) ((List.range n).map Int.ofNat)
  simp only [List.length_map, List.length_range] at this
  simpa using this
/-- Two tellers, and a block that is not the first one's cache's. -/
def DuoB (w0 w : World) (n t c p g lb db t2 x2 p2 g2 lb2 db2 : Nat) (s s2 : TSt) (bs : Nat) : Prop :=
  ∃ ρ ov ρ2 ov2, IsT w0 w t c p g n lb db ρ ov s ∧ IsT w0 w t2 x2 p2 g2 n lb2 db2 ρ2 ov2 s2 ∧ (∀ k, Own ρ k → ¬ Blk t2 lb2 db2 ov2 ρ2 k) ∧ (∀ k, Own ρ2 k → ¬ Blk t lb db ov ρ k) ∧ ¬ Own ρ bs
section
variable {w0 w1 w w' : World} {n t c p g lb db t2 x2 p2 g2 lb2 db2 bs : Nat} {s s2 : TSt}
theorem Duo.beside (h : Duo w0 w n t c p g lb db t2 x2 p2 g2 lb2 db2 s s2) (hc : Chg w w' No) : DuoB w0 w' n t c p g lb db t2 x2 p2 g2 lb2 db2 s s2 w.heap.size := by
  obtain ⟨ρ, ov, ρ2, ov2, a, b, d1, d2⟩ := h
  exact ⟨ρ, ov, ρ2, ov2, a.call hc, b.call hc, d1, d2, fun e => by have := a.ca.lt e; omega⟩
theorem DuoB.call (h : DuoB w0 w n t c p g lb db t2 x2 p2 g2 lb2 db2 s s2 bs) (hc : Chg w w' No) : DuoB w0 w' n t c p g lb db t2 x2 p2 g2 lb2 db2 s s2 bs := by
  obtain ⟨ρ, ov, ρ2, ov2, a, b, r⟩ := h
  exact ⟨ρ, ov, ρ2, ov2, a.call hc, b.call hc, r⟩
theorem DuoB.duo (h : DuoB w0 w n t c p g lb db t2 x2 p2 g2 lb2 db2 s s2 bs) : Duo w0 w n t c p g lb db t2 x2 p2 g2 lb2 db2 s s2 := by
  obtain ⟨ρ, ov, ρ2, ov2, a, b, d1, d2, _⟩ := h
  exact ⟨ρ, ov, ρ2, ov2, a, b, d1, d2⟩
theorem duo_post {ρ ρ2 : Nat → Option Role} {ov ov2 : Value} {z' : CSt} (a : IsT w0 w t c p g n lb db ρ ov s) (b : IsT w0 w t2 x2 p2 g2 n lb2 db2 ρ2 ov2 s2) (d1 : ∀ k, Own ρ k → ¬ Blk t2 lb2 db2 ov2 ρ2 k) (d2 : ∀ k, Own ρ2 k → ¬ Blk t lb db ov ρ k) (hP : CPost w w' c p g n ρ z') : Duo w0 w' n t c p g lb db t2 x2 p2 g2 lb2 db2 { s with z := z' } s2 := by
  obtain ⟨ρ', k1, k2, k3⟩ := hP
  have hs := a.ch.size
  have keep : ∀ k, k < w.heap.size → ¬ Own ρ k → ¬ Own ρ' k := fun k hk hn ho => by
    rcases k2 k ho with e | e
    · exact hn e
    · omega
  have a' : IsT w0 w' t c p g n lb db ρ' ov { s with z := z' } := by
    refine ⟨k3.keep a.me a.nt, k1, k3.keep a.la a.nl, k3.keep a.da a.nd, row_keep a.oa k3 a.no, a.ll, a.dl, keep _ (slt a.me) a.nt, keep _ (slt a.la) a.nl, keep _ (slt a.da) a.nd, fun k hk => keep k (row_ge a.oa hk).2 (a.no k hk), a.bt, a.bl, a.bd, fun k hk => ?_, a.ch.trans k3 (fun _ _ e => e) (fun j hj e => ?_)⟩
    · rcases k2 k hk with e | e
      · exact a.bo k e
      · omega
    · have := a.bo j e
      omega
  refine ⟨ρ', ov, ρ2, ov2, a', b.aside k3 (fun k hk ho => d1 k ho hk) (fun k hk => a.bo k hk), fun k hk hb => ?_, fun k hk hb => ?_⟩
  · exact keep k (b.blk_lt hb) (fun e => d1 k e hb) hk
  · rcases hb with e | e | e | e | e
    · exact d2 k hk (.inl e)
    · exact d2 k hk (.inr (.inl e))
    · exact d2 k hk (.inr (.inr (.inl e)))
    · exact d2 k hk (.inr (.inr (.inr (.inl e))))
    · exact keep k (b.ca.lt hk) (fun e => d2 k hk (.inr (.inr (.inr (.inr e))))) e
set_option maxRecDepth 100000 in
theorem DuoB.stands (x : Int) (h : DuoB w0 w n t c p g lb db t2 x2 p2 g2 lb2 db2 s s2 bs) (hx : 0 ≤ x ∧ x < n) (ha : Alive s.z) {o : Obj} (ho : w.heap[bs]? = some o) : Calls Tryz.prog 16 #[.pointer (some ⟨c, 0, none⟩), .int .i64 x] w fun e w' => e = .returned (.tuple #[.agg (D.SA (D.secK s.z.d.S x.toNat)), .int .i64 0]) ∧ Duo w0 w' n t c p g lb db t2 x2 p2 g2 lb2 db2 s s2 ∧ w'.heap[bs]? = some o := by
  obtain ⟨ρ, ov, ρ2, ov2, a, b, d1, d2, d3⟩ := h
  refine (standC_any x a.ca).mono ?_
  rintro e w' ⟨rfl, hP⟩
  rw [stand_alive ha hx] at hP ⊢
  have hc : Chg w w' (Own ρ) := by
    obtain ⟨_, _, _, hc⟩ := hP
    exact hc
  exact ⟨rfl, duo_post a b d1 d2 hP, hc.keep ho d3⟩
set_option maxRecDepth 100000 in
theorem DuoB.flush (x : Int) (h : DuoB w0 w n t c p g lb db t2 x2 p2 g2 lb2 db2 s s2 bs) (hx : I64 x) (ht : TB s.z) (hw : s.z.d.wr < 4611686018427380000) : Calls Tryz.prog 14 #[.pointer (some ⟨c, 0, none⟩), .int .i64 x] w fun e w' => e = .returned (.tuple #[.bool (flushC n s.z x).2.1, .int .i64 (flushC n s.z x).2.2]) ∧ Duo w0 w' n t c p g lb db t2 x2 p2 g2 lb2 db2 { s with z := (flushC n s.z x).1 } s2 ∧ Chg w w' (fun k => k ≠ bs) := by
  obtain ⟨ρ, ov, ρ2, ov2, a, b, d1, d2, d3⟩ := h
  refine (flushC_any x a.ca hx ht hw).mono ?_
  rintro e w' ⟨rfl, hP⟩
  have hc : Chg w w' (Own ρ) := by
    obtain ⟨_, _, _, hc⟩ := hP
    exact hc
  exact ⟨rfl, duo_post a b d1 d2 hP, hc.mono fun j _ e1 e2 => d3 (e2 ▸ e1)⟩
set_option maxRecDepth 100000 in
theorem Duo.eligB (h : Duo w0 w n t c p g lb db t2 x2 p2 g2 lb2 db2 s s2) (hne : ¬ (secs fun x => s.z.dirty x ∧ FreeE s.z.E x).length = 0) : Calls Tryz.prog 12 #[.pointer (some ⟨c, 0, none⟩)] w fun e w' => ∃ gl vc, e = .returned (.slice (some ⟨gl, 0, none⟩) (secs fun x => s.z.dirty x ∧ FreeE s.z.E x).length vc) ∧ gl < w'.heap.size ∧ (∀ k, k < (secs fun x => s.z.dirty x ∧ FreeE s.z.E x).length → w'.cell? ⟨gl, k, none⟩ = some (.int .i64 ((secs fun x => s.z.dirty x ∧ FreeE s.z.E x).getD k 0))) ∧ DuoB w0 w' n t c p g lb db t2 x2 p2 g2 lb2 db2 s s2 gl := by
  obtain ⟨ρ, ov, ρ2, ov2, a, b, d1, d2⟩ := h
  refine (elig_any a.ca).mono ?_
  rintro e w' ⟨v, rfl, hI, hc⟩
  obtain ⟨va, vc, rfl, h1, h2⟩ := hI.lat
  rcases h1 with h1 | ⟨gl, rfl, hg, h1⟩
  · rw [h1] at hne
    exact absurd rfl hne
  · exact ⟨gl, vc, rfl, hg, h1, ρ, ov, ρ2, ov2, a.call hc, b.call hc, d1, d2, fun ho => by have := a.ca.lt ho; have := h2 gl rfl; omega⟩
theorem same_S {S1 S2 : List Int} {L : Int → Int} (h1 : S1.length = 128 * n) (h2 : S2.length = 128 * n) (k1 : ∀ i, i < n → D.secK S1 i = verL (L i)) (k2 : ∀ i, i < n → D.secK S2 i = verL (L i)) : S1 = S2 := by
  refine List.ext_getElem (by omega) fun j hj1 hj2 => ?_
  have hi : j / 128 < n := by omega
  have e := (k1 _ hi).trans (k2 _ hi).symm
  have := congrArg (fun l => l[j % 128]?) e
  unfold D.secK at this
  simp only [List.getElem?_take, List.getElem?_drop] at this
  rw [if_pos (Nat.mod_lt _ (by omega)), if_pos (Nat.mod_lt _ (by omega)), show j / 128 * 128 + j % 128 = j by omega, List.getElem?_eq_getElem hj1, List.getElem?_eq_getElem hj2] at this
  simpa using this
end
/-- What one knows of a teller that stands behind a story. -/
structure Rd (n : Nat) (s : TSt) : Prop where
  tk : TK n s
  ar : s.z.d.ar = false
  wr : s.z.d.wr ≤ 5000 * 1048576
theorem Rd.last {n : Nat} {s : TSt} (h : Rd n s) {k : Nat} (hk : k < n) : readC s.z k = verL (s.last.getD k 0) ∧ 0 ≤ s.last.getD k 0 ∧ s.last.getD k 0 < 16777216 ∧ (s.di.getD k false = false → D.secK s.z.d.S k = verL (s.last.getD k 0)) := by
  have := reads_last h.tk.core hk
  have e : lf s.last (k : Int) = s.last.getD k 0 := by unfold lf; simp
  rw [e] at this
  refine ⟨this.1, this.2.1, this.2.2.1, fun hd => this.2.2.2 fun hy => ?_⟩
  rw [h.tk.fl] at hd
  have := (flags_get hk).2 hy
  rw [hd] at this
  cases this

theorem sync_all {n : Nat} {z : CSt} {L : Int → Int} {nx : Int} {od : List (Int × Int × Int × Int)} (hC : Core n z L nx od) (ha : Alive z) (hc : Calm z) (hw : z.d.wr < 4611686018427380000) :
    (syncC n z).2 = 0 ∧ Core n (syncC n z).1 L nx od ∧ (syncC n z).1.d.wr = z.d.wr + (secs z.dirty).length ∧ ∀ x, ¬ (syncC n z).1.dirty x := by
  have hs := hC.sync hw
  have hca : Calm (syncC n z).1 := syncC_calm hc
  have h0 : (syncC n z).2 = 0 := by
    rcases hs.2 ha with k | k
    · exact k.1
    · have := k.2
      rw [hca.2] at this
      cases this
  have ht := sync_todo hC.inv hC.tb hw
  have hs1 := hs.1
  have hL : ∀ x, x ∈ secs z.dirty ↔ z.dirty x := fun x => secs_mem.trans ⟨fun k => k.2, fun k => ⟨hC.inv.sec k, k⟩⟩
  unfold syncC at h0 hs1 ⊢
  clear hs hca
  generalize secs z.dirty = L at *
  have h1 := wAll_exact hC.inv ht h0
  have h2 := (wAll_wrote L.length L z rfl hC.inv ht).ok h0
  refine ⟨h0, hs1, h1, fun x hx => ?_⟩
  have := (h2.2 x).1 hx
  exact this.2 ((hL x).2 this.1)

end Go.Proofs.YtgkanfmkohlmcaaGreat
