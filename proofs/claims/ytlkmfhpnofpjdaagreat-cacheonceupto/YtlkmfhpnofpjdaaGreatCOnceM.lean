/-
  CacheOnce returns true: the walk.
-/
import Derived.Test.YtlkmfhpnofpjdaaGreatT9
import Derived.Test.YtlkmfhpnofpjdaaGreatCLawS
namespace Go.Proofs.YtlkmfhpnofpjdaaGreat
open Go.RowKit

/-- Edges that lie in memory. -/
def EdAt (w : World) (a : Option Addr) (l : List (Int × Int)) : Prop :=
  l = [] ∨ ∃ g, a = some ⟨g, 0, none⟩ ∧ g < w.heap.size ∧ ∀ k, k < l.length → w.cell? ⟨g, k * 2, none⟩ = some (.int .i64 (l.getD k (0, 0)).1) ∧ w.cell? ⟨g, k * 2 + 1, none⟩ = some (.int .i64 (l.getD k (0, 0)).2)
theorem EdAt.call {w w' : World} {a : Option Addr} {l : List (Int × Int)} (h : EdAt w a l) (hc : Chg w w' No) : EdAt w' a l := by
  rcases h with h | ⟨g, rfl, hg, h⟩
  · exact .inl h
  · exact .inr ⟨g, rfl, Nat.lt_of_lt_of_le hg hc.size, fun k hk => ⟨cell_keep (h k hk).1 hc hg (fun e => e), cell_keep (h k hk).2 hc hg (fun e => e)⟩⟩
theorem EdAt.keep {w w' : World} {a : Option Addr} {l : List (Int × Int)} {ks : Nat → Prop} (h : EdAt w a l) (hc : Chg w w' ks) (hn : ∀ g, a = some ⟨g, 0, none⟩ → ¬ ks g) : EdAt w' a l := by
  rcases h with h | ⟨g, rfl, hg, h⟩
  · exact .inl h
  · exact .inr ⟨g, rfl, Nat.lt_of_lt_of_le hg hc.size, fun k hk => ⟨cell_keep (h k hk).1 hc hg (hn g rfl), cell_keep (h k hk).2 hc hg (hn g rfl)⟩⟩
theorem Edgs.edat {w : World} {base : Nat} {v : Value} {l : List (Int × Int)} (h : Edgs w base v l) : ∃ a c, v = .slice a l.length c ∧ EdAt w a l ∧ ∀ g, a = some ⟨g, 0, none⟩ → base ≤ g := by
  rcases h.2 with ⟨rfl, h0⟩ | ⟨g, cap, cur, rfl, hge, hb, h1, h2, h3, h4⟩
  · have : l = [] := List.eq_nil_of_length_eq_zero h0
    subst this
    exact ⟨none, 0, rfl, .inl rfl, fun g e => by cases e⟩
  · have key : ∀ j u, (cellsE l)[j]? = some u → w.cell? ⟨g, j, none⟩ = some u := by
      intro j u hu
      have hj : j < l.length * 2 := by
        rcases Nat.lt_or_ge j (cellsE l).length with k | k
        · rw [cellsE_len] at k; exact k
        · rw [List.getElem?_eq_none k] at hu; cases hu
      rw [cell_of_row _ _ _ _ _ _ hb, ← Array.getElem?_toList]
      have e : (cur.toList.take (l.length * 2))[j]? = (cellsE l)[j]? := by rw [h4]
      rw [List.getElem?_take_of_lt hj] at e
      rw [e]
      exact hu
    refine ⟨_, cap, rfl, .inr ⟨g, rfl, slt hb, fun k hk => ?_⟩, fun g' e => by cases e; exact hge⟩
    have hg := cellsE_get l k
    rw [List.getElem?_eq_getElem hk] at hg
    have e : l.getD k (0, 0) = l[k] := by simp [hk]
    rw [e, Nat.mul_comm]
    exact ⟨key _ _ hg.1, key _ _ hg.2⟩

variable {n : Nat} {z : CSt}

theorem writeD_one {d : D.St8} {x : Int} {v : List Int} (h : D.writeE d n x = 0) : (D.writeD d n x v).wr = d.wr + 1 := by
  unfold D.writeE at h
  unfold D.writeD
  by_cases h0 : D.refE d n x = 0
  · rw [if_pos h0] at h
    rw [if_pos h0]
    by_cases h1 : d.ar = true ∧ d.lf = 0
    · rw [if_pos h1] at h
      exact absurd h (by decide)
    · rw [if_neg h1]
  · rw [if_neg h0] at h
    exact absurd h h0
theorem wrC_one (hi : CInv n z) {x : Int} (hx : z.dirty x) (h0 : (wrC n z x).2 = 0) : (wrC n z x).1.d.wr = z.d.wr + 1 := by
  obtain ⟨q, hq⟩ := Option.isSome_iff_exists.1 hx
  have hok := hi.ok x hx
  cases hlo : z.lost with
  | true =>
    have e : wrC n z x = (z, 22) := by unfold wrC; rw [if_pos hlo]
    rw [e] at h0
    exact absurd h0 (by simp)
  | false =>
    rcases writeE_cases z.d n x hok.1 hok.2 with he | he
    · rw [wrC_done hlo hq he]
      exact writeD_one he
    · rw [wrC_down hlo hq he] at h0
      exact absurd h0 (by simp)
open Classical in
/-- What was written, counted: all but those that are left. -/
theorem wAll_count : ∀ (k : Nat) (z : CSt) (l : List Int), CInv n z → l.length = k → l.Pairwise (· ≠ ·) → (∀ x, x ∈ l → z.dirty x) → (wAll n k z l).2 = 0 →
    ∃ r : List Int, (∀ x, x ∈ r → x ∈ l ∧ (wAll n k z l).1.dirty x) ∧ (wAll n k z l).1.d.wr + r.length = z.d.wr + l.length
  | 0, z, l, _, hl, _, _, _ => ⟨[], by simp, by rw [hl]; rfl⟩
  | k + 1, z, l, hi, hl, hnd, hdi, h0 => by
    unfold wAll at h0 ⊢
    cases hf : l.find? (fun x => decide (FreeE z.E x)) with
    | none =>
      rw [hf] at h0
      exact ⟨l, fun x hx => ⟨hx, hdi x hx⟩, rfl⟩
    | some x =>
      rw [hf] at h0
      simp only at h0 ⊢
      have hm : x ∈ l := List.mem_of_find?_eq_some hf
      by_cases h1 : (wrC n z x).2 = 0
      · rw [if_pos h1] at h0 ⊢
        have hle : (l.erase x).length = k := by rw [List.length_erase_of_mem hm]; omega
        obtain ⟨r, r1, r2⟩ := wAll_count k (wrC n z x).1 (l.erase x) (wrC_inv hi x) hle (hnd.sublist List.erase_sublist) (wrC_left hi hnd hdi hm h1) h0
        refine ⟨r, fun y hy => ⟨List.mem_of_mem_erase (r1 y hy).1, (r1 y hy).2⟩, ?_⟩
        rw [r2, wrC_one hi (hdi x hm) h1, hle, hl]
        omega
      · rw [if_neg h1] at h0
        exact absurd h0 h1
theorem wAll_exact {l : List Int} (hi : CInv n z) (ht : ToDo n z l) (h0 : (wAll n l.length z l).2 = 0) : (wAll n l.length z l).1.d.wr = z.d.wr + l.length := by
  obtain ⟨r, r1, r2⟩ := wAll_count l.length z l hi rfl ht.nd ht.di h0
  have hw := (wAll_wrote l.length l z rfl hi ht).ok h0
  have : r = [] := by
    cases r with
    | nil => rfl
    | cons a r =>
      have h1 := r1 a (by simp)
      exact absurd h1.1 ((hw.2 a).1 h1.2).2
  rw [this] at r2
  simpa using r2
/-- Those that are left, counted. -/
theorem secs_rest {p q : Int → Prop} {l : List Int} (hl : l.Pairwise (· ≠ ·)) (hs : ∀ x, x ∈ l → Sec x ∧ p x) (hq : ∀ y, q y ↔ p y ∧ y ∉ l) : (secs q).length + l.length = (secs p).length := by
  have hp : (secs q ++ l).Perm (secs p) := by
    refine (List.perm_ext_iff_of_nodup ?_ ?_).2 fun a => ?_
    · refine List.nodup_append.2 ⟨(secs_up q).imp fun {a b} e => by omega, hl, fun a ha b hb e => ?_⟩
      subst e
      exact ((hq a).1 (secs_mem.1 ha).2).2 hb
    · exact (secs_up p).imp fun {a b} e => by omega
    · rw [List.mem_append, secs_mem, secs_mem, hq]
      constructor
      · rintro (⟨h1, h2, _⟩ | h)
        · exact ⟨h1, h2⟩
        · exact hs a h
      · rintro ⟨h1, h2⟩
        by_cases h : a ∈ l
        · exact .inr h
        · exact .inl ⟨h1, h2, h⟩
  rw [← hp.length_eq, List.length_append]
theorem secs_empty {p : Int → Prop} (h : ∀ x, ¬ p x) : secs p = [] := by
  cases he : secs p with
  | nil => rfl
  | cons a r =>
    have : a ∈ secs p := by rw [he]; simp
    exact absurd (secs_mem.1 this).2 (h a)

theorem Reach.sec {E : Int → Int → Prop} (hs : InSec E) {a k : Int} (hk : Sec k) (h : Reach E a k) : Sec a := by
  rcases h with rfl | h
  · exact hk
  · cases h with
    | one h => exact (hs _ _ h).1
    | more h _ => exact (hs _ _ h).1
/-- All that must land ahead of a sector, and it. -/
theorem bef_len (hi : CInv n z) {k : Int} (hk : z.dirty k) : (secs fun a => Reach z.E a k).length = (befC z k).length + 1 := by
  have h := secs_rest (p := fun a => Reach z.E a k) (q := fun a => a ≠ k ∧ Reach z.E a k) (l := [k]) (by simp) (fun x hx => by
    rw [List.mem_singleton.1 hx]
    exact ⟨hi.sec hk, .inl rfl⟩) (fun y => by simp only [List.mem_singleton]; exact ⟨fun e => ⟨e.2, e.1⟩, fun e => ⟨e.2, e.1⟩⟩)
  unfold befC
  simp at h ⊢
  omega

/-- What is known of those that were found. -/
structure AInv (E : Int → Int → Prop) (k : Int) (L : List Int) : Prop where
  nd : L.Pairwise (· ≠ ·)
  me : k ∈ L
  re : ∀ a, a ∈ L → Reach E a k
theorem AInv.len {E : Int → Int → Prop} {k : Int} {L : List Int} (h : AInv E k L) (hs : InSec E) (hk : Sec k) : L.length ≤ 4096 :=
  Nat.le_trans (nodup_len L (secs Sec) h.nd fun x hx => secs_mem.2 ⟨(h.re x hx).sec hs hk, (h.re x hx).sec hs hk⟩) (secs_len _)
theorem AInv.more {E : Int → Int → Prop} {k a b : Int} {L : List Int} (h : AInv E k L) (hb : b ∈ L) (he : E a b) (hn : a ∉ L) : AInv E k (L ++ [a]) := by
  refine ⟨?_, List.mem_append_left _ h.me, fun x hx => ?_⟩
  · rw [List.pairwise_append]
    refine ⟨h.nd, by simp, fun x hx y hy e => ?_⟩
    rw [List.mem_singleton.1 hy] at e
    exact hn (e ▸ hx)
  · rcases List.mem_append.1 hx with e | e
    · exact h.re x e
    · rw [List.mem_singleton.1 e]
      exact Reach.step he (h.re b hb)
theorem AInv.all {E : Int → Int → Prop} {k : Int} {L : List Int} (h : AInv E k L) (hs : InSec E) (hk : Sec k) (hc : ∀ a b, b ∈ L → E a b → a ∈ L) : L.length = (secs fun a => Reach E a k).length := by
  have hp : L.Perm (secs fun a => Reach E a k) := by
    refine (List.perm_ext_iff_of_nodup h.nd ((secs_up _).imp fun {a b} e => by omega)).2 fun a => ?_
    rw [secs_mem]
    refine ⟨fun e => ⟨(h.re a e).sec hs hk, h.re a e⟩, fun e => ?_⟩
    have := (Reach.rev_iff (E := E) (a := k) (b := a)).2 e.2
    exact this.closed (S := fun x => x ∈ L) h.me (fun x y hx hy => hc y x hx hy)
  exact hp.length_eq
theorem take_mem {L : List Int} {j : Nat} (hj : j < L.length) {x : Int} : x ∈ L.take (j + 1) ↔ x ∈ L.take j ∨ L.getD j 0 = x := by
  rw [List.take_add_one, List.getElem?_eq_getElem hj, List.mem_append]
  have e : L.getD j 0 = L[j] := by simp [hj]
  rw [e]
  simp [eq_comm]
theorem gmem {L : List Int} {j : Nat} (hj : j < L.length) : L.getD j 0 ∈ L := by
  have e : L.getD j 0 = L[j] := by simp [hj]
  rw [e]
  exact List.getElem_mem hj
theorem getD_app {L M : List Int} {j : Nat} (hj : j < L.length) : (L ++ M).getD j 0 = L.getD j 0 := by
  rw [List.getD_eq_getElem?_getD, List.getElem?_append_left hj, ← List.getD_eq_getElem?_getD]

structure KB (b : Bool) (X : Prop) : Prop where
  go1 : b = true → X
  go2 : X → b = true
theorem elist_len2 {E : Int → Int → Prop} {l : List (Int × Int)} (h : EList E l) (hs : InSec E) : l.length ≤ 16777216 :=
  edges_len l (h.1.imp fun {a b} e k => by subst k; unfold ltE at e; omega) fun x hx => hs _ _ ((h.2 x).1 hx)

set_option maxRecDepth 100000 in
set_option maxHeartbeats 4000000 in
theorem ahead_any (k0 : Int) (E : Int → Int → Prop) (l : List (Int × Int)) (a : Option Addr) (ca : Nat) (w : World) (hE : EList E l) (hs : InSec E) (hk : Sec k0) (hA : EdAt w a l) :
    Calls Tryz.prog 21 #[.int .i64 k0, .slice a l.length ca] w fun e w' => e = .returned (.int .i64 ((secs fun x => Reach E x k0).length : Nat)) ∧ Chg w w' No := by
  have hlen := elist_len2 hE hs
  have HE := hid hE
  have HS := hid hs
  have HK := hid hk
  have HA := hid hA
  generalize hm : l.length = m at *
  have HM := hid hm
  clear hm hE hs hk hA
  go_enter Tryz.func21, Tryz.ntmps21
  go_wp2_with fail
  have HI0 := hid (ints_new w k0)
  have HC0 := hid (Chg.alloc w (.cells #[.int .i64 k0] 3) No)
  have hz0 : w.heap.size ≤ (w.alloc (.cells #[.int .i64 k0] 3)).heap.size := by simp
  go_loopw [5, 6] (fun v i wr => ∃ (j : Nat) (L : List Int) (wq : World), wq = wr ∧ i = .int .i64 j ∧ j ≤ L.length ∧ L.length ≤ 4096 ∧ Hid (AInv E k0 L) ∧ Hid (∀ a b, b ∈ L.take j → E a b → a ∈ L) ∧ Hid (Ints wq w.heap.size v L) ∧ Hid (Chg w wq No)) (fun _ i _ => 4097 - (intOf i).toNat)
  case atStart => exact ⟨0, [k0], _, rfl, rfl, by simp, by simp, ⟨by simp, by simp, fun a ha => .inl (List.mem_singleton.1 ha)⟩, fun a b hb => by simp at hb, HI0, HC0⟩
  case round =>
    clear HI0 HC0 hz0
    obtain ⟨j, L, wq, rfl, rfl, hj, hL, HAI, HD, HI, HC⟩ := hrel
    obtain ⟨va, vc, rfl, hLA, hLb⟩ := HI.out.lat
    by_cases hlt : j < L.length
    · have hji : (j : Int) < (L.length : Int) := by omega
      obtain ⟨gL, rfl, hgL, hcL⟩ : ∃ gL, va = some ⟨gL, 0, none⟩ ∧ gL < wq.heap.size ∧ ∀ k, k < L.length → wq.cell? ⟨gL, k, none⟩ = some (.int .i64 (L.getD k 0)) := by
        rcases hLA with h | h
        · rw [h] at hlt; simp at hlt
        · exact h
      clear hLA hLb hgL hcL
      go_wp2_with fail
      go_loopw [5, 7, 8, 9] (fun v i _ _ wr => ∃ (k : Nat) (L : List Int) (wq : World), wq = wr ∧ i = .int .i64 k ∧ k ≤ m ∧ j < L.length ∧ L.length ≤ 4096 ∧ Hid (AInv E k0 L) ∧ Hid (∀ a b, b ∈ L.take j → E a b → a ∈ L) ∧ Hid (∀ q, q < k → (l.getD q (0, 0)).2 = L.getD j 0 → (l.getD q (0, 0)).1 ∈ L) ∧ Hid (Ints wq w.heap.size v L) ∧ Hid (Chg w wq No)) (fun _ i _ _ _ => m - (intOf i).toNat)
      case atStart => exact ⟨0, L, _, rfl, rfl, by omega, hlt, hL, HAI, HD, fun q hq => absurd hq (Nat.not_lt_zero q), HI, HC⟩
      case round =>
        clear HAI HD HI HC hlt hj hji hL
        obtain ⟨k, L, wq, rfl, rfl, hk, hlt, hL, HAI, HD, HQ, HI, HC⟩ := hrel
        obtain ⟨va, vc, rfl, hLA, hLb⟩ := HI.out.lat
        obtain ⟨gL, rfl, hgL, hcL⟩ : ∃ gL, va = some ⟨gL, 0, none⟩ ∧ gL < wq.heap.size ∧ ∀ k, k < L.length → wq.cell? ⟨gL, k, none⟩ = some (.int .i64 (L.getD k 0)) := by
          rcases hLA with h | h
          · rw [h] at hlt; simp at hlt
          · exact h
        have HcL := hid hcL
        clear hLA hLb
        by_cases hkm : k < m
        · have hki : (k : Int) < (m : Int) := by omega
          obtain ⟨ge, rfl, hge, hce⟩ : ∃ ge, a = some ⟨ge, 0, none⟩ ∧ ge < wq.heap.size ∧ ∀ k, k < l.length → wq.cell? ⟨ge, k * 2, none⟩ = some (.int .i64 (l.getD k (0, 0)).1) ∧ wq.cell? ⟨ge, k * 2 + 1, none⟩ = some (.int .i64 (l.getD k (0, 0)).2) := by
            rcases HA.out.call HC.out with h | h
            · have := HM.out; rw [h] at this; simp at this; omega
            · exact h
          have hc1 := (hce k (by rw [HM.out]; exact hkm)).1
          have hc2 := (hce k (by rw [HM.out]; exact hkm)).2
          have hcj := hcL j hlt
          have HEk : Hid (E (l.getD k (0, 0)).1 (l.getD k (0, 0)).2) := by
            refine (HE.out.2 _).1 ?_
            have hk' : k < l.length := by rw [HM.out]; exact hkm
            have e : l.getD k (0, 0) = l[k] := by simp [hk']
            rw [e]
            exact List.getElem_mem hk'
          generalize hxx : (l.getD k (0, 0)).1 = ex at *
          generalize hyy : (l.getD k (0, 0)).2 = ey at *
          generalize hLj : L.getD j 0 = Lj at *
          have HX := hid (And.intro hxx (And.intro hyy hLj))
          have hji : (j : Int) < (L.length : Int) := by omega
          clear hce hcL hxx hyy hLj hgL hge
          go_wp2_with fail
          go_quiet (fail)
          have hcd := chg_drewN wq nq
          have HI2 := hid (row_keep HI.out hcd (fun _ _ e => e))
          have HC2 := hid (HC.out.tr hcd)
          generalize hwd : wq.drewN nq = wd at *
          have HcL2 : Hid (∀ k, k < L.length → wd.cell? ⟨gL, k, none⟩ = some (.int .i64 (L.getD k 0))) := fun q hq => by rw [← hwd]; exact HcL.out q hq
          clear hcd hwd HI HC HcL hcj hc1 hc2
          go_wp2_with fail
          go_loopw [8, 9] (fun kn i wr => ∃ (q : Nat) (b : Bool) (we : World), we = wr ∧ i = .int .i64 q ∧ q ≤ L.length ∧ kn = .bool b ∧ Hid (KB b (ey ≠ Lj ∨ ex ∈ L.take q)) ∧ Hid (Ints we w.heap.size (.slice (some ⟨gL, 0, none⟩) L.length vc) L) ∧ Hid (Chg w we No) ∧ Hid (∀ k, k < L.length → we.cell? ⟨gL, k, none⟩ = some (.int .i64 (L.getD k 0)))) (fun _ i _ => L.length - (intOf i).toNat)
          case atStart => exact ⟨0, _, _, rfl, rfl, by omega, rfl, hid ⟨fun h => .inl (by simpa using h), fun h => by simpa using h⟩, HI2, HC2, HcL2⟩
          case round =>
            clear HI2 HC2 HcL2
            obtain ⟨q, b, we, rfl, rfl, hq, rfl, HB, HI, HC, HcL⟩ := hrel
            by_cases hql : q < L.length
            · have hqi : (q : Int) < (L.length : Int) := by omega
              have hcq := HcL.out q hql
              have HTM := hid (@take_mem L q hql ex)
              generalize hLq : L.getD q 0 = Lq at *
              cases b
              · obtain ⟨ge2, hae, hge2, hce2⟩ : ∃ ge2, (some ⟨ge, 0, none⟩ : Option Addr) = some ⟨ge2, 0, none⟩ ∧ ge2 < we.heap.size ∧ ∀ k, k < l.length → we.cell? ⟨ge2, k * 2, none⟩ = some (.int .i64 (l.getD k (0, 0)).1) ∧ we.cell? ⟨ge2, k * 2 + 1, none⟩ = some (.int .i64 (l.getD k (0, 0)).2) := by
                  rcases HA.out.call HC.out with h | h
                  · have := HM.out; rw [h] at this; simp at this; omega
                  · exact h
                cases hae
                have hc1 := (hce2 k (by rw [HM.out]; exact hkm)).1
                rw [HX.out.1] at hc1
                clear hce2 hge2
                have hB0 : ¬ (ey ≠ Lj ∨ ex ∈ L.take q) := fun h => by have := HB.out.go2 h; cases this
                by_cases hqe : Lq = ex
                · have hqb : (Lq == ex) = true := by simp [hqe]
                  have HB2 : Hid (KB true (ey ≠ Lj ∨ ex ∈ L.take (q + 1))) := ⟨fun _ => .inr (HTM.out.2 (.inr (hLq ▸ hqe))), fun _ => rfl⟩
                  clear hB0 HB hqe hLq HTM
                  go_wp2_with fail
                  go_quiet (fail)
                  go_wp2_with fail
                  exact ⟨⟨q + 1, true, _, rfl, by go_num, by omega, rfl, HB2, hid (row_keep HI.out (chg_drewN we _) (fun _ _ e => e)), hid (HC.out.tr (chg_drewN we _)), fun k hk => HcL.out k hk⟩, by simp [intOf]; omega⟩
                · have hqb : (Lq == ex) = false := by simp [hqe]
                  have HB2 : Hid (KB false (ey ≠ Lj ∨ ex ∈ L.take (q + 1))) := ⟨fun e => Bool.noConfusion e, fun h => by
                    rcases h with h | h
                    · exact absurd (.inl h) hB0
                    · rcases HTM.out.1 h with h | h
                      · exact absurd (.inr h) hB0
                      · exact absurd (hLq ▸ h) hqe⟩
                  clear hB0 HB hqe hLq HTM
                  go_wp2_with fail
                  go_quiet (fail)
                  go_wp2_with fail
                  exact ⟨⟨q + 1, false, _, rfl, by go_num, by omega, rfl, HB2, hid (row_keep HI.out (chg_drewN we _) (fun _ _ e => e)), hid (HC.out.tr (chg_drewN we _)), fun k hk => HcL.out k hk⟩, by simp [intOf]; omega⟩
              · have HB2 : Hid (KB true (ey ≠ Lj ∨ ex ∈ L.take (q + 1))) := ⟨fun _ => by
                  rcases HB.out.go1 rfl with h | h
                  · exact .inl h
                  · exact .inr (HTM.out.2 (.inl h)), fun _ => rfl⟩
                clear HB hLq HTM
                go_wp2_with fail
                go_quiet (fail)
                go_wp2_with fail
                exact ⟨⟨q + 1, true, _, rfl, by go_num, by omega, rfl, HB2, hid (row_keep HI.out (chg_drewN we _) (fun _ _ e => e)), hid (HC.out.tr (chg_drewN we _)), fun k hk => HcL.out k hk⟩, by simp [intOf]; omega⟩
            · have eq : q = L.length := by omega
              subst eq
              rw [List.take_length] at HB
              have HmL := hid (@gmem L j hlt)
              clear hq hql
              cases b
              · have hB0 : ¬ (ey ≠ Lj ∨ ex ∈ L) := fun h => by have := HB.out.go2 h; cases this
                obtain ⟨ge2, hae, hge2, hce2⟩ : ∃ ge2, (some ⟨ge, 0, none⟩ : Option Addr) = some ⟨ge2, 0, none⟩ ∧ ge2 < we.heap.size ∧ ∀ k, k < l.length → we.cell? ⟨ge2, k * 2, none⟩ = some (.int .i64 (l.getD k (0, 0)).1) ∧ we.cell? ⟨ge2, k * 2 + 1, none⟩ = some (.int .i64 (l.getD k (0, 0)).2) := by
                  rcases HA.out.call HC.out with h | h
                  · have := HM.out; rw [h] at this; simp at this; omega
                  · exact h
                cases hae
                have hc1 := (hce2 k (by rw [HM.out]; exact hkm)).1
                rw [HX.out.1] at hc1
                have heq : ey = Lj := Classical.byContradiction fun h => hB0 (.inl h)
                have hnin : ex ∉ L := fun h => hB0 (.inr h)
                have hA2 := HAI.out.more (a := ex) (b := Lj) (by rw [← HX.out.2.2]; exact HmL.out) (by rw [← heq]; exact HEk.out) hnin
                have HA2 := hid hA2
                have hL2 := hA2.len HS.out HK.out
                have HD2 : Hid (∀ a b, b ∈ (L ++ [ex]).take j → E a b → a ∈ L ++ [ex]) := fun a b hb he => by
                  rw [List.take_append_of_le_length (by omega)] at hb
                  exact List.mem_append_left _ (HD.out a b hb he)
                have HQ2 : Hid (∀ q, q < k + 1 → (l.getD q (0, 0)).2 = (L ++ [ex]).getD j 0 → (l.getD q (0, 0)).1 ∈ L ++ [ex]) := fun q hq he => by
                  rw [getD_app hlt, HX.out.2.2] at he
                  by_cases e : q = k
                  · rw [e, HX.out.1]; simp
                  · exact List.mem_append_left _ (HQ.out q (by omega) he)
                have HI4 := hid (row_keep HI.out (Chg.alloc we (.cells #[.int .i64 ex] 3) No) (fun _ _ e => e))
                have hcell := cell0 (heap_alloc_new we (.cells #[.int .i64 ex] 3))
                have hbz : w.heap.size ≤ we.heap.size := HC.out.size
                clear hB0 heq hnin hA2 hce2 hge2 HAI HD HQ HB
                go_wp2_with (first
                  | (at_builtin; go_must (refine wp_appI rfl _ _ rfl w.heap.size we.heap.size 1 _ L ex rfl rfl HI4.out hcell (by omega) (by simp; omega) ?_; intro v5 w5 h51 h52 h53))
                  | go_in)
                have HC5 : Chg w w5 No := (HC.out.tr (Chg.alloc we (.cells #[.int .i64 ex] 3) No)).trans h52 (fun _ _ e => e) (fun j hj e => by have := (row_ge HI4.out e).1; omega)
                go_roundw
                case rel => exact ⟨k + 1, L ++ [ex], w5, rfl, by go_num, by omega, by simp; omega, hL2, HA2, HD2, HQ2, hid h51, hid HC5⟩
                case measure => simp [intOf]; omega
              · have HQ2 : Hid (∀ q, q < k + 1 → (l.getD q (0, 0)).2 = L.getD j 0 → (l.getD q (0, 0)).1 ∈ L) := fun q hq he => by
                  by_cases e : q = k
                  · subst e
                    rw [HX.out.1]
                    rw [HX.out.2.1, HX.out.2.2] at he
                    rcases HB.out.go1 rfl with h | h
                    · exact absurd he h
                    · exact h
                  · exact HQ.out q (by omega) (he.trans HX.out.2.2)
                clear HB HQ
                go_wp2_with fail
                go_roundw
                case rel => exact ⟨k + 1, L, we, rfl, by go_num, by omega, hlt, hL, HAI, HD, HQ2, HI, HC⟩
                case measure => simp [intOf]; omega
        · have ek : k = m := by omega
          have HD2 : Hid (∀ a b, b ∈ L.take (j + 1) → E a b → a ∈ L) := fun a b hb he => by
            rcases (take_mem hlt).1 hb with h | h
            · exact HD.out a b h he
            · obtain ⟨q, hq, e⟩ := List.mem_iff_getElem.1 ((HE.out.2 (a, b)).2 he)
              have e2 : l.getD q (0, 0) = (a, b) := by simp [hq, e]
              have := HQ.out q (by rw [ek, ← HM.out]; exact hq) (by rw [e2]; exact h.symm)
              rw [e2] at this
              exact this
          clear hk HQ HD HcL hcL hgL ek
          go_wp2_with fail
          go_roundw
          case rel => exact ⟨j + 1, L, wq, rfl, by go_num, by omega, hL, HAI, HD2, HI, HC⟩
          case measure => simp [intOf]; omega
    · have ej : j = L.length := by omega
      subst ej
      rw [List.take_length] at HD
      have HN := hid (HAI.out.all HS.out HK.out (fun a b hb he => HD.out a b hb he))
      clear hLA hLb hj hlt
      go_wp2_with fail
      go_ret
      exact ⟨by rw [← HN.out]; rfl, HC.out⟩

end Go.Proofs.YtlkmfhpnofpjdaaGreat

namespace Go.Proofs.YtlkmfhpnofpjdaaGreat
open Go.RowKit

variable {n : Nat} {z : CSt} {s : TSt}

theorem once_drain (h : TK n s) (har : s.z.d.ar = false) (hw : s.z.d.wr < 4611686018427370000) {x : Int} (hx : 0 ≤ x ∧ x < n) :
    (DrainC n s.z x).2 = 0 ∧ Core n (DrainC n s.z x).1 (lf s.last) s.nx s.od ∧ Alive (DrainC n s.z x).1 ∧ Calm (DrainC n s.z x).1 ∧
    ∃ M : Nat, (s.z.dirty x → M = (secs fun a => Reach s.z.E a x).length) ∧ (¬ s.z.dirty x → M = 0) ∧ (DrainC n s.z x).1.d.wr = s.z.d.wr + M ∧ (secs (DrainC n s.z x).1.dirty).length + M = (secs s.z.dirty).length := by
  have hr : refC n s.z [x] = 0 := refC_alive h.al (by simpa using hx)
  have e : DrainC n s.z x = drainC n s.z x := by unfold DrainC; rw [if_pos hr]
  rw [e]
  have hw2 : s.z.d.wr < 4611686018427380000 := by omega
  have hcd := h.core.drain hw2 x
  have hca : Calm (drainC n s.z x).1 := drainC_calm ⟨har, h.al.2⟩ x
  have h0 : (drainC n s.z x).2 = 0 := by
    rcases hcd.2 h.al with k | k
    · exact k.1
    · have := k.2
      rw [hca.2] at this
      cases this
  have hal : Alive (drainC n s.z x).1 := by
    rcases hcd.2 h.al with k | k
    · exact k.2
    · rw [h0] at k
      exact absurd k.1 (by decide)
  refine ⟨h0, hcd.1, hal, hca, ?_⟩
  have hwr := drainC_wrote h.core.inv x h.core.tb hw2
  by_cases hd : s.z.dirty x
  · rw [if_pos hd] at hwr
    have ht := drain_todo h.core.inv hd h.core.tb hw2
    have e2 : drainC n s.z x = wAll n (befC s.z x ++ [x]).length s.z (befC s.z x ++ [x]) := by
      unfold drainC
      rw [if_pos hd, List.length_append]
      rfl
    have h1 := wAll_exact h.core.inv ht (by rw [← e2]; exact h0)
    rw [← e2] at h1
    have h2 := secs_rest (p := s.z.dirty) (q := (drainC n s.z x).1.dirty) ht.nd (fun y hy => ⟨h.core.inv.sec (ht.di y hy), ht.di y hy⟩) (hwr.ok h0).2
    have h3 := bef_len h.core.inv hd
    have h4 : (befC s.z x ++ [x]).length = (befC s.z x).length + 1 := by simp
    refine ⟨(befC s.z x).length + 1, fun _ => h3.symm, fun k => absurd hd k, by rw [h1, h4], by omega⟩
  · rw [if_neg hd] at hwr
    have e2 : drainC n s.z x = (s.z, 0) := by unfold drainC; rw [if_neg hd]
    rw [e2]
    exact ⟨0, fun k => absurd k hd, fun _ => rfl, by simp, by simp⟩
theorem once_sync {L : Int → Int} {nx : Int} {od : List (Int × Int × Int × Int)} (hC : Core n z L nx od) (ha : Alive z) (hc : Calm z) (hw : z.d.wr < 4611686018427380000) :
    (syncC n z).2 = 0 ∧ Core n (syncC n z).1 L nx od ∧ (syncC n z).1.d.wr = z.d.wr + (secs z.dirty).length ∧ ∀ x, ¬ (syncC n z).1.dirty x := by
  have hs := hC.sync hw
  have hca : Calm (syncC n z).1 := syncC_calm hc
  have h0 : (syncC n z).2 = 0 := by
    rcases hs.2 ha with k | k
    · exact k.1
    · have := k.2
      rw [hca.2] at this
      cases this
  have ht := sync_todo hC.inv hC.tb hw
  have hs1 := hs.1
  have hL : ∀ x, x ∈ secs z.dirty ↔ z.dirty x := fun x => secs_mem.trans ⟨fun k => k.2, fun k => ⟨hC.inv.sec k, k⟩⟩
  unfold syncC at h0 hs1 ⊢
  clear hs hca
  generalize secs z.dirty = L at *
  have h1 := wAll_exact hC.inv ht h0
  have h2 := (wAll_wrote L.length L z rfl hC.inv ht).ok h0
  refine ⟨h0, hs1, h1, fun x hx => ?_⟩
  have := (h2.2 x).1 hx
  exact this.2 ((hL x).2 this.1)
theorem sync_again (h : ∀ x, ¬ z.dirty x) : syncC n z = (z, 0) := by
  unfold syncC
  rw [secs_empty h]
  rfl
theorem elist_nil {E : Int → Int → Prop} {l : List (Int × Int)} (hE : EList E l) (h : ∀ a b, ¬ E a b) : l = [] := by
  cases l with
  | nil => rfl
  | cons x r => exact absurd ((hE.2 x).1 (by simp)) (h _ _)

set_option maxHeartbeats 1000000 in
theorem idx_none (a : Option Addr) (ca : Nat) (fv : Value) (w : World) : Calls Tryz.prog 112 #[.slice a 0 ca, fv] w fun e w' => e = .returned (.int .i64 (-1)) ∧ w = w' := by
  go_enter Tryz.func112, Tryz.ntmps112
  go_wp2_with fail
  go_loopw [5, 8] (fun _ i wr => i = .int .i64 0 ∧ w = wr) (fun _ _ _ => 0)
  case atStart => exact ⟨rfl, rfl⟩
  case round =>
    obtain ⟨rfl, rfl⟩ := hrel
    go_wp2_with fail
    go_ret
    exact ⟨rfl, rfl⟩
set_option maxHeartbeats 1000000 in
theorem delf_none (a : Option Addr) (ca : Nat) (fv : Value) (w : World) : Calls Tryz.prog 70 #[.slice a 0 ca, fv] w fun e w' => e = .returned (.slice a 0 ca) ∧ w = w' := by
  have H := idx_none a ca fv w
  go_enter Tryz.func70, Tryz.ntmps70
  go_wp2_with (first
    | (go_at_call 112; go_must (refine H.mono ?_; rintro e w1 ⟨rfl, rfl⟩; clear H))
    | fail)
  go_ret
  exact ⟨rfl, rfl⟩
set_option maxRecDepth 100000 in
set_option maxHeartbeats 1000000 in
theorem elig_none {w : World} {c p g : Nat} {ρ : Nat → Option Role} (h : IsC w c p g n ρ z) (hd : ∀ x, ¬ z.dirty x) : Calls Tryz.prog 23 #[.pointer (some ⟨c, 0, none⟩)] w fun e w' => ∃ a ca, e = .returned (.slice a 0 ca) ∧ Chg w w' No := by
  have hc1 : Chg w (w.alloc (.cells #[.pointer (some ⟨c, 0, none⟩)] 31)) No := Chg.alloc _ _ _
  have HD := dirty_any (h.call hc1)
  rw [secs_empty hd] at HD
  have HC := hid hc1
  have hk : (w.alloc (.cells #[.pointer (some ⟨c, 0, none⟩)] 31)).cell? ⟨w.heap.size, 0, none⟩ = some (.pointer (some ⟨c, 0, none⟩)) := by rw [cell_of_row _ _ _ _ _ _ (heap_alloc_new _ _)]; rfl
  clear hc1 h
  go_enter Tryz.func23, Tryz.ntmps23
  go_wp2_with (first
    | (go_at_call 16; go_must (refine HD.mono ?_; rintro e w1 ⟨v, rfl, hI, hc2⟩; obtain ⟨va, vc, rfl, _, _⟩ := hI.lat; have HC2 := hid (HC.out.tr hc2); clear HD hI hc2))
    | (go_at_call 70; go_must (refine (delf_none _ _ _ _).mono ?_; rintro e w3 ⟨rfl, rfl⟩))
    | fail)
  go_ret
  exact ⟨_, _, rfl, HC2.out⟩

end Go.Proofs.YtlkmfhpnofpjdaaGreat

namespace Go.Proofs.YtlkmfhpnofpjdaaGreat
open Go.RowKit

section
variable {w0 w : World} {t c p g n lb db : Nat} {ρ : Nat → Option Role} {ov : Value} {s : TSt}
theorem wr_t (h : IsT w0 w t c p g n lb db ρ ov s) : Calls Tryz.prog 19 #[.pointer (some ⟨p, 0, none⟩)] w fun e w' => e = .returned (.int .i64 s.z.d.wr) ∧ w' = w := by
  obtain ⟨_, _, _, _, _, hc⟩ := h.ca
  exact D.writes_any w hc.dk
theorem dirty_t (h : IsT w0 w t c p g n lb db ρ ov s) : Calls Tryz.prog 16 #[.pointer (some ⟨c, 0, none⟩)] w fun e w' => ∃ va vc, e = .returned (.slice va (secs s.z.dirty).length vc) ∧ Chg w w' No := by
  refine (dirty_any h.ca).mono ?_
  rintro e w' ⟨v, rfl, hI, hc⟩
  obtain ⟨va, vc, rfl, _, _⟩ := hI.lat
  exact ⟨va, vc, rfl, hc⟩
theorem edges_t (h : IsT w0 w t c p g n lb db ρ ov s) : Calls Tryz.prog 17 #[.pointer (some ⟨c, 0, none⟩)] w fun e w' => ∃ va vc l, e = .returned (.slice va (List.length l) vc) ∧ EList s.z.E l ∧ EdAt w' va l ∧ (∀ g, va = some ⟨g, 0, none⟩ → w.heap.size ≤ g) ∧ Chg w w' No := by
  refine (edgesC_any h.ca).mono ?_
  rintro e w' ⟨v, l, rfl, hE, hL, hc⟩
  obtain ⟨va, vc, rfl, h1, h2⟩ := hE.edat
  exact ⟨va, vc, l, rfl, hL, h1, h2, hc⟩
theorem edges_t0 (h : IsT w0 w t c p g n lb db ρ ov s) (hd : ∀ x, ¬ s.z.dirty x) : Calls Tryz.prog 17 #[.pointer (some ⟨c, 0, none⟩)] w fun e w' => ∃ va vc, e = .returned (.slice va 0 vc) ∧ Chg w w' No := by
  have hi := h.ca.inv
  refine (edges_t h).mono ?_
  rintro e w' ⟨va, vc, l, rfl, hL, _, _, hc⟩
  rw [elist_nil hL fun a b he => hd a (hi.ed a b he).1]
  exact ⟨va, vc, rfl, hc⟩
theorem sync_t (h : IsT w0 w t c p g n lb db ρ ov s) (ht : TB s.z) (hw : s.z.d.wr < 4611686018427380000) : Calls Tryz.prog 22 #[.pointer (some ⟨c, 0, none⟩)] w fun e w' => e = .returned (.int .i64 (syncC n s.z).2) ∧ ∃ ρ', IsT w0 w' t c p g n lb db ρ' ov { s with z := (syncC n s.z).1 } := by
  refine (syncC_any h.ca ht hw).mono ?_
  rintro e w' ⟨rfl, hP⟩
  obtain ⟨ρ', h', _⟩ := h.cache2 hP
  exact ⟨rfl, ρ', h'⟩
theorem drain_t (x : Int) (h : IsT w0 w t c p g n lb db ρ ov s) (ht : TB s.z) (hw : s.z.d.wr < 4611686018427380000) : Calls Tryz.prog 20 #[.pointer (some ⟨c, 0, none⟩), .int .i64 x] w fun e w' => e = .returned (.int .i64 (DrainC n s.z x).2) ∧ (∃ ρ', IsT w0 w' t c p g n lb db ρ' ov { s with z := (DrainC n s.z x).1 }) ∧ Chg w w' (Own ρ) := by
  refine (DrainC_any x h.ca ht hw).mono ?_
  rintro e w' ⟨rfl, hP⟩
  obtain ⟨ρ', h', _⟩ := h.cache2 hP
  obtain ⟨_, _, _, hc⟩ := hP
  exact ⟨rfl, ⟨ρ', h'⟩, hc⟩
end

set_option maxRecDepth 100000 in
set_option maxHeartbeats 8000000 in
theorem once_walk (x0 : Int) (hx0 : I64 x0) (l : List SV) (ad : Option Addr) (cap : Nat) (x2 : Int) (hx2 : I64 x2) (w : World) (hs : ScAt w ad l) (hl : l.length ≤ 1048576) (hok : ∀ j, j < l.length → (l.getD j SV.z).OK) :
    Calls Tryz.prog 5 #[.int .i64 x0, .slice ad l.length cap, .int .i64 x2] w fun e w' => e = .returned (.bool true) ∧ Chg w w' No := by
  have hb := D.pickN_bd x0 (n := 25) (by omega)
  obtain ⟨n, hn⟩ : ∃ n : Nat, 8 + D.pickN x0 25 = (n : Int) := ⟨(8 + D.pickN x0 25).toNat, by omega⟩
  have hn8 : 8 ≤ n := by omega
  have hn4 : n ≤ 4096 := by omega
  have HST := story_any x0 hx0 l ad cap w hs hl hok n hn
  have HX2 := hid hx2
  generalize hm : l.length = m at *
  clear hn hb hs hok hx2 hx0 hm
  go_enter Tryz.func5, Tryz.ntmps5
  go_upto_region 4 with (first
    | (go_at_call 15; go_must (refine HST.mono ?_; rintro e w1 ⟨t, c, p, g, s, rfl, ⟨lb, db, ρ, ov, hT⟩, hK, har, hnx, hwr, hod⟩; have HT := hid hT; have HK := hid (And.intro hK (And.intro har hwr)); have HKN := known_any w1; clear HST hT hK har hnx hwr hod))
    | (go_at_call 9; go_must (refine HKN.mono ?_; rintro e w2 ⟨rfl, hc2⟩; replace HT := hid (HT.out.call hc2); clear HKN hc2))
    | fail)
  have q0 := HT.out.c0
  have q1 := HT.out.c1
  go_upto_region 5 with (go_at_call 16; go_must (refine (dirty_t HT.out).mono ?_; rintro e w3 ⟨va, vc, rfl, hc3⟩; replace HT := hid (HT.out.call hc3); clear hc3))
  replace q0 := HT.out.c0
  replace q1 := HT.out.c1
  go_upto_region 6 with (go_at_call 17; go_must (refine (edges_t HT.out).mono ?_; rintro e w4 ⟨ea, ec, le, rfl, hEL, hEA, hEb, hc4⟩; have HT3 := HT; replace HT := hid (HT.out.call hc4); have HE := hid (And.intro hEL (And.intro hEA hEb)); clear hEL hEA hEb hc4))
  replace q0 := HT.out.c0
  replace q1 := HT.out.c1
  have q2 := HT.out.c2
  have hKb := D.pickN_bd x2 (n := (n : Int)) (by omega)
  have HPK := D.pick_any x2 n w4 HX2.out (by omega) (by omega)
  obtain ⟨K, hK⟩ : ∃ K : Nat, D.pickN x2 n = (K : Int) := ⟨(D.pickN x2 n).toNat, by omega⟩
  rw [hK] at HPK hKb
  have hKn : K < n := by omega
  clear hK hKb
  go_upto_region 8 with (first
    | (go_at_call 18; go_must (refine HPK.mono ?_; rintro e wp ⟨rfl, ewp⟩; subst ewp; clear HPK))
    | (go_at_call 19; go_must (refine (wr_t HT.out).mono ?_; rintro e wx ⟨rfl, ewx⟩; subst ewx))
    | fail)
  clear q2
  obtain ⟨hK1, har, hwr⟩ := HK.out
  have hw0 := hK1.core.inv.w0
  have hwb : s.z.d.wr < 4611686018427370000 := by omega
  have HOD := once_drain hK1 har hwb (x := (K : Int)) ⟨by omega, by omega⟩
  have HFL : Hid ((flags n s.z).getD K false = true ↔ s.z.dirty (K : Int)) := flags_get hKn
  have HDI := hid hK1.fl
  have HIV := hid hK1.core.inv
  have hTB := hK1.core.tb
  have HDR := drain_t (K : Int) HT.out hTB (by omega)
  generalize hr1 : DrainC n s.z (K : Int) = r1 at *
  obtain ⟨z1, e1⟩ := r1
  obtain ⟨h01, hC1, ha1, hca1, M, hM1, hM2, hM3, hM4⟩ := HOD
  simp only at h01 hC1 ha1 hca1 hM3 hM4 HDR
  subst h01
  have HSC := hid (once_sync hC1 ha1 hca1 (by
    have h1 := secs_len s.z.dirty
    rw [hM3]
    omega))
  have HMS := hid (And.intro hM1 hM2)
  have hlD := secs_len s.z.dirty
  have HC1 := hid hC1
  generalize hD0 : (secs s.z.dirty).length = D0 at *
  generalize hD1 : (secs z1.dirty).length = D1 at *
  have HDD := hid hD1
  clear hK1 har hC1 ha1 hca1 hM1 hM2 hTB HK hr1 hD0 hD1
  go_upto_region 10 with (go_at_call 20; go_must (refine HDR.mono ?_; rintro e w5 ⟨rfl, ⟨ρ5, hT5⟩, hc5⟩; have HE5 : Hid (EdAt w5 ea le) := (HE.out.2.1.keep hc5 (fun g hg ho => by have h1 := HE.out.2.2 g hg; have h2 := HT3.out.ca.lt ho; omega)); replace HT := hid hT5; clear HDR hT5 hc5))
  replace q0 := HT.out.c0
  replace q1 := HT.out.c1
  have q3 := HT.out.c3
  have qd := HT.out.dc hKn
  simp only at qd
  rw [HDI.out] at qd
  by_cases hd : s.z.dirty (K : Int)
  · have hM := HMS.out.1 hd
    rw [(HFL.out).2 hd] at qd
    have HAH := ahead_any (K : Int) s.z.E le ea ec w5 HE.out.1 HIV.out.inSec (HIV.out.sec hd) HE5.out
    rw [← hM] at HAH
    clear hM hd HFL
    go_upto_region 12 with (go_at_call 21; go_must (refine HAH.mono ?_; rintro e w6 ⟨rfl, hc6⟩; replace HT := hid (HT.out.call hc6); clear HAH hc6))
    replace q0 := HT.out.c0
    replace q1 := HT.out.c1
    clear q3 qd
    go_upto_region 14 with (first
      | (go_at_call 19; go_must (refine (wr_t HT.out).mono ?_; rintro e wx ⟨rfl, ewx⟩; subst ewx; simp only))
      | (go_at_call 16; go_must (refine (dirty_t HT.out).mono ?_; rintro e wB ⟨vawB, vcwB, rfl, hcwB⟩; replace HT := hid (HT.out.call hcwB); replace q0 := HT.out.c0; replace q1 := HT.out.c1; clear hcwB; simp only; rw [HDD.out]))
      | fail)
    go_upto_region 16 with (first
      | (go_at_call 19; go_must (refine (wr_t HT.out).mono ?_; rintro e wx ⟨rfl, ewx⟩; subst ewx; simp only))
      | (go_at_call 16; go_must (refine (dirty_t HT.out).mono ?_; rintro e wC ⟨vawC, vcwC, rfl, hcwC⟩; replace HT := hid (HT.out.call hcwC); replace q0 := HT.out.c0; replace q1 := HT.out.c1; clear hcwC; simp only; rw [HDD.out]))
      | fail)
    obtain ⟨s1, s2, s3, s4⟩ := HSC.out
    have HSY := sync_t HT.out HC1.out.tb (by simp only; omega)
    simp only at HSY
    generalize hr2 : syncC n z1 = r2 at *
    obtain ⟨z2, e2⟩ := r2
    simp only at s1 s2 s3 s4 HSY
    subst s1
    rw [hM3] at s3
    have H4 := hid s4
    have HZ := hid (sync_again (n := n) s4)
    have HTB2 := hid s2.tb
    clear hr2 s2 s4 HSC
    go_upto_region 17 with (go_at_call 22; go_must (refine HSY.mono ?_; rintro e wD ⟨rfl, ρD, hTD⟩; replace HT := hid hTD; replace q0 := HT.out.c0; replace q1 := HT.out.c1; clear HSY hTD))
    go_wp2_with (first
      | (go_at_call 19; go_must (refine (wr_t HT.out).mono ?_; rintro e wx ⟨rfl, ewx⟩; subst ewx; simp only))
      | (go_at_call 16; go_must (refine (dirty_t HT.out).mono ?_; rintro e wE ⟨vaE, vcE, rfl, hcE⟩; replace HT := hid (HT.out.call hcE); replace q0 := HT.out.c0; replace q1 := HT.out.c1; clear hcE; simp only; rw [secs_empty H4.out]))
      | (go_at_call 17; go_must (refine (edges_t0 HT.out H4.out).mono ?_; rintro e wF ⟨vaF, vcF, rfl, hcF⟩; replace HT := hid (HT.out.call hcF); replace q0 := HT.out.c0; replace q1 := HT.out.c1; clear hcF))
      | (go_at_call 23; go_must (refine (elig_none HT.out.ca H4.out).mono ?_; rintro e wG ⟨vaG, vcG, rfl, hcG⟩; replace HT := hid (HT.out.call hcG); replace q0 := HT.out.c0; replace q1 := HT.out.c1; clear hcG))
      | (go_at_call 22; go_must (refine (sync_t HT.out HTB2.out (by simp only; omega)).mono ?_; rintro e wH ⟨rfl, ρH, hTH⟩; simp only [HZ.out] at hTH; replace HT := hid hTH; replace q0 := HT.out.c0; replace q1 := HT.out.c1; clear hTH; simp only [HZ.out]))
      | fail)
    go_ret
    exact ⟨rfl, HT.out.ch⟩
  · have hM := HMS.out.2 hd
    have hfl : (flags n s.z).getD K false = false := by
      cases hq : (flags n s.z).getD K false with
      | false => rfl
      | true => exact absurd (HFL.out.1 hq) hd
    rw [hfl] at qd
    subst hM
    clear hfl hd HFL
    go_upto_region 12 with fail
    clear q3 qd
    go_upto_region 14 with (first
      | (go_at_call 19; go_must (refine (wr_t HT.out).mono ?_; rintro e wx ⟨rfl, ewx⟩; subst ewx; simp only))
      | (go_at_call 16; go_must (refine (dirty_t HT.out).mono ?_; rintro e wB ⟨vawB, vcwB, rfl, hcwB⟩; replace HT := hid (HT.out.call hcwB); replace q0 := HT.out.c0; replace q1 := HT.out.c1; clear hcwB; simp only; rw [HDD.out]))
      | fail)
    go_upto_region 16 with (first
      | (go_at_call 19; go_must (refine (wr_t HT.out).mono ?_; rintro e wx ⟨rfl, ewx⟩; subst ewx; simp only))
      | (go_at_call 16; go_must (refine (dirty_t HT.out).mono ?_; rintro e wC ⟨vawC, vcwC, rfl, hcwC⟩; replace HT := hid (HT.out.call hcwC); replace q0 := HT.out.c0; replace q1 := HT.out.c1; clear hcwC; simp only; rw [HDD.out]))
      | fail)
    obtain ⟨s1, s2, s3, s4⟩ := HSC.out
    have HSY := sync_t HT.out HC1.out.tb (by simp only; omega)
    simp only at HSY
    generalize hr2 : syncC n z1 = r2 at *
    obtain ⟨z2, e2⟩ := r2
    simp only at s1 s2 s3 s4 HSY
    subst s1
    rw [hM3] at s3
    have H4 := hid s4
    have HZ := hid (sync_again (n := n) s4)
    have HTB2 := hid s2.tb
    clear hr2 s2 s4 HSC
    go_upto_region 17 with (go_at_call 22; go_must (refine HSY.mono ?_; rintro e wD ⟨rfl, ρD, hTD⟩; replace HT := hid hTD; replace q0 := HT.out.c0; replace q1 := HT.out.c1; clear HSY hTD))
    go_wp2_with (first
      | (go_at_call 19; go_must (refine (wr_t HT.out).mono ?_; rintro e wx ⟨rfl, ewx⟩; subst ewx; simp only))
      | (go_at_call 16; go_must (refine (dirty_t HT.out).mono ?_; rintro e wE ⟨vaE, vcE, rfl, hcE⟩; replace HT := hid (HT.out.call hcE); replace q0 := HT.out.c0; replace q1 := HT.out.c1; clear hcE; simp only; rw [secs_empty H4.out]))
      | (go_at_call 17; go_must (refine (edges_t0 HT.out H4.out).mono ?_; rintro e wF ⟨vaF, vcF, rfl, hcF⟩; replace HT := hid (HT.out.call hcF); replace q0 := HT.out.c0; replace q1 := HT.out.c1; clear hcF))
      | (go_at_call 23; go_must (refine (elig_none HT.out.ca H4.out).mono ?_; rintro e wG ⟨vaG, vcG, rfl, hcG⟩; replace HT := hid (HT.out.call hcG); replace q0 := HT.out.c0; replace q1 := HT.out.c1; clear hcG))
      | (go_at_call 22; go_must (refine (sync_t HT.out HTB2.out (by simp only; omega)).mono ?_; rintro e wH ⟨rfl, ρH, hTH⟩; simp only [HZ.out] at hTH; replace HT := hid hTH; replace q0 := HT.out.c0; replace q1 := HT.out.c1; clear hTH; simp only [HZ.out]))
      | fail)
    go_ret
    exact ⟨rfl, HT.out.ch⟩

end Go.Proofs.YtlkmfhpnofpjdaaGreat
