/-
  CacheReads returns true: the walk, and what it stands on.
-/
import Derived.Test.YtlkmfhpnofpjdaaGreatT9
import Derived.Test.YtlkmfhpnofpjdaaGreatT2
import Derived.Shelf.SlicesE.DeleteFunc
import Derived.Test.YtlkmfhpnofpjdaaGreatDisk2
import Derived.Test.YtlkmfhpnofpjdaaGreatCLawF
namespace Go.Proofs.YtlkmfhpnofpjdaaGreat
open Go.RowKit

/-- Edges that lie in memory. -/
def EdAt (w : World) (a : Option Addr) (l : List (Int × Int)) : Prop :=
  l = [] ∨ ∃ g, a = some ⟨g, 0, none⟩ ∧ g < w.heap.size ∧ ∀ k, k < l.length → w.cell? ⟨g, k * 2, none⟩ = some (.int .i64 (l.getD k (0, 0)).1) ∧ w.cell? ⟨g, k * 2 + 1, none⟩ = some (.int .i64 (l.getD k (0, 0)).2)
theorem EdAt.call {w w' : World} {a : Option Addr} {l : List (Int × Int)} (h : EdAt w a l) (hc : Chg w w' No) : EdAt w' a l := by
  rcases h with h | ⟨g, rfl, hg, h⟩
  · exact .inl h
  · exact .inr ⟨g, rfl, Nat.lt_of_lt_of_le hg hc.size, fun k hk => ⟨cell_keep (h k hk).1 hc hg (fun e => e), cell_keep (h k hk).2 hc hg (fun e => e)⟩⟩
theorem EdAt.keep {w w' : World} {a : Option Addr} {l : List (Int × Int)} {ks : Nat → Prop} (h : EdAt w a l) (hc : Chg w w' ks) (hn : ∀ g, a = some ⟨g, 0, none⟩ → ¬ ks g) : EdAt w' a l := by
  rcases h with h | ⟨g, rfl, hg, h⟩
  · exact .inl h
  · exact .inr ⟨g, rfl, Nat.lt_of_lt_of_le hg hc.size, fun k hk => ⟨cell_keep (h k hk).1 hc hg (hn g rfl), cell_keep (h k hk).2 hc hg (hn g rfl)⟩⟩
theorem Edgs.edat {w : World} {base : Nat} {v : Value} {l : List (Int × Int)} (h : Edgs w base v l) : ∃ a c, v = .slice a l.length c ∧ EdAt w a l ∧ ∀ g, a = some ⟨g, 0, none⟩ → base ≤ g := by
  rcases h.2 with ⟨rfl, h0⟩ | ⟨g, cap, cur, rfl, hge, hb, h1, h2, h3, h4⟩
  · have : l = [] := List.eq_nil_of_length_eq_zero h0
    subst this
    exact ⟨none, 0, rfl, .inl rfl, fun g e => by cases e⟩
  · have key : ∀ j u, (cellsE l)[j]? = some u → w.cell? ⟨g, j, none⟩ = some u := by
      intro j u hu
      have hj : j < l.length * 2 := by
        rcases Nat.lt_or_ge j (cellsE l).length with k | k
        · rw [cellsE_len] at k; exact k
        · rw [List.getElem?_eq_none k] at hu; cases hu
      rw [cell_of_row _ _ _ _ _ _ hb, ← Array.getElem?_toList]
      have e : (cur.toList.take (l.length * 2))[j]? = (cellsE l)[j]? := by rw [h4]
      rw [List.getElem?_take_of_lt hj] at e
      rw [e]
      exact hu
    refine ⟨_, cap, rfl, .inr ⟨g, rfl, slt hb, fun k hk => ?_⟩, fun g' e => by cases e; exact hge⟩
    have hg := cellsE_get l k
    rw [List.getElem?_eq_getElem hk] at hg
    have e : l.getD k (0, 0) = l[k] := by simp [hk]
    rw [e, Nat.mul_comm]
    exact ⟨key _ _ hg.1, key _ _ hg.2⟩

variable {n : Nat} {z : CSt}

theorem writeD_one {d : D.St8} {x : Int} {v : List Int} (h : D.writeE d n x = 0) : (D.writeD d n x v).wr = d.wr + 1 := by
  unfold D.writeE at h
  unfold D.writeD
  by_cases h0 : D.refE d n x = 0
  · rw [if_pos h0] at h
    rw [if_pos h0]
    by_cases h1 : d.ar = true ∧ d.lf = 0
    · rw [if_pos h1] at h
      exact absurd h (by decide)
    · rw [if_neg h1]
  · rw [if_neg h0] at h
    exact absurd h h0
theorem wrC_one (hi : CInv n z) {x : Int} (hx : z.dirty x) (h0 : (wrC n z x).2 = 0) : (wrC n z x).1.d.wr = z.d.wr + 1 := by
  obtain ⟨q, hq⟩ := Option.isSome_iff_exists.1 hx
  have hok := hi.ok x hx
  cases hlo : z.lost with
  | true =>
    have e : wrC n z x = (z, 22) := by unfold wrC; rw [if_pos hlo]
    rw [e] at h0
    exact absurd h0 (by simp)
  | false =>
    rcases writeE_cases z.d n x hok.1 hok.2 with he | he
    · rw [wrC_done hlo hq he]
      exact writeD_one he
    · rw [wrC_down hlo hq he] at h0
      exact absurd h0 (by simp)
open Classical in
/-- What was written, counted: all but those that are left. -/
theorem wAll_count : ∀ (k : Nat) (z : CSt) (l : List Int), CInv n z → l.length = k → l.Pairwise (· ≠ ·) → (∀ x, x ∈ l → z.dirty x) → (wAll n k z l).2 = 0 →
    ∃ r : List Int, (∀ x, x ∈ r → x ∈ l ∧ (wAll n k z l).1.dirty x) ∧ (wAll n k z l).1.d.wr + r.length = z.d.wr + l.length
  | 0, z, l, _, hl, _, _, _ => ⟨[], by simp, by rw [hl]; rfl⟩
  | k + 1, z, l, hi, hl, hnd, hdi, h0 => by
    unfold wAll at h0 ⊢
    cases hf : l.find? (fun x => decide (FreeE z.E x)) with
    | none =>
      rw [hf] at h0
      exact ⟨l, fun x hx => ⟨hx, hdi x hx⟩, rfl⟩
    | some x =>
      rw [hf] at h0
      simp only at h0 ⊢
      have hm : x ∈ l := List.mem_of_find?_eq_some hf
      by_cases h1 : (wrC n z x).2 = 0
      · rw [if_pos h1] at h0 ⊢
        have hle : (l.erase x).length = k := by rw [List.length_erase_of_mem hm]; omega
        obtain ⟨r, r1, r2⟩ := wAll_count k (wrC n z x).1 (l.erase x) (wrC_inv hi x) hle (hnd.sublist List.erase_sublist) (wrC_left hi hnd hdi hm h1) h0
        refine ⟨r, fun y hy => ⟨List.mem_of_mem_erase (r1 y hy).1, (r1 y hy).2⟩, ?_⟩
        rw [r2, wrC_one hi (hdi x hm) h1, hle, hl]
        omega
      · rw [if_neg h1] at h0
        exact absurd h0 h1
theorem wAll_exact {l : List Int} (hi : CInv n z) (ht : ToDo n z l) (h0 : (wAll n l.length z l).2 = 0) : (wAll n l.length z l).1.d.wr = z.d.wr + l.length := by
  obtain ⟨r, r1, r2⟩ := wAll_count l.length z l hi rfl ht.nd ht.di h0
  have hw := (wAll_wrote l.length l z rfl hi ht).ok h0
  have : r = [] := by
    cases r with
    | nil => rfl
    | cons a r =>
      have h1 := r1 a (by simp)
      exact absurd h1.1 ((hw.2 a).1 h1.2).2
  rw [this] at r2
  simpa using r2
/-- Those that are left, counted. -/
theorem secs_rest {p q : Int → Prop} {l : List Int} (hl : l.Pairwise (· ≠ ·)) (hs : ∀ x, x ∈ l → Sec x ∧ p x) (hq : ∀ y, q y ↔ p y ∧ y ∉ l) : (secs q).length + l.length = (secs p).length := by
  have hp : (secs q ++ l).Perm (secs p) := by
    refine (List.perm_ext_iff_of_nodup ?_ ?_).2 fun a => ?_
    · refine List.nodup_append.2 ⟨(secs_up q).imp fun {a b} e => by omega, hl, fun a ha b hb e => ?_⟩
      subst e
      exact ((hq a).1 (secs_mem.1 ha).2).2 hb
    · exact (secs_up p).imp fun {a b} e => by omega
    · rw [List.mem_append, secs_mem, secs_mem, hq]
      constructor
      · rintro (⟨h1, h2, _⟩ | h)
        · exact ⟨h1, h2⟩
        · exact hs a h
      · rintro ⟨h1, h2⟩
        by_cases h : a ∈ l
        · exact .inr h
        · exact .inl ⟨h1, h2, h⟩
  rw [← hp.length_eq, List.length_append]
theorem secs_empty {p : Int → Prop} (h : ∀ x, ¬ p x) : secs p = [] := by
  cases he : secs p with
  | nil => rfl
  | cons a r =>
    have : a ∈ secs p := by rw [he]; simp
    exact absurd (secs_mem.1 this).2 (h a)

theorem Reach.sec {E : Int → Int → Prop} (hs : InSec E) {a k : Int} (hk : Sec k) (h : Reach E a k) : Sec a := by
  rcases h with rfl | h
  · exact hk
  · cases h with
    | one h => exact (hs _ _ h).1
    | more h _ => exact (hs _ _ h).1
/-- All that must land ahead of a sector, and it. -/
theorem bef_len (hi : CInv n z) {k : Int} (hk : z.dirty k) : (secs fun a => Reach z.E a k).length = (befC z k).length + 1 := by
  have h := secs_rest (p := fun a => Reach z.E a k) (q := fun a => a ≠ k ∧ Reach z.E a k) (l := [k]) (by simp) (fun x hx => by
    rw [List.mem_singleton.1 hx]
    exact ⟨hi.sec hk, .inl rfl⟩) (fun y => by simp only [List.mem_singleton]; exact ⟨fun e => ⟨e.2, e.1⟩, fun e => ⟨e.2, e.1⟩⟩)
  unfold befC
  simp at h ⊢
  omega

/-- What is known of those that were found. -/
structure AInv (E : Int → Int → Prop) (k : Int) (L : List Int) : Prop where
  nd : L.Pairwise (· ≠ ·)
  me : k ∈ L
  re : ∀ a, a ∈ L → Reach E a k
theorem AInv.len {E : Int → Int → Prop} {k : Int} {L : List Int} (h : AInv E k L) (hs : InSec E) (hk : Sec k) : L.length ≤ 4096 :=
  Nat.le_trans (nodup_len L (secs Sec) h.nd fun x hx => secs_mem.2 ⟨(h.re x hx).sec hs hk, (h.re x hx).sec hs hk⟩) (secs_len _)
theorem AInv.more {E : Int → Int → Prop} {k a b : Int} {L : List Int} (h : AInv E k L) (hb : b ∈ L) (he : E a b) (hn : a ∉ L) : AInv E k (L ++ [a]) := by
  refine ⟨?_, List.mem_append_left _ h.me, fun x hx => ?_⟩
  · rw [List.pairwise_append]
    refine ⟨h.nd, by simp, fun x hx y hy e => ?_⟩
    rw [List.mem_singleton.1 hy] at e
    exact hn (e ▸ hx)
  · rcases List.mem_append.1 hx with e | e
    · exact h.re x e
    · rw [List.mem_singleton.1 e]
      exact Reach.step he (h.re b hb)
theorem AInv.all {E : Int → Int → Prop} {k : Int} {L : List Int} (h : AInv E k L) (hs : InSec E) (hk : Sec k) (hc : ∀ a b, b ∈ L → E a b → a ∈ L) : L.length = (secs fun a => Reach E a k).length := by
  have hp : L.Perm (secs fun a => Reach E a k) := by
    refine (List.perm_ext_iff_of_nodup h.nd ((secs_up _).imp fun {a b} e => by omega)).2 fun a => ?_
    rw [secs_mem]
    refine ⟨fun e => ⟨(h.re a e).sec hs hk, h.re a e⟩, fun e => ?_⟩
    have := (Reach.rev_iff (E := E) (a := k) (b := a)).2 e.2
    exact this.closed (S := fun x => x ∈ L) h.me (fun x y hx hy => hc y x hx hy)
  exact hp.length_eq
theorem take_mem {L : List Int} {j : Nat} (hj : j < L.length) {x : Int} : x ∈ L.take (j + 1) ↔ x ∈ L.take j ∨ L.getD j 0 = x := by
  rw [List.take_add_one, List.getElem?_eq_getElem hj, List.mem_append]
  have e : L.getD j 0 = L[j] := by simp [hj]
  rw [e]
  simp [eq_comm]
theorem gmem {L : List Int} {j : Nat} (hj : j < L.length) : L.getD j 0 ∈ L := by
  have e : L.getD j 0 = L[j] := by simp [hj]
  rw [e]
  exact List.getElem_mem hj
theorem getD_app {L M : List Int} {j : Nat} (hj : j < L.length) : (L ++ M).getD j 0 = L.getD j 0 := by
  rw [List.getD_eq_getElem?_getD, List.getElem?_append_left hj, ← List.getD_eq_getElem?_getD]

structure KB (b : Bool) (X : Prop) : Prop where
  go1 : b = true → X
  go2 : X → b = true
theorem elist_len2 {E : Int → Int → Prop} {l : List (Int × Int)} (h : EList E l) (hs : InSec E) : l.length ≤ 16777216 :=
  edges_len l (h.1.imp fun {a b} e k => by subst k; unfold ltE at e; omega) fun x hx => hs _ _ ((h.2 x).1 hx)

set_option maxRecDepth 100000 in
set_option maxHeartbeats 4000000 in
theorem ahead_any (k0 : Int) (E : Int → Int → Prop) (l : List (Int × Int)) (a : Option Addr) (ca : Nat) (w : World) (hE : EList E l) (hs : InSec E) (hk : Sec k0) (hA : EdAt w a l) :
    Calls Tryz.prog 21 #[.int .i64 k0, .slice a l.length ca] w fun e w' => e = .returned (.int .i64 ((secs fun x => Reach E x k0).length : Nat)) ∧ Chg w w' No := by
  have hlen := elist_len2 hE hs
  have HE := hid hE
  have HS := hid hs
  have HK := hid hk
  have HA := hid hA
  generalize hm : l.length = m at *
  have HM := hid hm
  clear hm hE hs hk hA
  go_enter Tryz.func21, Tryz.ntmps21
  go_wp2_with fail
  have HI0 := hid (ints_new w k0)
  have HC0 := hid (Chg.alloc w (.cells #[.int .i64 k0] 3) No)
  have hz0 : w.heap.size ≤ (w.alloc (.cells #[.int .i64 k0] 3)).heap.size := by simp
  go_loopw [5, 6] (fun v i wr => ∃ (j : Nat) (L : List Int) (wq : World), wq = wr ∧ i = .int .i64 j ∧ j ≤ L.length ∧ L.length ≤ 4096 ∧ Hid (AInv E k0 L) ∧ Hid (∀ a b, b ∈ L.take j → E a b → a ∈ L) ∧ Hid (Ints wq w.heap.size v L) ∧ Hid (Chg w wq No)) (fun _ i _ => 4097 - (intOf i).toNat)
  case atStart => exact ⟨0, [k0], _, rfl, rfl, by simp, by simp, ⟨by simp, by simp, fun a ha => .inl (List.mem_singleton.1 ha)⟩, fun a b hb => by simp at hb, HI0, HC0⟩
  case round =>
    clear HI0 HC0 hz0
    obtain ⟨j, L, wq, rfl, rfl, hj, hL, HAI, HD, HI, HC⟩ := hrel
    obtain ⟨va, vc, rfl, hLA, hLb⟩ := HI.out.lat
    by_cases hlt : j < L.length
    · have hji : (j : Int) < (L.length : Int) := by omega
      obtain ⟨gL, rfl, hgL, hcL⟩ : ∃ gL, va = some ⟨gL, 0, none⟩ ∧ gL < wq.heap.size ∧ ∀ k, k < L.length → wq.cell? ⟨gL, k, none⟩ = some (.int .i64 (L.getD k 0)) := by
        rcases hLA with h | h
        · rw [h] at hlt; simp at hlt
        · exact h
      clear hLA hLb hgL hcL
      go_wp2_with fail
      go_loopw [5, 7, 8, 9] (fun v i _ _ wr => ∃ (k : Nat) (L : List Int) (wq : World), wq = wr ∧ i = .int .i64 k ∧ k ≤ m ∧ j < L.length ∧ L.length ≤ 4096 ∧ Hid (AInv E k0 L) ∧ Hid (∀ a b, b ∈ L.take j → E a b → a ∈ L) ∧ Hid (∀ q, q < k → (l.getD q (0, 0)).2 = L.getD j 0 → (l.getD q (0, 0)).1 ∈ L) ∧ Hid (Ints wq w.heap.size v L) ∧ Hid (Chg w wq No)) (fun _ i _ _ _ => m - (intOf i).toNat)
      case atStart => exact ⟨0, L, _, rfl, rfl, by omega, hlt, hL, HAI, HD, fun q hq => absurd hq (Nat.not_lt_zero q), HI, HC⟩
      case round =>
        clear HAI HD HI HC hlt hj hji hL
        obtain ⟨k, L, wq, rfl, rfl, hk, hlt, hL, HAI, HD, HQ, HI, HC⟩ := hrel
        obtain ⟨va, vc, rfl, hLA, hLb⟩ := HI.out.lat
        obtain ⟨gL, rfl, hgL, hcL⟩ : ∃ gL, va = some ⟨gL, 0, none⟩ ∧ gL < wq.heap.size ∧ ∀ k, k < L.length → wq.cell? ⟨gL, k, none⟩ = some (.int .i64 (L.getD k 0)) := by
          rcases hLA with h | h
          · rw [h] at hlt; simp at hlt
          · exact h
        have HcL := hid hcL
        clear hLA hLb
        by_cases hkm : k < m
        · have hki : (k : Int) < (m : Int) := by omega
          obtain ⟨ge, rfl, hge, hce⟩ : ∃ ge, a = some ⟨ge, 0, none⟩ ∧ ge < wq.heap.size ∧ ∀ k, k < l.length → wq.cell? ⟨ge, k * 2, none⟩ = some (.int .i64 (l.getD k (0, 0)).1) ∧ wq.cell? ⟨ge, k * 2 + 1, none⟩ = some (.int .i64 (l.getD k (0, 0)).2) := by
            rcases HA.out.call HC.out with h | h
            · have := HM.out; rw [h] at this; simp at this; omega
            · exact h
          have hc1 := (hce k (by rw [HM.out]; exact hkm)).1
          have hc2 := (hce k (by rw [HM.out]; exact hkm)).2
          have hcj := hcL j hlt
          have HEk : Hid (E (l.getD k (0, 0)).1 (l.getD k (0, 0)).2) := by
            refine (HE.out.2 _).1 ?_
            have hk' : k < l.length := by rw [HM.out]; exact hkm
            have e : l.getD k (0, 0) = l[k] := by simp [hk']
            rw [e]
            exact List.getElem_mem hk'
          generalize hxx : (l.getD k (0, 0)).1 = ex at *
          generalize hyy : (l.getD k (0, 0)).2 = ey at *
          generalize hLj : L.getD j 0 = Lj at *
          have HX := hid (And.intro hxx (And.intro hyy hLj))
          have hji : (j : Int) < (L.length : Int) := by omega
          clear hce hcL hxx hyy hLj hgL hge
          go_wp2_with fail
          go_quiet (fail)
          have hcd := chg_drewN wq nq
          have HI2 := hid (row_keep HI.out hcd (fun _ _ e => e))
          have HC2 := hid (HC.out.tr hcd)
          generalize hwd : wq.drewN nq = wd at *
          have HcL2 : Hid (∀ k, k < L.length → wd.cell? ⟨gL, k, none⟩ = some (.int .i64 (L.getD k 0))) := fun q hq => by rw [← hwd]; exact HcL.out q hq
          clear hcd hwd HI HC HcL hcj hc1 hc2
          go_wp2_with fail
          go_loopw [8, 9] (fun kn i wr => ∃ (q : Nat) (b : Bool) (we : World), we = wr ∧ i = .int .i64 q ∧ q ≤ L.length ∧ kn = .bool b ∧ Hid (KB b (ey ≠ Lj ∨ ex ∈ L.take q)) ∧ Hid (Ints we w.heap.size (.slice (some ⟨gL, 0, none⟩) L.length vc) L) ∧ Hid (Chg w we No) ∧ Hid (∀ k, k < L.length → we.cell? ⟨gL, k, none⟩ = some (.int .i64 (L.getD k 0)))) (fun _ i _ => L.length - (intOf i).toNat)
          case atStart => exact ⟨0, _, _, rfl, rfl, by omega, rfl, hid ⟨fun h => .inl (by simpa using h), fun h => by simpa using h⟩, HI2, HC2, HcL2⟩
          case round =>
            clear HI2 HC2 HcL2
            obtain ⟨q, b, we, rfl, rfl, hq, rfl, HB, HI, HC, HcL⟩ := hrel
            by_cases hql : q < L.length
            · have hqi : (q : Int) < (L.length : Int) := by omega
              have hcq := HcL.out q hql
              have HTM := hid (@take_mem L q hql ex)
              generalize hLq : L.getD q 0 = Lq at *
              cases b
              · obtain ⟨ge2, hae, hge2, hce2⟩ : ∃ ge2, (some ⟨ge, 0, none⟩ : Option Addr) = some ⟨ge2, 0, none⟩ ∧ ge2 < we.heap.size ∧ ∀ k, k < l.length → we.cell? ⟨ge2, k * 2, none⟩ = some (.int .i64 (l.getD k (0, 0)).1) ∧ we.cell? ⟨ge2, k * 2 + 1, none⟩ = some (.int .i64 (l.getD k (0, 0)).2) := by
                  rcases HA.out.call HC.out with h | h
                  · have := HM.out; rw [h] at this; simp at this; omega
                  · exact h
                cases hae
                have hc1 := (hce2 k (by rw [HM.out]; exact hkm)).1
                rw [HX.out.1] at hc1
                clear hce2 hge2
                have hB0 : ¬ (ey ≠ Lj ∨ ex ∈ L.take q) := fun h => by have := HB.out.go2 h; cases this
                by_cases hqe : Lq = ex
                · have hqb : (Lq == ex) = true := by simp [hqe]
                  have HB2 : Hid (KB true (ey ≠ Lj ∨ ex ∈ L.take (q + 1))) := ⟨fun _ => .inr (HTM.out.2 (.inr (hLq ▸ hqe))), fun _ => rfl⟩
                  clear hB0 HB hqe hLq HTM
                  go_wp2_with fail
                  go_quiet (fail)
                  go_wp2_with fail
                  exact ⟨⟨q + 1, true, _, rfl, by go_num, by omega, rfl, HB2, hid (row_keep HI.out (chg_drewN we _) (fun _ _ e => e)), hid (HC.out.tr (chg_drewN we _)), fun k hk => HcL.out k hk⟩, by simp [intOf]; omega⟩
                · have hqb : (Lq == ex) = false := by simp [hqe]
                  have HB2 : Hid (KB false (ey ≠ Lj ∨ ex ∈ L.take (q + 1))) := ⟨fun e => Bool.noConfusion e, fun h => by
                    rcases h with h | h
                    · exact absurd (.inl h) hB0
                    · rcases HTM.out.1 h with h | h
                      · exact absurd (.inr h) hB0
                      · exact absurd (hLq ▸ h) hqe⟩
                  clear hB0 HB hqe hLq HTM
                  go_wp2_with fail
                  go_quiet (fail)
                  go_wp2_with fail
                  exact ⟨⟨q + 1, false, _, rfl, by go_num, by omega, rfl, HB2, hid (row_keep HI.out (chg_drewN we _) (fun _ _ e => e)), hid (HC.out.tr (chg_drewN we _)), fun k hk => HcL.out k hk⟩, by simp [intOf]; omega⟩
              · have HB2 : Hid (KB true (ey ≠ Lj ∨ ex ∈ L.take (q + 1))) := ⟨fun _ => by
                  rcases HB.out.go1 rfl with h | h
                  · exact .inl h
                  · exact .inr (HTM.out.2 (.inl h)), fun _ => rfl⟩
                clear HB hLq HTM
                go_wp2_with fail
                go_quiet (fail)
                go_wp2_with fail
                exact ⟨⟨q + 1, true, _, rfl, by go_num, by omega, rfl, HB2, hid (row_keep HI.out (chg_drewN we _) (fun _ _ e => e)), hid (HC.out.tr (chg_drewN we _)), fun k hk => HcL.out k hk⟩, by simp [intOf]; omega⟩
            · have eq : q = L.length := by omega
              subst eq
              rw [List.take_length] at HB
              have HmL := hid (@gmem L j hlt)
              clear hq hql
              cases b
              · have hB0 : ¬ (ey ≠ Lj ∨ ex ∈ L) := fun h => by have := HB.out.go2 h; cases this
                obtain ⟨ge2, hae, hge2, hce2⟩ : ∃ ge2, (some ⟨ge, 0, none⟩ : Option Addr) = some ⟨ge2, 0, none⟩ ∧ ge2 < we.heap.size ∧ ∀ k, k < l.length → we.cell? ⟨ge2, k * 2, none⟩ = some (.int .i64 (l.getD k (0, 0)).1) ∧ we.cell? ⟨ge2, k * 2 + 1, none⟩ = some (.int .i64 (l.getD k (0, 0)).2) := by
                  rcases HA.out.call HC.out with h | h
                  · have := HM.out; rw [h] at this; simp at this; omega
                  · exact h
                cases hae
                have hc1 := (hce2 k (by rw [HM.out]; exact hkm)).1
                rw [HX.out.1] at hc1
                have heq : ey = Lj := Classical.byContradiction fun h => hB0 (.inl h)
                have hnin : ex ∉ L := fun h => hB0 (.inr h)
                have hA2 := HAI.out.more (a := ex) (b := Lj) (by rw [← HX.out.2.2]; exact HmL.out) (by rw [← heq]; exact HEk.out) hnin
                have HA2 := hid hA2
                have hL2 := hA2.len HS.out HK.out
                have HD2 : Hid (∀ a b, b ∈ (L ++ [ex]).take j → E a b → a ∈ L ++ [ex]) := fun a b hb he => by
                  rw [List.take_append_of_le_length (by omega)] at hb
                  exact List.mem_append_left _ (HD.out a b hb he)
                have HQ2 : Hid (∀ q, q < k + 1 → (l.getD q (0, 0)).2 = (L ++ [ex]).getD j 0 → (l.getD q (0, 0)).1 ∈ L ++ [ex]) := fun q hq he => by
                  rw [getD_app hlt, HX.out.2.2] at he
                  by_cases e : q = k
                  · rw [e, HX.out.1]; simp
                  · exact List.mem_append_left _ (HQ.out q (by omega) he)
                have HI4 := hid (row_keep HI.out (Chg.alloc we (.cells #[.int .i64 ex] 3) No) (fun _ _ e => e))
                have hcell := cell0 (heap_alloc_new we (.cells #[.int .i64 ex] 3))
                have hbz : w.heap.size ≤ we.heap.size := HC.out.size
                clear hB0 heq hnin hA2 hce2 hge2 HAI HD HQ HB
                go_wp2_with (first
                  | (at_builtin; go_must (refine wp_appI rfl _ _ rfl w.heap.size we.heap.size 1 _ L ex rfl rfl HI4.out hcell (by omega) (by simp; omega) ?_; intro v5 w5 h51 h52 h53))
                  | go_in)
                have HC5 : Chg w w5 No := (HC.out.tr (Chg.alloc we (.cells #[.int .i64 ex] 3) No)).trans h52 (fun _ _ e => e) (fun j hj e => by have := (row_ge HI4.out e).1; omega)
                go_roundw
                case rel => exact ⟨k + 1, L ++ [ex], w5, rfl, by go_num, by omega, by simp; omega, hL2, HA2, HD2, HQ2, hid h51, hid HC5⟩
                case measure => simp [intOf]; omega
              · have HQ2 : Hid (∀ q, q < k + 1 → (l.getD q (0, 0)).2 = L.getD j 0 → (l.getD q (0, 0)).1 ∈ L) := fun q hq he => by
                  by_cases e : q = k
                  · subst e
                    rw [HX.out.1]
                    rw [HX.out.2.1, HX.out.2.2] at he
                    rcases HB.out.go1 rfl with h | h
                    · exact absurd he h
                    · exact h
                  · exact HQ.out q (by omega) (he.trans HX.out.2.2)
                clear HB HQ
                go_wp2_with fail
                go_roundw
                case rel => exact ⟨k + 1, L, we, rfl, by go_num, by omega, hlt, hL, HAI, HD, HQ2, HI, HC⟩
                case measure => simp [intOf]; omega
        · have ek : k = m := by omega
          have HD2 : Hid (∀ a b, b ∈ L.take (j + 1) → E a b → a ∈ L) := fun a b hb he => by
            rcases (take_mem hlt).1 hb with h | h
            · exact HD.out a b h he
            · obtain ⟨q, hq, e⟩ := List.mem_iff_getElem.1 ((HE.out.2 (a, b)).2 he)
              have e2 : l.getD q (0, 0) = (a, b) := by simp [hq, e]
              have := HQ.out q (by rw [ek, ← HM.out]; exact hq) (by rw [e2]; exact h.symm)
              rw [e2] at this
              exact this
          clear hk HQ HD HcL hcL hgL ek
          go_wp2_with fail
          go_roundw
          case rel => exact ⟨j + 1, L, wq, rfl, by go_num, by omega, hL, HAI, HD2, HI, HC⟩
          case measure => simp [intOf]; omega
    · have ej : j = L.length := by omega
      subst ej
      rw [List.take_length] at HD
      have HN := hid (HAI.out.all HS.out HK.out (fun a b hb he => HD.out a b hb he))
      clear hLA hLb hj hlt
      go_wp2_with fail
      go_ret
      exact ⟨by rw [← HN.out]; rfl, HC.out⟩

end Go.Proofs.YtlkmfhpnofpjdaaGreat

namespace Go.Proofs.YtlkmfhpnofpjdaaGreat
open Go.RowKit Go.Shelf Go.Sort Go.Lib

/-- Numbers that are ints. -/
abbrev SI := { x : Int // I64 x }
instance : Inhabited SI := ⟨⟨0, by unfold I64; omega⟩⟩
def encS (x : SI) : Value := .int .i64 x.1
open Classical in
noncomputable def toS (x : Int) : SI := if h : I64 x then ⟨x, h⟩ else default
theorem toS_val {x : Int} (h : I64 x) : (toS x).1 = x := by unfold toS; rw [dif_pos h]
theorem map_toS {l : List Int} (h : ∀ x, x ∈ l → I64 x) : (l.map toS).map (·.1) = l := by
  rw [List.map_map]
  conv => rhs; rw [← List.map_id l]
  exact List.map_congr_left fun x hx => toS_val (h x hx)
theorem putRow_sub (w : World) (g : Nat) (d : Array SI) : putRow encS w g 0 d = putRow (Value.int .i64) w g 0 (d.map (·.1)) := by
  unfold putRow
  congr 1
  funext c
  unfold putCells
  congr 1
  funext k x
  rw [Array.size_map]
  by_cases h : 0 ≤ k ∧ k < 0 + d.size
  · rw [if_pos h, if_pos h]
    have h1 : k - 0 < d.size := by omega
    rw [getElem!_pos d _ h1, getElem!_pos (d.map (·.1)) _ (by simpa using h1)]
    simp [encS]
  · rw [if_neg h, if_neg h]
theorem chg_grow (w : World) (os : Array Obj) (ks : Nat → Prop) : Chg w (grow w os) ks := by
  have h := below_grown w 0 os
  exact ⟨rfl, rfl, rfl, h.size, fun k hk _ => h.block k hk⟩
theorem sortWorld_chg (w : World) (blk n : Nat) (dk : Array SI) (os : Array Obj) : Chg w (sortWorld encS w blk 0 n dk os) (· = blk) := by
  have h1 : Chg w (putRow encS (Sort.ahead w n) blk 0 dk) (· = blk) := putRow_chg dk
  exact h1.trans (chg_grow _ os No) (fun _ _ e => e) (fun _ _ e => e.elim)

variable {w : World} {c p g n : Nat} {ρ : Nat → Option Role} {z : CSt}
open Classical in
/-- Is something to land ahead of it? -/
noncomputable def notFree (z : CSt) (x : SI) : Bool := !decide (FreeE z.E x.1)
set_option maxHeartbeats 1000000 in
theorem eligC_any (x : SI) (bx : Nat) (h : IsC w c p g n ρ z) (hb : w.cell? ⟨bx, 0, none⟩ = some (.pointer (some ⟨c, 0, none⟩))) : Calls Tryz.prog 71 #[encS x, .pointer (some ⟨bx, 0, none⟩)] w fun e w' => e = .returned (.bool (notFree z x)) ∧ w = w' := by
  obtain ⟨gp, mb, go, tv, lv, h⟩ := h
  have k1 := h.c1
  have HF := free_any x.1 h.gr x.2
  have HE : Hid (∀ r : Bool, (r = true ↔ ∀ a, ¬ z.E a x.1) → notFree z x = !r) := fun r hr => by
    unfold notFree
    cases r
    · have hf : ¬ FreeE z.E x.1 := fun k => by have := hr.2 k; cases this
      simp [hf]
    · have hf : FreeE z.E x.1 := hr.1 rfl
      simp [hf]
  unfold encS
  clear h
  go_enter Tryz.func71, Tryz.ntmps71
  go_wp2_with (first
    | (go_at_call 72; go_must (refine HF.mono ?_; rintro e w1 ⟨r, rfl, hr, rfl⟩; have HR := hid (HE.out r hr); clear HF hr))
    | fail)
  go_ret
  exact ⟨D.ret_bool HR.out.symm, rfl⟩

set_option maxHeartbeats 1000000 in
theorem idx_nil (a : Option Addr) (ca : Nat) (fv : Value) (w : World) : Calls Tryz.prog 112 #[.slice a 0 ca, fv] w fun e w' => e = .returned (.int .i64 (-1)) ∧ w = w' := by
  go_enter Tryz.func112, Tryz.ntmps112
  go_wp2_with fail
  go_loopw [5, 8] (fun _ i wr => i = .int .i64 0 ∧ w = wr) (fun _ _ _ => 0)
  case atStart => exact ⟨rfl, rfl⟩
  case round =>
    obtain ⟨rfl, rfl⟩ := hrel
    go_wp2_with fail
    go_ret
    exact ⟨rfl, rfl⟩
set_option maxHeartbeats 1000000 in
theorem delf_nil (a : Option Addr) (ca : Nat) (fv : Value) (w : World) : Calls Tryz.prog 70 #[.slice a 0 ca, fv] w fun e w' => e = .returned (.slice a 0 ca) ∧ w = w' := by
  have H := idx_nil a ca fv w
  go_enter Tryz.func70, Tryz.ntmps70
  go_wp2_with (first
    | (go_at_call 112; go_must (refine H.mono ?_; rintro e w1 ⟨rfl, rfl⟩; clear H))
    | fail)
  go_ret
  exact ⟨rfl, rfl⟩
theorem drew0 (w : World) : w = w.drewN 0 := rfl
set_option maxRecDepth 100000 in
set_option maxHeartbeats 1000000 in
theorem delf_ints (bx : Nat) (base : Nat) (v : Value) (l : List Int) (hl : ∀ x, x ∈ l → I64 x) (hn : l.length ≤ 4096) (h : IsC w c p g n ρ z) (hb : w.cell? ⟨bx, 0, none⟩ = some (.pointer (some ⟨c, 0, none⟩))) (hbx : bx < w.heap.size) (hI : Ints w base v l) (hown : ∀ k, v.ownBlock = some k → ¬ Own ρ k ∧ k ≠ bx) :
    Calls Tryz.prog 70 #[v, .func (.func 71) #[] #[.pointer (some ⟨bx, 0, none⟩)]] w fun e w' => ∃ v', e = .returned v' ∧ Ints w' base v' (l.filter fun x => !notFree z (toS x)) ∧ Chg w w' (fun k => v.ownBlock = some k) := by
  have hpred : ∀ (W : World) (x : SI), IsC W c p g n ρ z → W.cell? ⟨bx, 0, none⟩ = some (.pointer (some ⟨c, 0, none⟩)) → FnGives Tryz.prog 71 #[.pointer (some ⟨bx, 0, none⟩)] #[encS x] (.bool (notFree z x)) W := fun W x hW hc => by
    refine (eligC_any x bx hW hc).mono ?_
    rintro e w' ⟨rfl, rfl⟩
    exact ⟨rfl, 0, rfl⟩
  rcases hI.2 with ⟨rfl, h0⟩ | ⟨blk, cap, cur, rfl, hge, hbk, h1, h2, h3, h4⟩
  · have : l = [] := List.eq_nil_of_length_eq_zero h0
    subst this
    refine (delf_nil none 0 _ w).mono ?_
    rintro e w' ⟨rfl, rfl⟩
    exact ⟨_, rfl, World.ownsRow_nil _ _ _ _, Chg.refl _ _⟩
  · have hO := hown blk rfl
    have hd : (l.map toS).toArray.size = l.length := by simp
    have hmv : (l.map toS).map encS = l.map (Value.int .i64) := by
      rw [List.map_map]
      refine List.map_congr_left fun x hx => ?_
      show Value.int .i64 (toS x).1 = _
      rw [toS_val (hl x hx)]
    have hH : Holds encS w blk 0 (l.map toS).toArray := row_holds hbk (by rw [hmv, List.length_map, ← h4, Nat.mul_one])
    have hp : PredAt Tryz.prog 71 #[.pointer (some ⟨bx, 0, none⟩)] encS (notFree z) w := fun W x hB => hpred W x (h.call (Chg.of_below hB No)) (cell_keep hb (Chg.of_below hB No) hbx (fun e => e))
    have hpo : PredOver Tryz.prog 71 #[.pointer (some ⟨bx, 0, none⟩)] encS (notFree z) blk 0 (l.map toS).toArray.size w := fun k os dk x _ => hpred _ x (h.keep (sortWorld_chg w blk k dk os) (fun j hj e => hO.1 (by rw [← e]; exact hj))) (cell_keep hb (sortWorld_chg w blk k dk os) hbx (fun e => hO.2 e.symm))
    have hc := AnyE.slices_DeleteFunc layDelF encS (fun _ => rfl) (notFree z) 71 #[.pointer (some ⟨bx, 0, none⟩)] (enters_of Tryz.func71 (by kernel_rfl) rfl) default Tryz.zeroValue3 blk 0 cap (l.map toS).toArray w hp hpo hH (by rw [hd]; omega) (by rw [hd]; exact h1)
    change Calls Tryz.prog 70 _ _ _ at hc
    rw [hd] at hc
    refine hc.mono ?_
    rintro e w' ⟨rfl, q, rfl⟩
    have hfl : ((l.map toS).filter fun x => !notFree z x).map (·.1) = l.filter fun x => !notFree z (toS x) := by
      rw [List.filter_map, List.map_map]
      conv => rhs; rw [← List.map_id (l.filter fun x => !notFree z (toS x))]
      exact List.map_congr_left fun x hx => toS_val (hl x (List.mem_filter.1 hx).1)
    have hfn : ((l.map toS).filter fun x => !notFree z x).length = (l.filter fun x => !notFree z (toS x)).length := by rw [← hfl, List.length_map]
    have hle : (l.filter fun x => !notFree z (toS x)).length ≤ l.length := List.length_filter_le _ _
    have hp2 := ints_put (w := w) (q := q) (l.filter fun x => !notFree z (toS x)) (List.replicate (l.length - (l.filter fun x => !notFree z (toS x)).length) 0) hge hbk (by rw [List.length_replicate]; omega) h2 h3
    refine ⟨_, rfl, ?_, (putRow_chg _).mono fun j _ e => by rw [e]; rfl⟩
    rw [putRow_sub]
    have e2 : (((l.map toS).filter fun x => !notFree z x) ++ List.replicate (l.length - ((l.map toS).filter fun x => !notFree z x).length) default).toArray.map (fun y : SI => y.1) = ((l.filter fun x => !notFree z (toS x)) ++ List.replicate (l.length - (l.filter fun x => !notFree z (toS x)).length) 0).toArray := by
      rw [List.map_toArray, List.map_append, hfl, hfn, List.map_replicate]
      rfl
    have e3 := e2
    rw [show (fun y : SI => y.1) = (·.1) from rfl] at e3
    rw [e3, hfn]
    exact hp2

open Classical in
theorem filter_secs (z : CSt) : ((secs z.dirty).filter fun x => !notFree z (toS x)) = secs fun x => z.dirty x ∧ FreeE z.E x := by
  refine rising_one _ _ ((secs_up _).filter _) (secs_up _) fun x => ?_
  rw [List.mem_filter, secs_mem, secs_mem]
  have key : Sec x → ((!notFree z (toS x)) = true ↔ FreeE z.E x) := fun hs => by
    unfold notFree
    rw [toS_val ⟨by have := hs.1; omega, by have := hs.2; omega⟩]
    simp
  constructor
  · rintro ⟨⟨h1, h2⟩, h3⟩
    exact ⟨h1, h2, (key h1).1 h3⟩
  · rintro ⟨h1, h2, h3⟩
    exact ⟨⟨h1, h2⟩, (key h1).2 h3⟩
set_option maxRecDepth 100000 in
set_option maxHeartbeats 1000000 in
theorem elig_any (h : IsC w c p g n ρ z) : Calls Tryz.prog 23 #[.pointer (some ⟨c, 0, none⟩)] w fun e w' => ∃ v, e = .returned v ∧ Ints w' w.heap.size v (secs fun x => z.dirty x ∧ FreeE z.E x) ∧ Chg w w' No := by
  have hc1 : Chg w (w.alloc (.cells #[.pointer (some ⟨c, 0, none⟩)] 31)) No := Chg.alloc _ _ _
  have HD := dirty_any (h.call hc1)
  have HC := hid hc1
  have HH := hid h
  have hk : (w.alloc (.cells #[.pointer (some ⟨c, 0, none⟩)] 31)).cell? ⟨w.heap.size, 0, none⟩ = some (.pointer (some ⟨c, 0, none⟩)) := by rw [cell_of_row _ _ _ _ _ _ (heap_alloc_new _ _)]; rfl
  have HK := hid hk
  clear hc1 h
  go_enter Tryz.func23, Tryz.ntmps23
  go_wp2_with (first
    | (go_at_call 16; go_must (refine HD.mono ?_; rintro e w1 ⟨v, rfl, hI, hc2⟩; have HI := hid hI; have HC2 := hid hc2; have HDF := delf_ints (z := z) (ρ := ρ) (n := n) (p := p) (g := g) (c := c) w.heap.size _ v (secs z.dirty) (fun x hx => by obtain ⟨h1, h2⟩ := (secs_mem.1 hx).1; exact ⟨by omega, by omega⟩) (secs_len _) (HH.out.call (HC.out.tr hc2)) (cell_keep HK.out hc2 (by simp) (fun e => e)) (by have := hc2.size; simp at this; omega) hI (fun k hk => by have h1 := (row_ge hI hk).1; simp at h1; exact ⟨fun ho => by have := HH.out.lt ho; omega, by omega⟩); clear HD hI hc2))
    | (go_at_call 70; go_must (refine HDF.mono ?_; rintro e w3 ⟨v3, rfl, hI3, hc3⟩))
    | fail)
  go_ret
  rw [filter_secs z] at hI3
  refine ⟨_, rfl, row_base hI3 (by simp), (HC.out.tr HC2.out).trans hc3 (fun _ _ e => e) (fun j hj e => ?_)⟩
  have := (row_ge HI.out e).1
  simp at this
  omega

end Go.Proofs.YtlkmfhpnofpjdaaGreat

namespace Go.Proofs.YtlkmfhpnofpjdaaGreat
open Go.RowKit

variable {w : World} {c p g n : Nat} {ρ : Nat → Option Role} {z : CSt}

/-- What Read tells. -/
def readC (z : CSt) (x : Int) : List Int := match z.P x with | some q => q.1 | none => D.secK z.d.S x.toNat
def RW (w : World) (x : Int) : World := (w.alloc (.cells (D.SA D.Zs) 60)).alloc (.cells #[.int .i64 x] 3)
theorem RW_chg (w : World) (x : Int) : Chg w (RW w x) No := (Chg.alloc _ _ _).tr (Chg.alloc _ _ _)
theorem RW_0 (w : World) (x : Int) : (RW w x).heap[w.heap.size]? = some (.cells (D.SA D.Zs) 60 (0, 0)) := by
  unfold RW
  rw [heap_alloc_if, if_neg (by simp), heap_alloc_if, if_pos rfl]
theorem RW_size (w : World) (x : Int) : (RW w x).heap.size = w.heap.size + 1 + 1 := by unfold RW; simp
theorem stand_alive (ha : Alive z) {x : Int} (hx : 0 ≤ x ∧ x < n) : standC n z x = (z, D.secK z.d.S x.toNat, 0) := by
  have hr : refC n z [x] = 0 := refC_alive ha (by simpa using hx)
  have he : D.refE z.d n x = 0 := by unfold D.refE; rw [if_neg (by rw [ha.2]; decide), if_neg (by omega)]
  unfold standC
  rw [if_pos hr, he]
  unfold hearC D.readS
  rw [if_neg (by decide), if_pos he]

set_option maxRecDepth 100000 in
set_option maxHeartbeats 2000000 in
theorem readC_any (x : Int) (h : IsC w c p g n ρ z) (hx : 0 ≤ x ∧ x < n) (ha : Alive z) : Calls Tryz.prog 27 #[.pointer (some ⟨c, 0, none⟩), .int .i64 x] w fun e w' => e = .returned (.tuple #[.agg (D.SA (readC z x)), .int .i64 0]) ∧ CPost w w' c p g n ρ z := by
  have hzs := D.zero_sec
  have hbz := D.build_sec
  have hn4 := h.inv.top
  have hI : I64 x := ⟨by omega, by omega⟩
  have HR := refusalC_any [x] (some ⟨w.heap.size + 1, 0, none⟩) 1 (h.call (RW_chg w x)) (by
    have := lat_one (w.alloc (.cells (D.SA D.Zs) 60)) x
    simp only [World.size_alloc] at this
    exact this) (by simp)
  simp only [List.length_singleton] at HR
  rw [refC_alive ha (by simpa using hx)] at HR
  have HH := hid h
  have HS0 := hid (RW_0 w x)
  have HSC := hid (RW_chg w x)
  have HSZ := hid (RW_size w x)
  obtain ⟨gp, mb, go, tv, lv, hA⟩ := h.call (RW_chg w x)
  have k2 := hA.c2
  have HM := hA.mp
  obtain ⟨C, hC, hCs, hC1⟩ := pend_val (z.P x) (tv x) (fun q hq => ⟨hA.inv.ln x q hq, ints_one (hA.tg x q hq)⟩)
  have HCC := hid hC
  have HQ := hid (heap_alloc_new (RW w x) (.cells pend0 99))
  have HS0b : Hid (((RW w x).alloc (.cells pend0 99)).heap[w.heap.size]? = some (.cells (D.SA D.Zs) 60 (0, 0))) := (Chg.alloc _ _ No).keep HS0.out (fun e => e)
  have HLN := hid (fun q (hq : z.P x = some q) => hA.inv.ln x q hq)
  cases hd : z.P x with
  | none =>
    have HST := hid (fun w1 (h1 : IsC w1 c p g n ρ z) => standC_any x h1)
    rw [stand_alive ha hx] at HST
    have hsl : (D.secK z.d.S x.toNat).length = 128 := by
      have := D.readS_len hA.dk x
      have he : D.refE z.d n x = 0 := by unfold D.refE; rw [if_neg (by rw [ha.2]; decide), if_neg (by omega)]
      unfold D.readS at this
      rw [if_pos he] at this
      exact this
    have HRE : Hid (readC z x = D.secK z.d.S x.toNat) := by show _ = _; unfold readC; rw [hd]
    have hdm : ((z.P x).map fun q => Value.agg (pend q.1 (tv x))).isSome = false := by rw [hd]; rfl
    have HLT := hid (fun k (hk : Own ρ k) => h.lt hk)
    rw [HRE.out]
    generalize D.secK z.d.S x.toNat = s at *
    clear h hA hC hd ha hx
    unfold RW at *
    go_enter Tryz.func27, Tryz.ntmps27
    go_wp2_with (first
      | (go_at_call 67; go_must (refine HR.mono ?_; rintro e w1 ⟨rfl, rfl⟩; clear HR))
      | (at_lookup; go_must (refine wp_okV rfl _ _ rfl mb _ x (.agg C) false HCC.out hdm rfl rfl HM hI ?_))
      | (refine D.store_row rfl 99 _ _ rfl (w.heap.size + 1 + 1) rfl C rfl pend0 (by have := HQ.out; rw [HSZ.out] at this; exact this) (by rw [szP, hCs]) (by rw [pend0_size, hCs]) hC1 ?_; intro w3 hw3; have hc3 : Chg w w3 No := (HSC.out.tr (Chg.alloc _ (.cells pend0 99) No)).trans (put_chg hw3) (fun _ _ e => e) (fun j hj e => by omega); have HQ3 := hid ((hw3.other w.heap.size (by omega)).trans HS0b.out); have HSD := HST.out w3 (HH.out.call hc3); have HC3 := hid hc3; clear hw3 hc3)
      | (go_at_call 30; go_must (refine HSD.mono ?_; rintro e w4 ⟨rfl, hP4⟩; obtain ⟨ρ4, h41, h42, h43⟩ := hP4; have HQ4 := hid (h43.keep HQ3.out (fun ho => by have := HLT.out _ ho; omega)); have HP4 := hid (And.intro h41 (And.intro h42 h43)); clear HSD h41 h42 h43))
      | (refine D.store_sec rfl _ _ rfl w.heap.size rfl s rfl hsl D.Zs D.Zs_len HQ4.out ?_; intro w5 hw5)
      | fail)
    refine bodyPost_ret (v := .tuple #[.agg (D.SA s), .int .i64 0]) (D.results_sec Tryz.results27 _ _ w.heap.size s hsl _ rfl rfl hw5.here) rfl ⟨rfl, ?_⟩
    obtain ⟨h41, h42, h43⟩ := HP4.out
    have hown : ∀ k, Own ρ4 k → ¬ k = w.heap.size := fun k hk e => by
      rcases h42 k hk with h | h
      · have := HLT.out k h; omega
      · have := HC3.out.size
        have h5 := slt HQ3.out
        omega
    refine ⟨ρ4, h41.keep (wrote_chg hw5) hown, fun k hk => ?_, ?_⟩
    · rcases h42 k hk with h | h
      · exact .inl h
      · exact .inr (Nat.le_trans HC3.out.size h)
    · refine (HC3.out.trans h43 (c := Own ρ) (fun _ _ e => e.elim) (fun _ _ e => e)).trans (wrote_chg hw5) (fun _ _ e => e) (fun j hj e => by omega)
  | some q =>
    have hql := HLN.out q hd
    have HRE : Hid (readC z x = q.1) := by show _ = _; unfold readC; rw [hd]
    have hdm : ((z.P x).map fun q => Value.agg (pend q.1 (tv x))).isSome = true := by rw [hd]; rfl
    have hCe : C = pend q.1 (tv x) := by rw [hd] at hC; simpa using hC.symm
    rw [HRE.out]
    clear h hA hC hd ha hx HRE
    subst hCe
    obtain ⟨q1, q2⟩ := q
    simp only at *
    unfold RW at *
    go_enter Tryz.func27, Tryz.ntmps27
    go_wp2_with (first
      | (go_at_call 67; go_must (refine HR.mono ?_; rintro e w1 ⟨rfl, rfl⟩; clear HR))
      | (at_lookup; go_must (refine wp_okV rfl _ _ rfl mb _ x (.agg (pend q1 (tv x))) true HCC.out hdm rfl rfl HM hI ?_))
      | (refine D.store_row rfl 99 _ _ rfl (w.heap.size + 1 + 1) rfl (pend q1 (tv x)) rfl pend0 (by have := HQ.out; rw [HSZ.out] at this; exact this) (by rw [szP, hCs]) (by rw [pend0_size, hCs]) hC1 ?_; intro w3 hw3; have hc3 : Chg w w3 No := (HSC.out.tr (Chg.alloc _ (.cells pend0 99) No)).trans (put_chg hw3) (fun _ _ e => e) (fun j hj e => by omega); have HQ3 := hid ((hw3.other w.heap.size (by omega)).trans HS0b.out); have HPR := hid (pend_range hw3.here); have HC3 := hid hc3; clear hw3 hc3)
      | (refine wpList_load_mid rfl 60 _ rfl (w.heap.size + 1 + 1) 0 rfl (q1.map (Value.int .u8)) _ HPR.out Tryz.underlying60 rfl (by rw [D.sz26, List.length_map, hql]) ?_)
      | (refine D.store_sec rfl _ _ rfl w.heap.size rfl q1 rfl hql D.Zs D.Zs_len HQ3.out ?_; intro w5 hw5)
      | fail)
    refine bodyPost_ret (v := .tuple #[.agg (D.SA q1), .int .i64 0]) (D.results_sec Tryz.results27 _ _ w.heap.size q1 hql _ rfl rfl hw5.here) rfl ⟨rfl, CPost.same HH.out (HC3.out.trans (wrote_chg hw5) (fun _ _ e => e) (fun j hj e => by omega))⟩

end Go.Proofs.YtlkmfhpnofpjdaaGreat

namespace Go.Proofs.YtlkmfhpnofpjdaaGreat.D
open Go.RowKit

set_option maxRecDepth 100000 in
set_option maxHeartbeats 1000000 in
theorem same_any (fl : List Int) (m : Nat) (a b : Option Addr) (ca cb : Nat) (w : World) (hl : fl.length = 128 * m) (hm : 128 * m ≤ 140737488355328) (ha : BytesAt w a fl) (hb : BytesAt w b fl) :
    Calls Tryz.prog 33 #[.slice a m ca, .slice b m cb] w fun e w' => e = .returned (.bool true) ∧ ∃ n, w' = w.drewN n := by
  have HA := hid ha
  have HBb := hid hb
  have HL := hid hl
  have hgd := guard_sec
  clear ha hb hl
  go_enter Tryz.func33, Tryz.ntmps33
  go_wp2_with fail
  go_loopw [5] (fun i wr => ∃ k n : Nat, k ≤ m ∧ i = .int .i64 k ∧ w.drewN n = wr) (fun i _ => m - (intOf i).toNat)
  case atStart => exact ⟨0, 0, by omega, rfl, rfl⟩
  case round =>
    obtain ⟨k, n, hk, rfl, rfl⟩ := hrel
    by_cases hlt : k < m
    · rcases HA.out with h0 | ⟨b1, o1, rfl, hb1, h1⟩
      · have := HL.out; rw [h0] at this; simp at this; omega
      · rcases HBb.out with h0 | ⟨b2, o2, rfl, hb2, h2⟩
        · have := HL.out; rw [h0] at this; simp at this; omega
        have hr1 := secK_range HL.out hlt h1
        have hr2 := secK_range HL.out hlt h2
        have hcl := secK_len HL.out hlt
        generalize secK fl k = c at *
        have hq := eq_sec c c hcl hcl
        rw [decide_eq_true rfl] at hq
        have hi0 : (0 : Int) ≤ (k : Int) := by omega
        have hi1 : (k : Int) < (m : Int) := by omega
        have R1 := hid hr1
        have R2 := hid hr2
        clear hr1 hr2 h1 h2
        go_wp2_with fail
        refine wp_region_noPanic ?_
        refine wp_region_held_drew (S := fun w' => w'.rangeAt b1 (o1 + k * 128) (c.map (Value.int .u8)) ∧ w'.rangeAt b2 (o2 + k * 128) (c.map (Value.int .u8))) (by kernel_rfl) ⟨R1.out, R2.out⟩ (fun hHeld => ?_)
        refine takeVal 0 17 (.slice (some ⟨b1, o1, none⟩) m ca) rfl (by kernel_rfl) (by kernel_rfl) (by kernel_rfl) rfl (by rfl) (fun _ _ _ h => h) hHeld (fun _ hw' => rfl) ?_
        simp only [List.setIfInBounds_toArray, List.set_cons_zero, List.set_cons_succ]
        refine takeVal 1 18 (.int .i64 (k : Int)) rfl (by kernel_rfl) (by kernel_rfl) (by kernel_rfl) rfl (by rfl) (fun _ _ _ h => h) hHeld (fun _ hw' => rfl) ?_
        simp only [List.setIfInBounds_toArray, List.set_cons_zero, List.set_cons_succ]
        refine takeVal 2 19 (.pointer (some ⟨b1, o1 + k * 128, none⟩)) rfl (by kernel_rfl) (by kernel_rfl) (by kernel_rfl) rfl (by rfl) (fun _ _ _ h => h) hHeld (fun _ hw' => by go_simp) ?_
        simp only [List.setIfInBounds_toArray, List.set_cons_zero, List.set_cons_succ]
        refine takeMidS 3 20 (.tmp 19) (b1) (o1 + k * 128) c hcl rfl (by kernel_rfl) (by kernel_rfl) (by kernel_rfl) rfl rfl rfl (by rfl) (fun _ _ _ h => h) hHeld (fun _ h => h.1) ?_
        simp only [List.setIfInBounds_toArray, List.set_cons_zero, List.set_cons_succ]
        refine takeVal 4 21 (.slice (some ⟨b2, o2, none⟩) m cb) rfl (by kernel_rfl) (by kernel_rfl) (by kernel_rfl) rfl (by rfl) (fun _ _ _ h => h) hHeld (fun _ hw' => rfl) ?_
        simp only [List.setIfInBounds_toArray, List.set_cons_zero, List.set_cons_succ]
        refine takeVal 5 22 (.int .i64 (k : Int)) rfl (by kernel_rfl) (by kernel_rfl) (by kernel_rfl) rfl (by rfl) (fun _ _ _ h => h) hHeld (fun _ hw' => rfl) ?_
        simp only [List.setIfInBounds_toArray, List.set_cons_zero, List.set_cons_succ]
        refine takeVal 6 23 (.pointer (some ⟨b2, o2 + k * 128, none⟩)) rfl (by kernel_rfl) (by kernel_rfl) (by kernel_rfl) rfl (by rfl) (fun _ _ _ h => h) hHeld (fun _ hw' => by go_simp) ?_
        simp only [List.setIfInBounds_toArray, List.set_cons_zero, List.set_cons_succ]
        refine takeMidS 7 24 (.tmp 23) (b2) (o2 + k * 128) c hcl rfl (by kernel_rfl) (by kernel_rfl) (by kernel_rfl) rfl rfl rfl (by rfl) (fun _ _ _ h => h) hHeld (fun _ h => h.2) ?_
        simp only [List.setIfInBounds_toArray, List.set_cons_zero, List.set_cons_succ]
        refine takeVal 8 25 (.bool false) rfl (by kernel_rfl) (by kernel_rfl) (by kernel_rfl) rfl (by rfl) (fun _ _ _ h => h) hHeld (fun _ hw' => by go_simp) ?_
        simp only [List.setIfInBounds_toArray, List.set_cons_zero, List.set_cons_succ]
        refine wpAnyH_done (by kernel_rfl) ?_ _
        refine NoPanic.normal ?_
        go_wp2_with fail
        exact ⟨⟨k + 1, n + 1, by omega, by go_num, rfl⟩, by simp [intOf]; omega⟩
    · go_wp2_with fail
      go_ret
      exact ⟨rfl, n, rfl⟩

end Go.Proofs.YtlkmfhpnofpjdaaGreat.D

namespace Go.Proofs.YtlkmfhpnofpjdaaGreat
open Go.RowKit

variable {n : Nat} {z : CSt} {L : Int → Int} {nx : Int} {od : List (Int × Int × Int × Int)}

/-- What is read is what was put last. -/
theorem reads_last (h : Core n z L nx od) {i : Nat} (hi : i < n) : readC z i = verL (L i) ∧ 0 ≤ L i ∧ L i < 16777216 ∧ (¬ z.dirty i → D.secK z.d.S i = verL (L i)) := by
  obtain ⟨v, v0, v1, v2, v3⟩ := h.dk i hi
  have hb := h.nb
  unfold readC
  cases hd : z.P i with
  | none =>
    have hnd : ¬ z.dirty i := fun k => by
      have : (z.P i).isSome = true := k
      rw [hd] at this
      cases this
    have e := v3 hnd
    simp only [Int.toNat_natCast]
    rw [v2, e]
    exact ⟨rfl, v0, by omega, fun _ => rfl⟩
  | some q =>
    obtain ⟨q1, q2, q3, q4⟩ := h.cn i q hd
    simp only
    exact ⟨q1, q2, by omega, fun k => absurd (show (z.P i).isSome = true by rw [hd]; rfl) k⟩
/-- A cache with nothing dirty: the disk has what was put last. -/
theorem clean_last (h : Core n z L nx od) (hc : ∀ x, ¬ z.dirty x) {i : Nat} (hi : i < n) : D.secK z.d.S i = verL (L i) ∧ 0 ≤ L i ∧ L i < 16777216 :=
  ⟨(reads_last h hi).2.2.2 (hc i), (reads_last h hi).2.1, (reads_last h hi).2.2.1⟩
theorem secs_ne {p : Int → Prop} (h : ¬ (secs p).length = 0) : ∃ x, Sec x ∧ p x := by
  cases he : secs p with
  | nil => rw [he] at h; exact absurd rfl h
  | cons x r =>
    have : x ∈ secs p := by rw [he]; simp
    exact ⟨x, secs_mem.1 this⟩
/-- Where one is dirty, one may land. -/
theorem elig_some (hi : CInv n z) (h : ¬ (secs z.dirty).length = 0) : ¬ (secs fun x => z.dirty x ∧ FreeE z.E x).length = 0 := by
  have hne : secs z.dirty ≠ [] := fun e => h (by rw [e]; rfl)
  obtain ⟨x, hx, hf⟩ := free_in hi hne fun a b he _ => secs_mem.2 ⟨hi.sec (hi.ed a b he).1, (hi.ed a b he).1⟩
  have hm : x ∈ secs fun x => z.dirty x ∧ FreeE z.E x := secs_mem.2 ⟨(secs_mem.1 hx).1, (secs_mem.1 hx).2, hf⟩
  intro e
  rw [List.length_eq_zero_iff.1 e] at hm
  cases hm
/-- One that may land is flushed: one write, one dirty sector less. -/
theorem flush_one (h : Core n z L nx od) (ha : Alive z) (hc : Calm z) {x : Int} (hx : z.dirty x) (hf : FreeE z.E x) :
    (flushC n z x).2.1 = true ∧ (flushC n z x).2.2 = 0 ∧ Core n (flushC n z x).1 L nx od ∧ Alive (flushC n z x).1 ∧ Calm (flushC n z x).1 ∧ (flushC n z x).1.d.wr = z.d.wr + 1 ∧ (secs (flushC n z x).1.dirty).length + 1 = (secs z.dirty).length := by
  have hok := h.inv.ok x hx
  have hr : refC n z [x] = 0 := refC_alive ha (by simpa using hok)
  have e : flushC n z x = ((wrC n z x).1, decide ((wrC n z x).2 = 0), (wrC n z x).2) := by unfold flushC; rw [if_pos hr, if_pos ⟨hx, hf⟩]
  have hca := wrC_calm (n := n) hc x
  have h0 : (wrC n z x).2 = 0 ∧ Alive (wrC n z x).1 := by
    rcases wrC_went h.inv ha hx with k | k
    · exact k
    · have := k.2
      rw [hca.2] at this
      cases this
  rw [e]
  refine ⟨by simp [h0.1], h0.1, h.wr hx hf, h0.2, hca, wrC_one h.inv hx h0.1, ?_⟩
  have := secs_rest (p := z.dirty) (q := (wrC n z x).1.dirty) (l := [x]) (by simp) (fun y hy => by
    rw [List.mem_singleton.1 hy]
    exact ⟨h.inv.sec hx, hx⟩) (fun y => by
    obtain ⟨q, hq, _, e2⟩ := wrC_zero h0.1 hx hok
    rw [e2]
    unfold forC CSt.dirty
    by_cases hy : y = x
    · simp [hy]
    · simp [hy])
  simpa using this

end Go.Proofs.YtlkmfhpnofpjdaaGreat

namespace Go.Proofs.YtlkmfhpnofpjdaaGreat
open Go.RowKit

/-- A teller's blocks. -/
def Blk (t lb db : Nat) (ov : Value) (ρ : Nat → Option Role) (k : Nat) : Prop := k = t ∨ k = lb ∨ k = db ∨ ov.ownBlock = some k ∨ Own ρ k

section
variable {w0 w w' : World} {t c p g n lb db : Nat} {ρ : Nat → Option Role} {ov : Value} {s : TSt}
theorem IsT.blk_lt (h : IsT w0 w t c p g n lb db ρ ov s) {k : Nat} (hk : Blk t lb db ov ρ k) : k < w.heap.size := by
  rcases hk with rfl | rfl | rfl | e | e
  · exact slt h.me
  · exact slt h.la
  · exact slt h.da
  · exact (row_ge h.oa e).2
  · exact h.ca.lt e
theorem IsT.blk_ge (h : IsT w0 w t c p g n lb db ρ ov s) {k : Nat} (hk : Blk t lb db ov ρ k) : w0.heap.size ≤ k := by
  rcases hk with rfl | rfl | rfl | e | e
  · exact h.bt
  · exact h.bl
  · exact h.bd
  · exact (row_ge h.oa e).1
  · exact h.bo k e
theorem IsT.aside {ks : Nat → Prop} (h : IsT w0 w t c p g n lb db ρ ov s) (hc : Chg w w' ks) (hn : ∀ k, Blk t lb db ov ρ k → ¬ ks k) (hb : ∀ k, ks k → w0.heap.size ≤ k) : IsT w0 w' t c p g n lb db ρ ov s :=
  ⟨hc.keep h.me (hn _ (.inl rfl)), h.ca.keep hc (fun k hk => hn k (.inr (.inr (.inr (.inr hk))))), hc.keep h.la (hn _ (.inr (.inl rfl))), hc.keep h.da (hn _ (.inr (.inr (.inl rfl)))), row_keep h.oa hc (fun k hk => hn k (.inr (.inr (.inr (.inl hk))))), h.ll, h.dl, h.nt, h.nl, h.nd, h.no, h.bt, h.bl, h.bd, h.bo, h.ch.trans hc (fun _ _ e => e) (fun j hj e => by have := hb j e; omega)⟩
end

/-- Two tellers side by side, both new since w0. -/
def Duo (w0 w : World) (n t c p g lb db t2 x2 p2 g2 lb2 db2 : Nat) (s s2 : TSt) : Prop :=
  ∃ ρ ov ρ2 ov2, IsT w0 w t c p g n lb db ρ ov s ∧ IsT w0 w t2 x2 p2 g2 n lb2 db2 ρ2 ov2 s2 ∧ (∀ k, Own ρ k → ¬ Blk t2 lb2 db2 ov2 ρ2 k) ∧ (∀ k, Own ρ2 k → ¬ Blk t lb db ov ρ k)

section
variable {w0 w1 w w' : World} {n t c p g lb db t2 x2 p2 g2 lb2 db2 : Nat} {s s2 : TSt}
theorem duo_of (h : FT w0 w1 t c p g n s) (k : FT w1 w t2 x2 p2 g2 n s2) : ∃ lb db lb2 db2, Duo w0 w n t c p g lb db t2 x2 p2 g2 lb2 db2 s s2 := by
  obtain ⟨lb, db, ρ, ov, h⟩ := h
  obtain ⟨lb2, db2, ρ2, ov2, k⟩ := k
  have hs := h.ch.size
  have k0 : IsT w0 w t2 x2 p2 g2 n lb2 db2 ρ2 ov2 s2 := ⟨k.me, k.ca, k.la, k.da, row_base k.oa hs, k.ll, k.dl, k.nt, k.nl, k.nd, k.no, Nat.le_trans hs k.bt, Nat.le_trans hs k.bl, Nat.le_trans hs k.bd, fun j hj => Nat.le_trans hs (k.bo j hj), h.ch.tr k.ch⟩
  refine ⟨lb, db, lb2, db2, ρ, ov, ρ2, ov2, h.call k.ch, k0, fun j hj ho => ?_, fun j hj ho => ?_⟩
  · have := k.blk_ge ho
    have := h.ca.lt hj
    omega
  · have := k.bo j hj
    have := h.blk_lt ho
    omega
theorem Duo.swap (h : Duo w0 w n t c p g lb db t2 x2 p2 g2 lb2 db2 s s2) : Duo w0 w n t2 x2 p2 g2 lb2 db2 t c p g lb db s2 s := by
  obtain ⟨ρ, ov, ρ2, ov2, a, b, d1, d2⟩ := h
  exact ⟨ρ2, ov2, ρ, ov, b, a, d2, d1⟩
theorem Duo.call (h : Duo w0 w n t c p g lb db t2 x2 p2 g2 lb2 db2 s s2) (hc : Chg w w' No) : Duo w0 w' n t c p g lb db t2 x2 p2 g2 lb2 db2 s s2 := by
  obtain ⟨ρ, ov, ρ2, ov2, a, b, r⟩ := h
  exact ⟨ρ, ov, ρ2, ov2, a.call hc, b.call hc, r⟩
theorem Duo.q0 (h : Duo w0 w n t c p g lb db t2 x2 p2 g2 lb2 db2 s s2) : w.cell? ⟨t, 0, none⟩ = some (.pointer (some ⟨p, 0, none⟩)) := let ⟨_, _, _, _, a, _, _⟩ := h; a.c0
theorem Duo.q1 (h : Duo w0 w n t c p g lb db t2 x2 p2 g2 lb2 db2 s s2) : w.cell? ⟨t, 1, none⟩ = some (.pointer (some ⟨c, 0, none⟩)) := let ⟨_, _, _, _, a, _, _⟩ := h; a.c1
theorem Duo.q2 (h : Duo w0 w n t c p g lb db t2 x2 p2 g2 lb2 db2 s s2) : w.cell? ⟨t, 2, none⟩ = some (.slice (some ⟨lb, 0, none⟩) n n) := let ⟨_, _, _, _, a, _, _⟩ := h; a.c2
theorem Duo.q3 (h : Duo w0 w n t c p g lb db t2 x2 p2 g2 lb2 db2 s s2) : w.cell? ⟨t, 3, none⟩ = some (.slice (some ⟨db, 0, none⟩) n n) := let ⟨_, _, _, _, a, _, _⟩ := h; a.c3
theorem Duo.lc (h : Duo w0 w n t c p g lb db t2 x2 p2 g2 lb2 db2 s s2) {k : Nat} (hk : k < n) : w.cell? ⟨lb, k, none⟩ = some (.int .i64 (s.last.getD k 0)) := let ⟨_, _, _, _, a, _, _⟩ := h; a.lc hk
theorem Duo.dc (h : Duo w0 w n t c p g lb db t2 x2 p2 g2 lb2 db2 s s2) {k : Nat} (hk : k < n) : w.cell? ⟨db, k, none⟩ = some (.bool (s.di.getD k false)) := let ⟨_, _, _, _, a, _, _⟩ := h; a.dc hk
theorem Duo.ch (h : Duo w0 w n t c p g lb db t2 x2 p2 g2 lb2 db2 s s2) : Chg w0 w No := let ⟨_, _, _, _, a, _, _⟩ := h; a.ch

/-- The first one's cache does something: it turns blocks that were there, and are new since w0. -/
theorem Duo.does {P : Ending → CSt → Prop} {f : Nat} {args : Array Value} (h : Duo w0 w n t c p g lb db t2 x2 p2 g2 lb2 db2 s s2)
    (H : ∀ ρ, IsC w c p g n ρ s.z → Calls Tryz.prog f args w fun e w' => ∃ z', P e z' ∧ CPost w w' c p g n ρ z') :
    Calls Tryz.prog f args w fun e w' => ∃ z', P e z' ∧ Duo w0 w' n t c p g lb db t2 x2 p2 g2 lb2 db2 { s with z := z' } s2 ∧ ∃ ks : Nat → Prop, Chg w w' ks ∧ ∀ k, ks k → k < w.heap.size ∧ w0.heap.size ≤ k ∧ k ≠ t ∧ k ≠ lb ∧ k ≠ t2 := by
  obtain ⟨ρ, ov, ρ2, ov2, a, b, d1, d2⟩ := h
  refine (H ρ a.ca).mono ?_
  rintro e w' ⟨z', hp, ρ', k1, k2, k3⟩
  refine ⟨z', hp, ?_, Own ρ, k3, fun k hk => ⟨a.ca.lt hk, a.bo k hk, fun e => a.nt (e ▸ hk), fun e => a.nl (e ▸ hk), fun e => d1 k hk (.inl e)⟩⟩
  have hs := a.ch.size
  have keep : ∀ k, k < w.heap.size → ¬ Own ρ k → ¬ Own ρ' k := fun k hk hn ho => by
    rcases k2 k ho with e | e
    · exact hn e
    · omega
  have a' : IsT w0 w' t c p g n lb db ρ' ov { s with z := z' } := by
    refine ⟨k3.keep a.me a.nt, k1, k3.keep a.la a.nl, k3.keep a.da a.nd, row_keep a.oa k3 a.no, a.ll, a.dl, keep _ (slt a.me) a.nt, keep _ (slt a.la) a.nl, keep _ (slt a.da) a.nd, fun k hk => keep k (row_ge a.oa hk).2 (a.no k hk), a.bt, a.bl, a.bd, fun k hk => ?_, a.ch.trans k3 (fun _ _ e => e) (fun j hj e => ?_)⟩
    · rcases k2 k hk with e | e
      · exact a.bo k e
      · omega
    · have := a.bo j e
      omega
  refine ⟨ρ', ov, ρ2, ov2, a', b.aside k3 (fun k hk ho => d1 k ho hk) (fun k hk => a.bo k hk), fun k hk hb => ?_, fun k hk hb => ?_⟩
  · exact keep k (b.blk_lt hb) (fun e => d1 k e hb) hk
  · rcases hb with e | e | e | e | e
    · exact d2 k hk (.inl e)
    · exact d2 k hk (.inr (.inl e))
    · exact d2 k hk (.inr (.inr (.inl e)))
    · exact d2 k hk (.inr (.inr (.inr (.inl e))))
    · exact keep k (b.ca.lt hk) (fun e => d2 k hk (.inr (.inr (.inr (.inr e))))) e


set_option maxRecDepth 100000 in
theorem Duo.sync (h : Duo w0 w n t c p g lb db t2 x2 p2 g2 lb2 db2 s s2) (ht : TB s.z) (hw : s.z.d.wr < 4611686018427380000) : Calls Tryz.prog 22 #[.pointer (some ⟨c, 0, none⟩)] w fun e w' => e = .returned (.int .i64 (syncC n s.z).2) ∧ Duo w0 w' n t c p g lb db t2 x2 p2 g2 lb2 db2 { s with z := (syncC n s.z).1 } s2 := by
  refine (h.does (P := fun e z' => e = .returned (.int .i64 (syncC n s.z).2) ∧ z' = (syncC n s.z).1) fun ρ hc => (syncC_any hc ht hw).mono ?_).mono ?_
  · rintro e w' ⟨rfl, hP⟩
    exact ⟨_, ⟨rfl, rfl⟩, hP⟩
  · rintro e w' ⟨z', ⟨rfl, rfl⟩, hd, _⟩
    exact ⟨rfl, hd⟩
set_option maxRecDepth 100000 in
theorem Duo.flush (x : Int) (h : Duo w0 w n t c p g lb db t2 x2 p2 g2 lb2 db2 s s2) (hx : I64 x) (ht : TB s.z) (hw : s.z.d.wr < 4611686018427380000) : Calls Tryz.prog 31 #[.pointer (some ⟨c, 0, none⟩), .int .i64 x] w fun e w' => e = .returned (.tuple #[.bool (flushC n s.z x).2.1, .int .i64 (flushC n s.z x).2.2]) ∧ Duo w0 w' n t c p g lb db t2 x2 p2 g2 lb2 db2 { s with z := (flushC n s.z x).1 } s2 := by
  refine (h.does (P := fun e z' => e = .returned (.tuple #[.bool (flushC n s.z x).2.1, .int .i64 (flushC n s.z x).2.2]) ∧ z' = (flushC n s.z x).1) fun ρ hc => (flushC_any x hc hx ht hw).mono ?_).mono ?_
  · rintro e w' ⟨rfl, hP⟩
    exact ⟨_, ⟨rfl, rfl⟩, hP⟩
  · rintro e w' ⟨z', ⟨rfl, rfl⟩, hd, _⟩
    exact ⟨rfl, hd⟩
set_option maxRecDepth 100000 in
theorem Duo.read (x : Int) (h : Duo w0 w n t c p g lb db t2 x2 p2 g2 lb2 db2 s s2) (hx : 0 ≤ x ∧ x < n) (ha : Alive s.z) : Calls Tryz.prog 27 #[.pointer (some ⟨c, 0, none⟩), .int .i64 x] w fun e w' => e = .returned (.tuple #[.agg (D.SA (readC s.z x)), .int .i64 0]) ∧ Duo w0 w' n t c p g lb db t2 x2 p2 g2 lb2 db2 s s2 := by
  refine (h.does (P := fun e z' => e = .returned (.tuple #[.agg (D.SA (readC s.z x)), .int .i64 0]) ∧ z' = s.z) fun ρ hc => (readC_any x hc hx ha).mono ?_).mono ?_
  · rintro e w' ⟨rfl, hP⟩
    exact ⟨_, ⟨rfl, rfl⟩, hP⟩
  · rintro e w' ⟨z', ⟨rfl, rfl⟩, hd, _⟩
    exact ⟨rfl, hd⟩
set_option maxRecDepth 100000 in
theorem Duo.stands (x : Int) (h : Duo w0 w n t c p g lb db t2 x2 p2 g2 lb2 db2 s s2) (hx : 0 ≤ x ∧ x < n) (ha : Alive s.z) : Calls Tryz.prog 30 #[.pointer (some ⟨c, 0, none⟩), .int .i64 x] w fun e w' => e = .returned (.tuple #[.agg (D.SA (D.secK s.z.d.S x.toNat)), .int .i64 0]) ∧ Duo w0 w' n t c p g lb db t2 x2 p2 g2 lb2 db2 s s2 ∧ ∃ ks : Nat → Prop, Chg w w' ks ∧ ∀ k, ks k → k < w.heap.size ∧ w0.heap.size ≤ k ∧ k ≠ t ∧ k ≠ lb ∧ k ≠ t2 := by
  refine (h.does (P := fun e z' => e = .returned (.tuple #[.agg (D.SA (D.secK s.z.d.S x.toNat)), .int .i64 0]) ∧ z' = s.z) fun ρ hc => (standC_any x hc).mono ?_).mono ?_
  · rintro e w' ⟨rfl, hP⟩
    rw [stand_alive ha hx] at hP ⊢
    exact ⟨_, ⟨rfl, rfl⟩, hP⟩
  · rintro e w' ⟨z', ⟨rfl, rfl⟩, hd, hk⟩
    exact ⟨rfl, hd, hk⟩
set_option maxRecDepth 100000 in
theorem Duo.wr (h : Duo w0 w n t c p g lb db t2 x2 p2 g2 lb2 db2 s s2) : Calls Tryz.prog 19 #[.pointer (some ⟨p, 0, none⟩)] w fun e w' => e = .returned (.int .i64 s.z.d.wr) ∧ w' = w := by
  obtain ⟨ρ, ov, ρ2, ov2, a, b, d1, d2⟩ := h
  obtain ⟨_, _, _, _, _, hc⟩ := a.ca
  exact D.writes_any w hc.dk
set_option maxRecDepth 100000 in
theorem Duo.image (h : Duo w0 w n t c p g lb db t2 x2 p2 g2 lb2 db2 s s2) : Calls Tryz.prog 32 #[.pointer (some ⟨p, 0, none⟩)] w fun e w' => ∃ q, e = .returned (.slice (some ⟨q, 0, none⟩) n n) ∧ w'.heap[q]? = some (.cells (D.SA s.z.d.S) 60 (0, 0)) ∧ Chg w w' No := by
  obtain ⟨ρ, ov, ρ2, ov2, a, b, d1, d2⟩ := h
  obtain ⟨_, _, _, _, _, hc⟩ := a.ca
  refine (D.image_any w hc.dk).mono ?_
  rintro e w' ⟨q, rfl, _, h2, h3⟩
  exact ⟨q, rfl, h2, ⟨h3.os, h3.tape, h3.output, h3.size, fun k hk _ => h3.block k hk⟩⟩
set_option maxRecDepth 100000 in
theorem Duo.dirty (h : Duo w0 w n t c p g lb db t2 x2 p2 g2 lb2 db2 s s2) : Calls Tryz.prog 16 #[.pointer (some ⟨c, 0, none⟩)] w fun e w' => ∃ va vc, e = .returned (.slice va (secs s.z.dirty).length vc) ∧ Chg w w' No := by
  obtain ⟨ρ, ov, ρ2, ov2, a, b, d1, d2⟩ := h
  refine (dirty_any a.ca).mono ?_
  rintro e w' ⟨v, rfl, hI, hc⟩
  obtain ⟨va, vc, rfl, _, _⟩ := hI.lat
  exact ⟨va, vc, rfl, hc⟩
set_option maxRecDepth 100000 in
theorem Duo.elig (h : Duo w0 w n t c p g lb db t2 x2 p2 g2 lb2 db2 s s2) : Calls Tryz.prog 23 #[.pointer (some ⟨c, 0, none⟩)] w fun e w' => ∃ va vc, e = .returned (.slice va (secs fun x => s.z.dirty x ∧ FreeE s.z.E x).length vc) ∧ LAt w' va (secs fun x => s.z.dirty x ∧ FreeE s.z.E x) ∧ Chg w w' No := by
  obtain ⟨ρ, ov, ρ2, ov2, a, b, d1, d2⟩ := h
  refine (elig_any a.ca).mono ?_
  rintro e w' ⟨v, rfl, hI, hc⟩
  obtain ⟨va, vc, rfl, h1, _⟩ := hI.lat
  exact ⟨va, vc, rfl, h1, hc⟩
end

end Go.Proofs.YtlkmfhpnofpjdaaGreat

namespace Go.Proofs.YtlkmfhpnofpjdaaGreat
open Go.RowKit

theorem ScAt.call {w w' : World} {ad : Option Addr} {l : List SV} (h : ScAt w ad l) (hc : Chg w w' No) : ScAt w' ad l := by
  rcases h with h | ⟨b, o, rfl, hb, h⟩
  · exact .inl h
  · refine .inr ⟨b, o, rfl, Nat.lt_of_lt_of_le hb hc.size, fun j hj => ?_⟩
    obtain ⟨a, ca, h1, h2⟩ := h j hj
    exact ⟨a, ca, fun i v hv => cell_keep (h1 i v hv) hc hb (fun e => e), h2.call hc⟩
open Classical in
theorem secs_le {n : Nat} {z : CSt} (h : CInv n z) : (secs z.dirty).length ≤ n := by
  have hn := h.top
  have e : (4096 : Nat) = n + (4096 - n) := by omega
  unfold secs
  rw [e, List.range_add, List.map_append, List.filter_append, List.length_append]
  have h2 : (((List.range (4096 - n)).map (n + ·)).map Int.ofNat).filter (fun x => decide (z.dirty x)) = [] := by
    refine List.filter_eq_nil_iff.2 fun x hx hd => ?_
    obtain ⟨a, ha, rfl⟩ := List.mem_map.1 hx
    obtain ⟨b, _, rfl⟩ := List.mem_map.1 ha
    have := (h.ok _ (of_decide_eq_true hd)).2
    have e2 : Int.ofNat (n + b) = (n : Int) + b := by simp
    rw [e2] at this
    omega
  rw [h2]
  have := List.length_filter_le (fun x => decide (z.dirty x)) ((List.range n).map Int.ofNat)
  simp only [List.length_map, List.length_range] at this
  simpa using this
/-- Two tellers, and a block that is not the first one's cache's. -/
def DuoB (w0 w : World) (n t c p g lb db t2 x2 p2 g2 lb2 db2 : Nat) (s s2 : TSt) (bs : Nat) : Prop :=
  ∃ ρ ov ρ2 ov2, IsT w0 w t c p g n lb db ρ ov s ∧ IsT w0 w t2 x2 p2 g2 n lb2 db2 ρ2 ov2 s2 ∧ (∀ k, Own ρ k → ¬ Blk t2 lb2 db2 ov2 ρ2 k) ∧ (∀ k, Own ρ2 k → ¬ Blk t lb db ov ρ k) ∧ ¬ Own ρ bs
section
variable {w0 w1 w w' : World} {n t c p g lb db t2 x2 p2 g2 lb2 db2 bs : Nat} {s s2 : TSt}
theorem Duo.beside (h : Duo w0 w n t c p g lb db t2 x2 p2 g2 lb2 db2 s s2) (hc : Chg w w' No) : DuoB w0 w' n t c p g lb db t2 x2 p2 g2 lb2 db2 s s2 w.heap.size := by
  obtain ⟨ρ, ov, ρ2, ov2, a, b, d1, d2⟩ := h
  exact ⟨ρ, ov, ρ2, ov2, a.call hc, b.call hc, d1, d2, fun e => by have := a.ca.lt e; omega⟩
theorem DuoB.call (h : DuoB w0 w n t c p g lb db t2 x2 p2 g2 lb2 db2 s s2 bs) (hc : Chg w w' No) : DuoB w0 w' n t c p g lb db t2 x2 p2 g2 lb2 db2 s s2 bs := by
  obtain ⟨ρ, ov, ρ2, ov2, a, b, r⟩ := h
  exact ⟨ρ, ov, ρ2, ov2, a.call hc, b.call hc, r⟩
theorem DuoB.duo (h : DuoB w0 w n t c p g lb db t2 x2 p2 g2 lb2 db2 s s2 bs) : Duo w0 w n t c p g lb db t2 x2 p2 g2 lb2 db2 s s2 := by
  obtain ⟨ρ, ov, ρ2, ov2, a, b, d1, d2, _⟩ := h
  exact ⟨ρ, ov, ρ2, ov2, a, b, d1, d2⟩
theorem duo_post {ρ ρ2 : Nat → Option Role} {ov ov2 : Value} {z' : CSt} (a : IsT w0 w t c p g n lb db ρ ov s) (b : IsT w0 w t2 x2 p2 g2 n lb2 db2 ρ2 ov2 s2) (d1 : ∀ k, Own ρ k → ¬ Blk t2 lb2 db2 ov2 ρ2 k) (d2 : ∀ k, Own ρ2 k → ¬ Blk t lb db ov ρ k) (hP : CPost w w' c p g n ρ z') : Duo w0 w' n t c p g lb db t2 x2 p2 g2 lb2 db2 { s with z := z' } s2 := by
  obtain ⟨ρ', k1, k2, k3⟩ := hP
  have hs := a.ch.size
  have keep : ∀ k, k < w.heap.size → ¬ Own ρ k → ¬ Own ρ' k := fun k hk hn ho => by
    rcases k2 k ho with e | e
    · exact hn e
    · omega
  have a' : IsT w0 w' t c p g n lb db ρ' ov { s with z := z' } := by
    refine ⟨k3.keep a.me a.nt, k1, k3.keep a.la a.nl, k3.keep a.da a.nd, row_keep a.oa k3 a.no, a.ll, a.dl, keep _ (slt a.me) a.nt, keep _ (slt a.la) a.nl, keep _ (slt a.da) a.nd, fun k hk => keep k (row_ge a.oa hk).2 (a.no k hk), a.bt, a.bl, a.bd, fun k hk => ?_, a.ch.trans k3 (fun _ _ e => e) (fun j hj e => ?_)⟩
    · rcases k2 k hk with e | e
      · exact a.bo k e
      · omega
    · have := a.bo j e
      omega
  refine ⟨ρ', ov, ρ2, ov2, a', b.aside k3 (fun k hk ho => d1 k ho hk) (fun k hk => a.bo k hk), fun k hk hb => ?_, fun k hk hb => ?_⟩
  · exact keep k (b.blk_lt hb) (fun e => d1 k e hb) hk
  · rcases hb with e | e | e | e | e
    · exact d2 k hk (.inl e)
    · exact d2 k hk (.inr (.inl e))
    · exact d2 k hk (.inr (.inr (.inl e)))
    · exact d2 k hk (.inr (.inr (.inr (.inl e))))
    · exact keep k (b.ca.lt hk) (fun e => d2 k hk (.inr (.inr (.inr (.inr e))))) e
set_option maxRecDepth 100000 in
theorem DuoB.stands (x : Int) (h : DuoB w0 w n t c p g lb db t2 x2 p2 g2 lb2 db2 s s2 bs) (hx : 0 ≤ x ∧ x < n) (ha : Alive s.z) {o : Obj} (ho : w.heap[bs]? = some o) : Calls Tryz.prog 30 #[.pointer (some ⟨c, 0, none⟩), .int .i64 x] w fun e w' => e = .returned (.tuple #[.agg (D.SA (D.secK s.z.d.S x.toNat)), .int .i64 0]) ∧ Duo w0 w' n t c p g lb db t2 x2 p2 g2 lb2 db2 s s2 ∧ w'.heap[bs]? = some o := by
  obtain ⟨ρ, ov, ρ2, ov2, a, b, d1, d2, d3⟩ := h
  refine (standC_any x a.ca).mono ?_
  rintro e w' ⟨rfl, hP⟩
  rw [stand_alive ha hx] at hP ⊢
  have hc : Chg w w' (Own ρ) := by
    obtain ⟨_, _, _, hc⟩ := hP
    exact hc
  exact ⟨rfl, duo_post a b d1 d2 hP, hc.keep ho d3⟩
set_option maxRecDepth 100000 in
theorem DuoB.flush (x : Int) (h : DuoB w0 w n t c p g lb db t2 x2 p2 g2 lb2 db2 s s2 bs) (hx : I64 x) (ht : TB s.z) (hw : s.z.d.wr < 4611686018427380000) : Calls Tryz.prog 31 #[.pointer (some ⟨c, 0, none⟩), .int .i64 x] w fun e w' => e = .returned (.tuple #[.bool (flushC n s.z x).2.1, .int .i64 (flushC n s.z x).2.2]) ∧ Duo w0 w' n t c p g lb db t2 x2 p2 g2 lb2 db2 { s with z := (flushC n s.z x).1 } s2 ∧ Chg w w' (fun k => k ≠ bs) := by
  obtain ⟨ρ, ov, ρ2, ov2, a, b, d1, d2, d3⟩ := h
  refine (flushC_any x a.ca hx ht hw).mono ?_
  rintro e w' ⟨rfl, hP⟩
  have hc : Chg w w' (Own ρ) := by
    obtain ⟨_, _, _, hc⟩ := hP
    exact hc
  exact ⟨rfl, duo_post a b d1 d2 hP, hc.mono fun j _ e1 e2 => d3 (e2 ▸ e1)⟩
set_option maxRecDepth 100000 in
theorem Duo.eligB (h : Duo w0 w n t c p g lb db t2 x2 p2 g2 lb2 db2 s s2) (hne : ¬ (secs fun x => s.z.dirty x ∧ FreeE s.z.E x).length = 0) : Calls Tryz.prog 23 #[.pointer (some ⟨c, 0, none⟩)] w fun e w' => ∃ gl vc, e = .returned (.slice (some ⟨gl, 0, none⟩) (secs fun x => s.z.dirty x ∧ FreeE s.z.E x).length vc) ∧ gl < w'.heap.size ∧ (∀ k, k < (secs fun x => s.z.dirty x ∧ FreeE s.z.E x).length → w'.cell? ⟨gl, k, none⟩ = some (.int .i64 ((secs fun x => s.z.dirty x ∧ FreeE s.z.E x).getD k 0))) ∧ DuoB w0 w' n t c p g lb db t2 x2 p2 g2 lb2 db2 s s2 gl := by
  obtain ⟨ρ, ov, ρ2, ov2, a, b, d1, d2⟩ := h
  refine (elig_any a.ca).mono ?_
  rintro e w' ⟨v, rfl, hI, hc⟩
  obtain ⟨va, vc, rfl, h1, h2⟩ := hI.lat
  rcases h1 with h1 | ⟨gl, rfl, hg, h1⟩
  · rw [h1] at hne
    exact absurd rfl hne
  · exact ⟨gl, vc, rfl, hg, h1, ρ, ov, ρ2, ov2, a.call hc, b.call hc, d1, d2, fun ho => by have := a.ca.lt ho; have := h2 gl rfl; omega⟩
theorem same_S {S1 S2 : List Int} {L : Int → Int} (h1 : S1.length = 128 * n) (h2 : S2.length = 128 * n) (k1 : ∀ i, i < n → D.secK S1 i = verL (L i)) (k2 : ∀ i, i < n → D.secK S2 i = verL (L i)) : S1 = S2 := by
  refine List.ext_getElem (by omega) fun j hj1 hj2 => ?_
  have hi : j / 128 < n := by omega
  have e := (k1 _ hi).trans (k2 _ hi).symm
  have := congrArg (fun l => l[j % 128]?) e
  unfold D.secK at this
  simp only [List.getElem?_take, List.getElem?_drop] at this
  rw [if_pos (Nat.mod_lt _ (by omega)), if_pos (Nat.mod_lt _ (by omega)), show j / 128 * 128 + j % 128 = j by omega, List.getElem?_eq_getElem hj1, List.getElem?_eq_getElem hj2] at this
  simpa using this
end
/-- What one knows of a teller that stands behind a story. -/
structure Rd (n : Nat) (s : TSt) : Prop where
  tk : TK n s
  ar : s.z.d.ar = false
  wr : s.z.d.wr ≤ 5000 * 1048576
theorem Rd.last {n : Nat} {s : TSt} (h : Rd n s) {k : Nat} (hk : k < n) : readC s.z k = verL (s.last.getD k 0) ∧ 0 ≤ s.last.getD k 0 ∧ s.last.getD k 0 < 16777216 ∧ (s.di.getD k false = false → D.secK s.z.d.S k = verL (s.last.getD k 0)) := by
  have := reads_last h.tk.core hk
  have e : lf s.last (k : Int) = s.last.getD k 0 := by unfold lf; simp
  rw [e] at this
  refine ⟨this.1, this.2.1, this.2.2.1, fun hd => this.2.2.2 fun hy => ?_⟩
  rw [h.tk.fl] at hd
  have := (flags_get hk).2 hy
  rw [hd] at this
  cases this

theorem sync_all {n : Nat} {z : CSt} {L : Int → Int} {nx : Int} {od : List (Int × Int × Int × Int)} (hC : Core n z L nx od) (ha : Alive z) (hc : Calm z) (hw : z.d.wr < 4611686018427380000) :
    (syncC n z).2 = 0 ∧ Core n (syncC n z).1 L nx od ∧ (syncC n z).1.d.wr = z.d.wr + (secs z.dirty).length ∧ ∀ x, ¬ (syncC n z).1.dirty x := by
  have hs := hC.sync hw
  have hca : Calm (syncC n z).1 := syncC_calm hc
  have h0 : (syncC n z).2 = 0 := by
    rcases hs.2 ha with k | k
    · exact k.1
    · have := k.2
      rw [hca.2] at this
      cases this
  have ht := sync_todo hC.inv hC.tb hw
  have hs1 := hs.1
  have hL : ∀ x, x ∈ secs z.dirty ↔ z.dirty x := fun x => secs_mem.trans ⟨fun k => k.2, fun k => ⟨hC.inv.sec k, k⟩⟩
  unfold syncC at h0 hs1 ⊢
  clear hs hca
  generalize secs z.dirty = L at *
  have h1 := wAll_exact hC.inv ht h0
  have h2 := (wAll_wrote L.length L z rfl hC.inv ht).ok h0
  refine ⟨h0, hs1, h1, fun x hx => ?_⟩
  have := (h2.2 x).1 hx
  exact this.2 ((hL x).2 this.1)

end Go.Proofs.YtlkmfhpnofpjdaaGreat

namespace Go.Proofs.YtlkmfhpnofpjdaaGreat
open Go.RowKit

theorem bytes_row {w : World} {q : Nat} {S : List Int} (h : w.heap[q]? = some (.cells (D.SA S) 60 (0, 0))) : D.BytesAt w (some ⟨q, 0, none⟩) S := .inr ⟨q, 0, rfl, slt h, fun j hj => by rw [Nat.zero_add]; exact D.sec_cell h j hj⟩
theorem Duo.lab {w0 w : World} {n t c p g lb db t2 x2 p2 g2 lb2 db2 : Nat} {s s2 : TSt} (h : Duo w0 w n t c p g lb db t2 x2 p2 g2 lb2 db2 s s2) : w.heap[lb]? = some (.cells (IA s.last) 3 (0, 0)) := let ⟨_, _, _, _, a, _, _⟩ := h; a.la

set_option maxRecDepth 100000 in
set_option maxHeartbeats 16000000 in
theorem reads_walk (x0 : Int) (hx0 : I64 x0) (l : List SV) (ad : Option Addr) (cap : Nat) (pl : List Int) (pa : Option Addr) (pc : Nat) (w : World) (hs : ScAt w ad l) (hl : l.length ≤ 1048576) (hok : ∀ j, j < l.length → (l.getD j SV.z).OK) (hp : AAt w pa pl) (hpl : pl.length ≤ 1048576) (hpI : ∀ j, j < pl.length → I64 (pl.getD j 0)) :
    Calls Tryz.prog 7 #[.int .i64 x0, .slice ad l.length cap, .slice pa pl.length pc] w fun e w' => e = .returned (.bool true) ∧ Chg w w' No := by
  have hb := D.pickN_bd x0 (n := 25) (by omega)
  obtain ⟨n, hn⟩ : ∃ n : Nat, 8 + D.pickN x0 25 = (n : Int) := ⟨(8 + D.pickN x0 25).toNat, by omega⟩
  have hn8 : 8 ≤ n := by omega
  have hn4 : n ≤ 4096 := by omega
  have HST := story_any x0 hx0 l ad cap w hs hl hok n hn
  have HST2 := hid (fun w1 (hc : Chg w w1 No) => story_any x0 hx0 l ad cap w1 (hs.call hc) hl hok n hn)
  have HP := hid hp
  have HPI := hid hpI
  have hsec := D.build_sec
  have hzs := D.zero_sec
  generalize hm : l.length = m at *
  generalize hpm : pl.length = pm at *
  have HPM := hid hpm
  have HRD := hid (fun s : TSt => fun (h1 : TK n s) (h2 : s.z.d.ar = false) (h3 : s.z.d.wr ≤ 5000 * m) => (⟨h1, h2, by omega⟩ : Rd n s))
  clear hn hb hs hok hx0 hp hpI hpm
  go_enter Tryz.func7, Tryz.ntmps7
  go_upto_region 2 with (first
    | (go_at_call 15; go_must (refine HST.mono ?_; rintro e w1 ⟨t, c, p, g, s, rfl, hF, hK, har, _, hwr, _, hsF⟩; have HST3 := HST2.out w1 hF.chg; have HR := hid (HRD.out s hK har (by rw [← hm]; exact hwr)); have HF := hid hF; clear HST HST2 hF hK har hwr))
    | fail)
  go_wp2_with (first
    | (go_at_call 15; go_must (refine HST3.mono ?_; rintro e w2 ⟨t2, x2, p2, g2, s2, rfl, hF2, _, _, _, _, _, hsF2⟩; obtain ⟨lb, db, lb2, db2, hD⟩ := duo_of HF.out hF2; have hss : s2 = s := hsF2.trans hsF.symm; subst hss; have HD := hid hD; have HKN := known_any w2; clear HST3 hF2 hsF hsF2 HF hD))
    | (go_at_call 9; go_must (refine HKN.mono ?_; rintro e w3 ⟨rfl, hc3⟩; replace HD := hid (HD.out.call hc3); clear HKN hc3))
    | fail)
  go_loopw [9, 10, 11, 12, 13] (fun i _ _ _ _ wr => ∃ (k : Nat) (wq : World), wq = wr ∧ k ≤ n ∧ i = .int .i64 k ∧ Hid (Duo w wq n t c p g lb db t2 x2 p2 g2 lb2 db2 s2 s2)) (fun i _ _ _ _ _ => n - (intOf i).toNat)
  case atStart => exact ⟨0, w3, rfl, by omega, rfl, HD⟩
  case round =>
    obtain ⟨k, wq, rfl, hk, rfl, HDq⟩ := hrel
    clear HD
    have q1 := HDq.out.q1
    have q2 := HDq.out.q2
    by_cases hlt : k < n
    · obtain ⟨r1, r2, r3, r4⟩ := HR.out.last hlt
      have HRE := HDq.out.read (k : Int) ⟨by omega, by omega⟩ HR.out.tk.al
      rw [r1] at HRE
      have hql := HDq.out.lc hlt
      have hv : Hid (s2.last.getD k 0 = s2.last.getD k 0) := rfl
      generalize hvv : s2.last.getD k 0 = v at *
      replace hv := hid hvv
      have hv0 := r2
      have hv1 := r3
      have HR4 := hid r4
      have HV : Hid (verS (verL v) = v) := verS_verL r2 r3
      have hi0 : (0 : Int) ≤ (k : Int) := by omega
      have hi1 : (k : Int) < (n : Int) := by omega
      clear r1 r2 r3 r4 hvv
      have HZN := hid (fun w' : World => heap_alloc_new w' (.cells (D.SA D.Zs) 60))
      go_upto_region 9 with (first
        | (go_at_call 27; go_must (refine HRE.mono ?_; rintro e w4 ⟨rfl, hD4⟩; have HD4 := hid hD4; clear HRE hD4))
        | (refine D.store_sec rfl _ _ rfl w4.heap.size rfl (verL v) rfl (verL_len v) D.Zs D.Zs_len (HZN.out w4) ?_; intro w5 hw5; have HB5 := hid hw5.here; have hc5 : Chg w4 w5 No := (Chg.alloc w4 (.cells (D.SA D.Zs) 60) No).trans (wrote_chg hw5) (fun _ _ e => e) (fun j hj e => by omega); have HD5 := hid (HD4.out.beside hc5); clear hw5 hc5)
        | fail)
      have HL5 : Hid (w5.cell? ⟨lb, k, none⟩ = some (.int .i64 v)) := by show _ = _; rw [HD5.out.duo.lc hlt, hv.out]
      have HEQ := hid (D.eq_sec (verL v) (verL v) (verL_len v) (verL_len v))
      generalize hbs : w4.heap.size = bs at *
      clear q1 q2 hql
      refine wp_region_noPanic ?_
      refine wp_region_held_drew (S := fun w' => w'.heap[bs]? = some (.cells (D.SA (verL v)) 60 (0, 0)) ∧ w'.cell? ⟨lb, k, none⟩ = some (.int .i64 v) ∧ DuoB w w' n t c p g lb db t2 x2 p2 g2 lb2 db2 s2 s2 bs) (by kernel_rfl) ⟨HB5.out, HL5.out, HD5.out.call (Chg.refl w5 No).drew⟩ (fun hHeld => ?_)
      refine takeVal 0 55 (.int .i64 0) rfl (by kernel_rfl) (by kernel_rfl) (by kernel_rfl) rfl (by rfl) (fun _ _ _ h => h) hHeld (fun _ hw' => rfl) ?_
      simp only [List.setIfInBounds_toArray, List.set_cons_zero, List.set_cons_succ]
      refine takeVal 1 56 (.bool false) rfl (by kernel_rfl) (by kernel_rfl) (by kernel_rfl) rfl (by rfl) (fun _ _ _ h => h) hHeld (fun _ hw' => by go_simp) ?_
      simp only [List.setIfInBounds_toArray, List.set_cons_zero, List.set_cons_succ]
      refine takeVal 2 57 (.bool false) rfl (by kernel_rfl) (by kernel_rfl) (by kernel_rfl) rfl (by rfl) (fun _ _ _ h => h) hHeld (fun _ hw' => rfl) ?_
      simp only [List.setIfInBounds_toArray, List.set_cons_zero, List.set_cons_succ]
      refine D.takeSec 3 58 (.tmp 10) bs (verL v) (verL_len v) rfl (by kernel_rfl) (by kernel_rfl) (by kernel_rfl) rfl rfl rfl (by rfl) (fun _ _ _ h => h) hHeld (fun _ hw' => hw'.1) ?_
      simp only [List.setIfInBounds_toArray, List.set_cons_zero, List.set_cons_succ]
      refine takeVal 5 60 (.pointer (some ⟨t, 0, none⟩)) rfl (by kernel_rfl) (by kernel_rfl) (by kernel_rfl) rfl (by rfl) (fun _ _ _ h => h) hHeld (fun _ hw' => rfl) ?_
      simp only [List.setIfInBounds_toArray, List.set_cons_zero, List.set_cons_succ]
      refine takeVal 6 61 (.pointer (some ⟨t, 0, none⟩)) rfl (by kernel_rfl) (by kernel_rfl) (by kernel_rfl) rfl (by rfl) (fun _ _ _ h => h) hHeld (fun _ hw' => by go_simp) ?_
      simp only [List.setIfInBounds_toArray, List.set_cons_zero, List.set_cons_succ]
      refine takeVal 7 62 (.pointer (some ⟨t, 2, none⟩)) rfl (by kernel_rfl) (by kernel_rfl) (by kernel_rfl) rfl (by rfl) (fun _ _ _ h => h) hHeld (fun _ hw' => by go_simp) ?_
      simp only [List.setIfInBounds_toArray, List.set_cons_zero, List.set_cons_succ]
      refine takeVal 8 63 (.slice (some ⟨lb, 0, none⟩) n n) rfl (by kernel_rfl) (by kernel_rfl) (by kernel_rfl) rfl (by rfl) (fun _ _ _ h => h) hHeld (fun _ hw' => by have hq' := hw'.2.2.duo.q2; go_simp) ?_
      simp only [List.setIfInBounds_toArray, List.set_cons_zero, List.set_cons_succ]
      refine takeVal 9 64 (.int .i64 (k : Int)) rfl (by kernel_rfl) (by kernel_rfl) (by kernel_rfl) rfl (by rfl) (fun _ _ _ h => h) hHeld (fun _ hw' => rfl) ?_
      simp only [List.setIfInBounds_toArray, List.set_cons_zero, List.set_cons_succ]
      refine takeVal 10 65 (.pointer (some ⟨lb, k, none⟩)) rfl (by kernel_rfl) (by kernel_rfl) (by kernel_rfl) rfl (by rfl) (fun _ _ _ h => h) hHeld (fun _ hw' => by go_simp) ?_
      simp only [List.setIfInBounds_toArray, List.set_cons_zero, List.set_cons_succ]
      refine takeVal 11 66 (.int .i64 v) rfl (by kernel_rfl) (by kernel_rfl) (by kernel_rfl) rfl (by rfl) (fun _ _ _ h => h) hHeld (fun _ hw' => by have hq' := hw'.2.1; go_simp) ?_
      simp only [List.setIfInBounds_toArray, List.set_cons_zero, List.set_cons_succ]
      refine step1 4 (by kernel_rfl) ?_
      refine stCall 4 59 28 #[.agg (D.SA (verL v))] _ rfl rfl (by rfl) (by go_simp) (version_any _ (verL_sec v) _) ?_
      rintro e w8 ⟨rfl, hcw8⟩
      have hHeld : w8.heap[bs]? = some (.cells (D.SA (verL v)) 60 (0, 0)) ∧ w8.cell? ⟨lb, k, none⟩ = some (.int .i64 v) ∧ DuoB w w8 n t c p g lb db t2 x2 p2 g2 lb2 db2 s2 s2 bs := ⟨hcw8.keep hHeld.1 (fun e => e), by rw [(hHeld.2.2.call hcw8).duo.lc hlt, hv.out], hHeld.2.2.call hcw8⟩
      refine ⟨_, rfl, hHeld, ?_⟩
      simp only [List.setIfInBounds_toArray, List.set_cons_zero, List.set_cons_succ]
      refine takeVal 12 67 (.bool false) rfl (by kernel_rfl) (by kernel_rfl) (by kernel_rfl) rfl (by rfl) (fun _ _ _ h => h) hHeld (fun _ hw' => by have hq := HV.out; go_simp) ?_
      simp only [List.setIfInBounds_toArray, List.set_cons_zero, List.set_cons_succ]
      refine takeVal 13 68 (.bool false) rfl (by kernel_rfl) (by kernel_rfl) (by kernel_rfl) rfl (by rfl) (fun _ _ _ h => h) hHeld (fun _ hw' => rfl) ?_
      simp only [List.setIfInBounds_toArray, List.set_cons_zero, List.set_cons_succ]
      refine takeVal 14 69 (.bool false) rfl (by kernel_rfl) (by kernel_rfl) (by kernel_rfl) rfl (by rfl) (fun _ _ _ h => h) hHeld (fun _ hw' => rfl) ?_
      simp only [List.setIfInBounds_toArray, List.set_cons_zero, List.set_cons_succ]
      refine D.takeSec 15 70 (.tmp 10) bs (verL v) (verL_len v) rfl (by kernel_rfl) (by kernel_rfl) (by kernel_rfl) rfl rfl rfl (by rfl) (fun _ _ _ h => h) hHeld (fun _ hw' => hw'.1) ?_
      simp only [List.setIfInBounds_toArray, List.set_cons_zero, List.set_cons_succ]
      refine takeVal 16 71 (.pointer (some ⟨t, 0, none⟩)) rfl (by kernel_rfl) (by kernel_rfl) (by kernel_rfl) rfl (by rfl) (fun _ _ _ h => h) hHeld (fun _ hw' => rfl) ?_
      simp only [List.setIfInBounds_toArray, List.set_cons_zero, List.set_cons_succ]
      refine takeVal 17 72 (.pointer (some ⟨t, 0, none⟩)) rfl (by kernel_rfl) (by kernel_rfl) (by kernel_rfl) rfl (by rfl) (fun _ _ _ h => h) hHeld (fun _ hw' => by go_simp) ?_
      simp only [List.setIfInBounds_toArray, List.set_cons_zero, List.set_cons_succ]
      refine takeVal 18 73 (.pointer (some ⟨t, 2, none⟩)) rfl (by kernel_rfl) (by kernel_rfl) (by kernel_rfl) rfl (by rfl) (fun _ _ _ h => h) hHeld (fun _ hw' => by go_simp) ?_
      simp only [List.setIfInBounds_toArray, List.set_cons_zero, List.set_cons_succ]
      refine takeVal 19 74 (.slice (some ⟨lb, 0, none⟩) n n) rfl (by kernel_rfl) (by kernel_rfl) (by kernel_rfl) rfl (by rfl) (fun _ _ _ h => h) hHeld (fun _ hw' => by have hq' := hw'.2.2.duo.q2; go_simp) ?_
      simp only [List.setIfInBounds_toArray, List.set_cons_zero, List.set_cons_succ]
      refine takeVal 20 75 (.int .i64 (k : Int)) rfl (by kernel_rfl) (by kernel_rfl) (by kernel_rfl) rfl (by rfl) (fun _ _ _ h => h) hHeld (fun _ hw' => rfl) ?_
      simp only [List.setIfInBounds_toArray, List.set_cons_zero, List.set_cons_succ]
      refine takeVal 21 76 (.pointer (some ⟨lb, k, none⟩)) rfl (by kernel_rfl) (by kernel_rfl) (by kernel_rfl) rfl (by rfl) (fun _ _ _ h => h) hHeld (fun _ hw' => by go_simp) ?_
      simp only [List.setIfInBounds_toArray, List.set_cons_zero, List.set_cons_succ]
      refine takeVal 22 77 (.int .i64 v) rfl (by kernel_rfl) (by kernel_rfl) (by kernel_rfl) rfl (by rfl) (fun _ _ _ h => h) hHeld (fun _ hw' => by have hq' := hw'.2.1; go_simp) ?_
      simp only [List.setIfInBounds_toArray, List.set_cons_zero, List.set_cons_succ]
      refine step1 23 (by kernel_rfl) ?_
      refine stCall 23 78 29 #[.int .i64 v] _ rfl rfl (by rfl) (by go_simp) (versioned_any v hv0 hv1 _) ?_
      rintro e w9 ⟨rfl, hcw9⟩
      have hHeld : w9.heap[bs]? = some (.cells (D.SA (verL v)) 60 (0, 0)) ∧ w9.cell? ⟨lb, k, none⟩ = some (.int .i64 v) ∧ DuoB w w9 n t c p g lb db t2 x2 p2 g2 lb2 db2 s2 s2 bs := ⟨hcw9.keep hHeld.1 (fun e => e), by rw [(hHeld.2.2.call hcw9).duo.lc hlt, hv.out], hHeld.2.2.call hcw9⟩
      refine ⟨_, rfl, hHeld, ?_⟩
      simp only [List.setIfInBounds_toArray, List.set_cons_zero, List.set_cons_succ]
      refine takeVal 24 79 (.bool false) rfl (by kernel_rfl) (by kernel_rfl) (by kernel_rfl) rfl (by rfl) (fun _ _ _ h => h) hHeld (fun _ hw' => by have hq := HEQ.out; go_simp) ?_
      simp only [List.setIfInBounds_toArray, List.set_cons_zero, List.set_cons_succ]
      refine takeVal 25 80 (.bool false) rfl (by kernel_rfl) (by kernel_rfl) (by kernel_rfl) rfl (by rfl) (fun _ _ _ h => h) hHeld (fun _ hw' => rfl) ?_
      simp only [List.setIfInBounds_toArray, List.set_cons_zero, List.set_cons_succ]
      refine wpAnyH_done (by kernel_rfl) ?_ _
      refine NoPanic.normal ?_
      have q1 := hHeld.2.2.duo.q1
      have HSD := hHeld.2.2.stands (k : Int) ⟨by omega, by omega⟩ HR.out.tk.al hHeld.1
      simp only [Int.toNat_natCast] at HSD
      have hsl : (D.secK s2.z.d.S k).length = 128 := D.secK_len HR.out.tk.core.sl hlt
      have HR5 := hid hsl
      generalize hcs : D.secK s2.z.d.S k = cs at *
      generalize hw9 : w9 = w9' at *
      clear hHeld HD4 HB5 HL5 HD5 hcw8 hcw9 hcs
      go_upto_region 12 with (first
        | (go_at_call 30; go_must (refine HSD.mono ?_; rintro e wa ⟨rfl, hDa, hba⟩; have HDa := hid hDa; have HBa := hid hba; clear HSD hDa hba))
        | (refine D.store_sec rfl _ _ rfl wa.heap.size rfl cs rfl hsl D.Zs D.Zs_len (HZN.out wa) ?_; intro wb hwb; have HBb := hid hwb.here; have hcb : Chg wa wb No := (Chg.alloc wa (.cells (D.SA D.Zs) 60) No).trans (wrote_chg hwb) (fun _ _ e => e) (fun j hj e => by omega); have HDb := hid (HDa.out.call hcb); have HBs := hid (hcb.keep HBa.out (fun e => e)); clear hwb hcb)
        | fail)
      have q3 := HDb.out.q3
      have qd := HDb.out.dc hlt
      cases hdi : s2.di.getD k false
      · have ec := HR4.out hdi
        subst ec
        rw [hdi] at qd
        have hq := HEQ.out
        rw [decide_true] at hq
        clear q1 hdi
        go_wp2_with (first
          | (refine D.load_sec_g _ rfl wa.heap.size rfl (verL v) (verL_len v) HBb.out (by rfl) ?_)
          | (refine D.load_sec_g _ rfl bs rfl (verL v) (verL_len v) HBs.out (by rfl) ?_)
          | fail)
        exact ⟨⟨k + 1, _, rfl, by omega, by go_num, HDb⟩, by simp [intOf]; omega⟩
      · rw [hdi] at qd
        clear q1 hdi
        go_wp2_with fail
        exact ⟨⟨k + 1, _, rfl, by omega, by go_num, HDb⟩, by simp [intOf]; omega⟩
    · have hi1 : ¬ (k : Int) < (n : Int) := by omega
      have hcalm : Calm s2.z := ⟨HR.out.ar, HR.out.tk.al.2⟩
      have hw0 := HR.out.tk.core.inv.w0
      have hwr := HR.out.wr
      have hsa := sync_all HR.out.tk.core HR.out.tk.al hcalm (by omega)
      have HSY := HDq.out.sync HR.out.tk.core.tb (by omega)
      have HDV := hid (And.intro HR.out.tk.core (And.intro HR.out.tk.al hcalm))
      have hdl := secs_le HR.out.tk.core.inv
      generalize hD0 : (secs s2.z.dirty).length = D0 at *
      generalize hr1 : syncC n s2.z = r1 at *
      obtain ⟨z1, e1⟩ := r1
      obtain ⟨h01, hC1, hW1, hN1⟩ := hsa
      simp only at h01 hC1 hW1 hN1 HSY
      subst h01
      have HZ1 := hid (And.intro hC1 (And.intro hW1 hN1))
      clear hr1 hC1 hN1 hcalm
      go_wp2_with (first
        | (go_at_call 22; go_must (refine HSY.mono ?_; rintro e wD ⟨rfl, hDD⟩; have HDD := hid hDD; clear HSY hDD))
        | fail)
      clear HDq q1 q2
      have HD0 := hid hD0
      clear hD0
      go_loopw [14, 15, 16, 17, 18] (fun i _ _ _ _ wr => ∃ (k : Nat) (wq : World) (zv : CSt), wq = wr ∧ i = .int .i64 k ∧ Hid (Duo w wq n t c p g lb db t2 x2 p2 g2 lb2 db2 { s2 with z := z1 } { s2 with z := zv }) ∧ Hid (Core n zv (lf s2.last) s2.nx s2.od ∧ Alive zv ∧ Calm zv) ∧ zv.d.wr = s2.z.d.wr + k ∧ (secs zv.dirty).length + k = D0) (fun i _ _ _ _ _ => D0 - (intOf i).toNat)
      case atStart => exact ⟨0, wD, s2.z, rfl, rfl, HDD, HDV, by simp, by rw [HD0.out]; rfl⟩
      case round =>
        obtain ⟨j, we, zv, rfl, rfl, HDv, HZv, hwv, hdv⟩ := hrel
        clear HDD
        have q1 := HDv.out.swap.q1
        have q2 := HDv.out.swap.q2
        have HDI := HDv.out.swap.dirty
        simp only at HDI
        by_cases h0 : (secs zv.dirty).length = 0
        · have hcv : ∀ x, ¬ zv.dirty x := fun x hx => by
            have : x ∈ secs zv.dirty := secs_mem.2 ⟨HZv.out.1.inv.sec hx, hx⟩
            rw [List.length_eq_zero_iff.1 h0] at this
            cases this
          have hSS : z1.d.S = zv.d.S := same_S (L := lf s2.last) HZ1.out.1.sl HZv.out.1.sl (fun i hi => (clean_last HZ1.out.1 HZ1.out.2.2 hi).1) (fun i hi => (clean_last HZv.out.1 hcv hi).1)
          have hww : z1.d.wr = zv.d.wr := by have := HZ1.out.2.1; omega
          have HCLN := hid (fun i (hi : i < n) => clean_last HZ1.out.1 HZ1.out.2.2 hi)
          have HS1 := hid HZ1.out.1.sl
          have HIM := hid (fun w' (hc : Chg we w' No) => (HDv.out.call hc).image)
          have HDN := hid (fun w' (hc : Chg we w' No) => HDv.out.call hc)
          have HSS := hid hSS
          rw [h0] at HDI
          simp only at HIM
          generalize hgS : z1.d.S = S1 at *
          clear hcv hSS
          go_wp2_with (first
            | (go_at_call 16; go_must (refine HDI.mono ?_; rintro e wf ⟨va, vc, rfl, hcf⟩; have hDf := HDN.out wf hcf; have HDf := hid hDf; have HIf := HIM.out wf hcf; have q0 := hDf.q0; clear HDI hcf hDf q1 q2))
            | (go_at_call 32; go_must (refine HIf.mono ?_; rintro e wg ⟨q, rfl, hq, hcg⟩; have HDg := hid (HDf.out.call hcg); have HQg := hid hq; clear HIf hq hcg q0))
            | fail)
          go_loopw [20] (fun i wr => ∃ (k : Nat) (wq : World), wq = wr ∧ k ≤ n ∧ i = .int .i64 k ∧ Hid (Duo w wq n t c p g lb db t2 x2 p2 g2 lb2 db2 { s2 with z := z1 } { s2 with z := zv }) ∧ Hid (wq.heap[q]? = some (.cells (D.SA S1) 60 (0, 0)))) (fun i _ => n - (intOf i).toNat)
          case atStart => exact ⟨0, wg, rfl, by omega, rfl, HDg, HQg⟩
          case round =>
            obtain ⟨i, wi, rfl, hin, rfl, HDi, HQi⟩ := hrel
            clear HDg HQg HDf
            by_cases hli : i < n
            · obtain ⟨c1, c2, c3⟩ := HCLN.out i hli
              have hlf : lf s2.last (i : Int) = s2.last.getD i 0 := by unfold lf; simp
              rw [hlf] at c1 c2 c3
              have hlc := HDi.out.lc hli
              simp only at hlc
              generalize s2.last.getD i 0 = v at *
              have HV : Hid (verS (verL v) = v) := verS_verL c2 c3
              have HSK := hid c1
              have hi0 : (0 : Int) ≤ (i : Int) := by omega
              have hi1 : (i : Int) < (n : Int) := by omega
              have HLC := hid hlc
              clear hlc hlf
              go_upto_region 32 with fail
              refine wp_region_noPanic ?_
              refine wp_region_held_drew (S := fun w' => w'.heap[q]? = some (.cells (D.SA S1) 60 (0, 0)) ∧ w'.cell? ⟨lb, i, none⟩ = some (.int .i64 v) ∧ Duo w w' n t c p g lb db t2 x2 p2 g2 lb2 db2 { s2 with z := z1 } { s2 with z := zv }) (by kernel_rfl) ⟨HQi.out, HLC.out, HDi.out.call (Chg.refl wi No).drew⟩ (fun hHeld => ?_)
              refine takeVal 0 181 (.slice (some ⟨q, 0, none⟩) n n) rfl (by kernel_rfl) (by kernel_rfl) (by kernel_rfl) rfl (by rfl) (fun _ _ _ h => h) hHeld (fun _ hw' => rfl) ?_
              simp only [List.setIfInBounds_toArray, List.set_cons_zero, List.set_cons_succ]
              refine takeVal 1 182 (.int .i64 (i : Int)) rfl (by kernel_rfl) (by kernel_rfl) (by kernel_rfl) rfl (by rfl) (fun _ _ _ h => h) hHeld (fun _ hw' => rfl) ?_
              simp only [List.setIfInBounds_toArray, List.set_cons_zero, List.set_cons_succ]
              refine takeVal 2 183 (.pointer (some ⟨q, i * 128, none⟩)) rfl (by kernel_rfl) (by kernel_rfl) (by kernel_rfl) rfl (by rfl) (fun _ _ _ h => h) hHeld (fun _ hw' => by go_simp) ?_
              simp only [List.setIfInBounds_toArray, List.set_cons_zero, List.set_cons_succ]
              refine D.takeMidS 3 184 (.tmp 183) q (i * 128) (verL v) (verL_len v) rfl (by kernel_rfl) (by kernel_rfl) (by kernel_rfl) rfl rfl rfl (by rfl) (fun _ _ _ h => h) hHeld (fun _ hw' => by have := D.row_sec hw'.1 HS1.out hli; rw [HSK.out] at this; exact this) ?_
              simp only [List.setIfInBounds_toArray, List.set_cons_zero, List.set_cons_succ]
              refine takeVal 5 186 (.pointer (some ⟨t, 0, none⟩)) rfl (by kernel_rfl) (by kernel_rfl) (by kernel_rfl) rfl (by rfl) (fun _ _ _ h => h) hHeld (fun _ hw' => rfl) ?_
              simp only [List.setIfInBounds_toArray, List.set_cons_zero, List.set_cons_succ]
              refine takeVal 6 187 (.pointer (some ⟨t, 0, none⟩)) rfl (by kernel_rfl) (by kernel_rfl) (by kernel_rfl) rfl (by rfl) (fun _ _ _ h => h) hHeld (fun _ hw' => by go_simp) ?_
              simp only [List.setIfInBounds_toArray, List.set_cons_zero, List.set_cons_succ]
              refine takeVal 7 188 (.pointer (some ⟨t, 2, none⟩)) rfl (by kernel_rfl) (by kernel_rfl) (by kernel_rfl) rfl (by rfl) (fun _ _ _ h => h) hHeld (fun _ hw' => by go_simp) ?_
              simp only [List.setIfInBounds_toArray, List.set_cons_zero, List.set_cons_succ]
              refine takeVal 8 189 (.slice (some ⟨lb, 0, none⟩) n n) rfl (by kernel_rfl) (by kernel_rfl) (by kernel_rfl) rfl (by rfl) (fun _ _ _ h => h) hHeld (fun _ hw' => by have hq' := hw'.2.2.q2; go_simp) ?_
              simp only [List.setIfInBounds_toArray, List.set_cons_zero, List.set_cons_succ]
              refine takeVal 9 190 (.int .i64 (i : Int)) rfl (by kernel_rfl) (by kernel_rfl) (by kernel_rfl) rfl (by rfl) (fun _ _ _ h => h) hHeld (fun _ hw' => rfl) ?_
              simp only [List.setIfInBounds_toArray, List.set_cons_zero, List.set_cons_succ]
              refine takeVal 10 191 (.pointer (some ⟨lb, i, none⟩)) rfl (by kernel_rfl) (by kernel_rfl) (by kernel_rfl) rfl (by rfl) (fun _ _ _ h => h) hHeld (fun _ hw' => by go_simp) ?_
              simp only [List.setIfInBounds_toArray, List.set_cons_zero, List.set_cons_succ]
              refine takeVal 11 192 (.int .i64 v) rfl (by kernel_rfl) (by kernel_rfl) (by kernel_rfl) rfl (by rfl) (fun _ _ _ h => h) hHeld (fun _ hw' => by have hq' := hw'.2.1; go_simp) ?_
              simp only [List.setIfInBounds_toArray, List.set_cons_zero, List.set_cons_succ]
              refine step1 4 (by kernel_rfl) ?_
              refine stCall 4 185 28 #[.agg (D.SA (verL v))] _ rfl rfl (by rfl) (by go_simp) (version_any _ (verL_sec v) _) ?_
              rintro e w8 ⟨rfl, hcw8⟩
              have hHeld : w8.heap[q]? = some (.cells (D.SA S1) 60 (0, 0)) ∧ w8.cell? ⟨lb, i, none⟩ = some (.int .i64 v) ∧ Duo w w8 n t c p g lb db t2 x2 p2 g2 lb2 db2 { s2 with z := z1 } { s2 with z := zv } := ⟨hcw8.keep hHeld.1 (fun e => e), cell_keep hHeld.2.1 hcw8 (slt hHeld.2.2.lab) (fun e => e), hHeld.2.2.call hcw8⟩
              refine ⟨_, rfl, hHeld, ?_⟩
              simp only [List.setIfInBounds_toArray, List.set_cons_zero, List.set_cons_succ]
              refine takeVal 12 193 (.bool false) rfl (by kernel_rfl) (by kernel_rfl) (by kernel_rfl) rfl (by rfl) (fun _ _ _ h => h) hHeld (fun _ hw' => by have hq := HV.out; go_simp) ?_
              simp only [List.setIfInBounds_toArray, List.set_cons_zero, List.set_cons_succ]
              refine wpAnyH_done (by kernel_rfl) ?_ _
              refine NoPanic.normal ?_
              go_wp2_with fail
              exact ⟨⟨i + 1, _, rfl, by omega, by go_num, hid hHeld.2.2, hid hHeld.1⟩, by simp [intOf]; omega⟩
            · have hi1 : ¬ (i : Int) < (n : Int) := by omega
              go_upto_region 34 with fail
              refine wp_region_noPanic ?_
              refine wp_region_held_drew (S := fun w' => w'.heap[q]? = some (.cells (D.SA S1) 60 (0, 0)) ∧ Duo w w' n t c p g lb db t2 x2 p2 g2 lb2 db2 { s2 with z := z1 } { s2 with z := zv }) (by kernel_rfl) ⟨HQi.out, HDi.out.call (Chg.refl wi No).drew⟩ (fun hHeld => ?_)
              refine takeVal 0 194 (.slice (some ⟨q, 0, none⟩) n n) rfl (by kernel_rfl) (by kernel_rfl) (by kernel_rfl) rfl (by rfl) (fun _ _ _ h => h) hHeld (fun _ hw' => rfl) ?_
              simp only [List.setIfInBounds_toArray, List.set_cons_zero, List.set_cons_succ]
              refine takeVal 1 195 (.pointer (some ⟨t2, 0, none⟩)) rfl (by kernel_rfl) (by kernel_rfl) (by kernel_rfl) rfl (by rfl) (fun _ _ _ h => h) hHeld (fun _ hw' => rfl) ?_
              simp only [List.setIfInBounds_toArray, List.set_cons_zero, List.set_cons_succ]
              refine takeVal 2 196 (.pointer (some ⟨t2, 0, none⟩)) rfl (by kernel_rfl) (by kernel_rfl) (by kernel_rfl) rfl (by rfl) (fun _ _ _ h => h) hHeld (fun _ hw' => by go_simp) ?_
              simp only [List.setIfInBounds_toArray, List.set_cons_zero, List.set_cons_succ]
              refine takeVal 3 197 (.pointer (some ⟨t2, 0, none⟩)) rfl (by kernel_rfl) (by kernel_rfl) (by kernel_rfl) rfl (by rfl) (fun _ _ _ h => h) hHeld (fun _ hw' => by go_simp) ?_
              simp only [List.setIfInBounds_toArray, List.set_cons_zero, List.set_cons_succ]
              refine takeVal 4 198 (.pointer (some ⟨p2, 0, none⟩)) rfl (by kernel_rfl) (by kernel_rfl) (by kernel_rfl) rfl (by rfl) (fun _ _ _ h => h) hHeld (fun _ hw' => by have hq' := hw'.2.swap.q0; go_simp) ?_
              simp only [List.setIfInBounds_toArray, List.set_cons_zero, List.set_cons_succ]
              refine step1 5 (by kernel_rfl) ?_
              refine stCall 5 199 32 #[.pointer (some ⟨p2, 0, none⟩)] _ rfl rfl (by rfl) (by go_simp) (hHeld.2.swap.image) ?_
              rintro e w8 ⟨q8, rfl, hq8, hcw8⟩
              have hHeld : w8.heap[q]? = some (.cells (D.SA S1) 60 (0, 0)) ∧ Duo w w8 n t c p g lb db t2 x2 p2 g2 lb2 db2 { s2 with z := z1 } { s2 with z := zv } := ⟨hcw8.keep hHeld.1 (fun e => e), hHeld.2.call hcw8⟩
              simp only at hq8
              rw [← HSS.out] at hq8
              refine ⟨_, rfl, hHeld, ?_⟩
              simp only [List.setIfInBounds_toArray, List.set_cons_zero, List.set_cons_succ]
              refine step1 6 (by kernel_rfl) ?_
              refine stCall 6 200 33 #[.slice (some ⟨q, 0, none⟩) n n, .slice (some ⟨q8, 0, none⟩) n n] _ rfl rfl (by rfl) (by go_simp) (D.same_any S1 n _ _ _ _ _ HS1.out (by omega) (bytes_row hHeld.1) (bytes_row hq8)) ?_
              rintro e w9 ⟨rfl, dn9, ew9⟩
              have hHeld : w9.heap[q]? = some (.cells (D.SA S1) 60 (0, 0)) ∧ Duo w w9 n t c p g lb db t2 x2 p2 g2 lb2 db2 { s2 with z := z1 } { s2 with z := zv } := by
                rw [ew9]
                exact ⟨hHeld.1, hHeld.2.call (chg_drewN _ _)⟩
              clear hq8 ew9
              refine ⟨_, rfl, hHeld, ?_⟩
              simp only [List.setIfInBounds_toArray, List.set_cons_zero, List.set_cons_succ]
              refine takeVal 7 201 (.bool true) rfl (by kernel_rfl) (by kernel_rfl) (by kernel_rfl) rfl (by rfl) (fun _ _ _ h => h) hHeld (fun _ hw' => rfl) ?_
              simp only [List.setIfInBounds_toArray, List.set_cons_zero, List.set_cons_succ]
              refine takeVal 8 202 (.pointer (some ⟨t, 0, none⟩)) rfl (by kernel_rfl) (by kernel_rfl) (by kernel_rfl) rfl (by rfl) (fun _ _ _ h => h) hHeld (fun _ hw' => rfl) ?_
              simp only [List.setIfInBounds_toArray, List.set_cons_zero, List.set_cons_succ]
              refine takeVal 9 203 (.pointer (some ⟨t, 0, none⟩)) rfl (by kernel_rfl) (by kernel_rfl) (by kernel_rfl) rfl (by rfl) (fun _ _ _ h => h) hHeld (fun _ hw' => by go_simp) ?_
              simp only [List.setIfInBounds_toArray, List.set_cons_zero, List.set_cons_succ]
              refine takeVal 10 204 (.pointer (some ⟨t, 0, none⟩)) rfl (by kernel_rfl) (by kernel_rfl) (by kernel_rfl) rfl (by rfl) (fun _ _ _ h => h) hHeld (fun _ hw' => by go_simp) ?_
              simp only [List.setIfInBounds_toArray, List.set_cons_zero, List.set_cons_succ]
              refine takeVal 11 205 (.pointer (some ⟨p, 0, none⟩)) rfl (by kernel_rfl) (by kernel_rfl) (by kernel_rfl) rfl (by rfl) (fun _ _ _ h => h) hHeld (fun _ hw' => by have hq' := hw'.2.q0; go_simp) ?_
              simp only [List.setIfInBounds_toArray, List.set_cons_zero, List.set_cons_succ]
              refine takeVal 13 207 (.pointer (some ⟨t2, 0, none⟩)) rfl (by kernel_rfl) (by kernel_rfl) (by kernel_rfl) rfl (by rfl) (fun _ _ _ h => h) hHeld (fun _ hw' => rfl) ?_
              simp only [List.setIfInBounds_toArray, List.set_cons_zero, List.set_cons_succ]
              refine takeVal 14 208 (.pointer (some ⟨t2, 0, none⟩)) rfl (by kernel_rfl) (by kernel_rfl) (by kernel_rfl) rfl (by rfl) (fun _ _ _ h => h) hHeld (fun _ hw' => by go_simp) ?_
              simp only [List.setIfInBounds_toArray, List.set_cons_zero, List.set_cons_succ]
              refine takeVal 15 209 (.pointer (some ⟨t2, 0, none⟩)) rfl (by kernel_rfl) (by kernel_rfl) (by kernel_rfl) rfl (by rfl) (fun _ _ _ h => h) hHeld (fun _ hw' => by go_simp) ?_
              simp only [List.setIfInBounds_toArray, List.set_cons_zero, List.set_cons_succ]
              refine takeVal 16 210 (.pointer (some ⟨p2, 0, none⟩)) rfl (by kernel_rfl) (by kernel_rfl) (by kernel_rfl) rfl (by rfl) (fun _ _ _ h => h) hHeld (fun _ hw' => by have hq' := hw'.2.swap.q0; go_simp) ?_
              simp only [List.setIfInBounds_toArray, List.set_cons_zero, List.set_cons_succ]
              refine step1 12 (by kernel_rfl) ?_
              refine stCall 12 206 19 #[.pointer (some ⟨p, 0, none⟩)] _ rfl rfl (by rfl) (by go_simp) (hHeld.2.wr) ?_
              rintro e w10 ⟨rfl, eww10⟩
              subst eww10
              refine ⟨_, rfl, hHeld, ?_⟩
              simp only [hww]
              simp only [List.setIfInBounds_toArray, List.set_cons_zero, List.set_cons_succ]
              refine step1 17 (by kernel_rfl) ?_
              refine stCall 17 211 19 #[.pointer (some ⟨p2, 0, none⟩)] _ rfl rfl (by rfl) (by go_simp) (hHeld.2.swap.wr) ?_
              rintro e w11 ⟨rfl, eww11⟩
              subst eww11
              refine ⟨_, rfl, hHeld, ?_⟩
              simp only [List.setIfInBounds_toArray, List.set_cons_zero, List.set_cons_succ]
              refine takeVal 18 212 (.bool true) rfl (by kernel_rfl) (by kernel_rfl) (by kernel_rfl) rfl (by rfl) (fun _ _ _ h => h) hHeld (fun _ hw' => by go_simp) ?_
              simp only [List.setIfInBounds_toArray, List.set_cons_zero, List.set_cons_succ]
              refine takeVal 19 213 (.bool true) rfl (by kernel_rfl) (by kernel_rfl) (by kernel_rfl) rfl (by rfl) (fun _ _ _ h => h) hHeld (fun _ hw' => rfl) ?_
              simp only [List.setIfInBounds_toArray, List.set_cons_zero, List.set_cons_succ]
              refine takeVal 20 6 (.bool true) rfl (by kernel_rfl) (by kernel_rfl) (by kernel_rfl) rfl (by rfl) (fun _ _ _ h => h) hHeld (fun _ hw' => rfl) ?_
              simp only [List.setIfInBounds_toArray, List.set_cons_zero, List.set_cons_succ]
              refine wpAnyH_done (by kernel_rfl) ?_ _
              refine NoPanic.normal ?_
              go_wp2_with fail
              go_ret
              exact ⟨rfl, hHeld.2.ch⟩
        · have hne := elig_some HZv.out.1.inv h0
          have HEL := hid (fun w' (hc : Chg we w' No) => (HDv.out.swap.call hc).eligB (by simp only; exact hne))
          have HFm := hid (fun x (hx : x ∈ secs fun x => zv.dirty x ∧ FreeE zv.E x) => (secs_mem.1 hx).2)
          simp only at HEL
          have HFO := hid (fun x (hx : zv.dirty x) (hf : FreeE zv.E x) => flush_one HZv.out.1 HZv.out.2.1 HZv.out.2.2 hx hf)
          generalize hF : (secs fun x => zv.dirty x ∧ FreeE zv.E x) = F at *
          generalize hd0 : (secs zv.dirty).length = dn at *
          have hFl : F.length ≤ 4096 := by rw [← hF]; exact secs_len _
          generalize hfm : F.length = fm at *
          have hfm0 : ¬ ((fm : Int) = 0) := by omega
          have hfmb : ((fm : Int) == 0) = false := by simp; omega
          have hdn0 : (0 : Int) < (dn : Int) := by omega
          have hjn : ¬ (n : Int) < (j : Int) := by omega
          have HPK1 := hid (fun w' => fun (h : 0 < pm) => D.pick_any (j : Int) pm w' ⟨by omega, by omega⟩ (by omega) (by omega))
          go_upto_region 23 with (first
            | (go_at_call 16; go_must (refine HDI.mono ?_; rintro e wf ⟨va, vc, rfl, hcf⟩; have HEf := HEL.out wf hcf; have hDf := HDv.out.swap.call hcf; replace q1 := hDf.q1; replace q2 := hDf.q2; clear HDI hcf hDf))
            | (go_at_call 23; go_must (refine HEf.mono ?_; rintro e wg ⟨gl, vcl, rfl, hgl, hcl, hDB⟩; have HDB := hid hDB; have HCL := hid hcl; replace q1 := hDB.duo.q1; replace q2 := hDB.duo.q2; clear HEf hDB hcl))
            | fail)
          by_cases hp0 : 0 < pm
          · have hpi : (0 : Int) < (pm : Int) := by omega
            have hKb := D.pickN_bd (j : Int) (n := (pm : Int)) (by omega)
            have HPA := HPK1.out wg hp0
            obtain ⟨K1, hK1⟩ : ∃ K1 : Nat, D.pickN (j : Int) pm = (K1 : Int) := ⟨(D.pickN (j : Int) pm).toNat, by omega⟩
            rw [hK1] at HPA hKb
            have hk1 : K1 < pm := by omega
            have hk10 : (0 : Int) ≤ (K1 : Int) := by omega
            have hk11 : (K1 : Int) < (pm : Int) := by omega
            rcases HP.out with h | ⟨pb, po, rfl, hpb, hpc⟩
            · have := HPM.out; rw [h] at this; simp at this; omega
            have hpv := cell_keep (hpc K1 (by rw [HPM.out]; exact hk1)) HDB.out.duo.ch hpb (fun e => e)
            have hpi2 := HPI.out K1 hk1
            generalize pl.getD K1 0 = px at *
            have hKb2 := D.pickN_bd px (n := (fm : Int)) (by omega)
            have HPB := D.pick_any px fm wg hpi2 (by omega) (by omega)
            obtain ⟨K, hK⟩ : ∃ K : Nat, D.pickN px fm = (K : Int) := ⟨(D.pickN px fm).toNat, by omega⟩
            rw [hK] at HPB hKb2
            have hKf : K < fm := by omega
            clear hK hK1 hKb hKb2 hpc
            go_upto_region 25 with (first
              | (go_at_call 18; go_must (first
                  | (refine HPA.mono ?_; rintro e wg ⟨rfl, ewp⟩; subst ewp; clear HPA)
                  | (refine HPB.mono ?_; rintro e wg ⟨rfl, ewp⟩; subst ewp; clear HPB)))
              | fail)
            have hKi0 : (0 : Int) ≤ (K : Int) := by omega
            have hKi1 : (K : Int) < (fm : Int) := by omega
            have hxc := HCL.out K (by omega)
            have hxm : F.getD K 0 ∈ F := by rw [List.getD_eq_getElem?_getD, List.getElem?_eq_getElem (by omega)]; exact List.getElem_mem _
            generalize F.getD K 0 = x at *
            have hxd := HFm.out x hxm
            have hx0 := HZv.out.1.inv.ok x hxd.1
            obtain ⟨f1, f2, f3, f4, f5, f6, f7⟩ := HFO.out x hxd.1 hxd.2
            have HFL := hid (fun w' (hc : Chg wg w' No) => (HDB.out.call hc).flush x ⟨by omega, by omega⟩ (by simp only; exact HZv.out.1.tb) (by simp only; omega))
            simp only at HFL
            generalize hr2 : flushC n zv x = r2 at *
            obtain ⟨z2, yes, e2⟩ := r2
            simp only at f1 f2 f3 f4 f5 f6 f7 HFL
            subst f1
            subst f2
            have HN := hid (And.intro f3 (And.intro f4 f5))
            clear hr2 f3 f4 f5 hxm hxd
            refine wp_region_noPanic ?_
            refine wp_region_held_drew (S := fun w' => w'.cell? ⟨t2, 1, none⟩ = some (.pointer (some ⟨x2, 0, none⟩)) ∧ w'.cell? ⟨gl, K, none⟩ = some (.int .i64 x)) (by kernel_rfl) ⟨HDB.out.duo.q1, hxc⟩ (fun hHeld => ?_)
            refine takeVal 0 153 (.pointer (some ⟨t2, 0, none⟩)) rfl (by kernel_rfl) (by kernel_rfl) (by kernel_rfl) rfl (by rfl) (fun _ _ _ h => h) hHeld (fun _ hw' => rfl) ?_
            simp only [List.setIfInBounds_toArray, List.set_cons_zero, List.set_cons_succ]
            refine takeVal 1 154 (.pointer (some ⟨t2, 0, none⟩)) rfl (by kernel_rfl) (by kernel_rfl) (by kernel_rfl) rfl (by rfl) (fun _ _ _ h => h) hHeld (fun _ hw' => by go_simp) ?_
            simp only [List.setIfInBounds_toArray, List.set_cons_zero, List.set_cons_succ]
            refine takeVal 2 155 (.pointer (some ⟨t2, 1, none⟩)) rfl (by kernel_rfl) (by kernel_rfl) (by kernel_rfl) rfl (by rfl) (fun _ _ _ h => h) hHeld (fun _ hw' => by go_simp) ?_
            simp only [List.setIfInBounds_toArray, List.set_cons_zero, List.set_cons_succ]
            refine takeVal 3 156 (.pointer (some ⟨x2, 0, none⟩)) rfl (by kernel_rfl) (by kernel_rfl) (by kernel_rfl) rfl (by rfl) (fun _ _ _ h => h) hHeld (fun _ hw' => by have hq' := hw'.1; go_simp) ?_
            simp only [List.setIfInBounds_toArray, List.set_cons_zero, List.set_cons_succ]
            refine takeVal 4 157 (.slice (some ⟨gl, 0, none⟩) fm vcl) rfl (by kernel_rfl) (by kernel_rfl) (by kernel_rfl) rfl (by rfl) (fun _ _ _ h => h) hHeld (fun _ hw' => rfl) ?_
            simp only [List.setIfInBounds_toArray, List.set_cons_zero, List.set_cons_succ]
            refine takeVal 5 158 (.int .i64 (K : Int)) rfl (by kernel_rfl) (by kernel_rfl) (by kernel_rfl) rfl (by rfl) (fun _ _ _ h => h) hHeld (fun _ hw' => rfl) ?_
            simp only [List.setIfInBounds_toArray, List.set_cons_zero, List.set_cons_succ]
            refine takeVal 6 159 (.pointer (some ⟨gl, K, none⟩)) rfl (by kernel_rfl) (by kernel_rfl) (by kernel_rfl) rfl (by rfl) (fun _ _ _ h => h) hHeld (fun _ hw' => by go_simp) ?_
            simp only [List.setIfInBounds_toArray, List.set_cons_zero, List.set_cons_succ]
            refine takeVal 7 160 (.int .i64 x) rfl (by kernel_rfl) (by kernel_rfl) (by kernel_rfl) rfl (by rfl) (fun _ _ _ h => h) hHeld (fun _ hw' => by have hq' := hw'.2; go_simp) ?_
            simp only [List.setIfInBounds_toArray, List.set_cons_zero, List.set_cons_succ]
            refine step1 8 (by kernel_rfl) ?_
            refine stCall 8 161 31 #[.pointer (some ⟨x2, 0, none⟩), .int .i64 x] _ rfl rfl (by rfl) (by go_simp) (HFL.out _ (Chg.refl wg No).drew) ?_
            rintro e wh ⟨rfl, hDh, hch⟩
            have hHeld : wh.cell? ⟨t2, 1, none⟩ = some (.pointer (some ⟨x2, 0, none⟩)) ∧ wh.cell? ⟨gl, K, none⟩ = some (.int .i64 x) := ⟨hDh.q1, cell_keep hHeld.2 hch (by show gl < wg.heap.size; exact hgl) (fun e => e rfl)⟩
            refine ⟨_, rfl, hHeld, ?_⟩
            simp only [List.setIfInBounds_toArray, List.set_cons_zero, List.set_cons_succ]
            refine takeVal 9 152 (.tuple #[.bool true, .int .i64 0]) rfl (by kernel_rfl) (by kernel_rfl) (by kernel_rfl) rfl (by rfl) (fun _ _ _ h => h) hHeld (fun _ hw' => rfl) ?_
            simp only [List.setIfInBounds_toArray, List.set_cons_zero, List.set_cons_succ]
            refine takeVal 10 162 (.bool true) rfl (by kernel_rfl) (by kernel_rfl) (by kernel_rfl) rfl (by rfl) (fun _ _ _ h => h) hHeld (fun _ hw' => by go_simp) ?_
            simp only [List.setIfInBounds_toArray, List.set_cons_zero, List.set_cons_succ]
            refine takeVal 11 163 (.int .i64 0) rfl (by kernel_rfl) (by kernel_rfl) (by kernel_rfl) rfl (by rfl) (fun _ _ _ h => h) hHeld (fun _ hw' => by go_simp) ?_
            simp only [List.setIfInBounds_toArray, List.set_cons_zero, List.set_cons_succ]
            refine takeVal 12 17 (.bool true) rfl (by kernel_rfl) (by kernel_rfl) (by kernel_rfl) rfl (by rfl) (fun _ _ _ h => h) hHeld (fun _ hw' => rfl) ?_
            simp only [List.setIfInBounds_toArray, List.set_cons_zero, List.set_cons_succ]
            refine takeVal 13 18 (.int .i64 0) rfl (by kernel_rfl) (by kernel_rfl) (by kernel_rfl) rfl (by rfl) (fun _ _ _ h => h) hHeld (fun _ hw' => rfl) ?_
            simp only [List.setIfInBounds_toArray, List.set_cons_zero, List.set_cons_succ]
            refine wpAnyH_done (by kernel_rfl) ?_ _
            refine NoPanic.normal ?_
            have HDh := hid hDh.swap
            clear hDh hch hHeld q1 q2
            go_wp2_with fail
            exact ⟨⟨j + 1, _, z2, rfl, by go_num, HDh, HN, by omega, by omega⟩, by simp [intOf]; omega⟩
          · have hpi : ¬ (0 : Int) < (pm : Int) := by omega
            have hKf : 0 < fm := by omega
            go_upto_region 25 with fail
            have hKi0 : (0 : Int) ≤ (0 : Int) := by omega
            have hKi1 : (0 : Int) < (fm : Int) := by omega
            have hxc := HCL.out 0 (by omega)
            have hxm : F.getD 0 0 ∈ F := by rw [List.getD_eq_getElem?_getD, List.getElem?_eq_getElem (by omega)]; exact List.getElem_mem _
            generalize F.getD 0 0 = x at *
            have hxd := HFm.out x hxm
            have hx0 := HZv.out.1.inv.ok x hxd.1
            obtain ⟨f1, f2, f3, f4, f5, f6, f7⟩ := HFO.out x hxd.1 hxd.2
            have HFL := hid (fun w' (hc : Chg wg w' No) => (HDB.out.call hc).flush x ⟨by omega, by omega⟩ (by simp only; exact HZv.out.1.tb) (by simp only; omega))
            simp only at HFL
            generalize hr2 : flushC n zv x = r2 at *
            obtain ⟨z2, yes, e2⟩ := r2
            simp only at f1 f2 f3 f4 f5 f6 f7 HFL
            subst f1
            subst f2
            have HN := hid (And.intro f3 (And.intro f4 f5))
            clear hr2 f3 f4 f5 hxm hxd
            refine wp_region_noPanic ?_
            refine wp_region_held_drew (S := fun w' => w'.cell? ⟨t2, 1, none⟩ = some (.pointer (some ⟨x2, 0, none⟩)) ∧ w'.cell? ⟨gl, 0, none⟩ = some (.int .i64 x)) (by kernel_rfl) ⟨HDB.out.duo.q1, hxc⟩ (fun hHeld => ?_)
            refine takeVal 0 153 (.pointer (some ⟨t2, 0, none⟩)) rfl (by kernel_rfl) (by kernel_rfl) (by kernel_rfl) rfl (by rfl) (fun _ _ _ h => h) hHeld (fun _ hw' => rfl) ?_
            simp only [List.setIfInBounds_toArray, List.set_cons_zero, List.set_cons_succ]
            refine takeVal 1 154 (.pointer (some ⟨t2, 0, none⟩)) rfl (by kernel_rfl) (by kernel_rfl) (by kernel_rfl) rfl (by rfl) (fun _ _ _ h => h) hHeld (fun _ hw' => by go_simp) ?_
            simp only [List.setIfInBounds_toArray, List.set_cons_zero, List.set_cons_succ]
            refine takeVal 2 155 (.pointer (some ⟨t2, 1, none⟩)) rfl (by kernel_rfl) (by kernel_rfl) (by kernel_rfl) rfl (by rfl) (fun _ _ _ h => h) hHeld (fun _ hw' => by go_simp) ?_
            simp only [List.setIfInBounds_toArray, List.set_cons_zero, List.set_cons_succ]
            refine takeVal 3 156 (.pointer (some ⟨x2, 0, none⟩)) rfl (by kernel_rfl) (by kernel_rfl) (by kernel_rfl) rfl (by rfl) (fun _ _ _ h => h) hHeld (fun _ hw' => by have hq' := hw'.1; go_simp) ?_
            simp only [List.setIfInBounds_toArray, List.set_cons_zero, List.set_cons_succ]
            refine takeVal 4 157 (.slice (some ⟨gl, 0, none⟩) fm vcl) rfl (by kernel_rfl) (by kernel_rfl) (by kernel_rfl) rfl (by rfl) (fun _ _ _ h => h) hHeld (fun _ hw' => rfl) ?_
            simp only [List.setIfInBounds_toArray, List.set_cons_zero, List.set_cons_succ]
            refine takeVal 5 158 (.int .i64 (0 : Int)) rfl (by kernel_rfl) (by kernel_rfl) (by kernel_rfl) rfl (by rfl) (fun _ _ _ h => h) hHeld (fun _ hw' => rfl) ?_
            simp only [List.setIfInBounds_toArray, List.set_cons_zero, List.set_cons_succ]
            refine takeVal 6 159 (.pointer (some ⟨gl, 0, none⟩)) rfl (by kernel_rfl) (by kernel_rfl) (by kernel_rfl) rfl (by rfl) (fun _ _ _ h => h) hHeld (fun _ hw' => by go_simp) ?_
            simp only [List.setIfInBounds_toArray, List.set_cons_zero, List.set_cons_succ]
            refine takeVal 7 160 (.int .i64 x) rfl (by kernel_rfl) (by kernel_rfl) (by kernel_rfl) rfl (by rfl) (fun _ _ _ h => h) hHeld (fun _ hw' => by have hq' := hw'.2; go_simp) ?_
            simp only [List.setIfInBounds_toArray, List.set_cons_zero, List.set_cons_succ]
            refine step1 8 (by kernel_rfl) ?_
            refine stCall 8 161 31 #[.pointer (some ⟨x2, 0, none⟩), .int .i64 x] _ rfl rfl (by rfl) (by go_simp) (HFL.out _ (Chg.refl wg No).drew) ?_
            rintro e wh ⟨rfl, hDh, hch⟩
            have hHeld : wh.cell? ⟨t2, 1, none⟩ = some (.pointer (some ⟨x2, 0, none⟩)) ∧ wh.cell? ⟨gl, 0, none⟩ = some (.int .i64 x) := ⟨hDh.q1, cell_keep hHeld.2 hch (by show gl < wg.heap.size; exact hgl) (fun e => e rfl)⟩
            refine ⟨_, rfl, hHeld, ?_⟩
            simp only [List.setIfInBounds_toArray, List.set_cons_zero, List.set_cons_succ]
            refine takeVal 9 152 (.tuple #[.bool true, .int .i64 0]) rfl (by kernel_rfl) (by kernel_rfl) (by kernel_rfl) rfl (by rfl) (fun _ _ _ h => h) hHeld (fun _ hw' => rfl) ?_
            simp only [List.setIfInBounds_toArray, List.set_cons_zero, List.set_cons_succ]
            refine takeVal 10 162 (.bool true) rfl (by kernel_rfl) (by kernel_rfl) (by kernel_rfl) rfl (by rfl) (fun _ _ _ h => h) hHeld (fun _ hw' => by go_simp) ?_
            simp only [List.setIfInBounds_toArray, List.set_cons_zero, List.set_cons_succ]
            refine takeVal 11 163 (.int .i64 0) rfl (by kernel_rfl) (by kernel_rfl) (by kernel_rfl) rfl (by rfl) (fun _ _ _ h => h) hHeld (fun _ hw' => by go_simp) ?_
            simp only [List.setIfInBounds_toArray, List.set_cons_zero, List.set_cons_succ]
            refine takeVal 12 17 (.bool true) rfl (by kernel_rfl) (by kernel_rfl) (by kernel_rfl) rfl (by rfl) (fun _ _ _ h => h) hHeld (fun _ hw' => rfl) ?_
            simp only [List.setIfInBounds_toArray, List.set_cons_zero, List.set_cons_succ]
            refine takeVal 13 18 (.int .i64 0) rfl (by kernel_rfl) (by kernel_rfl) (by kernel_rfl) rfl (by rfl) (fun _ _ _ h => h) hHeld (fun _ hw' => rfl) ?_
            simp only [List.setIfInBounds_toArray, List.set_cons_zero, List.set_cons_succ]
            refine wpAnyH_done (by kernel_rfl) ?_ _
            refine NoPanic.normal ?_
            have HDh := hid hDh.swap
            clear hDh hch hHeld q1 q2
            go_wp2_with fail
            exact ⟨⟨j + 1, _, z2, rfl, by go_num, HDh, HN, by omega, by omega⟩, by simp [intOf]; omega⟩

end Go.Proofs.YtlkmfhpnofpjdaaGreat

