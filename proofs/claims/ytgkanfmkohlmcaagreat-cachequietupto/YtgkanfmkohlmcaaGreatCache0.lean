/-
  A cache in memory: its own cells, its disk, its graph, its map, its lists; whose each block is.
-/
import Derived.Test.YtgkanfmkohlmcaaGreatDisk2
import Derived.Test.YtgkanfmkohlmcaaGreatGraph3
import Derived.Test.YtgkanfmkohlmcaaGreatCacheS
import Derived.Test.YtgkanfmkohlmcaaGreatMapV
namespace Go.Proofs.YtgkanfmkohlmcaaGreat.D
open Go.RowKit
-- may lack

set_option maxHeartbeats 400000 in
theorem len_any {p g n : Nat} {d : St8} (w : World) (h : IsD w p g n d) : Calls Tryz.prog 58 #[.pointer (some ⟨p, 0, none⟩)] w fun e w' => e = .returned (.int .i64 n) ∧ w' = w := by
  have h0 := h.c0
  go_enter Tryz.func58, Tryz.ntmps58
  go_wp2
  go_ret
  exact ⟨rfl, rfl⟩
end Go.Proofs.YtgkanfmkohlmcaaGreat.D

namespace Go.Proofs.YtgkanfmkohlmcaaGreat
open Go.RowKit

theorem Chg.of_mod {w w' : World} {l : List Nat} (h : D.Mod w w' l) : Chg w w' (· ∈ l) := ⟨h.os, h.tape, h.output, h.size, h.block⟩
theorem isD_keep {w w' : World} {p g n : Nat} {d : D.St8} {ks : Nat → Prop} (h : D.IsD w p g n d) (hc : Chg w w' ks) (hp : ¬ ks p) (hg : ¬ ks g) : D.IsD w' p g n d :=
  ⟨hc.keep h.me hp, hc.keep h.row hg, h.len, h.pos, h.top⟩

/-- Whose a block is: the cache's own cells, the disk's, its sectors, the graph's, the map, a dirty sector's tags, the tags that have landed. -/
inductive Role
  | c | p | g | gr | mb | tag (x : Int) | ld

/-- The cells of a cache. -/
def CC (p gp mb : Nat) (lv : Value) (lost : Bool) : Array Value := #[.pointer (some ⟨p, 0, none⟩), .pointer (some ⟨gp, 0, none⟩), .map (some mb), lv, .bool lost]

structure IsC0 (w : World) (c p g n gp mb : Nat) (go : Nat → Prop) (tv : Int → Value) (lv : Value) (ρ : Nat → Option Role) (z : CSt) : Prop where
  me : w.heap[c]? = some (.cells (CC p gp mb lv z.lost) 71 (0, 0))
  dk : D.IsD w p g n z.d
  gr : IsG w gp go z.E
  mp : MapV w mb (fun x => (z.P x).map fun q => .agg (pend q.1 (tv x)))
  tg : ∀ x q, z.P x = some q → Ints w 0 (tv x) q.2
  ld : Ints w 0 lv z.ld
  rc : ρ c = some .c
  rp : ρ p = some .p
  rg : ρ g = some .g
  rr : ∀ k, go k → ρ k = some .gr
  rm : ρ mb = some .mb
  rt : ∀ x k, z.dirty x → (tv x).ownBlock = some k → ρ k = some (.tag x)
  rl : ∀ k, lv.ownBlock = some k → ρ k = some .ld
  lt : ∀ k r, ρ k = some r → k < w.heap.size
  inv : CInv n z

/-- A cache lies at c, its disk at p. -/
def IsC (w : World) (c p g n : Nat) (ρ : Nat → Option Role) (z : CSt) : Prop := ∃ gp mb go tv lv, IsC0 w c p g n gp mb go tv lv ρ z
/-- The cache's own blocks. -/
def Own (ρ : Nat → Option Role) (k : Nat) : Prop := ∃ r, ρ k = some r
theorem own_not {ρ : Nat → Option Role} {k j : Nat} {r s : Role} (h : ρ k = some r) (h2 : ρ j = some s) (hne : r ≠ s) : k ≠ j := fun e => by
  subst e
  rw [h] at h2
  cases h2
  exact hne rfl

section
variable {w w' : World} {c p g n gp mb : Nat} {go : Nat → Prop} {tv : Int → Value} {lv : Value} {ρ : Nat → Option Role} {z : CSt}
theorem IsC0.keep {ks : Nat → Prop} (h : IsC0 w c p g n gp mb go tv lv ρ z) (hc : Chg w w' ks) (hn : ∀ k, Own ρ k → ¬ ks k) : IsC0 w' c p g n gp mb go tv lv ρ z :=
  ⟨hc.keep h.me (hn c ⟨_, h.rc⟩), isD_keep h.dk hc (hn p ⟨_, h.rp⟩) (hn g ⟨_, h.rg⟩), h.gr.keep hc fun k hk => hn k ⟨_, h.rr k hk⟩, h.mp.keep hc (hn mb ⟨_, h.rm⟩),
    fun x q hx => row_keep (h.tg x q hx) hc fun k hk => hn k ⟨_, h.rt x k (by unfold CSt.dirty; rw [hx]; rfl) hk⟩, row_keep h.ld hc fun k hk => hn k ⟨_, h.rl k hk⟩,
    h.rc, h.rp, h.rg, h.rr, h.rm, h.rt, h.rl, fun k r hk => Nat.lt_of_lt_of_le (h.lt k r hk) hc.size, h.inv⟩
theorem IsC.keep {ks : Nat → Prop} (h : IsC w c p g n ρ z) (hc : Chg w w' ks) (hn : ∀ k, Own ρ k → ¬ ks k) : IsC w' c p g n ρ z := by
  obtain ⟨gp, mb, go, tv, lv, h⟩ := h
  exact ⟨gp, mb, go, tv, lv, h.keep hc hn⟩
theorem IsC.call (h : IsC w c p g n ρ z) (hc : Chg w w' No) : IsC w' c p g n ρ z := h.keep hc fun _ _ e => e
theorem IsC0.call (h : IsC0 w c p g n gp mb go tv lv ρ z) (hc : Chg w w' No) : IsC0 w' c p g n gp mb go tv lv ρ z := h.keep hc fun _ _ e => e
theorem IsC.inv (h : IsC w c p g n ρ z) : CInv n z := let ⟨_, _, _, _, _, h⟩ := h; h.inv
theorem IsC.lt (h : IsC w c p g n ρ z) {k : Nat} (hk : Own ρ k) : k < w.heap.size := let ⟨_, _, _, _, _, h⟩ := h; let ⟨r, hr⟩ := hk; h.lt k r hr
theorem IsC0.c0 (h : IsC0 w c p g n gp mb go tv lv ρ z) : w.cell? ⟨c, 0, none⟩ = some (.pointer (some ⟨p, 0, none⟩)) := by rw [cell_of_row _ _ _ _ _ _ h.me]; rfl
theorem IsC0.c1 (h : IsC0 w c p g n gp mb go tv lv ρ z) : w.cell? ⟨c, 1, none⟩ = some (.pointer (some ⟨gp, 0, none⟩)) := by rw [cell_of_row _ _ _ _ _ _ h.me]; rfl
theorem IsC0.c2 (h : IsC0 w c p g n gp mb go tv lv ρ z) : w.cell? ⟨c, 2, none⟩ = some (.map (some mb)) := by rw [cell_of_row _ _ _ _ _ _ h.me]; rfl
theorem IsC0.c3 (h : IsC0 w c p g n gp mb go tv lv ρ z) : w.cell? ⟨c, 3, none⟩ = some lv := by rw [cell_of_row _ _ _ _ _ _ h.me]; rfl
theorem IsC0.c4 (h : IsC0 w c p g n gp mb go tv lv ρ z) : w.cell? ⟨c, 4, none⟩ = some (.bool z.lost) := by rw [cell_of_row _ _ _ _ _ _ h.me]; rfl
theorem IsC0.fz (h : IsC0 w c p g n gp mb go tv lv ρ z) (j : Nat) : w.frozen? ⟨c, j, none⟩ = false := frozen_of_row w c j _ _ h.me
theorem IsC0.i64 (h : IsC0 w c p g n gp mb go tv lv ρ z) {x : Int} (hx : z.dirty x) : I64 x := by
  have := h.inv.ok x hx
  have := h.inv.top
  exact ⟨by omega, by omega⟩
theorem IsC0.few (h : IsC0 w c p g n gp mb go tv lv ρ z) : ∃ L : List Int, L.length ≤ 5000 ∧ ∀ x, ((z.P x).map fun q => Value.agg (pend q.1 (tv x))).isSome = true → x ∈ L := by
  obtain ⟨L, hL, hm⟩ := few_sec
  exact ⟨L, by omega, fun x hx => hm x (h.inv.sec (by unfold CSt.dirty; simpa using hx))⟩
end

/-- What stands behind a call on a cache: it has z' now; it owns no more than it did, and what is new; nothing else has turned. -/
def CPost (w w' : World) (c p g n : Nat) (ρ : Nat → Option Role) (z' : CSt) : Prop :=
  ∃ ρ', IsC w' c p g n ρ' z' ∧ (∀ k, Own ρ' k → Own ρ k ∨ w.heap.size ≤ k) ∧ Chg w w' (Own ρ)
section
variable {w w1 w2 : World} {c p g n : Nat} {ρ : Nat → Option Role} {z z1 z2 : CSt}
theorem CPost.same (h : IsC w c p g n ρ z) (hc : Chg w w1 No) : CPost w w1 c p g n ρ z := ⟨ρ, h.call hc, fun _ k => .inl k, hc.mono fun _ _ e => e.elim⟩
theorem CPost.isC (h : CPost w w1 c p g n ρ z) : ∃ ρ', IsC w1 c p g n ρ' z := let ⟨ρ', h, _⟩ := h; ⟨ρ', h⟩
theorem CPost.then (h : ∃ ρ1, (IsC w1 c p g n ρ1 z1 ∧ (∀ k, Own ρ1 k → Own ρ k ∨ w.heap.size ≤ k) ∧ Chg w w1 (Own ρ)) ∧ CPost w1 w2 c p g n ρ1 z2) : CPost w w2 c p g n ρ z2 := by
  obtain ⟨ρ1, ⟨_, h2, h3⟩, ρ2, k1, k2, k3⟩ := h
  refine ⟨ρ2, k1, fun k hk => ?_, h3.trans k3 (fun _ _ e => e) fun j hj e => ?_⟩
  · rcases k2 k hk with e | e
    · exact h2 k e
    · exact .inr (Nat.le_trans h3.size e)
  · rcases h2 j e with e | e
    · exact e
    · omega
theorem CPost.step (h2 : ∀ k, Own ρ k → Own ρ k) (hc : Chg w w1 No) (h : CPost w1 w2 c p g n ρ z2) : CPost w w2 c p g n ρ z2 := by
  obtain ⟨ρ2, k1, k2, k3⟩ := h
  refine ⟨ρ2, k1, fun k hk => ?_, hc.trans k3 (fun _ _ e => e.elim) fun j _ e => h2 j e⟩
  rcases k2 k hk with e | e
  · exact .inl e
  · exact .inr (Nat.le_trans hc.size e)
theorem CPost.after (h : CPost w w1 c p g n ρ z) (hc : Chg w1 w2 No) : CPost w w2 c p g n ρ z := by
  obtain ⟨ρ1, k1, k2, k3⟩ := h
  exact ⟨ρ1, k1.call hc, k2, k3.trans hc (fun _ _ e => e) fun _ _ e => e.elim⟩
end

end Go.Proofs.YtgkanfmkohlmcaaGreat
