/-
  Two tellers side by side: what the one's cache does leaves the other as it is.
-/
import Derived.Test.YtgkanfmkohlmcaaGreatDisk2
import Derived.Test.YtgkanfmkohlmcaaGreatCReadP
import Derived.Test.YtgkanfmkohlmcaaGreatCElig
namespace Go.Proofs.YtgkanfmkohlmcaaGreat.D
open Go.RowKit

set_option maxRecDepth 100000 in
set_option maxHeartbeats 1000000 in
theorem same_any (fl : List Int) (m : Nat) (a b : Option Addr) (ca cb : Nat) (w : World) (hl : fl.length = 128 * m) (hm : 128 * m ≤ 140737488355328) (ha : BytesAt w a fl) (hb : BytesAt w b fl) :
    Calls Tryz.prog 25 #[.slice a m ca, .slice b m cb] w fun e w' => e = .returned (.bool true) ∧ ∃ n, w' = w.drewN n := by
  have HA := hid ha
  have HBb := hid hb
  have HL := hid hl
  have hgd := guard_sec
  clear ha hb hl
  go_enter Tryz.func25, Tryz.ntmps25
  go_wp2_with fail
  go_loopw [5] (fun i wr => ∃ k n : Nat, k ≤ m ∧ i = .int .i64 k ∧ w.drewN n = wr) (fun i _ => m - (intOf i).toNat)
  case atStart => exact ⟨0, 0, by omega, rfl, rfl⟩
  case round =>
    obtain ⟨k, n, hk, rfl, rfl⟩ := hrel
    by_cases hlt : k < m
    · rcases HA.out with h0 | ⟨b1, o1, rfl, hb1, h1⟩
      · have := HL.out; rw [h0] at this; simp at this; omega
      · rcases HBb.out with h0 | ⟨b2, o2, rfl, hb2, h2⟩
        · have := HL.out; rw [h0] at this; simp at this; omega
        have hr1 := secK_range HL.out hlt h1
        have hr2 := secK_range HL.out hlt h2
        have hcl := secK_len HL.out hlt
        generalize secK fl k = c at *
        have hq := eq_sec c c hcl hcl
        rw [decide_eq_true rfl] at hq
        have hi0 : (0 : Int) ≤ (k : Int) := by omega
        have hi1 : (k : Int) < (m : Int) := by omega
        have R1 := hid hr1
        have R2 := hid hr2
        clear hr1 hr2 h1 h2
        go_wp2_with fail
        refine wp_region_noPanic ?_
        refine wp_region_held_drew (S := fun w' => w'.rangeAt b1 (o1 + k * 128) (c.map (Value.int .u8)) ∧ w'.rangeAt b2 (o2 + k * 128) (c.map (Value.int .u8))) (by kernel_rfl) ⟨R1.out, R2.out⟩ (fun hHeld => ?_)
        refine takeVal 0 17 (.slice (some ⟨b1, o1, none⟩) m ca) rfl (by kernel_rfl) (by kernel_rfl) (by kernel_rfl) rfl (by rfl) (fun _ _ _ h => h) hHeld (fun _ hw' => rfl) ?_
        simp only [List.setIfInBounds_toArray, List.set_cons_zero, List.set_cons_succ]
        refine takeVal 1 18 (.int .i64 (k : Int)) rfl (by kernel_rfl) (by kernel_rfl) (by kernel_rfl) rfl (by rfl) (fun _ _ _ h => h) hHeld (fun _ hw' => rfl) ?_
        simp only [List.setIfInBounds_toArray, List.set_cons_zero, List.set_cons_succ]
        refine takeVal 2 19 (.pointer (some ⟨b1, o1 + k * 128, none⟩)) rfl (by kernel_rfl) (by kernel_rfl) (by kernel_rfl) rfl (by rfl) (fun _ _ _ h => h) hHeld (fun _ hw' => by go_simp) ?_
        simp only [List.setIfInBounds_toArray, List.set_cons_zero, List.set_cons_succ]
        refine takeMidS 3 20 (.tmp 19) (b1) (o1 + k * 128) c hcl rfl (by kernel_rfl) (by kernel_rfl) (by kernel_rfl) rfl rfl rfl (by rfl) (fun _ _ _ h => h) hHeld (fun _ h => h.1) ?_
        simp only [List.setIfInBounds_toArray, List.set_cons_zero, List.set_cons_succ]
        refine takeVal 4 21 (.slice (some ⟨b2, o2, none⟩) m cb) rfl (by kernel_rfl) (by kernel_rfl) (by kernel_rfl) rfl (by rfl) (fun _ _ _ h => h) hHeld (fun _ hw' => rfl) ?_
        simp only [List.setIfInBounds_toArray, List.set_cons_zero, List.set_cons_succ]
        refine takeVal 5 22 (.int .i64 (k : Int)) rfl (by kernel_rfl) (by kernel_rfl) (by kernel_rfl) rfl (by rfl) (fun _ _ _ h => h) hHeld (fun _ hw' => rfl) ?_
        simp only [List.setIfInBounds_toArray, List.set_cons_zero, List.set_cons_succ]
        refine takeVal 6 23 (.pointer (some ⟨b2, o2 + k * 128, none⟩)) rfl (by kernel_rfl) (by kernel_rfl) (by kernel_rfl) rfl (by rfl) (fun _ _ _ h => h) hHeld (fun _ hw' => by go_simp) ?_
        simp only [List.setIfInBounds_toArray, List.set_cons_zero, List.set_cons_succ]
        refine takeMidS 7 24 (.tmp 23) (b2) (o2 + k * 128) c hcl rfl (by kernel_rfl) (by kernel_rfl) (by kernel_rfl) rfl rfl rfl (by rfl) (fun _ _ _ h => h) hHeld (fun _ h => h.2) ?_
        simp only [List.setIfInBounds_toArray, List.set_cons_zero, List.set_cons_succ]
        refine takeVal 8 25 (.bool false) rfl (by kernel_rfl) (by kernel_rfl) (by kernel_rfl) rfl (by rfl) (fun _ _ _ h => h) hHeld (fun _ hw' => by go_simp) ?_
        simp only [List.setIfInBounds_toArray, List.set_cons_zero, List.set_cons_succ]
        refine wpAnyH_done (by kernel_rfl) ?_ _
        refine NoPanic.normal ?_
        go_wp2_with fail
        exact ⟨⟨k + 1, n + 1, by omega, by go_num, rfl⟩, by simp [intOf]; omega⟩
    · go_wp2_with fail
      go_ret
      exact ⟨rfl, n, rfl⟩

end Go.Proofs.YtgkanfmkohlmcaaGreat.D

namespace Go.Proofs.YtgkanfmkohlmcaaGreat
open Go.RowKit

/-- A teller's blocks. -/
def Blk (t lb db : Nat) (ov : Value) (ρ : Nat → Option Role) (k : Nat) : Prop := k = t ∨ k = lb ∨ k = db ∨ ov.ownBlock = some k ∨ Own ρ k

section
variable {w0 w w' : World} {t c p g n lb db : Nat} {ρ : Nat → Option Role} {ov : Value} {s : TSt}
theorem IsT.blk_lt (h : IsT w0 w t c p g n lb db ρ ov s) {k : Nat} (hk : Blk t lb db ov ρ k) : k < w.heap.size := by
  rcases hk with rfl | rfl | rfl | e | e
  · exact slt h.me
  · exact slt h.la
  · exact slt h.da
  · exact (row_ge h.oa e).2
  · exact h.ca.lt e
theorem IsT.blk_ge (h : IsT w0 w t c p g n lb db ρ ov s) {k : Nat} (hk : Blk t lb db ov ρ k) : w0.heap.size ≤ k := by
  rcases hk with rfl | rfl | rfl | e | e
  · exact h.bt
  · exact h.bl
  · exact h.bd
  · exact (row_ge h.oa e).1
  · exact h.bo k e
theorem IsT.aside {ks : Nat → Prop} (h : IsT w0 w t c p g n lb db ρ ov s) (hc : Chg w w' ks) (hn : ∀ k, Blk t lb db ov ρ k → ¬ ks k) (hb : ∀ k, ks k → w0.heap.size ≤ k) : IsT w0 w' t c p g n lb db ρ ov s :=
  ⟨hc.keep h.me (hn _ (.inl rfl)), h.ca.keep hc (fun k hk => hn k (.inr (.inr (.inr (.inr hk))))), hc.keep h.la (hn _ (.inr (.inl rfl))), hc.keep h.da (hn _ (.inr (.inr (.inl rfl)))), row_keep h.oa hc (fun k hk => hn k (.inr (.inr (.inr (.inl hk))))), h.ll, h.dl, h.nt, h.nl, h.nd, h.no, h.bt, h.bl, h.bd, h.bo, h.ch.trans hc (fun _ _ e => e) (fun j hj e => by have := hb j e; omega)⟩
end

/-- Two tellers side by side, both new since w0. -/
def Duo (w0 w : World) (n t c p g lb db t2 x2 p2 g2 lb2 db2 : Nat) (s s2 : TSt) : Prop :=
  ∃ ρ ov ρ2 ov2, IsT w0 w t c p g n lb db ρ ov s ∧ IsT w0 w t2 x2 p2 g2 n lb2 db2 ρ2 ov2 s2 ∧ (∀ k, Own ρ k → ¬ Blk t2 lb2 db2 ov2 ρ2 k) ∧ (∀ k, Own ρ2 k → ¬ Blk t lb db ov ρ k)

section
variable {w0 w1 w w' : World} {n t c p g lb db t2 x2 p2 g2 lb2 db2 : Nat} {s s2 : TSt}
theorem duo_of (h : FT w0 w1 t c p g n s) (k : FT w1 w t2 x2 p2 g2 n s2) : ∃ lb db lb2 db2, Duo w0 w n t c p g lb db t2 x2 p2 g2 lb2 db2 s s2 := by
  obtain ⟨lb, db, ρ, ov, h⟩ := h
  obtain ⟨lb2, db2, ρ2, ov2, k⟩ := k
  have hs := h.ch.size
  have k0 : IsT w0 w t2 x2 p2 g2 n lb2 db2 ρ2 ov2 s2 := ⟨k.me, k.ca, k.la, k.da, row_base k.oa hs, k.ll, k.dl, k.nt, k.nl, k.nd, k.no, Nat.le_trans hs k.bt, Nat.le_trans hs k.bl, Nat.le_trans hs k.bd, fun j hj => Nat.le_trans hs (k.bo j hj), h.ch.tr k.ch⟩
  refine ⟨lb, db, lb2, db2, ρ, ov, ρ2, ov2, h.call k.ch, k0, fun j hj ho => ?_, fun j hj ho => ?_⟩
  · have := k.blk_ge ho
    have := h.ca.lt hj
    omega
  · have := k.bo j hj
    have := h.blk_lt ho
    omega
theorem Duo.swap (h : Duo w0 w n t c p g lb db t2 x2 p2 g2 lb2 db2 s s2) : Duo w0 w n t2 x2 p2 g2 lb2 db2 t c p g lb db s2 s := by
  obtain ⟨ρ, ov, ρ2, ov2, a, b, d1, d2⟩ := h
  exact ⟨ρ2, ov2, ρ, ov, b, a, d2, d1⟩
theorem Duo.call (h : Duo w0 w n t c p g lb db t2 x2 p2 g2 lb2 db2 s s2) (hc : Chg w w' No) : Duo w0 w' n t c p g lb db t2 x2 p2 g2 lb2 db2 s s2 := by
  obtain ⟨ρ, ov, ρ2, ov2, a, b, r⟩ := h
  exact ⟨ρ, ov, ρ2, ov2, a.call hc, b.call hc, r⟩
theorem Duo.q0 (h : Duo w0 w n t c p g lb db t2 x2 p2 g2 lb2 db2 s s2) : w.cell? ⟨t, 0, none⟩ = some (.pointer (some ⟨p, 0, none⟩)) := let ⟨_, _, _, _, a, _, _⟩ := h; a.c0
theorem Duo.q1 (h : Duo w0 w n t c p g lb db t2 x2 p2 g2 lb2 db2 s s2) : w.cell? ⟨t, 1, none⟩ = some (.pointer (some ⟨c, 0, none⟩)) := let ⟨_, _, _, _, a, _, _⟩ := h; a.c1
theorem Duo.q2 (h : Duo w0 w n t c p g lb db t2 x2 p2 g2 lb2 db2 s s2) : w.cell? ⟨t, 2, none⟩ = some (.slice (some ⟨lb, 0, none⟩) n n) := let ⟨_, _, _, _, a, _, _⟩ := h; a.c2
theorem Duo.q3 (h : Duo w0 w n t c p g lb db t2 x2 p2 g2 lb2 db2 s s2) : w.cell? ⟨t, 3, none⟩ = some (.slice (some ⟨db, 0, none⟩) n n) := let ⟨_, _, _, _, a, _, _⟩ := h; a.c3
theorem Duo.lc (h : Duo w0 w n t c p g lb db t2 x2 p2 g2 lb2 db2 s s2) {k : Nat} (hk : k < n) : w.cell? ⟨lb, k, none⟩ = some (.int .i64 (s.last.getD k 0)) := let ⟨_, _, _, _, a, _, _⟩ := h; a.lc hk
theorem Duo.dc (h : Duo w0 w n t c p g lb db t2 x2 p2 g2 lb2 db2 s s2) {k : Nat} (hk : k < n) : w.cell? ⟨db, k, none⟩ = some (.bool (s.di.getD k false)) := let ⟨_, _, _, _, a, _, _⟩ := h; a.dc hk
theorem Duo.ch (h : Duo w0 w n t c p g lb db t2 x2 p2 g2 lb2 db2 s s2) : Chg w0 w No := let ⟨_, _, _, _, a, _, _⟩ := h; a.ch

/-- The first one's cache does something: it turns blocks that were there, and are new since w0. -/
theorem Duo.does {P : Ending → CSt → Prop} {f : Nat} {args : Array Value} (h : Duo w0 w n t c p g lb db t2 x2 p2 g2 lb2 db2 s s2)
    (H : ∀ ρ, IsC w c p g n ρ s.z → Calls Tryz.prog f args w fun e w' => ∃ z', P e z' ∧ CPost w w' c p g n ρ z') :
    Calls Tryz.prog f args w fun e w' => ∃ z', P e z' ∧ Duo w0 w' n t c p g lb db t2 x2 p2 g2 lb2 db2 { s with z := z' } s2 ∧ ∃ ks : Nat → Prop, Chg w w' ks ∧ ∀ k, ks k → k < w.heap.size ∧ w0.heap.size ≤ k ∧ k ≠ t ∧ k ≠ lb ∧ k ≠ t2 := by
  obtain ⟨ρ, ov, ρ2, ov2, a, b, d1, d2⟩ := h
  refine (H ρ a.ca).mono ?_
  rintro e w' ⟨z', hp, ρ', k1, k2, k3⟩
  refine ⟨z', hp, ?_, Own ρ, k3, fun k hk => ⟨a.ca.lt hk, a.bo k hk, fun e => a.nt (e ▸ hk), fun e => a.nl (e ▸ hk), fun e => d1 k hk (.inl e)⟩⟩
  have hs := a.ch.size
  have keep : ∀ k, k < w.heap.size → ¬ Own ρ k → ¬ Own ρ' k := fun k hk hn ho => by
    rcases k2 k ho with e | e
    · exact hn e
    · omega
  have a' : IsT w0 w' t c p g n lb db ρ' ov { s with z := z' } := by
    refine ⟨k3.keep a.me a.nt, k1, k3.keep a.la a.nl, k3.keep a.da a.nd, row_keep a.oa k3 a.no, a.ll, a.dl, keep _ (slt a.me) a.nt, keep _ (slt a.la) a.nl, keep _ (slt a.da) a.nd, fun k hk => keep k (row_ge a.oa hk).2 (a.no k hk), a.bt, a.bl, a.bd, fun k hk => ?_, a.ch.trans k3 (fun _ _ e => e) (fun j hj e => ?_)⟩
    · rcases k2 k hk with e | e
      · exact a.bo k e
      · omega
    · have := a.bo j e
      omega
  refine ⟨ρ', ov, ρ2, ov2, a', b.aside k3 (fun k hk ho => d1 k ho hk) (fun k hk => a.bo k hk), fun k hk hb => ?_, fun k hk hb => ?_⟩
  · exact keep k (b.blk_lt hb) (fun e => d1 k e hb) hk
  · rcases hb with e | e | e | e | e
    · exact d2 k hk (.inl e)
    · exact d2 k hk (.inr (.inl e))
    · exact d2 k hk (.inr (.inr (.inl e)))
    · exact d2 k hk (.inr (.inr (.inr (.inl e))))
    · exact keep k (b.ca.lt hk) (fun e => d2 k hk (.inr (.inr (.inr (.inr e))))) e


set_option maxRecDepth 100000 in
theorem Duo.sync (h : Duo w0 w n t c p g lb db t2 x2 p2 g2 lb2 db2 s s2) (ht : TB s.z) (hw : s.z.d.wr < 4611686018427380000) : Calls Tryz.prog 24 #[.pointer (some ⟨c, 0, none⟩)] w fun e w' => e = .returned (.int .i64 (syncC n s.z).2) ∧ Duo w0 w' n t c p g lb db t2 x2 p2 g2 lb2 db2 { s with z := (syncC n s.z).1 } s2 := by
  refine (h.does (P := fun e z' => e = .returned (.int .i64 (syncC n s.z).2) ∧ z' = (syncC n s.z).1) fun ρ hc => (syncC_any hc ht hw).mono ?_).mono ?_
  · rintro e w' ⟨rfl, hP⟩
    exact ⟨_, ⟨rfl, rfl⟩, hP⟩
  · rintro e w' ⟨z', ⟨rfl, rfl⟩, hd, _⟩
    exact ⟨rfl, hd⟩
set_option maxRecDepth 100000 in
theorem Duo.flush (x : Int) (h : Duo w0 w n t c p g lb db t2 x2 p2 g2 lb2 db2 s s2) (hx : I64 x) (ht : TB s.z) (hw : s.z.d.wr < 4611686018427380000) : Calls Tryz.prog 14 #[.pointer (some ⟨c, 0, none⟩), .int .i64 x] w fun e w' => e = .returned (.tuple #[.bool (flushC n s.z x).2.1, .int .i64 (flushC n s.z x).2.2]) ∧ Duo w0 w' n t c p g lb db t2 x2 p2 g2 lb2 db2 { s with z := (flushC n s.z x).1 } s2 := by
  refine (h.does (P := fun e z' => e = .returned (.tuple #[.bool (flushC n s.z x).2.1, .int .i64 (flushC n s.z x).2.2]) ∧ z' = (flushC n s.z x).1) fun ρ hc => (flushC_any x hc hx ht hw).mono ?_).mono ?_
  · rintro e w' ⟨rfl, hP⟩
    exact ⟨_, ⟨rfl, rfl⟩, hP⟩
  · rintro e w' ⟨z', ⟨rfl, rfl⟩, hd, _⟩
    exact ⟨rfl, hd⟩
set_option maxRecDepth 100000 in
theorem Duo.read (x : Int) (h : Duo w0 w n t c p g lb db t2 x2 p2 g2 lb2 db2 s s2) (hx : 0 ≤ x ∧ x < n) (ha : Alive s.z) : Calls Tryz.prog 15 #[.pointer (some ⟨c, 0, none⟩), .int .i64 x] w fun e w' => e = .returned (.tuple #[.agg (D.SA (readC s.z x)), .int .i64 0]) ∧ Duo w0 w' n t c p g lb db t2 x2 p2 g2 lb2 db2 s s2 := by
  refine (h.does (P := fun e z' => e = .returned (.tuple #[.agg (D.SA (readC s.z x)), .int .i64 0]) ∧ z' = s.z) fun ρ hc => (readC_any x hc hx ha).mono ?_).mono ?_
  · rintro e w' ⟨rfl, hP⟩
    exact ⟨_, ⟨rfl, rfl⟩, hP⟩
  · rintro e w' ⟨z', ⟨rfl, rfl⟩, hd, _⟩
    exact ⟨rfl, hd⟩
set_option maxRecDepth 100000 in
theorem Duo.stands (x : Int) (h : Duo w0 w n t c p g lb db t2 x2 p2 g2 lb2 db2 s s2) (hx : 0 ≤ x ∧ x < n) (ha : Alive s.z) : Calls Tryz.prog 16 #[.pointer (some ⟨c, 0, none⟩), .int .i64 x] w fun e w' => e = .returned (.tuple #[.agg (D.SA (D.secK s.z.d.S x.toNat)), .int .i64 0]) ∧ Duo w0 w' n t c p g lb db t2 x2 p2 g2 lb2 db2 s s2 ∧ ∃ ks : Nat → Prop, Chg w w' ks ∧ ∀ k, ks k → k < w.heap.size ∧ w0.heap.size ≤ k ∧ k ≠ t ∧ k ≠ lb ∧ k ≠ t2 := by
  refine (h.does (P := fun e z' => e = .returned (.tuple #[.agg (D.SA (D.secK s.z.d.S x.toNat)), .int .i64 0]) ∧ z' = s.z) fun ρ hc => (standC_any x hc).mono ?_).mono ?_
  · rintro e w' ⟨rfl, hP⟩
    rw [stand_alive ha hx] at hP ⊢
    exact ⟨_, ⟨rfl, rfl⟩, hP⟩
  · rintro e w' ⟨z', ⟨rfl, rfl⟩, hd, hk⟩
    exact ⟨rfl, hd, hk⟩
set_option maxRecDepth 100000 in
theorem Duo.wr (h : Duo w0 w n t c p g lb db t2 x2 p2 g2 lb2 db2 s s2) : Calls Tryz.prog 27 #[.pointer (some ⟨p, 0, none⟩)] w fun e w' => e = .returned (.int .i64 s.z.d.wr) ∧ w' = w := by
  obtain ⟨ρ, ov, ρ2, ov2, a, b, d1, d2⟩ := h
  obtain ⟨_, _, _, _, _, hc⟩ := a.ca
  exact D.writes_any w hc.dk
set_option maxRecDepth 100000 in
theorem Duo.image (h : Duo w0 w n t c p g lb db t2 x2 p2 g2 lb2 db2 s s2) : Calls Tryz.prog 26 #[.pointer (some ⟨p, 0, none⟩)] w fun e w' => ∃ q, e = .returned (.slice (some ⟨q, 0, none⟩) n n) ∧ w'.heap[q]? = some (.cells (D.SA s.z.d.S) 46 (0, 0)) ∧ Chg w w' No := by
  obtain ⟨ρ, ov, ρ2, ov2, a, b, d1, d2⟩ := h
  obtain ⟨_, _, _, _, _, hc⟩ := a.ca
  refine (D.image_any w hc.dk).mono ?_
  rintro e w' ⟨q, rfl, _, h2, h3⟩
  exact ⟨q, rfl, h2, ⟨h3.os, h3.tape, h3.output, h3.size, fun k hk _ => h3.block k hk⟩⟩
set_option maxRecDepth 100000 in
theorem Duo.dirty (h : Duo w0 w n t c p g lb db t2 x2 p2 g2 lb2 db2 s s2) : Calls Tryz.prog 11 #[.pointer (some ⟨c, 0, none⟩)] w fun e w' => ∃ va vc, e = .returned (.slice va (secs s.z.dirty).length vc) ∧ Chg w w' No := by
  obtain ⟨ρ, ov, ρ2, ov2, a, b, d1, d2⟩ := h
  refine (dirty_any a.ca).mono ?_
  rintro e w' ⟨v, rfl, hI, hc⟩
  obtain ⟨va, vc, rfl, _, _⟩ := hI.lat
  exact ⟨va, vc, rfl, hc⟩
set_option maxRecDepth 100000 in
theorem Duo.elig (h : Duo w0 w n t c p g lb db t2 x2 p2 g2 lb2 db2 s s2) : Calls Tryz.prog 12 #[.pointer (some ⟨c, 0, none⟩)] w fun e w' => ∃ va vc, e = .returned (.slice va (secs fun x => s.z.dirty x ∧ FreeE s.z.E x).length vc) ∧ LAt w' va (secs fun x => s.z.dirty x ∧ FreeE s.z.E x) ∧ Chg w w' No := by
  obtain ⟨ρ, ov, ρ2, ov2, a, b, d1, d2⟩ := h
  refine (elig_any a.ca).mono ?_
  rintro e w' ⟨v, rfl, hI, hc⟩
  obtain ⟨va, vc, rfl, h1, _⟩ := hI.lat
  exact ⟨va, vc, rfl, h1, hc⟩
end

end Go.Proofs.YtgkanfmkohlmcaaGreat
