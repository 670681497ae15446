/-
 fsck.write: each sector that is to be written, in order, up to the write at which the power goes.
-/
import Derived.Test.YtboammbcoleicabGreatDisk1
import Derived.Test.YtboammbcoleicabGreatHA
import Derived.Test.YtboammbcoleicabGreatJA
import Derived.Test.YtboammbcoleicabGreatLaws
import Derived.LaidEql
import Derived.Stop.Asserts
import Derived.RowKitTokens
import Derived.Test.YtboammbcoleicabGreatJC
namespace Go.Proofs.YtboammbcoleicabGreat.D
open Go.RowKit
-- may lack

section
variable {ops : Array Oper} {Q : Exit → Act → World → Prop} {S : World → Prop} {fuel : Nat} {listed : Array Bool} {a : Act} {w : World}
theorem stStoreMid (i : Nat) {o : Oper} (hop : ops[i]? = some o) (hd : o.dst = none) (hw : Region.wanted o (yielded ops a.tmps) = true) (x y : Operand) (ho : o.op = .store 46 x y)
  (g off : Nat) (hx : a.eval x = .pointer (some ⟨g, off, none⟩)) (c : List Int) (hy : a.eval y = .agg (SA c)) (hc : c.length = 128) (t : TypeId) (l : List Int) (hg : w.heap[g]? = some (.cells (SA l) t (0, 0))) (hl : off + 128 ≤ l.length)
  (h : ∀ w', WroteB w g t (over l off c) w' → S w' ∧ wpAnyH Tryz.prog .any ops Q S fuel (listed.setIfInBounds i true) a w') : St ops Q S fuel listed a w i := by
 refine wpOp_step hop (fun K hK => ?_)
 rw [if_pos hw]
 refine wp_store_mid 46 x y ho g off (SA c) hx hy (fun j hj => ?_) (by rw [sz26, SA_size, hc]) (SA_one c) ?_
 ·rw [SA_size, hc] at hj
  rw [sec_cell hg (off + j) (by omega)]
  exact ⟨rfl, sec_free hg _⟩
 ·have h1 := over_cells c l off w hg
  have h2 := h _ h1
  have e : (SA c).toList = c.map (Value.int .u8) := by simp [SA]
  rw [e]
  refine hK _ _ ⟨h2.1, ?_⟩
  unfold Act.put
  rw [hd]
  exact h2.2
end

def readS (d : St8) (n : Nat) (i : Int) : List Int := if refE d n i = 0 then secK d.S i.toNat else Zs
theorem refE_zero {d : St8} {n : Nat} {i : Int} (h : refE d n i = 0) : d.dn = false ∧ 0 ≤ i ∧ i < n := by
 unfold refE at h
 split at h
 ·cases h
 ·split at h
  ·cases h
  ·rename_i h1 h2
   exact ⟨by simpa using h1, by omega, by omega⟩
theorem readS_len {w : World} {p g n : Nat} {d : St8} (h : IsD w p g n d) (i : Int) : (readS d n i).length = 128 := by
 unfold readS
 split
 ·rename_i h1
  have := refE_zero h1
  exact secK_len h.len (by omega)
 ·exact Zs_len
theorem row_sec {w : World} {g n k : Nat} {t : TypeId} {l : List Int} (h : w.heap[g]? = some (.cells (SA l) t (0, 0))) (hl : l.length = 128 * n) (hk : k < n) : w.rangeAt g (k * 128) ((secK l k).map (Value.int .u8)) := by
 have := secK_range (w := w) (b := g) (o := 0) hl hk (fun j hj => by rw [Nat.zero_add]; exact sec_cell h j hj)
 rw [Nat.zero_add] at this
 exact this

set_option maxRecDepth 100000 in
set_option maxHeartbeats 1000000 in
theorem read_any {p g n : Nat} {d : St8} (i : Int) (w : World) (h : IsD w p g n d) : Calls Tryz.prog 25 #[.pointer (some ⟨p, 0, none⟩), .int .i64 i] w fun e w' => e = .returned (.tuple #[.agg (SA (readS d n i)), .int .i64 (refE d n i)]) ∧ Below w.heap.size w w' := by
 have hz := zero_sec
 have hbz := build_sec
 have hb0 : Below w.heap.size w (w.alloc (.cells (SA Zs) 46)) := Below.refl_call w _
 have h1 := h.call hb0
 have hr := refusal_any i _ h1
 have hn0 : (w.alloc (.cells (SA Zs) 46)).heap[w.heap.size]? = some (.cells (SA Zs) 46 (0, 0)) := heap_alloc_new _ _
 by_cases he : refE d n i = 0
 ·have hi := refE_zero he
  have HS : Hid (readS d n i = secK d.S i.toNat) := by show _ = _; simp [readS, he]
  have hlen : (secK d.S i.toNat).length = 128 := secK_len h.len (by omega)
  have HR := hid (row_sec h1.row h.len (show i.toNat < n by omega))
  have HN := hid hn0
  rw [he] at hr
  have HE := hid he
  have h0 := h1.c0
  obtain ⟨_, hi0, hi1⟩ := hi
  clear he hn0
  generalize secK d.S i.toNat = c at *
  go_enter Tryz.func25, Tryz.ntmps25
  go_wp2_with (first | (go_at_call 44; refine hr.mono ?_; rintro e w1 ⟨rfl, rfl⟩) | (refine wpList_load_mid rfl 46 _ rfl g (i.toNat * 128) rfl (c.map (Value.int .u8)) _ HR.out Tryz.underlying46 rfl (by rw [sz26, List.length_map, hlen]) ?_) | (refine store_sec rfl _ _ rfl w.heap.size rfl c rfl hlen Zs Zs_len HN.out ?_; intro w2 hw2))
  refine bodyPost_ret (v := .tuple #[.agg (SA c), .int .i64 0]) (results_sec Tryz.results25 _ _ w.heap.size c hlen _ rfl rfl hw2.here) rfl ⟨?_, hw2.below hb0 (Nat.le_refl _)⟩
  rw [HS.out, HE.out]
 ·have HS : Hid (readS d n i = Zs) := by show _ = _; simp [readS, he]
  have HN := hid hn0
  clear hn0
  generalize refE d n i = E at *
  go_enter Tryz.func25, Tryz.ntmps25
  go_wp2_with (first | (go_at_call 44; refine hr.mono ?_; rintro e w1 ⟨rfl, rfl⟩) | (refine store_sec rfl _ _ rfl w.heap.size rfl Zs rfl Zs_len Zs Zs_len HN.out ?_; intro w2 hw2))
  refine bodyPost_ret (v := .tuple #[.agg (SA Zs), .int .i64 E]) (results_sec Tryz.results25 _ _ w.heap.size Zs Zs_len _ rfl rfl hw2.here) rfl ⟨?_, hw2.below hb0 (Nat.le_refl _)⟩
  rw [HS.out]

def writeE (d : St8) (n : Nat) (i : Int) : Int := if refE d n i = 0 then (if d.ar = true ∧ d.lf = 0 then 22 else 0) else refE d n i
def writeD (d : St8) (n : Nat) (i : Int) (s : List Int) : St8 :=
 if refE d n i = 0 then (if d.ar = true ∧ d.lf = 0 then ⟨d.S, d.wr, true, d.ar, d.lf⟩ else ⟨over d.S (i.toNat * 128) s, d.wr + 1, d.dn, d.ar, if d.ar = true then d.lf - 1 else d.lf⟩) else d

theorem over_len : ∀ (r l : List Int) (o : Nat), (over l o r).length = l.length
 | [], _, _ => rfl
 | x :: r, l, o => by rw [over, over_len r, List.length_set]

set_option maxRecDepth 100000 in
set_option maxHeartbeats 1000000 in
theorem write_no {p g n : Nat} {d : St8} (i : Int) (s : List Int) (w : World) (h : IsD w p g n d) (he : refE d n i ≠ 0) : Calls Tryz.prog 34 #[.pointer (some ⟨p, 0, none⟩), .int .i64 i, .agg (SA s)] w fun e w' => e = .returned (.int .i64 (refE d n i)) ∧ IsD w' p g n d ∧ Below w.heap.size w w' := by
 have hb0 : Below w.heap.size w (w.alloc (.cells (SA s) 46)) := Below.refl_call w _
 have h1 := h.call hb0
 have hr := refusal_any i _ h1
 generalize refE d n i = E at *
 go_enter Tryz.func34, Tryz.ntmps34
 go_wp2_with (go_at_call 44; refine hr.mono ?_; rintro e w1 ⟨rfl, rfl⟩)
 go_ret
 exact ⟨rfl, h1, hb0⟩

set_option maxRecDepth 100000 in
set_option maxHeartbeats 1000000 in
theorem write_off {p g n : Nat} {d : St8} (i : Int) (s : List Int) (w : World) (h : IsD w p g n d) (he : refE d n i = 0) (ha : d.ar = true) (hl : d.lf = 0) : Calls Tryz.prog 34 #[.pointer (some ⟨p, 0, none⟩), .int .i64 i, .agg (SA s)] w fun e w' => e = .returned (.int .i64 22) ∧ IsD w' p g n ⟨d.S, d.wr, true, d.ar, d.lf⟩ ∧ Mod w w' [p] := by
 have hb0 : Below w.heap.size w (w.alloc (.cells (SA s) 46)) := Below.refl_call w _
 have h1 := h.call hb0
 have hr := refusal_any i _ h1
 rw [he] at hr
 have h2 := h1.c2
 have h3 := h1.c3
 have h4 := h1.c4
 have f2 := h1.fz 2
 rw [ha] at h3
 rw [hl] at h4
 clear he ha hl
 go_enter Tryz.func34, Tryz.ntmps34
 go_wp2_with (go_at_call 44; refine hr.mono ?_; rintro e w1 ⟨rfl, rfl⟩)
 go_ret
 exact ⟨rfl, h1.put 2 _ rfl rfl, ((Mod.of_below hb0).trans Mod.set).mono (by simp)⟩

set_option maxRecDepth 100000 in
set_option maxHeartbeats 1000000 in
theorem write_free {p g n : Nat} {d : St8} (i : Int) (s : List Int) (w : World) (h : IsD w p g n d) (he : refE d n i = 0) (ha : d.ar = false) (hs : s.length = 128) (hw0 : 0 ≤ d.wr) (hw1 : d.wr < 4611686018427387904) : Calls Tryz.prog 34 #[.pointer (some ⟨p, 0, none⟩), .int .i64 i, .agg (SA s)] w fun e w' => e = .returned (.int .i64 0) ∧ IsD w' p g n ⟨over d.S (i.toNat * 128) s, d.wr + 1, d.dn, d.ar, d.lf⟩ ∧ Mod w w' [p, g] := by
 have hb0 : Below w.heap.size w (w.alloc (.cells (SA s) 46)) := Below.refl_call w _
 have h1 := h.call hb0
 have hr := refusal_any i _ h1
 have hB1 : (w.alloc (.cells (SA s) 46)).heap[w.heap.size]? = some (.cells (SA s) 46 (0, 0)) := heap_alloc_new _ _
 have HGL : Hid (w.heap.size ≠ g) := Nat.ne_of_gt (slt h.row)
 have HPL : Hid (w.heap.size ≠ p) := Nat.ne_of_gt (slt h.me)
 obtain ⟨_, hi0, hi1⟩ := refE_zero he
 rw [he] at hr
 have h0 := h1.c0
 have h3 := h1.c3
 rw [ha] at h3
 have hne := h.ne
 have HOF : Hid (i.toNat * 128 + 128 ≤ d.S.length) := by show _ ≤ _; rw [h.len]; omega
 have HROW := hid h1.row
 have HME := hid h1.me
 have HB1 := hid hB1
 have HC0 := hid h0
 clear he ha hB1
 go_enter Tryz.func34, Tryz.ntmps34
 go_wp2_with (go_at_call 44; refine hr.mono ?_; rintro e w1 ⟨rfl, rfl⟩)
 refine wp_region_noPanic ?_
 refine wp_region_held_drew (S := fun w' => w'.cell? ⟨p, 0, none⟩ = some (.slice (some ⟨g, 0, none⟩) n n) ∧ w'.heap[w.heap.size]? = some (.cells (SA s) 46 (0, 0))) (by kernel_rfl) ⟨HC0.out, HB1.out⟩ (fun hHeld => ?_)
 refine tV 0 39 (.pointer (some ⟨p, 0, none⟩)) rfl (by kernel_rfl) rfl (by rfl) (fun _ _ _ h => h) hHeld (fun _ hw' => rfl) ?_
 simp only [sA, sB, sC]
 refine tV 1 40 (.pointer (some ⟨p, 0, none⟩)) rfl (by kernel_rfl) rfl (by rfl) (fun _ _ _ h => h) hHeld (fun _ hw' => by go_simp) ?_
 simp only [sA, sB, sC]
 refine tV 2 41 (.pointer (some ⟨p, 0, none⟩)) rfl (by kernel_rfl) rfl (by rfl) (fun _ _ _ h => h) hHeld (fun _ hw' => by go_simp) ?_
 simp only [sA, sB, sC]
 refine tV 3 42 (.slice (some ⟨g, 0, none⟩) n n) rfl (by kernel_rfl) rfl (by rfl) (fun _ _ _ h => h) hHeld (fun _ hw' => by have hq := hw'.1; go_simp) ?_
 simp only [sA, sB, sC]
 refine tV 4 43 (.int .i64 i) rfl (by kernel_rfl) rfl (by rfl) (fun _ _ _ h => h) hHeld (fun _ hw' => rfl) ?_
 simp only [sA, sB, sC]
 refine takeSec 5 44 (.tmp 5) w.heap.size s hs rfl (by kernel_rfl) (by kernel_rfl) (by kernel_rfl) rfl rfl rfl (by rfl) (fun _ _ _ h => h) hHeld (fun _ h => h.2) ?_
 simp only [sA, sB, sC]
 refine tV 6 45 (.pointer (some ⟨g, i.toNat * 128, none⟩)) rfl (by kernel_rfl) rfl (by rfl) (fun _ _ _ h => h) hHeld (fun _ hw' => by go_simp) ?_
 simp only [sA, sB, sC]
 refine step1 7 (by kernel_rfl) ?_
 refine stStoreMid 7 rfl rfl (by rfl) _ _ rfl g (i.toNat * 128) rfl s rfl hs 46 d.S HROW.out HOF.out ?_
 intro w2 hw2
 have hp2 : w2.heap[p]? = _ := (hw2.other p hne).trans HME.out
 refine ⟨⟨by rw [cell_of_row _ _ _ _ _ _ hp2]; rfl, (hw2.other w.heap.size HGL.out).trans HB1.out⟩, ?_⟩
 refine wpAnyH_done (by kernel_rfl) ?_ _
 refine NoPanic.normal ?_
 have h2 : IsD w2 p g n ⟨over d.S (i.toNat * 128) s, d.wr, d.dn, d.ar, d.lf⟩ := ⟨hp2, hw2.here, by rw [over_len]; exact h.len, h.pos, h.top⟩
 have h21 := h2.c1
 have h2f := h2.fz 1
 have HM := hid ((Mod.of_below hb0).drew.trans (Mod.wrote hw2))
 have H2 := hid h2
 clear hw2 hp2 h2 hHeld
 simp only at h21
 go_wp2
 go_ret
 exact ⟨rfl, H2.out.put 1 _ rfl rfl, (HM.out.trans Mod.set).mono (by simp)⟩

set_option maxRecDepth 100000 in
set_option maxHeartbeats 1000000 in
theorem write_left {p g n : Nat} {d : St8} (i : Int) (s : List Int) (w : World) (h : IsD w p g n d) (he : refE d n i = 0) (ha : d.ar = true) (hl0 : 0 < d.lf) (hl1 : d.lf ≤ 9223372036854775807) (hs : s.length = 128) (hw0 : 0 ≤ d.wr) (hw1 : d.wr < 4611686018427387904) : Calls Tryz.prog 34 #[.pointer (some ⟨p, 0, none⟩), .int .i64 i, .agg (SA s)] w fun e w' => e = .returned (.int .i64 0) ∧ IsD w' p g n ⟨over d.S (i.toNat * 128) s, d.wr + 1, d.dn, d.ar, d.lf - 1⟩ ∧ Mod w w' [p, g] := by
 have hb0 : Below w.heap.size w (w.alloc (.cells (SA s) 46)) := Below.refl_call w _
 have h1 := h.call hb0
 have hr := refusal_any i _ h1
 have hB1 : (w.alloc (.cells (SA s) 46)).heap[w.heap.size]? = some (.cells (SA s) 46 (0, 0)) := heap_alloc_new _ _
 have HGL : Hid (w.heap.size ≠ g) := Nat.ne_of_gt (slt h.row)
 have HPL : Hid (w.heap.size ≠ p) := Nat.ne_of_gt (slt h.me)
 obtain ⟨_, hi0, hi1⟩ := refE_zero he
 rw [he] at hr
 have h0 := h1.c0
 have h3 := h1.c3
 rw [ha] at h3
 have hne := h.ne
 have HOF : Hid (i.toNat * 128 + 128 ≤ d.S.length) := by show _ ≤ _; rw [h.len]; omega
 have h4 := h1.c4
 have f4 := h1.fz 4
 have a1 : IsD ((w.alloc (.cells (SA s) 46)).setCell ⟨p, 4, none⟩ (.int .i64 (d.lf - 1))) p g n ⟨d.S, d.wr, d.dn, d.ar, d.lf - 1⟩ := h1.put 4 _ rfl rfl
 have HROW := hid a1.row
 have HME := hid a1.me
 have HB1 : Hid (((w.alloc (.cells (SA s) 46)).setCell ⟨p, 4, none⟩ (.int .i64 (d.lf - 1))).heap[w.heap.size]? = some (.cells (SA s) 46 (0, 0))) := by
  show _ = _
  rw [heap_setCell_other _ ⟨p, 4, none⟩ w.heap.size _ HPL.out]
  exact hB1
 have HC0 := hid a1.c0
 have HM0 := hid ((Mod.of_below hb0).trans (Mod.set (g := p) (j := 4) (v := .int .i64 (d.lf - 1))))
 clear he ha hB1 a1
 go_enter Tryz.func34, Tryz.ntmps34
 go_wp2_with (go_at_call 44; refine hr.mono ?_; rintro e w1 ⟨rfl, rfl⟩)
 refine wp_region_noPanic ?_
 refine wp_region_held_drew (S := fun w' => w'.cell? ⟨p, 0, none⟩ = some (.slice (some ⟨g, 0, none⟩) n n) ∧ w'.heap[w.heap.size]? = some (.cells (SA s) 46 (0, 0))) (by kernel_rfl) ⟨HC0.out, HB1.out⟩ (fun hHeld => ?_)
 refine tV 0 39 (.pointer (some ⟨p, 0, none⟩)) rfl (by kernel_rfl) rfl (by rfl) (fun _ _ _ h => h) hHeld (fun _ hw' => rfl) ?_
 simp only [sA, sB, sC]
 refine tV 1 40 (.pointer (some ⟨p, 0, none⟩)) rfl (by kernel_rfl) rfl (by rfl) (fun _ _ _ h => h) hHeld (fun _ hw' => by go_simp) ?_
 simp only [sA, sB, sC]
 refine tV 2 41 (.pointer (some ⟨p, 0, none⟩)) rfl (by kernel_rfl) rfl (by rfl) (fun _ _ _ h => h) hHeld (fun _ hw' => by go_simp) ?_
 simp only [sA, sB, sC]
 refine tV 3 42 (.slice (some ⟨g, 0, none⟩) n n) rfl (by kernel_rfl) rfl (by rfl) (fun _ _ _ h => h) hHeld (fun _ hw' => by have hq := hw'.1; go_simp) ?_
 simp only [sA, sB, sC]
 refine tV 4 43 (.int .i64 i) rfl (by kernel_rfl) rfl (by rfl) (fun _ _ _ h => h) hHeld (fun _ hw' => rfl) ?_
 simp only [sA, sB, sC]
 refine takeSec 5 44 (.tmp 5) w.heap.size s hs rfl (by kernel_rfl) (by kernel_rfl) (by kernel_rfl) rfl rfl rfl (by rfl) (fun _ _ _ h => h) hHeld (fun _ h => h.2) ?_
 simp only [sA, sB, sC]
 refine tV 6 45 (.pointer (some ⟨g, i.toNat * 128, none⟩)) rfl (by kernel_rfl) rfl (by rfl) (fun _ _ _ h => h) hHeld (fun _ hw' => by go_simp) ?_
 simp only [sA, sB, sC]
 refine step1 7 (by kernel_rfl) ?_
 refine stStoreMid 7 rfl rfl (by rfl) _ _ rfl g (i.toNat * 128) rfl s rfl hs 46 d.S HROW.out HOF.out ?_
 intro w2 hw2
 have hp2 : w2.heap[p]? = _ := (hw2.other p hne).trans HME.out
 refine ⟨⟨by rw [cell_of_row _ _ _ _ _ _ hp2]; rfl, (hw2.other w.heap.size HGL.out).trans HB1.out⟩, ?_⟩
 refine wpAnyH_done (by kernel_rfl) ?_ _
 refine NoPanic.normal ?_
 have h2 : IsD w2 p g n ⟨over d.S (i.toNat * 128) s, d.wr, d.dn, d.ar, d.lf - 1⟩ := ⟨hp2, hw2.here, by rw [over_len]; exact h.len, h.pos, h.top⟩
 have h21 := h2.c1
 have h2f := h2.fz 1
 have HM := hid (HM0.out.drew.trans (Mod.wrote hw2))
 have H2 := hid h2
 clear hw2 hp2 h2 hHeld
 simp only at h21
 go_wp2
 go_ret
 exact ⟨rfl, H2.out.put 1 _ rfl rfl, (HM.out.trans Mod.set).mono (by simp)⟩

theorem write_any {p g n : Nat} {d : St8} (i : Int) (s : List Int) (w : World) (h : IsD w p g n d) (hs : s.length = 128) (hw0 : 0 ≤ d.wr) (hw1 : d.wr < 4611686018427387904) (hl : 0 ≤ d.lf ∧ d.lf ≤ 9223372036854775807) :
  Calls Tryz.prog 34 #[.pointer (some ⟨p, 0, none⟩), .int .i64 i, .agg (SA s)] w fun e w' => e = .returned (.int .i64 (writeE d n i)) ∧ IsD w' p g n (writeD d n i s) ∧ Mod w w' [p, g] := by
 unfold writeE writeD
 by_cases he : refE d n i = 0
 ·rw [if_pos he, if_pos he]
  cases ha : d.ar
  ·rw [if_neg (by simp), if_neg (by simp), if_neg (by simp)]
   have := write_free i s w h he ha hs hw0 hw1
   rw [ha] at this
   exact this
  ·by_cases hz : d.lf = 0
   ·rw [if_pos ⟨rfl, hz⟩, if_pos ⟨rfl, hz⟩]
    have := write_off i s w h he ha hz
    rw [ha] at this
    exact this.mono fun e w' k => ⟨k.1, k.2.1, k.2.2.mono (by simp)⟩
   ·rw [if_neg (by simp [hz]), if_neg (by simp [hz]), if_pos rfl]
    have := write_left i s w h he ha (by omega) hl.2 hs hw0 hw1
    rw [ha] at this
    exact this
 ·rw [if_neg he, if_neg he]
  exact (write_no i s w h he).mono fun e w' k => ⟨k.1, k.2.1, (Mod.of_below k.2.2).mono (by simp)⟩

structure Put (w : World) (g : Nat) (o : Obj) (w' : World) : Prop where
 here : w'.heap[g]? = some o
 other : ∀ k, k ≠ g → w'.heap[k]? = w.heap[k]?
 size : w'.heap.size = w.heap.size
 os : w'.os = w.os
 tape : w'.tape = w.tape
 output : w'.output = w.output
end Go.Proofs.YtboammbcoleicabGreat.D

namespace Go.Proofs.YtboammbcoleicabGreat.D
open Go.RowKit
-- may lack

set_option maxHeartbeats 400000 in
theorem from_ok (m cap : Nat) (ad : Addr) (fl : List Int) (w : World) (h0 : 1 ≤ m) (h1 : m ≤ 4096) (hl : Hid (fl.length = 128 * m)) (HZ : Hid (BytesAt w (some ad) fl)) :
  Calls Tryz.prog 6 #[.slice (some ad) m cap] w fun e w' => ∃ p g, e = .returned (.tuple #[.pointer (some ⟨p, 0, none⟩), .int .i64 0]) ∧ w.heap.size ≤ p ∧ w.heap.size ≤ g ∧ IsD w' p g m (D0 fl) ∧ Below w.heap.size w w' := by
 have hm := fun w => maySize_any m w
 rw [mayB_true (by omega)] at hm
 have HLa := laid_any m cap ad fl w (by omega) hl HZ
 have hbd := fun g w => build_disk (.slice (some ⟨g, 0, none⟩) m m) _ _ _ rfl w
 go_enter Tryz.func6, Tryz.ntmps6
 go_wp2_with (first | (go_at_call 14; refine (hm _).mono ?_; rintro e w1 ⟨rfl, rfl⟩) | (go_at_call 15; refine HLa.mono ?_; rintro e w2 ⟨q, rfl, k1, k2, k3⟩))
 go_ret2
 refine ⟨w2.heap.size, q, rfl, k3.size, k1, ⟨heap_alloc_new _ _, ?_, hl.out, h0, h1⟩, k3.alloc k3.size _⟩
 rw [Below.heap_alloc _ _ _ (slt k2)]
 exact k2

end Go.Proofs.YtboammbcoleicabGreat.D

namespace Go.Proofs.YtboammbcoleicabGreat
open Go.RowKit Go.Shelf

structure DK (w : World) (p g : Nat) (im : Img) (wr : Int) (dn ar : Bool) (lf : Int) : Prop where
 d : D.IsD w p g im.length ⟨im.flatten, wr, dn, ar, lf⟩
 s : ∀ s ∈ im, IsSec s
theorem mod_chg {w w' : World} {ks : List Nat} (h : D.Mod w w' ks) : Chg w w' (fun k => k ∈ ks) := ⟨h.os, h.tape, h.output, h.size, h.block⟩
theorem DK.keep {w w' : World} {p g : Nat} {im : Img} {wr : Int} {dn ar : Bool} {lf : Int} {ks : Nat → Prop} (h : DK w p g im wr dn ar lf) (hc : Chg w w' ks) (hp : ¬ ks p) (hg : ¬ ks g) : DK w' p g im wr dn ar lf :=
 ⟨⟨hc.keep h.d.me hp, hc.keep h.d.row hg, h.d.len, h.d.pos, h.d.top⟩, h.s⟩
theorem DK.call {w w' : World} {p g : Nat} {im : Img} {wr : Int} {dn ar : Bool} {lf : Int} (h : DK w p g im wr dn ar lf) (hc : Chg w w' No) : DK w' p g im wr dn ar lf := h.keep hc (fun e => e) (fun e => e)
theorem DK.lt {w : World} {p g : Nat} {im : Img} {wr : Int} {dn ar : Bool} {lf : Int} (h : DK w p g im wr dn ar lf) : p < w.heap.size ∧ g < w.heap.size := ⟨slt h.d.me, slt h.d.row⟩
theorem DK.l128 {w : World} {p g : Nat} {im : Img} {wr : Int} {dn ar : Bool} {lf : Int} (h : DK w p g im wr dn ar lf) : ∀ s ∈ im, s.length = 128 := fun s hs => (h.s s hs).1
theorem wt_flat {w : World} {q : Nat} {im : Img} (hs : ∀ s ∈ im, IsSec s) (h : w.heap[q]? = some (.cells (SA im.flatten) 46 (0, 0))) : WtAt w q im := by
 have hl : ∀ s ∈ im, s.length = 128 := fun s hx => (hs s hx).1
 refine ⟨hs, _, h, fun j s hj i x hx => ?_⟩
 have hi := (List.getElem?_eq_some_iff.1 hx).1
 rw [hl s (List.mem_of_getElem? hj)] at hi
 have e1 := flat_get im hl j s hj i hi
 rw [hx] at e1
 show ((im.flatten.map (Value.int .u8)).toArray)[j * 128 + i]? = _
 rw [List.getElem?_toArray, List.getElem?_map, e1]
 rfl
theorem flat_bytes {w : World} {b o : Nat} {im : Img} (h : ImgAt w (some ⟨b, o, none⟩) im) (hn : 1 ≤ im.length) : D.BytesAt w (some ⟨b, o, none⟩) im.flatten := by
 have hb : b < w.heap.size := by
  rcases h.2 with e | ⟨b', o', e, hb, _⟩
  ·rw [e] at hn; simp at hn
  ·cases e; exact hb
 refine .inr ⟨b, o, rfl, hb, fun j hj => ?_⟩
 have := img_src h hn j (.int .u8 (im.flatten.getD j 0)) (by rw [List.getElem?_map, List.getD_eq_getElem?_getD, List.getElem?_eq_getElem hj]; rfl)
 rw [addr_add] at this
 exact this
theorem flat_set : ∀ (im : Img), (∀ s ∈ im, s.length = 128) → ∀ (k : Nat) (s : List Int), k < im.length → s.length = 128 → D.over im.flatten (k * 128) s = (im.set k s).flatten := by
 intro im hh k s hk hs
 have hfl := flat_len im hh
 rw [D.over_eq _ _ _ (by omega)]
 have e : im = im.take k ++ secI im (k : Int) :: im.drop (k + 1) := by
  have h1 := (List.take_append_drop k im).symm
  have h2 : im.drop k = secI im (k : Int) :: im.drop (k + 1) := by
   rw [List.drop_eq_getElem_cons hk]
   unfold secI
   rw [Int.toNat_natCast, List.getD_eq_getElem?_getD, List.getElem?_eq_getElem hk]
   rfl
  rw [h2] at h1
  exact h1
 have ht : (im.take k).flatten.length = k * 128 := by
  rw [flat_len _ (fun x hx => hh x (List.mem_of_mem_take hx)), List.length_take]
  omega
 have hsl : (secI im (k : Int)).length = 128 := by
  unfold secI
  rw [Int.toNat_natCast, List.getD_eq_getElem?_getD, List.getElem?_eq_getElem hk]
  exact hh _ (List.getElem_mem hk)
 have hset : im.set k s = im.take k ++ s :: im.drop (k + 1) := List.set_eq_take_append_cons_drop ▸ by rw [if_pos hk]
 have hf : im.flatten = (im.take k).flatten ++ (secI im (k : Int) ++ (im.drop (k + 1)).flatten) := by
  conv => lhs; rw [e]
  rw [List.flatten_append, List.flatten_cons]
 rw [hset, List.flatten_append, List.flatten_cons, hf]
 rw [List.take_append_of_le_length (by omega), List.take_of_length_le (by omega), List.drop_append, List.drop_of_length_le (by omega), List.nil_append, ht, hs, show k * 128 + 128 - k * 128 = 128 by omega, List.drop_append, List.drop_of_length_le (by omega), List.nil_append, hsl, Nat.sub_self, List.drop_zero, List.append_assoc]
theorem dk_image {w : World} {p g : Nat} {im : Img} {wr : Int} {dn ar : Bool} {lf : Int} (h : DK w p g im wr dn ar lf) : Calls Tryz.prog 12 #[.pointer (some ⟨p, 0, none⟩)] w fun e w' => ∃ q, e = .returned (.slice (some ⟨q, 0, none⟩) im.length im.length) ∧ w.heap.size ≤ q ∧ WtAt w' q im ∧ Chg w w' No := by
 refine (D.image_any w h.d).mono ?_
 rintro e w' ⟨q, rfl, hq, hr, hb⟩
 exact ⟨q, rfl, hq, wt_flat h.s hr, Chg.of_below hb _⟩
theorem dk_from {w : World} {b o ic : Nat} {im : Img} (h : ImgAt w (some ⟨b, o, none⟩) im) (h1 : 1 ≤ im.length) (h2 : im.length ≤ 4096) : Calls Tryz.prog 6 #[.slice (some ⟨b, o, none⟩) im.length ic] w fun e w' => ∃ p g, e = .returned (.tuple #[.pointer (some ⟨p, 0, none⟩), .int .i64 0]) ∧ w.heap.size ≤ p ∧ w.heap.size ≤ g ∧ DK w' p g im 0 false false 0 ∧ Chg w w' No := by
 refine (D.from_ok im.length ic ⟨b, o, none⟩ im.flatten w h1 h2 (hid (by rw [flat_len im (fun s hs => (h.1 s hs).1)]; omega)) (hid (flat_bytes h h1))).mono ?_
 rintro e w' ⟨p, g, rfl, hp, hg, hd, hb⟩
 exact ⟨p, g, rfl, hp, hg, ⟨hd, h.1⟩, Chg.of_below hb _⟩
end Go.Proofs.YtboammbcoleicabGreat

namespace Go.Proofs.YtboammbcoleicabGreat
open Go.RowKit Go.Extern.Stop Go.Stop Go.Extern

theorem errTypeOf (v : Value) (w : World) : (Extern.ReflectliteType.typeOf #[.iface 28 v]).run Tryz.prog w = .ok (.iface 128 (.agg #[.pointer (some ⟨1, 28, none⟩)])) w := by kernel_rfl
def cmpF : Array Value → Sem Value := Extern.ReflectliteType.method fun t => do Go.Extern.Rtype.noPackHeld "Comparable" t; pure (.bool (← typeInfo t).comparable)
theorem errComparable (w : World) : (cmpF #[.agg #[.pointer (some ⟨1, 28, none⟩)]]).run Tryz.prog w = .ok (.bool true) w := by kernel_rfl
theorem errMethod (v : Value) (w : World) : (Go.method 340 128 v "Comparable").run Tryz.prog w = .ok (169, v) w := by kernel_rfl
theorem errInfo : (Tryz.prog.info? 28).map (·.comparable) = some true := by kernel_rfl
theorem equal_errno (d : Nat) (a b : Int) (w : World) : (Op.equalIn (d + 2) 106 (.iface 28 (.int .i64 a)) (.iface 28 (.int .i64 b))).run Tryz.prog w = .ok (a == b) w := by
 obtain ⟨i, hi, hc⟩ := Option.map_eq_some_iff.1 errInfo
 simp [Op.equalIn, run_underlying Tryz.underlying106, run_underlying Tryz.underlying28, typeInfo, hi, hc]
theorem eql_errno (a b : Int) (w : World) : (binOp .eql 106 (.iface 28 (.int .i64 a)) (.iface 28 (.int .i64 b))).run Tryz.prog w = .ok (.bool (a == b)) w := by
 simp only [binOp]
 simp [Op.equal, Op.maxDepth, equal_errno 9998 a b]
theorem noIs (v : Value) (xT : TypeId) (w : World) : (Instr.typeAssert (.iface 28 v) xT 130 true).run Tryz.prog w = .ok (.tuple #[.nilIface, .bool false]) w := run_typeAssert_lacksB Tryz.underlying130 (by kernel_rfl) (by kernel_rfl) v xT w
theorem noUn (v : Value) (xT : TypeId) (w : World) : (Instr.typeAssert (.iface 28 v) xT 133 true).run Tryz.prog w = .ok (.tuple #[.nilIface, .bool false]) w := run_typeAssert_lacksB Tryz.underlying133 (by kernel_rfl) (by kernel_rfl) v xT w
theorem noUns (v : Value) (xT : TypeId) (w : World) : (Instr.typeAssert (.iface 28 v) xT 135 true).run Tryz.prog w = .ok (.tuple #[.nilIface, .bool false]) w := run_typeAssert_lacksB Tryz.underlying135 (by kernel_rfl) (by kernel_rfl) v xT w

set_option maxHeartbeats 1000000 in
theorem is_same (a : Int) (w : World) : Calls Tryz.prog 26 #[.iface 28 (.int .i64 a), .iface 28 (.int .i64 a)] w fun e w' => e = .returned (.bool true) ∧ w' = w := by
 have h8 := @run_callFunc_extern Tryz.prog 45 _ Extern.ReflectliteType.typeOf Tryz.func45 (by kernel_rfl) (by kernel_rfl) (by kernel_rfl) (by kernel_rfl)
 have h32 := @run_callFunc_extern Tryz.prog 169 _ cmpF Tryz.func169 (by kernel_rfl) (by kernel_rfl) (by kernel_rfl) (by kernel_rfl)
 have tT := errTypeOf
 have cT := errComparable
 have mR := errMethod
 have heq : ∀ w, (binOp .eql 106 (.iface 28 (.int .i64 a)) (.iface 28 (.int .i64 a))).run Tryz.prog w = .ok (.bool true) w := fun w => by rw [eql_errno]; simp
 go_enter Tryz.func26, Tryz.ntmps26
 go_wp2
 refine wp_loop_rounds 1 ?_
 rw [rounds_succ]
 go_wp2
 go_ret
 exact ⟨rfl, rfl⟩

set_option maxHeartbeats 1000000 in
theorem is_other (a b : Int) (hab : a ≠ b) (w : World) : Calls Tryz.prog 26 #[.iface 28 (.int .i64 a), .iface 28 (.int .i64 b)] w fun e w' => e = .returned (.bool false) ∧ w' = w := by
 have h8 := @run_callFunc_extern Tryz.prog 45 _ Extern.ReflectliteType.typeOf Tryz.func45 (by kernel_rfl) (by kernel_rfl) (by kernel_rfl) (by kernel_rfl)
 have h32 := @run_callFunc_extern Tryz.prog 169 _ cmpF Tryz.func169 (by kernel_rfl) (by kernel_rfl) (by kernel_rfl) (by kernel_rfl)
 have tT := errTypeOf
 have cT := errComparable
 have mR := errMethod
 have nE := noIs
 have uE := noUn
 have vE := noUns
 have heq : ∀ w, (binOp .eql 106 (.iface 28 (.int .i64 a)) (.iface 28 (.int .i64 b))).run Tryz.prog w = .ok (.bool false) w := fun w => by rw [eql_errno, beq_false_of_ne hab]
 clear hab
 go_enter Tryz.func26, Tryz.ntmps26
 go_wp2
 refine wp_loop_rounds 1 ?_
 rw [rounds_succ]
 go_wp2
 go_ret
 exact ⟨rfl, rfl⟩
end Go.Proofs.YtboammbcoleicabGreat

namespace Go.Proofs.YtboammbcoleicabGreat
open Go.RowKit Go.Shelf

theorem mod_pg {w w' : World} {p g : Nat} (h : D.Mod w w' [p, g]) : Chg w w' (fun k => k = p ∨ k = g) := (mod_chg h).mono fun k _ e => by simpa using e
theorem dk_write {w : World} {p g : Nat} {im : Img} {wr : Int} {ar : Bool} {lf : Int} (h : DK w p g im wr false ar lf) (m : Nat) (s : List Int) (hm : m < im.length) (hs : IsSec s) (hw : 0 ≤ wr ∧ wr < 4611686018427387904) (hl : 0 ≤ lf ∧ lf ≤ 9223372036854775807) (ha : ¬ (ar = true ∧ lf = 0)) :
  Calls Tryz.prog 34 #[.pointer (some ⟨p, 0, none⟩), .int .i64 (m : Int), .agg (SA s)] w fun e w' => e = .returned (.int .i64 0) ∧ DK w' p g (im.set m s) (wr + 1) false ar (if ar = true then lf - 1 else lf) ∧ Chg w w' (fun k => k = p ∨ k = g) := by
 refine (D.write_any (m : Int) s w h.d hs.1 hw.1 hw.2 hl).mono ?_
 rintro e w' ⟨rfl, hd, hc⟩
 have he : D.refE ⟨im.flatten, wr, false, ar, lf⟩ im.length (m : Int) = 0 := by
  unfold D.refE
  rw [if_neg (by simp), if_neg (by omega)]
 have e1 : D.writeE ⟨im.flatten, wr, false, ar, lf⟩ im.length (m : Int) = 0 := by
  unfold D.writeE
  rw [if_pos he, if_neg ha]
 have e2 : D.writeD ⟨im.flatten, wr, false, ar, lf⟩ im.length (m : Int) s = ⟨(im.set m s).flatten, wr + 1, false, ar, if ar = true then lf - 1 else lf⟩ := by
  unfold D.writeD
  rw [if_pos he, if_neg ha, Int.toNat_natCast, flat_set im h.l128 m s hm hs.1]
 rw [e2] at hd
 refine ⟨by rw [e1], ⟨?_, fun x hx => ?_⟩, mod_pg hc⟩
 ·rw [List.length_set]
  exact hd
 ·rcases List.mem_or_eq_of_mem_set hx with k | k
  ·exact h.s x k
  ·rw [k]; exact hs
theorem dk_cut {w : World} {p g : Nat} {im : Img} {wr : Int} (h : DK w p g im wr false true 0) (m : Nat) (s : List Int) (hm : m < im.length) (hs : IsSec s) (hw : 0 ≤ wr ∧ wr < 4611686018427387904) :
  Calls Tryz.prog 34 #[.pointer (some ⟨p, 0, none⟩), .int .i64 (m : Int), .agg (SA s)] w fun e w' => e = .returned (.int .i64 22) ∧ DK w' p g im wr true true 0 ∧ Chg w w' (fun k => k = p ∨ k = g) := by
 refine (D.write_any (m : Int) s w h.d hs.1 hw.1 hw.2 ⟨by show (0 : Int) ≤ 0; omega, by show (0 : Int) ≤ 9223372036854775807; omega⟩).mono ?_
 rintro e w' ⟨rfl, hd, hc⟩
 have he : D.refE ⟨im.flatten, wr, false, true, 0⟩ im.length (m : Int) = 0 := by
  unfold D.refE
  rw [if_neg (by simp), if_neg (by omega)]
 have e1 : D.writeE ⟨im.flatten, wr, false, true, 0⟩ im.length (m : Int) = 22 := by
  unfold D.writeE
  rw [if_pos he, if_pos ⟨rfl, rfl⟩]
 have e2 : D.writeD ⟨im.flatten, wr, false, true, 0⟩ im.length (m : Int) s = ⟨im.flatten, wr, true, true, 0⟩ := by
  unfold D.writeD
  rw [if_pos he, if_pos ⟨rfl, rfl⟩]
 rw [e2] at hd
 exact ⟨by rw [e1], ⟨hd, h.s⟩, mod_pg hc⟩

set_option maxHeartbeats 1000000 in
set_option maxRecDepth 100000 in
theorem power_any {w : World} {p g : Nat} {im : Img} {wr : Int} {dn ar : Bool} {lf : Int} (h : DK w p g im wr dn ar lf) : Calls Tryz.prog 17 #[.pointer (some ⟨p, 0, none⟩)] w fun e w' => e = .returned (.bool dn) ∧ Chg w w' No := by
 have hz := D.zero_sec
 have hR := D.read_any 0 w h.d
 have hln := D.readS_len h.d 0
 have hE : D.refE ⟨im.flatten, wr, dn, ar, lf⟩ im.length 0 = if dn = true then 22 else 0 := by
  have := h.d.pos
  unfold D.refE
  cases dn
  ·rw [if_neg (by simp), if_neg (by omega), if_neg (by simp)]
  ·rw [if_pos rfl, if_pos rfl]
 rw [hE] at hR
 generalize D.readS ⟨im.flatten, wr, dn, ar, lf⟩ im.length 0 = S at *
 have HL := hid hln
 clear h hE hln
 cases dn
 ·rw [if_neg (by simp)] at hR
  have hIs := fun w => is_other 0 22 (by decide) w
  go_enter Tryz.func17, Tryz.ntmps17
  go_wp2_with (first
   | (go_at_call 25; go_must (refine hR.mono ?_; rintro e w1 ⟨rfl, hb1⟩))
   | (refine store_R rfl 46 _ _ rfl w1.heap.size (SA S) rfl rfl 46 _ (heap_alloc_new _ _) (by rw [SA_size, HL.out]; exact sz26) (by rw [SA_size, HL.out]; rfl) (SA_one _) ?_; intro w2 hw2)
   | (go_at_call 26; go_must (refine (hIs _).mono ?_; rintro e w3 ⟨rfl, hw3⟩; obtain rfl : w2 = w3 := hw3.symm))
   | fail)
  go_ret
  exact ⟨rfl, ((Chg.of_below hb1 No).tr (Chg.alloc w1 _ No)).trans (kt_new hw2) (fun _ _ e => e) (fun j hj e => by have := hb1.size; omega)⟩
 ·rw [if_pos rfl] at hR
  have hIs := fun w => is_same 22 w
  go_enter Tryz.func17, Tryz.ntmps17
  go_wp2_with (first
   | (go_at_call 25; go_must (refine hR.mono ?_; rintro e w1 ⟨rfl, hb1⟩))
   | (refine store_R rfl 46 _ _ rfl w1.heap.size (SA S) rfl rfl 46 _ (heap_alloc_new _ _) (by rw [SA_size, HL.out]; exact sz26) (by rw [SA_size, HL.out]; rfl) (SA_one _) ?_; intro w2 hw2)
   | (go_at_call 26; go_must (refine (hIs _).mono ?_; rintro e w3 ⟨rfl, hw3⟩; obtain rfl : w2 = w3 := hw3.symm))
   | fail)
  go_ret
  exact ⟨rfl, ((Chg.of_below hb1 No).tr (Chg.alloc w1 _ No)).trans (kt_new hw2) (fun _ _ e => e) (fun j hj e => by have := hb1.size; omega)⟩
end Go.Proofs.YtboammbcoleicabGreat

namespace Go.Proofs.YtboammbcoleicabGreat
open Go.RowKit Go.Shelf

def leftN (ar : Bool) (lf : Int) (k : Nat) : Int := if ar = true then lf - k else lf
theorem take_one {l : List Int} {i : Nat} (h : i < l.length) : l.take (i + 1) = l.take i ++ [l.getD i 0] := by
 rw [List.take_succ_eq_append_getElem h, List.getD_eq_getElem?_getD, List.getElem?_eq_getElem h]
 rfl
def WrPost (w : World) (p g : Nat) (im T : Img) (Wl : List Int) (nw : Int) (ar : Bool) (lf : Int) (E : Int) (w' : World) : Prop :=
 ((ar = true ∧ lf < Wl.length) ∧ E = 22 ∧ DK w' p g (wroteI T (Wl.take lf.toNat) im) (nw + lf) true true 0 ∨
  ¬ (ar = true ∧ lf < Wl.length) ∧ E = 0 ∧ DK w' p g (wroteI T Wl im) (nw + Wl.length) false ar (leftN ar lf Wl.length)) ∧ Chg w w' (fun k => k = p ∨ k = g)
theorem leftN_step {ar : Bool} {lf : Int} {k : Nat} : (if ar = true then leftN ar lf k - 1 else leftN ar lf k) = leftN ar lf (k + 1) := by
 unfold leftN
 cases ar
 ·simp
 ·simp
  omega

set_option maxHeartbeats 2000000 in
set_option maxRecDepth 100000 in
theorem fwrite_any {w : World} {p g : Nat} {im T : Img} {Wl : List Int} {nw : Int} {ar : Bool} {lf : Int} (gw wc s1 : Nat) (a1 : Option Addr) (v2 v3 : Value) (h : DK w p g im nw false ar lf) (hT : WtAt w gw T) (htl : T.length = im.length) (hg : gw ≠ g) (hL : LAt w a1 Wl)
  (hm : ∀ x ∈ Wl, 0 ≤ x ∧ x < im.length) (hwl : Wl.length ≤ 12288) (hw : 0 ≤ nw ∧ nw ≤ 1000000000000) (hl : 0 ≤ lf ∧ lf ≤ 9223372036854775807) (o2 : v2.oneCell' = true) (o3 : v3.oneCell' = true) :
  Calls Tryz.prog 19 #[.pointer (some ⟨p, 0, none⟩), .agg #[.slice (some ⟨gw, 0, none⟩) im.length wc, .slice a1 Wl.length s1, v2, v3]] w fun e w' => ∃ E, e = .returned (.int .i64 E) ∧ WrPost w p g im T Wl nw ar lf E w' := by
 have H := hid h
 have HT := hid hT
 have HL := hid hL
 have HM := hid hm
 have HO := hid (And.intro o2 o3)
 have HW := hid hw
 have HF := hid hl
 have hpg := h.lt
 have hgw := hT.lt
 obtain ⟨n, hn⟩ : ∃ y, y = im.length := ⟨_, rfl⟩
 obtain ⟨k, hk⟩ : ∃ y, y = Wl.length := ⟨_, rfl⟩
 have HN := hid hn
 have HK := hid hk
 rw [← hn] at HM htl ⊢
 rw [← hk] at hwl ⊢
 have HTL := hid htl
 clear h hT hL hm o2 o3 hw hl hn hk htl
 have hb : (#[Value.slice (some ⟨gw, 0, none⟩) n wc, .slice a1 k s1, v2, v3]).all (·.oneCell') = true := rep_one _ _ _ rfl HO.out.1 HO.out.2
 go_enter Tryz.func19, Tryz.ntmps19
 go_upto_region 1 with fail
 have hA := Chg.alloc w (.cells #[Value.slice (some ⟨gw, 0, none⟩) n wc, .slice a1 k s1, v2, v3] 34) No
 have hA2 := heap_alloc_new w (.cells #[Value.slice (some ⟨gw, 0, none⟩) n wc, .slice a1 k s1, v2, v3] 34)
 obtain ⟨w1, hw1⟩ : ∃ y, y = w.alloc (.cells #[Value.slice (some ⟨gw, 0, none⟩) n wc, .slice a1 k s1, v2, v3] 34) := ⟨_, rfl⟩
 rw [← hw1] at hA hA2 ⊢
 have HA := hid hA
 obtain ⟨b, hb⟩ : ∃ y, y = w.heap.size := ⟨_, rfl⟩
 have HB := hid hb
 rw [← hb] at hA2 ⊢
 have HA2 := hid hA2
 clear hw1 hA hA2 hb
 have HQ : Hid (∀ (W' : World) (_hW : Chg w1 W' (fun j => j = p ∨ j = g)), W'.cell? ⟨b, 0, none⟩ = some (.slice (some ⟨gw, 0, none⟩) n wc) ∧ W'.cell? ⟨b, 1, none⟩ = some (.slice a1 k s1)) := hid (fun W' hW => by
  have h0 := hW.keep HA2.out (by rw [HB.out]; omega)
  exact ⟨(cell_of_row _ _ _ _ _ _ h0).trans rfl, (cell_of_row _ _ _ _ _ _ h0).trans rfl⟩)
 have HL1 : Hid (∀ i, i < k → ∃ ga, a1 = some ⟨ga, 0, none⟩ ∧ ∀ (W' : World) (_hW : Chg w1 W' (fun j => j = p ∨ j = g)), W'.cell? ⟨ga, i, none⟩ = some (.int .i64 (Wl.getD i 0))) := hid (fun i hi => by
  rw [HK.out] at hi
  rcases HL.out with e | ⟨ga, e, ⟨A, hA⟩, hc⟩
  ·rw [e] at hi; simp at hi
  ·refine ⟨ga, e, fun W' hW => ?_⟩
   have hl := slt hA
   refine cell_keep (cell_keep (hc i hi) HA.out hl (fun e => e)) hW (Nat.lt_of_lt_of_le hl HA.out.size) ?_
   rintro (e1 | e1)
   ·exact obj_ne hA H.out.d.me (by intro e; cases e) e1
   ·exact obj_ne hA H.out.d.row (by intro e; cases e) e1)
 have HR1 : Hid (∀ (W' : World) (_hW : Chg w1 W' (fun j => j = p ∨ j = g)) (j : Nat) (_hj : j < n), W'.rangeAt gw (j * 128) ((secI T (j : Int)).map (Value.int .u8))) := hid (fun W' hW j hj => ((HT.out.keep HA.out (fun e => e)).keep hW (by
  rintro (e1 | e1)
  ·obtain ⟨_, A, hA, _⟩ := HT.out
   exact obj_ne hA H.out.d.me (by intro e; cases e) e1
  ·exact hg e1)).range (by rw [HTL.out]; exact hj))
 have HTs : Hid (∀ j, IsSec (secI T j)) := hid (fun j => HT.out.sec j)
 have HMl : Hid (∀ i, i < k → ∃ m : Nat, Wl.getD i 0 = (m : Int) ∧ m < n) := hid (fun i hi => by
  have hm : Wl.getD i 0 ∈ Wl := by
   rw [HK.out] at hi
   rw [List.getD_eq_getElem?_getD, List.getElem?_eq_getElem hi]
   exact List.getElem_mem hi
  have := HM.out _ hm
  exact ⟨(Wl.getD i 0).toNat, by omega, by omega⟩)
 have HD1 : Hid (DK w1 p g (wroteI T (Wl.take 0) im) (nw + ((0 : Nat) : Int)) false ar (leftN ar lf 0)) := hid (by
  have := H.out.call HA.out
  have e : leftN ar lf 0 = lf := by unfold leftN; cases ar <;> simp
  rw [e, Int.natCast_zero, Int.add_zero]
  exact this)
 obtain ⟨q0, q1⟩ := HQ.out w1 (Chg.refl _ _)
 go_wp2_with fail
 clear q0 q1
 go_loopw [11] (fun x wq => ∃ i : Nat, x = .int .i64 i ∧ i ≤ k ∧ Hid (DK wq p g (wroteI T (Wl.take i) im) (nw + i) false ar (leftN ar lf i)) ∧ Hid (ar = true → (i : Int) ≤ lf) ∧ Hid (Chg w1 wq (fun j => j = p ∨ j = g))) (fun x _ => k - (intOf x).toNat)
 case atStart => exact ⟨0, rfl, by omega, HD1, hid (fun _ => HF.out.1), hid (Chg.refl _ _)⟩
 case round =>
  clear HD1
  obtain ⟨i, rfl, hi, HDi, HLi, HCi⟩ := hrel
  by_cases hlt : i < k
  ·have hki : (i : Int) < (k : Int) := by omega
   have hk0 : (0 : Int) ≤ (i : Int) := by omega
   obtain ⟨q0, q1⟩ := HQ.out wr HCi.out
   obtain ⟨ga, ha1, hga⟩ := HL1.out i hlt
   subst ha1
   obtain ⟨m, hm, hmn⟩ := HMl.out i hlt
   rw [hm] at hga
   have c1 := hga wr HCi.out
   have m2 : (0 : Int) ≤ (m : Int) := by omega
   have m3 : (m : Int) < (n : Int) := by omega
   obtain ⟨tk, htk⟩ : ∃ y, y = secI T (m : Int) := ⟨_, rfl⟩
   have HR := hid (HR1.out wr HCi.out m hmn)
   rw [← htk] at HR
   have HTS : Hid (IsSec tk) := hid (by rw [htk]; exact HTs.out _)
   have HSA : Hid ((tk.map (Value.int .u8)).toArray = SA tk) := hid rfl
   have HNx : Hid ((wroteI T (Wl.take i) im).set m tk = wroteI T (Wl.take (i + 1)) im) := hid (by
    rw [take_one (by rw [← HK.out]; exact hlt), wroteI_append, hm, htk]
    rfl)
   clear htk hm hga
   have hml : m < (wroteI T (Wl.take i) im).length := by rw [wroteI_len, ← HN.out]; exact hmn
   have HWi : Hid (0 ≤ nw + (i : Int) ∧ nw + (i : Int) < 4611686018427387904) := hid (by have := HW.out; omega)
   have HLf : Hid (0 ≤ leftN ar lf i ∧ leftN ar lf i ≤ 9223372036854775807) := hid (by
    have h1 := HF.out
    have h2 := HLi.out
    unfold leftN
    cases ar
    ·simpa using h1
    ·have := h2 rfl
     simp
     omega)
   by_cases hc : ar = true ∧ leftN ar lf i = 0
   ·obtain ⟨rfl, hz⟩ := hc
    have hD := HDi.out
    rw [hz] at hD
    have hWr := dk_cut hD m tk hml HTS.out HWi.out
    have HLF : Hid (lf = (i : Int)) := hid (by unfold leftN at hz; simp at hz; omega)
    clear hD hz hml
    go_upto_region 5 with (first
     | (refine load_mid 46 _ rfl gw (m * 128) rfl _ _ HR.out Tryz.underlying46 rfl (by rw [sz26, List.length_map]; exact congrArg some HTS.out.1.symm) (by rfl) ?_; rw [HSA.out])
     | (go_at_call 34; go_must (refine hWr.mono ?_; rintro e w3 ⟨rfl, hd3, hc3⟩))
     | fail)
    have HF3 : Hid (WrPost w p g im T Wl nw true lf 22 w3) := hid ⟨.inl ⟨⟨rfl, by rw [HLF.out, ← HK.out]; omega⟩, rfl, by rw [HLF.out, Int.toNat_natCast]; exact hd3⟩, (HA.out.trans HCi.out (c := fun j => j = p ∨ j = g) (fun _ _ e => e.elim) (fun _ _ e => e)).trans hc3 (fun _ _ e => e) (fun _ _ e => e)⟩
    clear hd3 hc3 hWr
    go_wp2_with fail
    go_ret
    exact ⟨22, rfl, HF3.out⟩
   ·have hWr := dk_write HDi.out m tk hml HTS.out HWi.out HLf.out hc
    have HLj : Hid (ar = true → ((i + 1 : Nat) : Int) ≤ lf) := hid (fun e => by
     have h2 := HLi.out e
     have h3 : leftN ar lf i ≠ 0 := fun k => hc ⟨e, k⟩
     unfold leftN at h3
     rw [if_pos e] at h3
     omega)
    clear hml hc
    go_upto_region 5 with (first
     | (refine load_mid 46 _ rfl gw (m * 128) rfl _ _ HR.out Tryz.underlying46 rfl (by rw [sz26, List.length_map]; exact congrArg some HTS.out.1.symm) (by rfl) ?_; rw [HSA.out])
     | (go_at_call 34; go_must (refine hWr.mono ?_; rintro e w3 ⟨rfl, hd3, hc3⟩))
     | fail)
    have HD3 : Hid (DK w3 p g (wroteI T (Wl.take (i + 1)) im) (nw + ((i + 1 : Nat) : Int)) false ar (leftN ar lf (i + 1))) := hid (by
     rw [leftN_step, HNx.out] at hd3
     have e : nw + ((i + 1 : Nat) : Int) = nw + (i : Int) + 1 := by omega
     rw [e]
     exact hd3)
    have HC3 : Hid (Chg w1 w3 (fun j => j = p ∨ j = g)) := hid (HCi.out.trans hc3 (fun _ _ e => e) (fun _ _ e => e))
    clear hd3 hc3 hWr
    go_wp2_with fail
    exact ⟨⟨i + 1, by go_num, by omega, HD3, HLj, HC3⟩, by simp [intOf]; omega⟩
  ·have hki : ¬ (i : Int) < (k : Int) := by omega
   obtain rfl : i = k := by omega
   have HF3 : Hid (WrPost w p g im T Wl nw ar lf 0 wr) := hid ⟨.inr ⟨fun e => by have := HLi.out e.1; rw [← HK.out] at e; omega, rfl, by
    have := HDi.out
    rw [HK.out, List.take_length] at this
    exact this⟩, HA.out.trans HCi.out (fun _ _ e => e.elim) (fun _ _ e => e)⟩
   clear hi
   go_wp2_with fail
   go_ret
   exact ⟨0, rfl, HF3.out⟩
end Go.Proofs.YtboammbcoleicabGreat
