/-
 The statements' pictures: the image of one.
-/
import Derived.Test.YtboammbcoleicabGreatDisk1
import Derived.Test.YtboammbcoleicabGreatHA
import Derived.Test.YtboammbcoleicabGreatJA
import Derived.Test.YtboammbcoleicabGreatLaws
import Derived.LaidEql
import Derived.Stop.Asserts
import Derived.RowKitTokens
import Derived.Test.YtboammbcoleicabGreatJC
import Derived.Test.YtboammbcoleicabGreatWPick
namespace Go.Proofs.YtboammbcoleicabGreat.D
open Go.RowKit
-- may lack

section
variable {ops : Array Oper} {Q : Exit → Act → World → Prop} {S : World → Prop} {fuel : Nat} {listed : Array Bool} {a : Act} {w : World}
theorem stStoreMid (i : Nat) {o : Oper} (hop : ops[i]? = some o) (hd : o.dst = none) (hw : Region.wanted o (yielded ops a.tmps) = true) (x y : Operand) (ho : o.op = .store 46 x y)
  (g off : Nat) (hx : a.eval x = .pointer (some ⟨g, off, none⟩)) (c : List Int) (hy : a.eval y = .agg (SA c)) (hc : c.length = 128) (t : TypeId) (l : List Int) (hg : w.heap[g]? = some (.cells (SA l) t (0, 0))) (hl : off + 128 ≤ l.length)
  (h : ∀ w', WroteB w g t (over l off c) w' → S w' ∧ wpAnyH Tryz.prog .any ops Q S fuel (listed.setIfInBounds i true) a w') : St ops Q S fuel listed a w i := by
 refine wpOp_step hop (fun K hK => ?_);rw [if_pos hw];refine wp_store_mid 46 x y ho g off (SA c) hx hy (fun j hj => ?_) (by rw [sz26, SA_size, hc]) (SA_one c) ?_
 ·rw [SA_size, hc] at hj
  rw [sec_cell hg (off + j) (by omega)]
  exact ⟨rfl, sec_free hg _⟩
 ·have h1 := over_cells c l off w hg
  have h2 := h _ h1
  have e : (SA c).toList = c.map (Value.int .u8) := by simp [SA]
  rw [e];refine hK _ _ ⟨h2.1, ?_⟩;unfold Act.put;rw [hd]
  exact h2.2
end

def readS (d : St8) (n : Nat) (i : Int) : List Int := if refE d n i = 0 then secK d.S i.toNat else Zs
theorem refE_zero {d : St8} {n : Nat} {i : Int} (h : refE d n i = 0) : d.dn = false ∧ 0 ≤ i ∧ i < n := by
 unfold refE at h
 split at h
 ·cases h
 ·split at h
  ·cases h
  ·rename_i h1 h2
   exact ⟨by simpa using h1, by omega, by omega⟩
theorem readS_len {w : World} {p g n : Nat} {d : St8} (h : IsD w p g n d) (i : Int) : (readS d n i).length = 128 := by
 unfold readS
 split
 ·rename_i h1
  have := refE_zero h1
  exact secK_len h.len (by omega)
 ·exact Zs_len
theorem row_sec {w : World} {g n k : Nat} {t : TypeId} {l : List Int} (h : w.heap[g]? = some (.cells (SA l) t (0, 0))) (hl : l.length = 128 * n) (hk : k < n) : w.rangeAt g (k * 128) ((secK l k).map (Value.int .u8)) := by
 have := secK_range (w := w) (b := g) (o := 0) hl hk (fun j hj => by rw [Nat.zero_add]; exact sec_cell h j hj);rw [Nat.zero_add] at this
 exact this

set_option maxRecDepth 100000 in
set_option maxHeartbeats 1000000 in
theorem read_any {p g n : Nat} {d : St8} (i : Int) (w : World) (h : IsD w p g n d) : Calls Tryz.prog 25 #[.pointer (some ⟨p, 0, none⟩), .int .i64 i] w fun e w' => e = .returned (.tuple #[.agg (SA (readS d n i)), .int .i64 (refE d n i)]) ∧ Below w.heap.size w w' := by
 have hz := zero_sec;have hbz := build_sec;have hb0 : Below w.heap.size w (w.alloc (.cells (SA Zs) 46)) := Below.refl_call w _;have h1 := h.call hb0;have hr := refusal_any i _ h1;have hn0 : (w.alloc (.cells (SA Zs) 46)).heap[w.heap.size]? = some (.cells (SA Zs) 46 (0, 0)) := heap_alloc_new _ _
 by_cases he : refE d n i = 0
 ·have hi := refE_zero he
  have HS : Hid (readS d n i = secK d.S i.toNat) := by show _ = _; simp [readS, he]
  have hlen : (secK d.S i.toNat).length = 128 := secK_len h.len (by omega);have HR := hid (row_sec h1.row h.len (show i.toNat < n by omega));have HN := hid hn0;rw [he] at hr;have HE := hid he;have h0 := h1.c0;obtain ⟨_, hi0, hi1⟩ := hi;clear he hn0
  generalize secK d.S i.toNat = c at *
  go_enter Tryz.func25, Tryz.ntmps25
  go_wp2_with (first | (go_at_call 44; refine hr.mono ?_; rintro e w1 ⟨rfl, rfl⟩) | (refine wpList_load_mid rfl 46 _ rfl g (i.toNat * 128) rfl (c.map (Value.int .u8)) _ HR.out Tryz.underlying46 rfl (by rw [sz26, List.length_map, hlen]) ?_) | (refine store_sec rfl _ _ rfl w.heap.size rfl c rfl hlen Zs Zs_len HN.out ?_; intro w2 hw2))
  refine bodyPost_ret (v := .tuple #[.agg (SA c), .int .i64 0]) (results_sec Tryz.results25 _ _ w.heap.size c hlen _ rfl rfl hw2.here) rfl ⟨?_, hw2.below hb0 (Nat.le_refl _)⟩;rw [HS.out, HE.out]
 ·have HS : Hid (readS d n i = Zs) := by show _ = _; simp [readS, he]
  have HN := hid hn0;clear hn0
  generalize refE d n i = E at *
  go_enter Tryz.func25, Tryz.ntmps25
  go_wp2_with (first | (go_at_call 44; refine hr.mono ?_; rintro e w1 ⟨rfl, rfl⟩) | (refine store_sec rfl _ _ rfl w.heap.size rfl Zs rfl Zs_len Zs Zs_len HN.out ?_; intro w2 hw2))
  refine bodyPost_ret (v := .tuple #[.agg (SA Zs), .int .i64 E]) (results_sec Tryz.results25 _ _ w.heap.size Zs Zs_len _ rfl rfl hw2.here) rfl ⟨?_, hw2.below hb0 (Nat.le_refl _)⟩;rw [HS.out]

def writeE (d : St8) (n : Nat) (i : Int) : Int := if refE d n i = 0 then (if d.ar = true ∧ d.lf = 0 then 22 else 0) else refE d n i
def writeD (d : St8) (n : Nat) (i : Int) (s : List Int) : St8 :=
 if refE d n i = 0 then (if d.ar = true ∧ d.lf = 0 then ⟨d.S, d.wr, true, d.ar, d.lf⟩ else ⟨over d.S (i.toNat * 128) s, d.wr + 1, d.dn, d.ar, if d.ar = true then d.lf - 1 else d.lf⟩) else d

theorem over_len : ∀ (r l : List Int) (o : Nat), (over l o r).length = l.length
 | [], _, _ => rfl
 | x :: r, l, o => by rw [over, over_len r, List.length_set]

set_option maxRecDepth 100000 in
set_option maxHeartbeats 1000000 in
theorem write_no {p g n : Nat} {d : St8} (i : Int) (s : List Int) (w : World) (h : IsD w p g n d) (he : refE d n i ≠ 0) : Calls Tryz.prog 34 #[.pointer (some ⟨p, 0, none⟩), .int .i64 i, .agg (SA s)] w fun e w' => e = .returned (.int .i64 (refE d n i)) ∧ IsD w' p g n d ∧ Below w.heap.size w w' := by
 have hb0 : Below w.heap.size w (w.alloc (.cells (SA s) 46)) := Below.refl_call w _;have h1 := h.call hb0;have hr := refusal_any i _ h1
 generalize refE d n i = E at *
 go_enter Tryz.func34, Tryz.ntmps34
 go_wp2_with (go_at_call 44; refine hr.mono ?_; rintro e w1 ⟨rfl, rfl⟩)
 go_ret
 exact ⟨rfl, h1, hb0⟩

set_option maxRecDepth 100000 in
set_option maxHeartbeats 1000000 in
theorem write_off {p g n : Nat} {d : St8} (i : Int) (s : List Int) (w : World) (h : IsD w p g n d) (he : refE d n i = 0) (ha : d.ar = true) (hl : d.lf = 0) : Calls Tryz.prog 34 #[.pointer (some ⟨p, 0, none⟩), .int .i64 i, .agg (SA s)] w fun e w' => e = .returned (.int .i64 22) ∧ IsD w' p g n ⟨d.S, d.wr, true, d.ar, d.lf⟩ ∧ Mod w w' [p] := by
 have hb0 : Below w.heap.size w (w.alloc (.cells (SA s) 46)) := Below.refl_call w _;have h1 := h.call hb0;have hr := refusal_any i _ h1;rw [he] at hr;have h2 := h1.c2;have h3 := h1.c3;have h4 := h1.c4;have f2 := h1.fz 2;rw [ha] at h3;rw [hl] at h4;clear he ha hl
 go_enter Tryz.func34, Tryz.ntmps34
 go_wp2_with (go_at_call 44; refine hr.mono ?_; rintro e w1 ⟨rfl, rfl⟩)
 go_ret
 exact ⟨rfl, h1.put 2 _ rfl rfl, ((Mod.of_below hb0).trans Mod.set).mono (by simp)⟩

set_option maxRecDepth 100000 in
set_option maxHeartbeats 1000000 in
theorem write_free {p g n : Nat} {d : St8} (i : Int) (s : List Int) (w : World) (h : IsD w p g n d) (he : refE d n i = 0) (ha : d.ar = false) (hs : s.length = 128) (hw0 : 0 ≤ d.wr) (hw1 : d.wr < 4611686018427387904) : Calls Tryz.prog 34 #[.pointer (some ⟨p, 0, none⟩), .int .i64 i, .agg (SA s)] w fun e w' => e = .returned (.int .i64 0) ∧ IsD w' p g n ⟨over d.S (i.toNat * 128) s, d.wr + 1, d.dn, d.ar, d.lf⟩ ∧ Mod w w' [p, g] := by
 have hb0 : Below w.heap.size w (w.alloc (.cells (SA s) 46)) := Below.refl_call w _;have h1 := h.call hb0;have hr := refusal_any i _ h1;have hB1 : (w.alloc (.cells (SA s) 46)).heap[w.heap.size]? = some (.cells (SA s) 46 (0, 0)) := heap_alloc_new _ _;have HGL : Hid (w.heap.size ≠ g) := Nat.ne_of_gt (slt h.row);have HPL : Hid (w.heap.size ≠ p) := Nat.ne_of_gt (slt h.me);obtain ⟨_, hi0, hi1⟩ := refE_zero he;rw [he] at hr;have h0 := h1.c0;have h3 := h1.c3;rw [ha] at h3;have hne := h.ne
 have HOF : Hid (i.toNat * 128 + 128 ≤ d.S.length) := by show _ ≤ _; rw [h.len]; omega
 have HROW := hid h1.row;have HME := hid h1.me;have HB1 := hid hB1;have HC0 := hid h0;clear he ha hB1
 go_enter Tryz.func34, Tryz.ntmps34
 go_wp2_with (go_at_call 44; refine hr.mono ?_; rintro e w1 ⟨rfl, rfl⟩)
 refine wp_region_noPanic ?_;refine wp_region_held_drew (S := fun w' => w'.cell? ⟨p, 0, none⟩ = some (.slice (some ⟨g, 0, none⟩) n n) ∧ w'.heap[w.heap.size]? = some (.cells (SA s) 46 (0, 0))) (by kernel_rfl) ⟨HC0.out, HB1.out⟩ (fun hH => ?_);refine tV 0 39 (.pointer (some ⟨p, 0, none⟩)) rfl (by kernel_rfl) rfl (by rfl) hH (fun _ hw' => rfl) ?_;simp only [sS];refine tV 1 40 (.pointer (some ⟨p, 0, none⟩)) rfl (by kernel_rfl) rfl (by rfl) hH (fun _ hw' => by go_simp) ?_;simp only [sS];refine tV 2 41 (.pointer (some ⟨p, 0, none⟩)) rfl (by kernel_rfl) rfl (by rfl) hH (fun _ hw' => by go_simp) ?_;simp only [sS];refine tV 3 42 (.slice (some ⟨g, 0, none⟩) n n) rfl (by kernel_rfl) rfl (by rfl) hH (fun _ hw' => by have hq := hw'.1; go_simp) ?_;simp only [sS];refine tV 4 43 (.int .i64 i) rfl (by kernel_rfl) rfl (by rfl) hH (fun _ hw' => rfl) ?_;simp only [sS];refine takeSec 5 44 (.tmp 5) w.heap.size s hs rfl (by kernel_rfl) (by kernel_rfl) (by kernel_rfl) rfl rfl rfl (by rfl) (fun _ _ _ h => h) hH (fun _ h => h.2) ?_;simp only [sS];refine tV 6 45 (.pointer (some ⟨g, i.toNat * 128, none⟩)) rfl (by kernel_rfl) rfl (by rfl) hH (fun _ hw' => by go_simp) ?_;simp only [sS];refine step1 7 (by kernel_rfl) ?_;refine stStoreMid 7 rfl rfl (by rfl) _ _ rfl g (i.toNat * 128) rfl s rfl hs 46 d.S HROW.out HOF.out ?_
 intro w2 hw2
 have hp2 : w2.heap[p]? = _ := (hw2.other p hne).trans HME.out;refine ⟨⟨by rw [cell_of_row _ _ _ _ _ _ hp2]; rfl, (hw2.other w.heap.size HGL.out).trans HB1.out⟩, ?_⟩;refine wpAnyH_done (by kernel_rfl) ?_ _;refine NoPanic.normal ?_;have h2 : IsD w2 p g n ⟨over d.S (i.toNat * 128) s, d.wr, d.dn, d.ar, d.lf⟩ := ⟨hp2, hw2.here, by rw [over_len]; exact h.len, h.pos, h.top⟩;have h21 := h2.c1;have h2f := h2.fz 1;have HM := hid ((Mod.of_below hb0).drew.trans (Mod.wrote hw2));have H2 := hid h2;clear hw2 hp2 h2 hH
 simp only at h21
 go_wp2
 go_ret
 exact ⟨rfl, H2.out.put 1 _ rfl rfl, (HM.out.trans Mod.set).mono (by simp)⟩

set_option maxRecDepth 100000 in
set_option maxHeartbeats 1000000 in
theorem write_left {p g n : Nat} {d : St8} (i : Int) (s : List Int) (w : World) (h : IsD w p g n d) (he : refE d n i = 0) (ha : d.ar = true) (hl0 : 0 < d.lf) (hl1 : d.lf ≤ 9223372036854775807) (hs : s.length = 128) (hw0 : 0 ≤ d.wr) (hw1 : d.wr < 4611686018427387904) : Calls Tryz.prog 34 #[.pointer (some ⟨p, 0, none⟩), .int .i64 i, .agg (SA s)] w fun e w' => e = .returned (.int .i64 0) ∧ IsD w' p g n ⟨over d.S (i.toNat * 128) s, d.wr + 1, d.dn, d.ar, d.lf - 1⟩ ∧ Mod w w' [p, g] := by
 have hb0 : Below w.heap.size w (w.alloc (.cells (SA s) 46)) := Below.refl_call w _;have h1 := h.call hb0;have hr := refusal_any i _ h1;have hB1 : (w.alloc (.cells (SA s) 46)).heap[w.heap.size]? = some (.cells (SA s) 46 (0, 0)) := heap_alloc_new _ _;have HGL : Hid (w.heap.size ≠ g) := Nat.ne_of_gt (slt h.row);have HPL : Hid (w.heap.size ≠ p) := Nat.ne_of_gt (slt h.me);obtain ⟨_, hi0, hi1⟩ := refE_zero he;rw [he] at hr;have h0 := h1.c0;have h3 := h1.c3;rw [ha] at h3;have hne := h.ne
 have HOF : Hid (i.toNat * 128 + 128 ≤ d.S.length) := by show _ ≤ _; rw [h.len]; omega
 have h4 := h1.c4;have f4 := h1.fz 4;have a1 : IsD ((w.alloc (.cells (SA s) 46)).setCell ⟨p, 4, none⟩ (.int .i64 (d.lf - 1))) p g n ⟨d.S, d.wr, d.dn, d.ar, d.lf - 1⟩ := h1.put 4 _ rfl rfl;have HROW := hid a1.row;have HME := hid a1.me
 have HB1 : Hid (((w.alloc (.cells (SA s) 46)).setCell ⟨p, 4, none⟩ (.int .i64 (d.lf - 1))).heap[w.heap.size]? = some (.cells (SA s) 46 (0, 0))) := by
  show _ = _
  rw [heap_setCell_other _ ⟨p, 4, none⟩ w.heap.size _ HPL.out]
  exact hB1
 have HC0 := hid a1.c0;have HM0 := hid ((Mod.of_below hb0).trans (Mod.set (g := p) (j := 4) (v := .int .i64 (d.lf - 1))));clear he ha hB1 a1
 go_enter Tryz.func34, Tryz.ntmps34
 go_wp2_with (go_at_call 44; refine hr.mono ?_; rintro e w1 ⟨rfl, rfl⟩)
 refine wp_region_noPanic ?_;refine wp_region_held_drew (S := fun w' => w'.cell? ⟨p, 0, none⟩ = some (.slice (some ⟨g, 0, none⟩) n n) ∧ w'.heap[w.heap.size]? = some (.cells (SA s) 46 (0, 0))) (by kernel_rfl) ⟨HC0.out, HB1.out⟩ (fun hH => ?_);refine tV 0 39 (.pointer (some ⟨p, 0, none⟩)) rfl (by kernel_rfl) rfl (by rfl) hH (fun _ hw' => rfl) ?_;simp only [sS];refine tV 1 40 (.pointer (some ⟨p, 0, none⟩)) rfl (by kernel_rfl) rfl (by rfl) hH (fun _ hw' => by go_simp) ?_;simp only [sS];refine tV 2 41 (.pointer (some ⟨p, 0, none⟩)) rfl (by kernel_rfl) rfl (by rfl) hH (fun _ hw' => by go_simp) ?_;simp only [sS];refine tV 3 42 (.slice (some ⟨g, 0, none⟩) n n) rfl (by kernel_rfl) rfl (by rfl) hH (fun _ hw' => by have hq := hw'.1; go_simp) ?_;simp only [sS];refine tV 4 43 (.int .i64 i) rfl (by kernel_rfl) rfl (by rfl) hH (fun _ hw' => rfl) ?_;simp only [sS];refine takeSec 5 44 (.tmp 5) w.heap.size s hs rfl (by kernel_rfl) (by kernel_rfl) (by kernel_rfl) rfl rfl rfl (by rfl) (fun _ _ _ h => h) hH (fun _ h => h.2) ?_;simp only [sS];refine tV 6 45 (.pointer (some ⟨g, i.toNat * 128, none⟩)) rfl (by kernel_rfl) rfl (by rfl) hH (fun _ hw' => by go_simp) ?_;simp only [sS];refine step1 7 (by kernel_rfl) ?_;refine stStoreMid 7 rfl rfl (by rfl) _ _ rfl g (i.toNat * 128) rfl s rfl hs 46 d.S HROW.out HOF.out ?_
 intro w2 hw2
 have hp2 : w2.heap[p]? = _ := (hw2.other p hne).trans HME.out;refine ⟨⟨by rw [cell_of_row _ _ _ _ _ _ hp2]; rfl, (hw2.other w.heap.size HGL.out).trans HB1.out⟩, ?_⟩;refine wpAnyH_done (by kernel_rfl) ?_ _;refine NoPanic.normal ?_;have h2 : IsD w2 p g n ⟨over d.S (i.toNat * 128) s, d.wr, d.dn, d.ar, d.lf - 1⟩ := ⟨hp2, hw2.here, by rw [over_len]; exact h.len, h.pos, h.top⟩;have h21 := h2.c1;have h2f := h2.fz 1;have HM := hid (HM0.out.drew.trans (Mod.wrote hw2));have H2 := hid h2;clear hw2 hp2 h2 hH
 simp only at h21
 go_wp2
 go_ret
 exact ⟨rfl, H2.out.put 1 _ rfl rfl, (HM.out.trans Mod.set).mono (by simp)⟩

theorem write_any {p g n : Nat} {d : St8} (i : Int) (s : List Int) (w : World) (h : IsD w p g n d) (hs : s.length = 128) (hw0 : 0 ≤ d.wr) (hw1 : d.wr < 4611686018427387904) (hl : 0 ≤ d.lf ∧ d.lf ≤ 9223372036854775807) :
  Calls Tryz.prog 34 #[.pointer (some ⟨p, 0, none⟩), .int .i64 i, .agg (SA s)] w fun e w' => e = .returned (.int .i64 (writeE d n i)) ∧ IsD w' p g n (writeD d n i s) ∧ Mod w w' [p, g] := by
 unfold writeE writeD
 by_cases he : refE d n i = 0
 ·rw [if_pos he, if_pos he]
  cases ha : d.ar
  ·rw [if_neg (by simp), if_neg (by simp), if_neg (by simp)]
   have := write_free i s w h he ha hs hw0 hw1;rw [ha] at this
   exact this
  ·by_cases hz : d.lf = 0
   ·rw [if_pos ⟨rfl, hz⟩, if_pos ⟨rfl, hz⟩]
    have := write_off i s w h he ha hz;rw [ha] at this
    exact this.mono fun e w' k => ⟨k.1, k.2.1, k.2.2.mono (by simp)⟩
   ·rw [if_neg (by simp [hz]), if_neg (by simp [hz]), if_pos rfl]
    have := write_left i s w h he ha (by omega) hl.2 hs hw0 hw1;rw [ha] at this
    exact this
 ·rw [if_neg he, if_neg he]
  exact (write_no i s w h he).mono fun e w' k => ⟨k.1, k.2.1, (Mod.of_below k.2.2).mono (by simp)⟩

end Go.Proofs.YtboammbcoleicabGreat.D

namespace Go.Proofs.YtboammbcoleicabGreat.D
open Go.RowKit
-- may lack

set_option maxHeartbeats 400000 in
theorem from_ok (m cap : Nat) (ad : Addr) (fl : List Int) (w : World) (h0 : 1 ≤ m) (h1 : m ≤ 4096) (hl : Hid (fl.length = 128 * m)) (HZ : Hid (BytesAt w (some ad) fl)) :
  Calls Tryz.prog 6 #[.slice (some ad) m cap] w fun e w' => ∃ p g, e = .returned (.tuple #[.pointer (some ⟨p, 0, none⟩), .int .i64 0]) ∧ w.heap.size ≤ p ∧ w.heap.size ≤ g ∧ IsD w' p g m (D0 fl) ∧ Below w.heap.size w w' := by
 have hm := fun w => maySize_any m w
 rw [mayB_true (by omega)] at hm;have HLa := laid_any m cap ad fl w (by omega) hl HZ
 have hbd := fun g w => build_disk (.slice (some ⟨g, 0, none⟩) m m) _ _ _ rfl w
 go_enter Tryz.func6, Tryz.ntmps6
 go_wp2_with (first | (go_at_call 14; refine (hm _).mono ?_; rintro e w1 ⟨rfl, rfl⟩) | (go_at_call 15; refine HLa.mono ?_; rintro e w2 ⟨q, rfl, k1, k2, k3⟩))
 go_ret2
 refine ⟨w2.heap.size, q, rfl, k3.size, k1, ⟨heap_alloc_new _ _, ?_, hl.out, h0, h1⟩, k3.alloc k3.size _⟩;rw [Below.heap_alloc _ _ _ (slt k2)]
 exact k2

end Go.Proofs.YtboammbcoleicabGreat.D

namespace Go.Proofs.YtboammbcoleicabGreat
open Go.RowKit Go.Shelf

structure DK (w : World) (p g : Nat) (im : Img) (wr : Int) (dn ar : Bool) (lf : Int) : Prop where
 d : D.IsD w p g im.length ⟨im.flatten, wr, dn, ar, lf⟩
 s : ∀ s ∈ im, IsSec s
theorem mod_chg {w w' : World} {ks : List Nat} (h : D.Mod w w' ks) : Chg w w' (fun k => k ∈ ks) := ⟨h.os, h.tape, h.output, h.size, h.block⟩
theorem DK.keep {w w' : World} {p g : Nat} {im : Img} {wr : Int} {dn ar : Bool} {lf : Int} {ks : Nat → Prop} (h : DK w p g im wr dn ar lf) (hc : Chg w w' ks) (hp : ¬ ks p) (hg : ¬ ks g) : DK w' p g im wr dn ar lf :=
 ⟨⟨hc.keep h.d.me hp, hc.keep h.d.row hg, h.d.len, h.d.pos, h.d.top⟩, h.s⟩
theorem DK.call {w w' : World} {p g : Nat} {im : Img} {wr : Int} {dn ar : Bool} {lf : Int} (h : DK w p g im wr dn ar lf) (hc : Chg w w' No) : DK w' p g im wr dn ar lf := h.keep hc (fun e => e) (fun e => e)
theorem DK.lt {w : World} {p g : Nat} {im : Img} {wr : Int} {dn ar : Bool} {lf : Int} (h : DK w p g im wr dn ar lf) : p < w.heap.size ∧ g < w.heap.size := ⟨slt h.d.me, slt h.d.row⟩
theorem DK.l128 {w : World} {p g : Nat} {im : Img} {wr : Int} {dn ar : Bool} {lf : Int} (h : DK w p g im wr dn ar lf) : ∀ s ∈ im, s.length = 128 := fun s hs => (h.s s hs).1
theorem wt_flat {w : World} {q : Nat} {im : Img} (hs : ∀ s ∈ im, IsSec s) (h : w.heap[q]? = some (.cells (SA im.flatten) 46 (0, 0))) : WtAt w q im := by
 have hl : ∀ s ∈ im, s.length = 128 := fun s hx => (hs s hx).1
 refine ⟨hs, _, h, fun j s hj i x hx => ?_⟩;have hi := (List.getElem?_eq_some_iff.1 hx).1;rw [hl s (List.mem_of_getElem? hj)] at hi;have e1 := flat_get im hl j s hj i hi;rw [hx] at e1
 show ((im.flatten.map (Value.int .u8)).toArray)[j * 128 + i]? = _
 rw [List.getElem?_toArray, List.getElem?_map, e1]
 rfl
theorem flat_bytes {w : World} {b o : Nat} {im : Img} (h : ImgAt w (some ⟨b, o, none⟩) im) (hn : 1 ≤ im.length) : D.BytesAt w (some ⟨b, o, none⟩) im.flatten := by
 have hb : b < w.heap.size := by
  rcases h.2 with e | ⟨b', o', e, hb, _⟩
  ·rw [e] at hn; simp at hn
  ·cases e; exact hb
 refine .inr ⟨b, o, rfl, hb, fun j hj => ?_⟩;have := img_src h hn j (.int .u8 (im.flatten.getD j 0)) (by rw [List.getElem?_map, List.getD_eq_getElem?_getD, List.getElem?_eq_getElem hj]; rfl);rw [addr_add] at this
 exact this
theorem flat_set : ∀ (im : Img), (∀ s ∈ im, s.length = 128) → ∀ (k : Nat) (s : List Int), k < im.length → s.length = 128 → D.over im.flatten (k * 128) s = (im.set k s).flatten := by
 intro im hh k s hk hs
 have hfl := flat_len im hh;rw [D.over_eq _ _ _ (by omega)]
 have e : im = im.take k ++ secI im (k : Int) :: im.drop (k + 1) := by
  have h1 := (List.take_append_drop k im).symm
  have h2 : im.drop k = secI im (k : Int) :: im.drop (k + 1) := by
   rw [List.drop_eq_getElem_cons hk];unfold secI;rw [Int.toNat_natCast, List.getD_eq_getElem?_getD, List.getElem?_eq_getElem hk]
   rfl
  rw [h2] at h1
  exact h1
 have ht : (im.take k).flatten.length = k * 128 := by
  rw [flat_len _ (fun x hx => hh x (List.mem_of_mem_take hx)), List.length_take]
  omega
 have hsl : (secI im (k : Int)).length = 128 := by
  unfold secI;rw [Int.toNat_natCast, List.getD_eq_getElem?_getD, List.getElem?_eq_getElem hk]
  exact hh _ (List.getElem_mem hk)
 have hset : im.set k s = im.take k ++ s :: im.drop (k + 1) := List.set_eq_take_append_cons_drop ▸ by rw [if_pos hk]
 have hf : im.flatten = (im.take k).flatten ++ (secI im (k : Int) ++ (im.drop (k + 1)).flatten) := by
  conv => lhs; rw [e]
  rw [List.flatten_append, List.flatten_cons]
 rw [hset, List.flatten_append, List.flatten_cons, hf];rw [List.take_append_of_le_length (by omega), List.take_of_length_le (by omega), List.drop_append, List.drop_of_length_le (by omega), List.nil_append, ht, hs, show k * 128 + 128 - k * 128 = 128 by omega, List.drop_append, List.drop_of_length_le (by omega), List.nil_append, hsl, Nat.sub_self, List.drop_zero, List.append_assoc]
theorem dk_image {w : World} {p g : Nat} {im : Img} {wr : Int} {dn ar : Bool} {lf : Int} (h : DK w p g im wr dn ar lf) : Calls Tryz.prog 12 #[.pointer (some ⟨p, 0, none⟩)] w fun e w' => ∃ q, e = .returned (.slice (some ⟨q, 0, none⟩) im.length im.length) ∧ w.heap.size ≤ q ∧ WtAt w' q im ∧ Chg w w' No := by
 refine (D.image_any w h.d).mono ?_
 rintro e w' ⟨q, rfl, hq, hr, hb⟩
 exact ⟨q, rfl, hq, wt_flat h.s hr, Chg.of_below hb _⟩
theorem dk_from {w : World} {b o ic : Nat} {im : Img} (h : ImgAt w (some ⟨b, o, none⟩) im) (h1 : 1 ≤ im.length) (h2 : im.length ≤ 4096) : Calls Tryz.prog 6 #[.slice (some ⟨b, o, none⟩) im.length ic] w fun e w' => ∃ p g, e = .returned (.tuple #[.pointer (some ⟨p, 0, none⟩), .int .i64 0]) ∧ w.heap.size ≤ p ∧ w.heap.size ≤ g ∧ DK w' p g im 0 false false 0 ∧ Chg w w' No := by
 refine (D.from_ok im.length ic ⟨b, o, none⟩ im.flatten w h1 h2 (hid (by rw [flat_len im (fun s hs => (h.1 s hs).1)]; omega)) (hid (flat_bytes h h1))).mono ?_
 rintro e w' ⟨p, g, rfl, hp, hg, hd, hb⟩
 exact ⟨p, g, rfl, hp, hg, ⟨hd, h.1⟩, Chg.of_below hb _⟩
end Go.Proofs.YtboammbcoleicabGreat

namespace Go.Proofs.YtboammbcoleicabGreat
open Go.RowKit Go.Extern.Stop Go.Stop Go.Extern

theorem errTypeOf (v : Value) (w : World) : (Extern.ReflectliteType.typeOf #[.iface 28 v]).run Tryz.prog w = .ok (.iface 128 (.agg #[.pointer (some ⟨1, 28, none⟩)])) w := by kernel_rfl
def cmpF : Array Value → Sem Value := Extern.ReflectliteType.method fun t => do Go.Extern.Rtype.noPackHeld "Comparable" t; pure (.bool (← typeInfo t).comparable)
theorem errComparable (w : World) : (cmpF #[.agg #[.pointer (some ⟨1, 28, none⟩)]]).run Tryz.prog w = .ok (.bool true) w := by kernel_rfl
theorem errMethod (v : Value) (w : World) : (Go.method 340 128 v "Comparable").run Tryz.prog w = .ok (169, v) w := by kernel_rfl
theorem errInfo : (Tryz.prog.info? 28).map (·.comparable) = some true := by kernel_rfl
theorem equal_errno (d : Nat) (a b : Int) (w : World) : (Op.equalIn (d + 2) 106 (.iface 28 (.int .i64 a)) (.iface 28 (.int .i64 b))).run Tryz.prog w = .ok (a == b) w := by
 obtain ⟨i, hi, hc⟩ := Option.map_eq_some_iff.1 errInfo
 simp [Op.equalIn, run_underlying Tryz.underlying106, run_underlying Tryz.underlying28, typeInfo, hi, hc]
theorem eql_errno (a b : Int) (w : World) : (binOp .eql 106 (.iface 28 (.int .i64 a)) (.iface 28 (.int .i64 b))).run Tryz.prog w = .ok (.bool (a == b)) w := by
 simp only [binOp]
 simp [Op.equal, Op.maxDepth, equal_errno 9998 a b]
theorem noIs (v : Value) (xT : TypeId) (w : World) : (Instr.typeAssert (.iface 28 v) xT 130 true).run Tryz.prog w = .ok (.tuple #[.nilIface, .bool false]) w := run_typeAssert_lacksB Tryz.underlying130 (by kernel_rfl) (by kernel_rfl) v xT w
theorem noUn (v : Value) (xT : TypeId) (w : World) : (Instr.typeAssert (.iface 28 v) xT 133 true).run Tryz.prog w = .ok (.tuple #[.nilIface, .bool false]) w := run_typeAssert_lacksB Tryz.underlying133 (by kernel_rfl) (by kernel_rfl) v xT w
theorem noUns (v : Value) (xT : TypeId) (w : World) : (Instr.typeAssert (.iface 28 v) xT 135 true).run Tryz.prog w = .ok (.tuple #[.nilIface, .bool false]) w := run_typeAssert_lacksB Tryz.underlying135 (by kernel_rfl) (by kernel_rfl) v xT w

set_option maxHeartbeats 1000000 in
theorem is_same (a : Int) (w : World) : Calls Tryz.prog 26 #[.iface 28 (.int .i64 a), .iface 28 (.int .i64 a)] w fun e w' => e = .returned (.bool true) ∧ w' = w := by
 have h8 := @run_callFunc_extern Tryz.prog 45 _ Extern.ReflectliteType.typeOf Tryz.func45 (by kernel_rfl) (by kernel_rfl) (by kernel_rfl) (by kernel_rfl);have h32 := @run_callFunc_extern Tryz.prog 169 _ cmpF Tryz.func169 (by kernel_rfl) (by kernel_rfl) (by kernel_rfl) (by kernel_rfl);have tT := errTypeOf;have cT := errComparable;have mR := errMethod
 have heq : ∀ w, (binOp .eql 106 (.iface 28 (.int .i64 a)) (.iface 28 (.int .i64 a))).run Tryz.prog w = .ok (.bool true) w := fun w => by rw [eql_errno]; simp
 go_enter Tryz.func26, Tryz.ntmps26
 go_wp2
 refine wp_loop_rounds 1 ?_;rw [rounds_succ]
 go_wp2
 go_ret
 exact ⟨rfl, rfl⟩

set_option maxHeartbeats 1000000 in
theorem is_other (a b : Int) (hab : a ≠ b) (w : World) : Calls Tryz.prog 26 #[.iface 28 (.int .i64 a), .iface 28 (.int .i64 b)] w fun e w' => e = .returned (.bool false) ∧ w' = w := by
 have h8 := @run_callFunc_extern Tryz.prog 45 _ Extern.ReflectliteType.typeOf Tryz.func45 (by kernel_rfl) (by kernel_rfl) (by kernel_rfl) (by kernel_rfl);have h32 := @run_callFunc_extern Tryz.prog 169 _ cmpF Tryz.func169 (by kernel_rfl) (by kernel_rfl) (by kernel_rfl) (by kernel_rfl);have tT := errTypeOf;have cT := errComparable;have mR := errMethod;have nE := noIs;have uE := noUn;have vE := noUns
 have heq : ∀ w, (binOp .eql 106 (.iface 28 (.int .i64 a)) (.iface 28 (.int .i64 b))).run Tryz.prog w = .ok (.bool false) w := fun w => by rw [eql_errno, beq_false_of_ne hab]
 clear hab
 go_enter Tryz.func26, Tryz.ntmps26
 go_wp2
 refine wp_loop_rounds 1 ?_;rw [rounds_succ]
 go_wp2
 go_ret
 exact ⟨rfl, rfl⟩
end Go.Proofs.YtboammbcoleicabGreat

namespace Go.Proofs.YtboammbcoleicabGreat
open Go.RowKit Go.Shelf

theorem mod_pg {w w' : World} {p g : Nat} (h : D.Mod w w' [p, g]) : Chg w w' (fun k => k = p ∨ k = g) := (mod_chg h).mono fun k _ e => by simpa using e
theorem dk_write {w : World} {p g : Nat} {im : Img} {wr : Int} {ar : Bool} {lf : Int} (h : DK w p g im wr false ar lf) (m : Nat) (s : List Int) (hm : m < im.length) (hs : IsSec s) (hw : 0 ≤ wr ∧ wr < 4611686018427387904) (hl : 0 ≤ lf ∧ lf ≤ 9223372036854775807) (ha : ¬ (ar = true ∧ lf = 0)) :
  Calls Tryz.prog 34 #[.pointer (some ⟨p, 0, none⟩), .int .i64 (m : Int), .agg (SA s)] w fun e w' => e = .returned (.int .i64 0) ∧ DK w' p g (im.set m s) (wr + 1) false ar (if ar = true then lf - 1 else lf) ∧ Chg w w' (fun k => k = p ∨ k = g) := by
 refine (D.write_any (m : Int) s w h.d hs.1 hw.1 hw.2 hl).mono ?_
 rintro e w' ⟨rfl, hd, hc⟩
 have he : D.refE ⟨im.flatten, wr, false, ar, lf⟩ im.length (m : Int) = 0 := by
  unfold D.refE;rw [if_neg (by simp), if_neg (by omega)]
 have e1 : D.writeE ⟨im.flatten, wr, false, ar, lf⟩ im.length (m : Int) = 0 := by
  unfold D.writeE;rw [if_pos he, if_neg ha]
 have e2 : D.writeD ⟨im.flatten, wr, false, ar, lf⟩ im.length (m : Int) s = ⟨(im.set m s).flatten, wr + 1, false, ar, if ar = true then lf - 1 else lf⟩ := by
  unfold D.writeD;rw [if_pos he, if_neg ha, Int.toNat_natCast, flat_set im h.l128 m s hm hs.1]
 rw [e2] at hd;refine ⟨by rw [e1], ⟨?_, fun x hx => ?_⟩, mod_pg hc⟩
 ·rw [List.length_set]
  exact hd
 ·rcases List.mem_or_eq_of_mem_set hx with k | k
  ·exact h.s x k
  ·rw [k]; exact hs
theorem dk_cut {w : World} {p g : Nat} {im : Img} {wr : Int} (h : DK w p g im wr false true 0) (m : Nat) (s : List Int) (hm : m < im.length) (hs : IsSec s) (hw : 0 ≤ wr ∧ wr < 4611686018427387904) :
  Calls Tryz.prog 34 #[.pointer (some ⟨p, 0, none⟩), .int .i64 (m : Int), .agg (SA s)] w fun e w' => e = .returned (.int .i64 22) ∧ DK w' p g im wr true true 0 ∧ Chg w w' (fun k => k = p ∨ k = g) := by
 refine (D.write_any (m : Int) s w h.d hs.1 hw.1 hw.2 ⟨by show (0 : Int) ≤ 0; omega, by show (0 : Int) ≤ 9223372036854775807; omega⟩).mono ?_
 rintro e w' ⟨rfl, hd, hc⟩
 have he : D.refE ⟨im.flatten, wr, false, true, 0⟩ im.length (m : Int) = 0 := by
  unfold D.refE;rw [if_neg (by simp), if_neg (by omega)]
 have e1 : D.writeE ⟨im.flatten, wr, false, true, 0⟩ im.length (m : Int) = 22 := by
  unfold D.writeE;rw [if_pos he, if_pos ⟨rfl, rfl⟩]
 have e2 : D.writeD ⟨im.flatten, wr, false, true, 0⟩ im.length (m : Int) s = ⟨im.flatten, wr, true, true, 0⟩ := by
  unfold D.writeD;rw [if_pos he, if_pos ⟨rfl, rfl⟩]
 rw [e2] at hd
 exact ⟨by rw [e1], ⟨hd, h.s⟩, mod_pg hc⟩

set_option maxHeartbeats 1000000 in
set_option maxRecDepth 100000 in
theorem power_any {w : World} {p g : Nat} {im : Img} {wr : Int} {dn ar : Bool} {lf : Int} (h : DK w p g im wr dn ar lf) : Calls Tryz.prog 17 #[.pointer (some ⟨p, 0, none⟩)] w fun e w' => e = .returned (.bool dn) ∧ Chg w w' No := by
 have hz := D.zero_sec;have hR := D.read_any 0 w h.d;have hln := D.readS_len h.d 0
 have hE : D.refE ⟨im.flatten, wr, dn, ar, lf⟩ im.length 0 = if dn = true then 22 else 0 := by
  have := h.d.pos;unfold D.refE
  cases dn
  ·rw [if_neg (by simp), if_neg (by omega), if_neg (by simp)]
  ·rw [if_pos rfl, if_pos rfl]
 rw [hE] at hR
 generalize D.readS ⟨im.flatten, wr, dn, ar, lf⟩ im.length 0 = S at *
 have HL := hid hln;clear h hE hln
 cases dn
 ·rw [if_neg (by simp)] at hR
  have hIs := fun w => is_other 0 22 (by decide) w
  go_enter Tryz.func17, Tryz.ntmps17
  go_wp2_with (first
   | (go_at_call 25; go_must (refine hR.mono ?_; rintro e w1 ⟨rfl, hb1⟩))
   | (refine store_R rfl 46 _ _ rfl w1.heap.size (SA S) rfl rfl 46 _ (heap_alloc_new _ _) (by rw [SA_size, HL.out]; exact sz26) (by rw [SA_size, HL.out]; rfl) (SA_one _) ?_; intro w2 hw2)
   | (go_at_call 26; go_must (refine (hIs _).mono ?_; rintro e w3 ⟨rfl, hw3⟩; obtain rfl : w2 = w3 := hw3.symm))
   | fail)
  go_ret
  exact ⟨rfl, ((Chg.of_below hb1 No).tr (Chg.alloc w1 _ No)).trans (kt_new hw2) (fun _ _ e => e) (fun j hj e => by have := hb1.size; omega)⟩
 ·rw [if_pos rfl] at hR
  have hIs := fun w => is_same 22 w
  go_enter Tryz.func17, Tryz.ntmps17
  go_wp2_with (first
   | (go_at_call 25; go_must (refine hR.mono ?_; rintro e w1 ⟨rfl, hb1⟩))
   | (refine store_R rfl 46 _ _ rfl w1.heap.size (SA S) rfl rfl 46 _ (heap_alloc_new _ _) (by rw [SA_size, HL.out]; exact sz26) (by rw [SA_size, HL.out]; rfl) (SA_one _) ?_; intro w2 hw2)
   | (go_at_call 26; go_must (refine (hIs _).mono ?_; rintro e w3 ⟨rfl, hw3⟩; obtain rfl : w2 = w3 := hw3.symm))
   | fail)
  go_ret
  exact ⟨rfl, ((Chg.of_below hb1 No).tr (Chg.alloc w1 _ No)).trans (kt_new hw2) (fun _ _ e => e) (fun j hj e => by have := hb1.size; omega)⟩
end Go.Proofs.YtboammbcoleicabGreat

namespace Go.Proofs.YtboammbcoleicabGreat
open Go.RowKit Go.Shelf

def leftN (ar : Bool) (lf : Int) (k : Nat) : Int := if ar = true then lf - k else lf
theorem take_one {l : List Int} {i : Nat} (h : i < l.length) : l.take (i + 1) = l.take i ++ [l.getD i 0] := by
 rw [List.take_succ_eq_append_getElem h, List.getD_eq_getElem?_getD, List.getElem?_eq_getElem h]
 rfl
def WrPost (w : World) (p g : Nat) (im T : Img) (Wl : List Int) (nw : Int) (ar : Bool) (lf : Int) (E : Int) (w' : World) : Prop :=
 ((ar = true ∧ lf < Wl.length) ∧ E = 22 ∧ DK w' p g (wroteI T (Wl.take lf.toNat) im) (nw + lf) true true 0 ∨
  ¬ (ar = true ∧ lf < Wl.length) ∧ E = 0 ∧ DK w' p g (wroteI T Wl im) (nw + Wl.length) false ar (leftN ar lf Wl.length)) ∧ Chg w w' (fun k => k = p ∨ k = g)
theorem leftN_step {ar : Bool} {lf : Int} {k : Nat} : (if ar = true then leftN ar lf k - 1 else leftN ar lf k) = leftN ar lf (k + 1) := by
 unfold leftN
 cases ar
 ·simp
 ·simp
  omega

set_option maxHeartbeats 2000000 in
set_option maxRecDepth 100000 in
theorem fwrite_any {w : World} {p g : Nat} {im T : Img} {Wl : List Int} {nw : Int} {ar : Bool} {lf : Int} (gw wc s1 : Nat) (a1 : Option Addr) (v2 v3 : Value) (h : DK w p g im nw false ar lf) (hT : WtAt w gw T) (htl : T.length = im.length) (hg : gw ≠ g) (hL : LAt w a1 Wl)
  (hm : ∀ x ∈ Wl, 0 ≤ x ∧ x < im.length) (hwl : Wl.length ≤ 12288) (hw : 0 ≤ nw ∧ nw ≤ 1000000000000) (hl : 0 ≤ lf ∧ lf ≤ 9223372036854775807) (o2 : v2.oneCell' = true) (o3 : v3.oneCell' = true) :
  Calls Tryz.prog 19 #[.pointer (some ⟨p, 0, none⟩), .agg #[.slice (some ⟨gw, 0, none⟩) im.length wc, .slice a1 Wl.length s1, v2, v3]] w fun e w' => ∃ E, e = .returned (.int .i64 E) ∧ WrPost w p g im T Wl nw ar lf E w' := by
 have H := hid h;have HT := hid hT;have HL := hid hL;have HM := hid hm;have HO := hid (And.intro o2 o3);have HW := hid hw;have HF := hid hl;have hpg := h.lt;have hgw := hT.lt;obtain ⟨n, hn⟩ : ∃ y, y = im.length := ⟨_, rfl⟩;obtain ⟨k, hk⟩ : ∃ y, y = Wl.length := ⟨_, rfl⟩;have HN := hid hn;have HK := hid hk;rw [← hn] at HM htl ⊢;rw [← hk] at hwl ⊢;have HTL := hid htl;clear h hT hL hm o2 o3 hw hl hn hk htl;have hb : (#[Value.slice (some ⟨gw, 0, none⟩) n wc, .slice a1 k s1, v2, v3]).all (·.oneCell') = true := rep_one _ _ _ rfl HO.out.1 HO.out.2
 go_enter Tryz.func19, Tryz.ntmps19
 go_upto_region 1 with fail
 have hA := Chg.alloc w (.cells #[Value.slice (some ⟨gw, 0, none⟩) n wc, .slice a1 k s1, v2, v3] 34) No;have hA2 := heap_alloc_new w (.cells #[Value.slice (some ⟨gw, 0, none⟩) n wc, .slice a1 k s1, v2, v3] 34);obtain ⟨w1, hw1⟩ : ∃ y, y = w.alloc (.cells #[Value.slice (some ⟨gw, 0, none⟩) n wc, .slice a1 k s1, v2, v3] 34) := ⟨_, rfl⟩;rw [← hw1] at hA hA2 ⊢;have HA := hid hA;obtain ⟨b, hb⟩ : ∃ y, y = w.heap.size := ⟨_, rfl⟩;have HB := hid hb;rw [← hb] at hA2 ⊢;have HA2 := hid hA2;clear hw1 hA hA2 hb
 have HQ : Hid (∀ (W' : World) (_hW : Chg w1 W' (fun j => j = p ∨ j = g)), W'.cell? ⟨b, 0, none⟩ = some (.slice (some ⟨gw, 0, none⟩) n wc) ∧ W'.cell? ⟨b, 1, none⟩ = some (.slice a1 k s1)) := hid (fun W' hW => by
  have h0 := hW.keep HA2.out (by rw [HB.out]; omega)
  exact ⟨(cell_of_row _ _ _ _ _ _ h0).trans rfl, (cell_of_row _ _ _ _ _ _ h0).trans rfl⟩)
 have HL1 : Hid (∀ i, i < k → ∃ ga, a1 = some ⟨ga, 0, none⟩ ∧ ∀ (W' : World) (_hW : Chg w1 W' (fun j => j = p ∨ j = g)), W'.cell? ⟨ga, i, none⟩ = some (.int .i64 (Wl.getD i 0))) := hid (fun i hi => by
  rw [HK.out] at hi
  rcases HL.out with e | ⟨ga, e, ⟨A, hA⟩, hc⟩
  ·rw [e] at hi; simp at hi
  ·refine ⟨ga, e, fun W' hW => ?_⟩
   have hl := slt hA;refine cell_keep (cell_keep (hc i hi) HA.out hl (fun e => e)) hW (Nat.lt_of_lt_of_le hl HA.out.size) ?_
   rintro (e1 | e1)
   ·exact obj_ne hA H.out.d.me (by intro e; cases e) e1
   ·exact obj_ne hA H.out.d.row (by intro e; cases e) e1)
 have HR1 : Hid (∀ (W' : World) (_hW : Chg w1 W' (fun j => j = p ∨ j = g)) (j : Nat) (_hj : j < n), W'.rangeAt gw (j * 128) ((secI T (j : Int)).map (Value.int .u8))) := hid (fun W' hW j hj => ((HT.out.keep HA.out (fun e => e)).keep hW (by
  rintro (e1 | e1)
  ·obtain ⟨_, A, hA, _⟩ := HT.out
   exact obj_ne hA H.out.d.me (by intro e; cases e) e1
  ·exact hg e1)).range (by rw [HTL.out]; exact hj))
 have HTs : Hid (∀ j, IsSec (secI T j)) := hid (fun j => HT.out.sec j)
 have HMl : Hid (∀ i, i < k → ∃ m : Nat, Wl.getD i 0 = (m : Int) ∧ m < n) := hid (fun i hi => by
  have hm : Wl.getD i 0 ∈ Wl := by
   rw [HK.out] at hi;rw [List.getD_eq_getElem?_getD, List.getElem?_eq_getElem hi]
   exact List.getElem_mem hi
  have := HM.out _ hm
  exact ⟨(Wl.getD i 0).toNat, by omega, by omega⟩)
 have HD1 : Hid (DK w1 p g (wroteI T (Wl.take 0) im) (nw + ((0 : Nat) : Int)) false ar (leftN ar lf 0)) := hid (by
  have := H.out.call HA.out
  have e : leftN ar lf 0 = lf := by unfold leftN; cases ar <;> simp
  rw [e, Int.natCast_zero, Int.add_zero]
  exact this)
 obtain ⟨q0, q1⟩ := HQ.out w1 (Chg.refl _ _)
 go_wp2_with fail
 clear q0 q1
 go_loopw [11] (fun x wq => ∃ i : Nat, x = .int .i64 i ∧ i ≤ k ∧ Hid (DK wq p g (wroteI T (Wl.take i) im) (nw + i) false ar (leftN ar lf i)) ∧ Hid (ar = true → (i : Int) ≤ lf) ∧ Hid (Chg w1 wq (fun j => j = p ∨ j = g))) (fun x _ => k - (intOf x).toNat)
 case atStart => exact ⟨0, rfl, by omega, HD1, hid (fun _ => HF.out.1), hid (Chg.refl _ _)⟩
 case round =>
  clear HD1;obtain ⟨i, rfl, hi, HDi, HLi, HCi⟩ := hrel
  by_cases hlt : i < k
  ·have hki : (i : Int) < (k : Int) := by omega
   have hk0 : (0 : Int) ≤ (i : Int) := by omega
   obtain ⟨q0, q1⟩ := HQ.out wr HCi.out;obtain ⟨ga, ha1, hga⟩ := HL1.out i hlt;subst ha1;obtain ⟨m, hm, hmn⟩ := HMl.out i hlt;rw [hm] at hga;have c1 := hga wr HCi.out
   have m2 : (0 : Int) ≤ (m : Int) := by omega
   have m3 : (m : Int) < (n : Int) := by omega
   obtain ⟨tk, htk⟩ : ∃ y, y = secI T (m : Int) := ⟨_, rfl⟩;have HR := hid (HR1.out wr HCi.out m hmn);rw [← htk] at HR;have HTS : Hid (IsSec tk) := hid (by rw [htk]; exact HTs.out _);have HSA : Hid ((tk.map (Value.int .u8)).toArray = SA tk) := hid rfl
   have HNx : Hid ((wroteI T (Wl.take i) im).set m tk = wroteI T (Wl.take (i + 1)) im) := hid (by
    rw [take_one (by rw [← HK.out]; exact hlt), wroteI_append, hm, htk]
    rfl)
   clear htk hm hga
   have hml : m < (wroteI T (Wl.take i) im).length := by rw [wroteI_len, ← HN.out]; exact hmn
   have HWi : Hid (0 ≤ nw + (i : Int) ∧ nw + (i : Int) < 4611686018427387904) := hid (by have := HW.out; omega)
   have HLf : Hid (0 ≤ leftN ar lf i ∧ leftN ar lf i ≤ 9223372036854775807) := hid (by
    have h1 := HF.out;have h2 := HLi.out;unfold leftN
    cases ar
    ·simpa using h1
    ·have := h2 rfl
     simp
     omega)
   by_cases hc : ar = true ∧ leftN ar lf i = 0
   ·obtain ⟨rfl, hz⟩ := hc
    have hD := HDi.out;rw [hz] at hD;have hWr := dk_cut hD m tk hml HTS.out HWi.out;have HLF : Hid (lf = (i : Int)) := hid (by unfold leftN at hz; simp at hz; omega);clear hD hz hml
    go_upto_region 5 with (first
     | (refine load_mid 46 _ rfl gw (m * 128) rfl _ _ HR.out Tryz.underlying46 rfl (by rw [sz26, List.length_map]; exact congrArg some HTS.out.1.symm) (by rfl) ?_; rw [HSA.out])
     | (go_at_call 34; go_must (refine hWr.mono ?_; rintro e w3 ⟨rfl, hd3, hc3⟩))
     | fail)
    have HF3 : Hid (WrPost w p g im T Wl nw true lf 22 w3) := hid ⟨.inl ⟨⟨rfl, by rw [HLF.out, ← HK.out]; omega⟩, rfl, by rw [HLF.out, Int.toNat_natCast]; exact hd3⟩, (HA.out.trans HCi.out (c := fun j => j = p ∨ j = g) (fun _ _ e => e.elim) (fun _ _ e => e)).trans hc3 (fun _ _ e => e) (fun _ _ e => e)⟩;clear hd3 hc3 hWr
    go_wp2_with fail
    go_ret
    exact ⟨22, rfl, HF3.out⟩
   ·have hWr := dk_write HDi.out m tk hml HTS.out HWi.out HLf.out hc
    have HLj : Hid (ar = true → ((i + 1 : Nat) : Int) ≤ lf) := hid (fun e => by
     have h2 := HLi.out e
     have h3 : leftN ar lf i ≠ 0 := fun k => hc ⟨e, k⟩
     unfold leftN at h3;rw [if_pos e] at h3
     omega)
    clear hml hc
    go_upto_region 5 with (first
     | (refine load_mid 46 _ rfl gw (m * 128) rfl _ _ HR.out Tryz.underlying46 rfl (by rw [sz26, List.length_map]; exact congrArg some HTS.out.1.symm) (by rfl) ?_; rw [HSA.out])
     | (go_at_call 34; go_must (refine hWr.mono ?_; rintro e w3 ⟨rfl, hd3, hc3⟩))
     | fail)
    have HD3 : Hid (DK w3 p g (wroteI T (Wl.take (i + 1)) im) (nw + ((i + 1 : Nat) : Int)) false ar (leftN ar lf (i + 1))) := hid (by
     rw [leftN_step, HNx.out] at hd3
     have e : nw + ((i + 1 : Nat) : Int) = nw + (i : Int) + 1 := by omega
     rw [e]
     exact hd3)
    have HC3 : Hid (Chg w1 w3 (fun j => j = p ∨ j = g)) := hid (HCi.out.trans hc3 (fun _ _ e => e) (fun _ _ e => e));clear hd3 hc3 hWr
    go_wp2_with fail
    exact ⟨⟨i + 1, by go_num, by omega, HD3, HLj, HC3⟩, by simp [intOf]; omega⟩
  ·have hki : ¬ (i : Int) < (k : Int) := by omega
   obtain rfl : i = k := by omega
   have HF3 : Hid (WrPost w p g im T Wl nw ar lf 0 wr) := hid ⟨.inr ⟨fun e => by have := HLi.out e.1; rw [← HK.out] at e; omega, rfl, by
    have := HDi.out;rw [HK.out, List.take_length] at this
    exact this⟩, HA.out.trans HCi.out (fun _ _ e => e.elim) (fun _ _ e => e)⟩
   clear hi
   go_wp2_with fail
   go_ret
   exact ⟨0, rfl, HF3.out⟩
end Go.Proofs.YtboammbcoleicabGreat

namespace Go.Proofs.YtboammbcoleicabGreat
open Go.RowKit Go.Shelf

structure II (im : Img) (M : Nat) : Prop where
 sup : (supOf im).2.2 = 0
 hM : M = (supOf im).2.1.toNat
 ml : M + 2 ≤ im.length
 root : rootB M im = true
 sec : AllSec im
 n1 : 8 ≤ im.length
 n2 : im.length ≤ 4096
theorem LkC.ii {w0 w : World} {im : Img} {M gw s1 : Nat} {a1 a2 a3 : Option Addr} (h : LkC w0 w im M gw s1 a1 a2 a3) : II im M := ⟨h.sup, h.hM, h.ml, h.root, h.sec, h.n1, h.n2⟩
theorem II.one {im : Img} {M M' : Nat} (h : II im M) (k : II im M') : M' = M := by rw [h.hM, k.hM]
def kW (M : Nat) (im : Img) : Nat := (writeI M im (lookL M im)).length
theorem kW_le (M : Nat) (im : Img) : kW M im ≤ im.length * 3 := by
 unfold kW;rw [writeI_rows, List.length_append, List.length_append]
 have h0 := keysL_len im.length fun x => decide (wrKind M im (lookL M im).wt (lookL M im).wp x = 0)
 have h1 := keysL_len im.length fun x => decide (wrKind M im (lookL M im).wt (lookL M im).wp x = 1)
 have h2 := keysL_len im.length fun x => decide (wrKind M im (lookL M im).wt (lookL M im).wp x = 2)
 unfold rowL
 omega
def repV (n gw wc k s1 i s2 b s3 : Nat) (a1 a2 a3 : Option Addr) : Array Value := #[.slice (some ⟨gw, 0, none⟩) n wc, .slice a1 k s1, .slice a2 i s2, .slice a3 b s3]
theorem repV_one (n gw wc k s1 i s2 b s3 : Nat) (a1 a2 a3 : Option Addr) : (repV n gw wc k s1 i s2 b s3 a1 a2 a3).all (·.oneCell') = true := rep_one _ _ _ rfl rfl rfl
def RunPost (w : World) (p g : Nat) (im : Img) (nw : Int) (ar : Bool) (lf : Int) (e : Ending) (w' : World) : Prop :=
 ((∀ M, ¬ II im M) ∧ ∃ E, (E = lookE im ∧ (E = 120 ∨ E = 121)) ∧ e = .returned (.tuple #[.agg nil4, .int .i64 E]) ∧ Chg w w' No) ∨
 (∃ M, II im M ∧ (ar = true ∧ lf < kW M im) ∧ e = .returned (.tuple #[.agg nil4, .int .i64 22]) ∧ DK w' p g (cutI M im lf.toNat) (nw + lf) true true 0 ∧ Chg w w' (fun k => k = p ∨ k = g)) ∨
 (∃ M gw wc s1 s2 s3 a1 a2 a3, ¬ (ar = true ∧ lf < kW M im) ∧ e = .returned (.tuple #[.agg (repV im.length gw wc (kW M im) s1 (inodesI M (lookL M im)).length s2 (blocksI im (lookL M im)).length s3 a1 a2 a3), .int .i64 0]) ∧
  DK w' p g (lookL M im).wt (nw + kW M im) false ar (leftN ar lf (kW M im)) ∧ LkC w w' im M gw s1 a1 a2 a3 ∧ Chg w w' (fun k => k = p ∨ k = g))

set_option maxHeartbeats 1000000 in
set_option maxRecDepth 100000 in
theorem run_nil (w : World) : Calls Tryz.prog 8 #[.pointer none] w fun e w' => e = .returned (.tuple #[.agg nil4, .int .i64 1]) ∧ Chg w w' No := by
 have hzr := zero_rep;have hbr := build_rep;have HN := hid (heap_alloc_new w (.cells nil4 34))
 go_enter Tryz.func8, Tryz.ntmps8
 go_wp2_with (first
  | (refine store_R rfl 34 _ _ rfl w.heap.size nil4 rfl rfl 34 _ HN.out szRep rfl nil4_one ?_; intro w5 hw5)
  | fail)
 refine bodyPost_ret (v := .tuple #[.agg nil4, .int .i64 1]) (results_R Tryz.results8 _ _ w.heap.size _ 34 _ _ Tryz.underlying34 rfl szRep rfl rfl hw5.here) rfl ⟨rfl, (Chg.alloc w _ No).trans (kt_new hw5) (fun _ _ e => e) (fun j hj e => by omega)⟩

set_option maxHeartbeats 4000000 in
set_option maxRecDepth 100000 in
theorem run_any {w : World} {p g : Nat} {im : Img} {nw : Int} {ar : Bool} {lf : Int} (h : DK w p g im nw false ar lf) (hw : 0 ≤ nw ∧ nw ≤ 1000000000000) (hl : 0 ≤ lf ∧ lf ≤ 9223372036854775807) : Calls Tryz.prog 8 #[.pointer (some ⟨p, 0, none⟩)] w fun e w' => RunPost w p g im nw ar lf e w' := by
 have hzr := zero_rep;have hbr := build_rep;have hN0 := heap_alloc_new w (.cells nil4 34);have HN := hid hN0;have hA := Chg.alloc w (.cells nil4 34) No;have H := hid (h.call hA);have hP := power_any H.out;have HA := hid hA;have HW := hid hw;have HF := hid hl;have hlt := h.lt;have HPG := hid hlt;obtain ⟨n, hn⟩ : ∃ y, y = im.length := ⟨_, rfl⟩;have HNN := hid hn
 have HIm : Hid (∀ W, DK W p g im nw false ar lf → Calls Tryz.prog 12 #[.pointer (some ⟨p, 0, none⟩)] W fun e w' => ∃ q, e = .returned (.slice (some ⟨q, 0, none⟩) n n) ∧ W.heap.size ≤ q ∧ WtAt w' q im ∧ Chg W w' No) := hid (fun W hW => by
  have := dk_image hW;rw [← hn] at this
  exact this)
 have HLk : Hid (∀ W q, WtAt W q im → Calls Tryz.prog 18 #[.slice (some ⟨q, 0, none⟩) n n] W fun e w' => Chg W w' No ∧ ((((supOf im).2.2 = 0 → rootB (supOf im).2.1.toNat im = false) ∧ ∃ E, (Hid (E = lookE im) ∧ (E = 120 ∨ E = 121)) ∧ e = .returned (.tuple #[.agg nil4, .int .i64 E])) ∨
   ∃ M gw wc s1 s2 s3 a1 a2 a3, e = .returned (.tuple #[.agg (repV n gw wc (kW M im) s1 (inodesI M (lookL M im)).length s2 (blocksI im (lookL M im)).length s3 a1 a2 a3), .int .i64 0]) ∧ LkC W w' im M gw s1 a1 a2 a3)) := hid (fun W q hW => by
  have := look_c (some ⟨q, 0, none⟩) n im W (ImgAt.of_wt hW);rw [← hn] at this
  exact this)
 obtain ⟨b, hb⟩ : ∃ y, y = w.heap.size := ⟨_, rfl⟩;have HB := hid hb;clear h hA hw hl hn hN0
 go_enter Tryz.func8, Tryz.ntmps8
 go_upto_region 6 with (first
  | (go_at_call 17; go_must (refine hP.mono ?_; rintro e w1 ⟨rfl, hc1⟩; have HN1 := hid (hc1.keep HN.out (fun e => e)); have HC1 := hid (HA.out.tr hc1); have hI := HIm.out w1 (H.out.call hc1); have HD1 := hid (H.out.call hc1); clear hc1))
  | (go_at_call 12; go_must (refine hI.mono ?_; rintro e w2 ⟨q, rfl, hq, hwq, hc2⟩; have hLk := HLk.out w2 q hwq))
  | (go_at_call 18; go_must (refine hLk.mono ?_; rintro e w3 ⟨hc3, ⟨hbad, E, hE0, rfl⟩ | ⟨M, gw, wc, s1, s2, s3, a1, a2, a3, rfl, hX⟩⟩))
  | (refine store_R rfl 34 _ _ rfl w3.heap.size nil4 rfl rfl 34 _ (heap_alloc_new _ _) szRep rfl nil4_one ?_; intro w4 hw4)
  | (refine store_R rfl 34 _ _ rfl w3.heap.size (repV n gw wc (kW M im) s1 (inodesI M (lookL M im)).length s2 (blocksI im (lookL M im)).length s3 a1 a2 a3) rfl rfl 34 _ (heap_alloc_new _ _) szRep rfl (repV_one _ _ _ _ _ _ _ _ _ _ _ _) ?_; intro w4 hw4)
  | fail)
 ·have h14 : Chg w1 w4 No := ((hc2.tr hc3).tr (Chg.alloc w3 _ No)).trans (kt_new hw4) (fun _ _ e => e) (fun j hj e => by have := (hc2.tr hc3).size; omega)
  have HC4 : Hid (Chg w w4 No) := hid (HC1.out.tr h14);have HN4 := hid (h14.keep HN1.out (fun e => e))
  have HNo : Hid (∀ M, ¬ II im M) := hid (fun M hM => by
   have := hbad hM.sup;rw [← hM.hM, hM.root] at this
   cases this)
  rw [← hb] at HN4 ⊢;clear h14 hw4 hc2 hc3 hwq hq hLk hI hP hbad HN HN1 hb;obtain ⟨HEl, hE0⟩ := hE0
  rcases hE0 with rfl | rfl
  ·go_wp2_with (first
    | (refine store_R rfl 34 _ _ rfl b nil4 rfl rfl 34 _ HN4.out szRep rfl nil4_one ?_; intro w5 hw5)
    | fail)
   refine bodyPost_ret (v := .tuple #[.agg nil4, .int .i64 120]) (results_R Tryz.results8 _ _ b _ 34 _ _ Tryz.underlying34 rfl szRep rfl rfl hw5.here) rfl (.inl ⟨HNo.out, 120, ⟨HEl.out, .inl rfl⟩, rfl, HC4.out.trans (kt_new hw5) (fun _ _ e => e) (fun j hj e => by rw [HB.out] at e; omega)⟩)
  ·go_wp2_with (first
    | (refine store_R rfl 34 _ _ rfl b nil4 rfl rfl 34 _ HN4.out szRep rfl nil4_one ?_; intro w5 hw5)
    | fail)
   refine bodyPost_ret (v := .tuple #[.agg nil4, .int .i64 121]) (results_R Tryz.results8 _ _ b _ 34 _ _ Tryz.underlying34 rfl szRep rfl rfl hw5.here) rfl (.inl ⟨HNo.out, 121, ⟨HEl.out, .inr rfl⟩, rfl, HC4.out.trans (kt_new hw5) (fun _ _ e => e) (fun j hj e => by rw [HB.out] at e; omega)⟩)
 ·have h34 : Chg w3 w4 No := (Chg.alloc w3 _ No).trans (kt_new hw4) (fun _ _ e => e) (fun j hj e => by omega)
  have h14 : Chg w1 w4 No := (hc2.tr hc3).tr h34;have HC4 : Hid (Chg w w4 No) := hid (HC1.out.tr h14);have HN4 := hid (h14.keep HN1.out (fun e => e));have HD4 := hid (HD1.out.call h14);have HX := hid hX;have HG4 := hid hw4.here;have HWt := hid (hX.wt.keep h34 (fun e => e));have HL1 := hid (hX.l1.call h34);have HL2 := hid (hX.l2.call h34);have HL3 := hid (hX.l3.call h34);have HNw : Hid (w.heap.size ≤ gw) := hid (by have := hX.new; have := HC1.out.size; have := hc2.size; omega);obtain ⟨b4, hb4⟩ : ∃ y, y = w3.heap.size := ⟨_, rfl⟩;have HB4 : Hid (w.heap.size + 1 ≤ b4) := hid (by have := slt HN1.out; have := (hc2.tr hc3).size; omega);have hWr := fwrite_any gw wc s1 a1 (.slice a2 (inodesI M (lookL M im)).length s2) (.slice a3 (blocksI im (lookL M im)).length s3) HD4.out HWt.out hX.tl (by have := HNw.out; omega) HL1.out (fun x hx => by have := write_in.1 hx; exact ⟨this.1, this.2.1⟩) (by have := kW_le M im; unfold kW at this; have := hX.n2; omega) HW.out HF.out rfl rfl;rw [← HNN.out] at hWr;rw [← hb4] at HG4 ⊢;rw [← hb] at HN4 ⊢;obtain ⟨k, hk⟩ : ∃ y, y = kW M im := ⟨_, rfl⟩;have hk' : (writeI M im (lookL M im)).length = k := hk.symm;rw [hk'] at hWr;obtain ⟨i, hi⟩ : ∃ y, y = (inodesI M (lookL M im)).length := ⟨_, rfl⟩;obtain ⟨bl, hbl⟩ : ∃ y, y = (blocksI im (lookL M im)).length := ⟨_, rfl⟩;rw [← hi, ← hbl] at hWr;rw [← hk, ← hi, ← hbl] at HG4 ⊢;have HKK := hid hk;have HII := hid hi;have HBB := hid hbl;clear hk hk' hi hbl hX h34 h14 hw4 hc2 hc3 hwq hq hLk hI hP HN HN1 hb hb4 hlt
  go_upto_region 9 with (first
   | (refine load_R rfl 34 _ rfl b4 rfl 34 _ _ HG4.out Tryz.underlying34 rfl szRep ?_)
   | (go_at_call 19; go_must (refine hWr.mono ?_; rintro e w5 ⟨E, rfl, hp5, hc5⟩))
   | fail)
  have HC5 : Hid (Chg w w5 (fun k => k = p ∨ k = g)) := hid (HC4.out.trans hc5 (fun _ _ e => e.elim) (fun _ _ e => e));have hpb : p < w.heap.size ∧ g < w.heap.size := HPG.out;have HN5 := hid (hc5.keep HN4.out (by rw [HB.out]; omega));have HG5 := hid (hc5.keep HG4.out (by have := HB4.out; omega))
  rcases hp5 with ⟨hcut, rfl, hd5⟩ | ⟨hcut, rfl, hd5⟩
  ·have HD5 : Hid (DK w5 p g (cutI M im lf.toNat) (nw + lf) true true 0) := hid hd5
   have HCut : Hid (ar = true ∧ lf < kW M im) := hid hcut;clear hd5 hcut hc5 hWr hpb
   go_wp2_with (first
    | (refine store_R rfl 34 _ _ rfl b nil4 rfl rfl 34 _ HN5.out szRep rfl nil4_one ?_; intro w6 hw6)
    | fail)
   refine bodyPost_ret (v := .tuple #[.agg nil4, .int .i64 22]) (results_R Tryz.results8 _ _ b _ 34 _ _ Tryz.underlying34 rfl szRep rfl rfl hw6.here) rfl (.inr (.inl ⟨M, HX.out.ii, HCut.out, rfl, HD5.out.keep (kt_new hw6) (by have := HPG.out; rw [HB.out]; omega) (by have := HPG.out; rw [HB.out]; omega), HC5.out.trans (kt_new hw6) (fun _ _ e => e) (fun j hj e => by rw [HB.out] at e; omega)⟩))
  ·have HD5 : Hid (DK w5 p g (lookL M im).wt (nw + kW M im) false ar (leftN ar lf (kW M im))) := hid (by
    have e := cut_all HX.out.root;unfold cutI at e;rw [List.take_length] at e;rw [e] at hd5
    exact hd5)
   have HCut : Hid (¬ (ar = true ∧ lf < kW M im)) := hid hcut;have h35 : Chg w4 w5 (fun k => k = p ∨ k = g) := hc5;have HWt5 : Hid (WtAt w5 gw (lookL M im).wt) := hid (HWt.out.keep h35 (by have := HNw.out; omega))
   have lat : ∀ {a : Option Addr} {l : List Int}, LAt w4 a l → LAt w5 a l := fun {a l} hL => by
    rcases hL with e | ⟨ga, e, ⟨A, hA⟩, hc⟩
    ·exact .inl e
    ·have hne : ¬ (ga = p ∨ ga = g) := by
      rintro (e1 | e1)
      ·exact obj_ne hA HD4.out.d.me (by intro e; cases e) e1
      ·exact obj_ne hA HD4.out.d.row (by intro e; cases e) e1
     exact .inr ⟨ga, e, ⟨A, h35.keep hA hne⟩, fun k hk => cell_keep (hc k hk) h35 (slt hA) hne⟩
   have HL15 := hid (lat HL1.out);have HL25 := hid (lat HL2.out);have HL35 := hid (lat HL3.out);clear hd5 hcut hc5 hWr hpb h35 lat
   go_wp2_with (first
    | (refine load_R rfl 34 _ rfl b4 rfl 34 _ _ HG5.out Tryz.underlying34 rfl szRep ?_)
    | (refine store_R rfl 34 _ _ rfl b (repV n gw wc k s1 i s2 bl s3 a1 a2 a3) rfl rfl 34 _ HN5.out szRep rfl (repV_one _ _ _ _ _ _ _ _ _ _ _ _) ?_; intro w6 hw6)
    | fail)
   have h56 : Chg w5 w6 (fun j => j = b) := kt_new hw6;have bb := HB.out
   have nb : ∀ {a : Option Addr} {l : List Int}, LAt w5 a l → LAt w6 a l := fun {a l} hL => by
    rcases hL with e | ⟨ga, e, ⟨A, hA⟩, hc⟩
    ·exact .inl e
    ·have hne : ¬ ga = b := obj_ne hA HN5.out (by intro e; cases e)
     exact .inr ⟨ga, e, ⟨A, h56.keep hA hne⟩, fun k hk => cell_keep (hc k hk) h56 (slt hA) hne⟩
   refine bodyPost_ret (v := .tuple #[.agg (repV n gw wc k s1 i s2 bl s3 a1 a2 a3), .int .i64 0]) (results_R Tryz.results8 _ _ b _ 34 _ _ Tryz.underlying34 rfl szRep rfl rfl hw6.here) rfl (.inr (.inr ⟨M, gw, wc, s1, s2, s3, a1, a2, a3, HCut.out, by rw [← HKK.out, ← HII.out, ← HBB.out, ← HNN.out], HD5.out.keep h56 (by have := HPG.out; omega) (by have := HPG.out; omega), ?_, HC5.out.trans h56 (fun _ _ e => e) (fun j hj e => by omega)⟩))
   have hne : ¬ gw = b := by
    obtain ⟨_, A, hA, _⟩ := HWt5.out
    exact obj_ne hA HN5.out (by intro e; cases e)
   have X := HX.out
   exact ⟨X.sup, X.hM, X.ml, X.root, X.sec, X.n1, X.n2, HWt5.out.keep h56 hne, HNw.out, X.tl, X.c1, nb HL15.out, nb HL25.out, nb HL35.out⟩
end Go.Proofs.YtboammbcoleicabGreat

namespace Go.Proofs.YtboammbcoleicabGreat
open Go.RowKit Go.Shelf

abbrev Spt := Int × Int × List Int
def secN (x : Int) : Int := if x = -9223372036854775808 then 9223372036854775807 else x - 1
def nP (s : Int) : Nat := (1 + pickN (secN s) 200).toNat
def putD (s : List Int) (a : Nat) (d : List Int) : Nat → List Int
 | 0 => s
 | k + 1 => (putD s a d k).set (a + k) (d.getD k 0)
def kD (a : Nat) (d : List Int) : Nat := min d.length (128 - a)
def spotI (im : Img) (x : Spt) : Img := im.set (pickN x.1 im.length).toNat (putD (secI im (pickN x.1 im.length)) (pickN x.2.1 128).toNat x.2.2 (kD (pickN x.2.1 128).toNat x.2.2))
def picI (s : Int) (l : List Spt) : Img := l.foldl spotI (List.replicate (nP s) Zs)
def OkSpt (x : Spt) : Prop := I64 x.1 ∧ I64 x.2.1 ∧ (∀ b ∈ x.2.2, 0 ≤ b ∧ b ≤ 255) ∧ x.2.2.length ≤ 9223372036854775807
def SptsAt (w : World) (a : Option Addr) (l : List Spt) : Prop := l = [] ∨ ∃ g o, a = some ⟨g, o, none⟩ ∧ g < w.heap.size ∧ ∀ k x, l[k]? = some x → ∃ da dc, w.rangeAt g (o + k * 3) [.int .i64 x.1, .int .i64 x.2.1, .slice da x.2.2.length dc] ∧ D.BytesAt w da x.2.2
theorem bytes_keep {w w' : World} {a : Option Addr} {l : List Int} {ks : Nat → Prop} (h : D.BytesAt w a l) (hc : Chg w w' ks) (hn : ∀ j, j < w.heap.size → ¬ ks j) : D.BytesAt w' a l := by
 rcases h with h | ⟨b, o, h1, h2, h3⟩
 ·exact .inl h
 ·exact .inr ⟨b, o, h1, Nat.lt_of_lt_of_le h2 hc.size, fun j hj => cell_keep (h3 j hj) hc h2 (hn b h2)⟩
theorem SptsAt.keep {w w' : World} {a : Option Addr} {l : List Spt} {ks : Nat → Prop} (h : SptsAt w a l) (hc : Chg w w' ks) (hn : ∀ j, j < w.heap.size → ¬ ks j) : SptsAt w' a l := by
 rcases h with h | ⟨g, o, h1, h2, h3⟩
 ·exact .inl h
 ·refine .inr ⟨g, o, h1, Nat.lt_of_lt_of_le h2 hc.size, fun k x hk => ?_⟩
  obtain ⟨da, dc, hr, hb⟩ := h3 k x hk
  exact ⟨da, dc, fun i v hv => cell_keep (hr i v hv) hc h2 (hn g h2), bytes_keep hb hc hn⟩
theorem putD_len (s : List Int) (a : Nat) (d : List Int) : ∀ k, (putD s a d k).length = s.length
 | 0 => rfl
 | k + 1 => by simp only [putD, List.length_set]; exact putD_len s a d k
theorem nP_bd (s : Int) : 1 ≤ nP s ∧ nP s ≤ 200 := by
 have := pickN_bd (secN s) (n := 200) (by omega);unfold nP
 omega
theorem spotI_len (im : Img) (x : Spt) : (spotI im x).length = im.length := by unfold spotI; rw [List.length_set]
theorem fold_len : ∀ (l : List Spt) (im : Img), (l.foldl spotI im).length = im.length
 | [], _ => rfl
 | x :: l, im => by rw [List.foldl_cons, fold_len l, spotI_len]
theorem picI_len (s : Int) (l : List Spt) : (picI s l).length = nP s := by unfold picI; rw [fold_len, List.length_replicate]
theorem zl_flat : ∀ n : Nat, (List.replicate n Zs).flatten = D.zl (128 * n)
 | 0 => rfl
 | n + 1 => by
  rw [List.replicate_succ, List.flatten_cons, zl_flat n];unfold D.zl Zs;rw [List.replicate_append_replicate]
  congr 1
  omega
section
variable {ops : Array Oper} {Q : Exit → Act → World → Prop} {S : World → Prop} {fuel : Nat} {listed : Array Bool} {a : Act} {w : World}
theorem stPut (i : Nat) (w' : World) {o : Oper} (hop : ops[i]? = some o) (hd : o.dst = none) (hw : Region.wanted o (yielded ops a.tmps) = true)
  (hrun : (execOp a.eval o).run Tryz.prog w = .ok .skip w')
  (h : S w' ∧ wpAnyH Tryz.prog .any ops Q S fuel (listed.setIfInBounds i true) a w') : St ops Q S fuel listed a w i := by
 refine wpOp_step hop (fun K hK => ?_);rw [if_pos hw];unfold Oper.wp;rw [hrun];refine hK _ _ ⟨h.1, ?_⟩;unfold Act.put;rw [hd]
 exact h.2
end
theorem WtAt.byte {w : World} {g : Nat} {im : Img} (h : WtAt w g im) {j i : Nat} {x : Int} (hj : j < im.length) (hi : i < 128) (hx : 0 ≤ x ∧ x ≤ 255) : WtAt (w.setCell ⟨g, j * 128 + i, none⟩ (.int .u8 x)) g (im.set j ((secI im (j : Int)).set i x)) := by
 obtain ⟨h0, A, h1, h2⟩ := id h;have hs := h.sec (j : Int);refine ⟨fun s hm => ?_, _, heap_setCell_same w g (j * 128 + i) A _ _ h1, fun j' s hj' i' y hy => ?_⟩
 ·rcases List.mem_or_eq_of_mem_set hm with e | e
  ·exact h0 s e
  ·subst e
   refine ⟨by rw [List.length_set]; exact hs.1, fun y hy => ?_⟩
   rcases List.mem_or_eq_of_mem_set hy with e | e
   ·exact hs.2 y e
   ·rw [e]; exact hx
 ·have hA : ∀ (j' : Nat) s, im[j']? = some s → s.length = 128 := fun j' s hq => (h0 s (List.mem_of_getElem? hq)).1
  rw [Array.getElem?_setIfInBounds]
  by_cases e : j = j'
  ·subst e
   rw [List.getElem?_set_self hj] at hj';have e1 := Option.some.inj hj';subst e1
   have hi' : i' < 128 := by
    have := (List.getElem?_eq_some_iff.1 hy).1;rw [List.length_set, hs.1] at this
    exact this
   have hold : ∀ k, k < 128 → ∃ z, (secI im (j : Int))[k]? = some z := fun k hk => ⟨_, List.getElem?_eq_getElem (by rw [hs.1]; exact hk)⟩
   by_cases e2 : i = i'
   ·subst e2
    obtain ⟨z, hz⟩ := hold i hi;have hin : j * 128 + i < A.size := (Array.getElem?_eq_some_iff.1 (h2 j _ (getD_at hj) i z hz)).1;rw [List.getElem?_set_self (by rw [hs.1]; exact hi)] at hy;rw [if_pos rfl, if_pos hin, ← Option.some.inj hy]
   ·rw [List.getElem?_set_ne e2] at hy
    rw [if_neg (by omega)]
    exact h2 j _ (getD_at hj) i' y hy
  ·rw [List.getElem?_set_ne e] at hj'
   have hi' : i' < 128 := by
    have := (List.getElem?_eq_some_iff.1 hy).1;rw [hA j' s hj'] at this
    exact this
   rw [if_neg (by omega)]
   exact h2 j' s hj' i' y hy
theorem set_again (im : Img) (n : Nat) (a b : List Int) : (im.set n a).set n b = im.set n b := List.set_set ..

end Go.Proofs.YtboammbcoleicabGreat

namespace Go.Proofs.YtboammbcoleicabGreat
open Go.RowKit Go.Shelf

set_option maxHeartbeats 1500000 in
set_option maxRecDepth 100000 in
theorem image_any (s : Int) (a : Option Addr) (l : List Spt) (c : Nat) (w : World) (hs : I64 s) (hl : SptsAt w a l) (hok : ∀ x ∈ l, OkSpt x) (hll : l.length ≤ 9223372036854775807) :
  Calls Tryz.prog 5 #[.agg #[.int .i64 s, .slice a l.length c]] w fun e w' => ∃ g, e = .returned (.slice (some ⟨g, 0, none⟩) (nP s) (nP s)) ∧ w.heap.size ≤ g ∧ WtAt w' g (picI s l) ∧ Chg w w' No := by
 have hmk := fun W => D.make_secs (1 + pickN (secN s) 200) (by have := pickN_bd (secN s) (n := 200) (by omega); omega) (by have := pickN_bd (secN s) (n := 200) (by omega); omega) W
 have hsI : I64 (secN s) := by
  unfold secN I64 at *
  split <;> omega
 have hPk := fun W => pick_any (secN s) 200 W hsI (by omega) (by omega)
 have hpb := pickN_bd (secN s) (n := 200) (by omega)
 have hwr : IntKind.i64.wrap (s - 1) = secN s := by
  unfold secN;unfold I64 at hs
  by_cases e : s = -9223372036854775808
  ·subst e
   rw [if_pos rfl]
   kernel_rfl
  ·rw [if_neg e]
   have h1 : -9223372036854775807 ≤ s := by omega
   have h2 := hs.2
   exact IntWalk.i64_in _ (by omega)
 have hnp : (1 + pickN (secN s) 200).toNat = nP s := rfl;obtain ⟨N, hN⟩ : ∃ y, y = nP s := ⟨_, rfl⟩
 have hN2 : ((1 + pickN (secN s) 200 : Int)) = (N : Int) := by rw [hN]; unfold nP; omega
 have hNb := nP_bd s;rw [← hN] at hNb ⊢;rw [hnp, ← hN] at hmk;rw [hN2] at hmk;have hp1 : 1 + pickN (secN s) 200 = (N : Int) := hN2
 generalize pickN (secN s) 200 = pk at *
 generalize secN s = s1 at *
 have HL := hid hl;have HOk := hid hok;have HNs := hid hN;obtain ⟨m, hm⟩ : ∃ y, y = l.length := ⟨_, rfl⟩;have HM := hid hm;rw [← hm] at hll ⊢;clear hl hok hm hs hN hN2 hnp hsI
 go_enter Tryz.func5, Tryz.ntmps5
 go_upto_region 2 with (first
  | (go_at_call 13; go_must (refine (hPk _).mono ?_; rintro e w4 ⟨rfl, hw4⟩; obtain rfl := hw4))
  | fail)
 have hA : Chg w ((w.alloc (.cells #[.int .i64 s, .slice a m c] 24)).alloc (.cells (D.SA (D.zl (128 * N))) 46)) No := (Chg.alloc w _ No).tr (Chg.alloc _ _ No);have hP : ((w.alloc (.cells #[.int .i64 s, .slice a m c] 24)).alloc (.cells (D.SA (D.zl (128 * N))) 46)).heap[w.heap.size]? = some (.cells #[.int .i64 s, .slice a m c] 24 (0, 0)) := (Chg.alloc _ _ No).keep (heap_alloc_new w _) (fun e => e)
 have hG : ((w.alloc (.cells #[.int .i64 s, .slice a m c] 24)).alloc (.cells (D.SA (D.zl (128 * N))) 46)).heap[w.heap.size + 1]? = some (.cells (D.SA (D.zl (128 * N))) 46 (0, 0)) := by
  have := heap_alloc_new (w.alloc (.cells #[.int .i64 s, .slice a m c] 24)) (.cells (D.SA (D.zl (128 * N))) 46);rw [World.size_alloc] at this
  exact this
 obtain ⟨w2, hw2⟩ : ∃ y, y = ((w.alloc (.cells #[.int .i64 s, .slice a m c] 24)).alloc (.cells (D.SA (D.zl (128 * N))) 46)) := ⟨_, rfl⟩;rw [← hw2] at hA hP hG ⊢;obtain ⟨b, hb⟩ : ∃ y, y = w.heap.size := ⟨_, rfl⟩;obtain ⟨g, hg⟩ : ∃ y, y = w.heap.size + 1 := ⟨_, rfl⟩;rw [← hg] at hG ⊢;rw [← hb] at hP ⊢;have HB : Hid (b = w.heap.size ∧ g = w.heap.size + 1) := hid ⟨hb, hg⟩
 have hbg : b < g := by omega
 have HA := hid hA;have HP := hid hP
 have HWt : Hid (WtAt w2 g (((l.take 0).foldl spotI (List.replicate N Zs)))) := hid (wt_flat (fun s hs => by rw [List.eq_of_mem_replicate hs]; exact Zs_sec) (by
  show w2.heap[g]? = some (.cells (SA (List.replicate N Zs).flatten) 46 (0, 0))
  rw [zl_flat]
  exact hG))
 clear hw2 hb hg hA hP hG
 have HQ : Hid (∀ (W' : World) (_hW : Chg w2 W' (fun j => j = g)), W'.cell? ⟨b, 1, none⟩ = some (.slice a m c)) := hid (fun W' hW => by
  have h0 := hW.keep HP.out (by omega)
  exact (cell_of_row _ _ _ _ _ _ h0).trans rfl)
 obtain ⟨im0, him0⟩ : ∃ y, y = List.replicate N Zs := ⟨_, rfl⟩;have HI0 : Hid (im0.length = N) := hid (by rw [him0, List.length_replicate]);have HI := hid him0;rw [← him0] at HWt;clear him0 hPk hmk hp1 hpb hwr
 go_wp2_with fail
 go_loopw [4] (fun x wr => ∃ i : Nat, x = .int .i64 i ∧ i ≤ m ∧ Hid (WtAt wr g ((l.take i).foldl spotI im0)) ∧ Hid (Chg w2 wr (fun j => j = g))) (fun x _ => m - (intOf x).toNat)
 case atStart => exact ⟨0, rfl, by omega, HWt, hid (Chg.refl _ _)⟩
 case round =>
  clear HWt;obtain ⟨i, rfl, hi, HWi, HCi⟩ := hrel;have q1 := HQ.out wr HCi.out
  by_cases hlt : i < m
  ·have hki : (i : Int) < (m : Int) := by omega
   have hk0 : (0 : Int) ≤ (i : Int) := by omega
   obtain ⟨x, hx⟩ : ∃ x, l[i]? = some x := ⟨_, List.getElem?_eq_getElem (by rw [← HM.out]; exact hlt)⟩
   have HSt : Hid ((l.take (i + 1)).foldl spotI im0 = spotI ((l.take i).foldl spotI im0) x) := hid (by
    have hil : i < l.length := by rw [← HM.out]; exact hlt
    rw [List.take_succ_eq_append_getElem hil, List.foldl_append];rw [List.getElem?_eq_getElem hil] at hx;rw [Option.some.inj hx]
    rfl)
   obtain ⟨o1, o2, o3, o4⟩ := HOk.out x (List.mem_of_getElem? hx)
   have hng : ∀ j, j < w.heap.size → ¬ j = g := fun j hj e => by have := HB.out; omega
   have hCw : Chg w wr (fun j => j = g) := HA.out.trans HCi.out (fun _ _ e => e.elim) (fun _ _ e => e)
   obtain ⟨gs, os, hga, hgl, hcs⟩ : ∃ g o, a = some ⟨g, o, none⟩ ∧ g < w.heap.size ∧ ∀ k x, l[k]? = some x → ∃ da dc, w.rangeAt g (o + k * 3) [.int .i64 x.1, .int .i64 x.2.1, .slice da x.2.2.length dc] ∧ D.BytesAt w da x.2.2 := by
    rcases HL.out with e | e
    ·rw [e] at hx; simp at hx
    ·exact e
   subst hga;obtain ⟨da, dc, hr0, hby⟩ := hcs i x hx
   have hr : wr.rangeAt gs (os + i * 3) [.int .i64 x.1, .int .i64 x.2.1, .slice da x.2.2.length dc] := fun i v hv => cell_keep (hr0 i v hv) hCw hgl (hng gs hgl)
   clear hr0;obtain ⟨x1, x2, d⟩ := x
   simp only at o1 o2 o3 o4 hr hby
   have HR := hid hr;have HBy := hid hby;have HO3 := hid o3;obtain ⟨imi, himi⟩ : ∃ y, y = (l.take i).foldl spotI im0 := ⟨_, rfl⟩;rw [← himi] at HWi HSt;have HLi : Hid (imi.length = N) := hid (by rw [himi, fold_len]; exact HI0.out)
   have hp1 := fun W => pick_any x1 (N : Int) W o1 (by omega) (by omega)
   have hp2 := fun W => pick_any x2 128 W o2 (by omega) (by omega)
   obtain ⟨n1, hn1⟩ : ∃ y : Nat, (y : Int) = pickN x1 (N : Int) := ⟨(pickN x1 (N : Int)).toNat, by have := pickN_bd x1 (n := (N : Int)) (by omega); omega⟩;obtain ⟨n2, hn2⟩ : ∃ y : Nat, (y : Int) = pickN x2 128 := ⟨(pickN x2 128).toNat, by have := pickN_bd x2 (n := 128) (by omega); omega⟩
   have b1 : n1 < N := by have := pickN_bd x1 (n := (N : Int)) (by omega); omega
   have b2 : n2 < 128 := by have := pickN_bd x2 (n := 128) (by omega); omega
   have HSp : Hid (spotI imi (x1, x2, d) = imi.set n1 (putD (secI imi (n1 : Int)) n2 d (kD n2 d))) := hid (by
    unfold spotI
    simp only [HLi.out, ← hn1, ← hn2, Int.toNat_natCast])
   rw [← hn1] at hp1;rw [← hn2] at hp2;obtain ⟨dl, hdl⟩ : ∃ y, y = d.length := ⟨_, rfl⟩;have HDl := hid hdl;rw [← hdl] at HR o4;clear hcs hr hby hx himi hn1 hn2 o1 o2 o3 hdl hlt hgl
   go_upto_region 6 with (first
    | (refine load_mid 43 _ rfl gs (os + i * 3) rfl _ _ HR.out Tryz.underlying43 rfl (by kernel_rfl) (by rfl) ?_)
    | fail)
   have h5 : (wr.alloc (.cells #[.int .i64 x1, .int .i64 x2, .slice da dl dc] 43)).heap[wr.heap.size]? = some (.cells #[.int .i64 x1, .int .i64 x2, .slice da dl dc] 43 (0, 0)) := heap_alloc_new _ _;have hA5 := Chg.alloc wr (.cells #[.int .i64 x1, .int .i64 x2, .slice da dl dc] 43) No;obtain ⟨w5, hw5⟩ : ∃ y, y = wr.alloc (.cells #[.int .i64 x1, .int .i64 x2, .slice da dl dc] 43) := ⟨_, rfl⟩;obtain ⟨b5, hb5⟩ : ∃ y, y = wr.heap.size := ⟨_, rfl⟩;rw [← hw5] at h5 hA5 ⊢;rw [← hb5] at h5 ⊢
   have hgb : g < b5 := by rw [hb5]; exact HWi.out.lt
   have H5 := hid h5;have HA5 := hid hA5;have c50 : w5.cell? ⟨b5, 0, none⟩ = some (.int .i64 x1) := (cell_of_row _ _ _ _ _ _ h5).trans rfl;have c51 : w5.cell? ⟨b5, 1, none⟩ = some (.int .i64 x2) := (cell_of_row _ _ _ _ _ _ h5).trans rfl
   have HW5 : Hid (WtAt w5 g (imi.set n1 (putD (secI imi (n1 : Int)) n2 d 0))) := hid (by
    have e : imi.set n1 (putD (secI imi (n1 : Int)) n2 d 0) = imi := by
     have hl : n1 < imi.length := by rw [HLi.out]; exact b1
     refine List.ext_getElem? fun k => ?_
     rw [List.getElem?_set]
     split
     ·rename_i e
      subst e;rw [getD_at hl]
      rfl
     ·rfl
    rw [e]
    exact HWi.out.keep hA5 (fun e => e))
   have HC5 : Hid (Chg w2 w5 (fun j => j = g)) := hid (HCi.out.trans hA5 (fun _ _ e => e) (fun _ _ e => e.elim));have HBy5 : Hid (∀ (W' : World) (_hW : Chg w5 W' (fun j => j = g)), D.BytesAt W' da d) := hid (fun W' hW => bytes_keep HBy.out ((hCw.trans hA5 (c := fun j => j = g) (fun _ _ e => e) (fun _ _ e => e.elim)).trans hW (fun _ _ e => e) (fun _ _ e => e)) hng);clear h5 hA5 hw5 hb5 q1 hCw hng
   go_upto_region 7 with (first
    | (go_at_call 13; go_must (refine (hp1 w5).mono ?_; rintro e w7 ⟨rfl, hw7⟩; obtain rfl : w5 = w7 := hw7.symm))
    | fail)
   go_upto_region 8 with (first
    | (go_at_call 13; go_must (refine (hp2 w5).mono ?_; rintro e w7 ⟨rfl, hw7⟩; obtain rfl : w5 = w7 := hw7.symm))
    | fail)
   clear hp1 hp2 c50 c51
   have hkb : ∀ k, k ≤ kD n2 d → k ≤ 128 := fun k hk => by unfold kD at hk; omega
   have HC52 : Hid (∀ (W' : World) (_hW : Chg w5 W' (fun j => j = g)), W'.cell? ⟨b5, 2, none⟩ = some (.slice da dl dc)) := hid (fun W' hW => by
    have h0 := hW.keep H5.out (by omega)
    exact (cell_of_row _ _ _ _ _ _ h0).trans rfl)
   have HKB := hid hkb;clear hkb
   go_wp2_with fail
   go_loopw [8] (fun x wq => ∃ k : Nat, x = .int .i64 k ∧ k ≤ kD n2 d ∧ Hid (WtAt wq g (imi.set n1 (putD (secI imi (n1 : Int)) n2 d k))) ∧ Hid (Chg w5 wq (fun j => j = g))) (fun x _ => dl - (intOf x).toNat)
   case atStart => exact ⟨0, rfl, Nat.zero_le _, HW5, hid (Chg.refl _ _)⟩
   case round =>
    clear HW5;obtain ⟨k, rfl, hk, HWk, HCk⟩ := hrel;have q5 := HC52.out wr HCk.out;have hk128 := HKB.out k hk;have HKd := hid hk
    by_cases hk1 : k < dl
    ·have hk1' : (k : Int) < (dl : Int) := by omega
     by_cases hk2 : n2 + k < 128
     ·have hk2' : (n2 : Int) + (k : Int) < 128 := by omega
      have k0 : (0 : Int) ≤ (k : Int) := by omega
      have n0 : (0 : Int) ≤ (n1 : Int) := by omega
      have n1' : (n1 : Int) < (N : Int) := by omega
      have nk0 : (0 : Int) ≤ (n2 : Int) + (k : Int) := by omega
      obtain ⟨bd, od, hda, hdl, hdc⟩ : ∃ b o, da = some ⟨b, o, none⟩ ∧ b < wr.heap.size ∧ ∀ (W' : World) (_hW : Chg wr W' (fun j => j = g)), W'.cell? ⟨b, o + k, none⟩ = some (.int .u8 (d.getD k 0)) := by
       rcases HBy5.out wr HCk.out with e | ⟨b, o, e1, e2, _⟩
       ·have := HDl.out; rw [e] at this; simp at this; omega
       ·refine ⟨b, o, e1, e2, fun W' hW => ?_⟩
        rcases HBy5.out W' (HCk.out.trans hW (fun _ _ e => e) (fun _ _ e => e)) with e | ⟨b', o', e1', _, e3⟩
        ·have := HDl.out; rw [e] at this; simp at this; omega
        ·rw [e1] at e1'
         cases e1'
         exact e3 k (by rw [← HDl.out]; exact hk1)
      subst hda
      have hQ5 := fun W' (hW : Chg wr W' (fun j => j = g)) => HC52.out W' (HCk.out.trans hW (fun _ _ e => e) (fun _ _ e => e))
      obtain ⟨y, hy⟩ : ∃ y, y = d.getD k 0 := ⟨_, rfl⟩;rw [← hy] at hdc
      have hyb : 0 ≤ y ∧ y ≤ 255 := by
       rw [hy, List.getD_eq_getElem?_getD, List.getElem?_eq_getElem (by rw [← HDl.out]; exact hk1)]
       exact HO3.out _ (List.getElem_mem _)
      have HYB := hid hyb
      have HNx : Hid ((imi.set n1 (putD (secI imi (n1 : Int)) n2 d k)).set n1 ((secI (imi.set n1 (putD (secI imi (n1 : Int)) n2 d k)) (n1 : Int)).set (n2 + k) y) = imi.set n1 (putD (secI imi (n1 : Int)) n2 d (k + 1))) := hid (by
       have e1 : secI (imi.set n1 (putD (secI imi (n1 : Int)) n2 d k)) (n1 : Int) = putD (secI imi (n1 : Int)) n2 d k := by
        have := secI_set (wt := imi) (p := (n1 : Int)) (x := putD (secI imi (n1 : Int)) n2 d k) (by omega) (by rw [HLi.out]; omega);rw [Int.toNat_natCast] at this
        exact this
       rw [e1, set_again, hy]
       rfl)
      have HK1 : Hid (k + 1 ≤ kD n2 d) := hid (by unfold kD; rw [← HDl.out]; omega)
      have hlb : n1 < (imi.set n1 (putD (secI imi (n1 : Int)) n2 d k)).length := by rw [List.length_set, HLi.out]; exact b1
      have HSt9 := hid (HWk.out.byte (x := y) hlb hk2 hyb);have c9 := HWk.out;obtain ⟨_, AA, hAA, hAc⟩ := c9
      have hfz : ∀ (W' : World), Chg wr W' No → W'.frozen? ⟨g, n1 * 128 + (n2 + k), none⟩ = false := fun W' hW => frozen_of_row _ _ _ _ _ (hW.keep hAA (fun e => e))
      have HFz := hid hfz
      have HCe : Hid (∀ (W' : World), Chg wr W' No → ∃ v, W'.cell? ⟨g, n1 * 128 + (n2 + k), none⟩ = some (.int .u8 v)) := hid (fun W' hW => by
       have hsl := (HWk.out.sec (n1 : Int)).1;have h1 := hAc n1 _ (getD_at hlb) (n2 + k) _ (List.getElem?_eq_getElem (by rw [hsl]; exact hk2))
       exact ⟨_, cell_keep ((cell_of_row _ _ _ _ _ _ hAA).trans h1) hW (slt hAA) (fun e => e)⟩)
      clear hy hyb hAA hAc hfz hlb hdl
      go_upto_region 11 with fail
      refine wp_region_noPanic ?_;refine wp_region_held_drew (S := fun w' => Chg wr w' (fun j => j = g)) (by kernel_rfl) (Chg.refl _ _).drew (fun hH => ?_);refine tV 0 48 (.slice (some ⟨g, 0, none⟩) N N) rfl (by kernel_rfl) rfl (by rfl) hH (fun _ hw' => rfl) ?_;simp only [sS];refine tV 1 49 (.int .i64 (n1 : Int)) rfl (by kernel_rfl) rfl (by rfl) hH (fun _ hw' => rfl) ?_;simp only [sS];refine tV 2 50 (.int .i64 (n2 : Int)) rfl (by kernel_rfl) rfl (by rfl) hH (fun _ hw' => rfl) ?_;simp only [sS];refine tV 3 51 (.int .i64 (k : Int)) rfl (by kernel_rfl) rfl (by rfl) hH (fun _ hw' => rfl) ?_;simp only [sS];refine tV 4 52 (.int .i64 ((n2 : Int) + (k : Int))) rfl (by kernel_rfl) rfl (by rfl) hH (fun _ hw' => by clear hdc hQ5; go_simp; exact IntWalk.i64_in _ (by omega)) ?_;simp only [sS];refine tV 5 53 (.pointer (some ⟨b5, 2, none⟩)) rfl (by kernel_rfl) rfl (by rfl) hH (fun _ hw' => by clear hdc hQ5; go_simp) ?_;simp only [sS];refine tV 6 54 (.slice (some ⟨bd, od, none⟩) dl dc) rfl (by kernel_rfl) rfl (by rfl) hH (fun _ hw' => by have hc := hQ5 _ hw'; clear hdc hQ5; go_simp) ?_;simp only [sS];refine tV 7 55 (.int .i64 (k : Int)) rfl (by kernel_rfl) rfl (by rfl) hH (fun _ hw' => rfl) ?_;simp only [sS];refine tV 8 56 (.pointer (some ⟨bd, od + k, none⟩)) rfl (by kernel_rfl) rfl (by rfl) hH (fun _ hw' => by clear hdc hQ5; go_simp) ?_;simp only [sS];refine tV 9 57 (.int .u8 y) rfl (by kernel_rfl) rfl (by rfl) hH (fun _ hw' => by have hc := hdc _ hw'; clear hdc hQ5; go_simp) ?_;simp only [sS];refine tV 10 58 (.pointer (some ⟨g, n1 * 128, none⟩)) rfl (by kernel_rfl) rfl (by rfl) hH (fun _ hw' => by clear hdc hQ5; go_simp) ?_;simp only [sS];refine tV 11 59 (.pointer (some ⟨g, n1 * 128 + (n2 + k), none⟩)) rfl (by kernel_rfl) rfl (by rfl) hH (fun _ hw' => by clear hdc hQ5; have e9 : ((n2 : Int) + (k : Int)).toNat = n2 + k := (by omega); go_simp) ?_;simp only [sS];refine step1 12 (by kernel_rfl) ?_;refine stPut 12 (wr.drew.setCell ⟨g, n1 * 128 + (n2 + k), none⟩ (.int .u8 y)) rfl rfl (by rfl) (by obtain ⟨v9, hv9⟩ := HCe.out wr.drew (Chg.refl _ _).drew; have hf9 := HFz.out wr.drew (Chg.refl _ _).drew; clear hdc hQ5; go_simp) ?_;have hS9 : Chg wr (wr.drew.setCell ⟨g, n1 * 128 + (n2 + k), none⟩ (.int .u8 y)) (fun j => j = g) := ((Chg.refl wr _).drew).trans Chg.setCell (fun _ _ e => e) (fun _ _ e => e);have hw9 : WtAt (wr.drew.setCell ⟨g, n1 * 128 + (n2 + k), none⟩ (.int .u8 y)) g ((imi.set n1 (putD (secI imi (n1 : Int)) n2 d k)).set n1 ((secI (imi.set n1 (putD (secI imi (n1 : Int)) n2 d k)) (n1 : Int)).set (n2 + k) y)) := (HWk.out.keep ((Chg.refl wr No).drew) (fun e => e)).byte (x := y) (by rw [List.length_set, HLi.out]; exact b1) hk2 HYB.out;obtain ⟨w9, hw9e⟩ : ∃ z, z = wr.drew.setCell ⟨g, n1 * 128 + (n2 + k), none⟩ (.int .u8 y) := ⟨_, rfl⟩;rw [← hw9e] at hS9 hw9 ⊢;clear hw9e;refine ⟨hS9, ?_⟩;refine wpAnyH_done (by kernel_rfl) ?_ _;refine NoPanic.normal ?_;have HCn : Hid (Chg w5 w9 (fun j => j = g)) := hid (HCk.out.trans hS9 (fun _ _ e => e) (fun _ _ e => e))
      have HWn : Hid (WtAt w9 g (imi.set n1 (putD (secI imi (n1 : Int)) n2 d (k + 1)))) := hid (by
       rw [← HNx.out]
       exact hw9)
      clear hS9 hw9 hdc hQ5 q5
      go_wp2_with fail
      exact ⟨⟨k + 1, by go_num, HK1.out, HWn, HCn⟩, by simp [intOf]; omega⟩
     ·have hk2' : ¬ (n2 : Int) + (k : Int) < 128 := by omega
      have HEx : Hid (k = kD n2 d) := hid (by have := HKd.out; unfold kD at this ⊢; rw [← HDl.out] at this ⊢; omega)
      have HWn : Hid (WtAt wr g ((l.take (i + 1)).foldl spotI im0)) := hid (by
       have := HWk.out;rw [HEx.out] at this;rw [HSt.out, HSp.out]
       exact this)
      have HCn : Hid (Chg w2 wr (fun j => j = g)) := hid (HC5.out.trans HCk.out (fun _ _ e => e) (fun _ _ e => e));clear hk
      go_wp2_with fail
      exact ⟨⟨i + 1, by go_num, by omega, HWn, HCn⟩, by simp [intOf]; omega⟩
    ·have hk1' : ¬ (k : Int) < (dl : Int) := by omega
     have HEx : Hid (k = kD n2 d) := hid (by have := HKd.out; unfold kD at this ⊢; rw [← HDl.out] at this ⊢; omega)
     have HWn : Hid (WtAt wr g ((l.take (i + 1)).foldl spotI im0)) := hid (by
      have := HWk.out;rw [HEx.out] at this;rw [HSt.out, HSp.out]
      exact this)
     have HCn : Hid (Chg w2 wr (fun j => j = g)) := hid (HC5.out.trans HCk.out (fun _ _ e => e) (fun _ _ e => e));clear hk
     go_wp2_with fail
     exact ⟨⟨i + 1, by go_num, by omega, HWn, HCn⟩, by simp [intOf]; omega⟩
  ·have hki : ¬ (i : Int) < (m : Int) := by omega
   obtain rfl : i = m := by omega
   have HWn : Hid (WtAt wr g (picI s l)) := hid (by
    have := HWi.out;rw [HM.out, List.take_length, HI.out, HNs.out] at this
    exact this)
   have HCn : Hid (Chg w wr No) := hid (HA.out.trans HCi.out (fun _ _ e => e) (fun j hj e => by have := HB.out; omega));have HGe : Hid (w.heap.size ≤ g) := hid (by have := HB.out; omega);clear hi
   go_wp2_with fail
   go_ret
   exact ⟨g, rfl, HGe.out, HWn.out, HCn.out⟩
end Go.Proofs.YtboammbcoleicabGreat
