/-
  Read, Write and Copy of package disk: what they answer and leave, for every input.
-/
import Derived.Test.YtamoepninddbcaaGreatDisk1
namespace Go.Proofs.YtamoepninddbcaaGreat.D
open Go.RowKit
-- may lack

section
variable {ops : Array Oper} {Q : Exit → Act → World → Prop} {S : World → Prop} {fuel : Nat} {listed : Array Bool} {a : Act} {w : World}
/-- A sector is written in the midst of a block, as a step. -/
theorem stStoreMid (i : Nat) {o : Oper} (hop : ops[i]? = some o) (hd : o.dst = none) (hw : Region.wanted o (yielded ops a.tmps) = true) (x y : Operand) (ho : o.op = .store 47 x y)
    (g off : Nat) (hx : a.eval x = .pointer (some ⟨g, off, none⟩)) (c : List Int) (hy : a.eval y = .agg (SA c)) (hc : c.length = 128) (t : TypeId) (l : List Int) (hg : w.heap[g]? = some (.cells (SA l) t (0, 0))) (hl : off + 128 ≤ l.length)
    (h : ∀ w', WroteB w g t (over l off c) w' → S w' ∧ wpAnyH Tryz.prog .any ops Q S fuel (listed.setIfInBounds i true) a w') : St ops Q S fuel listed a w i := by
  refine wpOp_step hop (fun K hK => ?_)
  rw [if_pos hw]
  refine wp_store_mid 47 x y ho g off (SA c) hx hy (fun j hj => ?_) (by rw [sz26, SA_size, hc]) (SA_one c) ?_
  · rw [SA_size, hc] at hj
    rw [sec_cell hg (off + j) (by omega)]
    exact ⟨rfl, sec_free hg _⟩
  · have h1 := over_cells c l off w hg
    have h2 := h _ h1
    have e : (SA c).toList = c.map (Value.int .u8) := by simp [SA]
    rw [e]
    refine hK _ _ ⟨h2.1, ?_⟩
    unfold Act.put
    rw [hd]
    exact h2.2
end

/-- The sector that Read tells. -/
def readS (d : St8) (n : Nat) (i : Int) : List Int := if refE d n i = 0 then secK d.S i.toNat else Zs
theorem refE_zero {d : St8} {n : Nat} {i : Int} (h : refE d n i = 0) : d.dn = false ∧ 0 ≤ i ∧ i < n := by
  unfold refE at h
  split at h
  · cases h
  · split at h
    · cases h
    · rename_i h1 h2
      exact ⟨by simpa using h1, by omega, by omega⟩
theorem readS_len {w : World} {p g n : Nat} {d : St8} (h : IsD w p g n d) (i : Int) : (readS d n i).length = 128 := by
  unfold readS
  split
  · rename_i h1
    have := refE_zero h1
    exact secK_len h.len (by omega)
  · exact Zs_len
theorem row_sec {w : World} {g n k : Nat} {t : TypeId} {l : List Int} (h : w.heap[g]? = some (.cells (SA l) t (0, 0))) (hl : l.length = 128 * n) (hk : k < n) : w.rangeAt g (k * 128) ((secK l k).map (Value.int .u8)) := by
  have := secK_range (w := w) (b := g) (o := 0) hl hk (fun j hj => by rw [Nat.zero_add]; exact sec_cell h j hj)
  rw [Nat.zero_add] at this
  exact this

set_option maxRecDepth 100000 in
set_option maxHeartbeats 1000000 in
theorem read_any {p g n : Nat} {d : St8} (i : Int) (w : World) (h : IsD w p g n d) : Calls Tryz.prog 67 #[.pointer (some ⟨p, 0, none⟩), .int .i64 i] w fun e w' => e = .returned (.tuple #[.agg (SA (readS d n i)), .int .i64 (refE d n i)]) ∧ Below w.heap.size w w' := by
  have hz := zero_sec
  have hbz := build_sec
  have hb0 : Below w.heap.size w (w.alloc (.cells (SA Zs) 47)) := Below.refl_call w _
  have h1 := h.call hb0
  have hr := refusal_any i _ h1
  have hn0 : (w.alloc (.cells (SA Zs) 47)).heap[w.heap.size]? = some (.cells (SA Zs) 47 (0, 0)) := heap_alloc_new _ _
  by_cases he : refE d n i = 0
  · have hi := refE_zero he
    have HS : Hid (readS d n i = secK d.S i.toNat) := by show _ = _; simp [readS, he]
    have hlen : (secK d.S i.toNat).length = 128 := secK_len h.len (by omega)
    have HR := hid (row_sec h1.row h.len (show i.toNat < n by omega))
    have HN := hid hn0
    rw [he] at hr
    have HE := hid he
    have h0 := h1.c0
    obtain ⟨_, hi0, hi1⟩ := hi
    clear he hn0
    generalize secK d.S i.toNat = c at *
    go_enter Tryz.func67, Tryz.ntmps67
    go_wp2_with (first | (go_at_call 55; refine hr.mono ?_; rintro e w1 ⟨rfl, rfl⟩) | (refine wpList_load_mid rfl 47 _ rfl g (i.toNat * 128) rfl (c.map (Value.int .u8)) _ HR.out Tryz.underlying47 rfl (by rw [sz26, List.length_map, hlen]) ?_) | (refine store_sec rfl _ _ rfl w.heap.size rfl c rfl hlen Zs Zs_len HN.out ?_; intro w2 hw2))
    refine bodyPost_ret (v := .tuple #[.agg (SA c), .int .i64 0]) (results_sec Tryz.results67 _ _ w.heap.size c hlen _ rfl rfl hw2.here) rfl ⟨?_, hw2.below hb0 (Nat.le_refl _)⟩
    rw [HS.out, HE.out]
  · have HS : Hid (readS d n i = Zs) := by show _ = _; simp [readS, he]
    have HN := hid hn0
    clear hn0
    generalize refE d n i = E at *
    go_enter Tryz.func67, Tryz.ntmps67
    go_wp2_with (first | (go_at_call 55; refine hr.mono ?_; rintro e w1 ⟨rfl, rfl⟩) | (refine store_sec rfl _ _ rfl w.heap.size rfl Zs rfl Zs_len Zs Zs_len HN.out ?_; intro w2 hw2))
    refine bodyPost_ret (v := .tuple #[.agg (SA Zs), .int .i64 E]) (results_sec Tryz.results67 _ _ w.heap.size Zs Zs_len _ rfl rfl hw2.here) rfl ⟨?_, hw2.below hb0 (Nat.le_refl _)⟩
    rw [HS.out]

/-- What Write answers, and what is then. -/
def writeE (d : St8) (n : Nat) (i : Int) : Int := if refE d n i = 0 then (if d.ar = true ∧ d.lf = 0 then 22 else 0) else refE d n i
def writeD (d : St8) (n : Nat) (i : Int) (s : List Int) : St8 :=
  if refE d n i = 0 then (if d.ar = true ∧ d.lf = 0 then ⟨d.S, d.wr, true, d.ar, d.lf⟩ else ⟨over d.S (i.toNat * 128) s, d.wr + 1, d.dn, d.ar, if d.ar = true then d.lf - 1 else d.lf⟩) else d

theorem over_len : ∀ (r l : List Int) (o : Nat), (over l o r).length = l.length
  | [], _, _ => rfl
  | x :: r, l, o => by rw [over, over_len r, List.length_set]

set_option maxRecDepth 100000 in
set_option maxHeartbeats 1000000 in
theorem write_no {p g n : Nat} {d : St8} (i : Int) (s : List Int) (w : World) (h : IsD w p g n d) (he : refE d n i ≠ 0) : Calls Tryz.prog 16 #[.pointer (some ⟨p, 0, none⟩), .int .i64 i, .agg (SA s)] w fun e w' => e = .returned (.int .i64 (refE d n i)) ∧ IsD w' p g n d ∧ Below w.heap.size w w' := by
  have hb0 : Below w.heap.size w (w.alloc (.cells (SA s) 47)) := Below.refl_call w _
  have h1 := h.call hb0
  have hr := refusal_any i _ h1
  generalize refE d n i = E at *
  go_enter Tryz.func16, Tryz.ntmps16
  go_wp2_with (go_at_call 55; refine hr.mono ?_; rintro e w1 ⟨rfl, rfl⟩)
  go_ret
  exact ⟨rfl, h1, hb0⟩

set_option maxRecDepth 100000 in
set_option maxHeartbeats 1000000 in
theorem write_off {p g n : Nat} {d : St8} (i : Int) (s : List Int) (w : World) (h : IsD w p g n d) (he : refE d n i = 0) (ha : d.ar = true) (hl : d.lf = 0) : Calls Tryz.prog 16 #[.pointer (some ⟨p, 0, none⟩), .int .i64 i, .agg (SA s)] w fun e w' => e = .returned (.int .i64 22) ∧ IsD w' p g n ⟨d.S, d.wr, true, d.ar, d.lf⟩ ∧ Mod w w' [p] := by
  have hb0 : Below w.heap.size w (w.alloc (.cells (SA s) 47)) := Below.refl_call w _
  have h1 := h.call hb0
  have hr := refusal_any i _ h1
  rw [he] at hr
  have h2 := h1.c2
  have h3 := h1.c3
  have h4 := h1.c4
  have f2 := h1.fz 2
  rw [ha] at h3
  rw [hl] at h4
  clear he ha hl
  go_enter Tryz.func16, Tryz.ntmps16
  go_wp2_with (go_at_call 55; refine hr.mono ?_; rintro e w1 ⟨rfl, rfl⟩)
  go_ret
  exact ⟨rfl, h1.put 2 _ rfl rfl, ((Mod.of_below hb0).trans Mod.set).mono (by simp)⟩

set_option maxRecDepth 100000 in
set_option maxHeartbeats 1000000 in
theorem write_free {p g n : Nat} {d : St8} (i : Int) (s : List Int) (w : World) (h : IsD w p g n d) (he : refE d n i = 0) (ha : d.ar = false) (hs : s.length = 128) (hw0 : 0 ≤ d.wr) (hw1 : d.wr < 4611686018427387904) : Calls Tryz.prog 16 #[.pointer (some ⟨p, 0, none⟩), .int .i64 i, .agg (SA s)] w fun e w' => e = .returned (.int .i64 0) ∧ IsD w' p g n ⟨over d.S (i.toNat * 128) s, d.wr + 1, d.dn, d.ar, d.lf⟩ ∧ Mod w w' [p, g] := by
  have hb0 : Below w.heap.size w (w.alloc (.cells (SA s) 47)) := Below.refl_call w _
  have h1 := h.call hb0
  have hr := refusal_any i _ h1
  have hB1 : (w.alloc (.cells (SA s) 47)).heap[w.heap.size]? = some (.cells (SA s) 47 (0, 0)) := heap_alloc_new _ _
  have HGL : Hid (w.heap.size ≠ g) := Nat.ne_of_gt (slt h.row)
  have HPL : Hid (w.heap.size ≠ p) := Nat.ne_of_gt (slt h.me)
  obtain ⟨_, hi0, hi1⟩ := refE_zero he
  rw [he] at hr
  have h0 := h1.c0
  have h3 := h1.c3
  rw [ha] at h3
  have hne := h.ne
  have HOF : Hid (i.toNat * 128 + 128 ≤ d.S.length) := by show _ ≤ _; rw [h.len]; omega
  have HROW := hid h1.row
  have HME := hid h1.me
  have HB1 := hid hB1
  have HC0 := hid h0
  clear he ha hB1
  go_enter Tryz.func16, Tryz.ntmps16
  go_wp2_with (go_at_call 55; refine hr.mono ?_; rintro e w1 ⟨rfl, rfl⟩)
  refine wp_region_noPanic ?_
  refine wp_region_held_drew (S := fun w' => w'.cell? ⟨p, 0, none⟩ = some (.slice (some ⟨g, 0, none⟩) n n) ∧ w'.heap[w.heap.size]? = some (.cells (SA s) 47 (0, 0))) (by kernel_rfl) ⟨HC0.out, HB1.out⟩ (fun hHeld => ?_)
  refine takeVal 0 39 (.pointer (some ⟨p, 0, none⟩)) rfl (by kernel_rfl) (by kernel_rfl) (by kernel_rfl) rfl (by rfl) (fun _ _ _ h => h) hHeld (fun _ hw' => rfl) ?_
  simp only [List.setIfInBounds_toArray, List.set_cons_zero, List.set_cons_succ]
  refine takeVal 1 40 (.pointer (some ⟨p, 0, none⟩)) rfl (by kernel_rfl) (by kernel_rfl) (by kernel_rfl) rfl (by rfl) (fun _ _ _ h => h) hHeld (fun _ hw' => by go_simp) ?_
  simp only [List.setIfInBounds_toArray, List.set_cons_zero, List.set_cons_succ]
  refine takeVal 2 41 (.pointer (some ⟨p, 0, none⟩)) rfl (by kernel_rfl) (by kernel_rfl) (by kernel_rfl) rfl (by rfl) (fun _ _ _ h => h) hHeld (fun _ hw' => by go_simp) ?_
  simp only [List.setIfInBounds_toArray, List.set_cons_zero, List.set_cons_succ]
  refine takeVal 3 42 (.slice (some ⟨g, 0, none⟩) n n) rfl (by kernel_rfl) (by kernel_rfl) (by kernel_rfl) rfl (by rfl) (fun _ _ _ h => h) hHeld (fun _ hw' => by have hq := hw'.1; go_simp) ?_
  simp only [List.setIfInBounds_toArray, List.set_cons_zero, List.set_cons_succ]
  refine takeVal 4 43 (.int .i64 i) rfl (by kernel_rfl) (by kernel_rfl) (by kernel_rfl) rfl (by rfl) (fun _ _ _ h => h) hHeld (fun _ hw' => rfl) ?_
  simp only [List.setIfInBounds_toArray, List.set_cons_zero, List.set_cons_succ]
  refine takeSec 5 44 (.tmp 5) w.heap.size s hs rfl (by kernel_rfl) (by kernel_rfl) (by kernel_rfl) rfl rfl rfl (by rfl) (fun _ _ _ h => h) hHeld (fun _ h => h.2) ?_
  simp only [List.setIfInBounds_toArray, List.set_cons_zero, List.set_cons_succ]
  refine takeVal 6 45 (.pointer (some ⟨g, i.toNat * 128, none⟩)) rfl (by kernel_rfl) (by kernel_rfl) (by kernel_rfl) rfl (by rfl) (fun _ _ _ h => h) hHeld (fun _ hw' => by go_simp) ?_
  simp only [List.setIfInBounds_toArray, List.set_cons_zero, List.set_cons_succ]
  refine step1 7 (by kernel_rfl) ?_
  refine stStoreMid 7 rfl rfl (by rfl) _ _ rfl g (i.toNat * 128) rfl s rfl hs 47 d.S HROW.out HOF.out ?_
  intro w2 hw2
  have hp2 : w2.heap[p]? = _ := (hw2.other p hne).trans HME.out
  refine ⟨⟨by rw [cell_of_row _ _ _ _ _ _ hp2]; rfl, (hw2.other w.heap.size HGL.out).trans HB1.out⟩, ?_⟩
  refine wpAnyH_done (by kernel_rfl) ?_ _
  refine NoPanic.normal ?_
  have h2 : IsD w2 p g n ⟨over d.S (i.toNat * 128) s, d.wr, d.dn, d.ar, d.lf⟩ := ⟨hp2, hw2.here, by rw [over_len]; exact h.len, h.pos, h.top⟩
  have h21 := h2.c1
  have h2f := h2.fz 1
  have HM := hid ((Mod.of_below hb0).drew.trans (Mod.wrote hw2))
  have H2 := hid h2
  clear hw2 hp2 h2 hHeld
  simp only at h21
  go_wp2
  go_ret
  exact ⟨rfl, H2.out.put 1 _ rfl rfl, (HM.out.trans Mod.set).mono (by simp)⟩

set_option maxRecDepth 100000 in
set_option maxHeartbeats 1000000 in
theorem write_left {p g n : Nat} {d : St8} (i : Int) (s : List Int) (w : World) (h : IsD w p g n d) (he : refE d n i = 0) (ha : d.ar = true) (hl0 : 0 < d.lf) (hl1 : d.lf ≤ 9223372036854775807) (hs : s.length = 128) (hw0 : 0 ≤ d.wr) (hw1 : d.wr < 4611686018427387904) : Calls Tryz.prog 16 #[.pointer (some ⟨p, 0, none⟩), .int .i64 i, .agg (SA s)] w fun e w' => e = .returned (.int .i64 0) ∧ IsD w' p g n ⟨over d.S (i.toNat * 128) s, d.wr + 1, d.dn, d.ar, d.lf - 1⟩ ∧ Mod w w' [p, g] := by
  have hb0 : Below w.heap.size w (w.alloc (.cells (SA s) 47)) := Below.refl_call w _
  have h1 := h.call hb0
  have hr := refusal_any i _ h1
  have hB1 : (w.alloc (.cells (SA s) 47)).heap[w.heap.size]? = some (.cells (SA s) 47 (0, 0)) := heap_alloc_new _ _
  have HGL : Hid (w.heap.size ≠ g) := Nat.ne_of_gt (slt h.row)
  have HPL : Hid (w.heap.size ≠ p) := Nat.ne_of_gt (slt h.me)
  obtain ⟨_, hi0, hi1⟩ := refE_zero he
  rw [he] at hr
  have h0 := h1.c0
  have h3 := h1.c3
  rw [ha] at h3
  have hne := h.ne
  have HOF : Hid (i.toNat * 128 + 128 ≤ d.S.length) := by show _ ≤ _; rw [h.len]; omega
  have h4 := h1.c4
  have f4 := h1.fz 4
  have a1 : IsD ((w.alloc (.cells (SA s) 47)).setCell ⟨p, 4, none⟩ (.int .i64 (d.lf - 1))) p g n ⟨d.S, d.wr, d.dn, d.ar, d.lf - 1⟩ := h1.put 4 _ rfl rfl
  have HROW := hid a1.row
  have HME := hid a1.me
  have HB1 : Hid (((w.alloc (.cells (SA s) 47)).setCell ⟨p, 4, none⟩ (.int .i64 (d.lf - 1))).heap[w.heap.size]? = some (.cells (SA s) 47 (0, 0))) := by
    show _ = _
    rw [heap_setCell_other _ ⟨p, 4, none⟩ w.heap.size _ HPL.out]
    exact hB1
  have HC0 := hid a1.c0
  have HM0 := hid ((Mod.of_below hb0).trans (Mod.set (g := p) (j := 4) (v := .int .i64 (d.lf - 1))))
  clear he ha hB1 a1
  go_enter Tryz.func16, Tryz.ntmps16
  go_wp2_with (go_at_call 55; refine hr.mono ?_; rintro e w1 ⟨rfl, rfl⟩)
  refine wp_region_noPanic ?_
  refine wp_region_held_drew (S := fun w' => w'.cell? ⟨p, 0, none⟩ = some (.slice (some ⟨g, 0, none⟩) n n) ∧ w'.heap[w.heap.size]? = some (.cells (SA s) 47 (0, 0))) (by kernel_rfl) ⟨HC0.out, HB1.out⟩ (fun hHeld => ?_)
  refine takeVal 0 39 (.pointer (some ⟨p, 0, none⟩)) rfl (by kernel_rfl) (by kernel_rfl) (by kernel_rfl) rfl (by rfl) (fun _ _ _ h => h) hHeld (fun _ hw' => rfl) ?_
  simp only [List.setIfInBounds_toArray, List.set_cons_zero, List.set_cons_succ]
  refine takeVal 1 40 (.pointer (some ⟨p, 0, none⟩)) rfl (by kernel_rfl) (by kernel_rfl) (by kernel_rfl) rfl (by rfl) (fun _ _ _ h => h) hHeld (fun _ hw' => by go_simp) ?_
  simp only [List.setIfInBounds_toArray, List.set_cons_zero, List.set_cons_succ]
  refine takeVal 2 41 (.pointer (some ⟨p, 0, none⟩)) rfl (by kernel_rfl) (by kernel_rfl) (by kernel_rfl) rfl (by rfl) (fun _ _ _ h => h) hHeld (fun _ hw' => by go_simp) ?_
  simp only [List.setIfInBounds_toArray, List.set_cons_zero, List.set_cons_succ]
  refine takeVal 3 42 (.slice (some ⟨g, 0, none⟩) n n) rfl (by kernel_rfl) (by kernel_rfl) (by kernel_rfl) rfl (by rfl) (fun _ _ _ h => h) hHeld (fun _ hw' => by have hq := hw'.1; go_simp) ?_
  simp only [List.setIfInBounds_toArray, List.set_cons_zero, List.set_cons_succ]
  refine takeVal 4 43 (.int .i64 i) rfl (by kernel_rfl) (by kernel_rfl) (by kernel_rfl) rfl (by rfl) (fun _ _ _ h => h) hHeld (fun _ hw' => rfl) ?_
  simp only [List.setIfInBounds_toArray, List.set_cons_zero, List.set_cons_succ]
  refine takeSec 5 44 (.tmp 5) w.heap.size s hs rfl (by kernel_rfl) (by kernel_rfl) (by kernel_rfl) rfl rfl rfl (by rfl) (fun _ _ _ h => h) hHeld (fun _ h => h.2) ?_
  simp only [List.setIfInBounds_toArray, List.set_cons_zero, List.set_cons_succ]
  refine takeVal 6 45 (.pointer (some ⟨g, i.toNat * 128, none⟩)) rfl (by kernel_rfl) (by kernel_rfl) (by kernel_rfl) rfl (by rfl) (fun _ _ _ h => h) hHeld (fun _ hw' => by go_simp) ?_
  simp only [List.setIfInBounds_toArray, List.set_cons_zero, List.set_cons_succ]
  refine step1 7 (by kernel_rfl) ?_
  refine stStoreMid 7 rfl rfl (by rfl) _ _ rfl g (i.toNat * 128) rfl s rfl hs 47 d.S HROW.out HOF.out ?_
  intro w2 hw2
  have hp2 : w2.heap[p]? = _ := (hw2.other p hne).trans HME.out
  refine ⟨⟨by rw [cell_of_row _ _ _ _ _ _ hp2]; rfl, (hw2.other w.heap.size HGL.out).trans HB1.out⟩, ?_⟩
  refine wpAnyH_done (by kernel_rfl) ?_ _
  refine NoPanic.normal ?_
  have h2 : IsD w2 p g n ⟨over d.S (i.toNat * 128) s, d.wr, d.dn, d.ar, d.lf - 1⟩ := ⟨hp2, hw2.here, by rw [over_len]; exact h.len, h.pos, h.top⟩
  have h21 := h2.c1
  have h2f := h2.fz 1
  have HM := hid (HM0.out.drew.trans (Mod.wrote hw2))
  have H2 := hid h2
  clear hw2 hp2 h2 hHeld
  simp only at h21
  go_wp2
  go_ret
  exact ⟨rfl, H2.out.put 1 _ rfl rfl, (HM.out.trans Mod.set).mono (by simp)⟩

/-- Write, as one. -/
theorem write_any {p g n : Nat} {d : St8} (i : Int) (s : List Int) (w : World) (h : IsD w p g n d) (hs : s.length = 128) (hw0 : 0 ≤ d.wr) (hw1 : d.wr < 4611686018427387904) (hl : 0 ≤ d.lf ∧ d.lf ≤ 9223372036854775807) :
    Calls Tryz.prog 16 #[.pointer (some ⟨p, 0, none⟩), .int .i64 i, .agg (SA s)] w fun e w' => e = .returned (.int .i64 (writeE d n i)) ∧ IsD w' p g n (writeD d n i s) ∧ Mod w w' [p, g] := by
  unfold writeE writeD
  by_cases he : refE d n i = 0
  · rw [if_pos he, if_pos he]
    cases ha : d.ar
    · rw [if_neg (by simp), if_neg (by simp), if_neg (by simp)]
      have := write_free i s w h he ha hs hw0 hw1
      rw [ha] at this
      exact this
    · by_cases hz : d.lf = 0
      · rw [if_pos ⟨rfl, hz⟩, if_pos ⟨rfl, hz⟩]
        have := write_off i s w h he ha hz
        rw [ha] at this
        exact this.mono fun e w' k => ⟨k.1, k.2.1, k.2.2.mono (by simp)⟩
      · rw [if_neg (by simp [hz]), if_neg (by simp [hz]), if_pos rfl]
        have := write_left i s w h he ha (by omega) hl.2 hs hw0 hw1
        rw [ha] at this
        exact this
  · rw [if_neg he, if_neg he]
    exact (write_no i s w h he).mono fun e w' k => ⟨k.1, k.2.1, (Mod.of_below k.2.2).mono (by simp)⟩

/-- One block is written. -/
structure Put (w : World) (g : Nat) (o : Obj) (w' : World) : Prop where
  here : w'.heap[g]? = some o
  other : ∀ k, k ≠ g → w'.heap[k]? = w.heap[k]?
  size : w'.heap.size = w.heap.size
  os : w'.os = w.os
  tape : w'.tape = w.tape
  output : w'.output = w.output
theorem Put.mod {w w' : World} {g : Nat} {o : Obj} (h : Put w g o w') : Mod w w' [g] := ⟨h.os, h.tape, h.output, Nat.le_of_eq h.size.symm, fun k _ hn => h.other k (fun e => hn (by simp [e]))⟩
theorem put_row {w : World} {g : Nat} {t : TypeId} {old : Array Value} (c : Array Value) (hg : w.heap[g]? = some (.cells old t (0, 0))) : Put w g (.cells c t (0, 0)) (w.setRow g c) := by
  refine ⟨?_, ?_, ?_, rfl, rfl, rfl⟩
  · simp [World.setRow, Array.getElem?_modify, hg]
  · intro k hk
    simp only [World.setRow, Array.getElem?_modify]
    rw [if_neg (fun e => hk e.symm)]
  · simp [World.setRow]
theorem put_cell {w : World} {g j : Nat} {t : TypeId} {old : Array Value} (v : Value) (hg : w.heap[g]? = some (.cells old t (0, 0))) : Put w g (.cells (old.setIfInBounds j v) t (0, 0)) (w.setCell ⟨g, j, none⟩ v) :=
  ⟨heap_setCell_same w g j old t v hg, fun k hk => heap_setCell_other w ⟨g, j, none⟩ k _ hk, by simp [World.setCell], rfl, rfl, rfl⟩
/-- A struct of some cells is written over a row of its type. -/
theorem store_row {ops : Array Oper} {rest : List Oper} {o : Oper} {a : Act} {w : World} {Q : Exit → Act → World → Prop} (hgd : o.guard = none) (t : TypeId) (x y : Operand) (ho : o.op = .store t x y)
    (g : Nat) (hx : a.eval x = .pointer (some ⟨g, 0, none⟩)) (c : Array Value) (hy : a.eval y = .agg c) (old : Array Value) (hg : w.heap[g]? = some (.cells old t (0, 0))) (hs : (Tryz.prog.info? t).map (·.size) = some c.size) (hz : old.size = c.size) (h1 : c.all (·.oneCell') = true)
    (h : ∀ w', Put w g (.cells c t (0, 0)) w' → wpList Tryz.prog ops Q rest (a.put o.dst undef) w') : wpList Tryz.prog ops Q (o :: rest) a w :=
  wpList_store_row hgd t x y ho g c hx hy t old hg hs hz h1 (h _ (put_row c hg))

end Go.Proofs.YtamoepninddbcaaGreat.D
