/-
  The document's disk, call by call: what it answers and leaves, for every input.
-/
import Derived.Test.YtamoepninddbcaaGreatDiskRF
namespace Go.Proofs.YtamoepninddbcaaGreat.D
open Go.RowKit
-- may lack

theorem szD : (Tryz.prog.info? 81).map (·.size) = some 5 := by kernel_rfl
theorem DC_size (g n : Nat) (wr : Int) (dn ar : Bool) (lf : Int) : (DC g n wr dn ar lf).size = 5 := rfl
theorem zero_disk (w : World) : (zeroValue 81).run Tryz.prog w = .ok (.agg #[.slice none 0 0, .int .i64 0, .bool false, .bool false, .int .i64 0]) w := by kernel_rfl
theorem DC_one (g n : Nat) (wr : Int) (dn ar : Bool) (lf : Int) : (DC g n wr dn ar lf).all (·.oneCell') = true := by simp [DC, Value.oneCell']

end Go.Proofs.YtamoepninddbcaaGreat.D

namespace Go.Proofs.YtamoepninddbcaaGreat.D
open Go.RowKit
-- may lack

/-- The document's disk lies at r, its sectors at k, with room behind them. -/
structure IsQ (w : World) (r k n c : Nat) (X : Array Value) (d : St8) : Prop where
  me : w.heap[r]? = some (.cells (RCv (.slice (some ⟨k, 0, none⟩) n c) d.wr d.ar d.lf d.dn) 83 (0, 0))
  row : w.heap[k]? = some (.cells (SA d.S ++ X) 47 (0, 0))
  len : d.S.length = 128 * n
  pos : 1 ≤ n
  top : n ≤ 4096
  le : n ≤ c
  big : c ≤ maxLen
  sz : X.size = (c - n) * 128
theorem IsQ.of_isR {w : World} {r n : Nat} {v : Value} {d : St8} (h : IsR w r v n d) : ∃ k c X, v = .slice (some ⟨k, 0, none⟩) n c ∧ IsQ w r k n c X d := by
  have hl := h.own.len
  rcases h.own.2 with ⟨_, h0⟩ | ⟨g, cap, cur, rfl, hg, hc, hn, hm, hs, ht⟩
  · have := h.pos
    omega
  · refine ⟨g, cap, (cur.toList.drop (n * 128)).toArray, rfl, h.me, ?_, by rw [hl, Nat.mul_comm], h.pos, h.top, hn, hm, ?_⟩
    · rw [hc]
      congr 2
      apply Array.toList_inj.1
      rw [Array.toList_append]
      show cur.toList = d.S.map (Value.int .u8) ++ cur.toList.drop (n * 128)
      rw [← ht, List.take_append_drop]
    · rw [List.size_toArray, List.length_drop, Array.length_toList, hs, Nat.sub_mul]
theorem IsQ.isR {w : World} {r k n c : Nat} {X : Array Value} {d : St8} (h : IsQ w r k n c X d) : IsR w r (.slice (some ⟨k, 0, none⟩) n c) n d := by
  have hl : (d.S.map (Value.int .u8)).length = n * 128 := by rw [List.length_map, h.len, Nat.mul_comm]
  refine ⟨h.me, ⟨hl, .inr ⟨k, c, SA d.S ++ X, rfl, Nat.zero_le _, h.row, h.le, h.big, ?_, ?_⟩⟩, h.pos, h.top⟩
  · rw [Array.size_append, SA_size, h.len, h.sz, ← Nat.mul_comm n 128, ← Nat.add_mul]
    congr 1
    have := h.le
    omega
  · rw [Array.toList_append]
    show ((d.S.map (Value.int .u8)) ++ X.toList).take (n * 128) = _
    exact List.take_left' hl
theorem IsQ.keep {w w' : World} {r k n c : Nat} {X : Array Value} {d : St8} {ks : List Nat} (h : IsQ w r k n c X d) (hm : Mod w w' ks) (hr : r ∉ ks) (hk : k ∉ ks) : IsQ w' r k n c X d :=
  ⟨by rw [hm.block r (slt h.me) hr]; exact h.me, by rw [hm.block k (slt h.row) hk]; exact h.row, h.len, h.pos, h.top, h.le, h.big, h.sz⟩
theorem IsQ.call {w w' : World} {r k n c : Nat} {X : Array Value} {d : St8} (h : IsQ w r k n c X d) (hb : Below w.heap.size w w') : IsQ w' r k n c X d := h.keep (Mod.of_below hb) (by simp) (by simp)
theorem IsQ.drew {w : World} {r k n c : Nat} {X : Array Value} {d : St8} (h : IsQ w r k n c X d) : IsQ w.drew r k n c X d := ⟨h.me, h.row, h.len, h.pos, h.top, h.le, h.big, h.sz⟩
theorem IsQ.ne {w : World} {r k n c : Nat} {X : Array Value} {d : St8} (h : IsQ w r k n c X d) : r ≠ k := by
  intro e
  have h1 := h.me
  rw [e, h.row] at h1
  injection h1 with h1
  injection h1 with _ h2
  revert h2
  decide
theorem IsQ.c0 {w : World} {r k n c : Nat} {X : Array Value} {d : St8} (h : IsQ w r k n c X d) : w.cell? ⟨r, 0, none⟩ = some (.slice (some ⟨k, 0, none⟩) n c) := h.isR.c0
theorem IsQ.c1 {w : World} {r k n c : Nat} {X : Array Value} {d : St8} (h : IsQ w r k n c X d) : w.cell? ⟨r, 1, none⟩ = some (.int .i64 d.wr) := h.isR.c1
theorem IsQ.c2 {w : World} {r k n c : Nat} {X : Array Value} {d : St8} (h : IsQ w r k n c X d) : w.cell? ⟨r, 2, none⟩ = some (.bool d.ar) := h.isR.c2
theorem IsQ.c3 {w : World} {r k n c : Nat} {X : Array Value} {d : St8} (h : IsQ w r k n c X d) : w.cell? ⟨r, 3, none⟩ = some (.int .i64 d.lf) := h.isR.c3
theorem IsQ.c4 {w : World} {r k n c : Nat} {X : Array Value} {d : St8} (h : IsQ w r k n c X d) : w.cell? ⟨r, 4, none⟩ = some (.bool d.dn) := h.isR.c4
theorem IsQ.fz {w : World} {r k n c : Nat} {X : Array Value} {d : St8} (h : IsQ w r k n c X d) (j : Nat) : w.frozen? ⟨r, j, none⟩ = false := frozen_of_row w r j _ _ h.me
theorem IsQ.put {w : World} {r k n c : Nat} {X : Array Value} {d d' : St8} (h : IsQ w r k n c X d) (j : Nat) (v : Value) (hS : d'.S = d.S) (he : (RCv (.slice (some ⟨k, 0, none⟩) n c) d.wr d.ar d.lf d.dn).setIfInBounds j v = RCv (.slice (some ⟨k, 0, none⟩) n c) d'.wr d'.ar d'.lf d'.dn) : IsQ (w.setCell ⟨r, j, none⟩ v) r k n c X d' := by
  refine ⟨?_, ?_, by rw [hS]; exact h.len, h.pos, h.top, h.le, h.big, h.sz⟩
  · rw [heap_setCell_same w r j _ 83 v h.me, he]
  · rw [heap_setCell_other w ⟨r, j, none⟩ k v (fun e => h.ne e.symm), hS]
    exact h.row

theorem SAX_get (a : List Int) (X : Array Value) (j : Nat) (h : j < a.length) : (SA a ++ X)[j]? = some (.int .u8 (a.getD j 0)) := by
  rw [Array.getElem?_append_left (by rw [SA_size]; exact h)]
  exact SA_get a j h
theorem rowX_bytes {w : World} {g : Nat} {t : TypeId} {a : List Int} {X : Array Value} (h : w.heap[g]? = some (.cells (SA a ++ X) t (0, 0))) : BytesAt w (some ⟨g, 0, none⟩) a :=
  .inr ⟨g, 0, rfl, slt h, fun j hj => by rw [Nat.zero_add, cell_of_row _ _ _ _ t (0, 0) h]; exact SAX_get a X j hj⟩
theorem rowX_sec {w : World} {g n k : Nat} {t : TypeId} {a : List Int} {X : Array Value} (h : w.heap[g]? = some (.cells (SA a ++ X) t (0, 0))) (hl : a.length = 128 * n) (hk : k < n) : w.rangeAt g (k * 128) ((secK a k).map (Value.int .u8)) := by
  have := secK_range (w := w) (b := g) (o := 0) hl hk (fun j hj => by rw [Nat.zero_add, cell_of_row _ _ _ _ t (0, 0) h]; exact SAX_get a X j hj)
  rw [Nat.zero_add] at this
  exact this
theorem SAX_set (a : List Int) (X : Array Value) (j : Nat) (x : Int) (h : j < a.length) : (SA a ++ X).setIfInBounds j (.int .u8 x) = SA (a.set j x) ++ X := by
  apply Array.toList_inj.1
  rw [Array.toList_setIfInBounds, Array.toList_append, Array.toList_append]
  show ((a.map (Value.int .u8)) ++ X.toList).set j _ = (a.set j x).map (Value.int .u8) ++ X.toList
  rw [List.set_append_left _ _ (by simpa using h), List.map_set]
theorem Put.trans {w w1 w2 : World} {g : Nat} {o o' : Obj} (h : Put w g o w1) (k : Put w1 g o' w2) : Put w g o' w2 :=
  ⟨k.here, fun j hj => (k.other j hj).trans (h.other j hj), k.size.trans h.size, k.os.trans h.os, k.tape.trans h.tape, k.output.trans h.output⟩
theorem overX_cells {g : Nat} {t : TypeId} {X : Array Value} : ∀ (r l : List Int) (o : Nat) (w : World), o + r.length ≤ l.length → w.heap[g]? = some (.cells (SA l ++ X) t (0, 0)) → Put w g (.cells (SA (over l o r) ++ X) t (0, 0)) (w.setCells g o (r.map (Value.int .u8)))
  | [], _, _, _, _, h => ⟨h, fun _ _ => rfl, rfl, rfl, rfl, rfl⟩
  | x :: r, l, o, w, hl, h => by
    simp only [List.length_cons] at hl
    have h1 := put_cell (j := o) (.int .u8 x) h
    rw [SAX_set l X o x (by omega)] at h1
    exact h1.trans (overX_cells r (l.set o x) (o + 1) _ (by rw [List.length_set]; omega) h1.here)

section
variable {ops : Array Oper} {Q : Exit → Act → World → Prop} {S : World → Prop} {fuel : Nat} {listed : Array Bool} {a : Act} {w : World}
theorem stStoreX (i : Nat) {o : Oper} (hop : ops[i]? = some o) (hd : o.dst = none) (hw : Region.wanted o (yielded ops a.tmps) = true) (x y : Operand) (ho : o.op = .store 47 x y)
    (g off : Nat) (hx : a.eval x = .pointer (some ⟨g, off, none⟩)) (c : List Int) (hy : a.eval y = .agg (SA c)) (hc : c.length = 128) (t : TypeId) (l : List Int) (X : Array Value) (hg : w.heap[g]? = some (.cells (SA l ++ X) t (0, 0))) (hl : off + 128 ≤ l.length)
    (h : ∀ w', Put w g (.cells (SA (over l off c) ++ X) t (0, 0)) w' → S w' ∧ wpAnyH Tryz.prog .any ops Q S fuel (listed.setIfInBounds i true) a w') : St ops Q S fuel listed a w i := by
  refine wpOp_step hop (fun K hK => ?_)
  rw [if_pos hw]
  refine wp_store_mid 47 x y ho g off (SA c) hx hy (fun j hj => ?_) (by rw [sz26, SA_size, hc]) (SA_one c) ?_
  · rw [SA_size, hc] at hj
    rw [cell_of_row _ _ _ _ t (0, 0) hg, SAX_get l X (off + j) (by omega)]
    exact ⟨rfl, frozen_of_row w g _ _ t hg⟩
  · have h2 := h _ (overX_cells c l off w (by rw [hc]; exact hl) hg)
    have e : (SA c).toList = c.map (Value.int .u8) := by simp [SA]
    rw [e]
    refine hK _ _ ⟨h2.1, ?_⟩
    unfold Act.put
    rw [hd]
    exact h2.2
end

set_option maxHeartbeats 400000 in
theorem rwrong_any {r k n c : Nat} {X : Array Value} {d : St8} (i : Int) (w : World) (h : IsQ w r k n c X d) : Calls Tryz.prog 56 #[.pointer (some ⟨r, 0, none⟩), .int .i64 i] w fun e w' => e = .returned (.int .i64 (refE d n i)) ∧ w' = w := by
  have h0 := h.c0
  have h2 := h.c4
  cases hd : d.dn
  · rw [hd] at h2
    by_cases hi : i < 0
    · have HE : Hid (refE d n i = 21) := by show _ = _; simp [refE, hd, hi]
      clear hd
      go_enter Tryz.func56, Tryz.ntmps56
      go_wp2
      go_ret
      exact ⟨ret_int HE.out.symm, rfl⟩
    · by_cases hn : (n : Int) ≤ i
      · have HE : Hid (refE d n i = 21) := by show _ = _; simp [refE, hd, hn]
        clear hd
        go_enter Tryz.func56, Tryz.ntmps56
        go_wp2
        go_ret
        exact ⟨ret_int HE.out.symm, rfl⟩
      · have HE : Hid (refE d n i = 0) := by show _ = _; simp [refE, hd, hn, hi]
        clear hd
        go_enter Tryz.func56, Tryz.ntmps56
        go_wp2
        go_ret
        exact ⟨ret_int HE.out.symm, rfl⟩
  · have HE : Hid (refE d n i = 22) := by show _ = _; simp [refE, hd]
    rw [hd] at h2
    clear hd
    go_enter Tryz.func56, Tryz.ntmps56
    go_wp2
    go_ret
    exact ⟨ret_int HE.out.symm, rfl⟩

set_option maxHeartbeats 400000 in
theorem rlen_any {r k n c : Nat} {X : Array Value} {d : St8} (w : World) (h : IsQ w r k n c X d) : Calls Tryz.prog 53 #[.pointer (some ⟨r, 0, none⟩)] w fun e w' => e = .returned (.int .i64 n) ∧ w' = w := by
  have h0 := h.c0
  go_enter Tryz.func53, Tryz.ntmps53
  go_wp2
  go_ret
  exact ⟨rfl, rfl⟩
set_option maxHeartbeats 400000 in
theorem rarm_any {r k n c : Nat} {X : Array Value} {d : St8} (i : Int) (w : World) (h : IsQ w r k n c X d) : Calls Tryz.prog 38 #[.pointer (some ⟨r, 0, none⟩), .int .i64 i] w fun e w' => e = .returned (.int .i64 (armE d i)) ∧ IsQ w' r k n c X (armD d i) ∧ Mod w w' [r] := by
  have h2 := h.c4
  have h3 := h.c2
  have h4 := h.c3
  have f3 := h.fz 2
  have f4 := h.fz 3
  by_cases hk : i < 0
  · have HE : Hid (armE d i = 1) := by show _ = _; simp [armE, hk]
    have HD : Hid (armD d i = d) := by show _ = _; simp [armD, hk]
    go_enter Tryz.func38, Tryz.ntmps38
    go_wp2
    go_ret
    exact ⟨ret_int HE.out.symm, by rw [HD.out]; exact h, Mod.refl _ _⟩
  · cases hd : d.dn
    · have HE : Hid (armE d i = 0) := by show _ = _; simp [armE, hk, hd]
      have HD : Hid (armD d i = ⟨d.S, d.wr, d.dn, true, i⟩) := by show _ = _; simp [armD, hk, hd]
      rw [hd] at h2
      clear hd
      go_enter Tryz.func38, Tryz.ntmps38
      go_wp2
      go_ret
      have a1 : IsQ (w.setCell ⟨r, 2, none⟩ (.bool true)) r k n c X ⟨d.S, d.wr, d.dn, true, d.lf⟩ := h.put 2 _ rfl rfl
      exact ⟨ret_int HE.out.symm, by rw [HD.out]; exact a1.put 3 _ rfl rfl, (Mod.set.trans Mod.set).mono (by simp)⟩
    · have HE : Hid (armE d i = 22) := by show _ = _; simp [armE, hk, hd]
      have HD : Hid (armD d i = d) := by show _ = _; simp [armD, hk, hd]
      rw [hd] at h2
      clear hd
      go_enter Tryz.func38, Tryz.ntmps38
      go_wp2
      go_ret
      exact ⟨ret_int HE.out.symm, by rw [HD.out]; exact h, Mod.refl _ _⟩

set_option maxRecDepth 100000 in
set_option maxHeartbeats 1000000 in
theorem rread_any {r k n c : Nat} {X : Array Value} {d : St8} (i : Int) (w : World) (h : IsQ w r k n c X d) : Calls Tryz.prog 107 #[.pointer (some ⟨r, 0, none⟩), .int .i64 i] w fun e w' => e = .returned (.tuple #[.agg (SA (readS d n i)), .int .i64 (refE d n i)]) ∧ Below w.heap.size w w' := by
  have hz := zero_sec
  have hbz := build_sec
  have hb0 : Below w.heap.size w (w.alloc (.cells (SA Zs) 47)) := Below.refl_call w _
  have h1 := h.call hb0
  have hr := rwrong_any i _ h1
  have hn0 : (w.alloc (.cells (SA Zs) 47)).heap[w.heap.size]? = some (.cells (SA Zs) 47 (0, 0)) := heap_alloc_new _ _
  by_cases he : refE d n i = 0
  · have hi := refE_zero he
    have HS : Hid (readS d n i = secK d.S i.toNat) := by show _ = _; simp [readS, he]
    have hlen : (secK d.S i.toNat).length = 128 := secK_len h.len (by omega)
    have HR := hid (rowX_sec h1.row h.len (show i.toNat < n by omega))
    have HN := hid hn0
    rw [he] at hr
    have HE := hid he
    have h0 := h1.c0
    obtain ⟨_, hi0, hi1⟩ := hi
    clear he hn0
    generalize secK d.S i.toNat = s at *
    go_enter Tryz.func107, Tryz.ntmps107
    go_wp2_with (first | (go_at_call 56; refine hr.mono ?_; rintro e w1 ⟨rfl, rfl⟩) | (refine wpList_load_mid rfl 47 _ rfl k (i.toNat * 128) rfl (s.map (Value.int .u8)) _ HR.out Tryz.underlying47 rfl (by rw [sz26, List.length_map, hlen]) ?_) | (refine store_sec rfl _ _ rfl w.heap.size rfl s rfl hlen Zs Zs_len HN.out ?_; intro w2 hw2))
    refine bodyPost_ret (v := .tuple #[.agg (SA s), .int .i64 0]) (results_sec Tryz.results107 _ _ w.heap.size s hlen _ rfl rfl hw2.here) rfl ⟨?_, hw2.below hb0 (Nat.le_refl _)⟩
    rw [HS.out, HE.out]
  · have HS : Hid (readS d n i = Zs) := by show _ = _; simp [readS, he]
    have HN := hid hn0
    clear hn0
    generalize refE d n i = E at *
    go_enter Tryz.func107, Tryz.ntmps107
    go_wp2_with (first | (go_at_call 56; refine hr.mono ?_; rintro e w1 ⟨rfl, rfl⟩) | (refine store_sec rfl _ _ rfl w.heap.size rfl Zs rfl Zs_len Zs Zs_len HN.out ?_; intro w2 hw2))
    refine bodyPost_ret (v := .tuple #[.agg (SA Zs), .int .i64 E]) (results_sec Tryz.results107 _ _ w.heap.size Zs Zs_len _ rfl rfl hw2.here) rfl ⟨?_, hw2.below hb0 (Nat.le_refl _)⟩
    rw [HS.out]

set_option maxRecDepth 100000 in
set_option maxHeartbeats 1000000 in
theorem rwrite_no {r k n c : Nat} {X : Array Value} {d : St8} (i : Int) (s : List Int) (w : World) (h : IsQ w r k n c X d) (he : refE d n i ≠ 0) : Calls Tryz.prog 17 #[.pointer (some ⟨r, 0, none⟩), .int .i64 i, .agg (SA s)] w fun e w' => e = .returned (.int .i64 (refE d n i)) ∧ IsQ w' r k n c X d ∧ Below w.heap.size w w' := by
  have hb0 : Below w.heap.size w (w.alloc (.cells (SA s) 47)) := Below.refl_call w _
  have h1 := h.call hb0
  have hr := rwrong_any i _ h1
  generalize refE d n i = E at *
  go_enter Tryz.func17, Tryz.ntmps17
  go_wp2_with (go_at_call 56; refine hr.mono ?_; rintro e w1 ⟨rfl, rfl⟩)
  go_ret
  exact ⟨rfl, h1, hb0⟩

set_option maxRecDepth 100000 in
set_option maxHeartbeats 1000000 in
theorem rwrite_off {r k n c : Nat} {X : Array Value} {d : St8} (i : Int) (s : List Int) (w : World) (h : IsQ w r k n c X d) (he : refE d n i = 0) (ha : d.ar = true) (hl : d.lf = 0) : Calls Tryz.prog 17 #[.pointer (some ⟨r, 0, none⟩), .int .i64 i, .agg (SA s)] w fun e w' => e = .returned (.int .i64 22) ∧ IsQ w' r k n c X ⟨d.S, d.wr, true, d.ar, d.lf⟩ ∧ Mod w w' [r] := by
  have hb0 : Below w.heap.size w (w.alloc (.cells (SA s) 47)) := Below.refl_call w _
  have h1 := h.call hb0
  have hr := rwrong_any i _ h1
  rw [he] at hr
  have h2 := h1.c4
  have h3 := h1.c2
  have h4 := h1.c3
  have f2 := h1.fz 4
  rw [ha] at h3
  rw [hl] at h4
  clear he ha hl
  go_enter Tryz.func17, Tryz.ntmps17
  go_wp2_with (go_at_call 56; refine hr.mono ?_; rintro e w1 ⟨rfl, rfl⟩)
  go_ret
  exact ⟨rfl, h1.put 4 _ rfl rfl, ((Mod.of_below hb0).trans Mod.set).mono (by simp)⟩

set_option maxRecDepth 100000 in
set_option maxHeartbeats 1000000 in
theorem rwrite_free {r k n c : Nat} {X : Array Value} {d : St8} (i : Int) (s : List Int) (w : World) (h : IsQ w r k n c X d) (he : refE d n i = 0) (ha : d.ar = false) (hs : s.length = 128) (hw0 : 0 ≤ d.wr) (hw1 : d.wr < 4611686018427387904) : Calls Tryz.prog 17 #[.pointer (some ⟨r, 0, none⟩), .int .i64 i, .agg (SA s)] w fun e w' => e = .returned (.int .i64 0) ∧ IsQ w' r k n c X ⟨over d.S (i.toNat * 128) s, d.wr + 1, d.dn, d.ar, d.lf⟩ ∧ Mod w w' [r, k] := by
  have hb0 : Below w.heap.size w (w.alloc (.cells (SA s) 47)) := Below.refl_call w _
  have h1 := h.call hb0
  have hr := rwrong_any i _ h1
  have hB1 : (w.alloc (.cells (SA s) 47)).heap[w.heap.size]? = some (.cells (SA s) 47 (0, 0)) := heap_alloc_new _ _
  have HGL : Hid (w.heap.size ≠ k) := Nat.ne_of_gt (slt h.row)
  have HPL : Hid (w.heap.size ≠ r) := Nat.ne_of_gt (slt h.me)
  obtain ⟨_, hi0, hi1⟩ := refE_zero he
  rw [he] at hr
  have h0 := h1.c0
  have h3 := h1.c2
  rw [ha] at h3
  have hne := h.ne
  have HOF : Hid (i.toNat * 128 + 128 ≤ d.S.length) := by show _ ≤ _; rw [h.len]; omega
  have HROW := hid h1.row
  have HME := hid h1.me
  have HB1 := hid hB1
  have HC0 := hid h0
  clear he ha hB1
  go_enter Tryz.func17, Tryz.ntmps17
  go_wp2_with (go_at_call 56; refine hr.mono ?_; rintro e w1 ⟨rfl, rfl⟩)
  refine wp_region_noPanic ?_
  refine wp_region_held_drew (S := fun w' => w'.cell? ⟨r, 0, none⟩ = some (.slice (some ⟨k, 0, none⟩) n c) ∧ w'.heap[w.heap.size]? = some (.cells (SA s) 47 (0, 0))) (by kernel_rfl) ⟨HC0.out, HB1.out⟩ (fun hHeld => ?_)
  refine takeVal 0 40 (.pointer (some ⟨r, 0, none⟩)) rfl (by kernel_rfl) (by kernel_rfl) (by kernel_rfl) rfl (by rfl) (fun _ _ _ h => h) hHeld (fun _ hw' => rfl) ?_
  simp only [List.setIfInBounds_toArray, List.set_cons_zero, List.set_cons_succ]
  refine takeVal 1 41 (.pointer (some ⟨r, 0, none⟩)) rfl (by kernel_rfl) (by kernel_rfl) (by kernel_rfl) rfl (by rfl) (fun _ _ _ h => h) hHeld (fun _ hw' => by go_simp) ?_
  simp only [List.setIfInBounds_toArray, List.set_cons_zero, List.set_cons_succ]
  refine takeVal 2 42 (.pointer (some ⟨r, 0, none⟩)) rfl (by kernel_rfl) (by kernel_rfl) (by kernel_rfl) rfl (by rfl) (fun _ _ _ h => h) hHeld (fun _ hw' => by go_simp) ?_
  simp only [List.setIfInBounds_toArray, List.set_cons_zero, List.set_cons_succ]
  refine takeVal 3 43 (.slice (some ⟨k, 0, none⟩) n c) rfl (by kernel_rfl) (by kernel_rfl) (by kernel_rfl) rfl (by rfl) (fun _ _ _ h => h) hHeld (fun _ hw' => by have hq := hw'.1; go_simp) ?_
  simp only [List.setIfInBounds_toArray, List.set_cons_zero, List.set_cons_succ]
  refine takeVal 4 44 (.int .i64 i) rfl (by kernel_rfl) (by kernel_rfl) (by kernel_rfl) rfl (by rfl) (fun _ _ _ h => h) hHeld (fun _ hw' => rfl) ?_
  simp only [List.setIfInBounds_toArray, List.set_cons_zero, List.set_cons_succ]
  refine takeSec 5 45 (.tmp 5) w.heap.size s hs rfl (by kernel_rfl) (by kernel_rfl) (by kernel_rfl) rfl rfl rfl (by rfl) (fun _ _ _ h => h) hHeld (fun _ h => h.2) ?_
  simp only [List.setIfInBounds_toArray, List.set_cons_zero, List.set_cons_succ]
  refine takeVal 6 46 (.pointer (some ⟨k, i.toNat * 128, none⟩)) rfl (by kernel_rfl) (by kernel_rfl) (by kernel_rfl) rfl (by rfl) (fun _ _ _ h => h) hHeld (fun _ hw' => by go_simp) ?_
  simp only [List.setIfInBounds_toArray, List.set_cons_zero, List.set_cons_succ]
  refine step1 7 (by kernel_rfl) ?_
  refine stStoreX 7 rfl rfl (by rfl) _ _ rfl k (i.toNat * 128) rfl s rfl hs 47 d.S X HROW.out HOF.out ?_
  intro w2 hw2
  have hp2 : w2.heap[r]? = _ := (hw2.other r hne).trans HME.out
  refine ⟨⟨by rw [cell_of_row _ _ _ _ _ _ hp2]; rfl, (hw2.other w.heap.size HGL.out).trans HB1.out⟩, ?_⟩
  refine wpAnyH_done (by kernel_rfl) ?_ _
  refine NoPanic.normal ?_
  have h2 : IsQ w2 r k n c X ⟨over d.S (i.toNat * 128) s, d.wr, d.dn, d.ar, d.lf⟩ := ⟨hp2, hw2.here, by rw [over_len]; exact h.len, h.pos, h.top, h.le, h.big, h.sz⟩
  have h21 := h2.c1
  have h2f := h2.fz 1
  have HM := hid ((Mod.of_below hb0).drew.trans (hw2.mod))
  have H2 := hid h2
  clear hw2 hp2 h2 hHeld
  simp only at h21
  go_wp2
  go_ret
  exact ⟨rfl, H2.out.put 1 _ rfl rfl, (HM.out.trans Mod.set).mono (by simp)⟩

set_option maxRecDepth 100000 in
set_option maxHeartbeats 1000000 in
theorem rwrite_left {r k n c : Nat} {X : Array Value} {d : St8} (i : Int) (s : List Int) (w : World) (h : IsQ w r k n c X d) (he : refE d n i = 0) (ha : d.ar = true) (hl0 : 0 < d.lf) (hl1 : d.lf ≤ 9223372036854775807) (hs : s.length = 128) (hw0 : 0 ≤ d.wr) (hw1 : d.wr < 4611686018427387904) : Calls Tryz.prog 17 #[.pointer (some ⟨r, 0, none⟩), .int .i64 i, .agg (SA s)] w fun e w' => e = .returned (.int .i64 0) ∧ IsQ w' r k n c X ⟨over d.S (i.toNat * 128) s, d.wr + 1, d.dn, d.ar, d.lf - 1⟩ ∧ Mod w w' [r, k] := by
  have hb0 : Below w.heap.size w (w.alloc (.cells (SA s) 47)) := Below.refl_call w _
  have h1 := h.call hb0
  have hr := rwrong_any i _ h1
  have hB1 : (w.alloc (.cells (SA s) 47)).heap[w.heap.size]? = some (.cells (SA s) 47 (0, 0)) := heap_alloc_new _ _
  have HGL : Hid (w.heap.size ≠ k) := Nat.ne_of_gt (slt h.row)
  have HPL : Hid (w.heap.size ≠ r) := Nat.ne_of_gt (slt h.me)
  obtain ⟨_, hi0, hi1⟩ := refE_zero he
  rw [he] at hr
  have h0 := h1.c0
  have h3 := h1.c2
  rw [ha] at h3
  have hne := h.ne
  have HOF : Hid (i.toNat * 128 + 128 ≤ d.S.length) := by show _ ≤ _; rw [h.len]; omega
  have h4 := h1.c3
  have f4 := h1.fz 3
  have a1 : IsQ ((w.alloc (.cells (SA s) 47)).setCell ⟨r, 3, none⟩ (.int .i64 (d.lf - 1))) r k n c X ⟨d.S, d.wr, d.dn, d.ar, d.lf - 1⟩ := h1.put 3 _ rfl rfl
  have HROW := hid a1.row
  have HME := hid a1.me
  have HB1 : Hid (((w.alloc (.cells (SA s) 47)).setCell ⟨r, 3, none⟩ (.int .i64 (d.lf - 1))).heap[w.heap.size]? = some (.cells (SA s) 47 (0, 0))) := by
    show _ = _
    rw [heap_setCell_other _ ⟨r, 3, none⟩ w.heap.size _ HPL.out]
    exact hB1
  have HC0 := hid a1.c0
  have HM0 := hid ((Mod.of_below hb0).trans (Mod.set (g := r) (j := 3) (v := .int .i64 (d.lf - 1))))
  clear he ha hB1 a1
  go_enter Tryz.func17, Tryz.ntmps17
  go_wp2_with (go_at_call 56; refine hr.mono ?_; rintro e w1 ⟨rfl, rfl⟩)
  refine wp_region_noPanic ?_
  refine wp_region_held_drew (S := fun w' => w'.cell? ⟨r, 0, none⟩ = some (.slice (some ⟨k, 0, none⟩) n c) ∧ w'.heap[w.heap.size]? = some (.cells (SA s) 47 (0, 0))) (by kernel_rfl) ⟨HC0.out, HB1.out⟩ (fun hHeld => ?_)
  refine takeVal 0 40 (.pointer (some ⟨r, 0, none⟩)) rfl (by kernel_rfl) (by kernel_rfl) (by kernel_rfl) rfl (by rfl) (fun _ _ _ h => h) hHeld (fun _ hw' => rfl) ?_
  simp only [List.setIfInBounds_toArray, List.set_cons_zero, List.set_cons_succ]
  refine takeVal 1 41 (.pointer (some ⟨r, 0, none⟩)) rfl (by kernel_rfl) (by kernel_rfl) (by kernel_rfl) rfl (by rfl) (fun _ _ _ h => h) hHeld (fun _ hw' => by go_simp) ?_
  simp only [List.setIfInBounds_toArray, List.set_cons_zero, List.set_cons_succ]
  refine takeVal 2 42 (.pointer (some ⟨r, 0, none⟩)) rfl (by kernel_rfl) (by kernel_rfl) (by kernel_rfl) rfl (by rfl) (fun _ _ _ h => h) hHeld (fun _ hw' => by go_simp) ?_
  simp only [List.setIfInBounds_toArray, List.set_cons_zero, List.set_cons_succ]
  refine takeVal 3 43 (.slice (some ⟨k, 0, none⟩) n c) rfl (by kernel_rfl) (by kernel_rfl) (by kernel_rfl) rfl (by rfl) (fun _ _ _ h => h) hHeld (fun _ hw' => by have hq := hw'.1; go_simp) ?_
  simp only [List.setIfInBounds_toArray, List.set_cons_zero, List.set_cons_succ]
  refine takeVal 4 44 (.int .i64 i) rfl (by kernel_rfl) (by kernel_rfl) (by kernel_rfl) rfl (by rfl) (fun _ _ _ h => h) hHeld (fun _ hw' => rfl) ?_
  simp only [List.setIfInBounds_toArray, List.set_cons_zero, List.set_cons_succ]
  refine takeSec 5 45 (.tmp 5) w.heap.size s hs rfl (by kernel_rfl) (by kernel_rfl) (by kernel_rfl) rfl rfl rfl (by rfl) (fun _ _ _ h => h) hHeld (fun _ h => h.2) ?_
  simp only [List.setIfInBounds_toArray, List.set_cons_zero, List.set_cons_succ]
  refine takeVal 6 46 (.pointer (some ⟨k, i.toNat * 128, none⟩)) rfl (by kernel_rfl) (by kernel_rfl) (by kernel_rfl) rfl (by rfl) (fun _ _ _ h => h) hHeld (fun _ hw' => by go_simp) ?_
  simp only [List.setIfInBounds_toArray, List.set_cons_zero, List.set_cons_succ]
  refine step1 7 (by kernel_rfl) ?_
  refine stStoreX 7 rfl rfl (by rfl) _ _ rfl k (i.toNat * 128) rfl s rfl hs 47 d.S X HROW.out HOF.out ?_
  intro w2 hw2
  have hp2 : w2.heap[r]? = _ := (hw2.other r hne).trans HME.out
  refine ⟨⟨by rw [cell_of_row _ _ _ _ _ _ hp2]; rfl, (hw2.other w.heap.size HGL.out).trans HB1.out⟩, ?_⟩
  refine wpAnyH_done (by kernel_rfl) ?_ _
  refine NoPanic.normal ?_
  have h2 : IsQ w2 r k n c X ⟨over d.S (i.toNat * 128) s, d.wr, d.dn, d.ar, d.lf - 1⟩ := ⟨hp2, hw2.here, by rw [over_len]; exact h.len, h.pos, h.top, h.le, h.big, h.sz⟩
  have h21 := h2.c1
  have h2f := h2.fz 1
  have HM := hid (HM0.out.drew.trans (hw2.mod))
  have H2 := hid h2
  clear hw2 hp2 h2 hHeld
  simp only at h21
  go_wp2
  go_ret
  exact ⟨rfl, H2.out.put 1 _ rfl rfl, (HM.out.trans Mod.set).mono (by simp)⟩

/-- Write, as one. -/
theorem rwrite_any {r k n c : Nat} {X : Array Value} {d : St8} (i : Int) (s : List Int) (w : World) (h : IsQ w r k n c X d) (hs : s.length = 128) (hw0 : 0 ≤ d.wr) (hw1 : d.wr < 4611686018427387904) (hl : 0 ≤ d.lf ∧ d.lf ≤ 9223372036854775807) :
    Calls Tryz.prog 17 #[.pointer (some ⟨r, 0, none⟩), .int .i64 i, .agg (SA s)] w fun e w' => e = .returned (.int .i64 (writeE d n i)) ∧ IsQ w' r k n c X (writeD d n i s) ∧ Mod w w' [r, k] := by
  unfold writeE writeD
  by_cases he : refE d n i = 0
  · rw [if_pos he, if_pos he]
    cases ha : d.ar
    · rw [if_neg (by simp), if_neg (by simp), if_neg (by simp)]
      have := rwrite_free i s w h he ha hs hw0 hw1
      rw [ha] at this
      exact this
    · by_cases hz : d.lf = 0
      · rw [if_pos ⟨rfl, hz⟩, if_pos ⟨rfl, hz⟩]
        have := rwrite_off i s w h he ha hz
        rw [ha] at this
        exact this.mono fun e w' k => ⟨k.1, k.2.1, k.2.2.mono (by simp)⟩
      · rw [if_neg (by simp [hz]), if_neg (by simp [hz]), if_pos rfl]
        have := rwrite_left i s w h he ha (by omega) hl.2 hs hw0 hw1
        rw [ha] at this
        exact this
  · rw [if_neg he, if_neg he]
    exact (rwrite_no i s w h he).mono fun e w' k => ⟨k.1, k.2.1, (Mod.of_below k.2.2).mono (by simp)⟩

theorem build_rdisk5 (v : Value) (a : Option Addr) (n c : Nat) (hv : v = .slice a n c) (x1 x3 : Int) (x2 x4 : Bool) (w : World) : (Instr.build 83 #[(0, v), (1, .int .i64 x1), (2, .bool x2), (3, .int .i64 x3), (4, .bool x4)]).run Tryz.prog w = .ok (.agg #[v, .int .i64 x1, .bool x2, .int .i64 x3, .bool x4]) w := by
  subst hv
  kernel_rfl

end Go.Proofs.YtamoepninddbcaaGreat.D
