/-
  CacheTags returns true: the walk.
-/
import Derived.Test.YtgkanfmkohlmcaaGreatCTagD
namespace Go.Proofs.YtgkanfmkohlmcaaGreat
open Go.RowKit

def VA (n : Nat) : Array Value := (List.replicate n (Value.slice none 0 0)).toArray
theorem infoVs : ∃ i, Tryz.prog.info? 26 = some i ∧ i.zero = some (.slice none 0 0) ∧ i.size = 1 ∧ i.bytes = 24 := by
  have h : (Tryz.prog.info? 26).map (fun i => (i.zero, i.size, i.bytes)) = some (some (.slice none 0 0), 1, 24) := by kernel_rfl
  cases hq : Tryz.prog.info? 26 with
  | none => rw [hq] at h; cases h
  | some i =>
    rw [hq] at h
    simp at h
    exact ⟨i, rfl, h.1, h.2.1, h.2.2⟩
theorem make_lists (n : Nat) (h1 : n ≤ 4096) (w : World) :
    (Instr.makeSlice 27 (.int .i64 (n : Int)) (.int .i64 (n : Int))).run Tryz.prog w = .ok (.slice (some ⟨w.heap.size, 0, none⟩) n n) (w.alloc (.cells (VA n) 26)) := by
  obtain ⟨i, hi, hz, hs, hb⟩ := infoVs
  rw [run_make w 27 26 i _ Tryz.underlying27 hi hz .i64 .i64 n n (by omega) (Int.le_refl _) (by rw [hb]; omega) (by omega), hs, Nat.mul_one]
  rw [show Value.cells (.slice none 0 0) = #[Value.slice none 0 0] from rfl, made_is]
  simp [VA]
/-- A teller, and lists of no tags beside it. -/
theorem dk_start {w0 w : World} {t c p g n lb db : Nat} {ρ : Nat → Option Role} {ov : Value} {s : TSt} (h : IsT w0 w t c p g n lb db ρ ov s) (hn : n ≤ 4096) :
    Dk w0 (w.alloc (.cells (VA n) 26)) t c p g n lb db ρ ov s w.heap.size (List.replicate n ⟨.slice none 0 0, 0, []⟩) (List.replicate n []) (.slice none 0 0) [] w.heap.size := by
  have hb := heap_alloc_new w (.cells (VA n) 26)
  have hd : ∀ k, LotB (.slice (some ⟨w.heap.size, 0, none⟩) n n) (List.replicate n ⟨.slice none 0 0, 0, []⟩) k → k = w.heap.size := by
    rintro k (e | ⟨j, x, hx, e⟩)
    · exact (Option.some.inj e).symm
    · rw [List.getElem?_replicate] at hx
      split at hx
      · have := Option.some.inj hx
        subst this
        cases e
      · cases hx
  refine ⟨h.call (Chg.alloc _ _ _), ⟨?_, fun j x hx => ?_, fun i j x y k hx hy e _ => ?_⟩, by simp, by simp, fun j x hx => ?_, World.ownsRow_nil _ _ _ _, fun k hk e => ?_, fun k hk => (by cases hk), h.ch.size, by simp⟩
  · refine ⟨by simp, .inr ⟨w.heap.size, n, VA n, by simp, Nat.le_refl _, hb, by simp, by unfold maxLen; omega, by simp [VA], ?_⟩⟩
    simp [VA]
  · rw [List.getElem?_replicate] at hx
    split at hx
    · have := Option.some.inj hx
      subst this
      exact World.ownsRow_nil _ _ _ _
    · cases hx
  · rw [List.getElem?_replicate] at hx
    split at hx
    · have := Option.some.inj hx
      subst this
      cases e
    · cases hx
  · rw [List.getElem?_replicate] at hx
    split at hx
    · rename_i hj
      have := Option.some.inj hx
      subst this
      rw [List.getD_eq_getElem?_getD, List.getElem?_replicate, if_pos hj]
      exact ⟨rfl, rfl⟩
    · cases hx
  · have := hd k hk
    have := blkT_lt h e
    omega
theorem grown_of {w w' : World} {v : Value} (hc : Chg w w' (fun k => v.ownBlock = some k)) : w.grownBy w' v.ownBlock := ⟨hc.os, hc.tape, hc.output, hc.size, fun k hk hn => hc.block k hk (fun e => hn e.symm)⟩
theorem getD_set_le {LL : List (List Int)} {k m : Nat} {l : List Int} (h : ∀ j, (LL.getD j []).length ≤ m) (hl : l.length ≤ m) (j : Nat) : ((LL.set k l).getD j []).length ≤ m := by
  rw [List.getD_eq_getElem?_getD, List.getElem?_set]
  by_cases e : k = j
  · rw [if_pos e]
    split
    · exact hl
    · simp
  · rw [if_neg e, ← List.getD_eq_getElem?_getD]
    exact h j
theorem dropsT_z (s : TSt) (x : Int) : (dropsT s x).z = forC s.z x := by unfold dropsT; split <;> rfl
theorem dropsT_od {s : TSt} {x : Int} {o : Int × Int × Int × Int} (h : o ∈ (dropsT s x).od) : o ∈ s.od := by
  unfold dropsT at h
  split at h
  · exact (List.mem_filter.1 h).1
  · exact h
theorem dropsT_len (s : TSt) (x : Int) : (dropsT s x).od.length ≤ s.od.length := by
  unfold dropsT
  split
  · exact fltO_len _ _
  · exact Nat.le_refl _
theorem lot_same {w0 w w' : World} {t c p g n lb db : Nat} {ρ ρ' : Nat → Option Role} {ov ov' : Value} {s s' : TSt} {gl : Nat} {V : List Lst} {LL : List (List Int)} {nv : Value} {nw : List Int} {B : Nat} {K : Nat} {v : Value}
    (h : Dk w0 w t c p g n lb db ρ ov s gl V LL nv nw B) (h' : Dk w0 w' t c p g n lb db ρ' ov' s' gl V LL nv nw B) (hc : w.cell? ⟨gl, K, none⟩ = some v) (hK : K < n) : w'.cell? ⟨gl, K, none⟩ = some v := by
  obtain ⟨x, hx⟩ : ∃ x, V[K]? = some x := ⟨_, List.getElem?_eq_getElem (by rw [h.vl]; exact hK)⟩
  have h1 := h.L.at hx
  rw [hc] at h1
  rw [h1]
  exact h'.L.at hx
theorem later_at {w0 w w' : World} {t c p g n lb db : Nat} {ρ ρ' : Nat → Option Role} {ov ov' : Value} {s s' : TSt} {gl : Nat} {V : List Lst} {LL : List (List Int)} {nv : Value} {nw : List Int} {B : Nat} {K : Nat} {a aM : Option Addr} {m cc cM : Nat} {l : List Int}
    (h : Dk w0 w t c p g n lb db ρ ov s gl V LL nv nw B) (h' : Dk w0 w' t c p g n lb db ρ' ov' s' gl V LL nv nw B) (hc : w.cell? ⟨gl, K, none⟩ = some (.slice a m cc)) (hK : K < n) (hM : w'.cell? ⟨gl, K, none⟩ = some (.slice aM m cM)) (hL : LAt w' aM l) : LAt w' a l := by
  have h1 := lot_same h h' hc hK
  rw [hM] at h1
  have := Option.some.inj h1
  injection this with e1 _ _
  rw [← e1]
  exact hL
theorem tk_fit {n : Nat} {s : TSt} (h : TK n s) : Fit n s := h.core.fit
open Classical in
theorem secs_leT {n : Nat} {z : CSt} (h : CInv n z) : (secs z.dirty).length ≤ n := by
  have hn := h.top
  have e : (4096 : Nat) = n + (4096 - n) := by omega
  unfold secs
  rw [e, List.range_add, List.map_append, List.filter_append, List.length_append]
  have h2 : (((List.range (4096 - n)).map (n + ·)).map Int.ofNat).filter (fun x => decide (z.dirty x)) = [] := by
    refine List.filter_eq_nil_iff.2 fun x hx hd => ?_
    obtain ⟨a, ha, rfl⟩ := List.mem_map.1 hx
    obtain ⟨b, _, rfl⟩ := List.mem_map.1 ha
    have := (h.ok _ (of_decide_eq_true hd)).2
    have e2 : Int.ofNat (n + b) = (n : Int) + b := by simp
    rw [e2] at this
    omega
  rw [h2]
  have := List.length_filter_le (fun x => decide (z.dirty x)) ((List.range n).map Int.ofNat)
  simp only [List.length_map, List.length_range] at this
  simpa using this
theorem ltL_le {LL : List (List Int)} {m : Nat} (h : ∀ j, (LL.getD j []).length ≤ m) (x : Int) : (ltL LL x).length ≤ m := by
  unfold ltL
  split
  · exact h _
  · simp

set_option maxRecDepth 100000 in
set_option maxHeartbeats 20000000 in
theorem tags_walk (x0 : Int) (hx0 : I64 x0) (l : List SV) (ad : Option Addr) (cap : Nat) (l2 : List SV) (ad2 : Option Addr) (cap2 : Nat) (w : World) (hs : ScAt w ad l) (hl : l.length ≤ 1048576) (hok : ∀ j, j < l.length → (l.getD j SV.z).OK) (hs2 : ScAt w ad2 l2) (hl2 : l2.length ≤ 1048576) (hok2 : ∀ j, j < l2.length → (l2.getD j SV.z).OK) :
    Calls Tryz.prog 3 #[.int .i64 x0, .slice ad l.length cap, .slice ad2 l2.length cap2] w fun e w' => e = .returned (.bool true) ∧ Chg w w' No := by
  have hb := D.pickN_bd x0 (n := 25) (by omega)
  obtain ⟨n, hn⟩ : ∃ n : Nat, 8 + D.pickN x0 25 = (n : Int) := ⟨(8 + D.pickN x0 25).toNat, by omega⟩
  have hn8 : 8 ≤ n := by omega
  have hn4 : n ≤ 4096 := by omega
  have HST := story_any x0 hx0 l ad cap w hs hl hok n hn
  have HS2 := hid hs2
  have HOK2 := hid hok2
  generalize hm : l.length = m at *
  generalize hm2 : l2.length = m2 at *
  have HM2 := hid hm2
  have HLM := hid hm
  have HML : Hid (m ≤ 1048576) := hid hl
  have hmk := make_lists n hn4
  clear hn hb hs hok hs2 hok2 hx0 hm hm2 hl
  go_enter Tryz.func3, Tryz.ntmps3
  go_upto_region 5 with (first
    | (go_at_call 5; go_must (refine HST.mono ?_; rintro e w1 ⟨t, c, p, g, s, rfl, ⟨lb, db, ρ, ov, hT⟩, hK, har, hnx, hwr, hod, hsF⟩; clear hsF; have HT := hid hT; have HK := hid (And.intro hK (And.intro har (And.intro hwr hod))); have HKN := known_any w1; clear HST hT hK har hnx hwr hod))
    | (go_at_call 6; go_must (refine HKN.mono ?_; rintro e w2 ⟨rfl, hc2⟩; replace HT := hid (HT.out.call hc2); clear HKN hc2))
    | fail)
  have q2 := HT.out.c2
  go_upto_region 6 with fail
  have D3 := hid (dk_start HT.out hn4)
  clear q2 hmk
  have q1 := D3.out.T.c1
  have hTK := HK.out.1
  have hz0 : toldC s.z = s.z := told_same hTK.core.ld
  have HLA := landed_t (s := s) D3.out.T.ca
  rw [hz0] at HLA
  clear hTK hz0
  go_upto_region 8 with (first
    | (go_at_call 7; go_must (refine HLA.mono ?_; rintro e w4 ⟨a4, c4, rfl, _, hP4⟩; obtain ⟨ρ4, hD4⟩ := D3.out.post hP4; have D4 := hid hD4; clear HLA hP4 hD4))
    | fail)
  clear q1 D3 HT
  have D5 : Hid (Dk w w4 t c p g n lb db ρ4 ov { s with z := mkd s.z (ltL (List.replicate n [])) [] } w2.heap.size (List.replicate n ⟨.slice none 0 0, 0, []⟩) (List.replicate n []) (.slice none 0 0) [] w2.heap.size) := hid (by
    rw [ltL_none, mkd_start (fun x q hq => (HK.out.1.core.cn x q hq).2.2.2) HK.out.1.core.ld]
    exact D4.out)
  clear D4
  go_loopw [8, 10] (fun v i wq => ∃ (k : Nat) (ρ : Nat → Option Role) (V : List Lst) (LL : List (List Int)) (nv : Value) (nw : List Int), nv = v ∧ k ≤ m2 ∧ k ≤ 60 ∧ i = .int .i64 k ∧ Hid (Dk w wq t c p g n lb db ρ ov { s with z := mkd s.z (ltL LL) nw } w2.heap.size V LL nv nw w2.heap.size) ∧ Hid (nw.length ≤ k ∧ ∀ j, (LL.getD j []).length ≤ k)) (fun _ i _ => m2 - (intOf i).toNat)
  case atStart => exact ⟨0, ρ4, _, _, _, _, rfl, by omega, by omega, rfl, D5, hid ⟨by simp, fun j => by rw [List.getD_eq_getElem?_getD, List.getElem?_replicate]; split <;> simp⟩⟩
  case round =>
    clear D5
    obtain ⟨k, ρ, V, LL, nv, nw, rfl, hk, hk60, rfl, HD, HLen⟩ := hrel
    by_cases hlt : k < m2
    · have i1 : (k : Int) < (m2 : Int) := by omega
      by_cases h60 : k < 60
      · as_aux_lemma =>
          have i0 : (0 : Int) ≤ (k : Int) := by omega
          have i2 : (k : Int) < 60 := by omega
          rcases HS2.out with h0 | ⟨b, o, rfl, hbl, hsc⟩
          · have := HM2.out; rw [h0] at this; simp at this; omega
          obtain ⟨af, caf, hra, _⟩ := hsc k (by rw [HM2.out]; exact hlt)
          have hokx := HOK2.out k hlt
          generalize l2.getD k SV.z = x at hra hokx
          have CN : Hid (∀ X, Chg w X No → X.cell? ⟨b, o + k * 5 + 1, none⟩ = some (.int .i64 x.N)) := hid (fun X hX => cell_keep (hra 1 _ rfl) hX hbl (fun e => e))
          have CT : Hid (∀ X, Chg w X No → X.cell? ⟨b, o + k * 5 + 2, none⟩ = some (.int .i64 x.tag)) := hid (fun X hX => cell_keep (hra 2 _ rfl) hX hbl (fun e => e))
          have HIN := hid hokx.n
          have hKb := D.pickN_bd x.N (n := (n : Int)) (by omega)
          obtain ⟨K, hK⟩ : ∃ K : Nat, D.pickN x.N n = (K : Int) := ⟨(D.pickN x.N n).toNat, by omega⟩
          have HPK := hid (fun w => D.pick_any x.N n w HIN.out (by omega) (by omega))
          rw [hK] at HPK hKb
          have hKn : K < n := by omega
          have j0 : (0 : Int) ≤ (K : Int) := by omega
          have j1 : (K : Int) < (n : Int) := by omega
          clear hK hKb hokx hra hsc hbl
          go_upto_region 10 with fail
          refine wp_region_noPanic ?_
          refine wp_region_held_drew (S := fun w' => w'.cell? ⟨b, o + k * 5 + 1, none⟩ = some (.int .i64 x.N) ∧ w'.cell? ⟨t, 2, none⟩ = some (.slice (some ⟨lb, 0, none⟩) n n)) (by kernel_rfl) ⟨CN.out _ (HD.out.T.ch.tr (Chg.refl _ No).drew), HD.out.T.c2⟩ (fun hHeld => ?_)
          refine takeVal 0 47 (.slice (some ⟨b, o, none⟩) m2 cap2) rfl (by kernel_rfl) (by kernel_rfl) (by kernel_rfl) rfl (by rfl) (fun _ _ _ h => h) hHeld (fun W' hw' => rfl) ?_
          simp only [List.setIfInBounds_toArray, List.set_cons_zero, List.set_cons_succ]
          refine takeVal 1 48 (.int .i64 (k : Int)) rfl (by kernel_rfl) (by kernel_rfl) (by kernel_rfl) rfl (by rfl) (fun _ _ _ h => h) hHeld (fun W' hw' => rfl) ?_
          simp only [List.setIfInBounds_toArray, List.set_cons_zero, List.set_cons_succ]
          refine takeVal 2 49 (.pointer (some ⟨b, o + k * 5, none⟩)) rfl (by kernel_rfl) (by kernel_rfl) (by kernel_rfl) rfl (by rfl) (fun _ _ _ h => h) hHeld (fun W' hw' => by go_simp) ?_
          simp only [List.setIfInBounds_toArray, List.set_cons_zero, List.set_cons_succ]
          refine takeVal 3 50 (.pointer (some ⟨b, o + k * 5 + 1, none⟩)) rfl (by kernel_rfl) (by kernel_rfl) (by kernel_rfl) rfl (by rfl) (fun _ _ _ h => h) hHeld (fun W' hw' => by go_simp) ?_
          simp only [List.setIfInBounds_toArray, List.set_cons_zero, List.set_cons_succ]
          refine takeVal 4 51 (.int .i64 x.N) rfl (by kernel_rfl) (by kernel_rfl) (by kernel_rfl) rfl (by rfl) (fun _ _ _ h => h) hHeld (fun W' hw' => by have hc := hw'.1; go_simp) ?_
          simp only [List.setIfInBounds_toArray, List.set_cons_zero, List.set_cons_succ]
          refine takeVal 5 52 (.pointer (some ⟨t, 0, none⟩)) rfl (by kernel_rfl) (by kernel_rfl) (by kernel_rfl) rfl (by rfl) (fun _ _ _ h => h) hHeld (fun W' hw' => rfl) ?_
          simp only [List.setIfInBounds_toArray, List.set_cons_zero, List.set_cons_succ]
          refine takeVal 6 53 (.pointer (some ⟨t, 0, none⟩)) rfl (by kernel_rfl) (by kernel_rfl) (by kernel_rfl) rfl (by rfl) (fun _ _ _ h => h) hHeld (fun W' hw' => by go_simp) ?_
          simp only [List.setIfInBounds_toArray, List.set_cons_zero, List.set_cons_succ]
          refine takeVal 7 54 (.pointer (some ⟨t, 2, none⟩)) rfl (by kernel_rfl) (by kernel_rfl) (by kernel_rfl) rfl (by rfl) (fun _ _ _ h => h) hHeld (fun W' hw' => by go_simp) ?_
          simp only [List.setIfInBounds_toArray, List.set_cons_zero, List.set_cons_succ]
          refine takeVal 8 55 (.slice (some ⟨lb, 0, none⟩) n n) rfl (by kernel_rfl) (by kernel_rfl) (by kernel_rfl) rfl (by rfl) (fun _ _ _ h => h) hHeld (fun W' hw' => by have hc := hw'.2; go_simp) ?_
          simp only [List.setIfInBounds_toArray, List.set_cons_zero, List.set_cons_succ]
          refine takeVal 9 56 (.int .i64 (n : Int)) rfl (by kernel_rfl) (by kernel_rfl) (by kernel_rfl) rfl (by rfl) (fun _ _ _ h => h) hHeld (fun W' hw' => by go_simp) ?_
          simp only [List.setIfInBounds_toArray, List.set_cons_zero, List.set_cons_succ]
          refine step1 10 (by kernel_rfl) ?_
          refine stCall 10 57 8 #[.int .i64 x.N, .int .i64 (n : Int)] _ rfl rfl (by rfl) (by go_simp) (HPK.out _) ?_
          rintro e w6 ⟨rfl, ew6⟩
          subst ew6
          refine ⟨_, rfl, hHeld, ?_⟩
          simp only [List.setIfInBounds_toArray, List.set_cons_zero, List.set_cons_succ]
          refine takeVal 11 11 (.int .i64 (K : Int)) rfl (by kernel_rfl) (by kernel_rfl) (by kernel_rfl) rfl (by rfl) (fun _ _ _ h => h) hHeld (fun W' hw' => rfl) ?_
          simp only [List.setIfInBounds_toArray, List.set_cons_zero, List.set_cons_succ]
          refine wpAnyH_done (by kernel_rfl) ?_ _
          refine NoPanic.normal ?_
          have D6 := hid (HD.out.call (Chg.refl wr No).drew)
          clear HD hHeld HPK
          obtain ⟨w6, hw6⟩ : ∃ y, y = wr.drew := ⟨_, rfl⟩
          rw [← hw6] at D6
          rw [← hw6]
          clear hw6
          go_upto_region 11 with fail
          have HMK := hid (fun (X : World) (ρx : Nat → Option Role) (hX : IsC X c p g n ρx (mkd s.z (ltL LL) nw)) => mark_any (K : Int) x.tag hX ⟨by omega, by omega⟩ HK.out.1.al.1 (mkd_tb (fun y => Nat.le_trans (ltL_le HLen.out.2 y) (by omega)) (by have := HLen.out.1; omega)))
          refine wp_region_noPanic ?_
          refine wp_region_held_drew (S := fun w' => w'.cell? ⟨t, 1, none⟩ = some (.pointer (some ⟨c, 0, none⟩)) ∧ w'.cell? ⟨b, o + k * 5 + 2, none⟩ = some (.int .i64 x.tag)) (by kernel_rfl) ⟨D6.out.T.c1, CT.out _ (D6.out.T.ch.tr (Chg.refl _ No).drew)⟩ (fun hHeld => ?_)
          refine takeVal 0 58 (.pointer (some ⟨t, 0, none⟩)) rfl (by kernel_rfl) (by kernel_rfl) (by kernel_rfl) rfl (by rfl) (fun _ _ _ h => h) hHeld (fun W' hw' => rfl) ?_
          simp only [List.setIfInBounds_toArray, List.set_cons_zero, List.set_cons_succ]
          refine takeVal 1 59 (.pointer (some ⟨t, 0, none⟩)) rfl (by kernel_rfl) (by kernel_rfl) (by kernel_rfl) rfl (by rfl) (fun _ _ _ h => h) hHeld (fun W' hw' => by go_simp) ?_
          simp only [List.setIfInBounds_toArray, List.set_cons_zero, List.set_cons_succ]
          refine takeVal 2 60 (.pointer (some ⟨t, 1, none⟩)) rfl (by kernel_rfl) (by kernel_rfl) (by kernel_rfl) rfl (by rfl) (fun _ _ _ h => h) hHeld (fun W' hw' => by go_simp) ?_
          simp only [List.setIfInBounds_toArray, List.set_cons_zero, List.set_cons_succ]
          refine takeVal 3 61 (.pointer (some ⟨c, 0, none⟩)) rfl (by kernel_rfl) (by kernel_rfl) (by kernel_rfl) rfl (by rfl) (fun _ _ _ h => h) hHeld (fun W' hw' => by have hc := hw'.1; go_simp) ?_
          simp only [List.setIfInBounds_toArray, List.set_cons_zero, List.set_cons_succ]
          refine takeVal 4 62 (.int .i64 (K : Int)) rfl (by kernel_rfl) (by kernel_rfl) (by kernel_rfl) rfl (by rfl) (fun _ _ _ h => h) hHeld (fun W' hw' => rfl) ?_
          simp only [List.setIfInBounds_toArray, List.set_cons_zero, List.set_cons_succ]
          refine takeVal 5 63 (.slice (some ⟨b, o, none⟩) m2 cap2) rfl (by kernel_rfl) (by kernel_rfl) (by kernel_rfl) rfl (by rfl) (fun _ _ _ h => h) hHeld (fun W' hw' => rfl) ?_
          simp only [List.setIfInBounds_toArray, List.set_cons_zero, List.set_cons_succ]
          refine takeVal 6 64 (.int .i64 (k : Int)) rfl (by kernel_rfl) (by kernel_rfl) (by kernel_rfl) rfl (by rfl) (fun _ _ _ h => h) hHeld (fun W' hw' => rfl) ?_
          simp only [List.setIfInBounds_toArray, List.set_cons_zero, List.set_cons_succ]
          refine takeVal 7 65 (.pointer (some ⟨b, o + k * 5, none⟩)) rfl (by kernel_rfl) (by kernel_rfl) (by kernel_rfl) rfl (by rfl) (fun _ _ _ h => h) hHeld (fun W' hw' => by go_simp) ?_
          simp only [List.setIfInBounds_toArray, List.set_cons_zero, List.set_cons_succ]
          refine takeVal 8 66 (.pointer (some ⟨b, o + k * 5 + 2, none⟩)) rfl (by kernel_rfl) (by kernel_rfl) (by kernel_rfl) rfl (by rfl) (fun _ _ _ h => h) hHeld (fun W' hw' => by go_simp) ?_
          simp only [List.setIfInBounds_toArray, List.set_cons_zero, List.set_cons_succ]
          refine takeVal 9 67 (.int .i64 x.tag) rfl (by kernel_rfl) (by kernel_rfl) (by kernel_rfl) rfl (by rfl) (fun _ _ _ h => h) hHeld (fun W' hw' => by have hc := hw'.2; go_simp) ?_
          simp only [List.setIfInBounds_toArray, List.set_cons_zero, List.set_cons_succ]
          have D7 := D6.out.call (Chg.refl w6 No).drew
          refine step1 10 (by kernel_rfl) ?_
          refine stCall 10 68 9 #[.pointer (some ⟨c, 0, none⟩), .int .i64 (K : Int), .int .i64 x.tag] _ rfl rfl (by rfl) (by go_simp) (HMK.out _ _ D7.T.ca) ?_
          rintro e w8 ⟨rfl, hP8⟩
          obtain ⟨ρ8, hD8⟩ := D7.post hP8
          have h8 : w8.cell? ⟨t, 1, none⟩ = some (.pointer (some ⟨c, 0, none⟩)) ∧ w8.cell? ⟨b, o + k * 5 + 2, none⟩ = some (.int .i64 x.tag) := ⟨hD8.T.c1, CT.out _ hD8.T.ch⟩
          refine ⟨_, rfl, h8, ?_⟩
          simp only [List.setIfInBounds_toArray, List.set_cons_zero, List.set_cons_succ]
          refine takeVal 11 69 (.bool false) rfl (by kernel_rfl) (by kernel_rfl) (by kernel_rfl) rfl (by rfl) (fun _ _ _ h => h) h8 (fun W' hw' => by go_simp) ?_
          simp only [List.setIfInBounds_toArray, List.set_cons_zero, List.set_cons_succ]
          refine wpAnyH_done (by kernel_rfl) ?_ _
          refine NoPanic.normal ?_
          have D8 := hid hD8
          clear D7 D6 hD8 hP8 h8 hHeld HMK
          have q3 := D8.out.T.c3
          have qd := D8.out.T.dc hKn
          have hfl : s.di.getD K false = true ↔ s.z.dirty (K : Int) := by rw [HK.out.1.fl]; exact flags_get hKn
          by_cases hd : s.z.dirty (K : Int)
          · as_aux_lemma =>
              have hdi : s.di.getD K false = true := hfl.2 hd
              simp only at qd
              rw [hdi] at qd
              obtain ⟨xL, aL, cL, hxL, hxv, hcL, hLA, hIL⟩ := D8.out.at_ hKn
              have hln : (LL.getD K []).length ≤ k := HLen.out.2 K
              have HZ : Hid (markC (mkd s.z (ltL LL) nw) (K : Int) x.tag = mkd s.z (ltL (LL.set K (LL.getD K [] ++ [x.tag]))) nw) := hid (by rw [mark_some' hd, ltL_set (by rw [D8.out.ll]; exact hKn), ltL_nat])
              have D9 := D8
              rw [HZ.out] at D9
              have HLL : Hid (nw.length ≤ k + 1 ∧ ∀ j, ((LL.set K (LL.getD K [] ++ [x.tag])).getD j []).length ≤ k + 1) := hid ⟨by have := HLen.out.1; omega, getD_set_le (fun j => by have := HLen.out.2 j; omega) (by rw [List.length_append]; simp only [List.length_singleton]; omega)⟩
              have HXV := hid hxv
              have HXL := hid hxL
              have HIL := hid hIL
              have HCL := hid hcL
              have HLK := hid hln
              clear hdi hfl D8 HZ hxv hxL hIL hLA hd hcL hln HLen
              go_upto_region 14 with fail
              clear q3 qd
              generalize hLK : LL.getD K [] = lk at *
              generalize hNL : lk.length = NL at *
              have HNL := hid hNL
              clear hLK hNL
              refine wp_region_noPanic ?_
              refine wp_region_held_drew (S := fun w' => Chg w w' No) (by kernel_rfl) (D9.out.T.ch.tr (Chg.refl _ No).drew) (fun hHeld => ?_)
              refine takeVal 0 77 (.slice (some ⟨w2.heap.size, 0, none⟩) n n) rfl (by kernel_rfl) (by kernel_rfl) (by kernel_rfl) rfl (by rfl) (fun _ _ _ h => h) hHeld (fun W' hw' => rfl) ?_
              simp only [List.setIfInBounds_toArray, List.set_cons_zero, List.set_cons_succ]
              refine takeVal 1 78 (.int .i64 (K : Int)) rfl (by kernel_rfl) (by kernel_rfl) (by kernel_rfl) rfl (by rfl) (fun _ _ _ h => h) hHeld (fun W' hw' => rfl) ?_
              simp only [List.setIfInBounds_toArray, List.set_cons_zero, List.set_cons_succ]
              refine takeVal 2 79 (.slice (some ⟨w2.heap.size, 0, none⟩) n n) rfl (by kernel_rfl) (by kernel_rfl) (by kernel_rfl) rfl (by rfl) (fun _ _ _ h => h) hHeld (fun W' hw' => rfl) ?_
              simp only [List.setIfInBounds_toArray, List.set_cons_zero, List.set_cons_succ]
              refine takeVal 3 80 (.int .i64 (K : Int)) rfl (by kernel_rfl) (by kernel_rfl) (by kernel_rfl) rfl (by rfl) (fun _ _ _ h => h) hHeld (fun W' hw' => rfl) ?_
              simp only [List.setIfInBounds_toArray, List.set_cons_zero, List.set_cons_succ]
              refine takeVal 4 81 (.pointer (some ⟨w2.heap.size, K, none⟩)) rfl (by kernel_rfl) (by kernel_rfl) (by kernel_rfl) rfl (by rfl) (fun _ _ _ h => h) hHeld (fun W' hw' => by go_simp) ?_
              simp only [List.setIfInBounds_toArray, List.set_cons_zero, List.set_cons_succ]
              refine takeVal 6 83 (.slice (some ⟨b, o, none⟩) m2 cap2) rfl (by kernel_rfl) (by kernel_rfl) (by kernel_rfl) rfl (by rfl) (fun _ _ _ h => h) hHeld (fun W' hw' => rfl) ?_
              simp only [List.setIfInBounds_toArray, List.set_cons_zero, List.set_cons_succ]
              refine takeVal 7 84 (.int .i64 (k : Int)) rfl (by kernel_rfl) (by kernel_rfl) (by kernel_rfl) rfl (by rfl) (fun _ _ _ h => h) hHeld (fun W' hw' => rfl) ?_
              simp only [List.setIfInBounds_toArray, List.set_cons_zero, List.set_cons_succ]
              refine takeVal 8 85 (.pointer (some ⟨b, o + k * 5, none⟩)) rfl (by kernel_rfl) (by kernel_rfl) (by kernel_rfl) rfl (by rfl) (fun _ _ _ h => h) hHeld (fun W' hw' => by go_simp) ?_
              simp only [List.setIfInBounds_toArray, List.set_cons_zero, List.set_cons_succ]
              refine takeVal 9 86 (.pointer (some ⟨b, o + k * 5 + 2, none⟩)) rfl (by kernel_rfl) (by kernel_rfl) (by kernel_rfl) rfl (by rfl) (fun _ _ _ h => h) hHeld (fun W' hw' => by go_simp) ?_
              simp only [List.setIfInBounds_toArray, List.set_cons_zero, List.set_cons_succ]
              refine takeVal 10 87 (.int .i64 x.tag) rfl (by kernel_rfl) (by kernel_rfl) (by kernel_rfl) rfl (by rfl) (fun _ _ _ h => h) hHeld (fun W' hw' => by have hc := CT.out W' hw'; go_simp) ?_
              simp only [List.setIfInBounds_toArray, List.set_cons_zero, List.set_cons_succ]
              have DD := D9.out.call (Chg.refl w8 No).drew
              have hcd : w8.drew.cell? ⟨w2.heap.size, K, none⟩ = some (.slice aL NL cL) := HCL.out
              have D10 := DD.call (Chg.alloc w8.drew (.cells #[.int .i64 x.tag] 3) No)
              have hc10 : (w8.drew.alloc (.cells #[.int .i64 x.tag] 3)).cell? ⟨w2.heap.size, K, none⟩ = some (.slice aL NL cL) := cell_keep hcd (Chg.alloc _ _ No) (World.block_lt_of_cell? _ _ hcd) (fun e => e)
              have hc10b : (w8.alloc (.cells #[.int .i64 x.tag] 3)).cell? ⟨w2.heap.size, K, none⟩ = some (.slice aL NL cL) := hc10
              have HI10 : Ints (w8.drew.alloc (.cells #[.int .i64 x.tag] 3)) w2.heap.size xL.v lk := row_keep HIL.out ((Chg.refl w8 No).drew.tr (Chg.alloc w8.drew (.cells #[.int .i64 x.tag] 3) No)) (fun _ _ e => e)
              refine step2 5 11 (by kernel_rfl) ?_ ?_
              · refine stVal 5 82 (.slice aL NL cL) rfl rfl (by rfl) (by go_simp) hHeld ?_
                simp only [List.setIfInBounds_toArray, List.set_cons_zero, List.set_cons_succ]
                refine step1 11 (by kernel_rfl) ?_
                refine stNew 11 88 (.slice (some ⟨w8.drew.heap.size, 0, none⟩) 1 1) (.cells #[.int .i64 x.tag] 3) rfl rfl (by rfl) (by go_simp) ⟨D10.T.ch, ?_⟩
                simp only [List.setIfInBounds_toArray, List.set_cons_zero, List.set_cons_succ]
                refine step1 12 (by kernel_rfl) ?_
                refine stAppL 12 89 rfl rfl (by rfl) _ _ rfl w2.heap.size xL.v lk [x.tag] (some ⟨w8.drew.heap.size, 0, none⟩) 1 (by rw [HXV.out]; rfl) rfl HI10 (lat_one _ _) (fun e => by cases e) (by have := HLK.out; have := HNL.out; simp only [List.length_singleton]; omega) D10.b1 ?_
                intro v5 w5 h51 h52 h53
                obtain ⟨a5, c5, hv5, _, _⟩ := h51.lat
                have hDf := D10.later HXL.out h51 (grown_of h52) h53
                obtain ⟨_, co, hco⟩ := own_block D10.L.row (show Value.ownBlock (.slice (some ⟨w2.heap.size, 0, none⟩) n n) = some w2.heap.size from rfl)
                have hne : ¬ xL.v.ownBlock = some w2.heap.size := fun e => by
                  obtain ⟨_, c1, k1⟩ := own_block HI10 e
                  rw [hco] at k1
                  cases k1
                have hco5 := h52.keep hco hne
                have hc5 : w5.cell? ⟨w2.heap.size, K, none⟩ = some (.slice aL NL cL) := cell_keep hc10 h52 (slt hco) hne
                have hf5 : w5.frozen? ⟨w2.heap.size, K, none⟩ = false := frozen_of_row w5 _ K _ _ hco5
                have hS5 : Chg w w5 No := D10.T.ch.trans h52 (fun _ _ e => e) (fun j hj e => by have := (row_ge HI10 e).1; have := D10.b0; omega)
                subst hv5
                generalize hM5 : (lk ++ [x.tag]).length = M5 at *
                refine ⟨hS5, ?_⟩
                simp only [List.setIfInBounds_toArray, List.set_cons_zero, List.set_cons_succ]
                refine takeVal 13 90 (.pointer (some ⟨w2.heap.size, K, none⟩)) rfl (by kernel_rfl) (by kernel_rfl) (by kernel_rfl) rfl (by rfl) (fun _ _ _ h => h) hS5 (fun W' hw' => by go_simp) ?_
                simp only [List.setIfInBounds_toArray, List.set_cons_zero, List.set_cons_succ]
                refine step1 14 (by kernel_rfl) ?_
                refine stCell 14 (w5.setCell ⟨w2.heap.size, K, none⟩ (.slice a5 M5 c5)) rfl rfl (by rfl) (by go_simp) ?_
                refine ⟨hDf.T.ch, ?_⟩
                refine wpAnyH_done (by kernel_rfl) ?_ _
                refine NoPanic.normal ?_
                have DF := hid hDf
                clear hDf hS5 hf5 hc5 hco5 hne hco h51 h52 h53 HI10 hc10 hc10b D10 hcd DD hHeld hM5
                generalize w5.setCell ⟨w2.heap.size, K, none⟩ (.slice a5 M5 c5) = w9 at *
                go_wp2_with fail
                exact ⟨⟨k + 1, ρ8, _, _, _, _, rfl, by omega, by omega, by go_num, DF, HLL⟩, by simp [intOf]; omega⟩
              · refine stNew 11 88 (.slice (some ⟨w8.drew.heap.size, 0, none⟩) 1 1) (.cells #[.int .i64 x.tag] 3) rfl rfl (by rfl) (by go_simp) ⟨D10.T.ch, ?_⟩
                simp only [List.setIfInBounds_toArray, List.set_cons_zero, List.set_cons_succ]
                refine step1 5 (by kernel_rfl) ?_
                refine stVal 5 82 (.slice aL NL cL) rfl rfl (by rfl) (by go_simp) D10.T.ch ?_
                simp only [List.setIfInBounds_toArray, List.set_cons_zero, List.set_cons_succ]
                refine step1 12 (by kernel_rfl) ?_
                refine stAppL 12 89 rfl rfl (by rfl) _ _ rfl w2.heap.size xL.v lk [x.tag] (some ⟨w8.drew.heap.size, 0, none⟩) 1 (by rw [HXV.out]; rfl) rfl HI10 (lat_one _ _) (fun e => by cases e) (by have := HLK.out; have := HNL.out; simp only [List.length_singleton]; omega) D10.b1 ?_
                intro v5 w5 h51 h52 h53
                obtain ⟨a5, c5, hv5, _, _⟩ := h51.lat
                have hDf := D10.later HXL.out h51 (grown_of h52) h53
                obtain ⟨_, co, hco⟩ := own_block D10.L.row (show Value.ownBlock (.slice (some ⟨w2.heap.size, 0, none⟩) n n) = some w2.heap.size from rfl)
                have hne : ¬ xL.v.ownBlock = some w2.heap.size := fun e => by
                  obtain ⟨_, c1, k1⟩ := own_block HI10 e
                  rw [hco] at k1
                  cases k1
                have hco5 := h52.keep hco hne
                have hc5 : w5.cell? ⟨w2.heap.size, K, none⟩ = some (.slice aL NL cL) := cell_keep hc10 h52 (slt hco) hne
                have hf5 : w5.frozen? ⟨w2.heap.size, K, none⟩ = false := frozen_of_row w5 _ K _ _ hco5
                have hS5 : Chg w w5 No := D10.T.ch.trans h52 (fun _ _ e => e) (fun j hj e => by have := (row_ge HI10 e).1; have := D10.b0; omega)
                subst hv5
                generalize hM5 : (lk ++ [x.tag]).length = M5 at *
                refine ⟨hS5, ?_⟩
                simp only [List.setIfInBounds_toArray, List.set_cons_zero, List.set_cons_succ]
                refine takeVal 13 90 (.pointer (some ⟨w2.heap.size, K, none⟩)) rfl (by kernel_rfl) (by kernel_rfl) (by kernel_rfl) rfl (by rfl) (fun _ _ _ h => h) hS5 (fun W' hw' => by go_simp) ?_
                simp only [List.setIfInBounds_toArray, List.set_cons_zero, List.set_cons_succ]
                refine step1 14 (by kernel_rfl) ?_
                refine stCell 14 (w5.setCell ⟨w2.heap.size, K, none⟩ (.slice a5 M5 c5)) rfl rfl (by rfl) (by go_simp) ?_
                refine ⟨hDf.T.ch, ?_⟩
                refine wpAnyH_done (by kernel_rfl) ?_ _
                refine NoPanic.normal ?_
                have DF := hid hDf
                clear hDf hS5 hf5 hc5 hco5 hne hco h51 h52 h53 HI10 hc10 hc10b D10 hcd DD hHeld hM5
                generalize w5.setCell ⟨w2.heap.size, K, none⟩ (.slice a5 M5 c5) = w9 at *
                go_wp2_with fail
                exact ⟨⟨k + 1, ρ8, _, _, _, _, rfl, by omega, by omega, by go_num, DF, HLL⟩, by simp [intOf]; omega⟩
          · as_aux_lemma =>
              have hdi : s.di.getD K false = false := by
                cases hq : s.di.getD K false with
                | false => rfl
                | true => exact absurd (hfl.1 hq) hd
              simp only at qd
              rw [hdi] at qd
              have HZ : Hid (markC (mkd s.z (ltL LL) nw) (K : Int) x.tag = mkd s.z (ltL LL) (nw ++ [x.tag])) := hid (mark_none' hd)
              have D9 := D8
              rw [HZ.out] at D9
              have HLL : Hid ((nw ++ [x.tag]).length ≤ k + 1 ∧ ∀ j, (LL.getD j []).length ≤ k + 1) := hid ⟨by have := HLen.out.1; simp; omega, fun j => by have := HLen.out.2 j; omega⟩
              have hct := CT.out _ D9.out.T.ch
              have D10 := hid (D9.out.call (Chg.alloc w8 (.cells #[.int .i64 x.tag] 3) No))
              obtain ⟨aN, cN, hnv, _, _⟩ := D9.out.N.lat
              have HNV := hid hnv
              have HNW := hid HLen.out.1
              clear hdi hfl D8 HZ hd HLen
              rw [hnv]
              clear hnv
              go_upto_region 15 with fail
              clear q3 qd
              go_upto_region 9 with (first
                | (at_builtin; go_must (refine wp_appL rfl _ _ rfl w2.heap.size nv nw [x.tag] (some ⟨w8.heap.size, 0, none⟩) 1 (by rw [HNV.out]; rfl) rfl D10.out.N (lat_one _ _) (fun e => by cases e) (by have := HNW.out; simp only [List.length_singleton]; omega) D10.out.b1 ?_; intro v5 w5 h51 h52 h53; have DF := hid (D10.out.now h51 h52 h53); clear h51 h52 h53))
                | fail)
              clear hct D9 D10
              go_wp2_with fail
              exact ⟨⟨k + 1, ρ8, _, _, _, _, rfl, by omega, by omega, by go_num, DF, HLL⟩, by simp [intOf]; omega⟩
      · have i2 : ¬ ((k : Int) < 60) := by omega
        have HLen2 : Hid (nw.length ≤ 60 ∧ ∀ j, (LL.getD j []).length ≤ 60) := hid ⟨by have := HLen.out.1; omega, fun j => by have := HLen.out.2 j; omega⟩
        clear HLen
        have q1 := HD.out.T.c1
        obtain ⟨aN, cN, hnv, hLN, _⟩ := HD.out.N.lat
        have HNV := hid hnv
        have HLN := hid hLN
        have HLA := landed_t (s := { s with z := mkd s.z (ltL LL) nw }) HD.out.T.ca
        rw [told_mkd] at HLA
        simp only at HLA
        rw [show (mkd s.z (ltL LL) nw).ld = nw from rfl] at HLA
        rw [hnv]
        clear hnv hLN
        generalize hNW : nw.length = NW at *
        have HNW := hid hNW
        have hNW60 : NW ≤ 60 := by have := HLen2.out.1; have := HNW.out; omega
        clear hNW
        go_upto_region 18 with (first
          | (go_at_call 7; go_must (first
            | (refine HLA.mono ?_; rintro e w5 ⟨a5, c5, rfl, hL5, hP5⟩; obtain ⟨ρ5, hD5⟩ := HD.out.post hP5; have HL5 := hid hL5; have q15 := hD5.T.c1; obtain ⟨aM, cM, hnM, hLM, _⟩ := hD5.N.lat; have hLN5 : LAt w5 aN nw := (by rw [HNV.out, HNW.out] at hnM; injection hnM with e1 _ _; rw [e1]; exact hLM); have HLN5 := hid hLN5; have D5 := hid hD5; clear HLA hP5 hD5 hL5 hnM hLM hLN5 q1)
            | (have HLB := landed_t (s := { s with z := mkd s.z (ltL LL) [] }) D6.out.T.ca; rw [told_mkd] at HLB; simp only at HLB; rw [show (mkd s.z (ltL LL) []).ld = [] from rfl] at HLB; simp only [List.length_nil] at HLB; refine HLB.mono ?_; rintro e w7 ⟨a7, c7, rfl, _, hP7⟩; obtain ⟨ρ7, hD7⟩ := D6.out.post hP7; have D7 := hid hD7; clear HLB hP7 hD7)))
          | (go_at_call 10; go_must (have HSI := sameInts_same nw a5 aN c5 cN w5 (by have := HNW.out; omega) HL5.out HLN5.out; rw [HNW.out] at HSI; refine HSI.mono ?_; rintro e w6 ⟨rfl, hc6⟩; have D6 := hid (D5.out.call hc6); have q16 := D6.out.T.c1; clear HSI hc6 q15))
          | fail)
        clear q16 D5 D6 HL5 HLN5 HLN HD HNV
        have FI7 := hid (mkd_fi (lt := ltL LL) HK.out.1 HK.out.2.1 (fun y => Nat.le_trans (ltL_le HLen2.out.2 y) (by omega)))
        have HSD := hid (secs_leT FI7.out.inv)
        have HFT := hid (tk_fit HK.out.1)
        have HODL : Hid (s.od.length ≤ 1000000000000) := hid (by have := HK.out.2.2.2; have := HML.out; have := HLM.out; omega)
        have HWR0 : Hid (s.z.d.wr ≤ 5000 * m) := hid (by rw [← HLM.out]; exact HK.out.2.2.1)
        go_upto_region 19 with fail
        go_loopw [12] (fun i wq => ∃ (k : Nat) (ρ : Nat → Option Role) (ov : Value) (s1 : TSt), k ≤ n ∧ i = .int .i64 k ∧ Hid (Dk w wq t c p g n lb db ρ ov s1 w2.heap.size V LL nv nw w2.heap.size) ∧ Hid (FI n s1.z (ltL LL)) ∧ Hid (∀ o, o ∈ s1.od → (0 ≤ o.1 ∧ o.1 < n) ∧ (0 ≤ o.2.2.1 ∧ o.2.2.1 < n)) ∧ Hid (s1.od.length ≤ 1000000000000) ∧ Hid (s1.z.d.wr ≤ 5000 * m + k) ∧ Hid (k + (secs s1.z.dirty).length ≤ n)) (fun i _ => n - (intOf i).toNat)
        case atStart => exact ⟨0, _, _, _, by omega, rfl, D7, FI7, hid HFT.out.rng, HODL, hid (by have := HWR0.out; show s.z.d.wr ≤ _; omega), hid (by have := HSD.out; show 0 + (secs (mkd s.z (ltL LL) []).dirty).length ≤ n; omega)⟩
        case round =>
          clear D7 FI7 HSD HFT HODL HWR0
          obtain ⟨i, ρi, ovi, s1, hi, rfl, HD, HF, HOR, HOL, HWR, HSM⟩ := hrel
          have q1 := HD.out.T.c1
          have HDI := dirty_any HD.out.T.ca
          obtain ⟨N1, hN1⟩ : ∃ y, y = (secs s1.z.dirty).length := ⟨_, rfl⟩
          have HN1 := hid hN1
          by_cases hd : N1 = 0
          · as_aux_lemma =>
              rw [hd] at hN1
              have HN0 := hid hN1
              clear HN1 hd hN1
              go_upto_region 31 with (first
                | (go_at_call 11; go_must (refine HDI.mono ?_; rintro e w5 ⟨v5, rfl, h5, c5⟩; obtain ⟨a5, k5, hv5, _, _⟩ := h5.lat; rw [← HN0.out] at hv5; subst hv5; have D5 := hid (HD.out.call c5); clear h5 c5 HDI))
                | fail)
              have q15 := D5.out.T.c1
              have HLD := landed_t D5.out.T.ca
              rw [HF.out.ld] at HLD
              simp only [List.length_nil] at HLD
              clear q1
              go_wp2_with (first
                | (go_at_call 7; go_must (refine HLD.mono ?_; rintro e w6 ⟨a6, c6, rfl, _, hP6⟩; obtain ⟨ρ6, hD6⟩ := D5.out.post hP6; have D6 := hid hD6; clear HLD hP6 hD6))
                | fail)
              go_ret
              exact ⟨rfl, D6.out.T.ch⟩
          · as_aux_lemma =>
              have hd0 : (0 : Int) < (N1 : Int) := by omega
              have hel := elig_some HF.out.inv (by rw [← hN1]; exact hd)
              have hNl : N1 ≤ 4096 := by rw [hN1]; exact secs_len _
              clear hN1
              go_upto_region 21 with (first
                | (go_at_call 11; go_must (refine HDI.mono ?_; rintro e w5 ⟨v5, rfl, h5, c5⟩; obtain ⟨a5, k5, hv5, _, _⟩ := h5.lat; rw [← HN1.out] at hv5; subst hv5; have D5 := hid (HD.out.call c5); clear h5 c5 HDI))
                | fail)
              clear q1 HD
              have q15 := D5.out.T.c1
              have HEL := elig_any D5.out.T.ca
              obtain ⟨EL, hEL⟩ : ∃ y, y = secs fun x => s1.z.dirty x ∧ FreeE s1.z.E x := ⟨_, rfl⟩
              rw [← hEL] at HEL hel
              have HEM : Hid (∀ x, x ∈ EL → s1.z.dirty x ∧ FreeE s1.z.E x) := hid (fun x hx => by rw [hEL] at hx; exact (secs_mem.1 hx).2)
              have hELl : EL.length ≤ 4096 := by rw [hEL]; exact secs_len _
              clear hEL
              obtain ⟨N2, hN2⟩ : ∃ y, y = EL.length := ⟨_, rfl⟩
              have HN2 := hid hN2
              rw [← hN2] at hel hELl
              clear hN2
              go_upto_region 22 with (first
                | (go_at_call 12; go_must (refine HEL.mono ?_; rintro e w6 ⟨v6, rfl, h6, c6⟩; obtain ⟨a6, k6, hv6, hL6, _⟩ := h6.lat; rw [← HN2.out] at hv6; subst hv6; have D6 := hid (D5.out.call c6); have HL6 := hid hL6; clear h6 c6 hL6 HEL))
                | fail)
              clear q15 D5
              have q62 := D6.out.T.c2
              have hb0 : ((N2 : Int) == 0) = false := by simp; omega
              have hkn : ¬ ((n : Int) < (i : Int)) := by omega
              go_upto_region 24 with fail
              clear q62 hb0 hkn
              have hJb := D.pickN_bd ((i : Int) * 7) (n := (N2 : Int)) (by omega)
              obtain ⟨J, hJ⟩ : ∃ J : Nat, D.pickN ((i : Int) * 7) N2 = (J : Int) := ⟨(D.pickN ((i : Int) * 7) N2).toNat, by omega⟩
              have HPK := D.pick_any ((i : Int) * 7) N2 w6 ⟨by omega, by omega⟩ (by omega) (by omega)
              rw [hJ] at HPK hJb
              have hJ2 : J < EL.length := by have := HN2.out; omega
              have hXm : EL.getD J 0 ∈ EL := by rw [List.getD_eq_getElem?_getD, List.getElem?_eq_getElem hJ2]; exact List.getElem_mem _
              obtain ⟨hXd, hXf⟩ := HEM.out _ hXm
              have hXok := HF.out.inv.ok _ hXd
              obtain ⟨gE, rfl, _, hcE⟩ : ∃ gE, a6 = some ⟨gE, 0, none⟩ ∧ gE < w6.heap.size ∧ ∀ k, k < EL.length → w6.cell? ⟨gE, k, none⟩ = some (.int .i64 (EL.getD k 0)) := by
                rcases HL6.out with h | h
                · rw [h] at hJ2; simp at hJ2
                · exact h
              have hcJ := hcE J hJ2
              obtain ⟨K, hK⟩ : ∃ K : Nat, EL.getD J 0 = (K : Int) := ⟨(EL.getD J 0).toNat, by omega⟩
              rw [hK] at hcJ hXd hXf hXok
              have hKn : K < n := by omega
              have j0 : (0 : Int) ≤ (J : Int) := by omega
              have j1 : (J : Int) < (N2 : Int) := by omega
              have k0 : (0 : Int) ≤ (K : Int) := by omega
              have k1 : (K : Int) < (n : Int) := by omega
              have i0 : (0 : Int) ≤ (i : Int) := by omega
              have i4 : (i : Int) ≤ 4096 := by omega
              have HXD := hid hXd
              have HXF := hid hXf
              clear hJ hJb hXm hXd hXf hXok hcE hK hJ2 HEM HL6
              have HPK2 := hid HPK
              go_upto_region 25 with (first
                | (go_at_call 8; go_must (refine HPK2.out.mono ?_; rintro e wp ⟨rfl, ewp⟩; subst ewp))
                | fail)
              clear HPK HPK2
              clear hcJ j0 j1
              by_cases h5 : (i : Int) % 5 = 3
              · as_aux_lemma =>
                  have h5t : (i : Int).tmod 5 = 3 := by rw [Int.tmod_eq_emod_of_nonneg (by omega)]; exact h5
                  obtain ⟨hFd, hcd⟩ := HF.out.drop HXD.out
                  have HDR := drops2 (K : Int) D6.out.T ⟨HF.out.sec, HOR.out⟩ ⟨by omega, by omega⟩ HF.out.al.1 HF.out.al.2 HOL.out
                  have HFd := hid hFd
                  have HCD := hid hcd
                  clear hFd hcd
                  go_upto_region 20 with (first
                    | (go_at_call 13; go_must (refine HDR.mono ?_; rintro e w7 ⟨rfl, ⟨ρ7, ov7, hT7, hb7⟩, hc7⟩; have D7 := hid (D6.out.tell hT7 hb7 hc7); have q17 := D7.out.T.c1; have HLD := landed_t D7.out.T.ca; rw [show (dropsT s1 (K : Int)).z.ld = [] by rw [dropsT_z]; exact HF.out.ld, told_same (by rw [dropsT_z]; exact HF.out.ld)] at HLD; simp only [List.length_nil] at HLD; clear HDR hT7 hb7 hc7))
                    | (go_at_call 7; go_must (refine HLD.mono ?_; rintro e w8 ⟨a8, c8, rfl, _, hP8⟩; obtain ⟨ρ8, hD8⟩ := D7.out.post hP8; have D8 := hid hD8; clear HLD hP8 hD8))
                    | fail)
                  clear q17 D7 D6
                  go_wp2_with fail
                  exact ⟨⟨i + 1, _, _, _, by have := HSM.out; have := HN1.out; omega, by go_num, D8, hid (by show FI n (dropsT s1 (K : Int)).z _; rw [dropsT_z]; exact HFd.out), hid (fun o ho => HOR.out o (dropsT_od ho)), hid (by have := dropsT_len s1 (K : Int); have := HOL.out; show (dropsT s1 (K : Int)).od.length ≤ _; omega), hid (by show (dropsT s1 (K : Int)).z.d.wr ≤ _; rw [dropsT_z]; have := HWR.out; show s1.z.d.wr ≤ _; omega), hid (by show _ + (secs (dropsT s1 (K : Int)).z.dirty).length ≤ _; rw [dropsT_z]; have := HCD.out; have := HSM.out; omega)⟩, by have := HSM.out; have := HN1.out; simp [intOf]; omega⟩
              · as_aux_lemma =>
                  have hb5 : ((i : Int) % 5 == 3) = false := by simpa using h5
                  obtain ⟨f1, f2, f3, f4, f5, f6⟩ := HF.out.flush HXD.out HXF.out
                  have HFL := flushC_any (K : Int) D6.out.T.ca ⟨by omega, by omega⟩ HF.out.tb (by have := HWR.out; have := HML.out; omega)
                  rw [f1, f2] at HFL
                  have H3 := hid f3
                  have H4 := hid f4
                  have H5 := hid f5
                  have H6 := hid f6
                  clear f1 f2 f3 f4 f5 f6
                  generalize hz1 : (flushC n s1.z (K : Int)).1 = z1 at *
                  clear hz1
                  have q16 := D6.out.T.c1
                  go_upto_region 29 with (first
                    | (go_at_call 14; go_must (refine HFL.mono ?_; rintro e w7 ⟨rfl, hP7⟩; obtain ⟨ρ7, hD7⟩ := D6.out.post hP7; have D7 := hid hD7; clear HFL hP7 hD7))
                    | fail)
                  clear hb5 h5 q16
                  have hld : z1.ld = LL.getD K [] := by rw [H3.out, ltL_nat]
                  have HLD := hid (fun (X : World) (ρx : Nat → Option Role) (hX : IsC X c p g n ρx ({ s1 with z := z1 } : TSt).z) => landed_t hX)
                  simp only [hld] at HLD
                  obtain ⟨xL, aL, cL, hxL, hxv, hcL, hLA, hIL⟩ := D7.out.at_ hKn
                  have hlk60 : (LL.getD K []).length ≤ 60 := HLen2.out.2 K
                  generalize hLK : LL.getD K [] = lk at *
                  generalize hNL : lk.length = NL at *
                  have HNL := hid hNL
                  have HLK2 := hid hLK
                  have HLA7 := hid hLA
                  clear hxv hxL hIL hLA hLK hNL hld
                  refine wp_region_noPanic ?_
                  refine wp_region_held_drew (S := fun w' => w'.cell? ⟨t, 1, none⟩ = some (.pointer (some ⟨c, 0, none⟩)) ∧ w'.cell? ⟨w2.heap.size, K, none⟩ = some (.slice aL NL cL)) (by kernel_rfl) ⟨D7.out.T.c1, hcL⟩ (fun hHeld => ?_)
                  refine takeVal 0 175 (.bool true) rfl (by kernel_rfl) (by kernel_rfl) (by kernel_rfl) rfl (by rfl) (fun _ _ _ h => h) hHeld (fun W' hw' => rfl) ?_
                  simp only [List.setIfInBounds_toArray, List.set_cons_zero, List.set_cons_succ]
                  refine takeVal 1 176 (.bool false) rfl (by kernel_rfl) (by kernel_rfl) (by kernel_rfl) rfl (by rfl) (fun _ _ _ h => h) hHeld (fun W' hw' => by go_simp) ?_
                  simp only [List.setIfInBounds_toArray, List.set_cons_zero, List.set_cons_succ]
                  refine takeVal 2 177 (.bool false) rfl (by kernel_rfl) (by kernel_rfl) (by kernel_rfl) rfl (by rfl) (fun _ _ _ h => h) hHeld (fun W' hw' => rfl) ?_
                  simp only [List.setIfInBounds_toArray, List.set_cons_zero, List.set_cons_succ]
                  refine takeVal 3 178 (.int .i64 0) rfl (by kernel_rfl) (by kernel_rfl) (by kernel_rfl) rfl (by rfl) (fun _ _ _ h => h) hHeld (fun W' hw' => rfl) ?_
                  simp only [List.setIfInBounds_toArray, List.set_cons_zero, List.set_cons_succ]
                  refine takeVal 4 179 (.bool false) rfl (by kernel_rfl) (by kernel_rfl) (by kernel_rfl) rfl (by rfl) (fun _ _ _ h => h) hHeld (fun W' hw' => by go_simp) ?_
                  simp only [List.setIfInBounds_toArray, List.set_cons_zero, List.set_cons_succ]
                  refine takeVal 5 180 (.bool false) rfl (by kernel_rfl) (by kernel_rfl) (by kernel_rfl) rfl (by rfl) (fun _ _ _ h => h) hHeld (fun W' hw' => by go_simp) ?_
                  simp only [List.setIfInBounds_toArray, List.set_cons_zero, List.set_cons_succ]
                  refine takeVal 6 181 (.bool false) rfl (by kernel_rfl) (by kernel_rfl) (by kernel_rfl) rfl (by rfl) (fun _ _ _ h => h) hHeld (fun W' hw' => rfl) ?_
                  simp only [List.setIfInBounds_toArray, List.set_cons_zero, List.set_cons_succ]
                  refine takeVal 7 182 (.pointer (some ⟨t, 0, none⟩)) rfl (by kernel_rfl) (by kernel_rfl) (by kernel_rfl) rfl (by rfl) (fun _ _ _ h => h) hHeld (fun W' hw' => rfl) ?_
                  simp only [List.setIfInBounds_toArray, List.set_cons_zero, List.set_cons_succ]
                  refine takeVal 8 183 (.pointer (some ⟨t, 0, none⟩)) rfl (by kernel_rfl) (by kernel_rfl) (by kernel_rfl) rfl (by rfl) (fun _ _ _ h => h) hHeld (fun W' hw' => by go_simp) ?_
                  simp only [List.setIfInBounds_toArray, List.set_cons_zero, List.set_cons_succ]
                  refine takeVal 9 184 (.pointer (some ⟨t, 1, none⟩)) rfl (by kernel_rfl) (by kernel_rfl) (by kernel_rfl) rfl (by rfl) (fun _ _ _ h => h) hHeld (fun W' hw' => by go_simp) ?_
                  simp only [List.setIfInBounds_toArray, List.set_cons_zero, List.set_cons_succ]
                  refine takeVal 10 185 (.pointer (some ⟨c, 0, none⟩)) rfl (by kernel_rfl) (by kernel_rfl) (by kernel_rfl) rfl (by rfl) (fun _ _ _ h => h) hHeld (fun W' hw' => by have hc := hw'.1; go_simp) ?_
                  simp only [List.setIfInBounds_toArray, List.set_cons_zero, List.set_cons_succ]
                  refine takeVal 12 187 (.slice (some ⟨w2.heap.size, 0, none⟩) n n) rfl (by kernel_rfl) (by kernel_rfl) (by kernel_rfl) rfl (by rfl) (fun _ _ _ h => h) hHeld (fun W' hw' => rfl) ?_
                  simp only [List.setIfInBounds_toArray, List.set_cons_zero, List.set_cons_succ]
                  refine takeVal 13 188 (.int .i64 (K : Int)) rfl (by kernel_rfl) (by kernel_rfl) (by kernel_rfl) rfl (by rfl) (fun _ _ _ h => h) hHeld (fun W' hw' => rfl) ?_
                  simp only [List.setIfInBounds_toArray, List.set_cons_zero, List.set_cons_succ]
                  refine takeVal 14 189 (.pointer (some ⟨w2.heap.size, K, none⟩)) rfl (by kernel_rfl) (by kernel_rfl) (by kernel_rfl) rfl (by rfl) (fun _ _ _ h => h) hHeld (fun W' hw' => by go_simp) ?_
                  simp only [List.setIfInBounds_toArray, List.set_cons_zero, List.set_cons_succ]
                  refine takeVal 15 190 (.slice aL NL cL) rfl (by kernel_rfl) (by kernel_rfl) (by kernel_rfl) rfl (by rfl) (fun _ _ _ h => h) hHeld (fun W' hw' => by have hc := hw'.2; go_simp) ?_
                  simp only [List.setIfInBounds_toArray, List.set_cons_zero, List.set_cons_succ]
                  have D8 := D7.out.call (Chg.refl w7 No).drew
                  refine step1 11 (by kernel_rfl) ?_
                  refine stCall 11 186 7 #[.pointer (some ⟨c, 0, none⟩)] _ rfl rfl (by rfl) (by go_simp) (HLD.out _ _ D8.T.ca) ?_
                  rintro e w9 ⟨a9, c9, rfl, hL9, hP9⟩
                  obtain ⟨ρ9, hD9⟩ := D8.post hP9
                  obtain ⟨x9, aM, cM, hx9, hv9, hc9, hLM, _⟩ := hD9.at_ hKn
                  rw [HLK2.out] at hc9 hLM
                  rw [HNL.out] at hc9
                  have h9 : w9.cell? ⟨t, 1, none⟩ = some (.pointer (some ⟨c, 0, none⟩)) ∧ w9.cell? ⟨w2.heap.size, K, none⟩ = some (.slice aL NL cL) := ⟨hD9.T.c1, lot_same D8 hD9 hHeld.2 hKn⟩
                  refine ⟨_, rfl, h9, ?_⟩
                  simp only [List.setIfInBounds_toArray, List.set_cons_zero, List.set_cons_succ]
                  have hLN : LAt w9 aL lk := later_at D8 hD9 hHeld.2 hKn hc9 hLM
                  refine step1 16 (by kernel_rfl) ?_
                  refine stCall 16 191 10 #[.slice a9 NL c9, .slice aL NL cL] _ rfl rfl (by rfl) (by go_simp) (by have := sameInts_same lk a9 aL c9 cL w9 (by have := HNL.out; omega) hL9 hLN; rw [HNL.out] at this; exact this) ?_
                  rintro e w10 ⟨rfl, hc10⟩
                  have hD10 := hD9.call hc10
                  have h10 : w10.cell? ⟨t, 1, none⟩ = some (.pointer (some ⟨c, 0, none⟩)) ∧ w10.cell? ⟨w2.heap.size, K, none⟩ = some (.slice aL NL cL) := ⟨hD10.T.c1, cell_keep h9.2 hc10 (World.block_lt_of_cell? _ _ h9.2) (fun e => e)⟩
                  refine ⟨_, rfl, h10, ?_⟩
                  simp only [List.setIfInBounds_toArray, List.set_cons_zero, List.set_cons_succ]
                  refine takeVal 17 192 (.bool false) rfl (by kernel_rfl) (by kernel_rfl) (by kernel_rfl) rfl (by rfl) (fun _ _ _ h => h) h10 (fun W' hw' => by go_simp) ?_
                  simp only [List.setIfInBounds_toArray, List.set_cons_zero, List.set_cons_succ]
                  refine takeVal 18 193 (.bool false) rfl (by kernel_rfl) (by kernel_rfl) (by kernel_rfl) rfl (by rfl) (fun _ _ _ h => h) h10 (fun W' hw' => by go_simp) ?_
                  simp only [List.setIfInBounds_toArray, List.set_cons_zero, List.set_cons_succ]
                  refine wpAnyH_done (by kernel_rfl) ?_ _
                  refine NoPanic.normal ?_
                  have DF := hid hD10
                  clear hD10 h10 hD9 hP9 hL9 h9 hLM hLN hc10 D8 hHeld hx9 hv9 hc9
                  go_wp2_with fail
                  exact ⟨⟨i + 1, _, _, _, by have := HSM.out; have := HN1.out; omega, by go_num, DF, H4, HOR, HOL, hid (by have := H5.out; have := HWR.out; show z1.d.wr ≤ _; omega), hid (by show _ + (secs z1.dirty).length ≤ _; have := H6.out; have := HSM.out; omega)⟩, by have := HSM.out; have := HN1.out; simp [intOf]; omega⟩
    · have i1 : ¬ ((k : Int) < (m2 : Int)) := by omega
      have HLen2 : Hid (nw.length ≤ 60 ∧ ∀ j, (LL.getD j []).length ≤ 60) := hid ⟨by have := HLen.out.1; omega, fun j => by have := HLen.out.2 j; omega⟩
      clear HLen
      have q1 := HD.out.T.c1
      obtain ⟨aN, cN, hnv, hLN, _⟩ := HD.out.N.lat
      have HNV := hid hnv
      have HLN := hid hLN
      have HLA := landed_t (s := { s with z := mkd s.z (ltL LL) nw }) HD.out.T.ca
      rw [told_mkd] at HLA
      simp only at HLA
      rw [show (mkd s.z (ltL LL) nw).ld = nw from rfl] at HLA
      rw [hnv]
      clear hnv hLN
      generalize hNW : nw.length = NW at *
      have HNW := hid hNW
      have hNW60 : NW ≤ 60 := by have := HLen2.out.1; have := HNW.out; omega
      clear hNW
      go_upto_region 18 with (first
        | (go_at_call 7; go_must (first
          | (refine HLA.mono ?_; rintro e w5 ⟨a5, c5, rfl, hL5, hP5⟩; obtain ⟨ρ5, hD5⟩ := HD.out.post hP5; have HL5 := hid hL5; have q15 := hD5.T.c1; obtain ⟨aM, cM, hnM, hLM, _⟩ := hD5.N.lat; have hLN5 : LAt w5 aN nw := (by rw [HNV.out, HNW.out] at hnM; injection hnM with e1 _ _; rw [e1]; exact hLM); have HLN5 := hid hLN5; have D5 := hid hD5; clear HLA hP5 hD5 hL5 hnM hLM hLN5 q1)
          | (have HLB := landed_t (s := { s with z := mkd s.z (ltL LL) [] }) D6.out.T.ca; rw [told_mkd] at HLB; simp only at HLB; rw [show (mkd s.z (ltL LL) []).ld = [] from rfl] at HLB; simp only [List.length_nil] at HLB; refine HLB.mono ?_; rintro e w7 ⟨a7, c7, rfl, _, hP7⟩; obtain ⟨ρ7, hD7⟩ := D6.out.post hP7; have D7 := hid hD7; clear HLB hP7 hD7)))
        | (go_at_call 10; go_must (have HSI := sameInts_same nw a5 aN c5 cN w5 (by have := HNW.out; omega) HL5.out HLN5.out; rw [HNW.out] at HSI; refine HSI.mono ?_; rintro e w6 ⟨rfl, hc6⟩; have D6 := hid (D5.out.call hc6); have q16 := D6.out.T.c1; clear HSI hc6 q15))
        | fail)
      clear q16 D5 D6 HL5 HLN5 HLN HD HNV
      have FI7 := hid (mkd_fi (lt := ltL LL) HK.out.1 HK.out.2.1 (fun y => Nat.le_trans (ltL_le HLen2.out.2 y) (by omega)))
      have HSD := hid (secs_leT FI7.out.inv)
      have HFT := hid (tk_fit HK.out.1)
      have HODL : Hid (s.od.length ≤ 1000000000000) := hid (by have := HK.out.2.2.2; have := HML.out; have := HLM.out; omega)
      have HWR0 : Hid (s.z.d.wr ≤ 5000 * m) := hid (by rw [← HLM.out]; exact HK.out.2.2.1)
      go_upto_region 19 with fail
      go_loopw [12] (fun i wq => ∃ (k : Nat) (ρ : Nat → Option Role) (ov : Value) (s1 : TSt), k ≤ n ∧ i = .int .i64 k ∧ Hid (Dk w wq t c p g n lb db ρ ov s1 w2.heap.size V LL nv nw w2.heap.size) ∧ Hid (FI n s1.z (ltL LL)) ∧ Hid (∀ o, o ∈ s1.od → (0 ≤ o.1 ∧ o.1 < n) ∧ (0 ≤ o.2.2.1 ∧ o.2.2.1 < n)) ∧ Hid (s1.od.length ≤ 1000000000000) ∧ Hid (s1.z.d.wr ≤ 5000 * m + k) ∧ Hid (k + (secs s1.z.dirty).length ≤ n)) (fun i _ => n - (intOf i).toNat)
      case atStart => exact ⟨0, _, _, _, by omega, rfl, D7, FI7, hid HFT.out.rng, HODL, hid (by have := HWR0.out; show s.z.d.wr ≤ _; omega), hid (by have := HSD.out; show 0 + (secs (mkd s.z (ltL LL) []).dirty).length ≤ n; omega)⟩
      case round =>
        clear D7 FI7 HSD HFT HODL HWR0
        obtain ⟨i, ρi, ovi, s1, hi, rfl, HD, HF, HOR, HOL, HWR, HSM⟩ := hrel
        have q1 := HD.out.T.c1
        have HDI := dirty_any HD.out.T.ca
        obtain ⟨N1, hN1⟩ : ∃ y, y = (secs s1.z.dirty).length := ⟨_, rfl⟩
        have HN1 := hid hN1
        by_cases hd : N1 = 0
        · as_aux_lemma =>
            rw [hd] at hN1
            have HN0 := hid hN1
            clear HN1 hd hN1
            go_upto_region 31 with (first
              | (go_at_call 11; go_must (refine HDI.mono ?_; rintro e w5 ⟨v5, rfl, h5, c5⟩; obtain ⟨a5, k5, hv5, _, _⟩ := h5.lat; rw [← HN0.out] at hv5; subst hv5; have D5 := hid (HD.out.call c5); clear h5 c5 HDI))
              | fail)
            have q15 := D5.out.T.c1
            have HLD := landed_t D5.out.T.ca
            rw [HF.out.ld] at HLD
            simp only [List.length_nil] at HLD
            clear q1
            go_wp2_with (first
              | (go_at_call 7; go_must (refine HLD.mono ?_; rintro e w6 ⟨a6, c6, rfl, _, hP6⟩; obtain ⟨ρ6, hD6⟩ := D5.out.post hP6; have D6 := hid hD6; clear HLD hP6 hD6))
              | fail)
            go_ret
            exact ⟨rfl, D6.out.T.ch⟩
        · as_aux_lemma =>
            have hd0 : (0 : Int) < (N1 : Int) := by omega
            have hel := elig_some HF.out.inv (by rw [← hN1]; exact hd)
            have hNl : N1 ≤ 4096 := by rw [hN1]; exact secs_len _
            clear hN1
            go_upto_region 21 with (first
              | (go_at_call 11; go_must (refine HDI.mono ?_; rintro e w5 ⟨v5, rfl, h5, c5⟩; obtain ⟨a5, k5, hv5, _, _⟩ := h5.lat; rw [← HN1.out] at hv5; subst hv5; have D5 := hid (HD.out.call c5); clear h5 c5 HDI))
              | fail)
            clear q1 HD
            have q15 := D5.out.T.c1
            have HEL := elig_any D5.out.T.ca
            obtain ⟨EL, hEL⟩ : ∃ y, y = secs fun x => s1.z.dirty x ∧ FreeE s1.z.E x := ⟨_, rfl⟩
            rw [← hEL] at HEL hel
            have HEM : Hid (∀ x, x ∈ EL → s1.z.dirty x ∧ FreeE s1.z.E x) := hid (fun x hx => by rw [hEL] at hx; exact (secs_mem.1 hx).2)
            have hELl : EL.length ≤ 4096 := by rw [hEL]; exact secs_len _
            clear hEL
            obtain ⟨N2, hN2⟩ : ∃ y, y = EL.length := ⟨_, rfl⟩
            have HN2 := hid hN2
            rw [← hN2] at hel hELl
            clear hN2
            go_upto_region 22 with (first
              | (go_at_call 12; go_must (refine HEL.mono ?_; rintro e w6 ⟨v6, rfl, h6, c6⟩; obtain ⟨a6, k6, hv6, hL6, _⟩ := h6.lat; rw [← HN2.out] at hv6; subst hv6; have D6 := hid (D5.out.call c6); have HL6 := hid hL6; clear h6 c6 hL6 HEL))
              | fail)
            clear q15 D5
            have q62 := D6.out.T.c2
            have hb0 : ((N2 : Int) == 0) = false := by simp; omega
            have hkn : ¬ ((n : Int) < (i : Int)) := by omega
            go_upto_region 24 with fail
            clear q62 hb0 hkn
            have hJb := D.pickN_bd ((i : Int) * 7) (n := (N2 : Int)) (by omega)
            obtain ⟨J, hJ⟩ : ∃ J : Nat, D.pickN ((i : Int) * 7) N2 = (J : Int) := ⟨(D.pickN ((i : Int) * 7) N2).toNat, by omega⟩
            have HPK := D.pick_any ((i : Int) * 7) N2 w6 ⟨by omega, by omega⟩ (by omega) (by omega)
            rw [hJ] at HPK hJb
            have hJ2 : J < EL.length := by have := HN2.out; omega
            have hXm : EL.getD J 0 ∈ EL := by rw [List.getD_eq_getElem?_getD, List.getElem?_eq_getElem hJ2]; exact List.getElem_mem _
            obtain ⟨hXd, hXf⟩ := HEM.out _ hXm
            have hXok := HF.out.inv.ok _ hXd
            obtain ⟨gE, rfl, _, hcE⟩ : ∃ gE, a6 = some ⟨gE, 0, none⟩ ∧ gE < w6.heap.size ∧ ∀ k, k < EL.length → w6.cell? ⟨gE, k, none⟩ = some (.int .i64 (EL.getD k 0)) := by
              rcases HL6.out with h | h
              · rw [h] at hJ2; simp at hJ2
              · exact h
            have hcJ := hcE J hJ2
            obtain ⟨K, hK⟩ : ∃ K : Nat, EL.getD J 0 = (K : Int) := ⟨(EL.getD J 0).toNat, by omega⟩
            rw [hK] at hcJ hXd hXf hXok
            have hKn : K < n := by omega
            have j0 : (0 : Int) ≤ (J : Int) := by omega
            have j1 : (J : Int) < (N2 : Int) := by omega
            have k0 : (0 : Int) ≤ (K : Int) := by omega
            have k1 : (K : Int) < (n : Int) := by omega
            have i0 : (0 : Int) ≤ (i : Int) := by omega
            have i4 : (i : Int) ≤ 4096 := by omega
            have HXD := hid hXd
            have HXF := hid hXf
            clear hJ hJb hXm hXd hXf hXok hcE hK hJ2 HEM HL6
            have HPK2 := hid HPK
            go_upto_region 25 with (first
              | (go_at_call 8; go_must (refine HPK2.out.mono ?_; rintro e wp ⟨rfl, ewp⟩; subst ewp))
              | fail)
            clear HPK HPK2
            clear hcJ j0 j1
            by_cases h5 : (i : Int) % 5 = 3
            · as_aux_lemma =>
                have h5t : (i : Int).tmod 5 = 3 := by rw [Int.tmod_eq_emod_of_nonneg (by omega)]; exact h5
                obtain ⟨hFd, hcd⟩ := HF.out.drop HXD.out
                have HDR := drops2 (K : Int) D6.out.T ⟨HF.out.sec, HOR.out⟩ ⟨by omega, by omega⟩ HF.out.al.1 HF.out.al.2 HOL.out
                have HFd := hid hFd
                have HCD := hid hcd
                clear hFd hcd
                go_upto_region 20 with (first
                  | (go_at_call 13; go_must (refine HDR.mono ?_; rintro e w7 ⟨rfl, ⟨ρ7, ov7, hT7, hb7⟩, hc7⟩; have D7 := hid (D6.out.tell hT7 hb7 hc7); have q17 := D7.out.T.c1; have HLD := landed_t D7.out.T.ca; rw [show (dropsT s1 (K : Int)).z.ld = [] by rw [dropsT_z]; exact HF.out.ld, told_same (by rw [dropsT_z]; exact HF.out.ld)] at HLD; simp only [List.length_nil] at HLD; clear HDR hT7 hb7 hc7))
                  | (go_at_call 7; go_must (refine HLD.mono ?_; rintro e w8 ⟨a8, c8, rfl, _, hP8⟩; obtain ⟨ρ8, hD8⟩ := D7.out.post hP8; have D8 := hid hD8; clear HLD hP8 hD8))
                  | fail)
                clear q17 D7 D6
                go_wp2_with fail
                exact ⟨⟨i + 1, _, _, _, by have := HSM.out; have := HN1.out; omega, by go_num, D8, hid (by show FI n (dropsT s1 (K : Int)).z _; rw [dropsT_z]; exact HFd.out), hid (fun o ho => HOR.out o (dropsT_od ho)), hid (by have := dropsT_len s1 (K : Int); have := HOL.out; show (dropsT s1 (K : Int)).od.length ≤ _; omega), hid (by show (dropsT s1 (K : Int)).z.d.wr ≤ _; rw [dropsT_z]; have := HWR.out; show s1.z.d.wr ≤ _; omega), hid (by show _ + (secs (dropsT s1 (K : Int)).z.dirty).length ≤ _; rw [dropsT_z]; have := HCD.out; have := HSM.out; omega)⟩, by have := HSM.out; have := HN1.out; simp [intOf]; omega⟩
            · as_aux_lemma =>
                have hb5 : ((i : Int) % 5 == 3) = false := by simpa using h5
                obtain ⟨f1, f2, f3, f4, f5, f6⟩ := HF.out.flush HXD.out HXF.out
                have HFL := flushC_any (K : Int) D6.out.T.ca ⟨by omega, by omega⟩ HF.out.tb (by have := HWR.out; have := HML.out; omega)
                rw [f1, f2] at HFL
                have H3 := hid f3
                have H4 := hid f4
                have H5 := hid f5
                have H6 := hid f6
                clear f1 f2 f3 f4 f5 f6
                generalize hz1 : (flushC n s1.z (K : Int)).1 = z1 at *
                clear hz1
                have q16 := D6.out.T.c1
                go_upto_region 29 with (first
                  | (go_at_call 14; go_must (refine HFL.mono ?_; rintro e w7 ⟨rfl, hP7⟩; obtain ⟨ρ7, hD7⟩ := D6.out.post hP7; have D7 := hid hD7; clear HFL hP7 hD7))
                  | fail)
                clear hb5 h5 q16
                have hld : z1.ld = LL.getD K [] := by rw [H3.out, ltL_nat]
                have HLD := hid (fun (X : World) (ρx : Nat → Option Role) (hX : IsC X c p g n ρx ({ s1 with z := z1 } : TSt).z) => landed_t hX)
                simp only [hld] at HLD
                obtain ⟨xL, aL, cL, hxL, hxv, hcL, hLA, hIL⟩ := D7.out.at_ hKn
                have hlk60 : (LL.getD K []).length ≤ 60 := HLen2.out.2 K
                generalize hLK : LL.getD K [] = lk at *
                generalize hNL : lk.length = NL at *
                have HNL := hid hNL
                have HLK2 := hid hLK
                have HLA7 := hid hLA
                clear hxv hxL hIL hLA hLK hNL hld
                refine wp_region_noPanic ?_
                refine wp_region_held_drew (S := fun w' => w'.cell? ⟨t, 1, none⟩ = some (.pointer (some ⟨c, 0, none⟩)) ∧ w'.cell? ⟨w2.heap.size, K, none⟩ = some (.slice aL NL cL)) (by kernel_rfl) ⟨D7.out.T.c1, hcL⟩ (fun hHeld => ?_)
                refine takeVal 0 175 (.bool true) rfl (by kernel_rfl) (by kernel_rfl) (by kernel_rfl) rfl (by rfl) (fun _ _ _ h => h) hHeld (fun W' hw' => rfl) ?_
                simp only [List.setIfInBounds_toArray, List.set_cons_zero, List.set_cons_succ]
                refine takeVal 1 176 (.bool false) rfl (by kernel_rfl) (by kernel_rfl) (by kernel_rfl) rfl (by rfl) (fun _ _ _ h => h) hHeld (fun W' hw' => by go_simp) ?_
                simp only [List.setIfInBounds_toArray, List.set_cons_zero, List.set_cons_succ]
                refine takeVal 2 177 (.bool false) rfl (by kernel_rfl) (by kernel_rfl) (by kernel_rfl) rfl (by rfl) (fun _ _ _ h => h) hHeld (fun W' hw' => rfl) ?_
                simp only [List.setIfInBounds_toArray, List.set_cons_zero, List.set_cons_succ]
                refine takeVal 3 178 (.int .i64 0) rfl (by kernel_rfl) (by kernel_rfl) (by kernel_rfl) rfl (by rfl) (fun _ _ _ h => h) hHeld (fun W' hw' => rfl) ?_
                simp only [List.setIfInBounds_toArray, List.set_cons_zero, List.set_cons_succ]
                refine takeVal 4 179 (.bool false) rfl (by kernel_rfl) (by kernel_rfl) (by kernel_rfl) rfl (by rfl) (fun _ _ _ h => h) hHeld (fun W' hw' => by go_simp) ?_
                simp only [List.setIfInBounds_toArray, List.set_cons_zero, List.set_cons_succ]
                refine takeVal 5 180 (.bool false) rfl (by kernel_rfl) (by kernel_rfl) (by kernel_rfl) rfl (by rfl) (fun _ _ _ h => h) hHeld (fun W' hw' => by go_simp) ?_
                simp only [List.setIfInBounds_toArray, List.set_cons_zero, List.set_cons_succ]
                refine takeVal 6 181 (.bool false) rfl (by kernel_rfl) (by kernel_rfl) (by kernel_rfl) rfl (by rfl) (fun _ _ _ h => h) hHeld (fun W' hw' => rfl) ?_
                simp only [List.setIfInBounds_toArray, List.set_cons_zero, List.set_cons_succ]
                refine takeVal 7 182 (.pointer (some ⟨t, 0, none⟩)) rfl (by kernel_rfl) (by kernel_rfl) (by kernel_rfl) rfl (by rfl) (fun _ _ _ h => h) hHeld (fun W' hw' => rfl) ?_
                simp only [List.setIfInBounds_toArray, List.set_cons_zero, List.set_cons_succ]
                refine takeVal 8 183 (.pointer (some ⟨t, 0, none⟩)) rfl (by kernel_rfl) (by kernel_rfl) (by kernel_rfl) rfl (by rfl) (fun _ _ _ h => h) hHeld (fun W' hw' => by go_simp) ?_
                simp only [List.setIfInBounds_toArray, List.set_cons_zero, List.set_cons_succ]
                refine takeVal 9 184 (.pointer (some ⟨t, 1, none⟩)) rfl (by kernel_rfl) (by kernel_rfl) (by kernel_rfl) rfl (by rfl) (fun _ _ _ h => h) hHeld (fun W' hw' => by go_simp) ?_
                simp only [List.setIfInBounds_toArray, List.set_cons_zero, List.set_cons_succ]
                refine takeVal 10 185 (.pointer (some ⟨c, 0, none⟩)) rfl (by kernel_rfl) (by kernel_rfl) (by kernel_rfl) rfl (by rfl) (fun _ _ _ h => h) hHeld (fun W' hw' => by have hc := hw'.1; go_simp) ?_
                simp only [List.setIfInBounds_toArray, List.set_cons_zero, List.set_cons_succ]
                refine takeVal 12 187 (.slice (some ⟨w2.heap.size, 0, none⟩) n n) rfl (by kernel_rfl) (by kernel_rfl) (by kernel_rfl) rfl (by rfl) (fun _ _ _ h => h) hHeld (fun W' hw' => rfl) ?_
                simp only [List.setIfInBounds_toArray, List.set_cons_zero, List.set_cons_succ]
                refine takeVal 13 188 (.int .i64 (K : Int)) rfl (by kernel_rfl) (by kernel_rfl) (by kernel_rfl) rfl (by rfl) (fun _ _ _ h => h) hHeld (fun W' hw' => rfl) ?_
                simp only [List.setIfInBounds_toArray, List.set_cons_zero, List.set_cons_succ]
                refine takeVal 14 189 (.pointer (some ⟨w2.heap.size, K, none⟩)) rfl (by kernel_rfl) (by kernel_rfl) (by kernel_rfl) rfl (by rfl) (fun _ _ _ h => h) hHeld (fun W' hw' => by go_simp) ?_
                simp only [List.setIfInBounds_toArray, List.set_cons_zero, List.set_cons_succ]
                refine takeVal 15 190 (.slice aL NL cL) rfl (by kernel_rfl) (by kernel_rfl) (by kernel_rfl) rfl (by rfl) (fun _ _ _ h => h) hHeld (fun W' hw' => by have hc := hw'.2; go_simp) ?_
                simp only [List.setIfInBounds_toArray, List.set_cons_zero, List.set_cons_succ]
                have D8 := D7.out.call (Chg.refl w7 No).drew
                refine step1 11 (by kernel_rfl) ?_
                refine stCall 11 186 7 #[.pointer (some ⟨c, 0, none⟩)] _ rfl rfl (by rfl) (by go_simp) (HLD.out _ _ D8.T.ca) ?_
                rintro e w9 ⟨a9, c9, rfl, hL9, hP9⟩
                obtain ⟨ρ9, hD9⟩ := D8.post hP9
                obtain ⟨x9, aM, cM, hx9, hv9, hc9, hLM, _⟩ := hD9.at_ hKn
                rw [HLK2.out] at hc9 hLM
                rw [HNL.out] at hc9
                have h9 : w9.cell? ⟨t, 1, none⟩ = some (.pointer (some ⟨c, 0, none⟩)) ∧ w9.cell? ⟨w2.heap.size, K, none⟩ = some (.slice aL NL cL) := ⟨hD9.T.c1, lot_same D8 hD9 hHeld.2 hKn⟩
                refine ⟨_, rfl, h9, ?_⟩
                simp only [List.setIfInBounds_toArray, List.set_cons_zero, List.set_cons_succ]
                have hLN : LAt w9 aL lk := later_at D8 hD9 hHeld.2 hKn hc9 hLM
                refine step1 16 (by kernel_rfl) ?_
                refine stCall 16 191 10 #[.slice a9 NL c9, .slice aL NL cL] _ rfl rfl (by rfl) (by go_simp) (by have := sameInts_same lk a9 aL c9 cL w9 (by have := HNL.out; omega) hL9 hLN; rw [HNL.out] at this; exact this) ?_
                rintro e w10 ⟨rfl, hc10⟩
                have hD10 := hD9.call hc10
                have h10 : w10.cell? ⟨t, 1, none⟩ = some (.pointer (some ⟨c, 0, none⟩)) ∧ w10.cell? ⟨w2.heap.size, K, none⟩ = some (.slice aL NL cL) := ⟨hD10.T.c1, cell_keep h9.2 hc10 (World.block_lt_of_cell? _ _ h9.2) (fun e => e)⟩
                refine ⟨_, rfl, h10, ?_⟩
                simp only [List.setIfInBounds_toArray, List.set_cons_zero, List.set_cons_succ]
                refine takeVal 17 192 (.bool false) rfl (by kernel_rfl) (by kernel_rfl) (by kernel_rfl) rfl (by rfl) (fun _ _ _ h => h) h10 (fun W' hw' => by go_simp) ?_
                simp only [List.setIfInBounds_toArray, List.set_cons_zero, List.set_cons_succ]
                refine takeVal 18 193 (.bool false) rfl (by kernel_rfl) (by kernel_rfl) (by kernel_rfl) rfl (by rfl) (fun _ _ _ h => h) h10 (fun W' hw' => by go_simp) ?_
                simp only [List.setIfInBounds_toArray, List.set_cons_zero, List.set_cons_succ]
                refine wpAnyH_done (by kernel_rfl) ?_ _
                refine NoPanic.normal ?_
                have DF := hid hD10
                clear hD10 h10 hD9 hP9 hL9 h9 hLM hLN hc10 D8 hHeld hx9 hv9 hc9
                go_wp2_with fail
                exact ⟨⟨i + 1, _, _, _, by have := HSM.out; have := HN1.out; omega, by go_num, DF, H4, HOR, HOL, hid (by have := H5.out; have := HWR.out; show z1.d.wr ≤ _; omega), hid (by show _ + (secs z1.dirty).length ≤ _; have := H6.out; have := HSM.out; omega)⟩, by have := HSM.out; have := HN1.out; simp [intOf]; omega⟩

end Go.Proofs.YtgkanfmkohlmcaaGreat
