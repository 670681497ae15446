/-
  Eligible, and the statements' own helper sameInts: what they answer.
-/
import Derived.Test.YtgkanfmkohlmcaaGreatT2
import Derived.Shelf.SlicesE.DeleteFunc
namespace Go.Proofs.YtgkanfmkohlmcaaGreat
open Go.RowKit Go.Shelf Go.Sort Go.Lib

/-- Numbers that are ints. -/
abbrev SI := { x : Int // I64 x }
instance : Inhabited SI := ⟨⟨0, by unfold I64; omega⟩⟩
def encS (x : SI) : Value := .int .i64 x.1
open Classical in
noncomputable def toS (x : Int) : SI := if h : I64 x then ⟨x, h⟩ else default
theorem toS_val {x : Int} (h : I64 x) : (toS x).1 = x := by unfold toS; rw [dif_pos h]
theorem map_toS {l : List Int} (h : ∀ x, x ∈ l → I64 x) : (l.map toS).map (·.1) = l := by
  rw [List.map_map]
  conv => rhs; rw [← List.map_id l]
  exact List.map_congr_left fun x hx => toS_val (h x hx)
theorem putRow_sub (w : World) (g : Nat) (d : Array SI) : putRow encS w g 0 d = putRow (Value.int .i64) w g 0 (d.map (·.1)) := by
  unfold putRow
  congr 1
  funext c
  unfold putCells
  congr 1
  funext k x
  rw [Array.size_map]
  by_cases h : 0 ≤ k ∧ k < 0 + d.size
  · rw [if_pos h, if_pos h]
    have h1 : k - 0 < d.size := by omega
    rw [getElem!_pos d _ h1, getElem!_pos (d.map (·.1)) _ (by simpa using h1)]
    simp [encS]
  · rw [if_neg h, if_neg h]
theorem chg_grow (w : World) (os : Array Obj) (ks : Nat → Prop) : Chg w (grow w os) ks := by
  have h := below_grown w 0 os
  exact ⟨rfl, rfl, rfl, h.size, fun k hk _ => h.block k hk⟩
theorem sortWorld_chg (w : World) (blk n : Nat) (dk : Array SI) (os : Array Obj) : Chg w (sortWorld encS w blk 0 n dk os) (· = blk) := by
  have h1 : Chg w (putRow encS (Sort.ahead w n) blk 0 dk) (· = blk) := putRow_chg dk
  exact h1.trans (chg_grow _ os No) (fun _ _ e => e) (fun _ _ e => e.elim)

variable {w : World} {c p g n : Nat} {ρ : Nat → Option Role} {z : CSt}
open Classical in
/-- Is something to land ahead of it? -/
noncomputable def notFree (z : CSt) (x : SI) : Bool := !decide (FreeE z.E x.1)
set_option maxHeartbeats 1000000 in
theorem eligC_any (x : SI) (bx : Nat) (h : IsC w c p g n ρ z) (hb : w.cell? ⟨bx, 0, none⟩ = some (.pointer (some ⟨c, 0, none⟩))) : Calls Tryz.prog 36 #[encS x, .pointer (some ⟨bx, 0, none⟩)] w fun e w' => e = .returned (.bool (notFree z x)) ∧ w = w' := by
  obtain ⟨gp, mb, go, tv, lv, h⟩ := h
  have k1 := h.c1
  have HF := free_any x.1 h.gr x.2
  have HE : Hid (∀ r : Bool, (r = true ↔ ∀ a, ¬ z.E a x.1) → notFree z x = !r) := fun r hr => by
    unfold notFree
    cases r
    · have hf : ¬ FreeE z.E x.1 := fun k => by have := hr.2 k; cases this
      simp [hf]
    · have hf : FreeE z.E x.1 := hr.1 rfl
      simp [hf]
  unfold encS
  clear h
  go_enter Tryz.func36, Tryz.ntmps36
  go_wp2_with (first
    | (go_at_call 37; go_must (refine HF.mono ?_; rintro e w1 ⟨r, rfl, hr, rfl⟩; have HR := hid (HE.out r hr); clear HF hr))
    | fail)
  go_ret
  exact ⟨D.ret_bool HR.out.symm, rfl⟩

set_option maxHeartbeats 1000000 in
theorem idx_nil (a : Option Addr) (ca : Nat) (fv : Value) (w : World) : Calls Tryz.prog 62 #[.slice a 0 ca, fv] w fun e w' => e = .returned (.int .i64 (-1)) ∧ w = w' := by
  go_enter Tryz.func62, Tryz.ntmps62
  go_wp2_with fail
  go_loopw [5, 8] (fun _ i wr => i = .int .i64 0 ∧ w = wr) (fun _ _ _ => 0)
  case atStart => exact ⟨rfl, rfl⟩
  case round =>
    obtain ⟨rfl, rfl⟩ := hrel
    go_wp2_with fail
    go_ret
    exact ⟨rfl, rfl⟩
set_option maxHeartbeats 1000000 in
theorem delf_nil (a : Option Addr) (ca : Nat) (fv : Value) (w : World) : Calls Tryz.prog 35 #[.slice a 0 ca, fv] w fun e w' => e = .returned (.slice a 0 ca) ∧ w = w' := by
  have H := idx_nil a ca fv w
  go_enter Tryz.func35, Tryz.ntmps35
  go_wp2_with (first
    | (go_at_call 62; go_must (refine H.mono ?_; rintro e w1 ⟨rfl, rfl⟩; clear H))
    | fail)
  go_ret
  exact ⟨rfl, rfl⟩
theorem drew0 (w : World) : w = w.drewN 0 := rfl
set_option maxRecDepth 100000 in
set_option maxHeartbeats 1000000 in
theorem delf_ints (bx : Nat) (base : Nat) (v : Value) (l : List Int) (hl : ∀ x, x ∈ l → I64 x) (hn : l.length ≤ 4096) (h : IsC w c p g n ρ z) (hb : w.cell? ⟨bx, 0, none⟩ = some (.pointer (some ⟨c, 0, none⟩))) (hbx : bx < w.heap.size) (hI : Ints w base v l) (hown : ∀ k, v.ownBlock = some k → ¬ Own ρ k ∧ k ≠ bx) :
    Calls Tryz.prog 35 #[v, .func (.func 36) #[] #[.pointer (some ⟨bx, 0, none⟩)]] w fun e w' => ∃ v', e = .returned v' ∧ Ints w' base v' (l.filter fun x => !notFree z (toS x)) ∧ Chg w w' (fun k => v.ownBlock = some k) := by
  have hpred : ∀ (W : World) (x : SI), IsC W c p g n ρ z → W.cell? ⟨bx, 0, none⟩ = some (.pointer (some ⟨c, 0, none⟩)) → FnGives Tryz.prog 36 #[.pointer (some ⟨bx, 0, none⟩)] #[encS x] (.bool (notFree z x)) W := fun W x hW hc => by
    refine (eligC_any x bx hW hc).mono ?_
    rintro e w' ⟨rfl, rfl⟩
    exact ⟨rfl, 0, rfl⟩
  rcases hI.2 with ⟨rfl, h0⟩ | ⟨blk, cap, cur, rfl, hge, hbk, h1, h2, h3, h4⟩
  · have : l = [] := List.eq_nil_of_length_eq_zero h0
    subst this
    refine (delf_nil none 0 _ w).mono ?_
    rintro e w' ⟨rfl, rfl⟩
    exact ⟨_, rfl, World.ownsRow_nil _ _ _ _, Chg.refl _ _⟩
  · have hO := hown blk rfl
    have hd : (l.map toS).toArray.size = l.length := by simp
    have hmv : (l.map toS).map encS = l.map (Value.int .i64) := by
      rw [List.map_map]
      refine List.map_congr_left fun x hx => ?_
      show Value.int .i64 (toS x).1 = _
      rw [toS_val (hl x hx)]
    have hH : Holds encS w blk 0 (l.map toS).toArray := row_holds hbk (by rw [hmv, List.length_map, ← h4, Nat.mul_one])
    have hp : PredAt Tryz.prog 36 #[.pointer (some ⟨bx, 0, none⟩)] encS (notFree z) w := fun W x hB => hpred W x (h.call (Chg.of_below hB No)) (cell_keep hb (Chg.of_below hB No) hbx (fun e => e))
    have hpo : PredOver Tryz.prog 36 #[.pointer (some ⟨bx, 0, none⟩)] encS (notFree z) blk 0 (l.map toS).toArray.size w := fun k os dk x _ => hpred _ x (h.keep (sortWorld_chg w blk k dk os) (fun j hj e => hO.1 (by rw [← e]; exact hj))) (cell_keep hb (sortWorld_chg w blk k dk os) hbx (fun e => hO.2 e.symm))
    have hc := AnyE.slices_DeleteFunc layDelF encS (fun _ => rfl) (notFree z) 36 #[.pointer (some ⟨bx, 0, none⟩)] (enters_of Tryz.func36 (by kernel_rfl) rfl) default Tryz.zeroValue3 blk 0 cap (l.map toS).toArray w hp hpo hH (by rw [hd]; omega) (by rw [hd]; exact h1)
    change Calls Tryz.prog 35 _ _ _ at hc
    rw [hd] at hc
    refine hc.mono ?_
    rintro e w' ⟨rfl, q, rfl⟩
    have hfl : ((l.map toS).filter fun x => !notFree z x).map (·.1) = l.filter fun x => !notFree z (toS x) := by
      rw [List.filter_map, List.map_map]
      conv => rhs; rw [← List.map_id (l.filter fun x => !notFree z (toS x))]
      exact List.map_congr_left fun x hx => toS_val (hl x (List.mem_filter.1 hx).1)
    have hfn : ((l.map toS).filter fun x => !notFree z x).length = (l.filter fun x => !notFree z (toS x)).length := by rw [← hfl, List.length_map]
    have hle : (l.filter fun x => !notFree z (toS x)).length ≤ l.length := List.length_filter_le _ _
    have hp2 := ints_put (w := w) (q := q) (l.filter fun x => !notFree z (toS x)) (List.replicate (l.length - (l.filter fun x => !notFree z (toS x)).length) 0) hge hbk (by rw [List.length_replicate]; omega) h2 h3
    refine ⟨_, rfl, ?_, (putRow_chg _).mono fun j _ e => by rw [e]; rfl⟩
    rw [putRow_sub]
    have e2 : (((l.map toS).filter fun x => !notFree z x) ++ List.replicate (l.length - ((l.map toS).filter fun x => !notFree z x).length) default).toArray.map (fun y : SI => y.1) = ((l.filter fun x => !notFree z (toS x)) ++ List.replicate (l.length - (l.filter fun x => !notFree z (toS x)).length) 0).toArray := by
      rw [List.map_toArray, List.map_append, hfl, hfn, List.map_replicate]
      rfl
    have e3 := e2
    rw [show (fun y : SI => y.1) = (·.1) from rfl] at e3
    rw [e3, hfn]
    exact hp2

open Classical in
theorem filter_secs (z : CSt) : ((secs z.dirty).filter fun x => !notFree z (toS x)) = secs fun x => z.dirty x ∧ FreeE z.E x := by
  refine rising_one _ _ ((secs_up _).filter _) (secs_up _) fun x => ?_
  rw [List.mem_filter, secs_mem, secs_mem]
  have key : Sec x → ((!notFree z (toS x)) = true ↔ FreeE z.E x) := fun hs => by
    unfold notFree
    rw [toS_val ⟨by have := hs.1; omega, by have := hs.2; omega⟩]
    simp
  constructor
  · rintro ⟨⟨h1, h2⟩, h3⟩
    exact ⟨h1, h2, (key h1).1 h3⟩
  · rintro ⟨h1, h2, h3⟩
    exact ⟨⟨h1, h2⟩, (key h1).2 h3⟩
set_option maxRecDepth 100000 in
set_option maxHeartbeats 1000000 in
theorem elig_any (h : IsC w c p g n ρ z) : Calls Tryz.prog 12 #[.pointer (some ⟨c, 0, none⟩)] w fun e w' => ∃ v, e = .returned v ∧ Ints w' w.heap.size v (secs fun x => z.dirty x ∧ FreeE z.E x) ∧ Chg w w' No := by
  have hc1 : Chg w (w.alloc (.cells #[.pointer (some ⟨c, 0, none⟩)] 29)) No := Chg.alloc _ _ _
  have HD := dirty_any (h.call hc1)
  have HC := hid hc1
  have HH := hid h
  have hk : (w.alloc (.cells #[.pointer (some ⟨c, 0, none⟩)] 29)).cell? ⟨w.heap.size, 0, none⟩ = some (.pointer (some ⟨c, 0, none⟩)) := by rw [cell_of_row _ _ _ _ _ _ (heap_alloc_new _ _)]; rfl
  have HK := hid hk
  clear hc1 h
  go_enter Tryz.func12, Tryz.ntmps12
  go_wp2_with (first
    | (go_at_call 11; go_must (refine HD.mono ?_; rintro e w1 ⟨v, rfl, hI, hc2⟩; have HI := hid hI; have HC2 := hid hc2; have HDF := delf_ints (z := z) (ρ := ρ) (n := n) (p := p) (g := g) (c := c) w.heap.size _ v (secs z.dirty) (fun x hx => by obtain ⟨h1, h2⟩ := (secs_mem.1 hx).1; exact ⟨by omega, by omega⟩) (secs_len _) (HH.out.call (HC.out.tr hc2)) (cell_keep HK.out hc2 (by simp) (fun e => e)) (by have := hc2.size; simp at this; omega) hI (fun k hk => by have h1 := (row_ge hI hk).1; simp at h1; exact ⟨fun ho => by have := HH.out.lt ho; omega, by omega⟩); clear HD hI hc2))
    | (go_at_call 35; go_must (refine HDF.mono ?_; rintro e w3 ⟨v3, rfl, hI3, hc3⟩))
    | fail)
  go_ret
  rw [filter_secs z] at hI3
  refine ⟨_, rfl, row_base hI3 (by simp), (HC.out.tr HC2.out).trans hc3 (fun _ _ e => e) (fun j hj e => ?_)⟩
  have := (row_ge HI.out e).1
  simp at this
  omega

end Go.Proofs.YtgkanfmkohlmcaaGreat
